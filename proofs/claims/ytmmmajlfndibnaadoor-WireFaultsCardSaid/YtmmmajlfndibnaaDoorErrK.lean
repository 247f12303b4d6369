/- errors.Join of two errors; what errors.as finds in it; Code and At of it. -/
import Derived.Test.YtmmmajlfndibnaaDoorErrJ
import Derived.Lib.Hide
namespace Go.Proofs.YtmmmajlfndibnaaDoor
open Go.RowKit Go.Extern.Stop Go.Stop Go.Extern

/-- a row of errors that the call owns -/
def OwnE (w : World) (base : Nat) (v : Value) (xs : List Value) : Prop := w.ownsRow base 43 1 v xs.length xs
theorem err_info : (Tryd.prog.info? 43).map (fun i => (i.zero, i.size, i.bytes)) = some (some .nilIface, 1, 16) := by kernel_rfl
theorem run_append_err {w : World} {base : Nat} {v : Value} {ds : List Value} {g : Nat} {x : Value} (ty : TypeId) (hown : OwnE w base v ds) (hx : w.cell? ⟨g, 0, none⟩ = some x) (h1 : x.oneCell' = true)
    (hsum : ds.length ≤ 1000) (hbase : base ≤ w.heap.size) :
    ∃ v' w', (Builtin.append_ #[85, 85] ty #[v, .slice (some ⟨g, 0, none⟩) 1 1]).run Tryd.prog w = .ok v' w' ∧ OwnE w' base v' (ds ++ [x]) ∧ w.grownBy w' v.ownBlock ∧ (v'.ownBlock = v.ownBlock ∨ v'.ownBlock = some w.heap.size) := by
  obtain ⟨i0, hi, hz0, hz1, hz2⟩ := info_parts err_info
  unfold OwnE at *
  obtain ⟨v', w', r1, r2, r3, _, r5⟩ := run_append_own_at (P := Tryd.prog) w base 85 ty 43 i0 _ 1 16 Tryd.underlying85 hi hz0 hz1 hz2 rfl (by omega) v ds.length _ hown ⟨g, 0, none⟩ 1 1 [x] rfl (fun j u hu => by
      match j, hu with
      | 0, hu => simp at hu; subst hu; simpa [Addr.add] using hx) (fun u hu => by simp at hu; subst hu; exact h1) (by simp only [maxLen]; omega) (by omega) hbase
  exact ⟨v', w', r1, by simpa using r2, r3, r5⟩
theorem wpList_append_err {w : World} {ops : Array Oper} {rest : List Oper} {o : Oper} {a : Act} {Q : Exit → Act → World → Prop} (hgd : o.guard = none) (s x : Operand)
    (ho : o.op = .call { callee := .builtin .append, args := #[s, x], argTypes := #[85, 85] })
    {base : Nat} {v : Value} {ds : List Value} {g : Nat} {y : Value} (hs : a.eval s = v) (hx : a.eval x = .slice (some ⟨g, 0, none⟩) 1 1) (hown : OwnE w base v ds) (hy : w.cell? ⟨g, 0, none⟩ = some y) (h1 : y.oneCell' = true)
    (hsum : ds.length ≤ 1000) (hbase : base ≤ w.heap.size)
    (h : ∀ v' w', OwnE w' base v' (ds ++ [y]) → w.grownBy w' v.ownBlock → (v'.ownBlock = v.ownBlock ∨ v'.ownBlock = some w.heap.size) → wpList Tryd.prog ops Q rest (a.put o.dst v') w') : wpList Tryd.prog ops Q (o :: rest) a w := by
  refine wpList_plain hgd fun K hK => ?_
  obtain ⟨v', w', hrun, h2, h3, h4⟩ := run_append_err (w := w) o.type hown hy h1 hsum hbase
  unfold Oper.wp
  simp [execOp, ho, resolve, invoke, builtin, hs, hx, hrun, Result.andThen]
  exact hK _ _ (h v' w' h2 h3 h4)

/-- what joins two errors: their row, and its place -/
def Joined (w : World) (j : Nat) (e1 e2 : Value) : Prop := ∃ m cap, w.cell? ⟨j, 0, none⟩ = some (.slice (some ⟨m, 0, none⟩) 2 cap) ∧ w.cell? ⟨m, 0, none⟩ = some e1 ∧ w.cell? ⟨m, 1, none⟩ = some e2
theorem Joined.lt {w : World} {j : Nat} {e1 e2 : Value} (h : Joined w j e1 e2) : j < w.heap.size := by
  obtain ⟨m, cap, h1, _⟩ := h
  exact cell_lt h1
theorem Joined.below {w w' : World} {j : Nat} {e1 e2 : Value} (h : Joined w j e1 e2) (hb : Below w.heap.size w w') : Joined w' j e1 e2 := by
  obtain ⟨m, cap, h1, h2, h3⟩ := h
  exact ⟨m, cap, (hb.cell (p := ⟨j, 0, none⟩) (cell_lt h1)).trans h1, (hb.cell (p := ⟨m, 0, none⟩) (cell_lt h2)).trans h2, (hb.cell (p := ⟨m, 1, none⟩) (cell_lt h3)).trans h3⟩

theorem made_two (w : World) : (Instr.makeSlice 85 (.int .i64 0) (.int .i64 2)).run Tryd.prog w = .ok (.slice (some ⟨w.heap.size, 0, none⟩) 0 2) (w.alloc (.cells #[.nilIface, .nilIface] 43)) := by kernel_rfl
theorem OwnE.slice {w : World} {base : Nat} {v : Value} {xs : List Value} (h : OwnE w base v xs) {n : Nat} (hx : xs.length = n) (hn : 0 < n) : ∃ g cap, v = .slice (some ⟨g, 0, none⟩) n cap := by
  subst hx
  obtain ⟨_, ⟨_, e⟩ | ⟨g', cap', cur, e, _⟩⟩ := h
  · omega
  · exact ⟨g', cap', e⟩
theorem OwnE.alloc {w : World} {base : Nat} {v : Value} {xs : List Value} (h : OwnE w base v xs) (o : Obj) : OwnE (w.alloc o) base v xs := World.ownsRow.alloc h o
/-- a box of errors at block g -/
structure Bx (W : World) (base g : Nat) (xs : List Value) : Prop where
  lo : base ≤ g
  hs : base ≤ W.heap.size
  cell : ∃ v, W.heap[g]? = some (.cells #[v] 88 (0, 0)) ∧ OwnE W base v xs ∧ v.ownBlock ≠ some g
theorem Bx.stored {wr wa w1 : World} {base g : Nat} {ds es : List Value} (hw : Bx wr base g ds) {v v1 : Value} (hv : wr.heap[g]? = some (.cells #[v] 88 (0, 0))) (own : OwnE wr base v ds) (hne : v.ownBlock ≠ some g)
    (own1 : OwnE w1 base v1 (ds ++ es)) (ha : Below wr.heap.size wr wa) (gr : wa.grownBy w1 v.ownBlock) (at1 : v1.ownBlock = v.ownBlock ∨ v1.ownBlock = some wa.heap.size) :
    w1.heap[g]? = some (.cells #[v] 88 (0, 0)) ∧ Bx (w1.setCell ⟨g, 0, none⟩ v1) base g (ds ++ es) ∧ Below base wr (w1.setCell ⟨g, 0, none⟩ v1) ∧
      (w1.setCell ⟨g, 0, none⟩ v1).heap[g]? = some (.cells #[v1] 88 (0, 0)) ∧ OwnE (w1.setCell ⟨g, 0, none⟩ v1) base v1 (ds ++ es) ∧ v1.ownBlock ≠ some g := by
  have hg := heap_lt hv
  have h1 : w1.heap[g]? = some (.cells #[v] 88 (0, 0)) := (gr.block g (Nat.lt_of_lt_of_le hg ha.size) (fun e => hne e.symm)).trans ((ha.block g hg).trans hv)
  have hne1 : v1.ownBlock ≠ some g := by
    rcases at1 with e | e
    · rw [e]; exact hne
    · rw [e]; intro h; injection h with h; have := ha.size; omega
  have hb : Below base wr w1 := (ha.mono hw.hs).grown gr (Nat.le_trans hw.hs ha.size) (fun k hk => (World.ownsRow.lt own k hk).1)
  refine ⟨h1, ⟨hw.lo, ?_, ⟨v1, by rw [heap_setCell_same h1]; rfl, ownsRow_setCell_other own1 hne1 v1, hne1⟩⟩, hb.setCell hw.lo _, by rw [heap_setCell_same h1]; rfl, ownsRow_setCell_other own1 hne1 v1, hne1⟩
  have := hb.size; have := hw.hs; simp only [World.setCell]; simp; omega

set_option maxRecDepth 100000 in
set_option maxHeartbeats 2000000 in
theorem join_two (t1 t2 : TypeId) (v1 v2 : Value) (s o cap : Nat) (w : World) (h1 : w.cell? ⟨s, o, none⟩ = some (.iface t1 v1)) (h2 : w.cell? ⟨s, o + 1, none⟩ = some (.iface t2 v2)) :
    Calls Tryd.prog 23 #[.slice (some ⟨s, o, none⟩) 2 cap] w fun e w' => ∃ j, e = .returned (ejoin ⟨j, 0, none⟩) ∧ Joined w' j (.iface t1 v1) (.iface t2 v2) ∧ Below w.heap.size w w' := by
  have hn1 := fun w => run_neq_held_nil (P := Tryd.prog) w 43 t1 v1 (by kernel_rfl)
  have hn2 := fun w => run_neq_held_nil (P := Tryd.prog) w 43 t2 v2 (by kernel_rfl)
  have hmk := made_two w
  have own0 : OwnE (w.alloc (.cells #[.nilIface, .nilIface] 43)) w.heap.size (.slice (some ⟨w.heap.size, 0, none⟩) 0 2) [] := World.ownsRow_made w #[.nilIface, .nilIface] 2 (Nat.le_refl _) (by decide) rfl
  have bx0 : Bx ((w.alloc (.cells #[.nilIface, .nilIface] 43)).alloc (.cells #[.slice (some ⟨w.heap.size, 0, none⟩) 0 2] 88)) w.heap.size (w.heap.size + 1) [] :=
    ⟨by omega, by simp; omega, ⟨_, by have := heap_new (w.alloc (.cells #[.nilIface, .nilIface] 43)) (.cells #[.slice (some ⟨w.heap.size, 0, none⟩) 0 2] 88); simpa only [World.size_alloc] using this, World.ownsRow.alloc own0 _, by simp [Value.ownBlock]⟩⟩
  have b0 : Below w.heap.size w ((w.alloc (.cells #[.nilIface, .nilIface] 43)).alloc (.cells #[.slice (some ⟨w.heap.size, 0, none⟩) 0 2] 88)) := ((Below.refl _ _).alloc (Nat.le_refl _) _).alloc (by simp) _
  have hl1 := cell_lt h1
  have hl2 := cell_lt h2
  have HB0 := Lib.hid bx0
  have HB := Lib.hid b0
  have H1 := Lib.hid h1
  have H2 := Lib.hid h2
  clear own0 bx0 b0
  unfold ejoin
  go_enter Tryd.func23, Tryd.ntmps23
  go_wp2
  refine wp_loop_rounds 3 ?_
  rw [rounds_succ]
  go_wp2
  rw [rounds_succ]
  go_wp2
  rw [rounds_succ]
  go_wp2
  generalize hW0 : (w.alloc (.cells #[.nilIface, .nilIface] 43)).alloc (.cells #[.slice (some ⟨w.heap.size, 0, none⟩) 0 2] 88) = W0 at *
  clear h1 h2 hmk
  have bx := HB0.out
  obtain ⟨v, hv, own, hne⟩ := bx.cell
  have hc := cell_of_heap hv 0
  simp only [List.getElem?_toArray, List.getElem?_cons_zero] at hc
  have HV := Lib.hid hv
  have g1 := (HB.out.cell (p := ⟨s, o, none⟩) hl1).trans H1.out
  have hW := Lib.hid hW0
  clear hW0 hv
  refine wp_loop_rounds 3 ?_
  rw [rounds_succ]
  go_wp2_with (first
    | (at_builtin
       refine wpList_append_err rfl (.tmp 38) (.tmp 40) rfl (v := v) (base := w.heap.size) (ds := []) rfl rfl (own.alloc _) (y := .iface t1 v1) (by rw [World.cell?_alloc_at _ _ _ _ rfl]; rfl) rfl (by simp) (Nat.le_trans bx.hs (by simp)) ?_
       intro u1 w1 own1 gr1 at1
       obtain ⟨A1, c1, rfl⟩ := own1.slice (n := 1) rfl (by decide)
       obtain ⟨hv1, bx2, hb1, hv', own', hne'⟩ := bx.stored HV.out own hne own1 ((Below.refl _ _).alloc (Nat.le_refl _) _) gr1 at1
       have hc1 := cell_of_heap hv1 0
       have hf1 := frozen_of_heap hv1 0
       have HE := Lib.hid (HB.out.trans hb1)
       simp only [List.getElem?_toArray, List.getElem?_cons_zero] at hc1
       have g2 := (HE.out.cell (p := ⟨s, o + 1, none⟩) hl2).trans H2.out
       have HV' := Lib.hid hv'
       clear gr1 at1 own1 hb1 hv1 hv')
    | fail)
  generalize hW2 : w1.setCell ⟨w.heap.size + 1, 0, none⟩ (.slice (some ⟨A1, 0, none⟩) 1 c1) = W2 at *
  have hcc := cell_of_heap HV'.out 0
  have hff := frozen_of_heap HV'.out 0
  simp only [List.getElem?_toArray, List.getElem?_cons_zero] at hcc
  clear hW2 hc1 hf1 hc g1
  rw [rounds_succ]
  go_wp2_with (first
    | (at_builtin
       refine wpList_append_err rfl (.tmp 38) (.tmp 40) rfl (v := .slice (some ⟨A1, 0, none⟩) 1 c1) (base := w.heap.size) (ds := [] ++ [.iface t1 v1]) rfl rfl (own'.alloc _) (y := .iface t2 v2) (by rw [World.cell?_alloc_at _ _ _ _ rfl]; rfl) rfl (by simp) (Nat.le_trans bx2.hs (by simp)) ?_
       intro u3 w3 own3 gr3 at3
       obtain ⟨A3, c3, rfl⟩ := own3.slice (n := 2) rfl (by decide)
       obtain ⟨hv3, -, hb3, hv5, own5, -⟩ := bx2.stored HV'.out own' hne' own3 ((Below.refl _ _).alloc (Nat.le_refl _) _) gr3 at3
       have hc3 := cell_of_heap hv3 0
       have hf3 := frozen_of_heap hv3 0
       have HV5 := Lib.hid hv5
       have HE3 := Lib.hid (HE.out.trans hb3)
       simp only [List.getElem?_toArray, List.getElem?_cons_zero] at hc3
       clear gr3 at3 own3 hb3 hv3 hv5)
    | fail)
  rw [rounds_succ]
  go_wp2
  go_ret
  have e5 := cell_of_heap HV5.out 0
  simp only [List.getElem?_toArray, List.getElem?_cons_zero] at e5
  refine ⟨_, rfl, ⟨A3, c3, e5, ?_, ?_⟩, HE3.out⟩
  · exact World.ownsRow.cellAt own5 0 (by simp)
  · exact World.ownsRow.cellAt own5 1 (by simp)
end Go.Proofs.YtmmmajlfndibnaaDoor
