/- The program's records: read, Decode. -/
import Derived.Test.YtmjgpgnecohbcaaAlgE
import Derived.Test.YtmjgpgnecohbcaaRes
import Derived.Test.YtmjgpgnecohbcaaMgB
import Derived.Deep.RegionWith
import Derived.Deep.CutRange
import Derived.Deep.DeepCutAuto
import Derived.Great.BuildSlice
import Derived.Great.Walk
import Derived.Deep.MidRow
import Derived.Laws.Tables
import Derived.Laws.CopyRow
namespace Go.Proofs.Ytmjgpgnecohbcaa
open Go.RowKit Go.Great

/-- four numbers of which the first ones are these -/
def arr4 (vs : List Nat) : Array Value := ((vs ++ List.replicate (4 - vs.length) 0).map fun n : Nat => Value.int .i64 (n : Int)).toArray
theorem arr4_set {vs : List Nat} {k : Nat} (hk : vs.length = k) (h : k < 4) (x : Nat) : (arr4 vs).setIfInBounds k (.int .i64 (x : Int)) = arr4 (vs ++ [x]) := by
  unfold arr4
  subst hk
  have e : 4 - vs.length = (4 - (vs ++ [x]).length) + 1 := by simp; omega
  rw [e, List.replicate_succ]
  simp
theorem arr4_cell {vs : List Nat} (h : vs.length ≤ 4) {j : Nat} (hj : j < 4) : ∃ n : Nat, (arr4 vs)[j]? = some (.int .i64 (n : Int)) := by
  refine ⟨(vs ++ List.replicate (4 - vs.length) 0)[j]'(by simp; omega), ?_⟩
  unfold arr4
  rw [List.getElem?_toArray, List.getElem?_map, List.getElem?_eq_getElem (by simp; omega)]
  rfl
theorem quatre {vs : List Nat} (h : vs.length = 4) : ∃ a b c d, vs = [a, b, c, d] := by
  match vs, h with
  | [a, b, c, d], _ => exact ⟨a, b, c, d, rfl⟩
theorem arr4_cells {W : World} {g : Nat} {t : TypeId} {m : Nat × Nat} {a b c d : Nat} (h : W.heap[g]? = some (.cells (arr4 [a, b, c, d]) t m)) :
    W.cell? ⟨g, 0, none⟩ = some (.int .i64 (a : Int)) ∧ W.cell? ⟨g, 1, none⟩ = some (.int .i64 (b : Int)) ∧ W.cell? ⟨g, 2, none⟩ = some (.int .i64 (c : Int)) ∧ W.cell? ⟨g, 3, none⟩ = some (.int .i64 (d : Int)) :=
  ⟨cell_of_heap h 0, cell_of_heap h 1, cell_of_heap h 2, cell_of_heap h 3⟩
/-- an empty record's cells -/
def zrec : Array Value := #[.int .i64 0, .int .i64 0, .int .i64 0, .int .i64 0, .slice none 0 0]
def Rc.zero : Rc := ⟨0, 0, 0, 0, []⟩
theorem zrec_is : Value.agg zrec = rcv Rc.zero none 0 0 := rfl
/-- the error that alog tells -/
def afault : Value := .iface 129 (.agg #[.int .i64 2])
/-- what read tells: an error, and there is no record; or one, which may be if it is one -/
def ReadT (bs : List Nat) (w w' : World) (rv er : Value) : Prop :=
  ((∃ c p : Int, er = fault c p) ∧ dec bs = none) ∨
  (er = .nilIface ∧ ∃ r A c, rv = rcv r A r.val.length c ∧ Own w' w.heap.size (.slice A r.val.length c) r.val ∧ r.byte ∧ r.val.length ≤ 2048 ∧ dec bs = if r.may then some r else none)
/-- the rest of what stands in bytes, from a place on, ns having been read -/
def Rest (R : Option (List Nat × Nat)) (bs ns : List Nat) (p : Nat) : Prop := R = (rdN bs (4 - ns.length) p).map fun x => (ns ++ x.1, x.2)

set_option maxRecDepth 100000 in
theorem pass_err (g : Nat) (bs : List Nat) (p size c : Nat) (w : World) (hr : Rd w g bs p) (hc : c ≠ 0) :
    Calls Try.prog 107 #[.pointer (some ⟨g, 0, none⟩), .int .i64 (size : Int), .int .i64 (c : Int)] w fun e w' => e = .returned (fault (c : Int) (p : Int)) ∧ w' = w := by
  obtain ⟨A, n, cap, hg, -⟩ := hr
  have c0 := cell_of_heap hg 0
  have c1 := cell_of_heap hg 1
  simp only [List.getElem?_toArray, List.getElem?_cons_zero, List.getElem?_cons_succ] at c0 c1
  have hci : ¬ (c : Int) = 0 := by omega
  clear hg
  unfold fault
  go_enter Try.func107, Try.ntmps107
  go_wp2
  go_ret
  exact ⟨rfl, rfl⟩
set_option maxRecDepth 100000 in
theorem end_keep (g : Nat) (bs : List Nat) (p : Nat) (w : World) (hr : Rd w g bs p) :
    Calls Try.prog 92 #[.pointer (some ⟨g, 0, none⟩)] w fun e w' => e = .returned (if p < bs.length then fault 2 (p : Int) else .nilIface) ∧ Below w.heap.size w w' := by
  have hle := hr.le
  by_cases hp : p < bs.length
  · rw [if_pos hp]
    go_enter Try.func92, Try.ntmps92
    go_wp2_with fail
    refine (left_any g bs p w hr).mono ?_
    rintro e w1 ⟨rfl, hb⟩
    have hr1 := hr.below hb
    have hpos : 0 < ((bs.length - p : Nat) : Int) := by omega
    generalize ((bs.length - p : Nat) : Int) = L at *
    go_wp2_with fail
    refine (pass_err g bs p 0 2 w1 hr1 (by omega)).mono ?_
    rintro e w2 ⟨rfl, rfl⟩
    go_wp2
    go_ret
    exact ⟨rfl, hb⟩
  · rw [if_neg hp]
    go_enter Try.func92, Try.ntmps92
    go_wp2_with fail
    refine (left_any g bs p w hr).mono ?_
    rintro e w1 ⟨rfl, hb⟩
    have hz : ((bs.length - p : Nat) : Int) = 0 := by omega
    rw [hz]
    go_wp2
    go_ret
    exact ⟨rfl, hb⟩
set_option maxRecDepth 100000 in
set_option maxHeartbeats 4000000 in
theorem read_any (g : Nat) (bs : List Nat) (w : World) (hr : Rd w g bs 0) :
    Calls Try.prog 78 #[.pointer (some ⟨g, 0, none⟩)] w fun e w' => ∃ rv er, e = .returned (.tuple #[rv, er]) ∧ (∃ r A n c, rv = rcv r A n c) ∧ ReadT bs w w' rv er ∧ Off g w w' := by
  have hgl := hr.lt
  have HR0 := Lib.hid hr
  clear hr
  obtain ⟨R0, hR0⟩ : ∃ R, rdN bs 4 0 = R := ⟨_, rfl⟩
  have HR00 := Lib.hid hR0
  clear hR0
  have ha1 := push_two_old w (.cells zrec 52) (.cells (arr4 []) 111)
  have ha2 := push_two_new w (.cells zrec 52) (.cells (arr4 []) 111)
  have hb0 : Below w.heap.size w ((w.alloc (.cells zrec 52)).alloc (.cells (arr4 []) 111)) := ((Below.refl _ _).alloc (Nat.le_refl _) _).alloc (by simp) _
  have HA1 := Lib.hid ha1
  have HA2 := Lib.hid ha2
  have HB0 := Lib.hid hb0
  clear ha1 ha2 hb0
  go_enter Try.func78, Try.ntmps78
  go_wp2_with fail
  go_loopw [10] (fun i wr => ∃ (ns : List Nat) (p : Nat), ns.length ≤ 4 ∧ i = .int .i64 (ns.length : Nat) ∧ Rd wr g bs p ∧ Rest R0 bs ns p ∧ Off g w wr ∧
    wr.heap[w.heap.size]? = some (.cells zrec 52 (0, 0)) ∧ wr.heap[w.heap.size + 1]? = some (.cells (arr4 ns) 111 (0, 0))) (fun i _ => 4 - (intOf i).toNat)
  case atStart => exact ⟨[], 0, by simp, rfl, HR0.out.below HB0.out, by unfold Rest; rw [← HR00.out]; show rdN bs 4 0 = (rdN bs 4 0).map _; cases rdN bs 4 0 <;> rfl, Off.of_below HB0.out, HA1.out, HA2.out⟩
  case round =>
    obtain ⟨ns, p, hns, rfl, hrd, hrest, hof, h1, h2⟩ := hrel
    rename_i wr
    have HRT := Lib.hid hrest
    have HOF := Lib.hid hof
    have H1 := Lib.hid h1
    have H2 := Lib.hid h2
    have HRD := Lib.hid hrd
    have hle := hrd.le
    clear hrest hof h1 h2 hrd
    generalize hk : ns.length = k at *
    have HVK := Lib.hid hk
    clear hk
    by_cases hk : k < 4
    · have hsm := rsmall_any g bs p 1099511627776 (by decide) wr HRD.out
      have hrest := HRT.out
      unfold Rest at hrest
      obtain ⟨m, hm⟩ : ∃ m, 4 - k = m + 1 := ⟨4 - k - 1, by omega⟩
      rw [HVK.out, hm, rdN] at hrest
      have HM := Lib.hid hm
      clear HRT hm
      generalize sml (bs.drop p) 1099511627776 = S at *
      obtain ⟨x, sz, c⟩ := S
      simp only at hsm hrest
      have HRT := Lib.hid hrest
      clear hrest
      by_cases hc : c = 0
      · subst hc
        have he : errv 0 p = .nilIface := rfl
        rw [he] at hsm
        have HNX := Lib.hid hsm
        clear hsm he
        go_wp2_with (first
          | (go_at_call 90; refine HNX.out.mono ?_; rintro e w2 ⟨rfl, hr2, o2⟩
             have HR2 := Lib.hid hr2
             have HO2 := Lib.hid o2
             have hx1 := (o2.rest w.heap.size (heap_lt H1.out) (by omega)).trans H1.out
             have hx2 := (o2.rest (w.heap.size + 1) (heap_lt H2.out) (by omega)).trans H2.out
             have hcl := (cell_of_heap hx2 k)
             obtain ⟨z, hz⟩ := arr4_cell (vs := ns) (j := k) (by have := HVK.out; omega) hk
             rw [hz] at hcl
             have hfr := frozen_of_heap hx2 k
             have HX1 := Lib.hid hx1
             have HX2 := Lib.hid hx2
             clear hx1 hx2 hr2 o2 hz)
          | fail)
        have hrn2 := HRT.out
        simp only [ne_eq, not_true_eq_false, if_false] at hrn2
        refine ⟨⟨ns ++ [x], p + sz, by rw [List.length_append, HVK.out]; simp; omega, by rw [List.length_append, HVK.out]; simp, HR2.out.off ((Off.refl (w.heap.size + 1) w2).setCell k _) (by omega), ?_, (HOF.out.trans HO2.out).new (by omega) _ _, ?_, ?_⟩, by simp [intOf]; omega⟩
        · unfold Rest
          rw [hrn2, show 4 - (ns ++ [x]).length = m by rw [List.length_append, HVK.out]; have := HM.out; simp; omega, Option.map_map]
          congr 1
          funext y
          simp
        · exact (Below.heap_setCell w2 ⟨w.heap.size + 1, k, none⟩ _ w.heap.size (by simp)).trans HX1.out
        · rw [heap_setCell_same HX2.out, arr4_set HVK.out hk]
      · have he : errv c p = fault (c : Int) (p : Int) := if_neg hc
        rw [he] at hsm
        have HNX := Lib.hid hsm
        have hdn : dec bs = none := by
          unfold dec
          rw [HR00.out, HRT.out, if_pos hc]
          rfl
        have HDN := Lib.hid hdn
        clear hsm he hdn HRT
        unfold fault at *
        go_upto_region 7 with (first
          | (go_at_call 90; refine HNX.out.mono ?_; rintro e w2 ⟨rfl, hr2, o2⟩
             have HO2 := Lib.hid o2
             have hx1 := (o2.rest w.heap.size (heap_lt H1.out) (by omega)).trans H1.out
             have HX1 := Lib.hid hx1
             clear hx1 hr2 o2)
          | fail)
        apply wp_region_lit
        refine wpList_buildTo rfl 52 _ rfl (some 20) rfl zrec (by kernel_rfl) ?_
        refine wpList_runTo rfl (some 21) rfl (.iface 172 (.agg #[.int .i64 (c : Int), .int .i64 (p : Int)])) w2 (by kernel_rfl) ?_
        refine wpList_store_rowTo rfl 52 _ _ rfl rfl w.heap.size zrec rfl rfl 52 zrec HX1.out (by kernel_rfl) rfl (by kernel_rfl) ?_
        rw [setRow_self _ _ _ _ _ HX1.out]
        refine wpList_runTo rfl (some 3) rfl (.iface 172 (.agg #[.int .i64 (c : Int), .int .i64 (p : Int)])) w2 (by kernel_rfl) ?_
        apply wpList_nil
        go_wp2
        refine bodyPost_ret (results_row_tmp (p := 2) (u := 3) (ty := 52) rfl _ _ _ w.heap.size _ zrec _ _ _ rfl rfl HX1.out Try.underlying52 rfl (by kernel_rfl)) rfl ?_
        exact ⟨_, _, rfl, ⟨Rc.zero, none, 0, 0, rfl⟩, .inl ⟨⟨c, p, rfl⟩, HDN.out⟩, HOF.out.trans HO2.out⟩
    · have hk' : k = 4 := by omega
      subst hk'
      have hrest := HRT.out
      unfold Rest at hrest
      rw [HVK.out, show 4 - 4 = 0 from rfl, rdN] at hrest
      simp only [Option.map_some, List.append_nil] at hrest
      have hby := rbytes_any g bs p 2048 (by decide) wr HRD.out
      have hdec : dec bs = rdV bs ns p := by
        unfold dec
        rw [HR00.out, hrest]
      unfold rdV at hdec
      have hrb : ∀ v k, tak (bs.drop p) 2048 = (v, k, 0) → v.length ≤ 2048 ∧ ∀ c ∈ v, c < 256 := fun v k h => (fun h => ⟨h.2.1, h.2.2.2⟩) (tak_back (fun c hc => HRD.out.byte c (List.mem_of_mem_drop hc)) h)
      generalize tak (bs.drop p) 2048 = S at *
      obtain ⟨val, sz, c⟩ := S
      simp only at hby hdec
      have HDEC := Lib.hid hdec
      have HRB := Lib.hid hrb
      have hgs : w.heap.size + 1 < wr.heap.size := heap_lt H2.out
      clear hdec hrest HRT hrb
      by_cases hc : c = 0
      · subst hc
        obtain ⟨hval, hvb⟩ := HRB.out val sz rfl
        have HVB := Lib.hid hvb
        have he : errv 0 p = .nilIface := rfl
        rw [he] at hby
        have HNX := Lib.hid hby
        obtain ⟨a0, b0, c0, d0, hvs⟩ := quatre HVK.out
        clear hby he HRB hvb
        go_wp2_with fail
        refine HNX.out.mono ?_
        rintro e w2 ⟨v, rfl, own, hr2, o2⟩
        obtain ⟨A, cc, rfl, -⟩ := own.row (by omega) HVB.out
        have HOWN := Lib.hid own
        have HO2 := Lib.hid o2
        have hx1 := (o2.rest w.heap.size (heap_lt H1.out) (by omega)).trans H1.out
        have hx2 := (o2.rest (w.heap.size + 1) (heap_lt H2.out) (by omega)).trans H2.out
        rw [hvs] at hx2
        have hs2 := o2.size
        obtain ⟨ER, hER⟩ : ∃ ER, ER = (if p + sz < bs.length then fault 2 ((p + sz : Nat) : Int) else .nilIface) := ⟨_, rfl⟩
        have hend := fun w (h : Rd w g bs (p + sz)) => end_keep g bs (p + sz) w h
        rw [← hER] at hend
        have HER := Lib.hid hER
        have HX1 := Lib.hid hx1
        have HLE2 := Lib.hid hr2.le
        have TE := Lib.hid fun (W : World) (h : Kept w2.drew W) => hend W (hr2.below ((Kept.refl w2).drew.trans h).1)
        have T1 := Lib.hid fun (W : World) (h : Kept w2.drew W) => arr4_cells ((((Kept.refl w2).drew.trans h).1.block _ (heap_lt hx2)).trans hx2)
        clear hend hER hr2 o2 own hx1 hx2
        go_wp2_with fail
        refine wp_region_typed (N := 13) (fl := []) (by kernel_rfl) (by kernel_rfl) ?_
        simp only [List.take_succ_cons, List.take_zero, List.drop_succ_cons, List.drop_zero, List.map_cons, List.map_nil, zipF]
        repeat (first
          | (refine wpT_skip rfl ?_; dsimp only [putS, List.set_cons_succ, List.set_cons_zero])
          | (refine wpT_slot (S := .is _) _ (.inl rfl) rfl (Slot.mono_is _) rfl ?_; dsimp only [putS, List.set_cons_succ, List.set_cons_zero])
          | (refine wpT_slot (S := .is _) _ (.inr rfl) rfl (Slot.mono_is _) rfl ?_; dsimp only [putS, List.set_cons_succ, List.set_cons_zero])
          | (refine wpT_exact1 rfl rfl rfl ?_; apply Exists.intro; refine ⟨fun ρ w hk ⟨c1, c2, c3⟩ h1 => ?_, ?_⟩; (· have t1 := (T1.out w hk).1; have t2 := (T1.out w hk).2.1; have t3 := (T1.out w hk).2.2.1; have t4 := (T1.out w hk).2.2.2; go_simp; exact rfl); dsimp only [putS, List.set_cons_succ, List.set_cons_zero])
          | (refine wpT_exact2 rfl rfl rfl rfl ?_; apply Exists.intro; refine ⟨fun ρ w hk ⟨c1, c2, c3⟩ h1 h2 => ?_, ?_⟩; (· have t1 := (T1.out w hk).1; have t2 := (T1.out w hk).2.1; have t3 := (T1.out w hk).2.2.1; have t4 := (T1.out w hk).2.2.2; go_simp; exact rfl); dsimp only [putS, List.set_cons_succ, List.set_cons_zero])
          | (refine wpT_exact3 rfl rfl rfl rfl rfl ?_; apply Exists.intro; refine ⟨fun ρ w hk ⟨c1, c2, c3⟩ h1 h2 h3 => ?_, ?_⟩; (· have t1 := (T1.out w hk).1; have t2 := (T1.out w hk).2.1; have t3 := (T1.out w hk).2.2.1; have t4 := (T1.out w hk).2.2.2; go_simp; exact rfl); dsimp only [putS, List.set_cons_succ, List.set_cons_zero])
          | (refine wpT_exact4 rfl rfl rfl rfl rfl rfl ?_; apply Exists.intro; refine ⟨fun ρ w hk ⟨c1, c2, c3⟩ h1 h2 h3 h4 => ?_, ?_⟩; (· have t1 := (T1.out w hk).1; have t2 := (T1.out w hk).2.1; have t3 := (T1.out w hk).2.2.1; have t4 := (T1.out w hk).2.2.2; go_simp; exact rfl); dsimp only [putS, List.set_cons_succ, List.set_cons_zero])
          | (refine wpT_exact0 rfl ?_; apply Exists.intro; refine ⟨fun ρ w hk ⟨c1, c2, c3⟩ => ?_, ?_⟩; (· have t1 := (T1.out w hk).1; have t2 := (T1.out w hk).2.1; have t3 := (T1.out w hk).2.2.1; have t4 := (T1.out w hk).2.2.2; go_simp; exact rfl); dsimp only [putS, List.set_cons_succ, List.set_cons_zero])
          | (refine wpT_is ER rfl (fun ρ w hk ⟨c1, c2, c3⟩ ⟨h1, _⟩ => ?_) ?_
             · have h1 : ρ (.tmp 46) = _ := h1
               refine upT_call 92 #[.pointer (some ⟨g, 0, none⟩)] ?_ ((TE.out w hk).mono ?_)
               · go_simp
               rintro e u ⟨rfl, hb⟩
               exact ⟨_, rfl, ⟨hb, hb.size⟩, rfl⟩
             dsimp only [putS, List.set_cons_succ, List.set_cons_zero]))
        refine wpT_nil ?_
        intro wz kz
        simp only [Fits]
        have kz' : Kept w2 wz := ((Kept.refl w2).drew).trans kz
        have hy1 := (kz'.1.block _ (heap_lt HX1.out)).trans HX1.out
        have z0 := cell_of_heap hy1 0; have z1 := cell_of_heap hy1 1; have z2 := cell_of_heap hy1 2; have z3 := cell_of_heap hy1 3; have z4 := cell_of_heap hy1 4; have f0 := frozen_of_heap hy1 0; have f1 := frozen_of_heap hy1 1; have f2 := frozen_of_heap hy1 2; have f3 := frozen_of_heap hy1 3; have f4 := frozen_of_heap hy1 4; simp only [zrec, List.getElem?_toArray, List.getElem?_cons_zero, List.getElem?_cons_succ] at z0 z1 z2 z3 z4
        have HY1 := Lib.hid hy1
        have KZ := Lib.hid kz'
        clear hy1 kz kz'
        go_wp2_with fail
        refine only_end ?_
        go_wp2
        refine bodyPost_ret (results_row_tmp (p := 2) (u := 3) (ty := 52) rfl _ _ _ w.heap.size 52 #[.int .i64 (a0 : Int), .int .i64 (b0 : Int), .int .i64 (c0 : Int), .int .i64 (d0 : Int), .slice A val.length cc] (0, 0) _ ER rfl rfl ?_ Try.underlying52 rfl (by kernel_rfl)) rfl ?_
        · refine Eq.trans (by with_reducible exact (heap_setCell_same (heap_setCell_same (heap_setCell_same (heap_setCell_same (heap_setCell_same HY1.out _) _) _) _) _)) ?_
          kernel_rfl
        · refine ⟨_, _, rfl, ⟨⟨a0, b0, c0, d0, val⟩, A, val.length, cc, rfl⟩, ?_, (((((((HOF.out.trans HO2.out).trans (Off.of_below KZ.out.1)).new (Nat.le_refl _) _ _).new (Nat.le_refl _) _ _).new (Nat.le_refl _) _ _).new (Nat.le_refl _) _ _).new (Nat.le_refl _) _ _)⟩
          by_cases hp : p + sz < bs.length
          · refine .inl ⟨⟨2, _, by rw [HER.out, if_pos hp]⟩, ?_⟩
            rw [HDEC.out, if_neg (by simp), if_pos (by omega)]
          · have hpe : p + sz = bs.length := by have := HLE2.out; omega
            have hrc : rcOf ns val = ⟨a0, b0, c0, d0, val⟩ := by rw [hvs]; rfl
            have o1 : Own wz w.heap.size (.slice A val.length cc) val := (own_base HOWN.out (Nat.le_of_lt (Nat.lt_of_succ_lt hgs))).below KZ.out.1
            have hfar : (Value.slice A val.length cc).ownBlock ≠ some w.heap.size := fun h => by
              have := (World.ownsRow.lt HOWN.out _ h).1
              omega
            refine .inr ⟨by rw [HER.out, if_neg hp], ⟨a0, b0, c0, d0, val⟩, A, cc, rfl, ((((o1.far hfar _).far hfar _).far hfar _).far hfar _).far hfar _, HVB.out, hval, ?_⟩
            rw [HDEC.out, if_neg (by simp), if_neg (by omega), hrc]
      · have he : errv c p = fault (c : Int) (p : Int) := if_neg hc
        rw [he] at hby
        have HNX := Lib.hid hby
        have HDN : Hid (dec bs = none) := Lib.hid (by rw [HDEC.out]; simp [hc])
        clear hby he HDEC HRB
        unfold fault at *
        go_upto_region 12 with (first
          | (go_at_call 91; refine HNX.out.mono ?_; rintro e w2 ⟨v, rfl, own, hr2, o2⟩
             have HO2 := Lib.hid o2
             have hx1 := (o2.rest w.heap.size (heap_lt H1.out) (by omega)).trans H1.out
             have HX1 := Lib.hid hx1
             clear hx1 hr2 o2 own)
          | fail)
        apply wp_region_lit
        refine wpList_buildTo rfl 52 _ rfl (some 33) rfl zrec (by kernel_rfl) ?_
        refine wpList_runTo rfl (some 34) rfl (.iface 172 (.agg #[.int .i64 (c : Int), .int .i64 (p : Int)])) w2 (by kernel_rfl) ?_
        refine wpList_store_rowTo rfl 52 _ _ rfl rfl w.heap.size zrec rfl rfl 52 zrec HX1.out (by kernel_rfl) rfl (by kernel_rfl) ?_
        rw [setRow_self _ _ _ _ _ HX1.out]
        refine wpList_runTo rfl (some 3) rfl (.iface 172 (.agg #[.int .i64 (c : Int), .int .i64 (p : Int)])) w2 (by kernel_rfl) ?_
        apply wpList_nil
        go_wp2
        refine bodyPost_ret (results_row_tmp (p := 2) (u := 3) (ty := 52) rfl _ _ _ w.heap.size _ zrec _ _ _ rfl rfl HX1.out Try.underlying52 rfl (by kernel_rfl)) rfl ?_
        exact ⟨_, _, rfl, ⟨Rc.zero, none, 0, 0, rfl⟩, .inl ⟨⟨c, p, rfl⟩, HDN.out⟩, HOF.out.trans HO2.out⟩

end Go.Proofs.Ytmjgpgnecohbcaa
