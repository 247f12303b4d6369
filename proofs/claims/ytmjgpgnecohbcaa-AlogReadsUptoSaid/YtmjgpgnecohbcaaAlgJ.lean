/- Last. -/
import Derived.Test.YtmjgpgnecohbcaaAlgI
import Derived.Test.YtmjgpgnecohbcaaAlgD
namespace Go.Proofs.Ytmjgpgnecohbcaa
open Go.RowKit Go.Shelf
attribute [local go_sem] Oper.semAt_some

theorem load_bool {W : World} {b : Nat} {v : Bool} (h : W.cell? ⟨b, 0, none⟩ = some (.bool v)) : (loadVar 4 ⟨b, 0, none⟩).run Try.prog W = .ok (.bool v) W := by go_simp
set_option maxRecDepth 100000 in
set_option maxHeartbeats 4000000 in
theorem last_any {w : World} {A : Option Addr} {n cap : Nat} {l : List Rc} (kind slot : Int) (hl : l.length = n) (hR : Rcs w A l) (hn : n ≤ 1099511627776) :
    Calls Try.prog 27 #[.slice A n cap, .int .i64 kind, .int .i64 slot] w fun e w' => Below w.heap.size w w' ∧
      ((∃ r A' c', lastOf kind slot l = some r ∧ e = .returned (.tuple #[rcv r A' r.val.length c', .bool true]) ∧ Row w' A' r.val.length c' r.val) ∨ (lastOf kind slot l = none ∧ e = .returned (.tuple #[rcv Rc.zero none 0 0, .bool false]))) := by
  refine (callsIn_wide (n := 2)).1 ?_
  refine callsIn_of_wp_marks Try.func27 rfl trivial ?_
  simp only [Try.ntmps27, List.size_toArray, List.length_cons, List.length_nil, Nat.reduceAdd, Nat.reduceSub, Array.replicate_succ, Array.replicate_zero, List.push_toArray, List.append_toArray, List.nil_append, List.cons_append]
  gi_wp2_with fail
  refine ⟨trivial, ?_⟩
  refine (callsIn_wide.2 (back_fn _ _ _ _)).mono ?_
  rintro e w5 ⟨rfl, hw5⟩
  simp only [World.size_alloc] at *
  have hs5 : w5.heap.size = w.heap.size + 5 := by rw [hw5]; simp
  have k5 : Kept w w5 := by rw [hw5]; exact (((((Kept.refl w).alloc _).alloc _).alloc _).alloc _).alloc _
  have ho : ∀ j, j < w.heap.size + 4 → w5.heap[j]? = ((((w.alloc (.cells #[.int .i64 kind] 3)).alloc (.cells #[.int .i64 slot] 3)).alloc (.cells zrec 52)).alloc (.cells #[.bool false] 4)).heap[j]? := fun j hj => by rw [hw5]; exact push_old _ _ (by simp; omega)
  have hb0 : w5.heap[w.heap.size]? = some (.cells #[.int .i64 kind] 3 (0, 0)) := by
    rw [ho _ (by omega), push_old _ _ (by simp; omega), push_old _ _ (by simp; omega), push_old _ _ (by simp)]; exact push_new _ _
  have hb1 : w5.heap[w.heap.size + 1]? = some (.cells #[.int .i64 slot] 3 (0, 0)) := by
    rw [ho _ (by omega), push_old _ _ (by simp), push_old _ _ (by simp)]; exact push_two_new _ _ _
  have hb2 : w5.heap[w.heap.size + 2]? = some (.cells zrec 52 (0, 0)) := by
    rw [ho _ (by omega), push_old _ _ (by simp)]
    have := push_new ((w.alloc (.cells #[.int .i64 kind] 3)).alloc (.cells #[.int .i64 slot] 3)) (.cells zrec 52)
    simpa using this
  have hb3 : w5.heap[w.heap.size + 3]? = some (.cells #[.bool false] 4 (0, 0)) := by
    rw [ho _ (by omega)]
    have := push_new (((w.alloc (.cells #[.int .i64 kind] 3)).alloc (.cells #[.int .i64 slot] 3)).alloc (.cells zrec 52)) (.cells #[.bool false] 4)
    simpa using this
  have hb4 : w5.heap[w.heap.size + 4]? = some (.cells #[.slice A n cap] 36 (0, 0)) := by
    have := push_new ((((w.alloc (.cells #[.int .i64 kind] 3)).alloc (.cells #[.int .i64 slot] 3)).alloc (.cells zrec 52)).alloc (.cells #[.bool false] 4)) (.cells #[.slice A n cap] 36)
    rw [hw5]
    simpa [zrec] using this
  have HB0 := Lib.hid hb0
  have HB1 := Lib.hid hb1
  have HB2 := Lib.hid hb2
  have HB3 := Lib.hid hb3
  have HB4 := Lib.hid hb4
  have HS5 := Lib.hid hs5
  have HK5 := Lib.hid k5
  have HR5 := Lib.hid (hR.kept k5)
  clear hb0 hb1 hb2 hb3 hb4 hs5 k5 hR ho hw5
  gi_wp2_with fail
  have hl6 : w5.heap.size + 1 = w.heap.size + 6 := by rw [HS5.out]
  refine wp_range2 (m := 0) (gf := 67) (lb := #[.pointer (some ⟨w.heap.size + 4, 0, none⟩)]) Bk.args (Bk.Pre w5) (Bk.Post w.heap.size kind slot)
    (fun W => Kept w5 W ∧ W.heap[w.heap.size + 5]? = some (.deferred (some [])) ∧ lastOf kind slot l = none) (fun W => ∃ r Wk, lastOf kind slot l = some r ∧ Kept w5 Wk ∧ Wk.heap[w.heap.size + 5]? = some (.deferred (some [])) ∧ LHit w.heap.size r Wk W)
    rfl (enters_of Try.func67 (by kernel_rfl) rfl) (fun _ => rfl) ?round ?iter ?done ?ret
  case iter =>
    intro rec hY
    rw [hl6] at hY ⊢
    exact callsIn_wide.1 (back_any HS5.out HB4.out hl HR5.out hn rec hY)
  case ret =>
    rw [hl6]
    rintro W r0 r' hl ⟨r, Wk, hlast, hk, hmark, hh⟩
    have hs5 := HS5.out
    have hks := hk.2
    have hm2 := (hh.old (w.heap.size + 5) (heap_lt hmark) (by omega) (by omega) (by omega)).trans hmark
    have hm3 : (W.putObj (w.heap.size + 6) (.loop r')).heap[w5.heap.size]? = some (.deferred (some [])) := by
      rw [hs5]; exact (World.putObj_heap_other (by omega)).trans hm2
    refine ⟨by simp, .inl ⟨_, _, rfl, run_takeDeferred hm3, ?_⟩⟩
    obtain ⟨A', c', h2, hrow⟩ := hh.res
    have q2 : ((W.putObj (w.heap.size + 6) (.loop r')).putObj w5.heap.size (.deferred none)).heap[w.heap.size + 1 + 1]? = some (.cells #[.int .i64 r.kind, .int .i64 r.slot, .int .i64 r.round, .int .i64 r.site, .slice A' r.val.length c'] 52 (0, 0)) := by
      rw [hs5]; exact ((World.putObj_heap_other (by omega)).trans (World.putObj_heap_other (by omega))).trans h2
    have q3 : ((W.putObj (w.heap.size + 6) (.loop r')).putObj w5.heap.size (.deferred none)).cell? ⟨w.heap.size + 1 + 1 + 1, 0, none⟩ = some (.bool true) := by
      rw [hs5]; exact (World.cell?_of_block ((World.putObj_heap_other (by simp only; omega)).trans (World.putObj_heap_other (by simp only; omega)))).trans (cell_of_heap hh.yes 0)
    have q4 := Row.putObj (.deferred none) hm3 rfl (Row.putObj (.loop r') hl rfl hrow)
    have k5 := HK5.out
    have q5 := load_bool q3
    refine ⟨_, results_row_cell (p := 6) (u := 7) (ty := 52) (tz := 4) rfl _ _ _ (w.heap.size + 1 + 1) (w.heap.size + 1 + 1 + 1) 52 _ _ _ (.bool true) rfl rfl q2 q5 Try.underlying52 rfl (by kernel_rfl), ?_, .inl ⟨r, A', c', hlast, rfl, q4⟩⟩
    refine ⟨(hh.os.trans hk.1.os).trans k5.1.os, (hh.tape.trans hk.1.tape).trans k5.1.tape, (hh.output.trans hk.1.output).trans k5.1.output, ?_, fun b hb => ?_⟩
    · rw [World.putObj_size, World.putObj_size]
      have := hh.size
      omega
    · rw [World.putObj_heap_other (by omega), World.putObj_heap_other (by omega), hh.old b (by omega) (by omega) (by omega) (by omega), hk.1.block b (by omega)]
      exact k5.1.block b hb
  case done =>
    rw [hl6]
    rintro W r0 r' hl ⟨hk, hmark, hlast⟩
    have hs5 := HS5.out
    have hks := hk.2
    have hz : (W.putObj (w.heap.size + 6) (.loop r')).heap[w.heap.size + 1 + 1]? = some (.cells zrec 52 (0, 0)) := ((World.putObj_heap_other (by omega)).trans (hk.1.block (w.heap.size + 2) (by omega))).trans HB2.out
    have hz3 : (W.putObj (w.heap.size + 6) (.loop r')).heap[w.heap.size + 1 + 1 + 1]? = some (.cells #[.bool false] 4 (0, 0)) := ((World.putObj_heap_other (by omega)).trans (hk.1.block (w.heap.size + 3) (by omega))).trans HB3.out
    have hm3 : (W.putObj (w.heap.size + 6) (.loop r')).heap[w.heap.size + 5]? = some (.deferred (some [])) := (World.putObj_heap_other (by omega)).trans hmark
    have hold : ∀ b, b < w.heap.size → (W.putObj (w.heap.size + 6) (.loop r')).heap[b]? = w.heap[b]? := fun b hb => by
      rw [World.putObj_heap_other (by omega), hk.1.block b (by omega)]
      exact HK5.out.1.block b hb
    have hpo : (W.putObj (w.heap.size + 6) (.loop r')).os = w.os ∧ (W.putObj (w.heap.size + 6) (.loop r')).tape = w.tape ∧ (W.putObj (w.heap.size + 6) (.loop r')).output = w.output := ⟨hk.1.os.trans HK5.out.1.os, hk.1.tape.trans HK5.out.1.tape, hk.1.output.trans HK5.out.1.output⟩
    have hps : w.heap.size + 5 < (W.putObj (w.heap.size + 6) (.loop r')).heap.size := heap_lt hm3
    have HLAST := Lib.hid hlast
    generalize W.putObj (w.heap.size + 6) (.loop r') = Wp at *
    have z0 := cell_of_heap hz 0; have z1 := cell_of_heap hz 1; have z2 := cell_of_heap hz 2; have z3 := cell_of_heap hz 3; have z4 := cell_of_heap hz 4
    have f0 := frozen_of_heap hz 0; have f1 := frozen_of_heap hz 1; have f2 := frozen_of_heap hz 2; have f3 := frozen_of_heap hz 3; have f4 := frozen_of_heap hz 4
    have y0 := cell_of_heap hz3 0; have g0 := frozen_of_heap hz3 0
    simp only [zrec, List.getElem?_toArray, List.getElem?_cons_zero, List.getElem?_cons_succ] at z0 z1 z2 z3 z4 y0
    have HZ := Lib.hid hz
    have HZ3 := Lib.hid hz3
    have HM3 := Lib.hid hm3
    have HOLD := Lib.hid hold
    have HPO := Lib.hid hpo
    clear hk hmark hlast hz hz3 hm3 hold hpo hl hks
    gi_wp2
    have hne : ∀ (W : World) (b j : Nat) (v : Value), b ≠ w.heap.size + 5 → (W.setCell ⟨b, j, none⟩ v).heap[w.heap.size + 5]? = W.heap[w.heap.size + 5]? := fun W b j v h => Below.heap_setCell W ⟨b, j, none⟩ v _ (by simp only; omega)
    have hmk : ((((((Wp.setCell ⟨w.heap.size + 1 + 1, 0, none⟩ (.int .i64 0)).setCell ⟨w.heap.size + 1 + 1, 1, none⟩ (.int .i64 0)).setCell ⟨w.heap.size + 1 + 1, 2, none⟩ (.int .i64 0)).setCell ⟨w.heap.size + 1 + 1, 3, none⟩ (.int .i64 0)).setCell ⟨w.heap.size + 1 + 1, 4, none⟩ (.slice none 0 0)).setCell ⟨w.heap.size + 1 + 1 + 1, 0, none⟩ (.bool false)).heap[w.heap.size + 5]? = some (.deferred (some [])) := by
      rw [hne _ _ _ _ (by omega), hne _ _ _ _ (by omega), hne _ _ _ _ (by omega), hne _ _ _ _ (by omega), hne _ _ _ _ (by omega), hne _ _ _ _ (by omega)]
      exact HM3.out
    have hz5 : ((((((Wp.setCell ⟨w.heap.size + 1 + 1, 0, none⟩ (.int .i64 0)).setCell ⟨w.heap.size + 1 + 1, 1, none⟩ (.int .i64 0)).setCell ⟨w.heap.size + 1 + 1, 2, none⟩ (.int .i64 0)).setCell ⟨w.heap.size + 1 + 1, 3, none⟩ (.int .i64 0)).setCell ⟨w.heap.size + 1 + 1, 4, none⟩ (.slice none 0 0)).setCell ⟨w.heap.size + 1 + 1 + 1, 0, none⟩ (.bool false)).heap[w.heap.size + 1 + 1]? = some (.cells zrec 52 (0, 0)) := by
      refine (Below.heap_setCell _ ⟨w.heap.size + 1 + 1 + 1, 0, none⟩ _ _ (by simp)).trans ?_
      refine Eq.trans (by with_reducible exact (heap_setCell_same (heap_setCell_same (heap_setCell_same (heap_setCell_same (heap_setCell_same HZ.out _) _) _) _) _)) ?_
      kernel_rfl
    have hb5 : ((((((Wp.setCell ⟨w.heap.size + 1 + 1, 0, none⟩ (.int .i64 0)).setCell ⟨w.heap.size + 1 + 1, 1, none⟩ (.int .i64 0)).setCell ⟨w.heap.size + 1 + 1, 2, none⟩ (.int .i64 0)).setCell ⟨w.heap.size + 1 + 1, 3, none⟩ (.int .i64 0)).setCell ⟨w.heap.size + 1 + 1, 4, none⟩ (.slice none 0 0)).setCell ⟨w.heap.size + 1 + 1 + 1, 0, none⟩ (.bool false)).heap[w.heap.size + 1 + 1 + 1]? = some (.cells #[.bool false] 4 (0, 0)) := by
      have h3 : ((((((Wp.setCell ⟨w.heap.size + 1 + 1, 0, none⟩ (.int .i64 0)).setCell ⟨w.heap.size + 1 + 1, 1, none⟩ (.int .i64 0)).setCell ⟨w.heap.size + 1 + 1, 2, none⟩ (.int .i64 0)).setCell ⟨w.heap.size + 1 + 1, 3, none⟩ (.int .i64 0)).setCell ⟨w.heap.size + 1 + 1, 4, none⟩ (.slice none 0 0))).heap[w.heap.size + 1 + 1 + 1]? = some (.cells #[.bool false] 4 (0, 0)) := by
        have hn : ∀ (W : World) (j : Nat) (v : Value), (W.setCell ⟨w.heap.size + 1 + 1, j, none⟩ v).heap[w.heap.size + 1 + 1 + 1]? = W.heap[w.heap.size + 1 + 1 + 1]? := fun W j v => Below.heap_setCell W ⟨w.heap.size + 1 + 1, j, none⟩ v _ (by simp)
        rw [hn, hn, hn, hn, hn]
        exact HZ3.out
      rw [heap_setCell_same h3]
      rfl
    have hfb : Below w.heap.size Wp ((((((Wp.setCell ⟨w.heap.size + 1 + 1, 0, none⟩ (.int .i64 0)).setCell ⟨w.heap.size + 1 + 1, 1, none⟩ (.int .i64 0)).setCell ⟨w.heap.size + 1 + 1, 2, none⟩ (.int .i64 0)).setCell ⟨w.heap.size + 1 + 1, 3, none⟩ (.int .i64 0)).setCell ⟨w.heap.size + 1 + 1, 4, none⟩ (.slice none 0 0)).setCell ⟨w.heap.size + 1 + 1 + 1, 0, none⟩ (.bool false)) :=
      ((((((Below.refl _ _).setCell (p := ⟨w.heap.size + 1 + 1, 0, none⟩) (by simp only; omega) _).setCell (p := ⟨w.heap.size + 1 + 1, 1, none⟩) (by simp only; omega) _).setCell (p := ⟨w.heap.size + 1 + 1, 2, none⟩) (by simp only; omega) _).setCell (p := ⟨w.heap.size + 1 + 1, 3, none⟩) (by simp only; omega) _).setCell (p := ⟨w.heap.size + 1 + 1, 4, none⟩) (by simp only; omega) _).setCell (p := ⟨w.heap.size + 1 + 1 + 1, 0, none⟩) (by simp only; omega) _
    generalize ((((((Wp.setCell ⟨w.heap.size + 1 + 1, 0, none⟩ (.int .i64 0)).setCell ⟨w.heap.size + 1 + 1, 1, none⟩ (.int .i64 0)).setCell ⟨w.heap.size + 1 + 1, 2, none⟩ (.int .i64 0)).setCell ⟨w.heap.size + 1 + 1, 3, none⟩ (.int .i64 0)).setCell ⟨w.heap.size + 1 + 1, 4, none⟩ (.slice none 0 0)).setCell ⟨w.heap.size + 1 + 1 + 1, 0, none⟩ (.bool false)) = Wf at *
    refine ⟨by simp, .inl ⟨_, _, rfl, run_takeDeferred hmk, ?_⟩⟩
    have q2 := (World.putObj_heap_other (r := w.heap.size + 5) (o := .deferred none) (by omega)).trans hz5
    have q3 : (Wf.putObj (w.heap.size + 5) (.deferred none)).cell? ⟨w.heap.size + 1 + 1 + 1, 0, none⟩ = some (.bool false) := (World.cell?_of_block (World.putObj_heap_other (by simp only; omega))).trans (cell_of_heap hb5 0)
    have q5 := load_bool q3
    refine ⟨_, results_row_cell (p := 6) (u := 7) (ty := 52) (tz := 4) rfl _ _ _ (w.heap.size + 1 + 1) (w.heap.size + 1 + 1 + 1) 52 _ _ _ (.bool false) rfl rfl q2 q5 Try.underlying52 rfl (by kernel_rfl), ?_, .inr ⟨HLAST.out, rfl⟩⟩
    refine ⟨hfb.os.trans HPO.out.1, hfb.tape.trans HPO.out.2.1, hfb.output.trans HPO.out.2.2, ?_, fun b hb => ?_⟩
    · rw [World.putObj_size]
      have := hfb.size
      omega
    · rw [World.putObj_heap_other (by omega), hfb.block b hb]
      exact HOLD.out b hb
  case round =>
    rw [hl6]
    rintro rec hrec ⟨x, i⟩ W ⟨hk, hxo⟩ hl
    simp only at hk hxo
    have HREC := Lib.hid hrec
    have HKK := Lib.hid hk
    have HXO := Lib.hid hxo
    have HL := Lib.hid hl
    have hs5 := HS5.out
    have hks := hk.2
    clear hk hxo hl hrec
    simp only [Bk.args, rcv]
    gi_wp2
    refine ⟨(push_old _ _ (heap_lt HL.out)).trans HL.out, ?_⟩
    have hrb : ((W.alloc (.cells #[.int .i64 x.r.kind, .int .i64 x.r.slot, .int .i64 x.r.round, .int .i64 x.r.site, .slice x.A x.r.val.length x.c] 52)).putObj (w.heap.size + 6) (.loop (rec .busy none))).heap[W.heap.size]? = some (.cells #[.int .i64 x.r.kind, .int .i64 x.r.slot, .int .i64 x.r.round, .int .i64 x.r.site, .slice x.A x.r.val.length x.c] 52 (0, 0)) := (World.putObj_heap_other (by have := heap_lt HL.out; omega)).trans (push_new W _)
    have hstay : ∀ b, b < W.heap.size → b ≠ w.heap.size + 6 → ((W.alloc (.cells #[.int .i64 x.r.kind, .int .i64 x.r.slot, .int .i64 x.r.round, .int .i64 x.r.site, .slice x.A x.r.val.length x.c] 52)).putObj (w.heap.size + 6) (.loop (rec .busy none))).heap[b]? = W.heap[b]? := fun b hb hne => by
      rw [World.putObj_heap_other hne, push_old _ _ hb]
    have hbusy : ((W.alloc (.cells #[.int .i64 x.r.kind, .int .i64 x.r.slot, .int .i64 x.r.round, .int .i64 x.r.site, .slice x.A x.r.val.length x.c] 52)).putObj (w.heap.size + 6) (.loop (rec .busy none))).heap[w.heap.size + 6]? = some (.loop (rec .busy none)) := World.putObj_heap_same (by simp; have := heap_lt HL.out; omega)
    have hwo : ((W.alloc (.cells #[.int .i64 x.r.kind, .int .i64 x.r.slot, .int .i64 x.r.round, .int .i64 x.r.site, .slice x.A x.r.val.length x.c] 52)).putObj (w.heap.size + 6) (.loop (rec .busy none))).os = W.os ∧ ((W.alloc (.cells #[.int .i64 x.r.kind, .int .i64 x.r.slot, .int .i64 x.r.round, .int .i64 x.r.site, .slice x.A x.r.val.length x.c] 52)).putObj (w.heap.size + 6) (.loop (rec .busy none))).tape = W.tape ∧ ((W.alloc (.cells #[.int .i64 x.r.kind, .int .i64 x.r.slot, .int .i64 x.r.round, .int .i64 x.r.site, .slice x.A x.r.val.length x.c] 52)).putObj (w.heap.size + 6) (.loop (rec .busy none))).output = W.output := ⟨rfl, rfl, rfl⟩
    have hrow : Row ((W.alloc (.cells #[.int .i64 x.r.kind, .int .i64 x.r.slot, .int .i64 x.r.round, .int .i64 x.r.site, .slice x.A x.r.val.length x.c] 52)).putObj (w.heap.size + 6) (.loop (rec .busy none))) x.A x.r.val.length x.c x.r.val := Row.putObj _ ((push_old _ _ (heap_lt HL.out)).trans HL.out) rfl (Row.below HXO.out ((Below.refl _ _).alloc (Nat.le_refl _) _))
    have hbs : ((W.alloc (.cells #[.int .i64 x.r.kind, .int .i64 x.r.slot, .int .i64 x.r.round, .int .i64 x.r.site, .slice x.A x.r.val.length x.c] 52)).putObj (w.heap.size + 6) (.loop (rec .busy none))).heap.size = W.heap.size + 1 := by simp
    generalize (W.alloc (.cells #[.int .i64 x.r.kind, .int .i64 x.r.slot, .int .i64 x.r.round, .int .i64 x.r.site, .slice x.A x.r.val.length x.c] 52)).putObj (w.heap.size + 6) (.loop (rec .busy none)) = Wb at *
    have b0 := cell_of_heap hrb 0; have b1 := cell_of_heap hrb 1; have b2 := cell_of_heap hrb 2; have b3 := cell_of_heap hrb 3; have b4 := cell_of_heap hrb 4
    have g4 := frozen_of_heap hrb 4
    simp only [List.getElem?_toArray, List.getElem?_cons_zero, List.getElem?_cons_succ] at b0 b1 b2 b3 b4
    have hk0 : Wb.cell? ⟨w.heap.size, 0, none⟩ = some (.int .i64 kind) := cell_of_heap ((hstay w.heap.size (by omega) (by omega)).trans ((HKK.out.1.block w.heap.size (by omega)).trans HB0.out)) 0
    have hk1 : Wb.cell? ⟨w.heap.size + 1, 0, none⟩ = some (.int .i64 slot) := cell_of_heap ((hstay (w.heap.size + 1) (by omega) (by omega)).trans ((HKK.out.1.block (w.heap.size + 1) (by omega)).trans HB1.out)) 0
    have HROW := Lib.hid hrow
    have HSTAY := Lib.hid hstay
    have HBUSY := Lib.hid hbusy
    have HWO := Lib.hid hwo
    have HBS := Lib.hid hbs
    have HRB := Lib.hid hrb
    have hlt6 := heap_lt HL.out
    clear hstay hbusy hwo hbs hrb hrow
    have hnomatch : ¬ x.r.is kind slot → roundQ (w.heap.size + 6) rec (Bk.Post w.heap.size kind slot ⟨x, i⟩ W) .normal { tmps := #[], defers := [] } Wb := fun hm => by
      refine ⟨HBUSY.out, .inl ⟨hm, rfl, ⟨HWO.out.1, HWO.out.2.1, HWO.out.2.2, by rw [World.putObj_size, HBS.out]; omega, fun b hb => ?_⟩, by rw [World.putObj_size, HBS.out]; omega⟩⟩
      by_cases h6 : b = w.heap.size + 6
      · subst h6
        rw [HL.out]
        exact World.putObj_heap_same (by rw [HBS.out]; omega)
      · exact (World.putObj_heap_other h6).trans (HSTAY.out b hb h6)
    have HNM := Lib.hid hnomatch
    clear hnomatch
    by_cases hm1 : x.r.kind = kind
    · by_cases hm2 : x.r.slot = slot
      · have hm : x.r.is kind slot := ⟨hm1, hm2⟩
        have HM := Lib.hid hm
        have t1 : (x.r.kind == kind) = true := by simpa using hm1
        have t2 : (x.r.slot == slot) = true := by simpa using hm2
        clear hm1 hm2 hm HNM
        gi_wp2_with fail
        refine ⟨trivial, rfl, ?_⟩
        refine (CallsIn.inRound (w.heap.size + 6) (callsIn_wide.2 (clone_any HROW.out))).mono ?_
        rintro e w6 ⟨v, rfl, own, hb6⟩
        obtain ⟨A', c', rfl, hrw6⟩ := own.row (by have := HROW.out.bts.2.1; rw [HROW.out.len] at *; omega) HROW.out.bts.2.2.1
        have hbs := HBS.out
        have hr6 := (hb6.block W.heap.size (by omega)).trans HRB.out
        have hz6 : w6.heap[w.heap.size + 1 + 1]? = some (.cells zrec 52 (0, 0)) := (hb6.block (w.heap.size + 2) (by omega)).trans ((HSTAY.out (w.heap.size + 2) (by omega) (by omega)).trans ((HKK.out.1.block (w.heap.size + 2) (by omega)).trans HB2.out))
        have hy6 : w6.heap[w.heap.size + 1 + 1 + 1]? = some (.cells #[.bool false] 4 (0, 0)) := (hb6.block (w.heap.size + 3) (by omega)).trans ((HSTAY.out (w.heap.size + 3) (by omega) (by omega)).trans ((HKK.out.1.block (w.heap.size + 3) (by omega)).trans HB3.out))
        have hu6 := (hb6.block (w.heap.size + 6) (by omega)).trans HBUSY.out
        have a0 := cell_of_heap hr6 0; have a1 := cell_of_heap hr6 1; have a2 := cell_of_heap hr6 2; have a3 := cell_of_heap hr6 3; have a4 := cell_of_heap hr6 4
        have f4 := frozen_of_heap hr6 4
        have z0 := cell_of_heap hz6 0; have z1 := cell_of_heap hz6 1; have z2 := cell_of_heap hz6 2; have z3 := cell_of_heap hz6 3; have z4 := cell_of_heap hz6 4
        have p0 := frozen_of_heap hz6 0; have p1 := frozen_of_heap hz6 1; have p2 := frozen_of_heap hz6 2; have p3 := frozen_of_heap hz6 3; have p4 := frozen_of_heap hz6 4
        have y0 := cell_of_heap hy6 0; have q0 := frozen_of_heap hy6 0
        simp only [zrec, List.getElem?_toArray, List.getElem?_cons_zero, List.getElem?_cons_succ] at a0 a1 a2 a3 a4 z0 z1 z2 z3 z4 y0
        have HR6 := Lib.hid hr6
        have HZ6 := Lib.hid hz6
        have HY6 := Lib.hid hy6
        have HU6 := Lib.hid hu6
        have HB6 := Lib.hid hb6
        have HOWN := Lib.hid own
        have HRW6 := Lib.hid hrw6
        have hne1 : w.heap.size + 1 + 1 ≠ W.heap.size := by omega
        have hne2 : w.heap.size + 1 + 1 + 1 ≠ W.heap.size := by omega
        clear hr6 hz6 hy6 hu6 hb6 own hrw6 b0 b1 b2 b3 b4 g4
        simp only []
        repeat (first | gi_guarded | gi_step | gi_upon)
        have hne : ∀ (V : World) (b j k : Nat) (v : Value), k ≠ b → (V.setCell ⟨b, j, none⟩ v).heap[k]? = V.heap[k]? := fun V b j k v h => Below.heap_setCell V ⟨b, j, none⟩ v _ (by simpa using h)
        have hbel : Below 0 w6 (((((((w6.setCell ⟨W.heap.size, 4, none⟩ (.slice A' x.r.val.length c')).setCell ⟨w.heap.size + 1 + 1, 0, none⟩ (.int .i64 x.r.kind)).setCell ⟨w.heap.size + 1 + 1, 1, none⟩ (.int .i64 x.r.slot)).setCell ⟨w.heap.size + 1 + 1, 2, none⟩ (.int .i64 x.r.round)).setCell ⟨w.heap.size + 1 + 1, 3, none⟩ (.int .i64 x.r.site)).setCell ⟨w.heap.size + 1 + 1, 4, none⟩ (.slice A' x.r.val.length c')).setCell ⟨w.heap.size + 1 + 1 + 1, 0, none⟩ (.bool true)) := ((((((((Below.refl 0 w6).setCell (p := ⟨W.heap.size, 4, none⟩) (Nat.zero_le _) (.slice A' x.r.val.length c')).setCell (p := ⟨w.heap.size + 1 + 1, 0, none⟩) (Nat.zero_le _) (.int .i64 x.r.kind)).setCell (p := ⟨w.heap.size + 1 + 1, 1, none⟩) (Nat.zero_le _) (.int .i64 x.r.slot)).setCell (p := ⟨w.heap.size + 1 + 1, 2, none⟩) (Nat.zero_le _) (.int .i64 x.r.round)).setCell (p := ⟨w.heap.size + 1 + 1, 3, none⟩) (Nat.zero_le _) (.int .i64 x.r.site)).setCell (p := ⟨w.heap.size + 1 + 1, 4, none⟩) (Nat.zero_le _) (.slice A' x.r.val.length c')).setCell (p := ⟨w.heap.size + 1 + 1 + 1, 0, none⟩) (Nat.zero_le _) (.bool true))
        have hoth : ∀ k, k ≠ W.heap.size → k ≠ w.heap.size + 1 + 1 → k ≠ w.heap.size + 1 + 1 + 1 → (((((((w6.setCell ⟨W.heap.size, 4, none⟩ (.slice A' x.r.val.length c')).setCell ⟨w.heap.size + 1 + 1, 0, none⟩ (.int .i64 x.r.kind)).setCell ⟨w.heap.size + 1 + 1, 1, none⟩ (.int .i64 x.r.slot)).setCell ⟨w.heap.size + 1 + 1, 2, none⟩ (.int .i64 x.r.round)).setCell ⟨w.heap.size + 1 + 1, 3, none⟩ (.int .i64 x.r.site)).setCell ⟨w.heap.size + 1 + 1, 4, none⟩ (.slice A' x.r.val.length c')).setCell ⟨w.heap.size + 1 + 1 + 1, 0, none⟩ (.bool true)).heap[k]? = w6.heap[k]? := fun k e1 e2 e3 => by
          rw [hne _ _ _ _ _ e3, hne _ _ _ _ _ e2, hne _ _ _ _ _ e2, hne _ _ _ _ _ e2, hne _ _ _ _ _ e2, hne _ _ _ _ _ e2, hne _ _ _ _ _ e1]
        have hres : (((((((w6.setCell ⟨W.heap.size, 4, none⟩ (.slice A' x.r.val.length c')).setCell ⟨w.heap.size + 1 + 1, 0, none⟩ (.int .i64 x.r.kind)).setCell ⟨w.heap.size + 1 + 1, 1, none⟩ (.int .i64 x.r.slot)).setCell ⟨w.heap.size + 1 + 1, 2, none⟩ (.int .i64 x.r.round)).setCell ⟨w.heap.size + 1 + 1, 3, none⟩ (.int .i64 x.r.site)).setCell ⟨w.heap.size + 1 + 1, 4, none⟩ (.slice A' x.r.val.length c')).setCell ⟨w.heap.size + 1 + 1 + 1, 0, none⟩ (.bool true)).heap[w.heap.size + 1 + 1]? = some (.cells #[.int .i64 x.r.kind, .int .i64 x.r.slot, .int .i64 x.r.round, .int .i64 x.r.site, .slice A' x.r.val.length c'] 52 (0, 0)) := by
          refine (hne _ _ _ _ _ (by omega)).trans ?_
          have h0 : (w6.setCell ⟨W.heap.size, 4, none⟩ (.slice A' x.r.val.length c')).heap[w.heap.size + 1 + 1]? = some (.cells zrec 52 (0, 0)) := (hne _ _ _ _ _ hne1).trans HZ6.out
          refine Eq.trans (by with_reducible exact (heap_setCell_same (heap_setCell_same (heap_setCell_same (heap_setCell_same (heap_setCell_same h0 _) _) _) _) _)) ?_
          rfl
        have hyes : (((((((w6.setCell ⟨W.heap.size, 4, none⟩ (.slice A' x.r.val.length c')).setCell ⟨w.heap.size + 1 + 1, 0, none⟩ (.int .i64 x.r.kind)).setCell ⟨w.heap.size + 1 + 1, 1, none⟩ (.int .i64 x.r.slot)).setCell ⟨w.heap.size + 1 + 1, 2, none⟩ (.int .i64 x.r.round)).setCell ⟨w.heap.size + 1 + 1, 3, none⟩ (.int .i64 x.r.site)).setCell ⟨w.heap.size + 1 + 1, 4, none⟩ (.slice A' x.r.val.length c')).setCell ⟨w.heap.size + 1 + 1 + 1, 0, none⟩ (.bool true)).heap[w.heap.size + 1 + 1 + 1]? = some (.cells #[.bool true] 4 (0, 0)) := by
          have h0 : ((((((w6.setCell ⟨W.heap.size, 4, none⟩ (.slice A' x.r.val.length c')).setCell ⟨w.heap.size + 1 + 1, 0, none⟩ (.int .i64 x.r.kind)).setCell ⟨w.heap.size + 1 + 1, 1, none⟩ (.int .i64 x.r.slot)).setCell ⟨w.heap.size + 1 + 1, 2, none⟩ (.int .i64 x.r.round)).setCell ⟨w.heap.size + 1 + 1, 3, none⟩ (.int .i64 x.r.site)).setCell ⟨w.heap.size + 1 + 1, 4, none⟩ (.slice A' x.r.val.length c')).heap[w.heap.size + 1 + 1 + 1]? = some (.cells #[.bool false] 4 (0, 0)) := by
            rw [hne _ _ _ _ _ (by omega), hne _ _ _ _ _ (by omega), hne _ _ _ _ _ (by omega), hne _ _ _ _ _ (by omega), hne _ _ _ _ _ (by omega), hne _ _ _ _ _ hne2]
            exact HY6.out
          rw [heap_setCell_same h0]
          rfl
        generalize (((((((w6.setCell ⟨W.heap.size, 4, none⟩ (.slice A' x.r.val.length c')).setCell ⟨w.heap.size + 1 + 1, 0, none⟩ (.int .i64 x.r.kind)).setCell ⟨w.heap.size + 1 + 1, 1, none⟩ (.int .i64 x.r.slot)).setCell ⟨w.heap.size + 1 + 1, 2, none⟩ (.int .i64 x.r.round)).setCell ⟨w.heap.size + 1 + 1, 3, none⟩ (.int .i64 x.r.site)).setCell ⟨w.heap.size + 1 + 1, 4, none⟩ (.slice A' x.r.val.length c')).setCell ⟨w.heap.size + 1 + 1 + 1, 0, none⟩ (.bool true)) = S at *
        have hu : S.heap[w.heap.size + 6]? = some (.loop (rec .busy none)) := (hoth _ (by omega) (by omega) (by omega)).trans HU6.out
        have hrow : Row S A' x.r.val.length c' x.r.val := HRW6.out.off hbel.size fun a ha hn => by
          have := (World.ownsRow.lt HOWN.out a.block (by rw [ha]; rfl)).1
          exact hoth _ (by omega) (by omega) (by omega)
        have hsz := hbel.size
        have hsz6 := HB6.out.size
        refine ⟨hu, .inr ⟨HM.out, rfl, ?_⟩⟩
        refine ⟨hbel.os.trans (HB6.out.os.trans HWO.out.1), hbel.tape.trans (HB6.out.tape.trans HWO.out.2.1), hbel.output.trans (HB6.out.output.trans HWO.out.2.2), ?_, ?_, ⟨A', c', ?_, ?_⟩, ?_, ⟨_, putObj_same hu, HREC.out _ _⟩⟩
        · rw [World.putObj_size]
          omega
        · intro b hb n2 n3 n6
          rw [World.putObj_heap_other n6, hoth b (by omega) (by omega) (by omega), HB6.out.block b (by omega)]
          exact HSTAY.out b hb n6
        · exact (World.putObj_heap_other (by omega)).trans hres
        · exact Row.putObj _ hu rfl hrow
        · exact (World.putObj_heap_other (by omega)).trans hyes
      · have t1 : (x.r.kind == kind) = true := by simpa using hm1
        have t2 : (x.r.slot == slot) = false := by simpa using hm2
        have hno := HNM.out (fun h => hm2 h.2)
        have HNO := Lib.hid hno
        clear hm1 hm2 hno HNM
        gi_wp2
        exact HNO.out
    · have t1 : (x.r.kind == kind) = false := by simpa using hm1
      have hno := HNM.out (fun h => hm1 h.1)
      have HNO := Lib.hid hno
      clear hm1 hno HNM
      gi_wp2
      exact HNO.out
end Go.Proofs.Ytmjgpgnecohbcaa
