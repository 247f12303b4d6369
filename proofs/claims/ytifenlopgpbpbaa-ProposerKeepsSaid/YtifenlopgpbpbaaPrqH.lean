/- The law's awake; arguments that are lists of promises, and of votes. -/
import Derived.Test.YtifenlopgpbpbaaPrqE
import Derived.Test.YtifenlopgpbpbaaStr
import Derived.Lib.SmallJoins
namespace Go.Proofs.Ytifenlopgpbpbaa
open Go.RowKit

theorem Elem.reads_row {α : Type} {t e : TypeId} (E : Elem t e α) {W : World} {g : Nat} {cs : Array Value} {t' : TypeId} {fr : Nat × Nat} {l : List α} (h : W.heap[g]? = some (.cells cs t' fr)) (hc : cs.toList = E.flat l) : E.Reads W (some ⟨g, 0, none⟩) l := by
  intro i hi
  refine ⟨g, 0, rfl, heap_lt h, fun j u hu => ?_⟩
  have hj : j < E.k := by
    rcases Nat.lt_or_ge j E.k with h | h
    · exact h
    · rw [List.getElem?_eq_none (by rw [E.len]; exact h)] at hu; cases hu
  rw [cell_of_heap h (0 + i * E.k + j), Nat.zero_add, ← Array.getElem?_toList, hc, E.flat_at l i hi j hj]
  exact hu

def wk0 : It := ⟨⟨0, false, 0, 0, []⟩, none, 0⟩
def wk1 (g : Nat) : It := ⟨⟨2, true, 1, 1, [120]⟩, some ⟨g, 0, none⟩, 1⟩
theorem wk_choose (g : Nat) : chooseP ([wk0, wk1 g].map It.r) 3 = some [120] := by
  rw [show [wk0, wk1 g].map It.r = [wk0, wk1 0].map It.r from rfl]
  decide
theorem wk_not : chooseP ([wk0].map It.r) 3 = none := by decide
theorem wk_decided : decidedV [⟨0, 0, 0⟩, ⟨1, 0, 0⟩] 0 0 3 = true := by decide

set_option maxRecDepth 100000 in
set_option maxHeartbeats 4000000 in
theorem prawake_any (w : World) : Calls Try.prog 9 #[] w fun e w' => e = .returned (.bool true) ∧ Kept w w' := by
  have H1 : Hid (Calls Try.prog 10 #[.slice (some ⟨w.heap.size + 1, 0, none⟩) 2 2, .int .i64 3] ((w.alloc (.cells #[.int .u8 120] 5 (1, 2))).alloc (.cells #[.int .i64 0, .bool false, .int .i64 0, .int .i64 0, .slice none 0 0, .int .i64 2, .bool true, .int .i64 1, .int .i64 1, .slice (some ⟨w.heap.size, 0, none⟩) 1 1] 58)) fun e w' =>
      ∃ A c, e = .returned (.tuple #[.slice A 1 c, .bool true]) ∧ Kept w w' ∧ Row w' A 1 c [120]) := Lib.hid (by
    have hrow : Row ((w.alloc (.cells #[.int .u8 120] 5 (1, 2))).alloc (.cells #[.int .i64 0, .bool false, .int .i64 0, .int .i64 0, .slice none 0 0, .int .i64 2, .bool true, .int .i64 1, .int .i64 1, .slice (some ⟨w.heap.size, 0, none⟩) 1 1] 58)) (some ⟨w.heap.size, 0, none⟩) 1 1 [120] := by
      have h0 : Row (w.alloc (.cells #[.int .u8 120] 5 (1, 2))) (some ⟨w.heap.size, 0, none⟩) 1 1 [120] := ⟨by have := bts_one w 5 (1, 2) (c := 120) (g := w.heap.size) rfl (by decide); rw [World.size_alloc]; exact this, by simp, by simp, by decide⟩
      exact h0.below ((Kept.refl _).alloc _).1
    refine (choose_any (l := [wk0, wk1 w.heap.size]) (n := 3) (cap := 2) (N := 2) rfl (EP.reads_row (push_two_new w _ _) rfl) ?_ ?_ (by decide) (by decide)).mono ?_
    · intro x hx
      rcases List.mem_cons.1 hx with rfl | hx
      · exact Row.none
      · rcases List.mem_cons.1 hx with rfl | hx
        · exact hrow
        · cases hx
    · intro x hx
      rcases List.mem_cons.1 hx with rfl | hx
      · decide
      · rcases List.mem_cons.1 hx with rfl | hx
        · show -9223372036854775808 ≤ (2 : Int) ∧ (2 : Int) ≤ 9223372036854775807
          decide
        · cases hx
    · rintro e u ⟨v, b, rfl, hk, ht⟩
      rw [wk_choose] at ht
      obtain ⟨rfl, A, c, rfl, hr⟩ := ht
      exact ⟨A, c, rfl, (((Kept.refl w).alloc _).alloc _).trans hk, hr.row⟩)
  have H2 : Hid (∀ W : World, Calls Try.prog 10 #[.slice (some ⟨W.heap.size, 0, none⟩) 1 1, .int .i64 3] (W.alloc (.cells #[.int .i64 0, .bool false, .int .i64 0, .int .i64 0, .slice none 0 0] 58)) fun e w' =>
      e = .returned (.tuple #[.slice none 0 0, .bool false]) ∧ Kept W w') := Lib.hid (fun W => by
    refine (choose_any (l := [wk0]) (n := 3) (cap := 1) (N := 1) rfl (EP.reads_row (push_new W _) rfl) ?_ ?_ (by decide) (by decide)).mono ?_
    · intro x hx
      obtain rfl := List.mem_singleton.1 hx
      exact Row.none
    · intro x hx
      obtain rfl := List.mem_singleton.1 hx
      decide
    · rintro e u ⟨v, b, rfl, hk, ht⟩
      rw [wk_not] at ht
      obtain ⟨rfl, rfl⟩ := ht
      exact ⟨rfl, ((Kept.refl W).alloc _).trans hk⟩)
  have H3 : Hid (∀ W : World, Calls Try.prog 16 #[.slice (some ⟨W.heap.size, 0, none⟩) 2 2, .agg #[.int .i64 0, .int .i64 0], .int .i64 3] (W.alloc (.cells #[.int .i64 0, .int .i64 0, .int .i64 0, .int .i64 1, .int .i64 0, .int .i64 0] 60)) fun e w' =>
      e = .returned (.bool true) ∧ Kept W w') := Lib.hid (fun W => by
    refine (decided_any (l := [⟨0, 0, 0⟩, ⟨1, 0, 0⟩]) (n := 3) (cap := 2) (N := 2) 0 0 rfl (EV.reads_row (push_new W _) rfl) ?_ (by decide) (by decide)).mono ?_
    · intro x hx
      rcases List.mem_cons.1 hx with rfl | hx
      · decide
      · obtain rfl := List.mem_singleton.1 hx
        decide
    · rintro e u ⟨rfl, hk⟩
      exact ⟨by rw [wk_decided], ((Kept.refl W).alloc _).trans hk⟩)
  have kc := fun (w : World) (C : Array Value) (n c g : Nat) (hg : g = w.heap.size) => Go.Joins.run_convert_bytes_const_at (P := Try.prog) w 24 5 C n c g hg Try.underlying24 Try.underlying5
  have ht : (txt [120]) = ⟨#[120]⟩ := rfl
  go_enter Try.func9, Try.ntmps9
  go_wp2_with fail
  refine H1.out.mono ?_
  rintro e u1 ⟨A, c, rfl, k1, r1⟩
  have K1 := Lib.hid k1
  have R1 := Lib.hid r1
  clear k1 r1
  go_wp2_with fail
  refine (H2.out _).mono ?_
  rintro e u2 ⟨rfl, k2⟩
  have K2 := Lib.hid k2
  have hs : (convert 24 9 (.slice A 1 c)).run Try.prog u2 = .ok (.string ⟨#[120]⟩) u2 := by rw [← ht]; exact (R1.out.below k2.1).str
  clear k2
  go_wp2_with fail
  refine (H3.out _).mono ?_
  rintro e u3 ⟨rfl, k3⟩
  have K3 := Lib.hid ((K1.out.trans K2.out).trans k3)
  clear k3
  go_wp2
  go_ret
  exact ⟨rfl, K3.out⟩
end Go.Proofs.Ytifenlopgpbpbaa
