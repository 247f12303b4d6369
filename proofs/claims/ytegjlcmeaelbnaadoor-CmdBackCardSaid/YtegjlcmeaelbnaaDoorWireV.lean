/- The Writer's other calls; Own bytes told; a new Writer. -/
import Derived.Test.YtegjlcmeaelbnaaDoorWireW
namespace Go.Proofs.YtegjlcmeaelbnaaDoor
open Go.RowKit

set_option maxRecDepth 100000 in
theorem signed_any (n : Nat) (hn : n < 18446744073709551616) (w : World) :
    Calls Tryd.prog 58 #[.int .u64 n] w fun e w' => e = .returned (.int .i64 (zag n)) ∧ w' = w := by
  by_cases ho : n % 2 = 1
  · have hz : zag n = -((n / 2 : Nat) : Int) - 1 := by unfold zag; rw [if_pos ho]
    have hx := i64_flip ((n / 2 : Nat) : Int) (by omega) (by omega)
    have HZ := Lib.hid hz
    have ht : ((n : Int) % 2 == 1) = true := by
      have : (n : Int) % 2 = 1 := by omega
      rw [this]; rfl
    clear hz
    go_enter Tryd.func58, Tryd.ntmps58
    go_wp2
    go_ret
    refine ⟨?_, rfl⟩
    rw [HZ.out]
    show Ending.returned (Value.int IntKind.i64 _) = _
    congr 2
    first
      | omega
      | (have e : ((n / 2 : Nat) : Int) = (n : Int) / 2 := by omega
         rw [e] at hx
         rw [hx]; omega)
  · have hz : zag n = ((n / 2 : Nat) : Int) := by unfold zag; rw [if_neg ho]
    have HZ := Lib.hid hz
    have ht : ((n : Int) % 2 == 1) = false := by
      have : (n : Int) % 2 = 0 := by omega
      rw [this]; rfl
    clear hz
    go_enter Tryd.func58, Tryd.ntmps58
    go_wp2
    go_ret
    refine ⟨?_, rfl⟩
    rw [HZ.out]
    show Ending.returned (Value.int IntKind.i64 _) = _
    congr 2

set_option maxRecDepth 100000 in
theorem wint_any (base g : Nat) (bs : List Nat) (n : Int) (h1 : -9223372036854775808 ≤ n) (h2 : n < 9223372036854775808) (W : World) (hw : Wr W base g bs) (hl : bs.length + (put (zig n)).length ≤ 140737505132544) :
    Calls Tryd.prog 38 #[.pointer (some ⟨g, 0, none⟩), .int .i64 n] W fun e W' => e = .returned (.tuple #[]) ∧ Wr W' base g (bs ++ put (zig n)) ∧ Below base W W' ∧ OffW g W W' := by
  have hz := zig_lt h1 h2
  have HU := Lib.hid (unsigned_any n h1 h2)
  clear h1 h2
  generalize zig n = z at *
  go_enter Tryd.func38, Tryd.ntmps38
  go_wp2_with fail
  refine (HU.out _).mono ?_
  rintro e w1 ⟨rfl, rfl⟩
  go_wp2_with fail
  refine (wuint_any base g bs z _ hw hz hl).mono ?_
  rintro e w2 ⟨rfl, hw2, hb, ho⟩
  go_wp2
  go_end0
  exact ⟨rfl, hw2, hb, ho⟩


set_option maxRecDepth 100000 in
theorem told_any (base g : Nat) (bs : List Nat) (W : World) (hw : Wr W base g bs) (hl : bs.length ≤ 140737505132544) :
    Calls Tryd.prog 40 #[.pointer (some ⟨g, 0, none⟩)] W fun e W' => ∃ v, e = .returned v ∧ Own W' W.heap.size v bs ∧ Below W.heap.size W W' := by
  obtain ⟨v, hv, own, hne⟩ := hw.cell
  obtain ⟨A, cap, rfl, hr⟩ := own.row hl hw.byte
  have hcl := cell_of_heap hv 0
  simp only [List.getElem?_toArray, List.getElem?_cons_zero] at hcl
  go_enter Tryd.func40, Tryd.ntmps40
  go_wp2_with fail
  refine (clone_any hr).mono ?_
  rintro e w1 ⟨v, rfl, h1, h2⟩
  go_wp2
  go_ret
  exact ⟨_, rfl, h1, h2⟩

/-- a new Writer -/
theorem Wr.new (w : World) (base : Nat) (hb : base ≤ w.heap.size) : Wr (w.alloc (.cells #[.slice none 0 0] 84)) base w.heap.size [] :=
  ⟨hb, by simp; omega, ⟨.slice none 0 0, by show (w.heap.push _)[w.heap.size]? = _; simp, Own.nil _ _, by intro h; cases h⟩, by simp⟩
theorem Wr.below {w w' : World} {base g : Nat} {bs : List Nat} (h : Wr w base g bs) (hb : Below w.heap.size w w') : Wr w' base g bs := by
  obtain ⟨v, hv, own, hne⟩ := h.cell
  exact ⟨h.lo, Nat.le_trans h.hs hb.size, ⟨v, (hb.block g (heap_lt hv)).trans hv, own.below hb, hne⟩, h.byte⟩
theorem Wr.row_lt {w : World} {base g : Nat} {bs : List Nat} (h : Wr w base g bs) : ∀ k, rowOf w g = some k → base ≤ k ∧ k < w.heap.size := by
  obtain ⟨v, hv, own, _⟩ := h.cell
  rw [rowOf_is hv]
  exact World.ownsRow.lt own
theorem Wr.lt {w : World} {base g : Nat} {bs : List Nat} (h : Wr w base g bs) : g < w.heap.size := by
  obtain ⟨v, hv, _⟩ := h.cell
  exact heap_lt hv
end Go.Proofs.YtegjlcmeaelbnaaDoor
