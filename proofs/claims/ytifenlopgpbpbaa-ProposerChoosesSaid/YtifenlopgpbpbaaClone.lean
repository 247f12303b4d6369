/- slices.Clone of bytes. -/
import Derived.Test.YtifenlopgpbpbaaRow
import Derived.Test.YtifenlopgpbpbaaQuiet
import Derived.WalkKit
import Derived.Below
import Derived.Lib.SlBytesConst
import Derived.Lib.Hide
import Derived.WalkLawsBesides
namespace Go.Proofs.Ytifenlopgpbpbaa
open Go.RowKit

set_option maxRecDepth 100000 in
/-- slices.Clone of bytes: as many bytes, the same, in new memory -/
theorem clone_any {w : World} {A : Option Addr} {n cap : Nat} {bs : List Nat} (h : Row w A n cap bs) :
    Calls Try.prog 25 #[.slice A n cap] w fun e w' => ∃ v, e = .returned v ∧ Own w' w.heap.size v bs ∧ Below w.heap.size w w' := by
  have hb := Lib.hid h.bts
  have hl := h.len
  have hmax := h.bts.2.1
  have hnil := h.nil
  cases A with
  | none =>
    obtain rfl := hnil rfl
    have h0 : n = 0 := by have := h.room; omega
    subst h0
    obtain rfl := List.eq_nil_of_length_eq_zero hl
    go_enter Try.func25, Try.ntmps25
    have hsn := Lib.run_eql_slice_nil (P := Try.prog) w 24 5 Option.none 0 0 0 0 Try.underlying24
    go_wp2
    go_ret
    exact ⟨_, rfl, Own.nil _ _, Below.refl _ _⟩
  | some a =>
    have hsn := Lib.run_eql_slice_nil (P := Try.prog) w 24 5 (some a) n cap 0 0 Try.underlying24
    have own0 : Own (w.alloc (.cells #[] 5)) w.heap.size (.slice (some ⟨w.heap.size, 0, Option.none⟩) 0 0) [] := Own.lit [] (Nat.le_refl _) (by simp)
    have k0 := (Kept.refl w).alloc (.cells #[] 5)
    go_enter Try.func25, Try.ntmps25
    go_wp2_with (first
      | (at_builtin
         refine wpList_append_bts rfl (.tmp 5) (.tmp 6) rfl (v := .slice (some ⟨w.heap.size, 0, Option.none⟩) 0 0) (base := w.heap.size) (ds := []) rfl rfl own0 (hb.out.below k0.1) hnil (by simp; omega) k0.2 ?_
         intro v1 w1 own1 gr1 at1
         have k1 := k0.append own0 gr1
         clear gr1 at1))
    go_ret
    exact ⟨_, rfl, own1, k1.1⟩

end Go.Proofs.Ytifenlopgpbpbaa
