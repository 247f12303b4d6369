/- Slices of bytes: an argument as one that may be read and cut; told as a text; equality of such texts. -/
import Derived.Test.YtifenlopgpbpbaaRow
import Derived.Test.YtifenlopgpbpbaaTell
import Derived.Laws.Strings
namespace Go.Proofs.Ytifenlopgpbpbaa
open Go.RowKit

theorem Row.of {w : World} {A : Option Addr} {n cap : Nat} (h : SliceAt 1 1 (IsInt .u8) w A n cap) : ∃ bs, Row w A n cap bs := by
  obtain ⟨bs, hb⟩ := bts_of h
  exact ⟨bs, hb, h.2.2.2.1, h.1, h.2.1⟩
theorem Row.str {w : World} {A : Option Addr} {n cap : Nat} {bs : List Nat} (h : Row w A n cap bs) : (convert 24 9 (.slice A n cap)).run Try.prog w = .ok (.string (txt bs)) w :=
  run_text h.bts fun e => by have := h.nil e; have := h.room; omega
theorem eq_txt {a b : List Nat} (ha : ∀ c ∈ a, c < 256) (hb : ∀ c ∈ b, c < 256) : ((txt a).toList == (txt b).toList) = decide (a = b) := by
  rw [ByteArray.toList_eq, ByteArray.toList_eq]
  by_cases h : a = b
  · subst h; simp
  · rw [decide_eq_false h, beq_eq_false_iff_ne]
    intro e
    exact h (txt_inj ha hb (ByteArray.ext (Array.toList_inj.1 e)))
end Go.Proofs.Ytifenlopgpbpbaa
