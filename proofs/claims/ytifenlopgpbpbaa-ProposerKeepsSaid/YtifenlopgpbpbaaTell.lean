/- Bytes told as a text: 'string(b)' of bytes that lie anywhere. -/
import Derived.Test.YtifenlopgpbpbaaBts
import Derived.Laws.BytesArg
namespace Go.Proofs.Ytifenlopgpbpbaa
open Go.RowKit
/-- the text of these bytes -/
def txt (bs : List Nat) : ByteArray := ⟨(bs.map fun c => UInt8.ofNat c).toArray⟩
theorem txt_nums (bs : List Nat) : strOfNums (bs.map fun c : Nat => (c : Int)) = txt bs := by
  unfold strOfNums txt
  rw [List.map_map]
  rfl
theorem run_text {w : World} {B : Nat} {A : Option Addr} {n c : Nat} {bs : List Nat} (h : Bts w B A n bs) (hn : A = none → n = 0) :
    (convert 24 9 (.slice A n c)).run Try.prog w = .ok (.string (txt bs)) w := by
  obtain ⟨hl, _, hby, hc⟩ := h
  by_cases h0 : n = 0
  · subst h0
    obtain rfl := List.eq_nil_of_length_eq_zero hl
    cases A with
    | none => exact run_convert_bytes_nil w 24 5 Try.underlying24 Try.underlying5 0 c 9 Try.underlying9
    | some a =>
      rw [run_convert_bytes_string w 24 9 5 (some a) 0 c Try.underlying24 Try.underlying5 Try.underlying9]
      exact run_bytesToString w a 0 c [] (by rfl)
  · obtain ⟨b, off, rfl, _, hcs⟩ := hc (by omega)
    have := run_convert_bytes_arg (P := Try.prog) w 24 5 Try.underlying24 Try.underlying5 b off n c (bs.map fun c : Nat => (c : Int)) (by simpa using hl) (fun i hi => by
      rw [hcs i hi]
      congr 2
      rw [List.getD_eq_getElem?_getD, List.getD_eq_getElem?_getD, List.getElem?_map, List.getElem?_eq_getElem (by omega)]
      rfl) 9 Try.underlying9
    rw [this, txt_nums]
theorem txt_inj {a b : List Nat} (ha : ∀ c ∈ a, c < 256) (hb : ∀ c ∈ b, c < 256) (h : txt a = txt b) : a = b := by
  have key : ∀ l : List Nat, (∀ c ∈ l, c < 256) → (l.map fun c => UInt8.ofNat c).map UInt8.toNat = l := by
    intro l hl
    rw [List.map_map]
    conv => rhs; rw [← List.map_id l]
    refine List.map_congr_left fun c hc => ?_
    show (UInt8.ofNat c).toNat = c
    rw [UInt8.toNat_ofNat']
    exact Nat.mod_eq_of_lt (by have := hl c hc; omega)
  have h1 : (a.map fun c => UInt8.ofNat c).toArray = (b.map fun c => UInt8.ofNat c).toArray := congrArg ByteArray.data h
  have h2 := congrArg Array.toList h1
  simp only at h2
  rw [← key a ha, ← key b hb, h2]
end Go.Proofs.Ytifenlopgpbpbaa
