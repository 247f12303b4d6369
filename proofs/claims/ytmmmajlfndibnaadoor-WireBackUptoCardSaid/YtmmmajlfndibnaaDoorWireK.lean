/- awake of the laws on wire: true, in every world that holds what the laid variable holds. -/
import Derived.Test.YtmmmajlfndibnaaDoorWireE
import Derived.Lib.SlBytesConst
namespace Go.Proofs.YtmmmajlfndibnaaDoor
open Go.RowKit

theorem put300 : put 300 = [172, 2] := by
  rw [put_big (by decide), put_small (by decide)]
theorem putm1 : put (zig (-1)) = [1] := by
  have : zig (-1) = 1 := by decide
  rw [this, put_small (by decide)]
theorem put2 : put 2 = [2] := put_small (by decide)
theorem get5 : get [5, 128, 0] = (5, 1, 0) := by decide
theorem get128 : get [128, 0] = (0, 0, 2) := by decide
theorem txtAwake : txt [172, 2, 1, 2, 97, 98] = ⟨#[172, 2, 1, 2, 97, 98]⟩ := rfl

set_option maxRecDepth 100000 in
set_option maxHeartbeats 4000000 in
theorem awake_any (w : World) (hg : Laid w) : Calls Tryd.prog 9 #[] w fun e w' => e = .returned (.bool true) ∧ Below w.heap.size w w' := by
  have kc := fun (w : World) (C : Array Value) (n c : Nat) => Lib.run_convert_bytes_const (P := Tryd.prog) w 24 5 C n c Tryd.underlying24 Tryd.underlying5
  go_enter Tryd.func9, Tryd.ntmps9
  go_wp2_with fail
  have k0 : Kept w (w.alloc (.cells #[.slice none 0 0] 53)) := (Kept.refl w).alloc _
  refine (wuint_any w.heap.size w.heap.size [] 300 _ (Wr.new w _ (Nat.le_refl _)) (by decide) (by rw [put300]; decide)).mono ?_
  rintro e w1 ⟨rfl, h1, b1, -⟩
  rw [put300] at h1
  have k1 : Kept w w1 := ⟨k0.1.trans b1, h1.hs⟩
  clear k0 b1
  go_wp2_with fail
  refine (wint_any w.heap.size w.heap.size _ (-1) (by decide) (by decide) w1 h1 (by rw [putm1]; decide)).mono ?_
  rintro e w2 ⟨rfl, h2, b2, -⟩
  rw [putm1] at h2
  have k2 : Kept w w2 := ⟨k1.1.trans b2, h2.hs⟩
  clear k1 h1 b2 w1
  go_wp2_with fail
  have k3 := k2.alloc (.cells #[.int .u8 97, .int .u8 98] 5 (2, 3))
  have h3 := h2.below (w' := w2.alloc (.cells #[.int .u8 97, .int .u8 98] 5 (2, 3))) ((Below.refl _ _).alloc (Nat.le_refl _) _)
  have hlt := h2.lt
  have hrl := h2.row_lt
  have hro : rowOf (w2.alloc (.cells #[.int .u8 97, .int .u8 98] 5 (2, 3))) w.heap.size = rowOf w2 w.heap.size := by
    obtain ⟨v, hv, _⟩ := h2.cell
    rw [rowOf_is hv, rowOf_is ((Below.heap_alloc _ _ _ hlt).trans hv)]
  refine (wbytes_any w.heap.size w.heap.size _ [97, 98] (some ⟨w2.heap.size, 0, none⟩) 2 2 _ h3 (bts_new w2 5 (2, 3) [97, 98] (by decide) (by decide)) ?_ (fun h => by cases h) (by decide)).mono ?_
  · rintro a e _
    injection e with e
    subst e
    rw [hro]
    exact ⟨by simp only; omega, fun h => by have := (hrl _ h).2; simp only at this; omega⟩
  rintro e w4 ⟨rfl, h4, b4, -⟩
  rw [put2] at h4
  have k4 : Kept w w4 := ⟨k3.1.trans b4, h4.hs⟩
  clear k3 h3 h2 b4 k2 hro hrl hlt
  go_wp2_with fail
  have k5 := k4.alloc (.cells #[.int .u8 5, .int .u8 128, .int .u8 0] 5)
  have b5 : Below w4.heap.size w4 (w4.alloc (.cells #[.int .u8 5, .int .u8 128, .int .u8 0] 5)) := (Below.refl _ _).alloc (Nat.le_refl _) _
  have row : Row (w4.alloc (.cells #[.int .u8 5, .int .u8 128, .int .u8 0] 5)) (some ⟨w4.heap.size, 0, none⟩) 3 3 [5, 128, 0] :=
    ⟨bts_new w4 5 (0, 0) [5, 128, 0] (by decide) (by decide), fun h => (by cases h), by decide, by decide⟩
  refine (from_any _ 3 3 [5, 128, 0] _ row).mono ?_
  rintro e w6 ⟨r, rfl, rd, hr, b6⟩
  have hr4 : w4.heap.size ≤ r := Nat.le_trans b5.size hr
  have b6' := b5.trans (b6.mono b5.size)
  clear b5 b6 row k5 hr
  go_wp2_with fail
  refine (runt_any r _ 0 _ rd).mono ?_
  rintro e w7 ⟨rfl, rd7, o7⟩
  have b7 := b6'.trans (o7.below hr4 b6'.size)
  have e7 : get ([5, 128, 0].drop 0) = (5, 1, 0) := get5
  rw [e7] at rd7 ⊢
  clear b6' o7 rd
  go_wp2_with fail
  refine (runt_any r _ _ _ rd7).mono ?_
  rintro e w8 ⟨rfl, rd8, o8⟩
  have b8 := b7.trans (o8.below hr4 b7.size)
  have e8 : get ([5, 128, 0].drop (0 + 1)) = (0, 0, 2) := get128
  rw [e8] at rd8 ⊢
  clear b7 o8 rd7 rd8 hr4
  have h8 := h4.below b8
  have k8 := k4.call b8
  clear b8 h4 k4
  go_wp2_with fail
  refine (told_any _ _ _ _ h8 (by decide)).mono ?_
  rintro e w9 ⟨v, rfl, own, b9⟩
  have k9 := k8.call b9
  obtain ⟨A, cap, rfl, hrow⟩ := own.row (by decide) (by decide)
  have kt := run_text (n := 6) (c := cap) hrow.bts (fun h => by have := hrow.nil h; have : (6 : Nat) ≤ cap := hrow.room; omega)
  have e9 : txt ([] ++ [172, 2] ++ [1] ++ ([2] ++ [97, 98])) = ⟨#[172, 2, 1, 2, 97, 98]⟩ := txtAwake
  rw [e9] at kt
  clear own b9 hrow e9 h8 k8
  have hE : errv 0 0 = .nilIface := rfl
  have hF : errv 2 (0 + 1) = fault 2 1 := rfl
  have hg9 := hg.below k9.1
  have kn := run_eql_nil_nil (P := Tryd.prog) w9 43 (by kernel_rfl)
  go_wp2_with (first
    | (go_at_call 27; refine (code_fault 2 1 _ hg9).mono ?_; rintro e w10 ⟨rfl, b10⟩; have k10 := k9.call b10; have hg10 := hg.below k10.1; clear b10)
    | (go_at_call 26; refine (at_fault 2 1 _ hg10).mono ?_; rintro e w11 ⟨rfl, b11⟩; have k11 := k10.call b11; clear b11)
    | fail)
  go_ret
  exact ⟨rfl, k11.1⟩
end Go.Proofs.YtmmmajlfndibnaaDoor
