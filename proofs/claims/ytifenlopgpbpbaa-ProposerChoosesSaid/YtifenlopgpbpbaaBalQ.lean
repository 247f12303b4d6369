/- Most, of the program and of the document. -/
import Derived.Test.YtifenlopgpbpbaaBalN
import Derived.Test.YtifenlopgpbpbaaBalM
namespace Go.Proofs.Ytifenlopgpbpbaa
open Go.RowKit Go.Maps

theorem keyedB : Keyed Try.prog 3 := int_keyed Try.underlying3

set_option maxRecDepth 100000 in
set_option maxHeartbeats 2000000 in
theorem most_any {w : World} {A : Option Addr} {N cap : Nat} {L : List Int} {n : Int} (hl : L.length = N) (hR : IntsAt w A L) (hN : N ≤ 1099511627776) (hn : n ≤ 9223372036854775807) :
    Calls Try.prog 22 #[.slice A N cap, .int .i64 n] w fun e w' => e = .returned (.bool (mostB n L)) ∧ Below w.heap.size w w' := by
  have hmm := @run_makeMap Try.prog
  have HI := Lib.hid (issite_any · n)
  have HJ := Lib.hid (major_any n hn)
  have HM : Hid (1 ≤ n → decide (majorI n ≤ (Maps.size (SI n L) : Int)) = mostB n L) := Lib.hid (fun h => by rw [SI_size]; unfold mostB; simp [h])
  have HF : Hid (¬ 1 ≤ n → false = mostB n L) := Lib.hid (fun h => by unfold mostB; simp; omega)
  have HR := Lib.hid hR
  have HL := Lib.hid hl
  have HT := Lib.hid (List.take_length (l := L))
  generalize mostB n L = ans at *
  clear hR hl hn
  go_enter Try.func22, Try.ntmps22
  go_wp2
  go_loopw [11] (fun i wr => ∃ k : Nat, k ≤ N ∧ i = .int .i64 k ∧ Kept w wr ∧ wr.ownsMap Try.prog 3 unitElem w.heap.size k (SI n (L.take k))) (fun i _ => N - (intOf i).toNat)
  case atStart => exact ⟨0, Nat.zero_le _, rfl, (Kept.refl _).alloc _, by rw [List.take_zero]; exact World.ownsMap_made _ _ _ _⟩
  case round =>
    obtain ⟨k, hk, rfl, kk, hown⟩ := hrel
    have HOWN := Lib.hid hown
    have HKK := Lib.hid kk
    clear hown
    by_cases hlt : k < N
    · have hkl : k < L.length := by rw [HL.out]; exact hlt
      obtain ⟨b, off, rfl, hb, hat⟩ := HR.out.2 k hkl
      have hwf := HR.out.1 L[k] (List.getElem_mem hkl)
      have hss := SI_snoc n (L.take k) L[k]
      rw [← List.take_succ_eq_append_getElem hkl] at hss
      generalize hrr : L[k] = s at *
      have HSS := Lib.hid hss
      have hkey : keyOf Try.prog 3 (.int .i64 s) = some (.int .i64 s) := keyOf_int_mk Try.underlying3 (int_wf hwf)
      have c0 := (kk.cell (p := ⟨b, off + k, none⟩) hb).trans hat
      have hi := Lib.hid (HI.out s)
      clear hat hrr hss kk hwf
      have hbw : b < wr.heap.size := Nat.lt_of_lt_of_le hb HKK.out.2
      have hk0 : k + 0 = k := rfl
      cases hsb : isSiteB s n with
      | false =>
        rw [hsb] at hi HSS
        go_wp2_with fail
        refine (hi.out _).mono ?_
        rintro e u ⟨rfl, rfl⟩
        go_wp2
        go_roundw
        case rel => exact ⟨k + 1, by omega, by go_num, HKK.out, by rw [HSS.out]; exact HOWN.out.mono (by omega)⟩
        case measure => simp [intOf]; omega
      | true =>
        rw [hsb] at hi HSS
        go_wp2_with fail
        refine (hi.out _).mono ?_
        rintro e u ⟨rfl, rfl⟩
        go_wp2_with (first
          | (at_mapUpdate; refine wpList_mapUpdate_own _ rfl _ _ _ 80 rfl 3 81 keyedB Try.underlying80 (unitElem (H := Unit)) w.heap.size k _ rfl HOWN.out (by unfold maxLen; omega) _ _ _ rfl rfl hkey _ [] unitElem_mk ?_; intro w1 hown1 hgrow1)
          | fail)
        have hks := HKK.out.2
        have hgs := hgrow1.size
        have kk1 : Kept w w1 := ⟨HKK.out.1.grown hgrow1 (by omega) (fun j hj => by cases hj; exact Nat.le_refl _), by omega⟩
        go_roundw
        case rel => exact ⟨k + 1, by omega, by go_num, kk1, by rw [HSS.out]; exact hown1⟩
        case measure => simp [intOf]; omega
    · obtain rfl : k = N := by omega
      have hown := HOWN.out
      rw [← HL.out, HT.out] at hown
      have HW := Lib.hid hown
      generalize SI n L = D at *
      have hlen := HW.out.len Try.underlying80 3
      generalize Maps.size D = S at HM hlen
      clear hown
      by_cases h1 : 1 ≤ n
      · have hm := HM.out h1
        go_wp2_with fail
        refine (HJ.out _).mono ?_
        rintro e u ⟨rfl, rfl⟩
        generalize majorI n = m at *
        go_wp2
        go_ret
        exact ⟨rfl, HKK.out.1⟩
      · have hf := HF.out (by omega)
        subst hf
        go_wp2
        go_ret
        exact ⟨rfl, HKK.out.1⟩
end Go.Proofs.Ytifenlopgpbpbaa
