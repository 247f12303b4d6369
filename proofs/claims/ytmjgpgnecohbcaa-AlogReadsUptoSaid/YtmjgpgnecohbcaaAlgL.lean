/- The program's records: Lay. -/
import Derived.Test.YtmjgpgnecohbcaaAlgE
import Derived.Test.YtmjgpgnecohbcaaMgF
namespace Go.Proofs.Ytmjgpgnecohbcaa
open Go.RowKit

set_option maxRecDepth 100000 in
set_option maxHeartbeats 4000000 in
theorem lay_any {w : World} {A : Option Addr} {len cap : Nat} {l : List Rc} (hl : l.length = len) (hR : Rcs w A l) (hm : len ≤ 1073741824) :
    Calls Try.prog 22 #[.slice A len cap] w fun e w' => Below w.heap.size w w' ∧
      (((∀ r ∈ l, r.may) ∧ ∃ v, e = .returned (.tuple #[v, .int .i64 0]) ∧ Own w' w.heap.size v (laidAll l)) ∨ (¬ (∀ r ∈ l, r.may) ∧ e = .returned (.tuple #[.slice none 0 0, .int .i64 1]))) := by
  have HR := Lib.hid hR
  have HL := Lib.hid hl
  clear hR hl
  go_enter Try.func22, Try.ntmps22
  go_wp2
  go_loopw [4, 11] (fun all i wr => ∃ k : Nat, k ≤ len ∧ i = .int .i64 k ∧ Kept w wr ∧ Own wr w.heap.size all (laidAll (l.take k)) ∧ (∀ r ∈ l.take k, r.may)) (fun _ i _ => len - (intOf i).toNat)
  case atStart => exact ⟨0, Nat.zero_le _, rfl, Kept.refl _, by simpa [laidAll, flat] using Own.nil _ _, by simp⟩
  case round =>
    obtain ⟨k, hk, rfl, kk, own, hmay⟩ := hrel
    have HOWN := Lib.hid own
    have HMAY := Lib.hid hmay
    have HKK := Lib.hid kk
    clear own hmay
    by_cases hlt : k < len
    · have hkl : k < l.length := by rw [HL.out]; exact hlt
      obtain ⟨b, off, rfl, hb, hat⟩ := HR.out.2 k hkl
      have hts : l.take (k + 1) = l.take k ++ [l[k]] := List.take_succ_eq_append_getElem hkl
      have hmem : l[k] ∈ l := List.getElem_mem hkl
      generalize hrr : l[k] = r at *
      have HTS := Lib.hid hts
      have HMEM := Lib.hid hmem
      obtain ⟨c0, c1, c2, c3, A2, cc, c4, hrow⟩ := hat.kept kk
      have HROW := Lib.hid hrow
      clear hat hrr hts hmem kk hrow
      have hbw : b < wr.heap.size := Nat.lt_of_lt_of_le hb HKK.out.2
      by_cases hm1 : r.may
      · have HF := Lib.hid (framed_ok (w := wr.alloc (.cells #[.int .i64 r.kind, .int .i64 r.slot, .int .i64 r.round, .int .i64 r.site, .slice A2 r.val.length cc] 52)) hm1 (HROW.out.below ((Below.refl _ _).alloc (Nat.le_refl _) _)))
        have hel := enc_len hm1
        have hfl : Hid ((frm r.enc).length ≤ 2108) := Lib.hid (by rw [frm_len]; omega)
        have hfb := Lib.hid (frm_byte (enc_byte (r := r) HROW.out.bts.2.2.1))
        have hall : Hid (∀ x ∈ l.take (k + 1), x.may) := Lib.hid fun x hx => by
          rw [HTS.out] at hx
          rcases List.mem_append.1 hx with h | h
          · exact HMAY.out x h
          · simp at h; subst h; exact hm1
        have hla := Lib.hid (laidAll_len HMAY.out)
        have hsn : Hid (laidAll (l.take (k + 1)) = laidAll (l.take k) ++ frm r.enc) := Lib.hid (by rw [HTS.out, laidAll_snoc])
        clear hm1 hel
        generalize frm r.enc = E at *
        simp only [rcv] at HF
        go_wp2_with fail
        refine HF.out.mono ?_
        rintro e w1 ⟨v, rfl, own1, h1⟩
        have k1 : Kept w w1 := (HKK.out.alloc _).call h1
        obtain ⟨A1, c1', rfl, r1⟩ := own1.row (by have := hfl.out; omega) hfb.out
        have HO1 := Lib.hid ((HOWN.out.alloc' (.cells #[.int .i64 r.kind, .int .i64 r.slot, .int .i64 r.round, .int .i64 r.site, .slice A2 r.val.length cc] 52)).below h1)
        have HR1 := Lib.hid r1
        clear own1 h1 r1 HF
        have hel := hfl.out
        generalize hEL : E.length = el at *
        go_wp2_with (first
          | (at_builtin
             refine wpList_append_bts rfl (.tmp 23) (.tmp 24) rfl (v := u4) (base := w.heap.size) (ds := laidAll (l.take k)) (bs := E) (n := el) rfl rfl HO1.out HR1.out.bts HR1.out.nil (by have := hla.out; rw [List.length_take] at this; omega) k1.2 ?_
             intro y4 v4 own4 gr4 at4
             have k4 := k1.append HO1.out gr4
             have HO4 := Lib.hid own4
             clear own4 gr4 at4)
          | fail)
        go_roundw
        case rel => exact ⟨k + 1, by omega, by go_num, k4, by rw [hsn.out]; exact HO4.out, hall.out⟩
        case measure => simp [intOf]; omega
      · have HF := Lib.hid (framed_bad (w := wr.alloc (.cells #[.int .i64 r.kind, .int .i64 r.slot, .int .i64 r.round, .int .i64 r.site, .slice A2 r.val.length cc] 52)) (A := A2) (c := cc) hm1 rfl)
        have hno : Hid (¬ ∀ x ∈ l, x.may) := Lib.hid fun h => hm1 (h r HMEM.out)
        clear hm1
        simp only [rcv] at HF
        go_wp2_with fail
        refine HF.out.mono ?_
        rintro e w1 ⟨rfl, h1⟩
        have k1 : Kept w w1 := (HKK.out.alloc _).call h1
        clear h1 HF
        go_wp2
        go_ret2
        exact ⟨k1.1, .inr ⟨hno.out, rfl⟩⟩
    · have hkn : k = len := by omega
      subst hkn
      have e : l.take k = l := List.take_of_length_le (by rw [HL.out]; exact Nat.le_refl _)
      have HO := HOWN.out
      have HM := HMAY.out
      rw [e] at HO HM
      have HO2 := Lib.hid HO
      have HM2 := Lib.hid HM
      clear e HO HM
      go_wp2
      go_ret2
      exact ⟨HKK.out.1, .inl ⟨HM2.out, u4, rfl, HO2.out⟩⟩
end Go.Proofs.Ytmjgpgnecohbcaa
