/- FrameAgain, of bulk at most 1048576 -/
import Derived.Test.YtebpbholelhbgaaFrmK
import Derived.Test.YtebpbholelhbgaaBulk
import Derived.Test.YtebpbholelhbgaaBare
namespace Go.Proofs.Ytebpbholelhbgaa
open Go.RowKit

theorem flat_take (xs : List (List Nat)) (k : Nat) : (flat (xs.take k)).length ≤ (flat xs).length := by
  have e : flat xs = flat (xs.take k) ++ flat (xs.drop k) := by rw [← flat_append, List.take_append_drop]
  rw [e, List.length_append]
  omega
theorem flat_snoc {xs : List (List Nat)} {k : Nat} (h : k < xs.length) : flat (xs.take (k + 1)) = flat (xs.take k) ++ frm xs[k] := by
  rw [List.take_succ_eq_append_getElem h, flat_append, show flat [xs[k]] = frm xs[k] by simp [flat]]

set_option maxHeartbeats 4000000 in
theorem FrameAgain_walk (a0 : Option Addr) (len0 cap0 : Nat) (b0 : Nat) (w : World) (_ : Laid w) (w0 : SliceAt 1 1 (IsInt .u8) w a0 len0 cap0) (u0 : SSlice 1 SOne w [.slice a0 len0 cap0] b0) (hk : b0 ≤ 1048576) :
    Calls Try.prog 8 #[.slice a0 len0 cap0] w fun e w' => e = .returned (.bool true) ∧ Below w.heap.size w w' := by
  obtain ⟨bs, hb⟩ := bts_of w0
  have hnil := w0.2.2.2.1
  have hcap := w0.1
  have hmost := w0.2.1
  have hl0 := bulk_len w0 u0
  have HB := Lib.hid hb
  have hby := Lib.hid hb.2.2.1
  have HL := Lib.hid hb.1
  clear w0 hb u0
  go_enter Try.func8, Try.ntmps8
  go_wp2_with fail
  refine (awake_any _).mono ?_
  rintro e v1 ⟨rfl, h1⟩
  have k1 : Kept w v1 := (Kept.refl w).call h1
  clear h1
  go_wp2_with fail
  refine (scan_any (bs := bs) ⟨(HB.out.below k1.1).more k1.2, hnil, hcap, hmost⟩ (by omega)).mono ?_
  rintro e v2 ⟨A5, c5, xs, n2, rfl, hrw, -, hsc, h2⟩
  have k2 := k1.call h2
  obtain ⟨q, e1, e2, hx4, -⟩ := hsc
  have hn2 : n2 ≤ len0 := by
    have := congrArg List.length e1
    rw [List.length_append, HL.out] at this
    omega
  have HTK : Hid (bs.take n2 = flat xs) := Lib.hid (by rw [e1, e2, List.take_left])
  have HRW := Lib.hid hrw
  have HX4 := Lib.hid hx4
  have HN2 := Lib.hid e2
  have hfb : ∀ c ∈ flat xs, c < 256 := fun c hc => hby.out c (by rw [e1]; exact List.mem_append_left _ hc)
  have HFB := Lib.hid hfb
  have hxm : xs.length ≤ 1048576 := by have := flat_len xs; omega
  clear h2 hrw hx4 e1 e2 hfb
  generalize hxl : xs.length = m at *
  have HXL := Lib.hid hxl
  clear hxl
  go_wp2
  go_loopw [6, 7] (fun o i wr => ∃ (k : Nat), i = .int .i64 k ∧ k ≤ m ∧ Kept v2 wr ∧ Own wr v2.heap.size o (flat (xs.take k))) (fun _ i _ => m - (intOf i).toNat)
  case atStart => exact ⟨0, rfl, by omega, Kept.refl _, by simpa [flat] using Own.nil _ _⟩
  case round =>
    obtain ⟨k, rfl, hkm, kk, own⟩ := hrel
    have HO := Lib.hid own
    clear own
    by_cases hlt : k < m
    · have hkl : k < xs.length := by rw [HXL.out]; exact hlt
      have HKL := Lib.hid hkl
      have hx : xs[k]? = some xs[k] := List.getElem?_eq_getElem hkl
      obtain ⟨bb, off, v, rfl, hbb, hc, Aa, na, ca, rfl, ha1, ha2, -⟩ := HRW.out.2 k _ hx
      have hc' := (kk.cell (p := ⟨bb, off + k, none⟩) hbb).trans hc
      have hya := HX4.out _ (List.getElem_mem hkl)
      have hyb := ha1.2.2.1
      have hyl := ha1.1
      have HS := Lib.hid (flat_snoc hkl)
      have HFT := Lib.hid (flat_take xs k)
      have HA1 := Lib.hid ((ha1.below kk.1).more kk.2)
      generalize xs[k] = y at *
      have hna : na ≤ 4096 := by omega
      have hcn : Aa = none → ca = 0 := fun h => (ha2 h).2
      have HFL := Lib.hid (frm_len y)
      have HFY := Lib.hid (frm_byte hyb)
      have HYL := Lib.hid hyl
      clear hkl hx hc ha1 ha2 hya hyb hyl hbb
      go_wp2_with fail
      refine (put_any (bs := y) HA1.out hcn hna).mono ?_
      rintro e v3 ⟨x, rfl, o3, h3⟩
      have k3 := kk.call h3
      have HO3 := Lib.hid (Own.below HO.out h3)
      obtain ⟨A3, c3, rfl, r3⟩ := o3.row (by rw [HFL.out, HYL.out]; omega) HFY.out
      have R3 := Lib.hid r3
      have hfl3 : (frm y).length ≤ 4104 := by rw [HFL.out, HYL.out]; omega
      generalize frm y = F at *
      generalize hflE : F.length = fl at *
      have HFLE := Lib.hid hflE
      clear o3 h3 r3 hflE
      go_wp2_with (first
        | (at_builtin
           refine wpList_append_bts rfl (.tmp 32) (.tmp 33) rfl (v := u6) (base := v2.heap.size) (ds := flat (xs.take k)) (bs := F) (n := fl) rfl rfl HO3.out R3.out.bts R3.out.nil (by have := HFT.out; have := HN2.out; omega) k3.2 ?_
           intro y4 v4 own4 gr4 at4
           have k4 := k3.append HO3.out gr4
           have HO4 := Lib.hid own4
           clear own4 gr4 at4)
        | fail)
      go_roundw
      case rel => exact ⟨k + 1, by go_num, by omega, k4, by rw [HS.out]; exact HO4.out⟩
      case measure => simp [intOf]; omega
    · have hkm' : k = m := by omega
      have e5 : flat (xs.take k) = flat xs := by rw [List.take_of_length_le (by rw [HXL.out]; omega)]
      have O5 := HO.out
      rw [e5] at O5
      have hfl := Lib.hid (show (flat xs).length ≤ 1048576 by have := HN2.out; omega)
      obtain ⟨A6, c6, rfl, r6⟩ := O5.row (by have := hfl.out; omega) HFB.out
      have hsl := fun W => run_headK .i64 a0 len0 cap0 n2 (by omega) W
      have hw := k2.trans kk
      have hB2 := (HB.out.below hw.1).head (m := n2) hn2
      rw [HTK.out] at hB2
      have t1 : (convert 22 9 (.slice A6 (flat xs).length c6)).run Try.prog wr.drew = .ok (.string (txt (flat xs))) wr.drew := run_text (c := c6) (r6.bts.below ((Below.refl _ _).drew)) (fun h => by have := r6.nil h; have := r6.room; omega)
      have t2 : (convert 22 9 (.slice a0 n2 cap0)).run Try.prog wr.drew = .ok (.string (txt (flat xs))) wr.drew := run_text (c := cap0) (hB2.below ((Below.refl _ _).drew)) (fun h => by have := hnil h; omega)
      generalize txt (flat xs) = X at *
      generalize (flat xs).length = fl at *
      subst hkm'
      clear O5 r6 hB2 e5 HO
      go_wp2
      go_region
      go_wp2
      go_ret
      exact ⟨by go_simp, hw.1.drew⟩
end Go.Proofs.Ytebpbholelhbgaa
