/- FrameBehind -/
import Derived.Test.YtebpbholelhbgaaFrmK
namespace Go.Proofs.Ytebpbholelhbgaa
open Go.RowKit

set_option maxHeartbeats 4000000 in
theorem FrameBehind_walk (a0 : Option Addr) (len0 cap0 : Nat) (a1 : Option Addr) (len1 cap1 : Nat) (w : World) (w0 : SliceAt 1 1 (IsInt .u8) w a0 len0 cap0) (w1 : SliceAt 1 1 (IsInt .u8) w a1 len1 cap1) :
    Calls Try.prog 7 #[.slice a0 len0 cap0, .slice a1 len1 cap1] w fun e w' => e = .returned (.bool true) ∧ Below w.heap.size w w' := by
  obtain ⟨bs, hb⟩ := bts_of w0
  obtain ⟨ms, hm⟩ := bts_of w1
  have hnil := w0.2.2.2.1
  have hcap := w0.1
  have hnil1 := w1.2.2.2.1
  have hcap1 := w1.1
  have hl0 : len0 ≤ 140737488351232 := by have := w0.2.2.1; omega
  have hl1 : len1 ≤ 140737488351232 := by have := w1.2.2.1; omega
  have HB := Lib.hid hb
  have HM := Lib.hid hm
  have hby := Lib.hid hb.2.2.1
  have hmy := Lib.hid hm.2.2.1
  have HL := Lib.hid hb.1
  have HML := Lib.hid hm.1
  clear w0 w1 hb hm
  go_enter Try.func7, Try.ntmps7
  go_wp2_with fail
  refine (awake_any _).mono ?_
  rintro e v1 ⟨rfl, h1⟩
  have k1 : Kept w v1 := (Kept.refl w).call h1
  clear h1
  go_wp2_with fail
  by_cases hn : len0 ≤ 4096
  · have HF := Lib.hid (frm_len bs)
    have HFB := Lib.hid (frm_byte hby.out)
    have HTK := Lib.hid (tke_frm (b := bs) (by rw [HL.out]; exact hn) hby.out ms)
    refine (put_any (bs := bs) ((HB.out.below k1.1).more k1.2) hnil hn).mono ?_
    rintro e v2 ⟨x, rfl, o2, h2⟩
    have k2 := k1.call h2
    clear h2
    generalize frm bs = F at *
    obtain ⟨A2, c2, rfl, r2⟩ := o2.row (by rw [HF.out, HL.out]; omega) HFB.out
    have R2 := Lib.hid r2
    have HFL : Hid (F.length ≤ 4104) := Lib.hid (by rw [HF.out, HL.out]; omega)
    generalize hfl : F.length = fl at *
    have HFE := Lib.hid hfl
    clear o2 r2 hfl
    have q0 := (Kept.refl v2).alloc (.cells #[] 5)
    have own0 : Own (v2.alloc (.cells #[] 5)) v2.heap.size (.slice (some ⟨v2.heap.size, 0, none⟩) 0 0) [] := Own.lit [] (Nat.le_refl _) (by simp)
    go_wp2_with (first
      | (at_builtin
         refine wpList_append_bts rfl (.tmp 26) (.tmp 27) rfl (v := .slice (some ⟨v2.heap.size, 0, none⟩) 0 0) (base := v2.heap.size) (ds := []) (bs := F) (n := fl) rfl rfl own0 (R2.out.bts.below q0.1) R2.out.nil (by have := HFL.out; simp; omega) q0.2 ?_
         intro y3 v3 own3 gr3 at3
         have q3 := q0.append own0 gr3
         have O3 := Lib.hid own3
         clear own3 gr3 at3)
      | (at_builtin
         refine wpList_append_bts rfl (.tmp 28) (.tmp 29) rfl (v := y3) (base := v2.heap.size) (ds := [] ++ F) (bs := ms) (n := len1) rfl rfl O3.out ((HM.out.below k2.1).below (q3.1.mono k2.2)) hnil1 (by rw [List.nil_append, HFE.out]; have := HFL.out; omega) q3.2 ?_
         intro y4 v4 own4 gr4 at4
         have q4 := q3.append O3.out gr4
         have O4 := Lib.hid own4
         obtain ⟨A4, n4, c4, rfl⟩ := own4.slice
         clear own4 gr4 at4)
      | fail)
    obtain ⟨A5, c5, e5, r5⟩ := O4.out.row (by rw [List.nil_append, List.length_append, HFE.out, HML.out]; have := HFL.out; omega) (fun c hc => by
      rw [List.nil_append] at hc
      rcases List.mem_append.1 hc with h | h
      · exact HFB.out c h
      · exact hmy.out c h)
    rw [List.nil_append] at e5 r5
    have k4 := k2.trans q4
    injection e5 with e5 e6 e7
    subst e5 e7
    rw [← e6] at r5
    refine (take_any r5).mono ?_
    rw [HTK.out]
    rintro e v6 ⟨y1, y2, rfl, o1, o2, h6⟩
    have k6 := k4.call h6
    change Own v6 v4.heap.size y1 bs at o1
    change Own v6 v4.heap.size y2 ms at o2
    obtain ⟨A6, c6, rfl, r6⟩ := o1.row (by rw [HL.out]; omega) hby.out
    obtain ⟨A7, c7, rfl, r7⟩ := o2.row (by rw [HML.out]; omega) hmy.out
    have t1 := run_text (c := c6) r6.bts (fun h => by have := r6.nil h; have := r6.room; omega)
    have t2 := run_text (c := c7) r7.bts (fun h => by have := r7.nil h; have := r7.room; omega)
    have t3 := run_text (c := cap0) (HB.out.below k6.1) (fun h => by have := hnil h; omega)
    have t4 := run_text (c := cap1) (HM.out.below k6.1) (fun h => by have := hnil1 h; omega)
    generalize txt bs = X at *
    generalize txt ms = Y at *
    generalize bs.length = m1 at *
    generalize ms.length = m2 at *
    clear o1 o2 h6 r6 r7
    go_wp2
    go_ret
    exact ⟨rfl, k6.1⟩
  · refine (put_many (by omega)).mono ?_
    rintro e v2 ⟨rfl, rfl⟩
    go_wp2
    go_ret
    refine ⟨?_, k1.1⟩
    change Ending.returned (.bool (decide ((4096 : Int) < len0))) = _
    rw [decide_eq_true (by omega)]
end Go.Proofs.Ytebpbholelhbgaa
