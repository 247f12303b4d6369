/- Of the document: Read. -/
import Derived.Test.YtmjgpgnecohbcaaAlgZg
import Derived.Test.YtmjgpgnecohbcaaFrmY
namespace Go.Proofs.Ytmjgpgnecohbcaa
open Go.RowKit

theorem flat_take_le (xs : List (List Nat)) (i : Nat) : (flat (xs.take i)).length ≤ (flat xs).length := by
  have := congrArg (fun l => (flat l).length) (List.take_append_drop i xs)
  simp only [flat_append, List.length_append] at this
  omega

set_option maxRecDepth 100000 in
set_option maxHeartbeats 4000000 in
theorem refread_any {w : World} {A : Option Addr} {n cap : Nat} {bs : List Nat} (h : Row w A n cap bs) (hn : n ≤ 1099511627776) :
    Calls Try.prog 26 #[.slice A n cap] w fun e w' => ∃ v its k, e = .returned (.tuple #[v, .int .i64 (k : Nat)]) ∧ OwnR 55 w' w.heap.size v its ∧ Reads bs (its.map It.r) k ∧ Below w.heap.size w w' := by
  have hby := Lib.hid h.bts.2.2.1
  have hlen := Lib.hid h.len
  have hmost := h.most
  have HS := Lib.hid (rscan_room h.bts h.nil h.room hn)
  clear h
  go_enter Try.func26, Try.ntmps26
  go_wp2_with fail
  refine HS.out.mono ?_
  rintro e w1 ⟨A4, c4, xs, k4, rfl, -, hxc, hsc, hb1, hrr⟩
  have k1 := (Kept.refl w).call hb1
  have HRR := Lib.hid hrr
  have HSC := Lib.hid hsc
  have hfl : (flat xs).length ≤ n := by
    obtain ⟨r, e, -, -, -⟩ := hsc
    rw [← hlen.out, e, List.length_append]
    omega
  have hxl : xs.length ≤ n := Nat.le_trans (flat_len xs) hfl
  have HXB := Lib.hid (scanned_byte hby.out hsc)
  have HXS := Lib.hid (rfl : xs.length = xs.length)
  clear hsc hrr HS hb1
  generalize hm : xs.length = m at *
  have HM := Lib.hid hm
  clear hm HXS
  go_wp2_with fail
  go_loopw [6, 7, 8] (fun o nn i wr => ∃ (its : List It) (k : Nat), its.length ≤ m ∧ i = .int .i64 (its.length : Nat) ∧ nn = .int .i64 (k : Nat) ∧ Kept w1 wr ∧ OwnR 55 wr w1.heap.size o its ∧
    rdAll xs = (its.map It.r ++ (rdAll (xs.drop its.length)).1, k + (rdAll (xs.drop its.length)).2) ∧ k = (flat (xs.take its.length)).length) (fun _ _ i _ => m - (intOf i).toNat)
  case atStart => exact ⟨[], 0, Nat.zero_le _, rfl, rfl, Kept.refl _, OwnR.nil _ _ _, by simp, rfl⟩
  case round =>
    obtain ⟨its, k, hk, rfl, rfl, kk, own, hrd, hkf⟩ := hrel
    rename_i wr
    have HRD := Lib.hid hrd
    have HKF := Lib.hid hkf
    have HKK := Lib.hid kk
    have HO := Lib.hid own
    clear hrd hkf kk own
    have HIL : Hid (∀ j, its.length = j → its.length = j) := Lib.hid fun _ h => h
    generalize hj : its.length = j at *
    have HJ := Lib.hid hj
    clear hj HIL
    by_cases hlt : j < m
    · have hjx : j < xs.length := by rw [HM.out]; exact hlt
      obtain ⟨b, off, A1, n1, c1, rfl, hbl, hcell, hbt, hnil1, hroom1, hmost1⟩ := HRR.out j _ (List.getElem?_eq_getElem hjx)
      have hXby := HXB.out _ (List.getElem_mem hjx)
      have hdr := List.drop_eq_getElem_cons hjx
      have hts := List.take_succ_eq_append_getElem hjx
      have hfle := flat_take_le xs (j + 1)
      generalize hX : xs[j] = X at *
      have hXl := hbt.1
      have hft : (flat (xs.take (j + 1))).length = k + 8 + n1 := by
        rw [hts, flat_append, List.length_append, ← HKF.out, show flat [X] = frm X by simp [flat], frm_len, hXl]
        omega
      rw [hft] at hfle
      have HDR := Lib.hid hdr
      have HFT := Lib.hid hft
      have c0 := (HKK.out.cell (p := ⟨b, off + j, none⟩) hbl).trans hcell
      have HROW : Hid (Row wr A1 n1 c1 X) := Lib.hid ⟨(hbt.below HKK.out.1).more HKK.out.2, hnil1, hroom1, by omega⟩
      have HXBY := Lib.hid hXby
      have hbw : b < wr.heap.size := Nat.lt_of_lt_of_le hbl HKK.out.2
      have HCELL := Lib.hid hcell
      clear hbt hcell hts hft hdr hX hXby
      have HD := Lib.hid (refdecode_any HROW.out)
      unfold rcv at HD
      go_wp2_with fail
      refine HD.out.mono ?_
      rintro e w2 ⟨hb2, ⟨hdn, rfl⟩ | ⟨r, A', c', hds, rfl, own2⟩⟩
      · have hrx : rdAll xs = (its.map It.r, k) := by rw [HRD.out, HDR.out, rdAll, hdn]; simp
        have HRX := Lib.hid hrx
        clear hrx hdn
        have HO2 := Lib.hid (HO.out.kept ((Kept.refl wr).call hb2))
        have HK2 := Lib.hid (k1.trans (HKK.out.call hb2))
        clear hb2
        go_wp2
        go_ret2
        exact ⟨u6, its, k, rfl, (HO2.out.kept ((Kept.refl w2).alloc _)).base k1.2, ⟨xs, k4, HSC.out, HRX.out⟩, (HK2.out.alloc _).1⟩
      · obtain ⟨hmay, henc, hbyte⟩ := enc_dec HXBY.out hds
        have hvl : r.val.length ≤ 2048 := hmay.2.2.2.2.2.2.2.1
        obtain ⟨A2, c2, hA2, r2⟩ := own2.row (by omega) hbyte
        rw [Value.slice.injEq] at hA2
        obtain ⟨rfl, -, rfl⟩ := hA2
        have hrx : rdAll xs = ((its ++ [(⟨r, A', c'⟩ : It)]).map It.r ++ (rdAll (xs.drop (j + 1))).1, (k + 8 + n1) + (rdAll (xs.drop (j + 1))).2) := by
          rw [HRD.out, HDR.out, rdAll, hds, hXl]
          refine Prod.ext ?_ ?_
          · simp
          · simp only
            omega
        have HRX := Lib.hid hrx
        have hk2 := HKK.out.call hb2
        have hoff : ∀ a, A' = some a → 0 < r.val.length → u6.ownBlock ≠ some a.block := fun a ha hn e => by
          have h1 := (World.ownsRow.lt own2 a.block (by rw [ha]; rfl)).1
          have h2 := (World.ownsRow.lt HO.out.row _ e).2
          omega
        obtain ⟨kd, sl, rd, st, val⟩ := r
        simp only at hoff r2 own2 hrx
        have k3 : Kept w2 ((w2.alloc (.cells #[.int .i64 kd, .int .i64 sl, .int .i64 rd, .int .i64 st, .slice A' val.length c'] 55)).alloc (.cells #[.int .i64 kd, .int .i64 sl, .int .i64 rd, .int .i64 st, .slice A' val.length c'] 55)) := ((Kept.refl w2).alloc _).alloc _
        have HX : Hid (∀ y ∈ [(⟨⟨kd, sl, rd, st, val⟩, A', c'⟩ : It)], y.ok ((w2.alloc (.cells #[.int .i64 kd, .int .i64 sl, .int .i64 rd, .int .i64 st, .slice A' val.length c'] 55)).alloc (.cells #[.int .i64 kd, .int .i64 sl, .int .i64 rd, .int .i64 st, .slice A' val.length c'] 55)) ∧ y.off u6.ownBlock) := Lib.hid (by
          intro y hy
          simp only [List.mem_singleton] at hy
          subst hy
          exact ⟨It.ok.kept (show It.ok w2 ⟨⟨kd, sl, rd, st, val⟩, A', c'⟩ from r2) k3, hoff⟩)
        have HCN := Lib.hid (cells_new (w2.alloc (.cells #[.int .i64 kd, .int .i64 sl, .int .i64 rd, .int .i64 st, .slice A' val.length c'] 55)) ⟨⟨kd, sl, rd, st, val⟩, A', c'⟩ 55)
        rw [World.size_alloc] at HCN
        have HO2 := Lib.hid (HO.out.kept ((Kept.refl wr).call hb2))
        have HK2 := Lib.hid hk2
        have K3 := Lib.hid k3
        have e1 : IntKind.i64.wrap ((k : Int) + 8) = ((k + 8 : Nat) : Int) := by rw [IntKind.wrap_i64]; omega
        obtain ⟨k8, hk8, hk8n⟩ : ∃ k8, k + 8 = k8 ∧ k8 + n1 ≤ n := ⟨_, rfl, by omega⟩
        rw [hk8] at e1 HRX HFT
        have e2 : IntKind.i64.wrap ((k8 : Int) + (n1 : Int)) = ((k8 + n1 : Nat) : Int) := by rw [IntKind.wrap_i64]; omega
        have HFT' := HFT
        clear hoff r2 own2 hrx hk2 k3 hb2 hmay henc hbyte hds hvl hk8 hfle HD c0
        have c0 := (HK2.out.cell (p := ⟨b, off + j, none⟩) hbl).trans HCELL.out
        go_wp2_with (first
          | (at_builtin
             refine wpList_append_ref rfl (.tmp 34) (.tmp 36) rfl (v := u6) (base := w1.heap.size) (l := its) (m := [⟨⟨kd, sl, rd, st, val⟩, A', c'⟩]) (k := 1) (c := 1) (ad := ⟨w2.heap.size + 1, 0, none⟩) rfl rfl rfl (HO2.out.kept K3.out) HX.out HCN.out (by rw [HJ.out]; omega) (HK2.out.trans K3.out).2 ?_
             intro v' w5 own5 gr5 at5
             have k5 : Kept w1 w5 := ⟨(HK2.out.trans K3.out).1.grown gr5 (HK2.out.trans K3.out).2 (fun j h => (World.ownsRow.lt HO2.out.row j h).1), Nat.le_trans (HK2.out.trans K3.out).2 gr5.size⟩
             have HO5 := Lib.hid own5
             have c5 := (k5.cell (p := ⟨b, off + j, none⟩) hbl).trans HCELL.out
             clear own5 gr5 at5)
          | fail)
        go_roundw
        case rel => exact ⟨its ++ [⟨⟨kd, sl, rd, st, val⟩, A', c'⟩], k8 + n1, by rw [List.length_append, HJ.out]; simp; omega, by rw [List.length_append, HJ.out]; simp, by simp, k5, HO5.out, by rw [List.length_append, HJ.out]; exact HRX.out, by rw [List.length_append, HJ.out]; exact HFT'.out.symm⟩
        case measure => simp [intOf]; omega
    · have hjm : j = m := by omega
      subst hjm
      have hrx : rdAll xs = (its.map It.r, k) := by
        rw [HRD.out, List.drop_eq_nil_of_le (by rw [HM.out]; exact Nat.le_refl _), rdAll]
        simp
      have HRX := Lib.hid hrx
      clear hrx
      go_wp2
      go_ret2
      exact ⟨u6, its, k, rfl, HO.out.base k1.2, ⟨xs, k4, HSC.out, HRX.out⟩, (k1.trans HKK.out).1⟩
end Go.Proofs.Ytmjgpgnecohbcaa
