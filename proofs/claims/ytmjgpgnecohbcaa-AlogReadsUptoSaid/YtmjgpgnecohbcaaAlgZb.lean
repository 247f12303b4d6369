/- The document's Encode. -/
import Derived.Test.YtmjgpgnecohbcaaAlgZa
import Derived.Test.YtmjgpgnecohbcaaWireG
import Derived.Test.YtmjgpgnecohbcaaAlgB
namespace Go.Proofs.Ytmjgpgnecohbcaa
open Go.RowKit Go.Maps

set_option maxRecDepth 100000 in
set_option maxHeartbeats 4000000 in
theorem refencode_ok {w : World} {r : Rc} {A : Option Addr} {n c : Nat} (hr : r.may) (hv : Row w A n c r.val) :
    Calls Try.prog 40 #[rcv r A n c] w fun e w' => ∃ v, e = .returned (.tuple #[v, .int .i64 0]) ∧ Own w' w.heap.size v r.enc ∧ Below w.heap.size w w' := by
  have hb := r.mayB_yes hr
  have HM := Lib.hid (refmay_any r A n c hv.len)
  rw [hb] at HM
  have h8 := hr.2.2.2.2.2.2.2.1
  have hk0 : 0 ≤ r.kind := by have := hr.1; omega
  have hs0 := hr.2.1
  have hr0 := hr.2.2.2.1
  have ht0 := hr.2.2.2.2.2.1
  have hnm := nums_may hr
  have HV := Lib.hid hv
  have hvl := hv.len
  clear hb hv hr
  obtain ⟨kind, slot, round, site, val⟩ := r
  simp only [rcv, Rc.nums] at *
  obtain ⟨k, rfl⟩ := Int.eq_ofNat_of_zero_le hk0
  obtain ⟨s, rfl⟩ := Int.eq_ofNat_of_zero_le hs0
  obtain ⟨q, rfl⟩ := Int.eq_ofNat_of_zero_le hr0
  obtain ⟨t, rfl⟩ := Int.eq_ofNat_of_zero_le ht0
  simp only [Int.toNat_natCast] at *
  have hk1 := hnm k (by simp); have hs1 := hnm s (by simp); have hq1 := hnm q (by simp); have ht1 := hnm t (by simp)
  have HE : Hid (Rc.enc { kind := (k : Int), slot := (s : Int), round := (q : Int), site := (t : Int), val := val } = put k ++ put s ++ put q ++ put t ++ (put val.length ++ val)) := Lib.hid (by simp [Rc.enc, Rc.nums, puts])
  generalize Rc.enc { kind := (k : Int), slot := (s : Int), round := (q : Int), site := (t : Int), val := val } = E at *
  clear hk0 hs0 hr0 ht0 hnm
  have pl : ∀ x, x ≤ 1099511627776 → (put x).length ≤ 10 := fun x hx => put_ten (by omega)
  have L1 := pl k hk1; have L2 := pl s hs1; have L3 := pl q hq1; have L4 := pl t ht1
  have HB2 := Lib.hid (put_byte s); have HB3 := Lib.hid (put_byte q); have HB4 := Lib.hid (put_byte t)
  clear pl
  go_enter Try.func40, Try.ntmps40
  go_wp2_with fail
  refine (HM.out _).mono ?_
  rintro e w1 ⟨rfl, h1⟩
  have hs9 : w.heap.size < w1.heap.size := by have := h1.size; simp only [World.size_alloc] at this; omega
  have hx1 := (h1.block w.heap.size (by simp)).trans (push_new w _)
  have T1 := Lib.hid fun (W : World) (h : Kept w1 W) => five ((h.1.block w.heap.size hs9).trans hx1)
  obtain ⟨c0, c1, c2, c3, c4⟩ := five hx1
  have K0 := Lib.hid (((Kept.refl w).alloc _).call h1)
  clear h1 hx1
  generalize hP1 : put k = P1 at *
  generalize hP2 : put s = P2 at *
  generalize hP3 : put q = P3 at *
  generalize hP4 : put t = P4 at *
  go_wp2_with fail
  refine (refuint_any k (by omega) _).mono ?_
  rintro e w2 ⟨v2, rfl, own2, hb2⟩
  rw [hP1] at own2
  have k2 : Kept w1 w2 := ⟨hb2, hb2.size⟩
  obtain ⟨d0, d1, d2, d3, d4⟩ := T1.out w2 k2
  have O2 := Lib.hid own2
  have K2 := Lib.hid k2
  clear own2 k2 hb2 c0 c1 c2 c3 c4
  go_wp2_with fail
  refine (refuint_any s (by omega) _).mono ?_
  rintro e w3 ⟨v3, rfl, own3, hb3⟩
  rw [hP2] at own3
  obtain ⟨A3, cc3, rfl, row3⟩ := own3.row (by omega) HB2.out
  have k3 := K2.out.call hb3
  have O3 := Lib.hid (O2.out.below hb3)
  have R3 := Lib.hid row3
  have K3 := Lib.hid k3
  clear own3 row3 hb3 k3 d0 d1 d2 d3 d4
  go_wp2_with (first
    | (at_builtin
       refine wpList_append_bts rfl (.tmp 12) (.tmp 16) rfl (v := v2) (base := w1.heap.size) (ds := P1) (bs := P2) (n := P2.length) rfl rfl O3.out R3.out.bts R3.out.nil (by (try simp only [List.length_append]); omega) K3.out.2 ?_
       intro v4 w4 own4 gr4 _
       have k4 := K3.out.append O3.out gr4
       obtain ⟨d0, d1, d2, d3, d4⟩ := T1.out w4 k4
       have O4 := Lib.hid own4
       have K4 := Lib.hid k4
       clear own4 gr4 k4)
    | fail)
  refine (refuint_any q (by omega) _).mono ?_
  rintro e w5 ⟨v5, rfl, own5, hb5⟩
  rw [hP3] at own5
  obtain ⟨A5, cc5, rfl, row5⟩ := own5.row (by omega) HB3.out
  have k5 := K4.out.call hb5
  have O5 := Lib.hid (O4.out.below hb5)
  have R5 := Lib.hid row5
  have K5 := Lib.hid k5
  clear own5 row5 hb5 k5 d0 d1 d2 d3 d4
  go_wp2_with (first
    | (at_builtin
       refine wpList_append_bts rfl (.tmp 18) (.tmp 23) rfl (v := v4) (base := w1.heap.size) (ds := (P1 ++ P2)) (bs := P3) (n := P3.length) rfl rfl O5.out R5.out.bts R5.out.nil (by (try simp only [List.length_append]); omega) K5.out.2 ?_
       intro v6 w6 own6 gr6 _
       have k6 := K5.out.append O5.out gr6
       obtain ⟨d0, d1, d2, d3, d4⟩ := T1.out w6 k6
       have O6 := Lib.hid own6
       have K6 := Lib.hid k6
       clear own6 gr6 k6)
    | fail)
  refine (refuint_any t (by omega) _).mono ?_
  rintro e w7 ⟨v7, rfl, own7, hb7⟩
  rw [hP4] at own7
  obtain ⟨A7, cc7, rfl, row7⟩ := own7.row (by omega) HB4.out
  have k7 := K6.out.call hb7
  have O7 := Lib.hid (O6.out.below hb7)
  have R7 := Lib.hid row7
  have K7 := Lib.hid k7
  clear own7 row7 hb7 k7 d0 d1 d2 d3 d4
  go_wp2_with (first
    | (at_builtin
       refine wpList_append_bts rfl (.tmp 25) (.tmp 30) rfl (v := v6) (base := w1.heap.size) (ds := ((P1 ++ P2) ++ P3)) (bs := P4) (n := P4.length) rfl rfl O7.out R7.out.bts R7.out.nil (by (try simp only [List.length_append]); omega) K7.out.2 ?_
       intro v8 w8 own8 gr8 _
       have k8 := K7.out.append O7.out gr8
       obtain ⟨d0, d1, d2, d3, d4⟩ := T1.out w8 k8
       have O8 := Lib.hid own8
       have K8 := Lib.hid k8
       clear own8 gr8 k8)
    | fail)
  refine (refbytes_any A n c val (B := w8.heap.size) (by omega) _ (HV.out.below ((K0.out.trans K8.out).1)).bts (Nat.le_refl _) HV.out.nil).mono ?_
  rintro e w9 ⟨v9, rfl, own9, hb9⟩
  rw [← hvl] at own9
  have hlv := put_ten (n := val.length) (by omega)
  obtain ⟨A9, cc9, rfl, row9⟩ := own9.row (by rw [List.length_append]; omega) (fun c hc => by
    rcases List.mem_append.1 hc with h | h
    · exact put_byte _ c h
    · exact HV.out.bts.2.2.1 c h)
  have k9 := K8.out.call hb9
  have O9 := Lib.hid (O8.out.below hb9)
  have R9 := Lib.hid row9
  have K9 := Lib.hid k9
  have hlb : (put val.length ++ val).length ≤ 2058 := by rw [List.length_append]; omega
  clear own9 row9 hb9 k9 d0 d1 d2 d3 d4
  generalize put val.length ++ val = P5 at *
  go_wp2_with (first
    | (at_builtin
       refine wpList_append_bts rfl (.tmp 32) (.tmp 35) rfl (v := v8) (base := w1.heap.size) (ds := P1 ++ P2 ++ P3 ++ P4) (bs := P5) (n := P5.length) rfl rfl O9.out R9.out.bts R9.out.nil (by simp only [List.length_append]; omega) K9.out.2 ?_
       intro v10 w10 own10 gr10 _
       have k10 := K9.out.append O9.out gr10
       have O10 := Lib.hid own10
       have K10 := Lib.hid k10
       clear own10 gr10 k10)
    | fail)
  go_ret2
  rw [HE.out]
  exact ⟨_, rfl, ownsRow_base_a O10.out K0.out.2, (K0.out.trans K10.out).1⟩
end Go.Proofs.Ytmjgpgnecohbcaa
