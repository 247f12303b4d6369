/- The walk of CmdOnce: what is decoded of any bytes may be, and is encoded as they stood. -/
import Derived.Test.YtegjlcmeaelbnaaDoorCmdK
namespace Go.Proofs.YtegjlcmeaelbnaaDoor
open Go.RowKit

theorem row_of {w : World} {A : Option Addr} {n cap : Nat} (h : SliceAt 1 1 (IsInt .u8) w A n cap) : ∃ bs, Row w A n cap bs := by
  obtain ⟨bs, hb⟩ := bts_of h
  exact ⟨bs, hb, h.2.2.2.1, h.1, h.2.1⟩
theorem decE_held {c : Nat} (h : c ≠ 0) (o : Option Nat) : ∃ v, decE c o = .iface 78 v := by
  unfold decE
  rw [if_neg h]
  cases o <;> exact ⟨_, rfl⟩
set_option maxRecDepth 100000 in
set_option maxHeartbeats 4000000 in
theorem CmdOnce_walk (a0 : Option Addr) (len0 cap0 : Nat) (w : World) (hg : Laid w) (w0 : SliceAt 1 1 (IsInt .u8) w a0 len0 cap0) :
    Calls Tryd.prog 5 #[.slice a0 len0 cap0] w fun e w' => e = .returned (.bool true) ∧ Below w.heap.size w w' := by
  obtain ⟨bs, hrow⟩ := row_of w0
  have hl := hrow.len
  have hby := hrow.bts.2.2.1
  have hdec := fun w h hg => decode_any a0 len0 cap0 bs w h hg
  have HROW := Lib.hid hrow
  have HG := Lib.hid hg
  generalize hD : dec bs = D at *
  obtain ⟨ns, c, o⟩ := D
  simp only at hdec
  by_cases hc : c = 0
  · subst hc
    obtain ⟨hok, hln, hbs, rfl⟩ := dec_once hby hD
    have henc := fun w hg => encode_ok ns hln hok w hg
    have hmay := fun w => may_any ns hln w
    have hnil : decE 0 none = .nilIface := rfl
    rw [hnil] at hdec
    rw [← hbs] at henc
    simp only [if_pos hok] at hmay
    have HBY := Lib.hid hby
    have HTX := Lib.hid (run_text (c := cap0) hrow.bts (fun h => by have := hrow.nil h; have := hrow.room; omega))
    have hmax := hrow.bts.2.1
    obtain ⟨n0, n1, n2, n3, n4, n5, n6, n7, n8, rfl⟩ := nine hln
    unfold nums at *
    simp only [List.map_cons, List.map_nil] at *
    have HE := Lib.hid henc
    have HD := Lib.hid hdec
    have HM := Lib.hid hmay
    clear henc hdec hmay hby w0 hg hok hln hbs hD hrow hnil HTX
    go_enter Tryd.func5, Tryd.ntmps5
    go_wp2_with (first
      | (go_at_call 9; refine (awake_any _ HG.out).mono ?_; rintro e w1 ⟨rfl, b1⟩
         have K1 := Lib.hid ((Kept.refl w).call b1)
         have R1 := Lib.hid (HROW.out.below b1)
         clear b1)
      | (go_at_call 12; refine (HD.out _ R1.out (HG.out.below K1.out.1)).mono ?_; rintro e w2 ⟨rfl, b2⟩
         have K2 := Lib.hid ((K1.out.call b2).alloc (.cells #[.int .i64 n0, .int .i64 n1, .int .i64 n2, .int .i64 n3, .int .i64 n4, .int .i64 n5, .int .i64 n6, .int .i64 n7, .int .i64 n8] 23))
         have hc2 := push_new w2 (.cells #[.int .i64 n0, .int .i64 n1, .int .i64 n2, .int .i64 n3, .int .i64 n4, .int .i64 n5, .int .i64 n6, .int .i64 n7, .int .i64 n8] 23)
         have HC2 := Lib.hid hc2
         have R2 := Lib.hid (R1.out.below (b2.alloc b2.size (.cells #[.int .i64 n0, .int .i64 n1, .int .i64 n2, .int .i64 n3, .int .i64 n4, .int .i64 n5, .int .i64 n6, .int .i64 n7, .int .i64 n8] 23)))
         clear b2 hc2)
      | (go_at_call 10; refine (HE.out _ (HG.out.below K2.out.1)).mono ?_; rintro e w3 ⟨v, rfl, own, b3⟩
         obtain ⟨A, cap, rfl, hrow3⟩ := own.row (by omega) HBY.out
         have hc3 := (b3.block w2.heap.size (heap_lt HC2.out)).trans HC2.out
         have HC3 := Lib.hid hc3
         have K3 := Lib.hid (K2.out.call b3)
         have R3 := Lib.hid (R2.out.below b3)
         have O3 := Lib.hid hrow3
         have r0 := cell_of_heap hc3 0; have r1 := cell_of_heap hc3 1; have r2 := cell_of_heap hc3 2; have r3 := cell_of_heap hc3 3; have r4 := cell_of_heap hc3 4; have r5 := cell_of_heap hc3 5; have r6 := cell_of_heap hc3 6; have r7 := cell_of_heap hc3 7; have r8 := cell_of_heap hc3 8; simp only [List.getElem?_toArray, List.getElem?_cons_zero, List.getElem?_cons_succ] at r0 r1 r2 r3 r4 r5 r6 r7 r8
         clear b3 hc3 own hrow3)
      | (go_at_call 14; refine (HM.out _).mono ?_; rintro e w4 ⟨rfl, b4⟩
         have K4 := Lib.hid (K3.out.call b4)
         have R4 := R3.out.below b4
         have O4 := O3.out.below b4
         have t1 := run_text (c := cap0) R4.bts (fun h => by have := R4.nil h; have := R4.room; omega)
         have t2 := run_text (c := cap) O4.bts (fun h => by have := O4.nil h; have := O4.room; omega)
         rw [hl] at t2
         clear b4 R4 O4)
      | fail)
    go_ret
    exact ⟨rfl, K4.out.1⟩
  · have hz := dec_err hD hc
    subst hz
    obtain ⟨v, hv⟩ := decE_held hc o
    have hN := fun w => run_neq_held_nil (P := Tryd.prog) w 27 78 v (by kernel_rfl)
    rw [hv] at hdec
    unfold zeros nums at *
    simp only [List.map_cons, List.map_nil] at *
    have HD := Lib.hid hdec
    clear hdec hby w0 hg hD hrow hv hl hc
    go_enter Tryd.func5, Tryd.ntmps5
    go_wp2_with (first
      | (go_at_call 9; refine (awake_any _ HG.out).mono ?_; rintro e w1 ⟨rfl, b1⟩
         have K1 := Lib.hid ((Kept.refl w).call b1)
         have R1 := Lib.hid (HROW.out.below b1)
         clear b1)
      | (go_at_call 12; refine (HD.out _ R1.out (HG.out.below K1.out.1)).mono ?_; rintro e w2 ⟨rfl, b2⟩
         have K2 := Lib.hid ((K1.out.call b2).alloc (.cells #[.int .i64 0, .int .i64 0, .int .i64 0, .int .i64 0, .int .i64 0, .int .i64 0, .int .i64 0, .int .i64 0, .int .i64 0] 23))
         clear b2)
      | fail)
    go_ret
    exact ⟨rfl, K2.out.1⟩
end Go.Proofs.YtegjlcmeaelbnaaDoor
