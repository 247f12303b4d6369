/- WireFaults -/
import Derived.Test.YtmmmajlfndibnaaDoorWireK
import Derived.Test.YtmmmajlfndibnaaDoorErrL
namespace Go.Proofs.YtmmmajlfndibnaaDoor
open Go.RowKit
theorem row_of' {w : World} {A : Option Addr} {n cap : Nat} (h : SliceAt 1 1 (IsInt .u8) w A n cap) : ∃ bs, Row w A n cap bs := by
  obtain ⟨bs, hb⟩ := bts_of h
  exact ⟨bs, hb, h.2.2.2.1, h.1, h.2.1⟩
set_option maxRecDepth 100000 in
set_option maxHeartbeats 4000000 in
theorem WireFaults_walk (a0 : Option Addr) (len0 cap0 : Nat) (a1 : Int) (w : World) (hg : Laid w) (w0 : SliceAt 1 1 (IsInt .u8) w a0 len0 cap0) (w1 : (Lit.int .i64 a1).wf = true) :
    Calls Tryd.prog 7 #[.slice a0 len0 cap0, .int .i64 a1] w fun e w' => e = .returned (.bool true) ∧ Below w.heap.size w w' := by
  obtain ⟨bs, hrow⟩ := row_of' w0
  have HR := Lib.hid hrow
  have hB := fun g W => rbytes_any g bs 0 a1 w1 W
  have hcode := tak_code (bs := bs) a1
  rw [List.drop_zero] at hB
  generalize tak bs a1 = G at *
  obtain ⟨x, k, c⟩ := G
  simp only at hB hcode
  clear w0 hrow w1
  go_enter Tryd.func7, Tryd.ntmps7
  go_wp2_with fail
  refine (awake_any w hg).mono ?_
  rintro e u1 ⟨rfl, h1⟩
  have k1 : Kept w u1 := (Kept.refl w).call h1
  clear h1
  go_wp2_with fail
  refine (from_any a0 len0 cap0 bs u1 (HR.out.below k1.1)).mono ?_
  rintro e u2 ⟨r, rfl, rd, hr, h2⟩
  have k2 := k1.call h2
  have hrw : w.heap.size ≤ r := Nat.le_trans k1.2 hr
  clear h2 k1 hr
  go_wp2_with fail
  refine (hB r u2 rd).mono ?_
  rintro e u3 ⟨v, rfl, -, -, o3⟩
  have k3 : Kept w u3 := ⟨k2.1.trans (o3.below hrw k2.2), Nat.le_trans k2.2 o3.size⟩
  clear rd k2 o3 hB
  by_cases hc : c = 0
  · subst hc
    have hE : errv 0 0 = .nilIface := rfl
    have kn := run_eql_nil_nil (P := Tryd.prog) u3 43 (by kernel_rfl)
    rw [hE]
    go_wp2
    go_ret
    exact ⟨rfl, k3.1⟩
  · have hE : errv c 0 = fault (c : Int) 0 := if_neg hc
    rw [hE]
    have hF : fault (c : Int) 0 = .iface 97 (.agg #[.int .i64 (c : Int), .int .i64 0]) := rfl
    have kn := run_eql_held_nil (P := Tryd.prog) u3 43 97 (.agg #[.int .i64 (c : Int), .int .i64 0]) (by kernel_rfl)
    rw [hF]
    have hc15 : 1 ≤ c ∧ c ≤ 14 := by omega
    clear hc hcode hE hF
    have hN := fun s W => new_any s W
    have hI := fun n W => is_fault (c : Int) 0 n W
    have hC := fun W h => code_fault (c : Int) 0 W h
    have hA := fun W h => at_fault (c : Int) 0 W h
    go_wp2_with fail
    refine (hN _ u3).mono ?_
    rintro e u4 ⟨rfl, h4⟩
    have k4 := k3.call h4
    clear h4 k3
    unfold estr
    go_wp2_with fail
    have k5 := k4.alloc (.cells #[.iface 89 (.pointer (some ⟨u3.heap.size, 0, none⟩)), .iface 97 (.agg #[.int .i64 (c : Int), .int .i64 0])] 43)
    have hj := join_two 89 97 (.pointer (some ⟨u3.heap.size, 0, none⟩)) (.agg #[.int .i64 (c : Int), .int .i64 0]) u4.heap.size 0 2 (u4.alloc (.cells #[.iface 89 (.pointer (some ⟨u3.heap.size, 0, none⟩)), .iface 97 (.agg #[.int .i64 (c : Int), .int .i64 0])] 43))
      (by rw [World.cell?_alloc_at _ _ _ _ rfl]; rfl) (by rw [World.cell?_alloc_at _ _ _ _ rfl]; rfl)
    refine hj.mono ?_
    rintro e u6 ⟨j, rfl, J, h6⟩
    have k6 := k5.call h6
    clear hj h6 k5 k4
    have HJC := Lib.hid (fun W h J => code_join j ⟨u3.heap.size, 0, none⟩ (c : Int) 0 W h J)
    have HJA := Lib.hid (fun W h J => at_join j ⟨u3.heap.size, 0, none⟩ (c : Int) 0 W h J)
    have HJ := Lib.hid J
    unfold ejoin
    clear J hN
    go_wp2
    go_loopw [10, 11] (fun m i wr => ∃ n : Nat, 1 ≤ n ∧ n ≤ 15 ∧ i = .int .i64 n ∧ m = .int .i64 (if c < n then 1 else 0 : Nat) ∧ Kept u6 wr) (fun _ i _ => 15 - (intOf i).toNat)
    case atStart => exact ⟨1, by omega, by omega, rfl, by rw [if_neg (by omega)]; rfl, Kept.refl _⟩
    case round =>
      obtain ⟨n, hn1, hn2, rfl, rfl, kk⟩ := hrel
      by_cases hgo : n ≤ 14
      · have hle : (n : Int) ≤ 14 := by omega
        by_cases hcn : c = n
        · have hI' := hI (n : Int) wr
          have e1 : ((c : Int) == (n : Int)) = true := by simp [hcn]
          rw [e1] at hI'
          have e2 : ((if c < n then 1 else 0 : Nat) : Int) = 0 := by rw [if_neg (by omega)]; rfl
          have e3 : ((if c < n + 1 then 1 else 0 : Nat) : Int) = 1 := by rw [if_pos (by omega)]; rfl
          have E3 := Lib.hid e3
          have HCN := Lib.hid hcn
          rw [e2]
          clear e1 e2 e3 hcn hI hC hA
          go_wp2_with fail
          refine hI'.mono ?_
          rintro e u7 ⟨rfl, h7⟩
          have kk7 := kk.call h7
          clear h7 hI'
          go_wp2
          go_roundw
          case rel => exact ⟨n + 1, by omega, by omega, by go_num, by rw [E3.out], kk7⟩
          case measure => simp [intOf]; omega
        · have hI' := hI (n : Int) wr
          have e1 : ((c : Int) == (n : Int)) = false := by simp; omega
          rw [e1] at hI'
          have e3 : ((if c < n + 1 then 1 else 0 : Nat) : Int) = ((if c < n then 1 else 0 : Nat) : Int) := by
            by_cases h : c < n
            · rw [if_pos h, if_pos (by omega)]
            · rw [if_neg h, if_neg (by omega)]
          generalize ((if c < n then 1 else 0 : Nat) : Int) = M at *
          have E3 := Lib.hid e3
          have HCN := Lib.hid hcn
          clear e1 e3 hcn hI hC hA
          go_wp2_with fail
          refine hI'.mono ?_
          rintro e u7 ⟨rfl, h7⟩
          have kk7 := kk.call h7
          clear h7 hI'
          go_wp2
          go_roundw
          case rel => exact ⟨n + 1, by omega, by omega, by go_num, by rw [E3.out], kk7⟩
          case measure => simp [intOf]; omega
      · obtain rfl : n = 15 := by omega
        have e2 : ((if c < 15 then 1 else 0 : Nat) : Int) = 1 := by rw [if_pos (by omega)]; rfl
        rw [e2]
        clear e2 hgo hn1 hn2 hI
        have k7 := k6.trans kk
        have hl0 : 0 ≤ (len0 : Int) := by omega
        have one : ∀ W, Kept wr W → Laid W := fun W h => hg.below (k7.trans h).1
        have hC' : ∀ W, Kept wr W → Calls Tryd.prog 27 #[.iface 97 (.agg #[.int .i64 (c : Int), .int .i64 0])] W fun e W' => e = .returned (.int .i64 (c : Int)) ∧ Kept wr W' := fun W h => (hC W (one W h)).mono fun _ _ ⟨h1, h2⟩ => ⟨h1, h.call h2⟩
        have hA' : ∀ W, Kept wr W → Calls Tryd.prog 26 #[.iface 97 (.agg #[.int .i64 (c : Int), .int .i64 0])] W fun e W' => e = .returned (.int .i64 0) ∧ Kept wr W' := fun W h => (hA W (one W h)).mono fun _ _ ⟨h1, h2⟩ => ⟨h1, h.call h2⟩
        have jC' : ∀ W, Kept wr W → Calls Tryd.prog 27 #[.iface 86 (.pointer (some ⟨j, 0, none⟩))] W fun e W' => e = .returned (.int .i64 (c : Int)) ∧ Kept wr W' := fun W h => (HJC.out W (one W h) (HJ.out.below (kk.trans h).1)).mono fun _ _ ⟨h1, h2⟩ => ⟨h1, h.call h2⟩
        have jA' : ∀ W, Kept wr W → Calls Tryd.prog 26 #[.iface 86 (.pointer (some ⟨j, 0, none⟩))] W fun e W' => e = .returned (.int .i64 0) ∧ Kept wr W' := fun W h => (HJA.out W (one W h) (HJ.out.below (kk.trans h).1)).mono fun _ _ ⟨h1, h2⟩ => ⟨h1, h.call h2⟩
        clear hC hA HJC HJA
        have q0 := Kept.refl wr
        go_wp2_with fail
        refine (hA' wr q0).mono ?_
        rintro e u8 ⟨rfl, q8⟩
        go_wp2_with fail
        refine (hA' u8 q8).mono ?_
        rintro e u9 ⟨rfl, q9⟩
        go_wp2_with fail
        refine (jC' u9 q9).mono ?_
        rintro e u10 ⟨rfl, q10⟩
        go_wp2_with fail
        refine (hC' u10 q10).mono ?_
        rintro e u11 ⟨rfl, q11⟩
        go_wp2_with fail
        refine (jA' u11 q11).mono ?_
        rintro e u12 ⟨rfl, q12⟩
        go_wp2_with fail
        refine (hA' u12 q12).mono ?_
        rintro e u13 ⟨rfl, q13⟩
        go_wp2_with fail
        refine (new_any _ u13).mono ?_
        rintro e u14 ⟨rfl, h14⟩
        have q14 := q13.call h14
        go_wp2_with fail
        refine (code_text _ u14 (one _ q14)).mono ?_
        rintro e u15 ⟨rfl, h15⟩
        have q15 := q14.call h15
        go_wp2
        go_ret
        exact ⟨rfl, (k7.trans q15).1⟩
end Go.Proofs.YtmmmajlfndibnaaDoor
