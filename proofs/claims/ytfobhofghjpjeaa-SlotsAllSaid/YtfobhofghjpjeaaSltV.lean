/- The walks of SlotsAll, SlotsApart. -/
import Derived.Test.YtfobhofghjpjeaaSltT
import Derived.Test.YtfobhofghjpjeaaIn64
namespace Go.Proofs.Ytfobhofghjpjeaa
open Go.RowKit

theorem sum_bound (a b n : Int) : ∀ m : Nat, 0 ≤ sumOwn a b n m ∧ sumOwn a b n m ≤ 4096 * (m : Int)
  | 0 => by simp [sumOwn]
  | m + 1 => by
    have := sum_bound a b n m
    have := ownL_len (m : Int) a b n
    rw [sumOwn]
    omega
theorem inu8 {n : Int} (h : (Lit.int .u8 n).wf = true) : 0 ≤ n ∧ n ≤ 255 := by
  simp [Lit.wf, IntKind.min, IntKind.max, IntKind.signed, IntKind.bits] at h; omega
theorem inu16 {n : Int} (h : (Lit.int .u16 n).wf = true) : 0 ≤ n ∧ n ≤ 65535 := by
  simp [Lit.wf, IntKind.min, IntKind.max, IntKind.signed, IntKind.bits] at h; omega

set_option maxRecDepth 100000 in
set_option maxHeartbeats 4000000 in
theorem SlotsAll_walk (a0 : Int) (a1 : Int) (a2 : Int) (w : World) (w0 : (Lit.int .u8 a0).wf = true) (w1 : (Lit.int .u16 a1).wf = true) (w2 : (Lit.int .u16 a2).wf = true) :
    Calls Try.prog 4 #[.int .u8 a0, .int .u16 a1, .int .u16 a2] w fun e w' => e = .returned (.bool true) ∧ Below w.heap.size w w' := by
  have b0 := inu8 w0
  have b1 := inu16 w1
  have b2 := inu16 w2
  clear w0 w1 w2
  obtain ⟨K, hK⟩ : ∃ K, a0 % 64 = K := ⟨_, rfl⟩
  have hK1 : 0 ≤ K ∧ K ≤ 63 := by omega
  obtain ⟨k, hk⟩ : ∃ k, 1 + K = k := ⟨_, rfl⟩
  obtain ⟨X, hX⟩ : ∃ X, X = min a1 a2 := ⟨_, rfl⟩
  obtain ⟨Y, hY⟩ : ∃ Y, Y = max a1 a2 := ⟨_, rfl⟩
  have hXY : 0 ≤ X ∧ X ≤ 65535 ∧ 0 ≤ Y ∧ Y ≤ 65535 := by omega
  obtain ⟨A, hA⟩ : ∃ A, X % 4097 = A := ⟨_, rfl⟩
  obtain ⟨D, hD⟩ : ∃ D, Y % 200 = D := ⟨_, rfl⟩
  have hAD : 0 ≤ A ∧ A ≤ 4096 ∧ 0 ≤ D ∧ D < 200 := by omega
  have hk1 : 1 ≤ k ∧ k ≤ 64 := by omega
  obtain ⟨T, hT⟩ : ∃ T, A + D = T := ⟨_, rfl⟩
  obtain ⟨B, hB⟩ : ∃ B, B = min T 4096 := ⟨_, rfl⟩
  have hB1 : A ≤ B ∧ B ≤ 4096 := by omega
  have HS := Lib.hid (sum_all (a := A) (b := B) hk1.1 hk1.2 hAD.1 hB1.1 hB1.2)
  have HC := Lib.hid (fun p : Int => count_any p A B k)
  have HO := Lib.hid (fun i : Int => owner_any i k)
  have HN := Lib.hid (fun o i : Int => next_any o i k)
  have HSB := Lib.hid (fun m : Nat => sum_bound A B k m)
  have HSS : Hid (∀ m : Nat, sumOwn A B k (m + 1) = sumOwn A B k m + ((ownL (m : Int) A B k).length : Int)) := Lib.hid (fun _ => rfl)
  have HXY := Lib.hid (And.intro hX hY)
  have HBB := Lib.hid hB
  have ways : (T ≤ 4096 ∧ B = T ∨ 4096 < T ∧ B = 4096) ∧ (a1 < a2 ∧ X = a1 ∧ Y = a2 ∨ a1 = a2 ∧ X = a1 ∧ Y = a1 ∨ a2 < a1 ∧ X = a2 ∧ Y = a1) := by omega
  clear hX hY hB
  obtain ⟨⟨t1, rfl⟩ | ⟨t1, rfl⟩, ws⟩ := ways
  · obtain ⟨t2, rfl, rfl⟩ | ⟨rfl, rfl, rfl⟩ | ⟨t2, rfl, rfl⟩ := ws
    all_goals
      go_enter Try.func4, Try.ntmps4
      go_wp2_with fail
      refine (awake_any _).mono ?_
      rintro e u0 ⟨rfl, d0⟩
      have K0 := Lib.hid ((Kept.refl w).call d0)
      clear d0
      go_wp2
      simp only [hK, hA, hD]
      go_loopw [11, 12] (fun m i wr => ∃ p : Nat, (p : Int) ≤ k ∧ i = .int .i64 p ∧ m = .int .i64 (sumOwn A B k p) ∧ Kept u0 wr) (fun _ i _ => (k - intOf i).toNat)
      case atStart => exact ⟨0, by omega, rfl, rfl, Kept.refl _⟩
      case round =>
        obtain ⟨p, hp, rfl, rfl, kk⟩ := hrel
        have KK := Lib.hid kk
        have hb := HSB.out p
        clear kk
        by_cases hlt : (p : Int) < k
        · have hs := HSS.out p
          have hl := ownL_len (p : Int) A B k
          have hc := Lib.hid (HC.out p)
          have HS1 := Lib.hid hs
          clear hs
          generalize sumOwn A B k p = m at *
          generalize (ownL (p : Int) A B k).length = c at *
          go_wp2_with fail
          refine (hc.out _).mono ?_
          rintro e u1 ⟨rfl, d1⟩
          have K1 := Lib.hid (KK.out.call d1)
          clear d1
          go_wp2
          go_roundw
          case rel => exact ⟨p + 1, by omega, by go_num, by rw [HS1.out], K1.out⟩
          case measure => simp [intOf]; omega
        · have hpk : k.toNat = p := by omega
          have hs := HS.out
          rw [hpk] at hs
          rw [hs]
          clear hs hb
          go_wp2
          go_loopw [13] (fun i wr => ∃ q : Int, A ≤ q ∧ q ≤ B ∧ i = .int .i64 q ∧ Kept u0 wr) (fun i _ => (B - intOf i).toNat)
          case atStart => exact ⟨A, by omega, hB1.1, rfl, KK.out⟩
          case round =>
            obtain ⟨q, hq1, hq2, rfl, kq⟩ := hrel
            have KQ := Lib.hid kq
            clear kq
            by_cases hlt2 : q < B
            · have ho := Lib.hid (HO.out q)
              have hn := Lib.hid (HN.out (ownerI q k) q)
              have hns := next_self (i := q) (n := k) hk1.1 hk1.2 (by omega) (by omega)
              have hor := owner_in (s := q) (n := k) (by omega) (by omega) hk1.1 hk1.2
              have g1 := Int.emod_nonneg q (show k ≠ 0 by omega)
              have g2 := Int.emod_lt_of_pos q (show 0 < k by omega)
              rw [hns] at hn
              rw [← hor] at g1 g2
              clear hns hor
              generalize ownerI q k = o at *
              go_wp2_with fail
              refine (ho.out _).mono ?_
              rintro e u ⟨rfl, rfl⟩
              go_wp2_with fail
              refine (hn.out _).mono ?_
              rintro e u1 ⟨rfl, d1⟩
              have K1 := Lib.hid (KQ.out.call d1)
              clear d1
              go_wp2
              go_roundw
              case rel => exact ⟨q + 1, by omega, by omega, by go_num, K1.out⟩
              case measure => simp [intOf]; omega
            · have hqb : q = B := by omega
              go_wp2
              go_ret
              exact ⟨rfl, (K0.out.trans KQ.out).1⟩
  · obtain ⟨t2, rfl, rfl⟩ | ⟨rfl, rfl, rfl⟩ | ⟨t2, rfl, rfl⟩ := ws
    all_goals
      go_enter Try.func4, Try.ntmps4
      go_wp2_with fail
      refine (awake_any _).mono ?_
      rintro e u0 ⟨rfl, d0⟩
      have K0 := Lib.hid ((Kept.refl w).call d0)
      clear d0
      go_wp2
      simp only [hK, hA, hD]
      go_loopw [11, 12] (fun m i wr => ∃ p : Nat, (p : Int) ≤ k ∧ i = .int .i64 p ∧ m = .int .i64 (sumOwn A 4096 k p) ∧ Kept u0 wr) (fun _ i _ => (k - intOf i).toNat)
      case atStart => exact ⟨0, by omega, rfl, rfl, Kept.refl _⟩
      case round =>
        obtain ⟨p, hp, rfl, rfl, kk⟩ := hrel
        have KK := Lib.hid kk
        have hb := HSB.out p
        clear kk
        by_cases hlt : (p : Int) < k
        · have hs := HSS.out p
          have hl := ownL_len (p : Int) A 4096 k
          have hc := Lib.hid (HC.out p)
          have HS1 := Lib.hid hs
          clear hs
          generalize sumOwn A 4096 k p = m at *
          generalize (ownL (p : Int) A 4096 k).length = c at *
          go_wp2_with fail
          refine (hc.out _).mono ?_
          rintro e u1 ⟨rfl, d1⟩
          have K1 := Lib.hid (KK.out.call d1)
          clear d1
          go_wp2
          go_roundw
          case rel => exact ⟨p + 1, by omega, by go_num, by rw [HS1.out], K1.out⟩
          case measure => simp [intOf]; omega
        · have hpk : k.toNat = p := by omega
          have hs := HS.out
          rw [hpk] at hs
          rw [hs]
          clear hs hb
          go_wp2
          go_loopw [13] (fun i wr => ∃ q : Int, A ≤ q ∧ q ≤ 4096 ∧ i = .int .i64 q ∧ Kept u0 wr) (fun i _ => (4096 - intOf i).toNat)
          case atStart => exact ⟨A, by omega, hB1.1, rfl, KK.out⟩
          case round =>
            obtain ⟨q, hq1, hq2, rfl, kq⟩ := hrel
            have KQ := Lib.hid kq
            clear kq
            by_cases hlt2 : q < 4096
            · have ho := Lib.hid (HO.out q)
              have hn := Lib.hid (HN.out (ownerI q k) q)
              have hns := next_self (i := q) (n := k) hk1.1 hk1.2 (by omega) (by omega)
              have hor := owner_in (s := q) (n := k) (by omega) (by omega) hk1.1 hk1.2
              have g1 := Int.emod_nonneg q (show k ≠ 0 by omega)
              have g2 := Int.emod_lt_of_pos q (show 0 < k by omega)
              rw [hns] at hn
              rw [← hor] at g1 g2
              clear hns hor
              generalize ownerI q k = o at *
              go_wp2_with fail
              refine (ho.out _).mono ?_
              rintro e u ⟨rfl, rfl⟩
              go_wp2_with fail
              refine (hn.out _).mono ?_
              rintro e u1 ⟨rfl, d1⟩
              have K1 := Lib.hid (KQ.out.call d1)
              clear d1
              go_wp2
              go_roundw
              case rel => exact ⟨q + 1, by omega, by omega, by go_num, K1.out⟩
              case measure => simp [intOf]; omega
            · have hqb : q = 4096 := by omega
              go_wp2
              go_ret
              exact ⟨rfl, (K0.out.trans KQ.out).1⟩

set_option maxRecDepth 100000 in
set_option maxHeartbeats 4000000 in
theorem SlotsApart_walk (a0 : Int) (a1 : Int) (a2 : Int) (w : World) (w0 : (Lit.int .u8 a0).wf = true) (w1 : (Lit.int .u8 a1).wf = true) (w2 : (Lit.int .u16 a2).wf = true) :
    Calls Try.prog 5 #[.int .u8 a0, .int .u8 a1, .int .u16 a2] w fun e w' => e = .returned (.bool true) ∧ Below w.heap.size w w' := by
  have b0 := inu8 w0
  have b1 := inu8 w1
  have b2 := inu16 w2
  clear w0 w1 w2
  obtain ⟨K, hK⟩ : ∃ K, a0 % 64 = K := ⟨_, rfl⟩
  have hK1 : 0 ≤ K ∧ K ≤ 63 := by omega
  obtain ⟨k, hk⟩ : ∃ k, 1 + K = k := ⟨_, rfl⟩
  have hk1 : 1 ≤ k ∧ k ≤ 64 := by omega
  have hk0 : k ≠ 0 := by omega
  have g1 := Int.emod_nonneg a1 hk0
  have g2 := Int.emod_lt_of_pos a1 (show 0 < k by omega)
  have t1 : a1.tmod k = a1 % k := Int.tmod_eq_emod_of_nonneg b1.1
  obtain ⟨s, hs⟩ : ∃ s, a1 % k = s := ⟨_, rfl⟩
  obtain ⟨f, hf⟩ : ∃ f, a2 % 4096 = f := ⟨_, rfl⟩
  have hf1 : 0 ≤ f ∧ f ≤ 4095 := by omega
  rw [hs] at g1 g2 t1
  have hap := own_apart (s := s) (n := k) (lo := f) hk1.1 hk1.2 g1 g2 hf1.1 hf1.2
  have h1 := Lib.hid (next_any s f k)
  have h2 := Lib.hid (next_any s (nextI s f k + 1) k)
  have h3 := Lib.hid (owner_any (nextI s f k) k)
  have h4 := Lib.hid (count_any s (nextI s f k + 1) (nextI s f k + k) k)
  generalize nextI s f k = a at *
  by_cases ha : a < 0
  · have h5 := hap.1 ha
    clear hap h2 h3 h4
    go_enter Try.func5, Try.ntmps5
    go_wp2_with fail
    refine (awake_any _).mono ?_
    rintro e u0 ⟨rfl, d0⟩
    go_wp2_with fail
    refine (h1.out _).mono ?_
    rintro e u1 ⟨rfl, d1⟩
    have K1 := Lib.hid (((Kept.refl w).call d0).call d1)
    clear d0 d1
    go_wp2
    go_ret
    exact ⟨rfl, K1.out.1⟩
  · obtain ⟨p1, p2, p3, p4, p5⟩ := hap.2 (by omega)
    rw [p3] at h3
    rw [p5] at h4
    clear hap p3 p5
    generalize nextI s (a + 1) k = b at *
    have ways : b = a + k ∨ b ≠ a + k ∧ b = -1 ∧ 4095 < a + k := by
      rcases p4 with p4 | p4
      · exact .inl p4
      · exact .inr (by omega)
    have hak : a + k ≤ 9000 := by omega
    clear p4
    rcases ways with rfl | ⟨q1, rfl, q3⟩
    all_goals
      go_enter Try.func5, Try.ntmps5
      go_wp2_with fail
      refine (awake_any _).mono ?_
      rintro e u0 ⟨rfl, d0⟩
      go_wp2_with fail
      refine (h1.out _).mono ?_
      rintro e u1 ⟨rfl, d1⟩
      go_wp2_with fail
      refine (h2.out _).mono ?_
      rintro e u2 ⟨rfl, d2⟩
      go_wp2_with fail
      refine (h3.out _).mono ?_
      rintro e u ⟨rfl, rfl⟩
      go_wp2_with fail
      refine (h4.out _).mono ?_
      rintro e u3 ⟨rfl, d3⟩
      have K1 := Lib.hid (((((Kept.refl w).call d0).call d1).call d2).call d3)
      clear d0 d1 d2 d3
      simp only [List.length_nil]
      go_wp2
      go_ret
      exact ⟨rfl, K1.out.1⟩
end Go.Proofs.Ytfobhofghjpjeaa
