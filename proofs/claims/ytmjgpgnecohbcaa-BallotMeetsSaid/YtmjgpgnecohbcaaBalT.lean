/- The walk of BallotMeets. -/
import Derived.Test.YtmjgpgnecohbcaaBalL
namespace Go.Proofs.Ytmjgpgnecohbcaa
open Go.RowKit

/-- the one is a site of both lists -/
def Meet (n : Int) (L M : List Int) (i j : Nat) : Prop := ∃ (h : i < L.length) (h' : j < M.length), L[i] = M[j] ∧ 0 ≤ L[i] ∧ L[i] < n
theorem no_meet {n : Int} {L M : List Int} (h : ∀ i j, i < L.length → j < M.length → ¬ Meet n L M i j) (h1 : mostB n L = true) (h2 : mostB n M = true) : False := by
  obtain ⟨x, hx, hy, h3, h4⟩ := most_meet h1 h2
  obtain ⟨i, hi, rfl⟩ := List.mem_iff_getElem.1 hx
  obtain ⟨j, hj, e⟩ := List.mem_iff_getElem.1 hy
  exact h i j hi hj ⟨hi, hj, e.symm, h3, h4⟩

theorem kept_drewN {w W : World} (h : Kept w W) (n : Nat) : Kept w (W.drewN n) := by
  induction n with
  | zero => exact h
  | succ n ih => exact ih.drew

set_option maxRecDepth 100000 in
set_option maxHeartbeats 2000000 in
theorem BallotMeets_walk (a0 : Option Addr) (len0 cap0 : Nat) (a1 : Option Addr) (len1 cap1 : Nat) (a2 : Int) (w : World) (w0 : SliceAt 1 8 (IsInt .i64) w a0 len0 cap0) (w1 : SliceAt 1 8 (IsInt .i64) w a1 len1 cap1) (w2 : (Lit.int .u8 a2).wf = true) :
    Calls Try.prog 7 #[.slice a0 len0 cap0, .slice a1 len1 cap1, .int .u8 a2] w fun e w' => e = .returned (.bool true) ∧ Below w.heap.size w w' := by
  obtain ⟨L, hl, hR⟩ := ints_of w0
  obtain ⟨M, hm, hS⟩ := ints_of w1
  have b2 : 0 ≤ a2 ∧ a2 ≤ 255 := by simp [Lit.wf, IntKind.min, IntKind.max, IntKind.signed, IntKind.bits] at w2; omega
  have HL := Lib.hid hl
  have HM := Lib.hid hm
  have HA := Lib.hid hR
  have HB := Lib.hid hS
  have HK : Hid (0 ≤ a2 ∧ a2 ≤ 9223372036854775807) := Lib.hid (by omega)
  obtain ⟨b20, b21⟩ := b2
  clear w0 w1 w2 hl hm hR hS
  by_cases hs : len0 ≤ 300
  · by_cases ht : len1 ≤ 300
    · have hs' : ¬ (300 : Int) < (len0 : Int) := by omega
      have ht' : ¬ (300 : Int) < (len1 : Int) := by omega
      cases hma : mostB a2 L with
      | false =>
        have HMA := Lib.hid hma
        clear hma
        go_enter Try.func7, Try.ntmps7
        go_wp2_with fail
        refine (awake8_any _).mono ?_
        rintro e u1 ⟨rfl, b1⟩
        have k1 := (Kept.refl w).call b1
        go_wp2_with fail
        refine (most_any HL.out (HA.out.kept k1) (by omega) HK.out.2).mono ?_
        rintro e u2 ⟨rfl, b2⟩
        rw [HMA.out]
        have k2 := k1.call b2
        go_wp2
        go_ret
        exact ⟨rfl, k2.1⟩
      | true =>
        have HMA := Lib.hid hma
        clear hma
        cases hmb : mostB a2 M with
        | false =>
          have HMB := Lib.hid hmb
          clear hmb
          go_enter Try.func7, Try.ntmps7
          go_wp2_with fail
          refine (awake8_any _).mono ?_
          rintro e u1 ⟨rfl, b1⟩
          have k1 := (Kept.refl w).call b1
          go_wp2_with fail
          refine (most_any HL.out (HA.out.kept k1) (by omega) HK.out.2).mono ?_
          rintro e u2 ⟨rfl, b2⟩
          rw [HMA.out]
          have k2 := k1.call b2
          go_wp2_with fail
          refine (most_any HM.out (HB.out.kept k2) (by omega) HK.out.2).mono ?_
          rintro e u3 ⟨rfl, b3⟩
          rw [HMB.out]
          have k3 := k2.call b3
          go_wp2
          go_ret
          exact ⟨rfl, k3.1⟩
        | true =>
          have HMB := Lib.hid hmb
          clear hmb
          go_enter Try.func7, Try.ntmps7
          go_wp2_with fail
          refine (awake8_any _).mono ?_
          rintro e u1 ⟨rfl, b1⟩
          have k1 := (Kept.refl w).call b1
          go_wp2_with fail
          refine (most_any HL.out (HA.out.kept k1) (by omega) HK.out.2).mono ?_
          rintro e u2 ⟨rfl, b2⟩
          rw [HMA.out]
          have k2 := k1.call b2
          go_wp2_with fail
          refine (most_any HM.out (HB.out.kept k2) (by omega) HK.out.2).mono ?_
          rintro e u3 ⟨rfl, b3⟩
          rw [HMB.out]
          have k3 := k2.call b3
          go_wp2_with fail
          go_loopw [9] (fun i wr => ∃ p : Nat, p ≤ len0 ∧ i = .int .i64 p ∧ Kept w wr ∧ ∀ i j, i < p → j < len1 → ¬ Meet a2 L M i j) (fun i _ => len0 - (intOf i).toNat)
          case atStart => exact ⟨0, Nat.zero_le _, rfl, k3, fun i j h => absurd h (Nat.not_lt_zero _)⟩
          case round =>
            obtain ⟨p, hp, rfl, kk, hno⟩ := hrel
            have HNO := Lib.hid hno
            have HKK := Lib.hid kk
            clear hno
            by_cases hlt : p < len0
            · go_wp2
              go_loopw [10] (fun j wq => ∃ q : Nat, q ≤ len1 ∧ j = .int .i64 q ∧ Kept w wq ∧ ∀ j, j < q → ¬ Meet a2 L M p j) (fun j _ => len1 - (intOf j).toNat)
              case atStart => exact ⟨0, Nat.zero_le _, rfl, HKK.out, fun j h => absurd h (Nat.not_lt_zero _)⟩
              case round =>
                obtain ⟨q, hq, rfl, kq, hnq⟩ := hrel
                have HNQ := Lib.hid hnq
                have HKQ := Lib.hid kq
                clear hnq
                by_cases hqt : q < len1
                · have hpl : p < L.length := by rw [HL.out]; exact hlt
                  have hql : q < M.length := by rw [HM.out]; exact hqt
                  obtain ⟨b, off, rfl, hb, hatp⟩ := HA.out.2 p hpl
                  obtain ⟨b', off', rfl, hb', hatq⟩ := HB.out.2 q hql
                  have c1 := (kq.cell (p := ⟨b, off + p, none⟩) hb).trans hatp
                  have c2 := (kq.cell (p := ⟨b', off' + q, none⟩) hb').trans hatq
                  have HME : Hid (Meet a2 L M p q ↔ L[p] = M[q] ∧ 0 ≤ L[p] ∧ L[p] < a2) := Lib.hid ⟨fun ⟨_, _, h⟩ => h, fun h => ⟨hpl, hql, h⟩⟩
                  generalize L[p] = x at *
                  generalize M[q] = y at *
                  clear hatp hatq kk kq
                  rename_i wq _ _ _
                  by_cases hxy : x = y
                  · subst hxy
                    have d0 : (x == x) = true := by simp
                    by_cases hx0 : 0 ≤ x
                    · have d1 : decide (0 ≤ x) = true := decide_eq_true hx0
                      by_cases hx1 : x < a2
                      · have d2 : decide (x < a2) = true := decide_eq_true hx1
                        go_wp2
                        go_big_quiet (fail)
                        go_wp2
                        go_ret
                        exact ⟨by go_simp, (kept_drewN HKQ.out nq).1⟩
                      · have d2 : decide (x < a2) = false := decide_eq_false hx1
                        have HNE : Hid (¬ (x = x ∧ 0 ≤ x ∧ x < a2)) := Lib.hid (fun h => hx1 h.2.2)
                        go_wp2
                        go_big_quiet (fail)
                        go_wp2
                        go_roundw
                        case rel => exact ⟨q + 1, by omega, by go_num, kept_drewN HKQ.out nq, fun j hj => by
                          rcases Nat.lt_succ_iff_lt_or_eq.1 hj with h | rfl
                          · exact HNQ.out j h
                          · exact fun h => HNE.out (HME.out.1 h)⟩
                        case measure => simp [intOf]; omega
                    · have d1 : decide (0 ≤ x) = false := decide_eq_false hx0
                      have HNE : Hid (¬ (x = x ∧ 0 ≤ x ∧ x < a2)) := Lib.hid (fun h => hx0 h.2.1)
                      go_wp2
                      go_big_quiet (fail)
                      go_wp2
                      go_roundw
                      case rel => exact ⟨q + 1, by omega, by go_num, kept_drewN HKQ.out nq, fun j hj => by
                        rcases Nat.lt_succ_iff_lt_or_eq.1 hj with h | rfl
                        · exact HNQ.out j h
                        · exact fun h => HNE.out (HME.out.1 h)⟩
                      case measure => simp [intOf]; omega
                  · have d0 : (x == y) = false := by simpa using hxy
                    have HNE : Hid (¬ (x = y ∧ 0 ≤ x ∧ x < a2)) := Lib.hid (fun h => hxy h.1)
                    go_wp2
                    go_big_quiet (fail)
                    go_wp2
                    go_roundw
                    case rel => exact ⟨q + 1, by omega, by go_num, kept_drewN HKQ.out nq, fun j hj => by
                      rcases Nat.lt_succ_iff_lt_or_eq.1 hj with h | rfl
                      · exact HNQ.out j h
                      · exact fun h => HNE.out (HME.out.1 h)⟩
                    case measure => simp [intOf]; omega
                · go_wp2
                  go_roundw
                  case rel => exact ⟨p + 1, by omega, by go_num, HKQ.out, fun i j hi hj => by
                    rcases Nat.lt_succ_iff_lt_or_eq.1 hi with h | rfl
                    · exact HNO.out i j h hj
                    · exact HNQ.out j (by omega)⟩
                  case measure => simp [intOf]; omega
            · exact (no_meet (fun i j hi hj => HNO.out i j (by have := HL.out; omega) (by have := HM.out; omega)) HMA.out HMB.out).elim
    · have hs' : ¬ (300 : Int) < (len0 : Int) := by omega
      have ht' : (300 : Int) < (len1 : Int) := by omega
      go_enter Try.func7, Try.ntmps7
      go_wp2_with fail
      refine (awake8_any _).mono ?_
      rintro e u1 ⟨rfl, b1⟩
      have k1 := (Kept.refl w).call b1
      go_wp2
      go_ret
      exact ⟨rfl, k1.1⟩
  · have hs' : (300 : Int) < (len0 : Int) := by omega
    go_enter Try.func7, Try.ntmps7
    go_wp2_with fail
    refine (awake8_any _).mono ?_
    rintro e u1 ⟨rfl, b1⟩
    have k1 := (Kept.refl w).call b1
    go_wp2
    go_ret
    exact ⟨rfl, k1.1⟩
end Go.Proofs.Ytmjgpgnecohbcaa
