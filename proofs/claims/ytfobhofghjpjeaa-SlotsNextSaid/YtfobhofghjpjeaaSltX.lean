/- The walk of SlotsNext. -/
import Derived.Test.YtfobhofghjpjeaaSltW
namespace Go.Proofs.Ytfobhofghjpjeaa
open Go.RowKit

theorem owner_drew {w : World} {s n o : Int} (ho : ownerI s n = o) (k : Nat) : Calls Try.prog 11 #[.int .i64 s, .int .i64 n] (w.drewN k) fun e W' => e = .returned (.int .i64 o) ∧ ∃ n, W' = w.drewN n :=
  (owner_any s n _).mono fun _ _ ⟨h1, h2⟩ => ⟨by rw [h1, ho], _, h2⟩
set_option maxRecDepth 100000 in
set_option maxHeartbeats 4000000 in
theorem SlotsNext_walk (a0 : List Value) (w : World) (w0 : (fun w cs => cs.length = 4 ∧ IsStruct [(0, 1, (IsInt .i64)), (1, 1, (IsInt .i64)), (2, 1, (IsInt .i64)), (3, 1, (IsInt .i64))] w cs : World → List Value → Prop) w a0) :
    Calls Try.prog 6 #[.agg a0.toArray] w fun e w' => e = .returned (.bool true) ∧ Below w.heap.size w w' := by
  obtain ⟨s, lo, hi, n, rfl, -, -⟩ := four_of w0
  clear w0
  have h3 := Lib.hid (next_any s lo n)
  have h5 := Lib.hid (own_any s lo hi n)
  have HLL := Lib.hid (ownL_len s lo hi n)
  have HME : Hid (∀ x, x ∈ ownL s lo hi n → lo ≤ x ∧ x < hi ∧ 0 ≤ s ∧ ownerI x n = s) := Lib.hid (fun x h => ownL_mem.1 h)
  have HRI := Lib.hid (ownL_rise s lo hi n)
  have HHD : Hid (∀ y M, ownL s lo hi n = y :: M → nextI s lo n = y ∧ y < hi) := Lib.hid (fun y M h => own_head h)
  generalize nextI s lo n = x at *
  generalize ownL s lo hi n = L at *
  go_enter Try.func6, Try.ntmps6
  go_wp2_with fail
  refine (awake_any _).mono ?_
  rintro e u1 ⟨rfl, b1⟩
  have k1 := (Kept.refl _).call b1
  have P1 : Hid (Fr u1 w.heap.size s lo hi n) := Lib.hid (Fr.kept (push_new w _) k1)
  have K1 := Lib.hid (((Kept.refl w).alloc _).call b1)
  obtain ⟨c0, c1, c2, c3⟩ := P1.out.cells
  clear b1 k1
  go_wp2_with fail
  refine (h5.out _).mono ?_
  rintro e v2 ⟨v, rfl, own, b2⟩
  have k2 := (Kept.refl _).call b2
  have P2 := Lib.hid (P1.out.kept k2)
  have K2 := Lib.hid (K1.out.call b2)
  obtain ⟨A, c, rfl, -, -, -, hc⟩ := own.slice
  have HC := Lib.hid hc
  clear b2 k2 own c0 c1 c2 c3 hc
  obtain ⟨m, hm⟩ : ∃ m, L.length = m := ⟨_, rfl⟩
  have HM := Lib.hid hm
  rw [hm]
  have hml : m ≤ 4096 := by rw [← hm]; exact HLL.out
  clear hm
  go_wp2_with fail
  go_loopw [5] (fun i wr => ∃ q : Nat, q ≤ m ∧ i = .int .i64 q ∧ Kept v2 wr) (fun i _ => m - (intOf i).toNat)
  case atStart => exact ⟨0, Nat.zero_le _, rfl, Kept.refl _⟩
  case round =>
    obtain ⟨q, hq, rfl, kq⟩ := hrel
    have HKQ := Lib.hid kq
    by_cases hqm : q < m
    · have hql : q < L.length := by rw [HM.out]; exact hqm
      obtain ⟨g, rfl, hg, hcell⟩ := HC.out (by omega)
      obtain ⟨m1, m2, -, m4⟩ := HME.out _ (List.getElem_mem hql)
      have e1 := (kq.cell (p := ⟨g, q, none⟩) hg).trans (hcell q hql)
      obtain ⟨c0, c1, c2, c3⟩ := (P2.out.kept kq).cells
      rename_i wr
      have hgw : g < wr.heap.size := Nat.lt_of_lt_of_le hg kq.2
      have M4 := Lib.hid m4
      by_cases hq0 : 0 < q
      · obtain ⟨p, rfl⟩ : ∃ p, q = p + 1 := ⟨q - 1, by omega⟩
        have hpl : p < L.length := by omega
        have hlt : L[p] < L[p + 1] := List.pairwise_iff_getElem.1 HRI.out p (p + 1) hpl hql (by omega)
        have e2 := (kq.cell (p := ⟨g, p, none⟩) hg).trans (hcell p hpl)
        clear hcell kq m4
        generalize L[p] = y at *
        generalize L[p + 1] = z at *
        have r1 : ((p + 1 : Nat) : Int) - 1 = (p : Int) := by omega
        have hpm : p < m := by omega
        obtain ⟨q, hqp⟩ : ∃ q, p + 1 = q := ⟨_, rfl⟩
        rw [hqp] at e1 hqm hq hq0 r1 ⊢
        have d1 : decide ((0 : Int) < (q : Int)) = true := decide_eq_true (by omega)
        have d2 : (s != s) = false := by simp
        have d3 : decide (z < lo) = false := decide_eq_false (by omega)
        have d4 : decide (hi ≤ z) = false := decide_eq_false (by omega)
        have d5 : decide (z ≤ y) = false := decide_eq_false (by omega)
        have HQP := Lib.hid hqp
        clear hqp hlt hql hpl
        go_wp2
        refine wp_region_quiet_lit (by kernel_rfl) (by kernel_rfl) ?_
        repeat (go_big_quiet_step (first
          | (with_reducible exact owner_drew M4.out _)))
        refine wpQuiet_nil ?_
        intro W1 hw1
        have k1' : Kept v2 W1 := by obtain ⟨n1, rfl⟩ := hw1; exact kept_drewN HKQ.out n1
        clear hw1
        go_wp2
        go_roundw
        case rel => exact ⟨q + 1, by omega, by go_num, k1'⟩
        case measure => simp [intOf]; omega
      · obtain rfl : q = 0 := by omega
        clear hcell kq m4
        generalize L[0] = z at *
        have d2 : (s != s) = false := by simp
        have d3 : decide (z < lo) = false := decide_eq_false (by omega)
        have d4 : decide (hi ≤ z) = false := decide_eq_false (by omega)
        go_wp2
        refine wp_region_quiet_lit (by kernel_rfl) (by kernel_rfl) ?_
        repeat (go_big_quiet_step (first
          | (with_reducible exact owner_drew M4.out _)))
        refine wpQuiet_nil ?_
        intro W1 hw1
        have k1' : Kept v2 W1 := by obtain ⟨n1, rfl⟩ := hw1; exact kept_drewN HKQ.out n1
        clear hw1
        go_wp2
        go_roundw
        case rel => exact ⟨1, by omega, by go_num, k1'⟩
        case measure => simp [intOf]; omega
    · obtain rfl : q = m := by omega
      obtain ⟨c0, c1, c2, c3⟩ := (P2.out.kept kq).cells
      go_wp2_with fail
      refine (h3.out _).mono ?_
      rintro e u3 ⟨rfl, b3⟩
      have k3 := HKQ.out.call b3
      obtain ⟨f0, f1, f2, f3⟩ := (P2.out.kept k3).cells
      have K3 := Lib.hid k3
      clear b3 c0 c1 c2 c3
      cases hL : L with
      | nil =>
        have hq0 : q = 0 := by rw [← HM.out, hL]; rfl
        subst hq0
        clear hL k3 kq
        by_cases hx : x < hi
        · go_wp2
          go_ret
          exact ⟨rfl, (K2.out.trans K3.out).1⟩
        · go_wp2
          go_ret
          exact ⟨rfl, (K2.out.trans K3.out).1⟩
      | cons y M =>
        obtain ⟨hx, hy⟩ := HHD.out y M hL
        obtain ⟨g, rfl, hg, hcell⟩ := HC.out (by rw [hL]; simp)
        have e1 := (k3.cell (p := ⟨g, 0, none⟩) hg).trans (hcell 0 (by rw [hL]; simp))
        simp only [hL, List.getElem_cons_zero] at e1
        have hqp : 0 < q := by rw [← HM.out, hL]; simp
        have hd : ((q : Int) == 0) = false := by simp; omega
        subst hx
        clear hL hcell k3 kq
        go_wp2
        go_ret
        exact ⟨rfl, (K2.out.trans K3.out).1⟩
end Go.Proofs.Ytfobhofghjpjeaa
