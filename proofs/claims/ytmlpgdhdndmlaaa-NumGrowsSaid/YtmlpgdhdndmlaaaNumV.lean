/- The walks of layer 4's statements on parts. -/
import Derived.Test.YtmlpgdhdndmlaaaNumR
namespace Go.Proofs.Ytmlpgdhdndmlaaa
open Go.RowKit

theorem ret_true {p : Prop} [Decidable p] (h : p) : Ending.returned (.bool (decide p)) = .returned (.bool true) := by rw [decide_eq_true h]
theorem dn_may {x y : Nat} (hx : x ≤ 1152921504606846976) (hy : y ≤ 10000) : dnTold x y = ((x * y / 10000 : Nat) : Int) ∧ upTold x y = (((x * y + 9999) / 10000 : Nat) : Int) ∧ mayB x y = true := by
  have hm : mayB x y = true := decide_eq_true (by omega)
  refine ⟨?_, ?_, hm⟩
  · unfold dnTold; rw [hm, ← Int.natCast_mul]; simp
  · unfold upTold; rw [hm, ← Int.natCast_mul]; simp

set_option maxHeartbeats 1000000 in
theorem NumBoth_walk (a0 : Int) (a1 : Int) (a2 : Int) (w : World) (w0 : (Lit.int .u64 a0).wf = true) (w1 : (Lit.int .u64 a1).wf = true) (w2 : (Lit.int .u16 a2).wf = true) :
    Calls Try.prog 5 #[.int .u64 a0, .int .u64 a1, .int .u16 a2] w fun e w' => e = .returned (.bool true) ∧ Below w.heap.size w w' := by
  have r0 : 0 ≤ a0 := by simp [Lit.wf, IntKind.min, IntKind.max, IntKind.signed, IntKind.bits] at w0; omega
  have r1 : 0 ≤ a1 := by simp [Lit.wf, IntKind.min, IntKind.max, IntKind.signed, IntKind.bits] at w1; omega
  have r2 : 0 ≤ a2 := by simp [Lit.wf, IntKind.min, IntKind.max, IntKind.signed, IntKind.bits] at w2; omega
  obtain ⟨x, hx, lx⟩ : ∃ x : Nat, a0 % 576460752303423488 = x ∧ x < 576460752303423488 := ⟨(a0 % 576460752303423488).toNat, by omega, by omega⟩
  obtain ⟨y, hy, ly⟩ : ∃ y : Nat, a1 % 576460752303423488 = y ∧ y < 576460752303423488 := ⟨(a1 % 576460752303423488).toNat, by omega, by omega⟩
  obtain ⟨k, hk, lk⟩ : ∃ k : Nat, a2 % 10001 = k ∧ k ≤ 10000 := ⟨(a2 % 10001).toNat, by omega, by omega⟩
  have h1 := Lib.hid (down_any x k)
  have h2 := Lib.hid (up_any y k)
  have h3 := Lib.hid (up_any ((x : Int) + y) k)
  have h4 := Lib.hid (down_any ((x : Int) + y) k)
  obtain ⟨m1, m2, m3⟩ := dn_may (x := x) (y := k) (by omega) lk
  obtain ⟨n1, n2, n3⟩ := dn_may (x := y) (y := k) (by omega) lk
  obtain ⟨o1, o2, o3⟩ := dn_may (x := x + y) (y := k) (by omega) lk
  rw [Int.natCast_add] at o1 o2 o3
  rw [m1, m3] at h1
  rw [n2, n3] at h2
  rw [o2, o3] at h3
  rw [o1, o3] at h4
  have b1 : x * k ≤ 576460752303423488 * 10000 := Nat.mul_le_mul (by omega) lk
  have b2 : y * k ≤ 576460752303423488 * 10000 := Nat.mul_le_mul (by omega) lk
  rw [Nat.add_mul] at h3 h4
  clear m1 m2 m3 n1 n2 n3 o1 o2 o3 w0 w1 w2
  generalize x * k = p at *
  generalize y * k = q at *
  obtain ⟨d, hd⟩ : ∃ d, d = p / 10000 := ⟨_, rfl⟩
  obtain ⟨u, hu⟩ : ∃ u, u = (q + 9999) / 10000 := ⟨_, rfl⟩
  obtain ⟨all, hall⟩ : ∃ all, all = (p + q + 9999) / 10000 := ⟨_, rfl⟩
  obtain ⟨low, hlow⟩ : ∃ low, low = (p + q) / 10000 := ⟨_, rfl⟩
  rw [← hd] at h1
  rw [← hu] at h2
  rw [← hall] at h3
  rw [← hlow] at h4
  have f1 : d + u ≤ all := by omega
  have f2 : low ≤ d + u := by omega
  have f3 : all ≤ low + 1 := by omega
  have f4 : all ≤ 2000000000000000000 := by omega
  clear hd hu hall hlow b1 b2
  go_enter Try.func5, Try.ntmps5
  go_wp2_with fail
  refine (awake_any _).mono ?_
  rintro e u1 ⟨rfl, b1⟩
  have k1 := (Kept.refl w).call b1
  go_wp2_with fail
  refine (h1.out _).mono ?_
  rintro e u2 ⟨rfl, b2⟩
  have k2 := k1.call b2
  go_wp2_with fail
  refine (h2.out _).mono ?_
  rintro e u3 ⟨rfl, b3⟩
  have k3 := k2.call b3
  go_wp2_with fail
  refine (h3.out _).mono ?_
  rintro e u4 ⟨rfl, b4⟩
  have k4 := k3.call b4
  go_wp2_with fail
  refine (h4.out _).mono ?_
  rintro e u5 ⟨rfl, b5⟩
  have k5 := k4.call b5
  go_wp2
  go_ret
  exact ⟨ret_true (by omega), k5.1⟩

set_option maxRecDepth 10000 in
set_option maxHeartbeats 1000000 in
theorem NumExact_walk (a0 : Int) (a1 : Int) (w : World) (w0 : (Lit.int .u32 a0).wf = true) (w1 : (Lit.int .u16 a1).wf = true) :
    Calls Try.prog 8 #[.int .u32 a0, .int .u16 a1] w fun e w' => e = .returned (.bool true) ∧ Below w.heap.size w w' := by
  have r0 : 0 ≤ a0 ∧ a0 ≤ 4294967295 := by simp [Lit.wf, IntKind.min, IntKind.max, IntKind.signed, IntKind.bits] at w0; omega
  have r1 : 0 ≤ a1 := by simp [Lit.wf, IntKind.min, IntKind.max, IntKind.signed, IntKind.bits] at w1; omega
  obtain ⟨x, rfl⟩ : ∃ x : Nat, a0 = x := ⟨a0.toNat, by omega⟩
  obtain ⟨k, hk, lk⟩ : ∃ k : Nat, a1 % 10001 = k ∧ k ≤ 10000 := ⟨(a1 % 10001).toNat, by omega, by omega⟩
  have h1 := Lib.hid (down_any x k)
  have h2 := Lib.hid (up_any x k)
  obtain ⟨m1, m2, m3⟩ := dn_may (x := x) (y := k) (by omega) lk
  rw [m1, m3] at h1
  rw [m2, m3] at h2
  have b1 : x * k ≤ 4294967295 * 10000 := Nat.mul_le_mul (by omega) lk
  have hm : (x : Int) * (k : Int) = ((x * k : Nat) : Int) := (Int.natCast_mul x k).symm
  clear m1 m2 m3 w0 w1
  generalize x * k = p at *
  obtain ⟨d, hd⟩ : ∃ d, d = p / 10000 := ⟨_, rfl⟩
  obtain ⟨u, hu⟩ : ∃ u, u = (p + 9999) / 10000 := ⟨_, rfl⟩
  rw [← hd] at h1
  rw [← hu] at h2
  have key : ∀ p d u : Nat, d = p / 10000 → u = (p + 9999) / 10000 → d * 10000 ≤ p ∧ p < d * 10000 + 10000 ∧ p ≤ u * 10000 ∧ u * 10000 < p + 10000 := by omega
  obtain ⟨f1, f2, f3, f4⟩ := key p d u hd hu
  clear hd hu key
  go_enter Try.func8, Try.ntmps8
  go_wp2_with fail
  refine (awake_any _).mono ?_
  rintro e u1 ⟨rfl, b1⟩
  have k1 := (Kept.refl w).call b1
  go_wp2_with fail
  refine (h1.out _).mono ?_
  rintro e u2 ⟨rfl, b2⟩
  have k2 := k1.call b2
  go_wp2_with fail
  refine (h2.out _).mono ?_
  rintro e u3 ⟨rfl, b3⟩
  have k3 := k2.call b3
  go_wp2
  go_ret
  exact ⟨ret_true (by omega), k3.1⟩

/-- the parts of what grows -/
theorem grows {A B K M : Nat} (hb : A + B ≤ 1152921504606846976) (hK : K ≤ M) (hM : M ≤ 10000) :
    (A * K + 9999) / 10000 ≤ ((A + B) * M + 9999) / 10000 ∧ A * K / 10000 ≤ (A + B) * M / 10000 ∧ A * K / 10000 ≤ (A * K + 9999) / 10000 ∧ (A * K + 9999) / 10000 ≤ A ∧ A * 10000 / 10000 = A ∧ (A * 0 + 9999) / 10000 = 0 ∧ ((A + B) * M + 9999) / 10000 ≤ 2000000000000000000 ∧ (A + B) * M / 10000 ≤ 2000000000000000000 := by
  have h1 : A * K ≤ (A + B) * M := Nat.mul_le_mul (by omega) hK
  have h2 : A * K ≤ A * 10000 := Nat.mul_le_mul (Nat.le_refl _) (by omega)
  have h3 : (A + B) * M ≤ 1152921504606846976 * 10000 := Nat.mul_le_mul hb hM
  generalize A * K = p at *
  generalize (A + B) * M = q at *
  omega
structure Grown (A B K M : Nat) (x y v z all none : Int) : Prop where
  up1 : ∀ w, Calls Try.prog 16 #[.int .i64 A, .int .i64 K] w fun e w' => e = .returned (.tuple #[.int .i64 x, .bool true]) ∧ Below w.heap.size w w'
  up2 : ∀ w, Calls Try.prog 16 #[.int .i64 ((A : Int) + B), .int .i64 M] w fun e w' => e = .returned (.tuple #[.int .i64 y, .bool true]) ∧ Below w.heap.size w w'
  dn1 : ∀ w, Calls Try.prog 17 #[.int .i64 A, .int .i64 K] w fun e w' => e = .returned (.tuple #[.int .i64 v, .bool true]) ∧ Below w.heap.size w w'
  dn2 : ∀ w, Calls Try.prog 17 #[.int .i64 ((A : Int) + B), .int .i64 M] w fun e w' => e = .returned (.tuple #[.int .i64 z, .bool true]) ∧ Below w.heap.size w w'
  dn3 : ∀ w, Calls Try.prog 17 #[.int .i64 A, .int .i64 10000] w fun e w' => e = .returned (.tuple #[.int .i64 all, .bool true]) ∧ Below w.heap.size w w'
  up3 : ∀ w, Calls Try.prog 16 #[.int .i64 A, .int .i64 0] w fun e w' => e = .returned (.tuple #[.int .i64 none, .bool true]) ∧ Below w.heap.size w w'
  ux : x ≤ y
  vz : v ≤ z
  vx : v ≤ x
  xa : x ≤ A
  al : all = A
  no : none = 0
theorem grown {A B K M : Nat} (hA : A < 1152921504606846976) (hb : A + B ≤ 1152921504606846976) (hK : K ≤ M) (hM : M ≤ 10000) : ∃ x y v z all none, Grown A B K M x y v z all none := by
  obtain ⟨g1, g2, g3, g4, g5, g6, _, _⟩ := grows hb hK hM
  obtain ⟨m1, m2, m3⟩ := dn_may (x := A) (y := K) (by omega) (by omega)
  obtain ⟨n1, n2, n3⟩ := dn_may (x := A + B) (y := M) (by omega) (by omega)
  obtain ⟨o1, _, o3⟩ := dn_may (x := A) (y := 10000) (by omega) (by omega)
  obtain ⟨_, p2, p3⟩ := dn_may (x := A) (y := 0) (by omega) (by omega)
  rw [Int.natCast_add] at n1 n2 n3
  refine ⟨_, _, _, _, _, _, ⟨fun w => ?_, fun w => ?_, fun w => ?_, fun w => ?_, fun w => ?_, fun w => ?_, Int.ofNat_le.2 g1, Int.ofNat_le.2 g2, Int.ofNat_le.2 g3, Int.ofNat_le.2 g4, congrArg Int.ofNat g5, congrArg Int.ofNat g6⟩⟩
  · have := up_any A K w; rw [m2, m3] at this; exact this
  · have := up_any ((A : Int) + B) M w; rw [n2, n3] at this; exact this
  · have := down_any A K w; rw [m1, m3] at this; exact this
  · have := down_any ((A : Int) + B) M w; rw [n1, n3] at this; exact this
  · have := down_any A (10000 : Nat) w; rw [o1, o3] at this; exact this
  · have := up_any A (0 : Nat) w; rw [p2, p3] at this; exact this

set_option maxRecDepth 10000 in
set_option maxHeartbeats 8000000 in
theorem NumGrows_walk (a0 : Int) (a1 : Int) (a2 : List Value) (w : World) (w0 : (Lit.int .u64 a0).wf = true) (w1 : (Lit.int .u64 a1).wf = true) (w2 : IsArr 2 1 (IsInt .u16) w a2) :
    Calls Try.prog 6 #[.int .u64 a0, .int .u64 a1, .agg a2.toArray] w fun e w' => e = .returned (.bool true) ∧ Below w.heap.size w w' := by
  obtain ⟨hl, hel⟩ := w2
  match a2, hl with
  | [v0, v1], _ =>
    obtain ⟨t0, e0, g0⟩ := hel 0 (by omega)
    obtain ⟨t1, e1, g1⟩ := hel 1 (by omega)
    simp at e0 e1
    subst e0 e1
    have r0 : 0 ≤ a0 ∧ a0 ≤ 18446744073709551615 := by simpa [Lit.wf, IntKind.min, IntKind.max, IntKind.signed, IntKind.bits] using w0
    have r1 : 0 ≤ a1 ∧ a1 ≤ 18446744073709551615 := by simpa [Lit.wf, IntKind.min, IntKind.max, IntKind.signed, IntKind.bits] using w1
    have r2 : 0 ≤ t0 ∧ t0 ≤ 65535 := by simpa [Lit.wf, IntKind.min, IntKind.max, IntKind.signed, IntKind.bits] using g0
    have r3 : 0 ≤ t1 ∧ t1 ≤ 65535 := by simpa [Lit.wf, IntKind.min, IntKind.max, IntKind.signed, IntKind.bits] using g1
    clear w0 w1 g0 g1 hel
    obtain ⟨A, B, lA, lB, E1, E2⟩ : ∃ A B : Nat, A < 1152921504606846976 ∧ B < 1000 ∧ (a0 ≤ a1 → a0 % 1152921504606846976 = A ∧ a1 % 1000 = B) ∧ (a1 ≤ a0 → a1 % 1152921504606846976 = A ∧ a0 % 1000 = B) := by
      by_cases h : a0 ≤ a1
      · exact ⟨(a0 % 1152921504606846976).toNat, (a1 % 1000).toNat, by omega, by omega, by omega, by omega⟩
      · exact ⟨(a1 % 1152921504606846976).toNat, (a0 % 1000).toNat, by omega, by omega, by omega, by omega⟩
    obtain ⟨K, L, lK, lL, F1, F2⟩ : ∃ K L : Nat, K ≤ 10000 ∧ L < 50 ∧ (t0 ≤ t1 → t0 % 10001 = K ∧ t1 % 50 = L) ∧ (t1 ≤ t0 → t1 % 10001 = K ∧ t0 % 50 = L) := by
      by_cases h : t0 ≤ t1
      · exact ⟨(t0 % 10001).toNat, (t1 % 50).toNat, by omega, by omega, by omega, by omega⟩
      · exact ⟨(t1 % 10001).toNat, (t0 % 50).toNat, by omega, by omega, by omega, by omega⟩
    have hx0 : ∀ W : World, W.heap[w.heap.size]? = some (.cells #[.int .u16 t0, .int .u16 t1] 31 (0, 0)) → W.cell? ⟨w.heap.size, 0, none⟩ = some (.int .u16 t0) := fun W h => cell_of_heap h 0
    have hx1 : ∀ W : World, W.heap[w.heap.size]? = some (.cells #[.int .u16 t0, .int .u16 t1] 31 (0, 0)) → W.cell? ⟨w.heap.size, 1, none⟩ = some (.int .u16 t1) := fun W h => cell_of_heap h 1
    rcases Int.lt_trichotomy a0 a1 with ha | rfl | ha <;> rcases Int.lt_trichotomy t0 t1 with ht | rfl | ht
    · obtain ⟨eA, eB⟩ := E1 (Int.le_of_lt ha)
      obtain ⟨eK, eL⟩ := F1 (Int.le_of_lt ht)
      clear E1 E2 F1 F2 hl
      by_cases hb : A + B ≤ 1152921504606846976
      · by_cases hm : K + L ≤ 10000
        · obtain ⟨x, y, v, z', all, none, g⟩ := grown lA hb (Nat.le_add_right K L) hm
          obtain ⟨M, hM⟩ : ∃ M, M = K + L := ⟨_, rfl⟩
          rw [← hM] at g hm
          have el : (K : Int) + (L : Int) = (M : Int) := by omega
          clear hM
          have q1 := g.ux
          have q2 := g.vz
          have q3 := g.vx
          have q4 := g.xa
          have q5 := g.al
          have q6 := g.no
          have G := Lib.hid g
          clear g
          go_enter Try.func6, Try.ntmps6
          go_wp2_with fail
          refine (awake_any _).mono ?_
          rintro e u1 ⟨rfl, b1⟩
          have k1 := ((Kept.refl w).alloc _).call b1
          have z := (b1.block w.heap.size (by simp)).trans (push_new w _)
          have x0 := hx0 _ z
          have x1 := hx1 _ z
          clear b1 z hx0 hx1
          go_wp2_with fail
          refine (G.out.up1 _).mono ?_
          rintro e u2 ⟨rfl, b2⟩
          have k2 := k1.call b2
          clear b2
          go_wp2_with fail
          refine (G.out.up2 _).mono ?_
          rintro e u3 ⟨rfl, b3⟩
          have k3 := k2.call b3
          clear b3
          go_wp2_with fail
          refine (G.out.dn1 _).mono ?_
          rintro e u4 ⟨rfl, b4⟩
          have k4 := k3.call b4
          clear b4
          go_wp2_with fail
          refine (G.out.dn2 _).mono ?_
          rintro e u5 ⟨rfl, b5⟩
          have k5 := k4.call b5
          clear b5
          go_wp2_with fail
          refine (G.out.dn3 _).mono ?_
          rintro e u6 ⟨rfl, b6⟩
          have k6 := k5.call b6
          clear b6
          go_wp2_with fail
          refine (G.out.up3 _).mono ?_
          rintro e u7 ⟨rfl, b7⟩
          have k7 := k6.call b7
          clear b7
          go_wp2
          go_ret
          exact ⟨rfl, k7.1⟩
        · obtain ⟨x, y, v, z', all, none, g⟩ := grown lA hb lK (Nat.le_refl 10000)
          have hm' : (10000 : Int) < (K : Int) + (L : Int) := by omega
          clear hm
          have q1 := g.ux
          have q2 := g.vz
          have q3 := g.vx
          have q4 := g.xa
          have q5 := g.al
          have q6 := g.no
          have G := Lib.hid g
          clear g
          go_enter Try.func6, Try.ntmps6
          go_wp2_with fail
          refine (awake_any _).mono ?_
          rintro e u1 ⟨rfl, b1⟩
          have k1 := ((Kept.refl w).alloc _).call b1
          have z := (b1.block w.heap.size (by simp)).trans (push_new w _)
          have x0 := hx0 _ z
          have x1 := hx1 _ z
          clear b1 z hx0 hx1
          go_wp2_with fail
          refine (G.out.up1 _).mono ?_
          rintro e u2 ⟨rfl, b2⟩
          have k2 := k1.call b2
          clear b2
          go_wp2_with fail
          refine (G.out.up2 _).mono ?_
          rintro e u3 ⟨rfl, b3⟩
          have k3 := k2.call b3
          clear b3
          go_wp2_with fail
          refine (G.out.dn1 _).mono ?_
          rintro e u4 ⟨rfl, b4⟩
          have k4 := k3.call b4
          clear b4
          go_wp2_with fail
          refine (G.out.dn2 _).mono ?_
          rintro e u5 ⟨rfl, b5⟩
          have k5 := k4.call b5
          clear b5
          go_wp2_with fail
          refine (G.out.dn3 _).mono ?_
          rintro e u6 ⟨rfl, b6⟩
          have k6 := k5.call b6
          clear b6
          go_wp2_with fail
          refine (G.out.up3 _).mono ?_
          rintro e u7 ⟨rfl, b7⟩
          have k7 := k6.call b7
          clear b7
          go_wp2
          go_ret
          exact ⟨rfl, k7.1⟩
      · have hb' : (1152921504606846976 : Int) < (A : Int) + (B : Int) := by omega
        clear hb
        by_cases hm : K + L ≤ 10000
        · go_enter Try.func6, Try.ntmps6
          go_wp2_with fail
          refine (awake_any _).mono ?_
          rintro e u1 ⟨rfl, b1⟩
          have k1 := ((Kept.refl w).alloc _).call b1
          have z := (b1.block w.heap.size (by simp)).trans (push_new w _)
          have x0 := hx0 _ z
          have x1 := hx1 _ z
          clear b1 z hx0 hx1
          go_wp2
          go_ret
          exact ⟨rfl, k1.1⟩
        · go_enter Try.func6, Try.ntmps6
          go_wp2_with fail
          refine (awake_any _).mono ?_
          rintro e u1 ⟨rfl, b1⟩
          have k1 := ((Kept.refl w).alloc _).call b1
          have z := (b1.block w.heap.size (by simp)).trans (push_new w _)
          have x0 := hx0 _ z
          have x1 := hx1 _ z
          clear b1 z hx0 hx1
          go_wp2
          go_ret
          exact ⟨rfl, k1.1⟩
    · obtain ⟨eA, eB⟩ := E1 (Int.le_of_lt ha)
      obtain ⟨eK, eL⟩ := F1 (Int.le_refl _)
      clear E1 E2 F1 F2 hl
      by_cases hb : A + B ≤ 1152921504606846976
      · by_cases hm : K + L ≤ 10000
        · obtain ⟨x, y, v, z', all, none, g⟩ := grown lA hb (Nat.le_add_right K L) hm
          obtain ⟨M, hM⟩ : ∃ M, M = K + L := ⟨_, rfl⟩
          rw [← hM] at g hm
          have el : (K : Int) + (L : Int) = (M : Int) := by omega
          clear hM
          have q1 := g.ux
          have q2 := g.vz
          have q3 := g.vx
          have q4 := g.xa
          have q5 := g.al
          have q6 := g.no
          have G := Lib.hid g
          clear g
          go_enter Try.func6, Try.ntmps6
          go_wp2_with fail
          refine (awake_any _).mono ?_
          rintro e u1 ⟨rfl, b1⟩
          have k1 := ((Kept.refl w).alloc _).call b1
          have z := (b1.block w.heap.size (by simp)).trans (push_new w _)
          have x0 := hx0 _ z
          have x1 := hx1 _ z
          clear b1 z hx0 hx1
          go_wp2_with fail
          refine (G.out.up1 _).mono ?_
          rintro e u2 ⟨rfl, b2⟩
          have k2 := k1.call b2
          clear b2
          go_wp2_with fail
          refine (G.out.up2 _).mono ?_
          rintro e u3 ⟨rfl, b3⟩
          have k3 := k2.call b3
          clear b3
          go_wp2_with fail
          refine (G.out.dn1 _).mono ?_
          rintro e u4 ⟨rfl, b4⟩
          have k4 := k3.call b4
          clear b4
          go_wp2_with fail
          refine (G.out.dn2 _).mono ?_
          rintro e u5 ⟨rfl, b5⟩
          have k5 := k4.call b5
          clear b5
          go_wp2_with fail
          refine (G.out.dn3 _).mono ?_
          rintro e u6 ⟨rfl, b6⟩
          have k6 := k5.call b6
          clear b6
          go_wp2_with fail
          refine (G.out.up3 _).mono ?_
          rintro e u7 ⟨rfl, b7⟩
          have k7 := k6.call b7
          clear b7
          go_wp2
          go_ret
          exact ⟨rfl, k7.1⟩
        · obtain ⟨x, y, v, z', all, none, g⟩ := grown lA hb lK (Nat.le_refl 10000)
          have hm' : (10000 : Int) < (K : Int) + (L : Int) := by omega
          clear hm
          have q1 := g.ux
          have q2 := g.vz
          have q3 := g.vx
          have q4 := g.xa
          have q5 := g.al
          have q6 := g.no
          have G := Lib.hid g
          clear g
          go_enter Try.func6, Try.ntmps6
          go_wp2_with fail
          refine (awake_any _).mono ?_
          rintro e u1 ⟨rfl, b1⟩
          have k1 := ((Kept.refl w).alloc _).call b1
          have z := (b1.block w.heap.size (by simp)).trans (push_new w _)
          have x0 := hx0 _ z
          have x1 := hx1 _ z
          clear b1 z hx0 hx1
          go_wp2_with fail
          refine (G.out.up1 _).mono ?_
          rintro e u2 ⟨rfl, b2⟩
          have k2 := k1.call b2
          clear b2
          go_wp2_with fail
          refine (G.out.up2 _).mono ?_
          rintro e u3 ⟨rfl, b3⟩
          have k3 := k2.call b3
          clear b3
          go_wp2_with fail
          refine (G.out.dn1 _).mono ?_
          rintro e u4 ⟨rfl, b4⟩
          have k4 := k3.call b4
          clear b4
          go_wp2_with fail
          refine (G.out.dn2 _).mono ?_
          rintro e u5 ⟨rfl, b5⟩
          have k5 := k4.call b5
          clear b5
          go_wp2_with fail
          refine (G.out.dn3 _).mono ?_
          rintro e u6 ⟨rfl, b6⟩
          have k6 := k5.call b6
          clear b6
          go_wp2_with fail
          refine (G.out.up3 _).mono ?_
          rintro e u7 ⟨rfl, b7⟩
          have k7 := k6.call b7
          clear b7
          go_wp2
          go_ret
          exact ⟨rfl, k7.1⟩
      · have hb' : (1152921504606846976 : Int) < (A : Int) + (B : Int) := by omega
        clear hb
        by_cases hm : K + L ≤ 10000
        · go_enter Try.func6, Try.ntmps6
          go_wp2_with fail
          refine (awake_any _).mono ?_
          rintro e u1 ⟨rfl, b1⟩
          have k1 := ((Kept.refl w).alloc _).call b1
          have z := (b1.block w.heap.size (by simp)).trans (push_new w _)
          have x0 := hx0 _ z
          have x1 := hx1 _ z
          clear b1 z hx0 hx1
          go_wp2
          go_ret
          exact ⟨rfl, k1.1⟩
        · go_enter Try.func6, Try.ntmps6
          go_wp2_with fail
          refine (awake_any _).mono ?_
          rintro e u1 ⟨rfl, b1⟩
          have k1 := ((Kept.refl w).alloc _).call b1
          have z := (b1.block w.heap.size (by simp)).trans (push_new w _)
          have x0 := hx0 _ z
          have x1 := hx1 _ z
          clear b1 z hx0 hx1
          go_wp2
          go_ret
          exact ⟨rfl, k1.1⟩
    · obtain ⟨eA, eB⟩ := E1 (Int.le_of_lt ha)
      obtain ⟨eK, eL⟩ := F2 (Int.le_of_lt ht)
      clear E1 E2 F1 F2 hl
      by_cases hb : A + B ≤ 1152921504606846976
      · by_cases hm : K + L ≤ 10000
        · obtain ⟨x, y, v, z', all, none, g⟩ := grown lA hb (Nat.le_add_right K L) hm
          obtain ⟨M, hM⟩ : ∃ M, M = K + L := ⟨_, rfl⟩
          rw [← hM] at g hm
          have el : (K : Int) + (L : Int) = (M : Int) := by omega
          clear hM
          have q1 := g.ux
          have q2 := g.vz
          have q3 := g.vx
          have q4 := g.xa
          have q5 := g.al
          have q6 := g.no
          have G := Lib.hid g
          clear g
          go_enter Try.func6, Try.ntmps6
          go_wp2_with fail
          refine (awake_any _).mono ?_
          rintro e u1 ⟨rfl, b1⟩
          have k1 := ((Kept.refl w).alloc _).call b1
          have z := (b1.block w.heap.size (by simp)).trans (push_new w _)
          have x0 := hx0 _ z
          have x1 := hx1 _ z
          clear b1 z hx0 hx1
          go_wp2_with fail
          refine (G.out.up1 _).mono ?_
          rintro e u2 ⟨rfl, b2⟩
          have k2 := k1.call b2
          clear b2
          go_wp2_with fail
          refine (G.out.up2 _).mono ?_
          rintro e u3 ⟨rfl, b3⟩
          have k3 := k2.call b3
          clear b3
          go_wp2_with fail
          refine (G.out.dn1 _).mono ?_
          rintro e u4 ⟨rfl, b4⟩
          have k4 := k3.call b4
          clear b4
          go_wp2_with fail
          refine (G.out.dn2 _).mono ?_
          rintro e u5 ⟨rfl, b5⟩
          have k5 := k4.call b5
          clear b5
          go_wp2_with fail
          refine (G.out.dn3 _).mono ?_
          rintro e u6 ⟨rfl, b6⟩
          have k6 := k5.call b6
          clear b6
          go_wp2_with fail
          refine (G.out.up3 _).mono ?_
          rintro e u7 ⟨rfl, b7⟩
          have k7 := k6.call b7
          clear b7
          go_wp2
          go_ret
          exact ⟨rfl, k7.1⟩
        · obtain ⟨x, y, v, z', all, none, g⟩ := grown lA hb lK (Nat.le_refl 10000)
          have hm' : (10000 : Int) < (K : Int) + (L : Int) := by omega
          clear hm
          have q1 := g.ux
          have q2 := g.vz
          have q3 := g.vx
          have q4 := g.xa
          have q5 := g.al
          have q6 := g.no
          have G := Lib.hid g
          clear g
          go_enter Try.func6, Try.ntmps6
          go_wp2_with fail
          refine (awake_any _).mono ?_
          rintro e u1 ⟨rfl, b1⟩
          have k1 := ((Kept.refl w).alloc _).call b1
          have z := (b1.block w.heap.size (by simp)).trans (push_new w _)
          have x0 := hx0 _ z
          have x1 := hx1 _ z
          clear b1 z hx0 hx1
          go_wp2_with fail
          refine (G.out.up1 _).mono ?_
          rintro e u2 ⟨rfl, b2⟩
          have k2 := k1.call b2
          clear b2
          go_wp2_with fail
          refine (G.out.up2 _).mono ?_
          rintro e u3 ⟨rfl, b3⟩
          have k3 := k2.call b3
          clear b3
          go_wp2_with fail
          refine (G.out.dn1 _).mono ?_
          rintro e u4 ⟨rfl, b4⟩
          have k4 := k3.call b4
          clear b4
          go_wp2_with fail
          refine (G.out.dn2 _).mono ?_
          rintro e u5 ⟨rfl, b5⟩
          have k5 := k4.call b5
          clear b5
          go_wp2_with fail
          refine (G.out.dn3 _).mono ?_
          rintro e u6 ⟨rfl, b6⟩
          have k6 := k5.call b6
          clear b6
          go_wp2_with fail
          refine (G.out.up3 _).mono ?_
          rintro e u7 ⟨rfl, b7⟩
          have k7 := k6.call b7
          clear b7
          go_wp2
          go_ret
          exact ⟨rfl, k7.1⟩
      · have hb' : (1152921504606846976 : Int) < (A : Int) + (B : Int) := by omega
        clear hb
        by_cases hm : K + L ≤ 10000
        · go_enter Try.func6, Try.ntmps6
          go_wp2_with fail
          refine (awake_any _).mono ?_
          rintro e u1 ⟨rfl, b1⟩
          have k1 := ((Kept.refl w).alloc _).call b1
          have z := (b1.block w.heap.size (by simp)).trans (push_new w _)
          have x0 := hx0 _ z
          have x1 := hx1 _ z
          clear b1 z hx0 hx1
          go_wp2
          go_ret
          exact ⟨rfl, k1.1⟩
        · go_enter Try.func6, Try.ntmps6
          go_wp2_with fail
          refine (awake_any _).mono ?_
          rintro e u1 ⟨rfl, b1⟩
          have k1 := ((Kept.refl w).alloc _).call b1
          have z := (b1.block w.heap.size (by simp)).trans (push_new w _)
          have x0 := hx0 _ z
          have x1 := hx1 _ z
          clear b1 z hx0 hx1
          go_wp2
          go_ret
          exact ⟨rfl, k1.1⟩
    · obtain ⟨eA, eB⟩ := E1 (Int.le_refl _)
      obtain ⟨eK, eL⟩ := F1 (Int.le_of_lt ht)
      clear E1 E2 F1 F2 hl
      by_cases hb : A + B ≤ 1152921504606846976
      · by_cases hm : K + L ≤ 10000
        · obtain ⟨x, y, v, z', all, none, g⟩ := grown lA hb (Nat.le_add_right K L) hm
          obtain ⟨M, hM⟩ : ∃ M, M = K + L := ⟨_, rfl⟩
          rw [← hM] at g hm
          have el : (K : Int) + (L : Int) = (M : Int) := by omega
          clear hM
          have q1 := g.ux
          have q2 := g.vz
          have q3 := g.vx
          have q4 := g.xa
          have q5 := g.al
          have q6 := g.no
          have G := Lib.hid g
          clear g
          go_enter Try.func6, Try.ntmps6
          go_wp2_with fail
          refine (awake_any _).mono ?_
          rintro e u1 ⟨rfl, b1⟩
          have k1 := ((Kept.refl w).alloc _).call b1
          have z := (b1.block w.heap.size (by simp)).trans (push_new w _)
          have x0 := hx0 _ z
          have x1 := hx1 _ z
          clear b1 z hx0 hx1
          go_wp2_with fail
          refine (G.out.up1 _).mono ?_
          rintro e u2 ⟨rfl, b2⟩
          have k2 := k1.call b2
          clear b2
          go_wp2_with fail
          refine (G.out.up2 _).mono ?_
          rintro e u3 ⟨rfl, b3⟩
          have k3 := k2.call b3
          clear b3
          go_wp2_with fail
          refine (G.out.dn1 _).mono ?_
          rintro e u4 ⟨rfl, b4⟩
          have k4 := k3.call b4
          clear b4
          go_wp2_with fail
          refine (G.out.dn2 _).mono ?_
          rintro e u5 ⟨rfl, b5⟩
          have k5 := k4.call b5
          clear b5
          go_wp2_with fail
          refine (G.out.dn3 _).mono ?_
          rintro e u6 ⟨rfl, b6⟩
          have k6 := k5.call b6
          clear b6
          go_wp2_with fail
          refine (G.out.up3 _).mono ?_
          rintro e u7 ⟨rfl, b7⟩
          have k7 := k6.call b7
          clear b7
          go_wp2
          go_ret
          exact ⟨rfl, k7.1⟩
        · obtain ⟨x, y, v, z', all, none, g⟩ := grown lA hb lK (Nat.le_refl 10000)
          have hm' : (10000 : Int) < (K : Int) + (L : Int) := by omega
          clear hm
          have q1 := g.ux
          have q2 := g.vz
          have q3 := g.vx
          have q4 := g.xa
          have q5 := g.al
          have q6 := g.no
          have G := Lib.hid g
          clear g
          go_enter Try.func6, Try.ntmps6
          go_wp2_with fail
          refine (awake_any _).mono ?_
          rintro e u1 ⟨rfl, b1⟩
          have k1 := ((Kept.refl w).alloc _).call b1
          have z := (b1.block w.heap.size (by simp)).trans (push_new w _)
          have x0 := hx0 _ z
          have x1 := hx1 _ z
          clear b1 z hx0 hx1
          go_wp2_with fail
          refine (G.out.up1 _).mono ?_
          rintro e u2 ⟨rfl, b2⟩
          have k2 := k1.call b2
          clear b2
          go_wp2_with fail
          refine (G.out.up2 _).mono ?_
          rintro e u3 ⟨rfl, b3⟩
          have k3 := k2.call b3
          clear b3
          go_wp2_with fail
          refine (G.out.dn1 _).mono ?_
          rintro e u4 ⟨rfl, b4⟩
          have k4 := k3.call b4
          clear b4
          go_wp2_with fail
          refine (G.out.dn2 _).mono ?_
          rintro e u5 ⟨rfl, b5⟩
          have k5 := k4.call b5
          clear b5
          go_wp2_with fail
          refine (G.out.dn3 _).mono ?_
          rintro e u6 ⟨rfl, b6⟩
          have k6 := k5.call b6
          clear b6
          go_wp2_with fail
          refine (G.out.up3 _).mono ?_
          rintro e u7 ⟨rfl, b7⟩
          have k7 := k6.call b7
          clear b7
          go_wp2
          go_ret
          exact ⟨rfl, k7.1⟩
      · have hb' : (1152921504606846976 : Int) < (A : Int) + (B : Int) := by omega
        clear hb
        by_cases hm : K + L ≤ 10000
        · go_enter Try.func6, Try.ntmps6
          go_wp2_with fail
          refine (awake_any _).mono ?_
          rintro e u1 ⟨rfl, b1⟩
          have k1 := ((Kept.refl w).alloc _).call b1
          have z := (b1.block w.heap.size (by simp)).trans (push_new w _)
          have x0 := hx0 _ z
          have x1 := hx1 _ z
          clear b1 z hx0 hx1
          go_wp2
          go_ret
          exact ⟨rfl, k1.1⟩
        · go_enter Try.func6, Try.ntmps6
          go_wp2_with fail
          refine (awake_any _).mono ?_
          rintro e u1 ⟨rfl, b1⟩
          have k1 := ((Kept.refl w).alloc _).call b1
          have z := (b1.block w.heap.size (by simp)).trans (push_new w _)
          have x0 := hx0 _ z
          have x1 := hx1 _ z
          clear b1 z hx0 hx1
          go_wp2
          go_ret
          exact ⟨rfl, k1.1⟩
    · obtain ⟨eA, eB⟩ := E1 (Int.le_refl _)
      obtain ⟨eK, eL⟩ := F1 (Int.le_refl _)
      clear E1 E2 F1 F2 hl
      by_cases hb : A + B ≤ 1152921504606846976
      · by_cases hm : K + L ≤ 10000
        · obtain ⟨x, y, v, z', all, none, g⟩ := grown lA hb (Nat.le_add_right K L) hm
          obtain ⟨M, hM⟩ : ∃ M, M = K + L := ⟨_, rfl⟩
          rw [← hM] at g hm
          have el : (K : Int) + (L : Int) = (M : Int) := by omega
          clear hM
          have q1 := g.ux
          have q2 := g.vz
          have q3 := g.vx
          have q4 := g.xa
          have q5 := g.al
          have q6 := g.no
          have G := Lib.hid g
          clear g
          go_enter Try.func6, Try.ntmps6
          go_wp2_with fail
          refine (awake_any _).mono ?_
          rintro e u1 ⟨rfl, b1⟩
          have k1 := ((Kept.refl w).alloc _).call b1
          have z := (b1.block w.heap.size (by simp)).trans (push_new w _)
          have x0 := hx0 _ z
          have x1 := hx1 _ z
          clear b1 z hx0 hx1
          go_wp2_with fail
          refine (G.out.up1 _).mono ?_
          rintro e u2 ⟨rfl, b2⟩
          have k2 := k1.call b2
          clear b2
          go_wp2_with fail
          refine (G.out.up2 _).mono ?_
          rintro e u3 ⟨rfl, b3⟩
          have k3 := k2.call b3
          clear b3
          go_wp2_with fail
          refine (G.out.dn1 _).mono ?_
          rintro e u4 ⟨rfl, b4⟩
          have k4 := k3.call b4
          clear b4
          go_wp2_with fail
          refine (G.out.dn2 _).mono ?_
          rintro e u5 ⟨rfl, b5⟩
          have k5 := k4.call b5
          clear b5
          go_wp2_with fail
          refine (G.out.dn3 _).mono ?_
          rintro e u6 ⟨rfl, b6⟩
          have k6 := k5.call b6
          clear b6
          go_wp2_with fail
          refine (G.out.up3 _).mono ?_
          rintro e u7 ⟨rfl, b7⟩
          have k7 := k6.call b7
          clear b7
          go_wp2
          go_ret
          exact ⟨rfl, k7.1⟩
        · obtain ⟨x, y, v, z', all, none, g⟩ := grown lA hb lK (Nat.le_refl 10000)
          have hm' : (10000 : Int) < (K : Int) + (L : Int) := by omega
          clear hm
          have q1 := g.ux
          have q2 := g.vz
          have q3 := g.vx
          have q4 := g.xa
          have q5 := g.al
          have q6 := g.no
          have G := Lib.hid g
          clear g
          go_enter Try.func6, Try.ntmps6
          go_wp2_with fail
          refine (awake_any _).mono ?_
          rintro e u1 ⟨rfl, b1⟩
          have k1 := ((Kept.refl w).alloc _).call b1
          have z := (b1.block w.heap.size (by simp)).trans (push_new w _)
          have x0 := hx0 _ z
          have x1 := hx1 _ z
          clear b1 z hx0 hx1
          go_wp2_with fail
          refine (G.out.up1 _).mono ?_
          rintro e u2 ⟨rfl, b2⟩
          have k2 := k1.call b2
          clear b2
          go_wp2_with fail
          refine (G.out.up2 _).mono ?_
          rintro e u3 ⟨rfl, b3⟩
          have k3 := k2.call b3
          clear b3
          go_wp2_with fail
          refine (G.out.dn1 _).mono ?_
          rintro e u4 ⟨rfl, b4⟩
          have k4 := k3.call b4
          clear b4
          go_wp2_with fail
          refine (G.out.dn2 _).mono ?_
          rintro e u5 ⟨rfl, b5⟩
          have k5 := k4.call b5
          clear b5
          go_wp2_with fail
          refine (G.out.dn3 _).mono ?_
          rintro e u6 ⟨rfl, b6⟩
          have k6 := k5.call b6
          clear b6
          go_wp2_with fail
          refine (G.out.up3 _).mono ?_
          rintro e u7 ⟨rfl, b7⟩
          have k7 := k6.call b7
          clear b7
          go_wp2
          go_ret
          exact ⟨rfl, k7.1⟩
      · have hb' : (1152921504606846976 : Int) < (A : Int) + (B : Int) := by omega
        clear hb
        by_cases hm : K + L ≤ 10000
        · go_enter Try.func6, Try.ntmps6
          go_wp2_with fail
          refine (awake_any _).mono ?_
          rintro e u1 ⟨rfl, b1⟩
          have k1 := ((Kept.refl w).alloc _).call b1
          have z := (b1.block w.heap.size (by simp)).trans (push_new w _)
          have x0 := hx0 _ z
          have x1 := hx1 _ z
          clear b1 z hx0 hx1
          go_wp2
          go_ret
          exact ⟨rfl, k1.1⟩
        · go_enter Try.func6, Try.ntmps6
          go_wp2_with fail
          refine (awake_any _).mono ?_
          rintro e u1 ⟨rfl, b1⟩
          have k1 := ((Kept.refl w).alloc _).call b1
          have z := (b1.block w.heap.size (by simp)).trans (push_new w _)
          have x0 := hx0 _ z
          have x1 := hx1 _ z
          clear b1 z hx0 hx1
          go_wp2
          go_ret
          exact ⟨rfl, k1.1⟩
    · obtain ⟨eA, eB⟩ := E1 (Int.le_refl _)
      obtain ⟨eK, eL⟩ := F2 (Int.le_of_lt ht)
      clear E1 E2 F1 F2 hl
      by_cases hb : A + B ≤ 1152921504606846976
      · by_cases hm : K + L ≤ 10000
        · obtain ⟨x, y, v, z', all, none, g⟩ := grown lA hb (Nat.le_add_right K L) hm
          obtain ⟨M, hM⟩ : ∃ M, M = K + L := ⟨_, rfl⟩
          rw [← hM] at g hm
          have el : (K : Int) + (L : Int) = (M : Int) := by omega
          clear hM
          have q1 := g.ux
          have q2 := g.vz
          have q3 := g.vx
          have q4 := g.xa
          have q5 := g.al
          have q6 := g.no
          have G := Lib.hid g
          clear g
          go_enter Try.func6, Try.ntmps6
          go_wp2_with fail
          refine (awake_any _).mono ?_
          rintro e u1 ⟨rfl, b1⟩
          have k1 := ((Kept.refl w).alloc _).call b1
          have z := (b1.block w.heap.size (by simp)).trans (push_new w _)
          have x0 := hx0 _ z
          have x1 := hx1 _ z
          clear b1 z hx0 hx1
          go_wp2_with fail
          refine (G.out.up1 _).mono ?_
          rintro e u2 ⟨rfl, b2⟩
          have k2 := k1.call b2
          clear b2
          go_wp2_with fail
          refine (G.out.up2 _).mono ?_
          rintro e u3 ⟨rfl, b3⟩
          have k3 := k2.call b3
          clear b3
          go_wp2_with fail
          refine (G.out.dn1 _).mono ?_
          rintro e u4 ⟨rfl, b4⟩
          have k4 := k3.call b4
          clear b4
          go_wp2_with fail
          refine (G.out.dn2 _).mono ?_
          rintro e u5 ⟨rfl, b5⟩
          have k5 := k4.call b5
          clear b5
          go_wp2_with fail
          refine (G.out.dn3 _).mono ?_
          rintro e u6 ⟨rfl, b6⟩
          have k6 := k5.call b6
          clear b6
          go_wp2_with fail
          refine (G.out.up3 _).mono ?_
          rintro e u7 ⟨rfl, b7⟩
          have k7 := k6.call b7
          clear b7
          go_wp2
          go_ret
          exact ⟨rfl, k7.1⟩
        · obtain ⟨x, y, v, z', all, none, g⟩ := grown lA hb lK (Nat.le_refl 10000)
          have hm' : (10000 : Int) < (K : Int) + (L : Int) := by omega
          clear hm
          have q1 := g.ux
          have q2 := g.vz
          have q3 := g.vx
          have q4 := g.xa
          have q5 := g.al
          have q6 := g.no
          have G := Lib.hid g
          clear g
          go_enter Try.func6, Try.ntmps6
          go_wp2_with fail
          refine (awake_any _).mono ?_
          rintro e u1 ⟨rfl, b1⟩
          have k1 := ((Kept.refl w).alloc _).call b1
          have z := (b1.block w.heap.size (by simp)).trans (push_new w _)
          have x0 := hx0 _ z
          have x1 := hx1 _ z
          clear b1 z hx0 hx1
          go_wp2_with fail
          refine (G.out.up1 _).mono ?_
          rintro e u2 ⟨rfl, b2⟩
          have k2 := k1.call b2
          clear b2
          go_wp2_with fail
          refine (G.out.up2 _).mono ?_
          rintro e u3 ⟨rfl, b3⟩
          have k3 := k2.call b3
          clear b3
          go_wp2_with fail
          refine (G.out.dn1 _).mono ?_
          rintro e u4 ⟨rfl, b4⟩
          have k4 := k3.call b4
          clear b4
          go_wp2_with fail
          refine (G.out.dn2 _).mono ?_
          rintro e u5 ⟨rfl, b5⟩
          have k5 := k4.call b5
          clear b5
          go_wp2_with fail
          refine (G.out.dn3 _).mono ?_
          rintro e u6 ⟨rfl, b6⟩
          have k6 := k5.call b6
          clear b6
          go_wp2_with fail
          refine (G.out.up3 _).mono ?_
          rintro e u7 ⟨rfl, b7⟩
          have k7 := k6.call b7
          clear b7
          go_wp2
          go_ret
          exact ⟨rfl, k7.1⟩
      · have hb' : (1152921504606846976 : Int) < (A : Int) + (B : Int) := by omega
        clear hb
        by_cases hm : K + L ≤ 10000
        · go_enter Try.func6, Try.ntmps6
          go_wp2_with fail
          refine (awake_any _).mono ?_
          rintro e u1 ⟨rfl, b1⟩
          have k1 := ((Kept.refl w).alloc _).call b1
          have z := (b1.block w.heap.size (by simp)).trans (push_new w _)
          have x0 := hx0 _ z
          have x1 := hx1 _ z
          clear b1 z hx0 hx1
          go_wp2
          go_ret
          exact ⟨rfl, k1.1⟩
        · go_enter Try.func6, Try.ntmps6
          go_wp2_with fail
          refine (awake_any _).mono ?_
          rintro e u1 ⟨rfl, b1⟩
          have k1 := ((Kept.refl w).alloc _).call b1
          have z := (b1.block w.heap.size (by simp)).trans (push_new w _)
          have x0 := hx0 _ z
          have x1 := hx1 _ z
          clear b1 z hx0 hx1
          go_wp2
          go_ret
          exact ⟨rfl, k1.1⟩
    · obtain ⟨eA, eB⟩ := E2 (Int.le_of_lt ha)
      obtain ⟨eK, eL⟩ := F1 (Int.le_of_lt ht)
      clear E1 E2 F1 F2 hl
      by_cases hb : A + B ≤ 1152921504606846976
      · by_cases hm : K + L ≤ 10000
        · obtain ⟨x, y, v, z', all, none, g⟩ := grown lA hb (Nat.le_add_right K L) hm
          obtain ⟨M, hM⟩ : ∃ M, M = K + L := ⟨_, rfl⟩
          rw [← hM] at g hm
          have el : (K : Int) + (L : Int) = (M : Int) := by omega
          clear hM
          have q1 := g.ux
          have q2 := g.vz
          have q3 := g.vx
          have q4 := g.xa
          have q5 := g.al
          have q6 := g.no
          have G := Lib.hid g
          clear g
          go_enter Try.func6, Try.ntmps6
          go_wp2_with fail
          refine (awake_any _).mono ?_
          rintro e u1 ⟨rfl, b1⟩
          have k1 := ((Kept.refl w).alloc _).call b1
          have z := (b1.block w.heap.size (by simp)).trans (push_new w _)
          have x0 := hx0 _ z
          have x1 := hx1 _ z
          clear b1 z hx0 hx1
          go_wp2_with fail
          refine (G.out.up1 _).mono ?_
          rintro e u2 ⟨rfl, b2⟩
          have k2 := k1.call b2
          clear b2
          go_wp2_with fail
          refine (G.out.up2 _).mono ?_
          rintro e u3 ⟨rfl, b3⟩
          have k3 := k2.call b3
          clear b3
          go_wp2_with fail
          refine (G.out.dn1 _).mono ?_
          rintro e u4 ⟨rfl, b4⟩
          have k4 := k3.call b4
          clear b4
          go_wp2_with fail
          refine (G.out.dn2 _).mono ?_
          rintro e u5 ⟨rfl, b5⟩
          have k5 := k4.call b5
          clear b5
          go_wp2_with fail
          refine (G.out.dn3 _).mono ?_
          rintro e u6 ⟨rfl, b6⟩
          have k6 := k5.call b6
          clear b6
          go_wp2_with fail
          refine (G.out.up3 _).mono ?_
          rintro e u7 ⟨rfl, b7⟩
          have k7 := k6.call b7
          clear b7
          go_wp2
          go_ret
          exact ⟨rfl, k7.1⟩
        · obtain ⟨x, y, v, z', all, none, g⟩ := grown lA hb lK (Nat.le_refl 10000)
          have hm' : (10000 : Int) < (K : Int) + (L : Int) := by omega
          clear hm
          have q1 := g.ux
          have q2 := g.vz
          have q3 := g.vx
          have q4 := g.xa
          have q5 := g.al
          have q6 := g.no
          have G := Lib.hid g
          clear g
          go_enter Try.func6, Try.ntmps6
          go_wp2_with fail
          refine (awake_any _).mono ?_
          rintro e u1 ⟨rfl, b1⟩
          have k1 := ((Kept.refl w).alloc _).call b1
          have z := (b1.block w.heap.size (by simp)).trans (push_new w _)
          have x0 := hx0 _ z
          have x1 := hx1 _ z
          clear b1 z hx0 hx1
          go_wp2_with fail
          refine (G.out.up1 _).mono ?_
          rintro e u2 ⟨rfl, b2⟩
          have k2 := k1.call b2
          clear b2
          go_wp2_with fail
          refine (G.out.up2 _).mono ?_
          rintro e u3 ⟨rfl, b3⟩
          have k3 := k2.call b3
          clear b3
          go_wp2_with fail
          refine (G.out.dn1 _).mono ?_
          rintro e u4 ⟨rfl, b4⟩
          have k4 := k3.call b4
          clear b4
          go_wp2_with fail
          refine (G.out.dn2 _).mono ?_
          rintro e u5 ⟨rfl, b5⟩
          have k5 := k4.call b5
          clear b5
          go_wp2_with fail
          refine (G.out.dn3 _).mono ?_
          rintro e u6 ⟨rfl, b6⟩
          have k6 := k5.call b6
          clear b6
          go_wp2_with fail
          refine (G.out.up3 _).mono ?_
          rintro e u7 ⟨rfl, b7⟩
          have k7 := k6.call b7
          clear b7
          go_wp2
          go_ret
          exact ⟨rfl, k7.1⟩
      · have hb' : (1152921504606846976 : Int) < (A : Int) + (B : Int) := by omega
        clear hb
        by_cases hm : K + L ≤ 10000
        · go_enter Try.func6, Try.ntmps6
          go_wp2_with fail
          refine (awake_any _).mono ?_
          rintro e u1 ⟨rfl, b1⟩
          have k1 := ((Kept.refl w).alloc _).call b1
          have z := (b1.block w.heap.size (by simp)).trans (push_new w _)
          have x0 := hx0 _ z
          have x1 := hx1 _ z
          clear b1 z hx0 hx1
          go_wp2
          go_ret
          exact ⟨rfl, k1.1⟩
        · go_enter Try.func6, Try.ntmps6
          go_wp2_with fail
          refine (awake_any _).mono ?_
          rintro e u1 ⟨rfl, b1⟩
          have k1 := ((Kept.refl w).alloc _).call b1
          have z := (b1.block w.heap.size (by simp)).trans (push_new w _)
          have x0 := hx0 _ z
          have x1 := hx1 _ z
          clear b1 z hx0 hx1
          go_wp2
          go_ret
          exact ⟨rfl, k1.1⟩
    · obtain ⟨eA, eB⟩ := E2 (Int.le_of_lt ha)
      obtain ⟨eK, eL⟩ := F1 (Int.le_refl _)
      clear E1 E2 F1 F2 hl
      by_cases hb : A + B ≤ 1152921504606846976
      · by_cases hm : K + L ≤ 10000
        · obtain ⟨x, y, v, z', all, none, g⟩ := grown lA hb (Nat.le_add_right K L) hm
          obtain ⟨M, hM⟩ : ∃ M, M = K + L := ⟨_, rfl⟩
          rw [← hM] at g hm
          have el : (K : Int) + (L : Int) = (M : Int) := by omega
          clear hM
          have q1 := g.ux
          have q2 := g.vz
          have q3 := g.vx
          have q4 := g.xa
          have q5 := g.al
          have q6 := g.no
          have G := Lib.hid g
          clear g
          go_enter Try.func6, Try.ntmps6
          go_wp2_with fail
          refine (awake_any _).mono ?_
          rintro e u1 ⟨rfl, b1⟩
          have k1 := ((Kept.refl w).alloc _).call b1
          have z := (b1.block w.heap.size (by simp)).trans (push_new w _)
          have x0 := hx0 _ z
          have x1 := hx1 _ z
          clear b1 z hx0 hx1
          go_wp2_with fail
          refine (G.out.up1 _).mono ?_
          rintro e u2 ⟨rfl, b2⟩
          have k2 := k1.call b2
          clear b2
          go_wp2_with fail
          refine (G.out.up2 _).mono ?_
          rintro e u3 ⟨rfl, b3⟩
          have k3 := k2.call b3
          clear b3
          go_wp2_with fail
          refine (G.out.dn1 _).mono ?_
          rintro e u4 ⟨rfl, b4⟩
          have k4 := k3.call b4
          clear b4
          go_wp2_with fail
          refine (G.out.dn2 _).mono ?_
          rintro e u5 ⟨rfl, b5⟩
          have k5 := k4.call b5
          clear b5
          go_wp2_with fail
          refine (G.out.dn3 _).mono ?_
          rintro e u6 ⟨rfl, b6⟩
          have k6 := k5.call b6
          clear b6
          go_wp2_with fail
          refine (G.out.up3 _).mono ?_
          rintro e u7 ⟨rfl, b7⟩
          have k7 := k6.call b7
          clear b7
          go_wp2
          go_ret
          exact ⟨rfl, k7.1⟩
        · obtain ⟨x, y, v, z', all, none, g⟩ := grown lA hb lK (Nat.le_refl 10000)
          have hm' : (10000 : Int) < (K : Int) + (L : Int) := by omega
          clear hm
          have q1 := g.ux
          have q2 := g.vz
          have q3 := g.vx
          have q4 := g.xa
          have q5 := g.al
          have q6 := g.no
          have G := Lib.hid g
          clear g
          go_enter Try.func6, Try.ntmps6
          go_wp2_with fail
          refine (awake_any _).mono ?_
          rintro e u1 ⟨rfl, b1⟩
          have k1 := ((Kept.refl w).alloc _).call b1
          have z := (b1.block w.heap.size (by simp)).trans (push_new w _)
          have x0 := hx0 _ z
          have x1 := hx1 _ z
          clear b1 z hx0 hx1
          go_wp2_with fail
          refine (G.out.up1 _).mono ?_
          rintro e u2 ⟨rfl, b2⟩
          have k2 := k1.call b2
          clear b2
          go_wp2_with fail
          refine (G.out.up2 _).mono ?_
          rintro e u3 ⟨rfl, b3⟩
          have k3 := k2.call b3
          clear b3
          go_wp2_with fail
          refine (G.out.dn1 _).mono ?_
          rintro e u4 ⟨rfl, b4⟩
          have k4 := k3.call b4
          clear b4
          go_wp2_with fail
          refine (G.out.dn2 _).mono ?_
          rintro e u5 ⟨rfl, b5⟩
          have k5 := k4.call b5
          clear b5
          go_wp2_with fail
          refine (G.out.dn3 _).mono ?_
          rintro e u6 ⟨rfl, b6⟩
          have k6 := k5.call b6
          clear b6
          go_wp2_with fail
          refine (G.out.up3 _).mono ?_
          rintro e u7 ⟨rfl, b7⟩
          have k7 := k6.call b7
          clear b7
          go_wp2
          go_ret
          exact ⟨rfl, k7.1⟩
      · have hb' : (1152921504606846976 : Int) < (A : Int) + (B : Int) := by omega
        clear hb
        by_cases hm : K + L ≤ 10000
        · go_enter Try.func6, Try.ntmps6
          go_wp2_with fail
          refine (awake_any _).mono ?_
          rintro e u1 ⟨rfl, b1⟩
          have k1 := ((Kept.refl w).alloc _).call b1
          have z := (b1.block w.heap.size (by simp)).trans (push_new w _)
          have x0 := hx0 _ z
          have x1 := hx1 _ z
          clear b1 z hx0 hx1
          go_wp2
          go_ret
          exact ⟨rfl, k1.1⟩
        · go_enter Try.func6, Try.ntmps6
          go_wp2_with fail
          refine (awake_any _).mono ?_
          rintro e u1 ⟨rfl, b1⟩
          have k1 := ((Kept.refl w).alloc _).call b1
          have z := (b1.block w.heap.size (by simp)).trans (push_new w _)
          have x0 := hx0 _ z
          have x1 := hx1 _ z
          clear b1 z hx0 hx1
          go_wp2
          go_ret
          exact ⟨rfl, k1.1⟩
    · obtain ⟨eA, eB⟩ := E2 (Int.le_of_lt ha)
      obtain ⟨eK, eL⟩ := F2 (Int.le_of_lt ht)
      clear E1 E2 F1 F2 hl
      by_cases hb : A + B ≤ 1152921504606846976
      · by_cases hm : K + L ≤ 10000
        · obtain ⟨x, y, v, z', all, none, g⟩ := grown lA hb (Nat.le_add_right K L) hm
          obtain ⟨M, hM⟩ : ∃ M, M = K + L := ⟨_, rfl⟩
          rw [← hM] at g hm
          have el : (K : Int) + (L : Int) = (M : Int) := by omega
          clear hM
          have q1 := g.ux
          have q2 := g.vz
          have q3 := g.vx
          have q4 := g.xa
          have q5 := g.al
          have q6 := g.no
          have G := Lib.hid g
          clear g
          go_enter Try.func6, Try.ntmps6
          go_wp2_with fail
          refine (awake_any _).mono ?_
          rintro e u1 ⟨rfl, b1⟩
          have k1 := ((Kept.refl w).alloc _).call b1
          have z := (b1.block w.heap.size (by simp)).trans (push_new w _)
          have x0 := hx0 _ z
          have x1 := hx1 _ z
          clear b1 z hx0 hx1
          go_wp2_with fail
          refine (G.out.up1 _).mono ?_
          rintro e u2 ⟨rfl, b2⟩
          have k2 := k1.call b2
          clear b2
          go_wp2_with fail
          refine (G.out.up2 _).mono ?_
          rintro e u3 ⟨rfl, b3⟩
          have k3 := k2.call b3
          clear b3
          go_wp2_with fail
          refine (G.out.dn1 _).mono ?_
          rintro e u4 ⟨rfl, b4⟩
          have k4 := k3.call b4
          clear b4
          go_wp2_with fail
          refine (G.out.dn2 _).mono ?_
          rintro e u5 ⟨rfl, b5⟩
          have k5 := k4.call b5
          clear b5
          go_wp2_with fail
          refine (G.out.dn3 _).mono ?_
          rintro e u6 ⟨rfl, b6⟩
          have k6 := k5.call b6
          clear b6
          go_wp2_with fail
          refine (G.out.up3 _).mono ?_
          rintro e u7 ⟨rfl, b7⟩
          have k7 := k6.call b7
          clear b7
          go_wp2
          go_ret
          exact ⟨rfl, k7.1⟩
        · obtain ⟨x, y, v, z', all, none, g⟩ := grown lA hb lK (Nat.le_refl 10000)
          have hm' : (10000 : Int) < (K : Int) + (L : Int) := by omega
          clear hm
          have q1 := g.ux
          have q2 := g.vz
          have q3 := g.vx
          have q4 := g.xa
          have q5 := g.al
          have q6 := g.no
          have G := Lib.hid g
          clear g
          go_enter Try.func6, Try.ntmps6
          go_wp2_with fail
          refine (awake_any _).mono ?_
          rintro e u1 ⟨rfl, b1⟩
          have k1 := ((Kept.refl w).alloc _).call b1
          have z := (b1.block w.heap.size (by simp)).trans (push_new w _)
          have x0 := hx0 _ z
          have x1 := hx1 _ z
          clear b1 z hx0 hx1
          go_wp2_with fail
          refine (G.out.up1 _).mono ?_
          rintro e u2 ⟨rfl, b2⟩
          have k2 := k1.call b2
          clear b2
          go_wp2_with fail
          refine (G.out.up2 _).mono ?_
          rintro e u3 ⟨rfl, b3⟩
          have k3 := k2.call b3
          clear b3
          go_wp2_with fail
          refine (G.out.dn1 _).mono ?_
          rintro e u4 ⟨rfl, b4⟩
          have k4 := k3.call b4
          clear b4
          go_wp2_with fail
          refine (G.out.dn2 _).mono ?_
          rintro e u5 ⟨rfl, b5⟩
          have k5 := k4.call b5
          clear b5
          go_wp2_with fail
          refine (G.out.dn3 _).mono ?_
          rintro e u6 ⟨rfl, b6⟩
          have k6 := k5.call b6
          clear b6
          go_wp2_with fail
          refine (G.out.up3 _).mono ?_
          rintro e u7 ⟨rfl, b7⟩
          have k7 := k6.call b7
          clear b7
          go_wp2
          go_ret
          exact ⟨rfl, k7.1⟩
      · have hb' : (1152921504606846976 : Int) < (A : Int) + (B : Int) := by omega
        clear hb
        by_cases hm : K + L ≤ 10000
        · go_enter Try.func6, Try.ntmps6
          go_wp2_with fail
          refine (awake_any _).mono ?_
          rintro e u1 ⟨rfl, b1⟩
          have k1 := ((Kept.refl w).alloc _).call b1
          have z := (b1.block w.heap.size (by simp)).trans (push_new w _)
          have x0 := hx0 _ z
          have x1 := hx1 _ z
          clear b1 z hx0 hx1
          go_wp2
          go_ret
          exact ⟨rfl, k1.1⟩
        · go_enter Try.func6, Try.ntmps6
          go_wp2_with fail
          refine (awake_any _).mono ?_
          rintro e u1 ⟨rfl, b1⟩
          have k1 := ((Kept.refl w).alloc _).call b1
          have z := (b1.block w.heap.size (by simp)).trans (push_new w _)
          have x0 := hx0 _ z
          have x1 := hx1 _ z
          clear b1 z hx0 hx1
          go_wp2
          go_ret
          exact ⟨rfl, k1.1⟩
end Go.Proofs.Ytmlpgdhdndmlaaa
