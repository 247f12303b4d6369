/- The walks of layer 1's statements: each call returns true and changes no memory that was there. -/
import Derived.Test.YthegohpkjfoaoaaCrcR
namespace Go.Proofs.Ythegohpkjfoaoaa
open Go.RowKit CrcM CrcW CrcR

set_option maxHeartbeats 1000000 in
theorem CrcSums_walk (a0 : Int) (a1 : Option Addr) (len1 cap1 : Nat) (w : World) (w0 : (Lit.int .u32 a0).wf = true) (w1 : SliceAt 1 1 (IsInt .u8) w a1 len1 cap1) :
    Calls Try.prog 3 #[.int .u32 a0, .slice a1 len1 cap1] w fun e w' => e = .returned (.bool true) ∧ Below w.heap.size w w' := by
  obtain ⟨bs, hb⟩ := bts_of w1
  obtain ⟨s, hs, rfl⟩ : ∃ s : Nat, s < 4294967296 ∧ a0 = (s : Int) := by
    have := bounds_u32 w0
    exact ⟨a0.toNat, by omega, by omega⟩
  clear w0 w1
  go_enter Try.func3, Try.ntmps3
  go_wp2_with fail
  refine (awake_any _).mono ?_
  rintro e u1 ⟨rfl, h1⟩
  have k1 := below_call ⟨Below.refl w.heap.size w, Nat.le_refl _⟩ h1
  go_wp2_with fail
  refine (CrcW.sum_any _ _ _ bs _ ((hb.below k1.1).more k1.2)).mono ?_
  rintro e u2 ⟨rfl, h2⟩
  have k2 := below_call k1 h2
  go_wp2_with fail
  refine (CrcR.sum_any _ _ _ bs _ _ (hb.below k2.1)).mono ?_
  rintro e u2' ⟨rfl, rfl⟩
  go_wp2_with fail
  refine (CrcW.more_any s hs _ _ _ bs _ ((hb.below k2.1).more k2.2)).mono ?_
  rintro e u3 ⟨rfl, h3⟩
  have k3 := below_call k2 h3
  go_wp2_with fail
  refine (CrcR.more_any s hs _ _ _ bs _ _ (hb.below k3.1)).mono ?_
  rintro e u3' ⟨rfl, rfl⟩
  go_wp2
  go_ret
  exact ⟨rfl, k3.1⟩

theorem ones1 {s o a : Nat} (hs : s < 4294967296) (ho : o < 4294967296) (ha : a < 256) : (((CrcM.more s [a] : Nat) : Int) == ((CrcM.more o [a] : Nat) : Int)) = ((s : Int) == (o : Int)) := by
  rw [Bool.eq_iff_iff, beq_iff_eq, beq_iff_eq, Int.natCast_inj, Int.natCast_inj]; exact ones_sum hs ho ha
theorem ones2 {s a b : Nat} (hs : s < 4294967296) (ha : a < 256) (hb : b < 256) : (((CrcM.more s [a] : Nat) : Int) == ((CrcM.more s [b] : Nat) : Int)) = ((a : Int) == (b : Int)) := by
  rw [Bool.eq_iff_iff, beq_iff_eq, beq_iff_eq, Int.natCast_inj, Int.natCast_inj]; exact ones_byte hs ha hb

set_option maxHeartbeats 1000000 in
theorem CrcOnes_walk (a0 : List Value) (w : World) (w0 : (fun w cs => cs.length = 4 ∧ IsStruct [(0, 1, (IsInt .u32)), (1, 1, (IsInt .u32)), (2, 1, (IsInt .u8)), (3, 1, (IsInt .u8))] w cs : World → List Value → Prop) w a0) :
    Calls Try.prog 8 #[.agg a0.toArray] w fun e w' => e = .returned (.bool true) ∧ Below w.heap.size w w' := by
  obtain ⟨hl, h0, h1, h2, h3, _⟩ := w0
  match a0, hl with
  | [c0, c1, c2, c3], _ =>
    obtain ⟨m0, e0, f0⟩ := h0
    obtain ⟨m1, e1, f1⟩ := h1
    obtain ⟨m2, e2, f2⟩ := h2
    obtain ⟨m3, e3, f3⟩ := h3
    simp at e0 e1 e2 e3
    subst e0 e1 e2 e3
    obtain ⟨a, ha, rfl⟩ := byte_of_wf f2
    obtain ⟨b, hb, rfl⟩ := byte_of_wf f3
    obtain ⟨s, hs, rfl⟩ : ∃ s : Nat, s < 4294967296 ∧ m0 = (s : Int) := by
      have := bounds_u32 f0
      exact ⟨m0.toNat, by omega, by omega⟩
    obtain ⟨o, ho, rfl⟩ : ∃ s : Nat, s < 4294967296 ∧ m1 = (s : Int) := by
      have := bounds_u32 f1
      exact ⟨m1.toNat, by omega, by omega⟩
    clear f0 f1 f2 f3
    go_enter Try.func8, Try.ntmps8
    go_wp2_with fail
    refine (awake_any _).mono ?_
    rintro e u1 ⟨rfl, h1⟩
    have hc : ∀ i v, (#[Value.int .u32 (s : Int), .int .u32 (o : Int), .int .u8 (a : Int), .int .u8 (b : Int)] : Array Value)[i]? = some v → u1.cell? ⟨w.heap.size, i, none⟩ = some v := by
      intro i v hv
      rw [h1.cell (p := ⟨w.heap.size, i, none⟩) (by simp), World.cell?_alloc_mark, hv]
    have z0 := hc 0 _ rfl
    have z1 := hc 1 _ rfl
    have z2 := hc 2 _ rfl
    have z3 := hc 3 _ rfl
    clear hc
    have k1 : Below w.heap.size w u1 ∧ w.heap.size ≤ u1.heap.size := below_step ⟨Below.refl _ _, Nat.le_refl _⟩ h1
    have ba : ∀ W : World, Bts (W.alloc (.cells #[.int .u8 (a : Int)] 5)) (W.alloc (.cells #[.int .u8 (a : Int)] 5)).heap.size (some ⟨W.heap.size, 0, none⟩) 1 [a] := fun W => bts_new W _ _ [a] (by simp) (by simpa using ha)
    have bb : ∀ W : World, Bts (W.alloc (.cells #[.int .u8 (b : Int)] 5)) (W.alloc (.cells #[.int .u8 (b : Int)] 5)).heap.size (some ⟨W.heap.size, 0, none⟩) 1 [b] := fun W => bts_new W _ _ [b] (by simp) (by simpa using hb)
    have HA := Lib.hid ba
    have HB := Lib.hid bb
    clear ba bb
    go_wp2_with fail
    refine (CrcW.more_any s hs _ _ _ [a] _ (HA.out _)).mono ?_
    rintro e u2 ⟨rfl, h2⟩
    go_wp2_with fail
    refine (CrcW.more_any o ho _ _ _ [a] _ (HA.out _)).mono ?_
    rintro e u3 ⟨rfl, h3⟩
    have hq : ((((CrcM.more s [a] : Nat) : Int) == ((CrcM.more o [a] : Nat) : Int)) == ((s : Int) == (o : Int))) = true := by rw [ones1 hs ho ha]; simp
    generalize CrcM.more s [a] = x1 at *
    generalize CrcM.more o [a] = x2 at *
    go_wp2_with fail
    refine (CrcW.more_any s hs _ _ _ [a] _ (HA.out _)).mono ?_
    rintro e u4 ⟨rfl, h4⟩
    go_wp2_with fail
    refine (CrcW.more_any s hs _ _ _ [b] _ (HB.out _)).mono ?_
    rintro e u5 ⟨rfl, h5⟩
    have hq2 : ((((CrcM.more s [a] : Nat) : Int) == ((CrcM.more s [b] : Nat) : Int)) == ((a : Int) == (b : Int))) = true := by rw [ones2 hs ha hb]; simp
    generalize CrcM.more s [a] = x3 at *
    generalize CrcM.more s [b] = x4 at *
    go_wp2
    go_ret
    exact ⟨rfl, (below_step (below_step (below_step (below_step k1 h2) h3) h4) h5).1⟩
end Go.Proofs.Ythegohpkjfoaoaa
