/- The walk of SlotsOwn. -/
import Derived.Test.YtfobhofghjpjeaaSltT
import Derived.Test.YtfobhofghjpjeaaIn64
import Derived.Test.YtfobhofghjpjeaaTypedS
namespace Go.Proofs.Ytfobhofghjpjeaa
open Go.RowKit

theorem four_of {w : World} {cs : List Value} (h : cs.length = 4 ∧ IsStruct [(0, 1, (IsInt .i64)), (1, 1, (IsInt .i64)), (2, 1, (IsInt .i64)), (3, 1, (IsInt .i64))] w cs) : ∃ s lo hi n : Int, cs = [.int .i64 s, .int .i64 lo, .int .i64 hi, .int .i64 n] ∧ (-9223372036854775808 ≤ lo ∧ lo ≤ 9223372036854775807) ∧ (-9223372036854775808 ≤ hi ∧ hi ≤ 9223372036854775807) := by
  obtain ⟨hl, h0, h1, h2, h3, -⟩ := h
  match cs, hl with
  | [v0, v1, v2, v3], _ =>
    obtain ⟨n0, e0, f0⟩ := h0
    obtain ⟨n1, e1, f1⟩ := h1
    obtain ⟨n2, e2, f2⟩ := h2
    obtain ⟨n3, e3, f3⟩ := h3
    simp only [List.drop_zero, List.take_succ_cons, List.take_zero, List.drop_succ_cons, List.cons.injEq, and_true] at e0 e1 e2 e3
    subst e0 e1 e2 e3
    exact ⟨n0, n1, n2, n3, rfl, in64 f1, in64 f2⟩
/-- the four numbers in a block of their own -/
def Fr (W : World) (p : Nat) (s lo hi n : Int) : Prop := W.heap[p]? = some (.cells #[.int .i64 s, .int .i64 lo, .int .i64 hi, .int .i64 n] 23 (0, 0))
theorem Fr.kept {W W' : World} {p : Nat} {s lo hi n : Int} (h : Fr W p s lo hi n) (k : Kept W W') : Fr W' p s lo hi n := (k.1.block p (heap_lt h)).trans h
theorem Fr.cells {W : World} {p : Nat} {s lo hi n : Int} (h : Fr W p s lo hi n) : W.cell? ⟨p, 0, none⟩ = some (.int .i64 s) ∧ W.cell? ⟨p, 1, none⟩ = some (.int .i64 lo) ∧ W.cell? ⟨p, 2, none⟩ = some (.int .i64 hi) ∧ W.cell? ⟨p, 3, none⟩ = some (.int .i64 n) :=
  ⟨cell_of_heap h 0, cell_of_heap h 1, cell_of_heap h 2, cell_of_heap h 3⟩
/-- a slice that reads as these numbers -/
def ZT (m : Nat) (L : List Int) : Value → World → Prop := fun v w => ∃ A c, v = .slice A m c ∧ Zs w A m L
theorem ZT.mono (m : Nat) (L : List Int) : (Slot.has (ZT m L)).Mono := fun _ _ _ k ⟨A, c, e, z⟩ => ⟨A, c, e, z.kept k⟩
theorem OwnZ.zt {w : World} {base : Nat} {v : Value} {L : List Int} (h : OwnZ w base v L) : ZT L.length L v w := by
  obtain ⟨A, c, rfl, -⟩ := h.slice
  exact ⟨A, c, rfl, h.zs⟩

set_option maxRecDepth 100000 in
set_option maxHeartbeats 4000000 in
theorem SlotsOwn_walk (a0 : List Value) (w : World) (w0 : (fun w cs => cs.length = 4 ∧ IsStruct [(0, 1, (IsInt .i64)), (1, 1, (IsInt .i64)), (2, 1, (IsInt .i64)), (3, 1, (IsInt .i64))] w cs : World → List Value → Prop) w a0) :
    Calls Try.prog 3 #[.agg a0.toArray] w fun e w' => e = .returned (.bool true) ∧ Below w.heap.size w w' := by
  obtain ⟨s, lo, hi, n, rfl, -, -⟩ := four_of w0
  clear w0
  have h1 := Lib.hid (owner_any lo n)
  have h2 := Lib.hid (refowner_any lo n)
  have h3 := Lib.hid (next_any s lo n)
  have h4 := Lib.hid (refnext_any s lo n)
  have h5 := Lib.hid (own_any s lo hi n)
  have h6 := Lib.hid (refown_any s lo hi n)
  have h7 := Lib.hid (count_any s lo hi n)
  have hll := ownL_len s lo hi n
  generalize ownerI lo n = o at *
  generalize nextI s lo n = x at *
  generalize ownL s lo hi n = L at *
  obtain ⟨m, hm⟩ : ∃ m, L.length = m := ⟨_, rfl⟩
  have HM := Lib.hid hm
  rw [hm] at h7 hll
  clear hm
  go_enter Try.func3, Try.ntmps3
  go_wp2_with fail
  refine (awake_any _).mono ?_
  rintro e u1 ⟨rfl, b1⟩
  have k1 := (Kept.refl _).call b1
  have P1 : Hid (Fr u1 w.heap.size s lo hi n) := Lib.hid (Fr.kept (push_new w _) k1)
  have K1 := Lib.hid (((Kept.refl w).alloc _).call b1)
  obtain ⟨c0, c1, c2, c3⟩ := P1.out.cells
  clear b1 k1
  go_wp2_with fail
  refine (h6.out _).mono ?_
  rintro e u2 ⟨v, rfl, own, b2⟩
  have k2 := (Kept.refl _).call b2
  have P2 := Lib.hid (P1.out.kept k2)
  have K2 := Lib.hid (K1.out.call b2)
  obtain ⟨A, c, rfl, -⟩ := own.slice
  have Z2 := Lib.hid own.zs
  rw [HM.out] at Z2
  rw [HM.out]
  have T1 : Hid (∀ W, Kept u2.drew W → W.cell? ⟨w.heap.size, 0, none⟩ = some (.int .i64 s) ∧ W.cell? ⟨w.heap.size, 1, none⟩ = some (.int .i64 lo) ∧ W.cell? ⟨w.heap.size, 2, none⟩ = some (.int .i64 hi) ∧ W.cell? ⟨w.heap.size, 3, none⟩ = some (.int .i64 n)) :=
    Lib.hid (fun W k => (P2.out.kept ((Kept.refl u2).drew.trans k)).cells)
  have T2 : Hid (∀ W, Kept u2.drew W → Zs W A m L) := Lib.hid (fun W k => Z2.out.kept ((Kept.refl u2).drew.trans k))
  clear b2 k2 own c0 c1 c2 c3
  go_wp2_with fail
  refine wp_region_typed (N := 59) (fl := []) (by kernel_rfl) (by kernel_rfl) ?_
  simp only [List.take_succ_cons, List.take_zero, List.drop_succ_cons, List.drop_zero, List.map_cons, List.map_nil, zipF]
  repeat (first
    | (refine wpT_skip rfl ?_; dsimp only [putS, List.set_cons_succ, List.set_cons_zero])
    | (refine wpT_slot (S := .is _) _ (.inl rfl) rfl (Slot.mono_is _) rfl ?_; dsimp only [putS, List.set_cons_succ, List.set_cons_zero])
    | (refine wpT_slot (S := .is _) _ (.inr rfl) rfl (Slot.mono_is _) rfl ?_; dsimp only [putS, List.set_cons_succ, List.set_cons_zero])
    | (refine wpT_exact1 rfl rfl rfl ?_; apply Exists.intro; refine ⟨fun ρ w hk ⟨c1, c2, c3⟩ h1 => ?_, ?_⟩; (· obtain ⟨t1, t2, t3, t4⟩ := T1.out w hk; go_simp; exact rfl); dsimp only [putS, List.set_cons_succ, List.set_cons_zero])
    | (refine wpT_exact2 rfl rfl rfl rfl ?_; apply Exists.intro; refine ⟨fun ρ w hk ⟨c1, c2, c3⟩ h1 h2 => ?_, ?_⟩; (· obtain ⟨t1, t2, t3, t4⟩ := T1.out w hk; go_simp; exact rfl); dsimp only [putS, List.set_cons_succ, List.set_cons_zero])
    | (refine wpT_exact3 rfl rfl rfl rfl rfl ?_; apply Exists.intro; refine ⟨fun ρ w hk ⟨c1, c2, c3⟩ h1 h2 h3 => ?_, ?_⟩; (· obtain ⟨t1, t2, t3, t4⟩ := T1.out w hk; go_simp; exact rfl); dsimp only [putS, List.set_cons_succ, List.set_cons_zero])
    | (refine wpT_exact4 rfl rfl rfl rfl rfl rfl ?_; apply Exists.intro; refine ⟨fun ρ w hk ⟨c1, c2, c3⟩ h1 h2 h3 h4 => ?_, ?_⟩; (· obtain ⟨t1, t2, t3, t4⟩ := T1.out w hk; go_simp; exact rfl); dsimp only [putS, List.set_cons_succ, List.set_cons_zero])
    | (refine wpT_exact0 rfl ?_; apply Exists.intro; refine ⟨fun ρ w hk ⟨c1, c2, c3⟩ => ?_, ?_⟩; (· obtain ⟨t1, t2, t3, t4⟩ := T1.out w hk; go_simp; exact rfl); dsimp only [putS, List.set_cons_succ, List.set_cons_zero])
    | (refine wpT_is (.int .i64 o) rfl (fun ρ w hk ⟨c1, c2, c3⟩ ⟨h11, h12, _⟩ => ?_) ?_
       · have e1 : ρ (.tmp 18) = _ := h11
         have e2 : ρ (.tmp 20) = _ := h12
         refine upT_call 11 _ (by go_simp) ((h1.out w).mono ?_)
         rintro e u ⟨rfl, rfl⟩
         exact ⟨_, rfl, Kept.refl _, rfl⟩
       dsimp only [putS, List.set_cons_succ, List.set_cons_zero])
    | (refine wpT_is (.int .i64 o) rfl (fun ρ w hk ⟨c1, c2, c3⟩ ⟨h11, h12, _⟩ => ?_) ?_
       · have e1 : ρ (.tmp 23) = _ := h11
         have e2 : ρ (.tmp 25) = _ := h12
         refine upT_call 12 _ (by go_simp) ((h2.out w).mono ?_)
         rintro e u ⟨rfl, rfl⟩
         exact ⟨_, rfl, Kept.refl _, rfl⟩
       dsimp only [putS, List.set_cons_succ, List.set_cons_zero])
    | (refine wpT_is (.int .i64 x) rfl (fun ρ w hk ⟨c1, c2, c3⟩ ⟨h11, h12, h13, _⟩ => ?_) ?_
       · have e1 : ρ (.tmp 31) = _ := h11
         have e2 : ρ (.tmp 33) = _ := h12
         have e3 : ρ (.tmp 35) = _ := h13
         refine upT_call 13 _ (by go_simp) ((h3.out w).mono ?_)
         rintro e u ⟨rfl, hb⟩
         exact ⟨_, rfl, (Kept.refl _).call hb, rfl⟩
       dsimp only [putS, List.set_cons_succ, List.set_cons_zero])
    | (refine wpT_is (.int .i64 x) rfl (fun ρ w hk ⟨c1, c2, c3⟩ ⟨h11, h12, h13, _⟩ => ?_) ?_
       · have e1 : ρ (.tmp 38) = _ := h11
         have e2 : ρ (.tmp 40) = _ := h12
         have e3 : ρ (.tmp 42) = _ := h13
         refine upT_call 14 _ (by go_simp) ((h4.out w).mono ?_)
         rintro e u ⟨rfl, hb⟩
         exact ⟨_, rfl, (Kept.refl _).call hb, rfl⟩
       dsimp only [putS, List.set_cons_succ, List.set_cons_zero])
    | (refine wpT_has (ZT.mono m L) rfl (fun ρ w hk ⟨c1, c2, c3⟩ ⟨h11, h12, h13, h14, _⟩ => ?_) ?_
       · have e1 : ρ (.tmp 48) = _ := h11
         have e2 : ρ (.tmp 50) = _ := h12
         have e3 : ρ (.tmp 52) = _ := h13
         have e4 : ρ (.tmp 54) = _ := h14
         refine upT_call 16 _ (by go_simp) ((h5.out w).mono ?_)
         rintro e u ⟨y, rfl, own, hb⟩
         have hz := own.zt
         rw [HM.out] at hz
         exact ⟨_, rfl, (Kept.refl _).call hb, hz⟩
       dsimp only [putS, List.set_cons_succ, List.set_cons_zero])
    | (refine wpT_is (.bool true) rfl (fun ρ w hk ⟨c1, c2, c3⟩ ⟨h11, h12, _⟩ => ?_) ?_
       · obtain ⟨A', c', e1, hz⟩ : ∃ A' c', ρ (.tmp 55) = .slice A' m c' ∧ Zs w A' m L := h11
         have e2 : ρ (.tmp 56) = _ := h12
         refine upT_call 15 _ (by go_simp) ((same_true (ca := c') (cb := c) hz (T2.out w hk) (by omega)).mono ?_)
         rintro e u ⟨rfl, hb⟩
         exact ⟨_, rfl, (Kept.refl _).call hb, rfl⟩
       dsimp only [putS, List.set_cons_succ, List.set_cons_zero])
    | (refine wpT_is (.int .i64 (m : Nat)) rfl (fun ρ w hk ⟨c1, c2, c3⟩ ⟨h11, h12, h13, h14, _⟩ => ?_) ?_
       · have e1 : ρ (.tmp 61) = _ := h11
         have e2 : ρ (.tmp 63) = _ := h12
         have e3 : ρ (.tmp 65) = _ := h13
         have e4 : ρ (.tmp 67) = _ := h14
         refine upT_call 17 _ (by go_simp) ((h7.out w).mono ?_)
         rintro e u ⟨rfl, hb⟩
         exact ⟨_, rfl, (Kept.refl _).call hb, rfl⟩
       dsimp only [putS, List.set_cons_succ, List.set_cons_zero])
    | fail)
  refine wpT_nil ?_
  intro wz kz
  simp only [Fits]
  intro y _
  refine wpList_end ?_
  go_wp2
  go_ret
  exact ⟨by go_simp, (K2.out.trans ((Kept.refl u2).drew.trans kz)).1⟩
end Go.Proofs.Ytfobhofghjpjeaa
