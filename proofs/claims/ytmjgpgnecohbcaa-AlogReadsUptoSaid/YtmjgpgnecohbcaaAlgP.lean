/- The program's records: whether one may be. -/
import Derived.Test.YtmjgpgnecohbcaaAlgM
import Derived.Test.YtmjgpgnecohbcaaMgA
import Derived.WalkKit
import Derived.Below
import Derived.BigQuiet
import Derived.Deep.QuietTactic
namespace Go.Proofs.Ytmjgpgnecohbcaa
open Go.RowKit

/-- a record as a value -/
def rcv (r : Rc) (A : Option Addr) (n c : Nat) : Value := .agg #[.int .i64 r.kind, .int .i64 r.slot, .int .i64 r.round, .int .i64 r.site, .slice A n c]
/-- its numbers are ints -/
def Rc.wf (r : Rc) : Prop := (-9223372036854775808 ≤ r.kind ∧ r.kind < 9223372036854775808) ∧ (-9223372036854775808 ≤ r.slot ∧ r.slot < 9223372036854775808) ∧ (-9223372036854775808 ≤ r.round ∧ r.round < 9223372036854775808) ∧ (-9223372036854775808 ≤ r.site ∧ r.site < 9223372036854775808)
theorem Rc.wf_may {r : Rc} (h : r.may) : r.wf := by
  obtain ⟨h1, h2, h3, h4, h5, h6, h7, _⟩ := h
  exact ⟨⟨by omega, by omega⟩, ⟨by omega, by omega⟩, ⟨by omega, by omega⟩, by omega, by omega⟩

theorem within_yes (n m : Int) (w : World) (h0 : 0 ≤ n) (h1 : n ≤ m) : Calls Try.prog 85 #[.int .i64 n, .int .i64 m] w fun e w' => e = .returned (.bool true) ∧ w' = w := by
  go_enter Try.func85, Try.ntmps85
  go_wp2
  go_ret
  exact ⟨rfl, rfl⟩
theorem within_no (n m : Int) (w : World) (h : n < 0 ∨ m < n) : Calls Try.prog 85 #[.int .i64 n, .int .i64 m] w fun e w' => e = .returned (.bool false) ∧ w' = w := by
  by_cases h0 : n < 0
  · go_enter Try.func85, Try.ntmps85
    go_wp2
    go_ret
    exact ⟨rfl, rfl⟩
  · have h1 : 0 ≤ n := by omega
    have h2 : decide (n ≤ m) = false := by simp; omega
    clear h h0
    go_enter Try.func85, Try.ntmps85
    go_wp2
    go_ret
    exact ⟨rfl, rfl⟩
/-- its slot and ballot are such as may be -/
def Rc.placed (r : Rc) : Prop := (0 ≤ r.slot ∧ r.slot ≤ 4095) ∧ (0 ≤ r.round ∧ r.round ≤ 1099511627776) ∧ (0 ≤ r.site ∧ r.site ≤ 6)
set_option maxRecDepth 100000 in
theorem placed_yes (r : Rc) (A : Option Addr) (n c : Nat) (w : World) (h : r.placed) : Calls Try.prog 71 #[rcv r A n c] w fun e w' => e = .returned (.bool true) ∧ Below w.heap.size w w' := by
  obtain ⟨⟨h1, h2⟩, ⟨h3, h4⟩, h5, h6⟩ := h
  unfold rcv
  have c1 := fun w => within_yes r.slot 4095 w h1 h2
  have c2 := fun w => within_yes r.round 1099511627776 w h3 h4
  have c3 := fun w => within_yes r.site 6 w h5 h6
  clear h1 h2 h3 h4 h5 h6
  go_enter Try.func71, Try.ntmps71
  go_wp2_with fail
  refine (c1 _).mono ?_
  rintro e w' ⟨rfl, rfl⟩
  go_wp2_with fail
  refine (c2 _).mono ?_
  rintro e w' ⟨rfl, rfl⟩
  go_wp2_with fail
  refine (c3 _).mono ?_
  rintro e w' ⟨rfl, rfl⟩
  go_wp2
  go_ret
  exact ⟨rfl, (Below.refl _ _).alloc (Nat.le_refl _) _⟩
set_option maxRecDepth 100000 in
theorem placed_no (r : Rc) (A : Option Addr) (n c : Nat) (w : World) (h : ¬ r.placed) : Calls Try.prog 71 #[rcv r A n c] w fun e w' => e = .returned (.bool false) ∧ Below w.heap.size w w' := by
  unfold rcv
  by_cases h1 : 0 ≤ r.slot ∧ r.slot ≤ 4095
  · have c1 := fun w => within_yes r.slot 4095 w h1.1 h1.2
    by_cases h2 : 0 ≤ r.round ∧ r.round ≤ 1099511627776
    · have c2 := fun w => within_yes r.round 1099511627776 w h2.1 h2.2
      have c3 := fun w => within_no r.site 6 w (by
        by_cases h3 : 0 ≤ r.site ∧ r.site ≤ 6
        · exact absurd ⟨h1, h2, h3⟩ h
        · omega)
      clear h h1 h2
      go_enter Try.func71, Try.ntmps71
      go_wp2_with fail
      refine (c1 _).mono ?_
      rintro e w' ⟨rfl, rfl⟩
      go_wp2_with fail
      refine (c2 _).mono ?_
      rintro e w' ⟨rfl, rfl⟩
      go_wp2_with fail
      refine (c3 _).mono ?_
      rintro e w' ⟨rfl, rfl⟩
      go_wp2
      go_ret
      exact ⟨rfl, (Below.refl _ _).alloc (Nat.le_refl _) _⟩
    · have c2 := fun w => within_no r.round 1099511627776 w (by omega)
      clear h h1 h2
      go_enter Try.func71, Try.ntmps71
      go_wp2_with fail
      refine (c1 _).mono ?_
      rintro e w' ⟨rfl, rfl⟩
      go_wp2_with fail
      refine (c2 _).mono ?_
      rintro e w' ⟨rfl, rfl⟩
      go_wp2
      go_ret
      exact ⟨rfl, (Below.refl _ _).alloc (Nat.le_refl _) _⟩
  · have c1 := fun w => within_no r.slot 4095 w (by omega)
    clear h h1
    go_enter Try.func71, Try.ntmps71
    go_wp2_with fail
    refine (c1 _).mono ?_
    rintro e w' ⟨rfl, rfl⟩
    go_wp2
    go_ret
    exact ⟨rfl, (Below.refl _ _).alloc (Nat.le_refl _) _⟩
/-- whether it may be, as a Bool -/
def Rc.mayB (r : Rc) : Bool := decide r.may
theorem Rc.mayB_yes {r : Rc} (h : r.may) : r.mayB = true := decide_eq_true h
theorem Rc.mayB_no {r : Rc} (h : ¬ r.may) : r.mayB = false := decide_eq_false h
set_option maxRecDepth 100000 in
theorem amay_any (r : Rc) (A : Option Addr) (n c : Nat) (hn : r.val.length = n) (w : World) : Calls Try.prog 50 #[rcv r A n c] w fun e w' => e = .returned (.bool r.mayB) ∧ Below w.heap.size w w' := by
  obtain ⟨kind, slot, round, site, val⟩ := r
  have HY := Lib.hid fun (h : (Rc.mk kind slot round site val).placed) w => placed_yes ⟨kind, slot, round, site, val⟩ A n c w h
  have HN := Lib.hid fun (h : ¬ (Rc.mk kind slot round site val).placed) w => placed_no ⟨kind, slot, round, site, val⟩ A n c w h
  simp only at hn
  by_cases k1 : kind = 1
  · subst k1
    by_cases hp : (Rc.mk 1 slot round site val).placed
    · have c1 := HY.out hp
      clear HY HN
      obtain ⟨B, hB⟩ : ∃ B, B = (Rc.mk 1 slot round site val).mayB := ⟨_, rfl⟩
      have hd : ((n : Int) == 0) = B := by
        rw [hB]
        by_cases h0 : n = 0
        · rw [Rc.mayB_yes (by obtain ⟨a1, a2, a3⟩ := hp; exact ⟨.inl rfl, a1.1, a1.2, a2.1, a2.2, a3.1, a3.2, by simp only; omega, .inr (by simp only; omega)⟩)]
          subst h0; rfl
        · rw [Rc.mayB_no (fun h => by obtain ⟨_, _, _, _, _, _, _, _, h⟩ := h; simp only at h; omega)]
          simp; omega
      rw [← hB]
      clear hB hp
      simp only [rcv] at *
      go_enter Try.func50, Try.ntmps50
      go_wp2_with fail
      refine (c1 _).mono ?_
      rintro e w' ⟨rfl, h1⟩
      have c3 := h1.cell (p := ⟨w.heap.size, 4, none⟩) (by simp)
      simp at c3
      go_wp2
      go_ret
      exact ⟨by go_simp, ((Below.refl _ _).alloc (Nat.le_refl _) _).trans (h1.mono (by simp))⟩
    · have c1 := HN.out hp
      have hB : (Rc.mk 1 slot round site val).mayB = false := Rc.mayB_no (fun h => hp ⟨⟨h.2.1, h.2.2.1⟩, ⟨h.2.2.2.1, h.2.2.2.2.1⟩, h.2.2.2.2.2.1, h.2.2.2.2.2.2.1⟩)
      rw [hB]
      clear HY HN hB hp
      simp only [rcv] at *
      go_enter Try.func50, Try.ntmps50
      go_wp2_with fail
      refine (c1 _).mono ?_
      rintro e w' ⟨rfl, h1⟩
      go_wp2
      go_ret
      exact ⟨rfl, ((Below.refl _ _).alloc (Nat.le_refl _) _).trans (h1.mono (by simp))⟩
  · by_cases k2 : kind = 2
    · subst k2
      clear k1
      by_cases hp : (Rc.mk 2 slot round site val).placed
      · have c1 := HY.out hp
        clear HY HN
        obtain ⟨B, hB⟩ : ∃ B, B = (Rc.mk 2 slot round site val).mayB := ⟨_, rfl⟩
        have hd : decide ((n : Int) ≤ 2048) = B := by
          rw [hB]
          by_cases h0 : n ≤ 2048
          · rw [Rc.mayB_yes (by obtain ⟨a1, a2, a3⟩ := hp; exact ⟨.inr rfl, a1.1, a1.2, a2.1, a2.2, a3.1, a3.2, by simp only; omega, .inl rfl⟩)]
            simp; omega
          · rw [Rc.mayB_no (fun h => by obtain ⟨_, _, _, _, _, _, _, h, _⟩ := h; simp only at h; omega)]
            simp; omega
        rw [← hB]
        clear hB hp
        simp only [rcv] at *
        go_enter Try.func50, Try.ntmps50
        go_wp2_with fail
        refine (c1 _).mono ?_
        rintro e w' ⟨rfl, h1⟩
        have c3 := h1.cell (p := ⟨w.heap.size, 4, none⟩) (by simp)
        simp at c3
        go_wp2
        go_ret
        exact ⟨by go_simp, ((Below.refl _ _).alloc (Nat.le_refl _) _).trans (h1.mono (by simp))⟩
      · have c1 := HN.out hp
        have hB : (Rc.mk 2 slot round site val).mayB = false := Rc.mayB_no (fun h => hp ⟨⟨h.2.1, h.2.2.1⟩, ⟨h.2.2.2.1, h.2.2.2.2.1⟩, h.2.2.2.2.2.1, h.2.2.2.2.2.2.1⟩)
        rw [hB]
        clear HY HN hB hp
        simp only [rcv] at *
        go_enter Try.func50, Try.ntmps50
        go_wp2_with fail
        refine (c1 _).mono ?_
        rintro e w' ⟨rfl, h1⟩
        go_wp2
        go_ret
        exact ⟨rfl, ((Below.refl _ _).alloc (Nat.le_refl _) _).trans (h1.mono (by simp))⟩
    · have hk1 : (kind == 1) = false := by simpa using k1
      have hk2 : (kind == 2) = false := by simpa using k2
      have hB : (Rc.mk kind slot round site val).mayB = false := Rc.mayB_no (fun h => by obtain ⟨h, _⟩ := h; simp only at h; omega)
      rw [hB]
      clear HY HN hB
      simp only [rcv] at *
      go_enter Try.func50, Try.ntmps50
      go_wp2
      go_ret
      exact ⟨rfl, (Below.refl _ _).alloc (Nat.le_refl _) _⟩
end Go.Proofs.Ytmjgpgnecohbcaa
