/- The Reader's last calls, a Reader that is nil, Code and At of the program's own errors; awake. -/
import Derived.Test.YtnadfkcicppehaaWireS

import Derived.Test.YtnadfkcicppehaaTell
namespace Go.Proofs.Ytnadfkcicppehaa
open Go.RowKit

set_option maxRecDepth 100000 in
theorem left_any (g : Nat) (bs : List Nat) (p : Nat) (w : World) (hr : Rd w g bs p) :
    Calls Try.prog 76 #[.pointer (some ⟨g, 0, none⟩)] w fun e w' => e = .returned (.int .i64 ((bs.length - p : Nat) : Int)) ∧ Below w.heap.size w w' := by
  go_enter Try.func76, Try.ntmps76
  go_wp2_with fail
  refine (rest_any g bs p w hr).mono ?_
  rintro e w1 ⟨A, n, c, rfl, hL, hb⟩
  have hn : (n : Int) = ((bs.length - p : Nat) : Int) := by have := hL.1.1; simp only [List.length_drop] at this; omega
  have HN := Lib.hid hn
  clear hn hL hr
  go_wp2
  go_ret
  exact ⟨by rw [← HN.out]; rfl, hb⟩
set_option maxRecDepth 100000 in
theorem left_nil (w : World) :
    Calls Try.prog 76 #[.pointer none] w fun e w' => e = .returned (.int .i64 0) ∧ w' = w := by
  go_enter Try.func76, Try.ntmps76
  go_wp2_with fail
  refine (rest_nil w).mono ?_
  rintro e w1 ⟨rfl, rfl⟩
  go_wp2
  go_ret
  exact ⟨rfl, rfl⟩
set_option maxRecDepth 100000 in
theorem end_any (g : Nat) (bs : List Nat) (p : Nat) (w : World) (hr : Rd w g bs p) :
    Calls Try.prog 60 #[.pointer (some ⟨g, 0, none⟩)] w fun e w' => e = .returned (if p < bs.length then fault 2 (p : Int) else .nilIface) ∧ Rd w' g bs p ∧ Off g w w' := by
  have hle := hr.le
  by_cases hp : p < bs.length
  · rw [if_pos hp]
    go_enter Try.func60, Try.ntmps60
    go_wp2_with fail
    refine (left_any g bs p w hr).mono ?_
    rintro e w1 ⟨rfl, hb⟩
    have hr1 := hr.below hb
    have hpos : 0 < ((bs.length - p : Nat) : Int) := by omega
    generalize ((bs.length - p : Nat) : Int) = L at *
    go_wp2_with fail
    refine (pass_any g bs p 0 2 w1 hr1 (by omega) (fun _ => rfl)).mono ?_
    rintro e w2 ⟨rfl, h3, h4⟩
    go_wp2
    go_ret
    exact ⟨rfl, h3, (Off.of_below hb).trans h4⟩
  · rw [if_neg hp]
    go_enter Try.func60, Try.ntmps60
    go_wp2_with fail
    refine (left_any g bs p w hr).mono ?_
    rintro e w1 ⟨rfl, hb⟩
    have hr1 := hr.below hb
    have hz : ((bs.length - p : Nat) : Int) = 0 := by omega
    rw [hz]
    go_wp2
    go_ret
    exact ⟨rfl, hr1, Off.of_below hb⟩
set_option maxRecDepth 100000 in
theorem end_nil (w : World) :
    Calls Try.prog 60 #[.pointer none] w fun e w' => e = .returned .nilIface ∧ w' = w := by
  go_enter Try.func60, Try.ntmps60
  go_wp2_with fail
  refine (left_nil w).mono ?_
  rintro e w1 ⟨rfl, rfl⟩
  go_wp2
  go_ret
  exact ⟨rfl, rfl⟩
set_option maxRecDepth 100000 in
/-- From: a Reader in new memory, at the beginning of the bytes -/
theorem from_any (A : Option Addr) (n cap : Nat) (bs : List Nat) (w : World) (hr : Row w A n cap bs) :
    Calls Try.prog 40 #[.slice A n cap] w fun e w' => ∃ g, e = .returned (.pointer (some ⟨g, 0, none⟩)) ∧ Rd w' g bs 0 ∧ w.heap.size ≤ g ∧ Below w.heap.size w w' := by
  have hl := hr.len
  have hmax := hr.bts.2.1
  have hby := hr.bts.2.2.1
  go_enter Try.func40, Try.ntmps40
  go_wp2_with fail
  refine (clone_any hr).mono ?_
  rintro e w1 ⟨v, rfl, own, hb⟩
  obtain ⟨A1, c1, rfl, hr1⟩ := own.row (by omega) hby
  clear own hr
  go_wp2
  go_ret
  refine ⟨w1.heap.size, rfl, ⟨A1, bs.length, c1, ?_, ?_, hr1.nil, hr1.room, hr1.most, Nat.zero_le _⟩, hb.size, hb.alloc hb.size _⟩
  · show (w1.heap.push _)[w1.heap.size]? = _
    simp [hl]
  · exact hr1.bts.below ((Below.refl _ _).alloc (Nat.le_refl _) _)

/-! ### a Reader that is nil -/
theorem get_nil : get [] = (0, 0, 3) := rfl




theorem sml_nil (most : Int) : sml [] most = (0, 0, 3) := by unfold sml; rw [get_nil]; rfl
theorem tak_nil (most : Int) : tak [] most = ([], 0, 3) := by unfold tak; rw [sml_nil]; rfl
set_option maxRecDepth 100000 in
theorem rsmall_nil (most : Int) (hm : (Lit.int .i64 most).wf = true) (w : World) : Calls Try.prog 58 #[.pointer none, .int .i64 most] w fun e w' => e = .returned (.tuple #[.int .i64 0, fault 3 0]) ∧ w' = w := by
  have hs := fun w => small_any 0 none 0 0 [] most hm w Bts.nil
  rw [sml_nil] at hs
  clear hm
  go_enter Try.func58, Try.ntmps58
  go_wp2_with fail
  refine (rest_nil w).mono ?_
  rintro e w1 ⟨rfl, rfl⟩
  go_wp2_with fail
  refine (hs w1).mono ?_
  rintro e w2 ⟨rfl, rfl⟩
  go_wp2_with fail
  refine (pass_nil 0 3 w2).mono ?_
  rintro e w3 ⟨rfl, rfl⟩
  go_wp2
  go_ret2
  exact ⟨rfl, rfl⟩


end Go.Proofs.Ytnadfkcicppehaa
