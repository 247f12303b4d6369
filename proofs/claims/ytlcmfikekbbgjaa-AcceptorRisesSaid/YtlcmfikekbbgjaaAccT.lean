/- One acceptor of a slot: Same and May, of the program and of the document; the document's Prepare and Accept. -/
import Derived.Test.YtlcmfikekbbgjaaAccP
import Derived.Test.YtlcmfikekbbgjaaRes
import Derived.Test.YtlcmfikekbbgjaaStr
namespace Go.Proofs.Ytlcmfikekbbgjaa
open Go.RowKit

set_option maxRecDepth 100000 in
theorem equal_any {w : World} {A B : Option Addr} {n m c d : Nat} {cs bs : List Nat} (ha : Row w A n c cs) (hb : Row w B m d bs) : Calls Try.prog 26 #[.slice A n c, .slice B m d] w fun e w' => e = .returned (.bool (decide (cs = bs))) ∧ w' = w := by
  have h1 := ha.str
  have h2 := hb.str
  have h3 := eq_txt ha.bts.2.2.1 hb.bts.2.2.1
  clear ha hb
  rw [← h3]
  clear h3
  generalize txt cs = x at *
  generalize txt bs = y at *
  go_enter Try.func26, Try.ntmps26
  go_wp2
  go_ret
  exact ⟨rfl, rfl⟩

set_option maxRecDepth 100000 in
set_option maxHeartbeats 1000000 in
theorem acsame_any {w : World} {x y : Ac} {A B : Option Addr} {c d : Nat} (ha : Row w A x.val.length c x.val) (hb : Row w B y.val.length d y.val) :
    Calls Try.prog 16 #[acv x A x.val.length c, acv y B y.val.length d] w fun e w' => e = .returned (.bool (sameA x y)) ∧ Kept w w' := by
  have k0 : ∀ o p, Kept w ((w.alloc o).alloc p) := fun o p => ((Kept.refl w).alloc _).alloc _
  have HE : Hid (∀ o p, Calls Try.prog 26 #[.slice A x.val.length c, .slice B y.val.length d] ((w.alloc o).alloc p) fun e w' => e = .returned (.bool (decide (x.val = y.val))) ∧ w' = ((w.alloc o).alloc p)) := Lib.hid (fun o p => equal_any (ha.below (k0 o p).1) (hb.below (k0 o p).1))
  clear ha hb k0
  obtain ⟨r, t, so, ar, as_, val⟩ := x
  obtain ⟨r', t', so', ar', as', val'⟩ := y
  unfold sameA
  simp only [acv] at *
  generalize hz : decide (val = val') = z at *
  clear hz
  by_cases h1 : r = r' ∧ t = t'
  · obtain ⟨rfl, rfl⟩ := h1
    by_cases h2 : so = so'
    · subst h2
      by_cases h3 : ar = ar' ∧ as_ = as'
      · obtain ⟨rfl, rfl⟩ := h3
        simp only [and_self, decide_true, Bool.true_and]
        go_enter Try.func16, Try.ntmps16
        go_wp2_with fail
        refine (HE.out _ _).mono ?_
        rintro e u ⟨rfl, rfl⟩
        go_wp2
        go_ret
        exact ⟨rfl, ((Kept.refl w).alloc _).alloc _⟩
      · rw [decide_eq_false h3]
        simp only [and_self, decide_true, Bool.true_and, Bool.false_and]
        go_enter Try.func16, Try.ntmps16
        go_wp2
        all_goals
          go_ret
          exact ⟨rfl, ((Kept.refl w).alloc _).alloc _⟩
    · rw [decide_eq_false h2]
      simp only [and_self, decide_true, Bool.true_and, Bool.false_and]
      go_enter Try.func16, Try.ntmps16
      go_wp2
      go_ret
      exact ⟨rfl, ((Kept.refl w).alloc _).alloc _⟩
  · rw [decide_eq_false h1]
    simp only [Bool.false_and]
    go_enter Try.func16, Try.ntmps16
    go_wp2
    all_goals
      go_ret
      exact ⟨rfl, ((Kept.refl w).alloc _).alloc _⟩

set_option maxRecDepth 100000 in
set_option maxHeartbeats 1000000 in
theorem refacsame_any {w : World} {x y : Ac} {A B : Option Addr} {c d : Nat} (ha : Row w A x.val.length c x.val) (hb : Row w B y.val.length d y.val) :
    Calls Try.prog 15 #[acv x A x.val.length c, acv y B y.val.length d] w fun e w' => e = .returned (.bool (sameA x y)) ∧ Kept w w' := by
  have k0 : ∀ o p, Kept w ((w.alloc o).alloc p) := fun o p => ((Kept.refl w).alloc _).alloc _
  have HA : Hid (∀ o p, (convert 24 9 (.slice A x.val.length c)).run Try.prog ((w.alloc o).alloc p) = .ok (.string (txt x.val)) ((w.alloc o).alloc p)) := Lib.hid (fun o p => (ha.below (k0 o p).1).str)
  have HB : Hid (∀ o p, (convert 24 9 (.slice B y.val.length d)).run Try.prog ((w.alloc o).alloc p) = .ok (.string (txt y.val)) ((w.alloc o).alloc p)) := Lib.hid (fun o p => (hb.below (k0 o p).1).str)
  have hz := eq_txt ha.bts.2.2.1 hb.bts.2.2.1
  clear ha hb k0
  obtain ⟨r, t, so, ar, as_, val⟩ := x
  obtain ⟨r', t', so', ar', as', val'⟩ := y
  unfold sameA
  simp only [acv] at *
  rw [← hz]
  clear hz
  generalize txt val = tx at *
  generalize txt val' = ty at *
  by_cases h1 : r = r' ∧ t = t'
  · obtain ⟨rfl, rfl⟩ := h1
    by_cases h2 : so = so'
    · subst h2
      by_cases h3 : ar = ar' ∧ as_ = as'
      · obtain ⟨rfl, rfl⟩ := h3
        simp only [and_self, decide_true, Bool.true_and]
        have ca := HA.out (.cells #[.int .i64 r, .int .i64 t, .bool so, .int .i64 ar, .int .i64 as_, .slice A val.length c] 32) (.cells #[.int .i64 r, .int .i64 t, .bool so, .int .i64 ar, .int .i64 as_, .slice B val'.length d] 32)
        have cb := HB.out (.cells #[.int .i64 r, .int .i64 t, .bool so, .int .i64 ar, .int .i64 as_, .slice A val.length c] 32) (.cells #[.int .i64 r, .int .i64 t, .bool so, .int .i64 ar, .int .i64 as_, .slice B val'.length d] 32)
        go_enter Try.func15, Try.ntmps15
        go_wp2
        go_ret
        exact ⟨rfl, ((Kept.refl w).alloc _).alloc _⟩
      · rw [decide_eq_false h3]
        simp only [and_self, decide_true, Bool.true_and, Bool.false_and]
        go_enter Try.func15, Try.ntmps15
        go_wp2
        all_goals
          go_ret
          exact ⟨rfl, ((Kept.refl w).alloc _).alloc _⟩
    · rw [decide_eq_false h2]
      simp only [and_self, decide_true, Bool.true_and, Bool.false_and]
      go_enter Try.func15, Try.ntmps15
      go_wp2
      go_ret
      exact ⟨rfl, ((Kept.refl w).alloc _).alloc _⟩
  · rw [decide_eq_false h1]
    simp only [Bool.false_and]
    go_enter Try.func15, Try.ntmps15
    go_wp2
    all_goals
      go_ret
      exact ⟨rfl, ((Kept.refl w).alloc _).alloc _⟩

end Go.Proofs.Ytlcmfikekbbgjaa
