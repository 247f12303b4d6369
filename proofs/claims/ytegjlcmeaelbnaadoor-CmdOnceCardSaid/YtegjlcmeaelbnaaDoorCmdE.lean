/- wrapped, May, Encode and Decode: the program's answers. -/
import Derived.Test.YtegjlcmeaelbnaaDoorCmdR
import Derived.Test.YtegjlcmeaelbnaaDoorErrF
namespace Go.Proofs.YtegjlcmeaelbnaaDoor
open Go.RowKit Go.Great

set_option maxRecDepth 100000 in
set_option maxHeartbeats 1000000 in
/-- of an error that errors.as finds the number c in, which is none of OK's -/
theorem wrapped_hit (t : TypeId) (v : Value) (c : Int) (hc : c ≠ 0) (w : World) (hg : Laid w)
    (has : ∀ b, AsAt w 49 (.iface t v) (.iface 73 (.pointer (some ⟨b, 0, none⟩))) vE (rty 36) b (.cells #[.int .i64 0] 36 (0, 0)) true (fun w w' => Hit w w' b #[.int .i64 c] 36)) :
    Calls Tryd.prog 20 #[.iface t v] w fun e w' => e = .returned (cfault (.iface t v)) ∧ Below w.heap.size w w' := by
  have b1 : Below w.heap.size w (w.alloc (.cells #[.int .i64 0] 36)) := (Below.refl _ _).alloc (Nat.le_refl _) _
  have has' := asAt_E t v w.heap.size _ true (fun w1 w' => Hit w1 w' w.heap.size #[.int .i64 c] 36) (fun _ _ _ hb h => Hit.of_below hb h) w _ ((Kept.refl w).call b1) (hg.below b1) (heap_new w _) (has w.heap.size)
  have HAS := Lib.hid has'
  clear has hg has'
  unfold cfault
  go_enter Tryd.func20, Tryd.ntmps20
  go_wp2_with (first
    | (go_at_call 34; refine HAS.out.mono ?_; rintro e w' ⟨rfl, hit⟩; have hcell : w'.cell? ⟨w.heap.size, 0, none⟩ = some (.int .i64 c) := cell_of_heap hit.cells 0; have hb := Lib.hid (hit.below b1 (Nat.le_refl _)); clear hit)
    | fail)
  go_ret
  exact ⟨rfl, hb.out⟩

set_option maxRecDepth 100000 in
theorem wrapped_nil (w : World) :
    Calls Tryd.prog 20 #[.nilIface] w fun e w' => e = .returned .nilIface ∧ Below w.heap.size w w' := by
  go_enter Tryd.func20, Tryd.ntmps20
  go_wp2_with (first
    | (go_at_call 34; refine (as_nil _ _).mono ?_; rintro e w' ⟨rfl, rfl⟩)
    | fail)
  go_ret
  exact ⟨rfl, (Below.refl _ _).alloc (Nat.le_refl _) _⟩

set_option maxRecDepth 100000 in
set_option maxHeartbeats 1000000 in
/-- of May's OK -/
theorem wrapped_ok (w : World) (hg : Laid w) :
    Calls Tryd.prog 20 #[errno 0] w fun e w' => e = .returned .nilIface ∧ Below w.heap.size w w' := by
  have b1 : Below w.heap.size w (w.alloc (.cells #[.int .i64 0] 36)) := (Below.refl _ _).alloc (Nat.le_refl _) _
  have has' := asAt_E 36 (.int .i64 0) w.heap.size _ true (fun w1 w' => Hit w1 w' w.heap.size #[.int .i64 0] 36) (fun _ _ _ hb h => Hit.of_below hb h) w _ ((Kept.refl w).call b1) (hg.below b1) (heap_new w _) (fun a w1 _ h1 h2 => asE_E 0 a w.heap.size _ w1 h1 h2)
  have HAS := Lib.hid has'
  clear hg has'
  unfold errno
  go_enter Tryd.func20, Tryd.ntmps20
  go_wp2_with (first
    | (go_at_call 34; refine HAS.out.mono ?_; rintro e w' ⟨rfl, hit⟩; have hcell : w'.cell? ⟨w.heap.size, 0, none⟩ = some (.int .i64 0) := cell_of_heap hit.cells 0; have hb := Lib.hid (hit.below b1 (Nat.le_refl _)); clear hit)
    | fail)
  go_ret
  exact ⟨rfl, hb.out⟩
theorem wrapped_fault (c p : Int) (hc : c ≠ 0) (w : World) (hg : Laid w) :
    Calls Tryd.prog 20 #[fault c p] w fun e w' => e = .returned (cfault (fault c p)) ∧ Below w.heap.size w w' :=
  wrapped_hit _ _ c hc w hg (fun b => fun a w1 _ h1 h2 => asE_F c p a b _ w1 h1 h2)
theorem wrapped_errno (c : Int) (hc : c ≠ 0) (w : World) (hg : Laid w) :
    Calls Tryd.prog 20 #[errno c] w fun e w' => e = .returned (cfault (errno c)) ∧ Below w.heap.size w w' :=
  wrapped_hit _ _ c hc w hg (fun b => fun a w1 _ h1 h2 => asE_E c a b _ w1 h1 h2)

set_option maxRecDepth 100000 in
theorem fields_any (ns : List Int) (hl : ns.length = 9) (w : World) : Calls Tryd.prog 19 #[nums ns] w fun e w' => e = .returned (nums ns) ∧ Below w.heap.size w w' := by
  obtain ⟨n0, n1, n2, n3, n4, n5, n6, n7, n8, rfl⟩ := nine hl
  exact fields9 n0 n1 n2 n3 n4 n5 n6 n7 n8 w
theorem command_any (ns : List Int) (hl : ns.length = 9) (w : World) : Calls Tryd.prog 27 #[nums ns] w fun e w' => e = .returned (nums ns) ∧ Below w.heap.size w w' := by
  obtain ⟨n0, n1, n2, n3, n4, n5, n6, n7, n8, rfl⟩ := nine hl
  exact command9 n0 n1 n2 n3 n4 n5 n6 n7 n8 w

set_option maxRecDepth 100000 in
set_option maxHeartbeats 1000000 in
theorem may_any (ns : List Int) (hl : ns.length = 9) (w : World) :
    Calls Tryd.prog 14 #[nums ns] w fun e w' => e = .returned (.int .i64 (if Ok ns then 0 else 1)) ∧ Below w.heap.size w w' := by
  have hf := fun w => fields_any ns hl w
  have hm := fun w => may9 ns hl w
  generalize (if Ok ns then (0 : Int) else 1) = R at *
  obtain ⟨n0, n1, n2, n3, n4, n5, n6, n7, n8, rfl⟩ := nine hl
  unfold nums at *
  simp only [List.map_cons, List.map_nil] at *
  clear hl
  go_enter Tryd.func14, Tryd.ntmps14
  go_wp2_with (first
    | (go_at_call 19; refine (hf _).mono ?_; rintro e w1 ⟨rfl, b1⟩; have k1 := ((Kept.refl w).alloc _).call b1; clear b1)
    | (go_at_call 21; refine (hm _).mono ?_; rintro e w2 ⟨rfl, b2⟩; have k2 := k1.call b2; clear b2)
    | fail)
  go_ret
  exact ⟨rfl, k2.1⟩
end Go.Proofs.YtegjlcmeaelbnaaDoor
