/- wire.Code and wire.At, whatever the error. -/
import Derived.Test.YtegjlcmeaelbnaaDoorErrC
namespace Go.Proofs.YtegjlcmeaelbnaaDoor
open Go.RowKit Go.Extern.Stop Go.Stop Go.Extern

theorem heap_new (w : World) (o : Obj) : (w.alloc o).heap[w.heap.size]? = some o := by
  show (w.heap.push o)[w.heap.size]? = _
  simp

theorem code_idle (p : Addr) (w : World) :
    CallsD Tryd.prog 32 #[.pointer (some p)] .returning w fun e u' w' => e = .returned (.tuple #[]) ∧ u' = .returning ∧ w' = w := by
  refine callsD_of_wpS Tryd.func32 rfl fun c₀ cs hu => ?_
  apply wpS_seq
  apply wpS_region
  simp [wpOpsS, go_sem, recoverD, hu, Tryd.ntmps32, Exit.thenS]
  refine wpS_cond (t := false) (by simp [Act.eval, Array.replicate]) ?_
  simp only [Bool.false_eq_true, if_false]
  refine wpS_of_wp (wp_skip ?_)
  cases c₀
  simp_all [bodyPostS, results, Tryd.results32]

theorem at_idle (p : Addr) (w : World) :
    CallsD Tryd.prog 35 #[.pointer (some p)] .returning w fun e u' w' => e = .returned (.tuple #[]) ∧ u' = .returning ∧ w' = w := by
  refine callsD_of_wpS Tryd.func35 rfl fun c₀ cs hu => ?_
  apply wpS_seq
  apply wpS_region
  simp [wpOpsS, go_sem, recoverD, hu, Tryd.ntmps35, Exit.thenS]
  refine wpS_cond (t := false) (by simp [Act.eval, Array.replicate]) ?_
  simp only [Bool.false_eq_true, if_false]
  refine wpS_of_wp (wp_skip ?_)
  cases c₀
  simp_all [bodyPostS, results, Tryd.results35]

set_option maxRecDepth 100000 in
theorem is_some_nil (t : TypeId) (v : Value) (w : World) : Calls Tryd.prog 33 #[.iface t v, .nilIface] w fun e w' => e = .returned (.bool false) ∧ w' = w := by
  have hnn := run_eql_held_nil (P := Tryd.prog) w 27 t v (by kernel_rfl)
  have hn0 := run_eql_nil_nil (P := Tryd.prog) w 27 (by kernel_rfl)
  go_enter Tryd.func33, Tryd.ntmps33
  go_wp2
  go_ret
  exact ⟨rfl, rfl⟩

/-- the door of Code: its deferred closure finds nothing (Code of nil is not here: NOTES.md, REPORT.md 'MODEL': the model has no '==' of two nil errors) -/
theorem leave_code (w W : World) (c : Int) (hb : Below w.heap.size w W) (hc : W.cell? ⟨w.heap.size, 0, none⟩ = some (.int .i64 c)) (tmps : Array Value) (h2 : tmps[2]? = some (.pointer (some ⟨w.heap.size, 0, none⟩))) :
    bodyPostD Tryd.prog Tryd.f16 (fun e w' => e = .returned (.int .i64 c) ∧ Below w.heap.size w w') Exit.ret { tmps := tmps, defers := [{ target := .fn (.func 32) #[.pointer (some ⟨w.heap.size, 0, none⟩)], args := #[] }] } W := by
  refine leaves_cons (f := 32) (args := #[.pointer (some ⟨w.heap.size, 0, none⟩)]) (by simp) (by simp [go_sem]) ?_
  refine (code_idle ⟨w.heap.size, 0, none⟩ _).mono ?_
  rintro e u' w'' ⟨rfl, rfl, rfl⟩
  simp [Leaves, settle, results, Tryd.results16, go_sem, h2, hc]
  exact hb

set_option maxRecDepth 100000 in
set_option maxHeartbeats 1000000 in
/-- Code of an error that errors.as finds an Errno in. -/
theorem code_hit (t : TypeId) (v : Value) (c : Int) (w : World) (hg : Laid w)
    (has : ∀ b, AsAt w 49 (.iface t v) (.iface 73 (.pointer (some ⟨b, 0, none⟩))) vE (rty 36) b (.cells #[.int .i64 0] 36 (0, 0)) true (fun w w' => Hit w w' b #[.int .i64 c] 36)) :
    Calls Tryd.prog 16 #[.iface t v] w fun e w' => e = .returned (.int .i64 c) ∧ Below w.heap.size w w' := by
  have hmf : ∀ (fn : Fn) (first cap : Array Value) (w : World), (Instr.makeFunc fn first cap).run Tryd.prog w = .ok (.func fn first cap) w := fun _ _ _ _ => rfl
  have b1 : Below w.heap.size w (w.alloc (.cells #[.int .i64 0] 36)) := (Below.refl _ _).alloc (Nat.le_refl _) _
  have has' := asAt_E t v w.heap.size _ true (fun w1 w' => Hit w1 w' w.heap.size #[.int .i64 c] 36) (fun _ _ _ hb h => Hit.of_below hb h) w _ ((Kept.refl w).call b1) (hg.below b1) (heap_new w _) (has w.heap.size)
  clear has hg
  go_enter_defers Tryd.func16, Tryd.ntmps16
  go_wp2_with (first
    | (go_at_call 33; refine (is_some_nil _ _ _).mono ?_; rintro e w' ⟨rfl, rfl⟩)
    | (go_at_call 34; refine has'.mono ?_; rintro e w' ⟨rfl, hit⟩; have hcell : w'.cell? ⟨w.heap.size, 0, none⟩ = some (.int .i64 c) := cell_of_heap hit.cells 0; have hfr := frozen_of_heap hit.cells 0; have hb := hit.below b1 (Nat.le_refl _))
    | fail)
  exact leave_code w _ c (hb.setCell (Nat.le_refl _) _) (World.cell?_setCell_same _ _ _ hcell) _ rfl
set_option maxRecDepth 100000 in
set_option maxHeartbeats 1000000 in
/-- Code of an error that has none. -/
theorem code_miss (t : TypeId) (v : Value) (w : World) (hg : Laid w)
    (has : ∀ b o, AsAt w 49 (.iface t v) (.iface 73 (.pointer (some ⟨b, 0, none⟩))) vE (rty 36) b o false (fun w w' => Below w.heap.size w w')) :
    Calls Tryd.prog 16 #[.iface t v] w fun e w' => e = .returned (.int .i64 1) ∧ Below w.heap.size w w' := by
  have hmf : ∀ (fn : Fn) (first cap : Array Value) (w : World), (Instr.makeFunc fn first cap).run Tryd.prog w = .ok (.func fn first cap) w := fun _ _ _ _ => rfl
  have b1 : Below w.heap.size w (w.alloc (.cells #[.int .i64 0] 36)) := (Below.refl _ _).alloc (Nat.le_refl _) _
  have has' := asAt_E t v w.heap.size _ false (fun w1 w' => Below w1.heap.size w1 w') (fun _ _ _ hb h => hb.trans (h.mono hb.size)) w _ ((Kept.refl w).call b1) (hg.below b1) (heap_new w _) (has w.heap.size _)
  clear has hg
  go_enter_defers Tryd.func16, Tryd.ntmps16
  go_wp2_with (first
    | (go_at_call 33; refine (is_some_nil _ _ _).mono ?_; rintro e w' ⟨rfl, rfl⟩)
    | (go_at_call 34; refine has'.mono ?_; rintro e w' ⟨rfl, hit⟩; have hcell : w'.cell? ⟨w.heap.size, 0, none⟩ = some (.int .i64 0) := (hit.cell (by simp)).trans (cell_of_heap (heap_new w _) 0); have hfr : w'.frozen? ⟨w.heap.size, 0, none⟩ = false := (hit.frozen (by simp)).trans (frozen_of_heap (heap_new w _) 0); have hb := b1.trans (hit.mono b1.size))
    | fail)
  exact leave_code w _ 1 (hb.setCell (Nat.le_refl _) _) (World.cell?_setCell_same _ _ _ hcell) _ rfl

/-- As of nil. -/
theorem as_nil (t : Value) (w : World) : Calls Tryd.prog 34 #[.nilIface, t] w fun e w' => e = .returned (.bool false) ∧ w' = w := by
  have hnn := run_eql_nil_nil (P := Tryd.prog) w 27 (by kernel_rfl)
  go_enter Tryd.func34, Tryd.ntmps34
  go_wp2
  go_ret
  exact ⟨rfl, rfl⟩
theorem leave_at (w W : World) (c : Int) (hb : Below w.heap.size w W) (hc : W.cell? ⟨w.heap.size, 0, none⟩ = some (.int .i64 c)) (tmps : Array Value) (h2 : tmps[2]? = some (.pointer (some ⟨w.heap.size, 0, none⟩))) :
    bodyPostD Tryd.prog Tryd.f18 (fun e w' => e = .returned (.int .i64 c) ∧ Below w.heap.size w w') Exit.ret { tmps := tmps, defers := [{ target := .fn (.func 35) #[.pointer (some ⟨w.heap.size, 0, none⟩)], args := #[] }] } W := by
  refine leaves_cons (f := 35) (args := #[.pointer (some ⟨w.heap.size, 0, none⟩)]) (by simp) (by simp [go_sem]) ?_
  refine (at_idle ⟨w.heap.size, 0, none⟩ _).mono ?_
  rintro e u' w'' ⟨rfl, rfl, rfl⟩
  simp [Leaves, settle, results, Tryd.results18, go_sem, h2, hc]
  exact hb
set_option maxRecDepth 100000 in
set_option maxHeartbeats 1000000 in
/-- At of an error that errors.as finds a fault in. -/
theorem at_hit (t : TypeId) (v : Value) (c p : Int) (w : World) (hg : Laid w)
    (has : ∀ b, AsAt w 49 (.iface t v) (.iface 76 (.pointer (some ⟨b, 0, none⟩))) vF (rty 75) b (.cells #[.int .i64 0, .int .i64 0] 75 (0, 0)) true (fun w w' => Hit w w' b #[.int .i64 c, .int .i64 p] 75)) :
    Calls Tryd.prog 18 #[.iface t v] w fun e w' => e = .returned (.int .i64 p) ∧ Below w.heap.size w w' := by
  have hmf : ∀ (fn : Fn) (first cap : Array Value) (w : World), (Instr.makeFunc fn first cap).run Tryd.prog w = .ok (.func fn first cap) w := fun _ _ _ _ => rfl
  have b1 : Below w.heap.size w (w.alloc (.cells #[.int .i64 0] 3)) := (Below.refl _ _).alloc (Nat.le_refl _) _
  have b2 : Below w.heap.size w ((w.alloc (.cells #[.int .i64 0] 3)).alloc (.cells #[.int .i64 0, .int .i64 0] 75)) := b1.alloc (by simp) _
  have has' := asAt_F t v (w.heap.size + 1) _ true (fun w1 w' => Hit w1 w' (w.heap.size + 1) #[.int .i64 c, .int .i64 p] 75) (fun _ _ _ hb h => Hit.of_below hb h) w ((w.alloc (.cells #[.int .i64 0] 3)).alloc (.cells #[.int .i64 0, .int .i64 0] 75)) ((Kept.refl w).call b2) (hg.below b2)
    (by have := heap_new (w.alloc (.cells #[.int .i64 0] 3)) (.cells #[.int .i64 0, .int .i64 0] 75); simpa only [World.size_alloc] using this) (has (w.heap.size + 1))
  have old : ((w.alloc (.cells #[.int .i64 0] 3)).alloc (.cells #[.int .i64 0, .int .i64 0] 75)).heap[w.heap.size]? = some (.cells #[.int .i64 0] 3 (0, 0)) := (Below.heap_alloc _ _ _ (by simp)).trans (heap_new w _)
  clear has hg
  go_enter_defers Tryd.func18, Tryd.ntmps18
  go_wp2_with (first
    | (go_at_call 34; refine has'.mono ?_; rintro e w' ⟨rfl, hit⟩
       have hb := hit.below b2 (Nat.le_succ _)
       have hold := (hit.rest w.heap.size (by simp; omega) (by omega)).trans old
       have hc1 : w'.cell? ⟨w.heap.size + 1, 1, none⟩ = some (.int .i64 p) := cell_of_heap hit.cells 1
       have hcell : w'.cell? ⟨w.heap.size, 0, none⟩ = some (.int .i64 0) := cell_of_heap hold 0
       have hfr := frozen_of_heap hold 0)
    | fail)
  exact leave_at w _ p (hb.setCell (Nat.le_refl _) _) (World.cell?_setCell_same _ _ _ hcell) _ rfl
set_option maxRecDepth 100000 in
set_option maxHeartbeats 1000000 in
/-- At of an error that has no fault, or of nil. -/
theorem at_miss (e0 : Value) (w : World)
    (has : ∀ b W, W.heap[b]? = some (.cells #[.int .i64 0, .int .i64 0] 75 (0, 0)) → Below w.heap.size w W → Calls Tryd.prog 34 #[e0, .iface 76 (.pointer (some ⟨b, 0, none⟩))] W fun e w' => e = .returned (.bool false) ∧ Below W.heap.size W w') :
    Calls Tryd.prog 18 #[e0] w fun e w' => e = .returned (.int .i64 (-1)) ∧ Below w.heap.size w w' := by
  have hmf : ∀ (fn : Fn) (first cap : Array Value) (w : World), (Instr.makeFunc fn first cap).run Tryd.prog w = .ok (.func fn first cap) w := fun _ _ _ _ => rfl
  have b1 : Below w.heap.size w (w.alloc (.cells #[.int .i64 0] 3)) := (Below.refl _ _).alloc (Nat.le_refl _) _
  have b2 : Below w.heap.size w ((w.alloc (.cells #[.int .i64 0] 3)).alloc (.cells #[.int .i64 0, .int .i64 0] 75)) := b1.alloc (by simp) _
  have has' := has (w.heap.size + 1) ((w.alloc (.cells #[.int .i64 0] 3)).alloc (.cells #[.int .i64 0, .int .i64 0] 75)) 
    (by have := heap_new (w.alloc (.cells #[.int .i64 0] 3)) (.cells #[.int .i64 0, .int .i64 0] 75); simpa only [World.size_alloc] using this) b2
  have old : ((w.alloc (.cells #[.int .i64 0] 3)).alloc (.cells #[.int .i64 0, .int .i64 0] 75)).heap[w.heap.size]? = some (.cells #[.int .i64 0] 3 (0, 0)) := (Below.heap_alloc _ _ _ (by simp)).trans (heap_new w _)
  clear has
  go_enter_defers Tryd.func18, Tryd.ntmps18
  go_wp2_with (first
    | (go_at_call 34; refine has'.mono ?_; rintro e w' ⟨rfl, hit⟩
       have hb := b2.trans (hit.mono b2.size)
       have hold := (hit.block w.heap.size (by simp; omega)).trans old
       have hcell : w'.cell? ⟨w.heap.size, 0, none⟩ = some (.int .i64 0) := cell_of_heap hold 0
       have hfr := frozen_of_heap hold 0)
    | fail)
  exact leave_at w _ (-1) (hb.setCell (Nat.le_refl _) _) (World.cell?_setCell_same _ _ _ hcell) _ rfl
end Go.Proofs.YtegjlcmeaelbnaaDoor
