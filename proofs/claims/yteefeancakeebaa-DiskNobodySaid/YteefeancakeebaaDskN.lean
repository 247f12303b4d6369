/- The walk of DiskNobody. -/
import Derived.Test.YteefeancakeebaaDskK
namespace Go.Proofs.Yteefeancakeebaa
open Go.RowKit

set_option maxHeartbeats 2000000 in
theorem DiskNobody_walk (a0 : Option Addr) (len0 cap0 : Nat) (a1 : Int) (w : World) (_ : SliceAt 1 1 (IsInt .u8) w a0 len0 cap0) (_ : (Lit.int .i64 a1).wf = true) :
    Calls Try.prog 8 #[.slice a0 len0 cap0, .int .i64 a1] w fun e w' => e = .returned (.bool true) ∧ Below w.heap.size w w' := by
  go_enter Try.func8, Try.ntmps8
  go_wp2_with fail
  refine (awake_any _).mono ?_
  rintro e u ⟨rfl, h1⟩
  go_wp2_with (first
    | (go_at_call 20; refine (sync_nil _).mono ?_; rintro e u ⟨rfl, rfl⟩)
    | (go_at_call 21; refine (crash_nil _ _).mono ?_; rintro e u ⟨rfl, rfl⟩)
    | (go_at_call 19; refine (append_nil _ _ _ _).mono ?_; rintro e u ⟨rfl, rfl⟩)
    | (go_at_call 22; refine (cut_nil _ _).mono ?_; rintro e u ⟨rfl, rfl⟩)
    | (go_at_call 23; refine (install_nil _ _ _ _).mono ?_; rintro e u ⟨rfl, rfl⟩)
    | (go_at_call 17; refine (bytes_nil _).mono ?_; rintro e u ⟨rfl, rfl⟩)
    | (go_at_call 18; refine (synced_nil _).mono ?_; rintro e u ⟨rfl, rfl⟩))
  go_ret
  exact ⟨rfl, h1⟩
end Go.Proofs.Yteefeancakeebaa
