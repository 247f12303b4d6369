/- FramePuts -/
import Derived.Test.YtebpbholelhbgaaFrmK
namespace Go.Proofs.Ytebpbholelhbgaa
open Go.RowKit

set_option maxHeartbeats 2000000 in
theorem FramePuts_walk (a0 : Option Addr) (len0 cap0 : Nat) (w : World) (w0 : SliceAt 1 1 (IsInt .u8) w a0 len0 cap0) :
    Calls Try.prog 3 #[.slice a0 len0 cap0] w fun e w' => e = .returned (.bool true) ∧ Below w.heap.size w w' := by
  obtain ⟨bs, hb⟩ := bts_of w0
  have hnil := w0.2.2.2.1
  have HB := Lib.hid hb
  have hby := Lib.hid hb.2.2.1
  have hl := hb.1
  clear w0 hb
  go_enter Try.func3, Try.ntmps3
  go_wp2_with fail
  refine (awake_any _).mono ?_
  rintro e u1 ⟨rfl, h1⟩
  have k1 : Kept w u1 := (Kept.refl w).call h1
  clear h1
  go_wp2_with fail
  by_cases hn : len0 ≤ 4096
  · have HF := Lib.hid (frm_len bs)
    have HFB := Lib.hid (frm_byte hby.out)
    refine (put_any (bs := bs) ((HB.out.below k1.1).more k1.2) hnil hn).mono ?_
    rintro e u2 ⟨v2, rfl, o2, h2⟩
    have k2 := k1.call h2
    clear h2
    generalize hFE : frm bs = F at *
    have HE := Lib.hid hFE
    clear hFE
    obtain ⟨A2, c2, rfl, r2⟩ := o2.row (by rw [HF.out]; omega) HFB.out
    have R2 := Lib.hid r2
    clear o2 r2
    go_wp2_with fail
    refine (rput_any (bs := bs) ((HB.out.below k2.1).more k2.2) hnil hn).mono ?_
    rintro e u3 ⟨v3, rfl, o3, h3⟩
    rw [HE.out] at o3
    have k3 := k2.call h3
    obtain ⟨A3, c3, rfl, r3⟩ := o3.row (by rw [HF.out]; omega) HFB.out
    have R2' := R2.out.below h3
    have t2 := run_text (c := c2) R2'.bts (fun h => by have := R2'.nil h; have := R2'.room; omega)
    have t3 := run_text (c := c3) r3.bts (fun h => by have := r3.nil h; have := r3.room; omega)
    generalize F.length = m at *
    generalize txt F = X at *
    clear h3 o3 r3 R2'
    go_wp2
    go_ret
    exact ⟨rfl, k3.1⟩
  · refine (put_many (by omega)).mono ?_
    rintro e u2 ⟨rfl, rfl⟩
    go_wp2_with fail
    refine (rput_many (by omega)).mono ?_
    rintro e u2 ⟨rfl, rfl⟩
    have tn := fun W => run_text (w := W) (B := 0) (A := none) (n := 0) (c := 0) Bts.nil (fun _ => rfl)
    generalize txt [] = X at *
    go_wp2
    go_ret
    exact ⟨rfl, k1.1⟩
end Go.Proofs.Ytebpbholelhbgaa
