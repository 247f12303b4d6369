/- The document's own answers for layer 2: Uint, Zig, Bytes. -/
import Derived.Test.YtmjgpgnecohbcaaMgJ
namespace Go.Proofs.Ytmjgpgnecohbcaa
open Go.RowKit

set_option maxRecDepth 100000 in
set_option maxHeartbeats 2000000 in
theorem refuint_any (n : Nat) (hn : n < 18446744073709551616) (w : World) :
    Calls Try.prog 56 #[.int .u64 n] w fun e w' => ∃ v, e = .returned v ∧ Own w' w.heap.size v (put n) ∧ Below w.heap.size w w' := by
  have hp := put_ten hn
  go_enter Try.func56, Try.ntmps56
  go_wp2
  go_loopw [0, 3] (fun i b wr => ∃ (m : Nat) (ds : List Nat), i = .int .u64 m ∧ m < 18446744073709551616 ∧ Own wr w.heap.size b ds ∧ ds ++ put m = put n ∧ Kept w wr) (fun i _ _ => (intOf i).toNat)
  case atStart => exact ⟨n, [], rfl, hn, Own.nil _ _, rfl, Kept.refl _⟩
  case round =>
    obtain ⟨m, ds, rfl, hm, own, hds, kk⟩ := hrel
    rename_i vb
    have hll : ds.length + (put m).length = (put n).length := by simpa using congrArg List.length hds
    have hpp := put_pos m
    by_cases hlt : m < 128
    · have hb := u8_small hlt
      rw [put_small hlt] at hds
      have HDS := Lib.hid hds
      clear hds
      go_wp2_with (first
        | (at_builtin
           refine wpList_append_bts rfl (.tmp 15) (.tmp 18) rfl (base := w.heap.size) (ds := ds) rfl rfl (own.alloc' _) (bts_one _ _ _ rfl (show m < 256 by omega)) (by simp) (by omega) (Nat.le_trans kk.2 (by simp)) ?_
           intro v1 w1 own1 gr1 at1
           have k1 := (kk.alloc _).append (own.alloc' _) gr1
           clear gr1 at1))
      go_ret
      exact ⟨_, rfl, HDS.out ▸ own1, k1.1⟩
    · have hbw : IntKind.u8.wrap ((m : Int) % 128 + 128) = ((m % 128 + 128 : Nat) : Int) := by rw [IntKind.wrap_u8]; omega
      rw [put_big hlt] at hds
      have HDS := Lib.hid hds
      clear hds
      go_wp2_with (first
        | (at_builtin
           refine wpList_append_bts rfl (.tmp 6) (.tmp 11) rfl (base := w.heap.size) (ds := ds) rfl rfl (own.alloc' _) (bts_one _ _ _ rfl (show m % 128 + 128 < 256 by omega)) (by simp) (by omega) (Nat.le_trans kk.2 (by simp)) ?_
           intro v1 w1 own1 gr1 at1
           have k1 := (kk.alloc _).append (own.alloc' _) gr1
           clear gr1 at1))
      go_roundw
      case rel => exact ⟨m / 128, _, by go_num, by omega, own1, by rw [List.append_assoc]; exact HDS.out, k1⟩
      case measure => simp [intOf]; omega



set_option maxRecDepth 100000 in
set_option maxHeartbeats 1000000 in
theorem refbytes_any (A : Option Addr) (n cap : Nat) (bs : List Nat) {B : Nat} (hn : n ≤ 1048576) (w : World) (hb : Bts w B A n bs) (hB : B ≤ w.heap.size) (hnil : A = none → cap = 0) :
    Calls Try.prog 57 #[.slice A n cap] w fun e w' => ∃ v, e = .returned v ∧ Own w' w.heap.size v (put n ++ bs) ∧ Below w.heap.size w w' := by
  have hp := put_ten (n := n) (by omega)
  have HB := Lib.hid hb
  clear hb
  go_enter Try.func57, Try.ntmps57
  go_wp2_with fail
  refine (refuint_any n (by omega) w).mono ?_
  rintro e w1 ⟨v, rfl, own, hb1⟩
  have k1 := (Kept.refl w).call hb1
  go_wp2_with (first
    | (at_builtin
       refine wpList_append_bts rfl (.tmp 8) (.tmp 9) rfl (v := v) (base := w.heap.size) (ds := put n) rfl rfl own (HB.out.below (hb1.mono hB)) hnil (by omega) k1.2 ?_
       intro v1 w2 own1 gr1 at1
       have k2 := k1.append own gr1
       clear gr1 at1))
  go_ret
  exact ⟨_, rfl, own1, k2.1⟩
end Go.Proofs.Ytmjgpgnecohbcaa
