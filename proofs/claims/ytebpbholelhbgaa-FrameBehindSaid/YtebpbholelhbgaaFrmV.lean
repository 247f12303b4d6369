/- The document's own frame (the reference): a number as four bytes, and back; Put. -/
import Derived.Test.YtebpbholelhbgaaFrmS
import Derived.Test.YtebpbholelhbgaaCrcR
namespace Go.Proofs.Ytebpbholelhbgaa
open Go.RowKit CrcM

def digs : Nat → Nat → List Nat
  | 0, _ => []
  | k + 1, m => m % 256 :: digs k (m / 256)
theorem digs_four (n : Nat) : digs 4 n = four n := by
  simp only [digs, four, Nat.div_div_eq_div_mul]

set_option maxHeartbeats 1000000 in
theorem rfour_any (n : Nat) (hn : n < 4294967296) (w : World) :
    Calls Try.prog 22 #[.int .u32 n] w fun e w' => ∃ v, e = .returned v ∧ Own w' w.heap.size v (four n) ∧ Below w.heap.size w w' := by
  have HD := Lib.hid (digs_four n)
  generalize four n = out at *
  go_enter Try.func22, Try.ntmps22
  go_wp2
  go_loopw [0, 3, 4] (fun x v i wr => ∃ (m k : Nat) (ds : List Nat), x = .int .u32 m ∧ m < 4294967296 ∧ i = .int .i64 k ∧ k ≤ 4 ∧ ds.length = k ∧ Own wr w.heap.size v ds ∧ Kept w wr ∧ ds ++ digs (4 - k) m = digs 4 n) (fun _ _ i _ => 4 - (intOf i).toNat)
  case atStart => exact ⟨n, 0, [], rfl, hn, rfl, by omega, rfl, Own.nil _ _, Kept.refl w, rfl⟩
  case round =>
    obtain ⟨m, k, ds, rfl, hm, rfl, hk, hl, own, kk, hd⟩ := hrel
    have HDD := Lib.hid hd
    have HO := Lib.hid own
    clear own hd
    by_cases hlt : k < 4
    · have hone := fun (W : World) => bts_one W 5 (0, 0) (c := m % 256) (g := W.heap.size) rfl (by omega)
      have HONE := Lib.hid hone
      have hw8 : (m : Int) % 256 = ((m % 256 : Nat) : Int) := by omega
      clear hone
      generalize hr : m % 256 = r at *
      have HR := Lib.hid hr
      clear hr
      go_wp2_with (first
        | (at_builtin
           refine wpList_append_bts rfl (.tmp 9) (.tmp 13) rfl (v := u3) (base := w.heap.size) (ds := ds) rfl rfl (HO.out.alloc' _) (HONE.out _) (by simp) (by omega) (kk.alloc _).2 ?_
           intro v2 w2 own2 gr2 at2
           have k2 := (kk.alloc _).append (HO.out.alloc' _) gr2
           have HO2 := Lib.hid own2
           clear own2 gr2 at2)
        | fail)
      go_roundw
      case rel =>
        refine ⟨m / 256, k + 1, ds ++ [r], by go_num, by omega, by go_num, by omega, by simp [hl], HO2.out, k2, ?_⟩
        rw [← HDD.out, show 4 - k = (4 - (k + 1)) + 1 by omega, digs, HR.out, List.append_assoc]
        rfl
      case measure => simp [intOf]; omega
    · have hk4 : k = 4 := by omega
      subst hk4
      go_wp2
      go_ret
      have e : ds = out := by
        have := HDD.out
        rw [HD.out] at this
        simpa [digs] using this
      exact ⟨_, rfl, e ▸ HO.out, kk.1⟩

set_option maxHeartbeats 1000000 in
theorem rnumber_any (b0 b1 b2 b3 : Nat) (bs : List Nat) (B : Nat) (A : Option Addr) (n cap : Nat) (w : World) (hb : Bts w B A n (b0 :: b1 :: b2 :: b3 :: bs)) :
    Calls Try.prog 27 #[.slice A n cap] w fun e w' => e = .returned (.int .u32 (num4 [b0, b1, b2, b3] : Nat)) ∧ w' = w := by
  obtain ⟨hl, hmax, hby, hc⟩ := hb
  have q0 := hby b0 (by simp)
  have q1 := hby b1 (by simp)
  have q2 := hby b2 (by simp)
  have q3 := hby b3 (by simp)
  have hn4 : 4 ≤ n := by rw [← hl]; simp
  obtain ⟨b, off, rfl, _, hcs⟩ := hc (by omega)
  have z0 : w.cell? ⟨b, off, none⟩ = some (.int .u8 (b0 : Int)) := hcs 0 (by omega)
  have z1 : w.cell? ⟨b, off + 1, none⟩ = some (.int .u8 (b1 : Int)) := hcs 1 (by omega)
  have z2 : w.cell? ⟨b, off + 2, none⟩ = some (.int .u8 (b2 : Int)) := hcs 2 (by omega)
  have z3 : w.cell? ⟨b, off + 3, none⟩ = some (.int .u8 (b3 : Int)) := hcs 3 (by omega)
  have HE : Hid (((num4 [b0, b1, b2, b3] : Nat) : Int) = b0 + b1 * 256 + b2 * 65536 + b3 * 16777216) := Lib.hid (by simp [num4]; omega)
  generalize num4 [b0, b1, b2, b3] = r at *
  clear hby hc hcs hl
  go_enter Try.func27, Try.ntmps27
  go_wp2
  refine wp_loop_rounds 5 ?_
  rw [rounds_succ]
  go_wp2
  rw [rounds_succ]
  go_wp2
  rw [rounds_succ]
  go_wp2
  rw [rounds_succ]
  go_wp2
  rw [rounds_succ]
  go_wp2
  go_ret
  exact ⟨CrcW.ret_u32 (by rw [HE.out]; omega), rfl⟩
end Go.Proofs.Ytebpbholelhbgaa
