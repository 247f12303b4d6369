/- The document's own frame (the reference): a number as four bytes, and back; Put. -/
import Derived.Test.YtmjgpgnecohbcaaFrmS
import Derived.Test.YtmjgpgnecohbcaaCrcR

namespace Go.Proofs.Ytmjgpgnecohbcaa
open Go.RowKit CrcM

def digs : Nat → Nat → List Nat
  | 0, _ => []
  | k + 1, m => m % 256 :: digs k (m / 256)
theorem digs_four (n : Nat) : digs 4 n = four n := by
  simp only [digs, four, Nat.div_div_eq_div_mul]

set_option maxHeartbeats 1000000 in
theorem rfour_any (n : Nat) (hn : n < 4294967296) (w : World) :
    Calls Try.prog 58 #[.int .u32 n] w fun e w' => ∃ v, e = .returned v ∧ Own w' w.heap.size v (four n) ∧ Below w.heap.size w w' := by
  have HD := Lib.hid (digs_four n)
  generalize four n = out at *
  go_enter Try.func58, Try.ntmps58
  go_wp2
  go_loopw [0, 3, 4] (fun x v i wr => ∃ (m k : Nat) (ds : List Nat), x = .int .u32 m ∧ m < 4294967296 ∧ i = .int .i64 k ∧ k ≤ 4 ∧ ds.length = k ∧ Own wr w.heap.size v ds ∧ Kept w wr ∧ ds ++ digs (4 - k) m = digs 4 n) (fun _ _ i _ => 4 - (intOf i).toNat)
  case atStart => exact ⟨n, 0, [], rfl, hn, rfl, by omega, rfl, Own.nil _ _, Kept.refl w, rfl⟩
  case round =>
    obtain ⟨m, k, ds, rfl, hm, rfl, hk, hl, own, kk, hd⟩ := hrel
    have HDD := Lib.hid hd
    have HO := Lib.hid own
    clear own hd
    by_cases hlt : k < 4
    · have hone := fun (W : World) => bts_one W 5 (0, 0) (c := m % 256) (g := W.heap.size) rfl (by omega)
      have HONE := Lib.hid hone
      have hw8 : (m : Int) % 256 = ((m % 256 : Nat) : Int) := by omega
      clear hone
      generalize hr : m % 256 = r at *
      have HR := Lib.hid hr
      clear hr
      go_wp2_with (first
        | (at_builtin
           refine wpList_append_bts rfl (.tmp 9) (.tmp 13) rfl (v := u3) (base := w.heap.size) (ds := ds) rfl rfl (HO.out.alloc' _) (HONE.out _) (by simp) (by omega) (kk.alloc _).2 ?_
           intro v2 w2 own2 gr2 at2
           have k2 := (kk.alloc _).append (HO.out.alloc' _) gr2
           have HO2 := Lib.hid own2
           clear own2 gr2 at2)
        | fail)
      go_roundw
      case rel =>
        refine ⟨m / 256, k + 1, ds ++ [r], by go_num, by omega, by go_num, by omega, by simp [hl], HO2.out, k2, ?_⟩
        rw [← HDD.out, show 4 - k = (4 - (k + 1)) + 1 by omega, digs, HR.out, List.append_assoc]
        rfl
      case measure => simp [intOf]; omega
    · have hk4 : k = 4 := by omega
      subst hk4
      go_wp2
      go_ret
      have e : ds = out := by
        have := HDD.out
        rw [HD.out] at this
        simpa [digs] using this
      exact ⟨_, rfl, e ▸ HO.out, kk.1⟩

set_option maxHeartbeats 1000000 in
theorem rnumber_any (b0 b1 b2 b3 : Nat) (bs : List Nat) (B : Nat) (A : Option Addr) (n cap : Nat) (w : World) (hb : Bts w B A n (b0 :: b1 :: b2 :: b3 :: bs)) :
    Calls Try.prog 80 #[.slice A n cap] w fun e w' => e = .returned (.int .u32 (num4 [b0, b1, b2, b3] : Nat)) ∧ w' = w := by
  obtain ⟨hl, hmax, hby, hc⟩ := hb
  have q0 := hby b0 (by simp)
  have q1 := hby b1 (by simp)
  have q2 := hby b2 (by simp)
  have q3 := hby b3 (by simp)
  have hn4 : 4 ≤ n := by rw [← hl]; simp
  obtain ⟨b, off, rfl, _, hcs⟩ := hc (by omega)
  have z0 : w.cell? ⟨b, off, none⟩ = some (.int .u8 (b0 : Int)) := hcs 0 (by omega)
  have z1 : w.cell? ⟨b, off + 1, none⟩ = some (.int .u8 (b1 : Int)) := hcs 1 (by omega)
  have z2 : w.cell? ⟨b, off + 2, none⟩ = some (.int .u8 (b2 : Int)) := hcs 2 (by omega)
  have z3 : w.cell? ⟨b, off + 3, none⟩ = some (.int .u8 (b3 : Int)) := hcs 3 (by omega)
  have HE : Hid (((num4 [b0, b1, b2, b3] : Nat) : Int) = b0 + b1 * 256 + b2 * 65536 + b3 * 16777216) := Lib.hid (by simp [num4]; omega)
  generalize num4 [b0, b1, b2, b3] = r at *
  clear hby hc hcs hl
  go_enter Try.func80, Try.ntmps80
  go_wp2
  refine wp_loop_rounds 5 ?_
  rw [rounds_succ]
  go_wp2
  rw [rounds_succ]
  go_wp2
  rw [rounds_succ]
  go_wp2
  rw [rounds_succ]
  go_wp2
  rw [rounds_succ]
  go_wp2
  go_ret
  exact ⟨CrcW.ret_u32 (by rw [HE.out]; omega), rfl⟩
end Go.Proofs.Ytmjgpgnecohbcaa

/- The document's own frame (the reference): Put. -/
namespace Go.Proofs.Ytmjgpgnecohbcaa
open Go.RowKit CrcM

set_option maxHeartbeats 1000000 in
theorem rput_many {w : World} {A : Option Addr} {n cap : Nat} (hn : 4096 < n) :
    Calls Try.prog 41 #[.slice A n cap] w fun e w' => e = .returned (.tuple #[.slice none 0 0, .int .i64 5]) ∧ w' = w := by
  go_enter Try.func41, Try.ntmps41
  go_wp2
  go_ret2
  exact ⟨rfl, rfl⟩

set_option maxHeartbeats 1000000 in
theorem rput_any {w : World} {A : Option Addr} {n cap : Nat} {bs : List Nat} (hb : Bts w w.heap.size A n bs) (hnil : A = none → cap = 0) (hn : n ≤ 4096) :
    Calls Try.prog 41 #[.slice A n cap] w fun e w' => ∃ v, e = .returned (.tuple #[v, .int .i64 0]) ∧ Own w' w.heap.size v (frm bs) ∧ Below w.heap.size w w' := by
  have hl := hb.1
  have HF : Hid (frm bs = four n ++ four (CrcM.more (CrcM.sum (four n)) bs) ++ bs) := Lib.hid (by unfold frm fsum; rw [hl, List.append_assoc])
  have HB := Lib.hid hb
  have hfb := Lib.hid (four_byte n)
  have hS := sum_lt (four n) (four_byte n)
  have hR := more_lt bs hS hb.2.2.1
  have hrb := Lib.hid (four_byte (CrcM.more (CrcM.sum (four n)) bs))
  have HR4 := Lib.hid <| four_len (CrcM.more (CrcM.sum (four n)) bs)
  have HF4 := Lib.hid <| four_len n
  have HL := Lib.hid (fun u => rfour_any n (by omega) u)
  have HL2 := Lib.hid (fun u => rfour_any (CrcM.more (CrcM.sum (four n)) bs) hR u)
  generalize four n = F1 at *
  generalize hSS : CrcM.sum F1 = S at *
  generalize hRR : CrcM.more S bs = R at *
  generalize four R = F2 at *
  generalize frm bs = out at *
  have HS := Lib.hid hSS
  have HR := Lib.hid hRR
  clear hb hSS hRR
  go_enter Try.func41, Try.ntmps41
  go_wp2_with fail
  refine (HL.out _).mono ?_
  rintro e u1 ⟨v1, rfl, o1, h1⟩
  have k1 := (Kept.refl w).call h1
  obtain ⟨A1, c1, e1, r1⟩ := o1.row (by rw [HF4.out]; omega) hfb.out
  rw [HF4.out] at e1 r1
  subst e1
  have O1 := Lib.hid o1
  have R1 := Lib.hid r1
  clear o1 r1 h1
  go_wp2_with fail
  refine (CrcR.sum_any _ _ _ F1 _ _ R1.out.bts).mono ?_
  rintro e u1' ⟨rfl, rfl⟩
  rw [HS.out]
  go_wp2_with fail
  refine (CrcR.more_any S hS _ _ _ bs _ _ (HB.out.below k1.1)).mono ?_
  rintro e u1' ⟨rfl, rfl⟩
  rw [HR.out]
  go_wp2_with fail
  refine (HL2.out _).mono ?_
  rintro e u2 ⟨v2, rfl, o2, h2⟩
  have k2 := k1.call h2
  obtain ⟨A2, c2, e2, r2⟩ := o2.row (by rw [HR4.out]; omega) hrb.out
  rw [HR4.out] at e2 r2
  subst e2
  have O2 := Lib.hid (Own.below O1.out h2)
  have R2 := Lib.hid r2
  clear o2 r2 h2
  go_wp2_with (first
    | (at_builtin
       refine wpList_append_bts rfl (.tmp 17) (.tmp 19) rfl (v := .slice A1 4 c1) (base := w.heap.size) (ds := F1) rfl rfl O2.out R2.out.bts R2.out.nil (by rw [HF4.out]; omega) k2.2 ?_
       intro v3 w3 own3 gr3 at3
       have k3 := k2.append O2.out gr3
       have O3 := Lib.hid own3
       clear own3 gr3 at3)
    | (at_builtin
       refine wpList_append_bts rfl (.tmp 21) (.tmp 22) rfl (v := v3) (base := w.heap.size) (ds := F1 ++ F2) rfl rfl O3.out (HB.out.below k3.1) hnil (by rw [List.length_append, HF4.out, HR4.out]; omega) k3.2 ?_
       intro v4 w4 own4 gr4 at4
       have k4 := k3.append O3.out gr4
       have O4 := Lib.hid own4
       clear own4 gr4 at4)
    | fail)
  go_ret2
  exact ⟨_, rfl, by rw [HF.out]; exact O4.out, k4.1⟩
end Go.Proofs.Ytmjgpgnecohbcaa
