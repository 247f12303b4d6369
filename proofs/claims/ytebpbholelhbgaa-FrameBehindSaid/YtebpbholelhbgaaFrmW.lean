/- The document's own frame (the reference): Put. -/
import Derived.Test.YtebpbholelhbgaaFrmV
namespace Go.Proofs.Ytebpbholelhbgaa
open Go.RowKit CrcM

set_option maxHeartbeats 1000000 in
theorem rput_many {w : World} {A : Option Addr} {n cap : Nat} (hn : 4096 < n) :
    Calls Try.prog 11 #[.slice A n cap] w fun e w' => e = .returned (.tuple #[.slice none 0 0, .int .i64 5]) ∧ w' = w := by
  go_enter Try.func11, Try.ntmps11
  go_wp2
  go_ret2
  exact ⟨rfl, rfl⟩

set_option maxHeartbeats 1000000 in
theorem rput_any {w : World} {A : Option Addr} {n cap : Nat} {bs : List Nat} (hb : Bts w w.heap.size A n bs) (hnil : A = none → cap = 0) (hn : n ≤ 4096) :
    Calls Try.prog 11 #[.slice A n cap] w fun e w' => ∃ v, e = .returned (.tuple #[v, .int .i64 0]) ∧ Own w' w.heap.size v (frm bs) ∧ Below w.heap.size w w' := by
  have hl := hb.1
  have HF : Hid (frm bs = four n ++ four (CrcM.more (CrcM.sum (four n)) bs) ++ bs) := Lib.hid (by unfold frm fsum; rw [hl, List.append_assoc])
  have HB := Lib.hid hb
  have hfb := Lib.hid (four_byte n)
  have hS := sum_lt (four n) (four_byte n)
  have hR := more_lt bs hS hb.2.2.1
  have hrb := Lib.hid (four_byte (CrcM.more (CrcM.sum (four n)) bs))
  have HR4 := Lib.hid <| four_len (CrcM.more (CrcM.sum (four n)) bs)
  have HF4 := Lib.hid <| four_len n
  have HL := Lib.hid (fun u => rfour_any n (by omega) u)
  have HL2 := Lib.hid (fun u => rfour_any (CrcM.more (CrcM.sum (four n)) bs) hR u)
  generalize four n = F1 at *
  generalize hSS : CrcM.sum F1 = S at *
  generalize hRR : CrcM.more S bs = R at *
  generalize four R = F2 at *
  generalize frm bs = out at *
  have HS := Lib.hid hSS
  have HR := Lib.hid hRR
  clear hb hSS hRR
  go_enter Try.func11, Try.ntmps11
  go_wp2_with fail
  refine (HL.out _).mono ?_
  rintro e u1 ⟨v1, rfl, o1, h1⟩
  have k1 := (Kept.refl w).call h1
  obtain ⟨A1, c1, e1, r1⟩ := o1.row (by rw [HF4.out]; omega) hfb.out
  rw [HF4.out] at e1 r1
  subst e1
  have O1 := Lib.hid o1
  have R1 := Lib.hid r1
  clear o1 r1 h1
  go_wp2_with fail
  refine (CrcR.sum_any _ _ _ F1 _ _ R1.out.bts).mono ?_
  rintro e u1' ⟨rfl, rfl⟩
  rw [HS.out]
  go_wp2_with fail
  refine (CrcR.more_any S hS _ _ _ bs _ _ (HB.out.below k1.1)).mono ?_
  rintro e u1' ⟨rfl, rfl⟩
  rw [HR.out]
  go_wp2_with fail
  refine (HL2.out _).mono ?_
  rintro e u2 ⟨v2, rfl, o2, h2⟩
  have k2 := k1.call h2
  obtain ⟨A2, c2, e2, r2⟩ := o2.row (by rw [HR4.out]; omega) hrb.out
  rw [HR4.out] at e2 r2
  subst e2
  have O2 := Lib.hid (Own.below O1.out h2)
  have R2 := Lib.hid r2
  clear o2 r2 h2
  go_wp2_with (first
    | (at_builtin
       refine wpList_append_bts rfl (.tmp 17) (.tmp 19) rfl (v := .slice A1 4 c1) (base := w.heap.size) (ds := F1) rfl rfl O2.out R2.out.bts R2.out.nil (by rw [HF4.out]; omega) k2.2 ?_
       intro v3 w3 own3 gr3 at3
       have k3 := k2.append O2.out gr3
       have O3 := Lib.hid own3
       clear own3 gr3 at3)
    | (at_builtin
       refine wpList_append_bts rfl (.tmp 21) (.tmp 22) rfl (v := v3) (base := w.heap.size) (ds := F1 ++ F2) rfl rfl O3.out (HB.out.below k3.1) hnil (by rw [List.length_append, HF4.out, HR4.out]; omega) k3.2 ?_
       intro v4 w4 own4 gr4 at4
       have k4 := k3.append O3.out gr4
       have O4 := Lib.hid own4
       clear own4 gr4 at4)
    | fail)
  go_ret2
  exact ⟨_, rfl, by rw [HF.out]; exact O4.out, k4.1⟩
end Go.Proofs.Ytebpbholelhbgaa
