/- The known frames that every statement of layer 3 asks first. -/
import Derived.Test.YtebpbholelhbgaaFrmW
import Derived.Test.YtebpbholelhbgaaStep
import Derived.Test.YtebpbholelhbgaaTell
import Derived.Lib.SlBytesConst
namespace Go.Proofs.Ytebpbholelhbgaa
open Go.RowKit CrcM

def known : List (List Nat) := [[97], []]
theorem known_scan : Scanned (frm [97] ++ frm [] ++ (frm [97]).take 8) [[97], []] 17 := by
  refine ⟨(frm [97]).take 8, by simp [flat], by simp [flat, frm_len], by simp, ?_⟩
  exact tke_torn (b := [97]) (by simp) 8 (by simp)

set_option maxHeartbeats 4000000 in
theorem awake_any (w : World) : Calls Try.prog 9 #[] w fun e w' => e = .returned (.bool true) ∧ Below w.heap.size w w' := by
  have kc := fun (w : World) (C : Array Value) (n c : Nat) => Lib.run_convert_bytes_const (P := Try.prog) w 22 5 C n c Try.underlying22 Try.underlying5
  have HF1 := Lib.hid (frm_len [97])
  have HF2 := Lib.hid (frm_len [])
  have HFB1 := Lib.hid (frm_byte (b := [97]) (by decide))
  have HFB2 := Lib.hid (frm_byte (b := []) (by decide))
  have HKS := Lib.hid known_scan
  generalize hf1 : frm [97] = F1 at *
  generalize hf2 : frm [] = F2 at *
  have HE1 := Lib.hid hf1
  have HE2 := Lib.hid hf2
  clear hf1 hf2
  go_enter Try.func9, Try.ntmps9
  go_wp2_with fail
  refine (put_any (n := 1) (bs := [97]) (bts_new w _ _ [97] (by decide) (by decide)) (by simp) (by omega)).mono ?_
  rintro e u1 ⟨v1, rfl, o1, h1⟩
  rw [HE1.out] at o1
  have k1 : Kept w u1 := ((Kept.refl w).alloc _).call h1
  obtain ⟨A1, c1, e1, r1⟩ := o1.row (by rw [HF1.out]; decide) HFB1.out
  rw [HF1.out] at e1 r1
  subst e1
  have R1 := Lib.hid r1
  clear h1 o1 r1
  go_wp2_with fail
  refine (put_any (n := 0) (bs := []) Bts.nil (by simp) (by omega)).mono ?_
  rintro e u2 ⟨v2, rfl, o2, h2⟩
  rw [HE2.out] at o2
  have k2 : Kept w u2 := k1.call h2
  obtain ⟨A2, c2, e2, r2⟩ := o2.row (by rw [HF2.out]; decide) HFB2.out
  rw [HF2.out] at e2 r2
  subst e2
  have R2 := Lib.hid r2
  have R1' := Lib.hid (R1.out.below h2)
  have hc1 := R1.out.room
  clear h2 o2 r2
  have hsl := fun W => run_headK .i64 A1 9 c1 8 (by omega) W
  have e8 : (((8 : Nat)) : Int) = 8 := rfl
  rw [e8] at hsl
  clear e8
  have q0 := ((Kept.refl u2).alloc (.cells #[] 5)).drew
  have own0 : Own (u2.alloc (.cells #[] 5)).drew u2.heap.size (.slice (some ⟨u2.heap.size, 0, none⟩) 0 0) [] := Own.lit [] (Nat.le_refl _) (by simp)
  go_wp2_with fail
  go_region_law (first
    | (refine step_append_bts rfl (.tmp 21) (.tmp 22) rfl (v := .slice (some ⟨u2.heap.size, 0, none⟩) 0 0) (base := u2.heap.size) (ds := []) (bs := F1) (n := 9) rfl rfl own0 (R1'.out.bts.below q0.1) R1'.out.nil (by simp) q0.2 ?_
       intro v3 w3 own3 gr3 at3
       have q3 := q0.append own0 gr3
       have O3 := Lib.hid own3
       clear own3 gr3 at3)
    | (refine step_append_bts rfl (.tmp 23) (.tmp 24) rfl (v := v3) (base := u2.heap.size) (ds := [] ++ F1) (bs := F2) (n := 8) rfl rfl O3.out (R2.out.bts.below q3.1) R2.out.nil (by rw [List.nil_append, HF1.out]; decide) q3.2 ?_
       intro v4 w4 own4 gr4 at4
       have q4 := q3.append O3.out gr4
       have O4 := Lib.hid own4
       clear own4 gr4 at4)
    | (refine step_append_bts rfl (.tmp 25) (.tmp 27) rfl (v := v4) (base := u2.heap.size) (ds := [] ++ F1 ++ F2) (bs := F1.take 8) (n := 8) rfl rfl O4.out ((R1'.out.bts.below q4.1).head (by omega)) R1'.out.nil (by rw [List.nil_append, List.length_append, HF1.out, HF2.out]; decide) q4.2 ?_
       intro v5 w5 own5 gr5 at5
       have q5 := q4.append O4.out gr5
       have O5 := Lib.hid own5
       clear own5 gr5 at5))
  have hlen5 : (F1 ++ F2 ++ F1.take 8).length = 25 := by
    rw [List.length_append, List.length_append, List.length_take, HF1.out, HF2.out]
    decide
  obtain ⟨A5, c5, e5, r5⟩ := O5.out.row (by rw [List.nil_append, hlen5]; decide) (fun c hc => by
    rw [List.nil_append] at hc
    rcases List.mem_append.1 hc with h | h
    · rcases List.mem_append.1 h with h | h
      · exact HFB1.out c h
      · exact HFB2.out c h
    · exact HFB1.out c (List.mem_of_mem_take h))
  rw [List.nil_append, hlen5] at e5 r5
  subst e5
  clear hlen5
  have k5 := k2.trans q5
  have hby := r5.bts.2.2.1
  go_wp2_with fail
  refine (scan_any r5 (by decide)).mono ?_
  rintro e w6 ⟨A6, c6, xs, k, rfl, hrw, -, hsc, h6⟩
  obtain ⟨rfl, rfl⟩ := scanned_one hby hsc HKS.out
  have k6 := k5.call h6
  obtain ⟨b, off, v, rfl, hb, hcell, Aa, na, ca, rfl, hba, hna, -⟩ := hrw.2 0 [97] rfl
  rw [Nat.add_zero] at hcell
  have htx := fun W (h : Below w6.heap.size w6 W) => run_text (c := ca) (hba.below h) (fun h => (hna h).1)
  have ht1 := htx w6 (Below.refl _ _)
  have et : txt [97] = ⟨#[97]⟩ := rfl
  rw [et] at ht1
  clear htx et hsc h6 hby
  go_wp2
  go_ret
  exact ⟨rfl, k6.1⟩
end Go.Proofs.Ytebpbholelhbgaa
