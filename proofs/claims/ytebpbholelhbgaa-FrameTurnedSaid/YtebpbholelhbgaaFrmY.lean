/- The document's own frame (the reference): Scan; and whether two lists are the same. -/
import Derived.Test.YtebpbholelhbgaaFrmX
import Derived.Test.YtebpbholelhbgaaTell
namespace Go.Proofs.Ytebpbholelhbgaa
open Go.RowKit CrcM

set_option maxHeartbeats 4000000 in
theorem rscan_any {w : World} {A : Option Addr} {n cap : Nat} {bs : List Nat} (hb0 : Bts w w.heap.size A n bs) (hnil : A = none → cap = 0) (hcap : n ≤ cap) (hsmall : n ≤ 1099511627776) :
    Calls Try.prog 15 #[.slice A n cap] w fun e w' => ∃ A' c' xs k, e = .returned (.tuple #[.slice A' xs.length c', .int .i64 (k : Nat)]) ∧ Rws w' A' xs.length xs ∧ xs.length ≤ c' ∧ Scanned bs xs k ∧ Below w.heap.size w w' := by
  have hb := Lib.hid hb0
  have hl := hb0.1
  have hby := Lib.hid hb0.2.2.1
  clear hb0
  go_enter Try.func15, Try.ntmps15
  go_wp2
  go_loopw [4, 5] (fun l sz wr => ∃ (vs : List Value) (xs : List (List Nat)) (k : Nat), sz = .int .i64 k ∧ Kept w wr ∧ OwnS wr w.heap.size l vs ∧ Tells wr wr.heap.size l.ownBlock vs xs ∧ k = (flat xs).length ∧ bs = flat xs ++ bs.drop k ∧ k ≤ n ∧ (∀ x ∈ xs, x.length ≤ 4096)) (fun _ sz _ => n - (intOf sz).toNat)
  case atStart => exact ⟨[], [], 0, rfl, Kept.refl w, OwnS.nil _ _, Tells.nil, rfl, by simp [flat], by omega, by simp⟩
  case round =>
    obtain ⟨vs, xs, k, rfl, k0, own, tl, hk, hbs, hkn, hxs⟩ := hrel
    have hst := fun W => run_tailK .i64 A n cap k (k : Int) rfl hkn W
    have hR := hb.out.rest (k := k) (cap := cap) hkn hcap
    have hRn := rest_nil (k := k) hnil hkn hcap
    generalize (if cap = k then A else A.map fun x => x.add k) = AR at *
    have hf := rtake_any (hR.below k0.1) (fun h => (hRn h).2) (show n - k ≤ cap - k by omega)
    have hlk : vs.length ≤ n := by
      have e1 := tl.1
      have e2 : xs.length ≤ (flat xs).length := flat_len xs
      omega
    obtain ⟨c, x, r, ht⟩ : ∃ c x r, tke (bs.drop k) = (c, x, r) := ⟨_, _, _, rfl⟩
    rw [ht] at hf
    have HF := Lib.hid hf
    have HR := Lib.hid hR
    have HO := Lib.hid own
    have HTL := Lib.hid tl
    have HK := Lib.hid hk
    have HBS := Lib.hid hbs
    have HTT := Lib.hid ht
    clear hf hR own tl hk hbs ht hRn
    go_wp2_with fail
    refine HF.out.mono ?_
    rintro e v1 ⟨A', n', c', A2, n2, c2, rfl, hx, hn', hr2, -, h1⟩
    have k1 := k0.call h1
    have hxl := hx.1
    have hrl := hr2.1
    have HX := Lib.hid (hx.below (h1.mono k0.2))
    have HO1 := Lib.hid (OwnS.below HO.out h1)
    have HT1 := Lib.hid (Tells.map HTL.out fun u z h => (h.below h1).more h1.size)
    clear hx h1 hr2
    by_cases h0 : c = 0
    · subst h0
      obtain ⟨hrr, hle⟩ := tke_rest (fun d hd => hby.out d (List.mem_of_mem_drop hd)) HTT.out
      have hkle : k + (8 + n') ≤ n := by
        rw [List.length_drop] at hle
        omega
      have hn2 : n2 = n - (k + (8 + n')) := by
        have := congrArg List.length hrr
        rw [List.length_drop, List.length_drop] at this
        omega
      have hn2' : (n : Int) - (n2 : Int) = ((k + (8 + n') : Nat) : Int) := by omega
      have HRR := Lib.hid hrr
      clear hrr hle hrl hn2
      have HY : Hid (Tell v1 v1.heap.size u4.ownBlock (.slice A' n' c') x) := Lib.hid (by
        refine ⟨A', n', c', rfl, HX.out.more k1.2, hn', fun a ha hn he => ?_⟩
        have e2 := (World.ownsRow.lt HO1.out a.block he).1
        obtain ⟨b, off, hA', hb', _⟩ := HX.out.2.2.2 hn
        rw [ha] at hA'
        injection hA' with hA'
        subst hA'
        simp only at e2
        omega)
      go_wp2_with (first
        | (at_builtin
           refine wpList_append_row rfl (.tmp 21) (.tmp 23) rfl (v := u4) (base := w.heap.size) (ds := vs) (y := .slice A' n' c') rfl rfl (World.ownsRow.alloc HO1.out _) (by rw [World.cell?_alloc_at _ _ _ _ rfl]; rfl) rfl (by omega) (k1.alloc _).2 ?_
           intro l4 v4 own4 gr4 at4
           have HO4 := Lib.hid own4
           have HT4 := Lib.hid (rows_grown (HT1.out.map fun u z h => (h.below ((Below.refl _ _).alloc (Nat.le_refl _) _)).more (by simp)) ((HY.out.below ((Below.refl _ _).alloc (Nat.le_refl _) _)).more (by simp)) gr4 at4)
           have k4 : Kept w v4 := ⟨(k1.alloc _).1.grown gr4 (k1.alloc _).2 (fun j h => (World.ownsRow.lt HO.out j h).1), Nat.le_trans (k1.alloc _).2 gr4.size⟩
           clear own4 gr4 at4)
        | fail)
      go_roundw
      case rel =>
        have hsp := tke_split (fun d hd => hby.out d (List.mem_of_mem_drop hd)) HTT.out xs
        have hlen : (flat (xs ++ [x])).length = k + (8 + n') := by
          rw [flat_append, List.length_append, ← HK.out, show flat [x] = frm x by simp [flat], frm_len, hxl]
        refine ⟨vs ++ [.slice A' n' c'], xs ++ [x], k + (8 + n'), by go_num, k4, HO4.out, HT4.out, hlen.symm, ?_, by omega, ?_⟩
        · have e2 : bs.drop (k + (8 + n')) = r := by
            rw [← List.drop_drop, HRR.out, hxl]
          rw [e2, ← hsp.1, ← HBS.out]
        · intro z hz
          rcases List.mem_append.1 hz with h | h
          · exact hxs z h
          · simp at h; subst h; exact hsp.2
      case measure => simp [intOf]; omega
    · have hz : c ≠ 0 := h0
      have HZ := Lib.hid hz
      clear hz
      go_wp2
      go_ret2
      obtain ⟨Al, cl, rfl, hrw, hnl⟩ := OwnS.rws HO1.out HT1.out
      refine ⟨Al, cl, xs, k, rfl, hrw, hnl, ⟨bs.drop k, HBS.out, HK.out, hxs, ?_⟩, k1.1⟩
      rw [HTT.out]
      exact HZ.out

set_option maxHeartbeats 2000000 in
/-- two lists that are the same -/
theorem same_any {w : World} {A B : Option Addr} {n ca cb : Nat} {xs : List (List Nat)} (ha : Rws w A n xs) (hb : Rws w B n xs) (hn : n ≤ 1099511627776) :
    Calls Try.prog 16 #[.slice A n ca, .slice B n cb] w fun e w' => e = .returned (.bool true) ∧ Below w.heap.size w w' := by
  have HA := Lib.hid ha
  have HB := Lib.hid hb
  have hl := Lib.hid ha.1
  clear ha hb
  go_enter Try.func16, Try.ntmps16
  go_wp2
  go_loopw [5] (fun i wr => ∃ (k : Nat), i = .int .i64 k ∧ k ≤ n ∧ Below w.heap.size w wr) (fun i _ => n - (intOf i).toNat)
  case atStart => exact ⟨0, rfl, by omega, Below.refl _ _⟩
  case round =>
    obtain ⟨k, rfl, hk, hbel⟩ := hrel
    by_cases hlt : k < n
    · have hkl : k < xs.length := by rw [hl.out]; exact hlt
      have hx : xs[k]? = some xs[k] := List.getElem?_eq_getElem hkl
      obtain ⟨b1, off1, v1, rfl, hb1, hc1, Aa, na, ca', rfl, ha1, ha2, -⟩ := HA.out.2 k _ hx
      obtain ⟨b2, off2, v2, rfl, hb2, hc2, Ab, nb, cb', rfl, hbb1, hbb2, -⟩ := HB.out.2 k _ hx
      have z1 := (hbel.cell (p := ⟨b1, off1 + k, none⟩) hb1).trans hc1
      have z2 := (hbel.cell (p := ⟨b2, off2 + k, none⟩) hb2).trans hc2
      have t1 : (convert 22 9 (.slice Aa na ca')).run Try.prog wr.drew = .ok (.string (txt xs[k])) wr.drew := run_text (c := ca') ((ha1.below hbel).below ((Below.refl _ _).drew)) (fun h => (ha2 h).1)
      have t2 : (convert 22 9 (.slice Ab nb cb')).run Try.prog wr.drew = .ok (.string (txt xs[k])) wr.drew := run_text (c := cb') ((hbb1.below hbel).below ((Below.refl _ _).drew)) (fun h => (hbb2 h).1)
      generalize txt xs[k] = X at *
      clear hx hkl ha1 ha2 hbb1 hbb2 hc1 hc2
      go_wp2
      go_region
      go_wp2
      go_roundw
      case rel => exact ⟨k + 1, by go_num, by omega, hbel.drew⟩
      case measure => simp [intOf]; omega
    · go_wp2
      go_ret
      exact ⟨rfl, hbel⟩
end Go.Proofs.Ytebpbholelhbgaa
