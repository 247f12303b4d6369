/- The program's frame: Scan. -/
import Derived.Test.YtmjgpgnecohbcaaFrmT
import Derived.Test.YtmjgpgnecohbcaaMgE
namespace Go.Proofs.Ytmjgpgnecohbcaa
open Go.RowKit CrcM CrcW

theorem tke_split {bs x r : List Nat} (hb : ∀ c ∈ bs, c < 256) (h : tke bs = (0, x, r)) (done : List (List Nat)) : flat done ++ bs = flat (done ++ [x]) ++ r ∧ x.length ≤ 4096 := by
  obtain ⟨e, hl⟩ := tke_back hb h
  refine ⟨?_, hl⟩
  rw [flat_append, show flat [x] = frm x by simp [flat], List.append_assoc, ← e]

theorem flat_len : ∀ xs : List (List Nat), xs.length ≤ (flat xs).length
  | [] => by simp
  | x :: xs => by
    rw [flat_cons, List.length_append, frm_len, List.length_cons]
    have := flat_len xs
    omega
/-- a slice that may be cut, whose block, if it has one, is none of those below lo -/
def Formed (lo : Nat) (v : Value) : Prop := ∃ A n c, v = .slice A n c ∧ n ≤ c ∧ c ≤ maxLen ∧ (A = none → c = 0) ∧ ∀ a, A = some a → lo ≤ a.block
set_option maxHeartbeats 4000000 in
theorem scan_own {w : World} {A : Option Addr} {n cap : Nat} {bs : List Nat} (h : Row w A n cap bs) (hsmall : n ≤ 1099511627776) :
    Calls Try.prog 62 #[.slice A n cap] w fun e w' => ∃ lv vs xs k, e = .returned (.tuple #[lv, .int .i64 (k : Nat)]) ∧ OwnS w' w.heap.size lv vs ∧ Tells w' w'.heap.size lv.ownBlock vs xs ∧ (∀ v ∈ vs, Formed w.heap.size v) ∧ Scanned bs xs k ∧ Below w.heap.size w w' := by
  have hb := Lib.hid h.bts
  have hl := h.len
  have hnil := h.nil
  have hcap := h.room
  have hmost := h.most
  have hby := Lib.hid h.bts.2.2.1
  clear h
  go_enter Try.func62, Try.ntmps62
  go_wp2
  go_loopw [4, 5] (fun l sz wr => ∃ (vs : List Value) (xs : List (List Nat)) (k : Nat), sz = .int .i64 k ∧ Kept w wr ∧ OwnS wr w.heap.size l vs ∧ Tells wr wr.heap.size l.ownBlock vs xs ∧ k = (flat xs).length ∧ bs = flat xs ++ bs.drop k ∧ k ≤ n ∧ (∀ x ∈ xs, x.length ≤ 4096) ∧ (∀ v ∈ vs, Formed w.heap.size v)) (fun _ sz _ => n - (intOf sz).toNat)
  case atStart => exact ⟨[], [], 0, rfl, Kept.refl w, OwnS.nil _ _, Tells.nil, rfl, by simp [flat], by omega, by simp, by simp⟩
  case round =>
    obtain ⟨vs, xs, k, rfl, k0, own, tl, hk, hbs, hkn, hxs, hfm⟩ := hrel
    have HFM := Lib.hid hfm
    clear hfm
    have hst := fun W => run_tailK .i64 A n cap k (k : Int) rfl hkn W
    have hR := hb.out.rest (k := k) (cap := cap) hkn hcap
    have hRn : (if cap = k then A else A.map fun x => x.add k) = none → cap - k = 0 := by
      intro h
      cases A with
      | none => have := hnil rfl; omega
      | some a =>
        split at h
        · cases h
        · cases h
    generalize (if cap = k then A else A.map fun x => x.add k) = AR at *
    have hf := first_any (hR.below k0.1) k0.2 hRn (show n - k ≤ cap - k by omega) (show cap - k ≤ maxLen by omega)
    have hlk : vs.length ≤ n := by
      have e1 := tl.1
      have e2 : xs.length ≤ (flat xs).length := flat_len xs
      omega
    obtain ⟨c, x, r, ht⟩ : ∃ c x r, tke (bs.drop k) = (c, x, r) := ⟨_, _, _, rfl⟩
    rw [ht] at hf
    have HF := Lib.hid hf
    have HR := Lib.hid hR
    have HO := Lib.hid own
    have HTL := Lib.hid tl
    have HK := Lib.hid hk
    have HBS := Lib.hid hbs
    have HTT := Lib.hid ht
    clear hf hR own tl hk hbs ht hRn
    go_wp2_with fail
    refine HF.out.mono ?_
    rintro e v1 ⟨A', n', c', rfl, hx, hn', hc', hm', h1⟩
    have k1 := k0.call h1
    have hxl := hx.1
    have HX : Hid (Row v1 A' n' c' x) := Lib.hid ⟨(hx.below (h1.mono k0.2)).more k1.2, hn', hc', hm'⟩
    have HO1 := Lib.hid (OwnS.below HO.out h1)
    have HT1 := Lib.hid (Tells.map HTL.out fun u z h => (h.below h1).more h1.size)
    have hs1 := h1.size
    clear hx h1
    by_cases h0 : c = 0
    · subst h0
      obtain ⟨hrr, hle⟩ := tke_rest (fun d hd => hby.out d (List.mem_of_mem_drop hd)) HTT.out
      have hkle : k + (8 + n') ≤ n := by
        rw [List.length_drop] at hle
        omega
      have HRR := Lib.hid hrr
      clear hrr hle
      go_wp2_with fail
      refine (clone_any HX.out).mono ?_
      rintro e v3 ⟨y, rfl, oy, h3⟩
      have k3 := k1.call h3
      have HO3 := Lib.hid (OwnS.below HO1.out h3)
      have HT3 := Lib.hid (Tells.map HT1.out fun u z h => (h.below h3).more h3.size)
      have hs3 := h3.size
      have hnb : ∀ g, y.ownBlock = some g → u4.ownBlock ≠ some g := fun g hg he => by
        have e1 := (World.ownsRow.lt oy g hg).1
        have e2 := (World.ownsRow.lt HO.out g he).2
        omega
      have HY : Hid (Tell v3 v3.heap.size u4.ownBlock y x) := Lib.hid (by
        obtain ⟨Ay, cy, e, hrow⟩ := oy.row (by omega) HX.out.bts.2.2.1
        refine ⟨Ay, _, cy, e, hrow.bts, fun h => ?_, fun a ha _ => ?_⟩
        · have := hrow.nil h
          have := hrow.room
          exact ⟨by omega, hrow.nil h⟩
        · refine hnb a.block ?_
          rw [e, ha]
          rfl)
      have HFY : Hid (Formed w.heap.size y) := Lib.hid (by
        obtain ⟨Ay, cy, e, hrow⟩ := oy.row (by omega) HX.out.bts.2.2.1
        refine ⟨Ay, _, cy, e, hrow.room, hrow.most, hrow.nil, fun a ha => ?_⟩
        have e1 := (World.ownsRow.lt oy a.block (by rw [e, ha]; rfl)).1
        have := k1.2
        omega)
      obtain ⟨Ay, ny, cy, rfl⟩ := oy.slice
      clear oy h3 hnb
      go_wp2_with (first
        | (at_builtin
           refine wpList_append_row rfl (.tmp 19) (.tmp 22) rfl (v := u4) (base := w.heap.size) (ds := vs) (y := .slice Ay ny cy) rfl rfl (World.ownsRow.alloc HO3.out _) (by rw [World.cell?_alloc_at _ _ _ _ rfl]; rfl) rfl (by omega) (k3.alloc _).2 ?_
           intro l4 v4 own4 gr4 at4
           have HO4 := Lib.hid own4
           have HT4 := Lib.hid (rows_grown (HT3.out.map fun u z h => (h.below ((Below.refl _ _).alloc (Nat.le_refl _) _)).more (by simp)) ((HY.out.below ((Below.refl _ _).alloc (Nat.le_refl _) _)).more (by simp)) gr4 at4)
           have k4 : Kept w v4 := ⟨(k3.alloc _).1.grown gr4 (k3.alloc _).2 (fun j h => (World.ownsRow.lt HO.out j h).1), Nat.le_trans (k3.alloc _).2 gr4.size⟩
           clear own4 gr4 at4)
        | fail)
      go_roundw
      case rel =>
        have hsp := tke_split (fun d hd => hby.out d (List.mem_of_mem_drop hd)) HTT.out xs
        have hlen : (flat (xs ++ [x])).length = k + (8 + n') := by
          rw [flat_append, List.length_append, ← HK.out, show flat [x] = frm x by simp [flat], frm_len, hxl]
        refine ⟨vs ++ [.slice Ay ny cy], xs ++ [x], k + (8 + n'), by go_num, k4, HO4.out, HT4.out, hlen.symm, ?_, by omega, ?_, ?_⟩
        · have e2 : bs.drop (k + (8 + n')) = r := by
            rw [← List.drop_drop, HRR.out, hxl]
          rw [e2, ← hsp.1, ← HBS.out]
        · intro z hz
          rcases List.mem_append.1 hz with h | h
          · exact hxs z h
          · simp at h; subst h; exact hsp.2
        · intro z hz
          rcases List.mem_append.1 hz with h | h
          · exact HFM.out z h
          · simp at h; subst h; exact HFY.out
      case measure => simp [intOf]; omega
    · have hz : c ≠ 0 := h0
      have HZ := Lib.hid hz
      clear hz
      go_wp2
      go_ret2
      refine ⟨u4, vs, xs, k, rfl, HO1.out, HT1.out, HFM.out, ⟨bs.drop k, HBS.out, HK.out, hxs, ?_⟩, k1.1⟩
      rw [HTT.out]
      exact HZ.out
theorem scan_any {w : World} {A : Option Addr} {n cap : Nat} {bs : List Nat} (h : Row w A n cap bs) (hsmall : n ≤ 1099511627776) :
    Calls Try.prog 62 #[.slice A n cap] w fun e w' => ∃ A' c' xs k, e = .returned (.tuple #[.slice A' xs.length c', .int .i64 (k : Nat)]) ∧ Rws w' A' xs.length xs ∧ xs.length ≤ c' ∧ Scanned bs xs k ∧ Below w.heap.size w w' := by
  refine (scan_own h hsmall).mono ?_
  rintro e w' ⟨lv, vs, xs, k, rfl, h1, h2, -, h3, h4⟩
  obtain ⟨Al, cl, rfl, hrw, hnl⟩ := OwnS.rws h1 h2
  exact ⟨Al, cl, xs, k, rfl, hrw, hnl, h3, h4⟩
end Go.Proofs.Ytmjgpgnecohbcaa
