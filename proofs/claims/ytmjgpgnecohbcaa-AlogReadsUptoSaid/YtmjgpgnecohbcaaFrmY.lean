/- The document's own frame (the reference): Scan; and whether two lists are the same. -/
import Derived.Test.YtmjgpgnecohbcaaFrmX
import Derived.Test.YtmjgpgnecohbcaaTell
namespace Go.Proofs.Ytmjgpgnecohbcaa
open Go.RowKit CrcM

/-- a slice that has room for what it holds, and not more than m -/
def Roomy (m : Nat) (v : Value) : Prop := ∃ A n c, v = .slice A n c ∧ n ≤ c ∧ c ≤ m
/-- a row of slices that read as these rows, each with its room -/
def RwsR (w : World) (m : Nat) (A : Option Addr) (xs : List (List Nat)) : Prop :=
  ∀ (i : Nat) x, xs[i]? = some x → ∃ b off A1 n1 c1, A = some ⟨b, off, none⟩ ∧ b < w.heap.size ∧ w.cell? ⟨b, off + i, none⟩ = some (.slice A1 n1 c1) ∧ Bts w w.heap.size A1 n1 x ∧ (A1 = none → c1 = 0) ∧ n1 ≤ c1 ∧ c1 ≤ m
theorem RwsR.of {w : World} {base m : Nat} {v : Value} {vs : List Value} {xs : List (List Nat)} {av : Option Nat} (h : OwnS w base v vs) (ht : Tells w w.heap.size av vs xs) (hr : ∀ u ∈ vs, Roomy m u) : ∀ A n c, v = .slice A n c → RwsR w m A xs := by
  intro A n c hv i x hx
  have h' := h
  obtain ⟨_, ⟨rfl, h0⟩ | ⟨g, cap, cur, rfl, _, _, hcap, _⟩⟩ := h
  · have hx' : xs = [] := List.eq_nil_of_length_eq_zero (by rw [← ht.1, h0])
    subst hx'
    simp at hx
  · have hlt := (World.ownsRow.lt h' g rfl).2
    have hi : i < vs.length := by
      rw [ht.1]
      rcases Nat.lt_or_ge i xs.length with h | h
      · exact h
      · rw [List.getElem?_eq_none h] at hx; cases hx
    obtain ⟨A1, n1, c1, e, h1, h2, -⟩ := ht.2 i _ x (List.getElem?_eq_getElem hi) hx
    obtain ⟨A3, n3, c3, e3, h4, h5⟩ := hr _ (List.getElem_mem hi)
    rw [e] at e3
    injection e3 with q1 q2 q3
    subst q1 q2 q3
    rw [Value.slice.injEq] at hv
    obtain ⟨rfl, -, -⟩ := hv
    refine ⟨g, 0, A1, n1, c1, rfl, hlt, ?_, h1, fun h => (h2 h).2, h4, h5⟩
    rw [Nat.zero_add, World.ownsRow.cellAt h' i (by omega), List.getElem?_eq_getElem hi, e]
theorem RwsR.kept {w W : World} {m : Nat} {A : Option Addr} {xs : List (List Nat)} (h : RwsR w m A xs) (k : Kept w W) : RwsR W m A xs := by
  intro i x hx
  obtain ⟨b, off, A1, n1, c1, e, hb, hc, h1, h2⟩ := h i x hx
  exact ⟨b, off, A1, n1, c1, e, Nat.lt_of_lt_of_le hb k.2, (k.cell hb).trans hc, (h1.below k.1).more k.2, h2⟩

set_option maxHeartbeats 4000000 in
theorem rscan_room {w : World} {A : Option Addr} {n cap : Nat} {bs : List Nat} (hb0 : Bts w w.heap.size A n bs) (hnil : A = none → cap = 0) (hcap : n ≤ cap) (hsmall : n ≤ 1099511627776) :
    Calls Try.prog 43 #[.slice A n cap] w fun e w' => ∃ A' c' xs k, e = .returned (.tuple #[.slice A' xs.length c', .int .i64 (k : Nat)]) ∧ Rws w' A' xs.length xs ∧ xs.length ≤ c' ∧ Scanned bs xs k ∧ Below w.heap.size w w' ∧ RwsR w' cap A' xs := by
  have hb := Lib.hid hb0
  have hl := hb0.1
  have hby := Lib.hid hb0.2.2.1
  clear hb0
  go_enter Try.func43, Try.ntmps43
  go_wp2
  go_loopw [4, 5] (fun l sz wr => ∃ (vs : List Value) (xs : List (List Nat)) (k : Nat), sz = .int .i64 k ∧ Kept w wr ∧ OwnS wr w.heap.size l vs ∧ Tells wr wr.heap.size l.ownBlock vs xs ∧ k = (flat xs).length ∧ bs = flat xs ++ bs.drop k ∧ k ≤ n ∧ (∀ x ∈ xs, x.length ≤ 4096) ∧ ∀ v ∈ vs, Roomy cap v) (fun _ sz _ => n - (intOf sz).toNat)
  case atStart => exact ⟨[], [], 0, rfl, Kept.refl w, OwnS.nil _ _, Tells.nil, rfl, by simp [flat], by omega, by simp, by simp⟩
  case round =>
    obtain ⟨vs, xs, k, rfl, k0, own, tl, hk, hbs, hkn, hxs, hrm⟩ := hrel
    have HRM := Lib.hid hrm
    clear hrm
    have hst := fun W => run_tailK .i64 A n cap k (k : Int) rfl hkn W
    have hR := hb.out.rest (k := k) (cap := cap) hkn hcap
    have hRn := tail_nil (k := k) hnil hkn hcap
    generalize (if cap = k then A else A.map fun x => x.add k) = AR at *
    have hf := rtake_room (hR.below k0.1) (fun h => (hRn h).2) (show n - k ≤ cap - k by omega)
    have hlk : vs.length ≤ n := by
      have e1 := tl.1
      have e2 : xs.length ≤ (flat xs).length := flat_len xs
      omega
    obtain ⟨c, x, r, ht⟩ : ∃ c x r, tke (bs.drop k) = (c, x, r) := ⟨_, _, _, rfl⟩
    rw [ht] at hf
    have HF := Lib.hid hf
    have HR := Lib.hid hR
    have HO := Lib.hid own
    have HTL := Lib.hid tl
    have HK := Lib.hid hk
    have HBS := Lib.hid hbs
    have HTT := Lib.hid ht
    clear hf hR own tl hk hbs ht hRn
    go_wp2_with fail
    refine HF.out.mono ?_
    rintro e v1 ⟨A', n', c', A2, n2, c2, rfl, hx, hn', hr2, -, h1, hrm1, hrm2⟩
    have HRY : Hid (Roomy cap (.slice A' n' c')) := Lib.hid ⟨A', n', c', rfl, hrm1, by omega⟩
    clear hrm1 hrm2
    have k1 := k0.call h1
    have hxl := hx.1
    have hrl := hr2.1
    have HX := Lib.hid (hx.below (h1.mono k0.2))
    have HO1 := Lib.hid (OwnS.below HO.out h1)
    have HT1 := Lib.hid (Tells.map HTL.out fun u z h => (h.below h1).more h1.size)
    clear hx h1 hr2
    by_cases h0 : c = 0
    · subst h0
      obtain ⟨hrr, hle⟩ := tke_rest (fun d hd => hby.out d (List.mem_of_mem_drop hd)) HTT.out
      have hkle : k + (8 + n') ≤ n := by
        rw [List.length_drop] at hle
        omega
      have hn2 : n2 = n - (k + (8 + n')) := by
        have := congrArg List.length hrr
        rw [List.length_drop, List.length_drop] at this
        omega
      have hn2' : (n : Int) - (n2 : Int) = ((k + (8 + n') : Nat) : Int) := by omega
      have HRR := Lib.hid hrr
      clear hrr hle hrl hn2
      have HY : Hid (Tell v1 v1.heap.size u4.ownBlock (.slice A' n' c') x) := Lib.hid (by
        refine ⟨A', n', c', rfl, HX.out.more k1.2, hn', fun a ha hn he => ?_⟩
        have e2 := (World.ownsRow.lt HO1.out a.block he).1
        obtain ⟨b, off, hA', hb', _⟩ := HX.out.2.2.2 hn
        rw [ha] at hA'
        injection hA' with hA'
        subst hA'
        simp only at e2
        omega)
      go_wp2_with (first
        | (at_builtin
           refine wpList_append_row rfl (.tmp 21) (.tmp 23) rfl (v := u4) (base := w.heap.size) (ds := vs) (y := .slice A' n' c') rfl rfl (World.ownsRow.alloc HO1.out _) (by rw [World.cell?_alloc_at _ _ _ _ rfl]; rfl) rfl (by omega) (k1.alloc _).2 ?_
           intro l4 v4 own4 gr4 at4
           have HO4 := Lib.hid own4
           have HT4 := Lib.hid (rows_grown (HT1.out.map fun u z h => (h.below ((Below.refl _ _).alloc (Nat.le_refl _) _)).more (by simp)) ((HY.out.below ((Below.refl _ _).alloc (Nat.le_refl _) _)).more (by simp)) gr4 at4)
           have k4 : Kept w v4 := ⟨(k1.alloc _).1.grown gr4 (k1.alloc _).2 (fun j h => (World.ownsRow.lt HO.out j h).1), Nat.le_trans (k1.alloc _).2 gr4.size⟩
           clear own4 gr4 at4)
        | fail)
      go_roundw
      case rel =>
        have hsp := tke_split (fun d hd => hby.out d (List.mem_of_mem_drop hd)) HTT.out xs
        have hlen : (flat (xs ++ [x])).length = k + (8 + n') := by
          rw [flat_append, List.length_append, ← HK.out, show flat [x] = frm x by simp [flat], frm_len, hxl]
        refine ⟨vs ++ [.slice A' n' c'], xs ++ [x], k + (8 + n'), by go_num, k4, HO4.out, HT4.out, hlen.symm, ?_, by omega, ?_, ?_⟩
        · have e2 : bs.drop (k + (8 + n')) = r := by
            rw [← List.drop_drop, HRR.out, hxl]
          rw [e2, ← hsp.1, ← HBS.out]
        · intro z hz
          rcases List.mem_append.1 hz with h | h
          · exact hxs z h
          · simp at h; subst h; exact hsp.2
        · intro z hz
          rcases List.mem_append.1 hz with h | h
          · exact HRM.out z h
          · obtain rfl := List.mem_singleton.1 h
            exact HRY.out
      case measure => simp [intOf]; omega
    · have hz : c ≠ 0 := h0
      have HZ := Lib.hid hz
      clear hz
      go_wp2
      go_ret2
      have hrr := RwsR.of HO1.out HT1.out HRM.out
      obtain ⟨Al, cl, rfl, hrw, hnl⟩ := OwnS.rws HO1.out HT1.out
      refine ⟨Al, cl, xs, k, rfl, hrw, hnl, ⟨bs.drop k, HBS.out, HK.out, hxs, ?_⟩, k1.1, hrr _ _ _ rfl⟩
      rw [HTT.out]
      exact HZ.out
theorem rscan_any {w : World} {A : Option Addr} {n cap : Nat} {bs : List Nat} (hb0 : Bts w w.heap.size A n bs) (hnil : A = none → cap = 0) (hcap : n ≤ cap) (hsmall : n ≤ 1099511627776) :
    Calls Try.prog 43 #[.slice A n cap] w fun e w' => ∃ A' c' xs k, e = .returned (.tuple #[.slice A' xs.length c', .int .i64 (k : Nat)]) ∧ Rws w' A' xs.length xs ∧ xs.length ≤ c' ∧ Scanned bs xs k ∧ Below w.heap.size w w' := by
  refine (rscan_room hb0 hnil hcap hsmall).mono ?_
  rintro e w' ⟨A', c', xs, k, h0, h1, h2, h3, h4, -⟩
  exact ⟨A', c', xs, k, h0, h1, h2, h3, h4⟩


end Go.Proofs.Ytmjgpgnecohbcaa
