/- FrameTurned -/
import Derived.Test.YtebpbholelhbgaaFrmG
import Derived.Test.YtebpbholelhbgaaFrmY
import Derived.Test.YtebpbholelhbgaaCrcX
import Derived.Test.YtebpbholelhbgaaQuiet
import Derived.WalkSmall
namespace Go.Proofs.Ytebpbholelhbgaa
open Go.RowKit

theorem set_mid {P F C : List Nat} {j y : Nat} (hj : j < F.length) : (P ++ (F ++ C)).set (P.length + j) y = P ++ (F.set j y ++ C) := by
  rw [List.set_append_right _ _ (by omega), Nat.add_sub_cancel_left, List.set_append_left _ _ hj]
theorem getD_mid {P F C : List Nat} {j : Nat} (hj : j < F.length) : (P ++ (F ++ C)).getD (P.length + j) 0 = F.getD j 0 := by
  rw [List.getD_eq_getElem?_getD, List.getElem?_append_right (by omega), Nat.add_sub_cancel_left, List.getElem?_append_left hj, List.getD_eq_getElem?_getD]
theorem cell_other {W : World} {g j ge k : Nat} (h : ge ≠ g) (v : Value) : (W.setCell ⟨g, j, none⟩ v).cell? ⟨ge, k, none⟩ = W.cell? ⟨ge, k, none⟩ := by
  simp [World.setCell, World.cell?, Array.getElem?_modify, Ne.symm h]
theorem same_kept {w W : World} {A B : Option Addr} {n ca cb : Nat} {xs : List (List Nat)} (ha : Rws w A n xs) (hb : Rws w B n xs) (hn : n ≤ 1099511627776) (hk : Kept w W) :
    Calls Try.prog 16 #[.slice A n ca, .slice B n cb] W fun e W' => e = .returned (.bool true) ∧ Kept w W' :=
  (same_any (Rws.below ha hk.1) (Rws.below hb hk.1) hn).mono fun _ _ ⟨h1, h2⟩ => ⟨h1, hk.call h2⟩
theorem bytes_toList {a b : ByteArray} (h : a.toList = b.toList) : a = b := by
  rw [ByteArray.toList_eq, ByteArray.toList_eq] at h
  obtain ⟨⟨x⟩⟩ := a
  obtain ⟨⟨y⟩⟩ := b
  simpa using h
theorem num_ne {F F0 : List Nat} {M f : Nat} (h : CrcM.num F = CrcM.num F0 ^^^ (M <<< f)) (hM : M ≠ 0) : F ≠ F0 := by
  intro e
  rw [e] at h
  have h1 : CrcM.num F0 ^^^ CrcM.num F0 = CrcM.num F0 ^^^ (CrcM.num F0 ^^^ (M <<< f)) := congrArg (CrcM.num F0 ^^^ ·) h
  rw [Nat.xor_self, ← Nat.xor_assoc, Nat.xor_self, Nat.zero_xor, Nat.shiftLeft_eq] at h1
  have : 0 < M * 2 ^ f := Nat.mul_pos (by omega) (Nat.pow_pos (by omega))
  omega
theorem txt_inj {a b : List Nat} (ha : ∀ c ∈ a, c < 256) (hb : ∀ c ∈ b, c < 256) (h : txt a = txt b) : a = b := by
  have key : ∀ l : List Nat, (∀ c ∈ l, c < 256) → (l.map fun c => UInt8.ofNat c).map UInt8.toNat = l := by
    intro l hl
    rw [List.map_map]
    conv => rhs; rw [← List.map_id l]
    refine List.map_congr_left fun c hc => ?_
    show (UInt8.ofNat c).toNat = c
    rw [UInt8.toNat_ofNat']
    exact Nat.mod_eq_of_lt (by have := hl c hc; omega)
  have h1 : (a.map fun c => UInt8.ofNat c).toArray = (b.map fun c => UInt8.ofNat c).toArray := congrArg ByteArray.data h
  have h2 := congrArg Array.toList h1
  simp only at h2
  rw [← key a ha, ← key b hb, h2]

theorem at_split {L : List (List Nat)} {k : Nat} {x0 : List Nat} (h : L[k]? = some x0) : flat L = flat (L.take k) ++ (frm x0 ++ flat (L.drop (k + 1))) ∧ (flat (L.take (k + 1))).length = (flat (L.take k)).length + (frm x0).length ∧ x0 ∈ L := by
  obtain ⟨hk, rfl⟩ := List.getElem?_eq_some_iff.1 h
  refine ⟨?_, ?_, List.getElem_mem hk⟩
  · rw [← flat_cons, ← List.drop_eq_getElem_cons hk, ← flat_append, List.take_append_drop]
  · rw [List.take_succ_eq_append_getElem hk, flat_append, List.length_append, show flat [L[k]] = frm L[k] by simp [flat]]
theorem at_turned {L ys : List (List Nat)} {F x0 : List Nat} {n k : Nat} (h : L[k]? = some x0) (hl : ∀ x ∈ L, x.length ≤ 4096) (hb : ∀ c ∈ flat (L.take k) ++ (F ++ flat (L.drop (k + 1))), c < 256) (hF : F.length = (frm x0).length) (hne : F ≠ frm x0)
    (hm : Scanned (flat (L.take k) ++ (F ++ flat (L.drop (k + 1)))) ys n) : k ≤ ys.length ∧ ys.take k = L.take k ∧ ∀ y, ys[k]? = some y → y ≠ x0 := by
  obtain ⟨hk, rfl⟩ := List.getElem?_eq_some_iff.1 h
  obtain ⟨h1, h2, h3⟩ := scanned_turned hk hl hb hF hne hm
  refine ⟨h1, h2, fun y hy => ?_⟩
  obtain ⟨hy', rfl⟩ := List.getElem?_eq_some_iff.1 hy
  exact h3 hy'

set_option maxRecDepth 100000 in
set_option maxHeartbeats 8000000 in
theorem FrameTurned_walk (a0 : Option Addr) (len0 cap0 : Nat) (a1 : Int) (a2 : Int) (w : World) (w0 : SliceAt 1 24 (IsSlice 1 1 (IsInt .u8)) w a0 len0 cap0) (w1 : (Lit.int .u16 a1).wf = true) (w2 : (Lit.int .u32 a2).wf = true) :
    Calls Try.prog 6 #[.slice a0 len0 cap0, .int .u16 a1, .int .u32 a2] w fun e w' => e = .returned (.bool true) ∧ Below w.heap.size w w' := by
  obtain ⟨xs, hx⟩ := rows_of w0
  have hcap := w0.1
  have hb1 := bounds_u16 w1
  obtain ⟨mk, hmk, rfl⟩ : ∃ s : Nat, s < 4294967296 ∧ a2 = (s : Int) := by
    have := bounds_u32 w2
    exact ⟨a2.toNat, by omega, by omega⟩
  have hlen : len0 ≤ 140737488355328 := by have := w0.2.2.1; omega
  have HX := Lib.hid hx
  have HXL := Lib.hid hx.1
  clear w0 w1 w2 hx
  go_enter Try.func6, Try.ntmps6
  go_wp2_with fail
  refine (awake_any _).mono ?_
  rintro e v1 ⟨rfl, h1⟩
  have k1 : Kept w v1 := (Kept.refl w).call h1
  have HX1 := Lib.hid (Rws.below HX.out h1)
  clear h1
  go_wp2_with fail
  refine (row_any HX1.out (by omega)).mono ?_
  rintro e v2 ⟨h2, rfl | ⟨m, y1, y2, rfl, hmn, hm30, hx4, hxb, o1, o2, hap⟩⟩
  · go_wp2
    go_ret
    exact ⟨rfl, (k1.call h2).1⟩
  have k2 := k1.call h2
  have HX2 := Lib.hid (Rws.below HX1.out h2)
  have hLl : (xs.take m).length = m := by rw [List.length_take, HXL.out]; omega
  have hfl := flat_le hx4
  rw [hLl] at hfl
  have hby := flat_byte hxb
  have hends : ∀ i, i < m → (endsOf (xs.take m)).getD i 0 = (flat ((xs.take m).take (i + 1))).length := fun i hi => endsOf_at (by omega)
  have hel : (endsOf (xs.take m)).length = m := by rw [endsOf_len, hLl]
  have hq : ∀ q, q ≤ m → (xs.take m).take q = xs.take q := fun q hq => by rw [List.take_take, Nat.min_eq_left hq]
  generalize hLE : xs.take m = L at *
  have HLE := Lib.hid hLE
  have HLl := Lib.hid hLl
  have HX4 := Lib.hid hx4
  have HXB := Lib.hid hxb
  have HBY := Lib.hid hby
  have HENDS := Lib.hid hends
  have HQ := Lib.hid hq
  obtain ⟨Ab, cb, rfl, rb⟩ := o1.row (by omega) hby
  obtain ⟨Ae, ce, rfl, hec, hem, hen, hecell⟩ := o2.slice
  have O1 := Lib.hid o1
  have HAP := Lib.hid hap
  have hrb := rb.room
  rw [hel] at hec hecell
  have HEC := Lib.hid hecell
  have HEL := Lib.hid hel
  rw [hel]
  have hFL : (flat L).length ≤ 123120 := by omega
  have kv : Kept v1 v2 := ⟨h2, h2.size⟩
  clear h2 hLE hLl hx4 hxb hby hends hq o1 o2 rb hecell hel hem hen hfl hap
  by_cases hm0 : m = 0
  · subst hm0
    go_wp2
    go_ret
    exact ⟨rfl, k2.1⟩
  have hz1 : ((m : Int) == 0) = false := by simp; omega
  by_cases hmk0 : mk = 0
  · subst hmk0
    go_wp2
    go_ret
    exact ⟨rfl, k2.1⟩
  have hz2 : ((mk : Int) == 0) = false := by simp; omega
  obtain ⟨k, hk⟩ := Int.eq_ofNat_of_zero_le (Int.emod_nonneg a1 (show (m : Int) ≠ 0 by omega))
  have hkm : k < m := by
    have := Int.emod_lt_of_pos a1 (show (0 : Int) < (m : Int) by omega)
    omega
  have HKX : Hid (∃ x0, L[k]? = some x0) := Lib.hid ⟨_, List.getElem?_eq_getElem (by rw [HLl.out]; exact hkm)⟩
  obtain ⟨x0, hx0⟩ := HKX.out
  obtain ⟨hsplit, hek0, hxm⟩ := at_split hx0
  have hek : (endsOf L).getD k 0 = (flat (L.take k)).length + (frm x0).length := by rw [HENDS.out k hkm, hek0]
  have hep : 0 < k → (endsOf L).getD (k - 1) 0 = (flat (L.take k)).length := fun hp => by
    rw [HENDS.out (k - 1) (by omega), show k - 1 + 1 = k by omega]
  have hk0 : k = 0 → (flat (L.take k)).length = 0 := fun h => by subst h; simp [flat]
  have hN8 : 8 ≤ (frm x0).length ∧ (frm x0).length ≤ 4104 := by
    have := HX4.out _ hxm
    rw [frm_len]; omega
  have hlenE : (flat (L.take k)).length + (frm x0).length ≤ (flat L).length := by
    rw [hsplit, List.length_append, List.length_append]; omega
  have hfin : ∀ (K : Prop), (∀ g, Ae = some ⟨g, 0, none⟩ → v2.cell? ⟨g, k, none⟩ = some (.int .i64 ((endsOf L).getD k 0 : Nat)) → (0 < k → v2.cell? ⟨g, k - 1, none⟩ = some (.int .i64 ((endsOf L).getD (k - 1) 0 : Nat))) → K) → K := by
    intro K h1
    obtain ⟨g, e1, e2⟩ := HEC.out (by omega)
    exact h1 g e1 (e2 k hkm) (fun hp => e2 (k - 1) (by omega))
  refine hfin _ (fun ge he hck hcp => ?_)
  subst he
  rw [hek] at hck
  have hcp' : 0 < k → v2.cell? ⟨ge, k - 1, none⟩ = some (.int .i64 ((flat (L.take k)).length : Nat)) := fun hp => by rw [hcp hp, hep hp]
  obtain ⟨g, cg, eg, hgv⟩ := O1.out.form (by omega)
  injection eg with eg _ ec
  subst eg ec
  have hgge : ge ≠ g := fun h => HAP.out g rfl (by rw [← h]; rfl)
  have HF0 := Lib.hid (frm_byte (HXB.out _ hxm))
  have HPC : Hid (∀ c, c ∈ flat (L.take k) ∨ c ∈ flat (L.drop (k + 1)) → c < 256) := Lib.hid fun c hc => by
    refine HBY.out c ?_
    rw [hsplit]
    rcases hc with h | h
    · exact List.mem_append_left _ h
    · exact List.mem_append_right _ (List.mem_append_right _ h)
  have hST := Lib.hid fun (F : List Nat) (ys : List (List Nat)) (n : Nat) => at_turned (L := L) (ys := ys) (F := F) (x0 := x0) (n := n) (k := k) hx0 HX4.out
  have HX0B := Lib.hid (HXB.out _ hxm)
  have HLK : Hid (xs[k]? = some x0) := Lib.hid (by rw [← hx0, ← HLE.out, List.getElem?_take_of_lt hkm])
  have HTK : Hid (L.take k = xs.take k) := Lib.hid (HQ.out k (by omega))
  have HSP := Lib.hid hsplit
  have HCL : Hid ((flat (L.take k)).length + (frm x0).length + (flat (L.drop (k + 1))).length ≤ 123120) := Lib.hid (by
    have := congrArg List.length hsplit
    rw [List.length_append, List.length_append] at this
    omega)
  clear hfin hcp hek hep HEC HENDS hek0 hx0 HKX hsplit hxm
  generalize frm x0 = F0 at *
  generalize flat (L.take k) = P at *
  generalize flat (L.drop (k + 1)) = C at *
  generalize hPl : P.length = p at *
  have HPL := Lib.hid hPl
  generalize hNl : F0.length = N at *
  have HNL := Lib.hid hNl
  clear hPl hNl
  generalize hflE : (flat L).length = fl at *
  have HFL := Lib.hid hflE
  clear hflE
  obtain ⟨f, hf⟩ := Int.eq_ofNat_of_zero_le (Int.emod_nonneg a1 (show 8 * (N : Int) ≠ 0 by omega))
  have hfN : f < 8 * N := by
    have := Int.emod_lt_of_pos a1 (show (0 : Int) < 8 * (N : Int) by omega)
    omega
  have hEN : (p : Int) + (N : Int) - (p : Int) = (N : Int) := by omega
  rw [show ((p + N : Nat) : Int) = (p : Int) + (N : Int) by omega] at hck
  have HCK := Lib.hid hck
  have HH : Hid (∀ K : Prop, (k = 0 → p = 0 → K) → (0 < k → v2.cell? ⟨ge, k - 1, none⟩ = some (.int .i64 (p : Nat)) → K) → K) := Lib.hid fun K h0 h1 => by
    by_cases h : k = 0
    · exact h0 h (hk0 h)
    · exact h1 (by omega) (hcp' (by omega))
  clear hk0 hcp' hck
  refine HH.out _ (fun hk0 hp0 => ?_) (fun hkp hcp => ?_)
  · have hck : v2.cell? ⟨ge, k, none⟩ = some (.int .i64 (N : Int)) := by rw [HCK.out, hp0]; simp
    have HP00 := Lib.hid hp0
    obtain ⟨z, hz3, hz4⟩ : ∃ z, k < z ∧ z < 2 := ⟨1, by omega, by omega⟩
    clear hk0 hp0 hEN
    go_wp2_with fail
    have hab : Any false (mk % 2 ^ 0) := by simp [Any, Nat.mod_one]
    have hnb : CrcM.num F0 = CrcM.num F0 ^^^ ((mk % 2 ^ 0) <<< f) := by simp [Nat.mod_one]
    have own0 : Own v2 v1.heap.size (.slice (some ⟨g, 0, none⟩) fl cb) (P ++ (F0 ++ C)) := by rw [← HSP.out]; exact O1.out
    simp only [hk, hf]
    try generalize decide (0 < k) = D0
    go_loopw [13, 14] (fun any i wr => ∃ (q : Nat) (F : List Nat) (b : Bool), q ≤ 32 ∧ i = .int .i64 q ∧ any = .bool b ∧ Any b (mk % 2 ^ q) ∧ Own wr v1.heap.size (.slice (some ⟨g, 0, none⟩) fl cb) (P ++ (F ++ C)) ∧ F.length = N ∧ (∀ c ∈ F, c < 256) ∧
        CrcM.num F = CrcM.num F0 ^^^ ((mk % 2 ^ q) <<< f) ∧ Kept v1 wr ∧ wr.cell? ⟨ge, k, none⟩ = some (.int .i64 (N : Int))) (fun _ i _ => 32 - (intOf i).toNat)
    case atStart => exact ⟨0, F0, false, by omega, rfl, rfl, hab, own0, HNL.out, HF0.out, hnb, kv, hck⟩
    case round =>
      clear hab hnb own0 kv hck
      obtain ⟨q, F, b, hq32, rfl, rfl, hab, own, hFl, hFb, hnum, kk, hce⟩ := hrel
      have HFL0 := Lib.hid hFl
      clear hFl
      by_cases hgo : q < 32 ∧ f + q < 8 * N
      · by_cases hbit : mk / 2 ^ q % 2 = 1
        · have ht := bit_test hbit
          have HNUM := Lib.hid hnum
          clear hnum
          go_wp2_with fail
          obtain ⟨e, he⟩ : ∃ e : Nat, f + q = e := ⟨_, rfl⟩
          rw [show ((f : Int) + (q : Int)) = (e : Int) by omega]
          have hj : e / 8 < F.length := by rw [HFL0.out]; omega
          have hcl := own.cell (j := p + e / 8) (by rw [List.length_append, HPL.out, List.length_append]; omega)
          have hfr := own.free (p + e / 8)
          have hgm : (P ++ (F ++ C)).getD (p + e / 8) 0 = F.getD (e / 8) 0 := by rw [← HPL.out, getD_mid hj]
          rw [hgm] at hcl
          rw [HP00.out, Nat.zero_add] at hcl hfr
          have hi1 : 0 ≤ (e : Int) / 8 := by omega
          have hi2 : (e : Int) / 8 < (fl : Int) := by omega
          have hi3 : ((e : Int) / 8).toNat = e / 8 := by omega
          have hc256 : F.getD (e / 8) 0 < 256 := by
            rw [List.getD_eq_getElem?_getD, List.getElem?_eq_getElem hj]; exact hFb _ (List.getElem_mem _)
          have hx := turn_byte hc256 (show e % 8 < 8 by omega)
          have hxl := turn_lt hc256 (show e % 8 < 8 by omega)
          have HT := Lib.hid (turn_num HNUM.out hbit (by rw [he]; exact hj))
          have HM := Lib.hid (mask_one hbit)
          rw [he] at HT
          generalize hcc : F.getD (e / 8) 0 = c at *
          generalize hcy : c ^^^ 1 <<< (e % 8) = y at *
          have HOS := own.store (p + e / 8) y
          rw [← HPL.out, set_mid hj, HPL.out] at HOS
          have e9 : p + e / 8 = e / 8 := by rw [HP00.out, Nat.zero_add]
          rw [e9] at HOS
          have hce' : (wr.setCell ⟨g, e / 8, none⟩ (.int .u8 (y : Int))).cell? ⟨ge, k, none⟩ = some (.int .i64 (N : Int)) := by rw [cell_other hgge]; exact hce
          clear hcc hcy hgm hj
          go_region
          go_wp2
          go_roundw
          case rel => exact ⟨q + 1, F.set (e / 8) y, true, by omega, by go_num, rfl, by simp [Any, HM.out], HOS, by rw [List.length_set]; exact HFL0.out, fun c hc => by
                rcases List.mem_or_eq_of_mem_set hc with h | h
                · exact hFb c h
                · omega, HT.out, (kk.setCell hgv _).drew, hce'⟩
          case measure => simp [intOf]; omega
        · have ht := bit_test0 (show mk / 2 ^ q % 2 = 0 by omega)
          have HM := Lib.hid (mask_none (show mk / 2 ^ q % 2 = 0 by omega))
          have HNUM := Lib.hid hnum
          clear hnum
          go_wp2
          go_roundw
          case rel => exact ⟨q + 1, F, b, by omega, by go_num, rfl, by rw [HM.out]; exact hab, own, HFL0.out, hFb, by rw [HM.out]; exact HNUM.out, kk, hce⟩
          case measure => simp [intOf]; omega
      · have HNE := Lib.hid (fun h : mk % 2 ^ q ≠ 0 => num_ne hnum h)
        clear hnum
        have hk5 : Kept w wr := k1.trans kk
        have hcase : 32 ≤ q ∨ (q < 32 ∧ 8 * N ≤ f + q) := by omega
        clear hgo
        cases b with
        | false =>
          rcases hcase with hc32 | ⟨hc32, hc8⟩
          all_goals
            go_wp2
            go_ret
            exact ⟨rfl, hk5.1⟩
        | true =>
          have hne := Lib.hid (HNE.out (hab.1 rfl))
          clear HNE hab
          have hbyte : ∀ c ∈ P ++ (F ++ C), c < 256 := fun c hc => by
            rcases List.mem_append.1 hc with h | h
            · exact HPC.out c (.inl h)
            · rcases List.mem_append.1 h with h | h
              · exact hFb c h
              · exact HPC.out c (.inr h)
          obtain ⟨Ar, cr, er, hrow⟩ := own.row (by rw [List.length_append, HPL.out, List.length_append, HFL0.out]; have := HCL.out; omega) hbyte
          injection er with e1 e2 e3
          subst e1 e3
          rw [← e2] at hrow
          have HROW := Lib.hid hrow
          have HBYTE := Lib.hid hbyte
          have HXW := Lib.hid (Rws.below HX1.out kk.1)
          clear hbyte e2 hrow own hFb
          rcases hcase with hc32 | ⟨hc32, hc8⟩
          all_goals
            go_wp2_with fail
            refine (scan_any HROW.out (by omega)).mono ?_
            rintro e v5 ⟨A5, c5, ys, n5, rfl, hrw5, hc5, hsc5, h5⟩
            obtain ⟨hky, htk, hyk⟩ := hST.out F ys n5 HBYTE.out (HFL0.out) hne.out hsc5
            have k5 := hk5.call h5
            have HX5 := Lib.hid (Rws.below HXW.out h5)
            have HRW5 := Lib.hid hrw5
            have HYK := Lib.hid hyk
            have hpre := Rws.head hrw5 hky
            rw [htk, HTK.out] at hpre
            have HPRE := Lib.hid hpre
            have HPREX := Lib.hid (Rws.head HX5.out (show k ≤ len0 by omega))
            have hsmall : k ≤ 1099511627776 := by omega
            have hys : ys.length ≤ c5 := hc5
            clear h5 hrw5 hyk hpre hsc5 htk hc5
            generalize hyl : ys.length = yl at *
            have HYL := Lib.hid hyl
            have hs1 := fun W => run_headR .i64 A5 yl c5 k (by omega) W
            have hs2 := fun W => run_headR .i64 a0 len0 cap0 k (by omega) W
            clear hyl
            have hdec : decide (yl < k) = false := decide_eq_false (by omega)
            go_wp2
            refine wp_region_in (Kept v5) (by kernel_rfl) (by kernel_rfl) (Kept.refl v5).drew ?_
            repeat (go_big_quiet_step (first
              | (intro _; rfl)
              | (intro hk; with_reducible exact same_kept HPRE.out HPREX.out hsmall hk)))
            refine wpQuiet_nil ?_
            intro v6 hk6
            have k6 := k5.trans hk6
            have HRW6 := Lib.hid (Rws.below HRW5.out hk6.1)
            have HX6 := Lib.hid (Rws.below HX5.out hk6.1)
            clear hk6 hs1 hs2
            by_cases hyk : yl = k
            · subst hyk
              go_wp2
              go_big_quiet (fail)
              go_wp2
              go_ret
              exact ⟨by go_simp, below_drewN k6.1 _⟩
            · have hky2 : k < yl := by omega
              have hysk : k < ys.length := by rw [HYL.out]; exact hky2
              have hg1 : ys[k]? = some ys[k] := List.getElem?_eq_getElem hysk
              have hyx := HYK.out _ hg1
              obtain ⟨bm, om, vm, rfl, hbm, hcm, Am, nm, cm, rfl, hm1, hm2, -⟩ := HRW6.out.2 k _ hg1
              obtain ⟨bl, ol, vl, rfl, hbl, hcl, Al, nl, cl, rfl, hl1, hl2, -⟩ := HX6.out.2 k _ HLK.out
              have hty : txt ys[k] ≠ txt x0 := fun h => hyx (txt_inj hm1.2.2.1 HX0B.out h)
              have t1 : ∀ n, (convert 22 9 (.slice Am nm cm)).run Try.prog (v6.drewN n) = .ok (.string (txt ys[k])) (v6.drewN n) := fun n => run_text (c := cm) (hm1.below (below_drewN (Below.refl _ _) n)) (fun h => (hm2 h).1)
              have t2 : ∀ n, (convert 22 9 (.slice Al nl cl)).run Try.prog (v6.drewN n) = .ok (.string (txt x0)) (v6.drewN n) := fun n => run_text (c := cl) (hl1.below (below_drewN (Below.refl _ _) n)) (fun h => (hl2 h).1)
              clear hm1 hm2 hl1 hl2 hyx hbm hbl
              generalize txt ys[k] = X at *
              generalize txt x0 = Y at *
              have hdec2 : (yl == k) = false := by simp; omega
              have hdec3 : ((yl : Int) == (k : Int)) = false := by simp; omega
              have hdec4 : decide (yl = k) = false := decide_eq_false hyk
              clear hysk hg1
              go_wp2
              go_big_quiet (fail)
              go_wp2
              go_ret
              refine ⟨?_, below_drewN k6.1 _⟩
              go_simp
              exact fun h => hty (bytes_toList h)
  · have hck := HCK.out
    go_wp2_with fail
    have hab : Any false (mk % 2 ^ 0) := by simp [Any, Nat.mod_one]
    have hnb : CrcM.num F0 = CrcM.num F0 ^^^ ((mk % 2 ^ 0) <<< f) := by simp [Nat.mod_one]
    have own0 : Own v2 v1.heap.size (.slice (some ⟨g, 0, none⟩) fl cb) (P ++ (F0 ++ C)) := by rw [← HSP.out]; exact O1.out
    simp only [hk, hf]
    try generalize decide (0 < k) = D0
    go_loopw [13, 14] (fun any i wr => ∃ (q : Nat) (F : List Nat) (b : Bool), q ≤ 32 ∧ i = .int .i64 q ∧ any = .bool b ∧ Any b (mk % 2 ^ q) ∧ Own wr v1.heap.size (.slice (some ⟨g, 0, none⟩) fl cb) (P ++ (F ++ C)) ∧ F.length = N ∧ (∀ c ∈ F, c < 256) ∧
        CrcM.num F = CrcM.num F0 ^^^ ((mk % 2 ^ q) <<< f) ∧ Kept v1 wr ∧ wr.cell? ⟨ge, k, none⟩ = some (.int .i64 ((p : Int) + (N : Int)))) (fun _ i _ => 32 - (intOf i).toNat)
    case atStart => exact ⟨0, F0, false, by omega, rfl, rfl, hab, own0, HNL.out, HF0.out, hnb, kv, hck⟩
    case round =>
      clear hab hnb own0 kv hck
      obtain ⟨q, F, b, hq32, rfl, rfl, hab, own, hFl, hFb, hnum, kk, hce⟩ := hrel
      have HFL0 := Lib.hid hFl
      clear hFl
      have hsub : (p : Int) + (N : Int) - (p : Int) = (N : Int) := by omega
      by_cases hgo : q < 32 ∧ f + q < 8 * N
      · by_cases hbit : mk / 2 ^ q % 2 = 1
        · have ht := bit_test hbit
          have HNUM := Lib.hid hnum
          clear hnum
          go_wp2_with fail
          obtain ⟨e, he⟩ : ∃ e : Nat, f + q = e := ⟨_, rfl⟩
          rw [show ((f : Int) + (q : Int)) = (e : Int) by omega]
          have hj : e / 8 < F.length := by rw [HFL0.out]; omega
          have hcl := own.cell (j := p + e / 8) (by rw [List.length_append, HPL.out, List.length_append]; omega)
          have hfr := own.free (p + e / 8)
          have hgm : (P ++ (F ++ C)).getD (p + e / 8) 0 = F.getD (e / 8) 0 := by rw [← HPL.out, getD_mid hj]
          rw [hgm] at hcl
          have hi1 : 0 ≤ (p : Int) + (e : Int) / 8 := by omega
          have hi2 : (p : Int) + (e : Int) / 8 < (fl : Int) := by omega
          have hi3 : ((p : Int) + (e : Int) / 8).toNat = p + e / 8 := by omega
          have hc256 : F.getD (e / 8) 0 < 256 := by
            rw [List.getD_eq_getElem?_getD, List.getElem?_eq_getElem hj]; exact hFb _ (List.getElem_mem _)
          have hx := turn_byte hc256 (show e % 8 < 8 by omega)
          have hxl := turn_lt hc256 (show e % 8 < 8 by omega)
          have HT := Lib.hid (turn_num HNUM.out hbit (by rw [he]; exact hj))
          have HM := Lib.hid (mask_one hbit)
          rw [he] at HT
          generalize hcc : F.getD (e / 8) 0 = c at *
          generalize hcy : c ^^^ 1 <<< (e % 8) = y at *
          have HOS := own.store (p + e / 8) y
          rw [← HPL.out, set_mid hj, HPL.out] at HOS
          have hce' : (wr.setCell ⟨g, p + e / 8, none⟩ (.int .u8 (y : Int))).cell? ⟨ge, k, none⟩ = some (.int .i64 ((p : Int) + (N : Int))) := by rw [cell_other hgge]; exact hce
          clear hcc hcy hgm hj
          go_region
          go_wp2
          go_roundw
          case rel => exact ⟨q + 1, F.set (e / 8) y, true, by omega, by go_num, rfl, by simp [Any, HM.out], HOS, by rw [List.length_set]; exact HFL0.out, fun c hc => by
                rcases List.mem_or_eq_of_mem_set hc with h | h
                · exact hFb c h
                · omega, HT.out, (kk.setCell hgv _).drew, hce'⟩
          case measure => simp [intOf]; omega
        · have ht := bit_test0 (show mk / 2 ^ q % 2 = 0 by omega)
          have HM := Lib.hid (mask_none (show mk / 2 ^ q % 2 = 0 by omega))
          have HNUM := Lib.hid hnum
          clear hnum
          go_wp2
          go_roundw
          case rel => exact ⟨q + 1, F, b, by omega, by go_num, rfl, by rw [HM.out]; exact hab, own, HFL0.out, hFb, by rw [HM.out]; exact HNUM.out, kk, hce⟩
          case measure => simp [intOf]; omega
      · have HNE := Lib.hid (fun h : mk % 2 ^ q ≠ 0 => num_ne hnum h)
        clear hnum
        have hk5 : Kept w wr := k1.trans kk
        have hcase : 32 ≤ q ∨ (q < 32 ∧ 8 * N ≤ f + q) := by omega
        clear hgo
        cases b with
        | false =>
          rcases hcase with hc32 | ⟨hc32, hc8⟩
          all_goals
            go_wp2
            go_ret
            exact ⟨rfl, hk5.1⟩
        | true =>
          have hne := Lib.hid (HNE.out (hab.1 rfl))
          clear HNE hab
          have hbyte : ∀ c ∈ P ++ (F ++ C), c < 256 := fun c hc => by
            rcases List.mem_append.1 hc with h | h
            · exact HPC.out c (.inl h)
            · rcases List.mem_append.1 h with h | h
              · exact hFb c h
              · exact HPC.out c (.inr h)
          obtain ⟨Ar, cr, er, hrow⟩ := own.row (by rw [List.length_append, HPL.out, List.length_append, HFL0.out]; have := HCL.out; omega) hbyte
          injection er with e1 e2 e3
          subst e1 e3
          rw [← e2] at hrow
          have HROW := Lib.hid hrow
          have HBYTE := Lib.hid hbyte
          have HXW := Lib.hid (Rws.below HX1.out kk.1)
          clear hbyte e2 hrow own hFb
          rcases hcase with hc32 | ⟨hc32, hc8⟩
          all_goals
            go_wp2_with fail
            refine (scan_any HROW.out (by omega)).mono ?_
            rintro e v5 ⟨A5, c5, ys, n5, rfl, hrw5, hc5, hsc5, h5⟩
            obtain ⟨hky, htk, hyk⟩ := hST.out F ys n5 HBYTE.out (HFL0.out) hne.out hsc5
            have k5 := hk5.call h5
            have HX5 := Lib.hid (Rws.below HXW.out h5)
            have HRW5 := Lib.hid hrw5
            have HYK := Lib.hid hyk
            have hpre := Rws.head hrw5 hky
            rw [htk, HTK.out] at hpre
            have HPRE := Lib.hid hpre
            have HPREX := Lib.hid (Rws.head HX5.out (show k ≤ len0 by omega))
            have hsmall : k ≤ 1099511627776 := by omega
            have hys : ys.length ≤ c5 := hc5
            clear h5 hrw5 hyk hpre hsc5 htk hc5
            generalize hyl : ys.length = yl at *
            have HYL := Lib.hid hyl
            have hs1 := fun W => run_headR .i64 A5 yl c5 k (by omega) W
            have hs2 := fun W => run_headR .i64 a0 len0 cap0 k (by omega) W
            clear hyl
            have hdec : decide (yl < k) = false := decide_eq_false (by omega)
            go_wp2
            refine wp_region_in (Kept v5) (by kernel_rfl) (by kernel_rfl) (Kept.refl v5).drew ?_
            repeat (go_big_quiet_step (first
              | (intro _; rfl)
              | (intro hk; with_reducible exact same_kept HPRE.out HPREX.out hsmall hk)))
            refine wpQuiet_nil ?_
            intro v6 hk6
            have k6 := k5.trans hk6
            have HRW6 := Lib.hid (Rws.below HRW5.out hk6.1)
            have HX6 := Lib.hid (Rws.below HX5.out hk6.1)
            clear hk6 hs1 hs2
            by_cases hyk : yl = k
            · subst hyk
              go_wp2
              go_big_quiet (fail)
              go_wp2
              go_ret
              exact ⟨by go_simp, below_drewN k6.1 _⟩
            · have hky2 : k < yl := by omega
              have hysk : k < ys.length := by rw [HYL.out]; exact hky2
              have hg1 : ys[k]? = some ys[k] := List.getElem?_eq_getElem hysk
              have hyx := HYK.out _ hg1
              obtain ⟨bm, om, vm, rfl, hbm, hcm, Am, nm, cm, rfl, hm1, hm2, -⟩ := HRW6.out.2 k _ hg1
              obtain ⟨bl, ol, vl, rfl, hbl, hcl, Al, nl, cl, rfl, hl1, hl2, -⟩ := HX6.out.2 k _ HLK.out
              have hty : txt ys[k] ≠ txt x0 := fun h => hyx (txt_inj hm1.2.2.1 HX0B.out h)
              have t1 : ∀ n, (convert 22 9 (.slice Am nm cm)).run Try.prog (v6.drewN n) = .ok (.string (txt ys[k])) (v6.drewN n) := fun n => run_text (c := cm) (hm1.below (below_drewN (Below.refl _ _) n)) (fun h => (hm2 h).1)
              have t2 : ∀ n, (convert 22 9 (.slice Al nl cl)).run Try.prog (v6.drewN n) = .ok (.string (txt x0)) (v6.drewN n) := fun n => run_text (c := cl) (hl1.below (below_drewN (Below.refl _ _) n)) (fun h => (hl2 h).1)
              clear hm1 hm2 hl1 hl2 hyx hbm hbl
              generalize txt ys[k] = X at *
              generalize txt x0 = Y at *
              have hdec2 : (yl == k) = false := by simp; omega
              have hdec3 : ((yl : Int) == (k : Int)) = false := by simp; omega
              have hdec4 : decide (yl = k) = false := decide_eq_false hyk
              clear hysk hg1
              go_wp2
              go_big_quiet (fail)
              go_wp2
              go_ret
              refine ⟨?_, below_drewN k6.1 _⟩
              go_simp
              exact fun h => hty (bytes_toList h)
end Go.Proofs.Ytebpbholelhbgaa
