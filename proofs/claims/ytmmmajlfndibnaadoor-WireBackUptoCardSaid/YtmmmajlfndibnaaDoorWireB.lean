/- WireBack, for arguments of the second form's bulk. -/
import Derived.Test.YtmmmajlfndibnaaDoorWireL
import Derived.WalkArith
namespace Go.Proofs.YtmmmajlfndibnaaDoor
open Go.RowKit

theorem tak_put {bs rest : List Nat} (h : bs.length ≤ 1048576) : tak (put bs.length ++ (bs ++ rest)) (bs.length : Int) = (bs, (put bs.length).length + bs.length, 0) := by
  have hg := get_put (m := bs.length) (by omega) (bs ++ rest)
  have hs : sml (put bs.length ++ (bs ++ rest)) (bs.length : Int) = (bs.length, (put bs.length).length, 0) := by
    unfold sml
    rw [hg]
    simp only [ne_eq, not_true_eq_false, if_false]
    rw [if_neg (by omega)]
  unfold tak
  rw [hs]
  simp only [ne_eq, not_true_eq_false, if_false, List.length_append]
  rw [if_neg (by omega), List.drop_left, List.take_left]

set_option maxRecDepth 100000 in
set_option maxHeartbeats 4000000 in
theorem WireBack_walk (a0 : Option Addr) (len0 cap0 : Nat) (b0 : Nat) (w : World) (hg : Laid w) (w0 : SliceAt 3 40 (fun w cs => cs.length = 3 ∧ IsStruct [(0, 1, (IsInt .i64)), (1, 1, (IsInt .u64)), (2, 1, (IsSlice 1 1 (IsInt .u8)))] w cs) w a0 len0 cap0) (u0 : SSlice 3 (SStruct [(0, 1, SOne), (1, 1, SOne), (2, 1, (SSlice 1 SOne))]) w [.slice a0 len0 cap0] b0) (hk : b0 ≤ 1048576) :
    Calls Tryd.prog 5 #[.slice a0 len0 cap0] w fun e w' => e = .returned (.bool true) ∧ Below w.heap.size w w' := by
  obtain ⟨its, hI⟩ := items_of w0 u0 hk
  clear w0 u0 hk
  have HI := Lib.hid hI
  obtain ⟨hlen, hmax, hok, hload, hat⟩ := hI
  have hfl : (encs (its.take 100)).length ≤ 1049576 := by
    have h1 := encs_len (l := its.take 100) (fun x hx => hok x (List.mem_of_mem_take hx))
    have h2 := load_take its 100
    have h3 : (its.take 100).length ≤ 100 := by simp; omega
    omega
  have hfb := encs_byte (l := its.take 100) (fun x hx => hok x (List.mem_of_mem_take hx))
  -- what stands behind the first k items
  have hnext : ∀ (k : Nat) (h : k < its.length), k < 100 → ∃ rest, (encs (its.take 100)).drop (encs (its.take k)).length = enc its[k] ++ rest := fun k h hk => by
    have hl : k < (its.take 100).length := by simp; omega
    have := encs_drop hl
    rw [List.take_take, show min k 100 = k by omega, List.getElem_take] at this
    exact ⟨_, this⟩
  have HN := Lib.hid hnext
  have HO := Lib.hid hok
  have hlay := fun W (h : Kept w W) => lay_any a0 len0 cap0 its W (HI.out.kept h)
  have hend : ∀ k, k ≤ len0 → k ≤ 100 → ¬ (k < len0 ∧ k < 100) → its.take k = its.take 100 := fun k h1 h2 h3 => by
    by_cases h : k = 100
    · rw [h]
    · rw [List.take_of_length_le (by omega), List.take_of_length_le (by omega)]
  have hsn : ∀ (k : Nat) (h : k < its.length), encs (its.take (k + 1)) = encs (its.take k) ++ enc its[k] := fun k h => encs_snoc h
  have HSN := Lib.hid hsn
  have HEND := Lib.hid hend
  generalize hfull : encs (its.take 100) = full at *
  have HFULL := Lib.hid hfull
  clear hok hload hnext hsn hend hfull
  go_enter Tryd.func5, Tryd.ntmps5
  go_wp2_with fail
  refine (awake_any w hg).mono ?_
  rintro e u1 ⟨rfl, h1⟩
  have k1 : Kept w u1 := (Kept.refl w).call h1
  clear h1
  go_wp2_with fail
  refine (hlay u1 k1).mono ?_
  rintro e u2 ⟨v, rfl, ownv, h2⟩
  obtain ⟨VA, VC, rfl, hrow⟩ := ownv.row (by omega) hfb
  have k2 := k1.call h2
  clear h2 ownv hlay k1
  go_wp2_with fail
  refine (from_any VA full.length VC full u2 hrow).mono ?_
  rintro e u3 ⟨r, rfl, rd, hr, h3⟩
  have k3 := k2.call h3
  have hrw : w.heap.size ≤ r := Nat.le_trans k2.2 hr
  clear h3 hr hrow k2
  go_wp2
  go_loopw [5] (fun i wr => ∃ k : Nat, k ≤ len0 ∧ k ≤ 100 ∧ i = .int .i64 k ∧ Rd wr r full (encs (its.take k)).length ∧ Kept w wr) (fun i _ => 100 - (intOf i).toNat)
  case atStart => exact ⟨0, by omega, by omega, rfl, by simpa [encs] using rd, k3⟩
  case round =>
    obtain ⟨k, hk, hk1, rfl, rdk, kk⟩ := hrel
    clear rd k3
    by_cases hgo : k < len0 ∧ k < 100
    · obtain ⟨hg1, hg2⟩ := hgo
      obtain ⟨b, off, rfl, hb, hit⟩ := hat (by omega)
      have hkl : k < its.length := by omega
      obtain ⟨c0, c1, A2, m, cc, c2, hbt, hnil2, hroom2⟩ := hit k hkl
      have hcell : ∀ W, Kept w W → W.cell? ⟨b, off + k * 3, none⟩ = some (.int .i64 its[k].kind) ∧ W.cell? ⟨b, off + k * 3 + 1, none⟩ = some (.int .u64 (its[k].n : Int)) ∧ W.cell? ⟨b, off + k * 3 + 2, none⟩ = some (.slice A2 m cc) := fun W h =>
        ⟨(h.cell (p := ⟨b, off + k * 3, none⟩) hb).trans c0, (h.cell (p := ⟨b, off + k * 3 + 1, none⟩) hb).trans c1, (h.cell (p := ⟨b, off + k * 3 + 2, none⟩) hb).trans c2⟩
      have ok := HO.out its[k] (List.getElem_mem hkl)
      have hsk := HSN.out k hkl
      obtain ⟨rest, hnx⟩ := HN.out k hkl hg2
      clear hat hit c0 c1 c2
      generalize its[k] = x at *
      obtain ⟨kd, n, bs⟩ := x
      obtain ⟨hn, hbl, hby, hkw⟩ := ok
      simp only at hcell hbt hn hbl hby hkw
      have hbl2 := hbt.1
      have HBT := Lib.hid hbt
      have HNIL := Lib.hid hnil2
      have hke := bounds_i64 hkw
      have hpl : (encs (its.take (k + 1))).length = (encs (its.take k)).length + (enc ⟨kd, n, bs⟩).length := by rw [hsk, List.length_append]
      have HPL := Lib.hid hpl
      have HNX := Lib.hid hnx
      have HC := Lib.hid hcell
      clear hbt hnil2 hkw hpl hnx hsk hcell
      obtain ⟨c0, c1, c2⟩ := HC.out wr kk
      generalize hp : (encs (its.take k)).length = p at *
      have HP := Lib.hid hp
      clear hp
      by_cases h0 : kd = 0
      · subst h0
        have hE : enc ⟨0, n, bs⟩ = put n := enc0 rfl
        rw [hE] at HNX HPL
        have hgp := get_put hn rest
        rw [← HNX.out] at hgp
        have hU := runt_any r full p wr rdk
        rw [hgp] at hU
        have HGP := Lib.hid hgp
        clear hgp hE c1 c2
        go_wp2_with fail
        refine hU.mono ?_
        rintro e w1 ⟨rfl, rd1, o1⟩
        have kk1 : Kept w w1 := ⟨kk.1.trans (o1.below hrw kk.2), Nat.le_trans kk.2 o1.size⟩
        obtain ⟨c0, c1, c2⟩ := HC.out w1 kk1
        have hE0 : errv 0 p = .nilIface := rfl
        have kn := run_neq_nil_nil (P := Tryd.prog) w1 43 (by kernel_rfl)
        simp only at rd1 ⊢
        rw [hE0]
        clear o1 hU
        go_wp2
        go_roundw
        case rel => exact ⟨k + 1, by omega, by omega, by go_num, by rw [HPL.out]; exact rd1, kk1⟩
        case measure => simp [intOf]; omega
      · by_cases h1 : kd = 1
        · subst h1
          have hE : enc ⟨1, n, bs⟩ = put (zig (sgn n)) := enc1 (by show ¬ (1 : Int) = 0; decide) rfl
          rw [hE] at HNX HPL
          have hsr := sgn_range hn
          have hsw := sgn_wrap hn
          have hgp := get_put (zig_lt hsr.1 hsr.2) rest
          rw [← HNX.out] at hgp
          have hU := rint_any r full p wr rdk
          rw [hgp] at hU
          have hzz := zag_zig (sgn n)
          simp only [hzz] at hU
          clear hgp hE c1 c2 hzz
          go_wp2_with fail
          refine hU.mono ?_
          rintro e w1 ⟨rfl, rd1, o1⟩
          have kk1 : Kept w w1 := ⟨kk.1.trans (o1.below hrw kk.2), Nat.le_trans kk.2 o1.size⟩
          obtain ⟨c0, c1, c2⟩ := HC.out w1 kk1
          have hE0 : errv 0 p = .nilIface := rfl
          have kn := run_neq_nil_nil (P := Tryd.prog) w1 43 (by kernel_rfl)
          rw [hE0]
          clear o1 hU
          go_wp2
          go_roundw
          case rel => exact ⟨k + 1, by omega, by omega, by go_num, by rw [HPL.out]; exact rd1, kk1⟩
          case measure => simp [intOf]; omega
        · have hE : enc ⟨kd, n, bs⟩ = put m ++ bs := by rw [enc2 h0 h1, ← hbl2]
          rw [hE] at HNX HPL
          have htp := tak_put (rest := rest) hbl
          rw [hbl2] at htp
          have hnx := HNX.out
          rw [List.append_assoc] at hnx
          rw [← hnx] at htp
          have hU := rbytes_any r full p (m : Int) (WalkArith.wf_i64 (by omega)) wr rdk
          rw [htp] at hU
          have hpl := HPL.out
          rw [List.length_append, hbl2] at hpl
          have HPL := Lib.hid hpl
          have hcv : ∀ W, Kept w W → (convert 24 9 (.slice A2 m cc)).run Tryd.prog W = .ok (.string (txt bs)) W := fun W h =>
            run_text (c := cc) (HBT.out.below h.1) (fun h => by have := HNIL.out h; omega)
          have HCV := Lib.hid hcv
          clear htp hnx hE hpl hcv
          go_wp2_with fail
          refine hU.mono ?_
          rintro e w1 ⟨v, rfl, ownv, rd1, o1⟩
          have kk1 : Kept w w1 := ⟨kk.1.trans (o1.below hrw kk.2), Nat.le_trans kk.2 o1.size⟩
          obtain ⟨A5, c5, rfl, hr5⟩ := ownv.row (by omega) hby
          rw [hbl2] at hr5
          have kd1 := kk1.drew
          obtain ⟨c0, c1, c2⟩ := HC.out _ kd1
          have t5 := run_text (c := c5) (hr5.below (Below.refl _ _).drew).bts (fun h => by have := hr5.nil h; have := hr5.room; omega)
          have t6 := HCV.out _ kd1
          have hE0 : errv 0 p = .nilIface := rfl
          have kn := run_neq_nil_nil (P := Tryd.prog) w1.drew 43 (by kernel_rfl)
          have rd2 := rd1.below (Below.refl _ _).drew
          have RD2 := Lib.hid rd2
          have K1 := Lib.hid kd1
          rw [hE0, hbl2]
          clear o1 hU ownv rd1 hr5 rd2
          go_wp2
          go_region
          go_wp2
          go_roundw
          case rel => exact ⟨k + 1, by omega, by omega, by go_num, by rw [HPL.out]; exact RD2.out, K1.out⟩
          case measure => simp [intOf]; omega
    · have hall := HEND.out k hk hk1 hgo
      rw [hall, HFULL.out] at rdk
      clear hall hat
      have hE := end_any r full full.length wr rdk
      rw [if_neg (by omega)] at hE
      have hL := fun W (h : Rd W r full full.length) => left_any r full full.length W h
      rw [Nat.sub_self] at hL
      by_cases hkl : k < len0
      · obtain rfl : k = 100 := by omega
        go_wp2_with fail
        refine hE.mono ?_
        rintro e w1 ⟨rfl, rd1, o1⟩
        have kk1 : Kept w w1 := ⟨kk.1.trans (o1.below hrw kk.2), Nat.le_trans kk.2 o1.size⟩
        have kn := run_eql_nil_nil (P := Tryd.prog) w1 43 (by kernel_rfl)
        go_wp2_with fail
        refine (hL w1 rd1).mono ?_
        rintro e w2 ⟨rfl, b2⟩
        have kk2 := kk1.call b2
        go_wp2
        go_ret
        exact ⟨rfl, kk2.1⟩
      · obtain rfl : k = len0 := by omega
        go_wp2_with fail
        refine hE.mono ?_
        rintro e w1 ⟨rfl, rd1, o1⟩
        have kk1 : Kept w w1 := ⟨kk.1.trans (o1.below hrw kk.2), Nat.le_trans kk.2 o1.size⟩
        have kn := run_eql_nil_nil (P := Tryd.prog) w1 43 (by kernel_rfl)
        go_wp2_with fail
        refine (hL w1 rd1).mono ?_
        rintro e w2 ⟨rfl, b2⟩
        have kk2 := kk1.call b2
        go_wp2
        go_ret
        exact ⟨rfl, kk2.1⟩
end Go.Proofs.YtmmmajlfndibnaaDoor
