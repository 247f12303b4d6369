/- WireLays, for arguments of the second form's bulk. -/
import Derived.Test.YtmmmajlfndibnaaDoorWireG
import Derived.Deep.RegionWith
namespace Go.Proofs.YtmmmajlfndibnaaDoor
open Go.RowKit

set_option maxRecDepth 100000 in
set_option maxHeartbeats 4000000 in
theorem WireLays_walk (a0 : Option Addr) (len0 cap0 : Nat) (b0 : Nat) (w : World) (hg : Laid w) (w0 : SliceAt 3 40 (fun w cs => cs.length = 3 ∧ IsStruct [(0, 1, (IsInt .i64)), (1, 1, (IsInt .u64)), (2, 1, (IsSlice 1 1 (IsInt .u8)))] w cs) w a0 len0 cap0) (u0 : SSlice 3 (SStruct [(0, 1, SOne), (1, 1, SOne), (2, 1, (SSlice 1 SOne))]) w [.slice a0 len0 cap0] b0) (hk : b0 ≤ 1048576) :
    Calls Tryd.prog 3 #[.slice a0 len0 cap0] w fun e w' => e = .returned (.bool true) ∧ Below w.heap.size w w' := by
  obtain ⟨its, hI⟩ := items_of w0 u0 hk
  clear w0 u0 hk
  have HI := Lib.hid hI
  obtain ⟨hlen, hmax, hok, hload, hat⟩ := hI
  have hbound : ∀ k, k ≤ 100 → (encs (its.take k)).length ≤ 1049576 := fun k hk => by
    have h1 := encs_len (l := its.take k) (fun x hx => hok x (List.mem_of_mem_take hx))
    have h2 := load_take its k
    have h3 : (its.take k).length ≤ k := by simp; omega
    omega
  have HO := Lib.hid hok
  have HBD := Lib.hid hbound
  clear hok hbound hload
  go_enter Tryd.func3, Tryd.ntmps3
  go_wp2_with fail
  refine (awake_any w hg).mono ?_
  rintro e u1 ⟨rfl, h1⟩
  have k1 : Kept w u1 := (Kept.refl w).call h1
  clear h1
  go_wp2
  go_loopw [4, 5] (fun v i wr => ∃ k : Nat, k ≤ len0 ∧ k ≤ 100 ∧ i = .int .i64 k ∧ Own wr w.heap.size v (encs (its.take k)) ∧ Kept w wr) (fun _ i _ => 100 - (intOf i).toNat)
  case atStart => exact ⟨0, by omega, by omega, rfl, by simpa [encs] using Own.nil u1 w.heap.size, k1⟩
  case round =>
    obtain ⟨k, hk, hk1, rfl, own, kk⟩ := hrel
    obtain ⟨WA, WN, WC, rfl⟩ := own.slice
    clear k1
    by_cases hgo : k < len0 ∧ k < 100
    · obtain ⟨hg1, hg2⟩ := hgo
      obtain ⟨b, off, rfl, hb, hit⟩ := hat (by omega)
      have hkl : k < its.length := by omega
      obtain ⟨c0, c1, A2, m, cc, c2, hbt, hnil2, hroom2⟩ := hit k hkl
      have c0 := (kk.cell (p := ⟨b, off + k * 3, none⟩) hb).trans c0
      have c1 := (kk.cell (p := ⟨b, off + k * 3 + 1, none⟩) hb).trans c1
      have c2 := (kk.cell (p := ⟨b, off + k * 3 + 2, none⟩) hb).trans c2
      have ok := HO.out its[k] (List.getElem_mem hkl)
      have HS := Lib.hid (encs_snoc (l := its) hkl)
      have hln := HBD.out (k + 1) (by omega)
      have hle := HBD.out k (by omega)
      have hby' := enc_byte ok
      rw [HS.out] at hln
      simp only [List.length_append] at hln
      clear hat hit
      generalize its[k] = x at *
      have HBY := Lib.hid hby'
      obtain ⟨kd, n, bs⟩ := x
      obtain ⟨hn, hbl, hby, hkw⟩ := ok
      simp only at c0 c1 c2 hbt hn hbl hby hkw
      have hbl2 := hbt.1
      have HBT := Lib.hid hbt
      have HNIL := Lib.hid hnil2
      have hke := bounds_i64 hkw
      clear hbt hnil2 hkw hby hby'
      by_cases h0 : kd = 0
      · subst h0
        have hE : enc ⟨0, n, bs⟩ = put n := enc0 rfl
        rw [hE] at hln
        have HE := Lib.hid hE
        clear hE
        go_wp2_with (first
          | (go_at_call 10
             refine (refuint_any n hn wr).mono ?_
             rintro e w1 ⟨v, rfl, ownv, hb1⟩
             obtain ⟨A3, c3, rfl, hrow⟩ := ownv.row (by omega) (put_byte n)
             have kk1 := kk.call hb1
             have own1 := own.below hb1
             clear ownv)
          | (at_builtin
             refine wpList_append_bts rfl (.tmp 32) (.tmp 38) rfl (base := w.heap.size) (ds := encs (its.take k)) rfl rfl own1 hrow.bts hrow.nil (by omega) kk1.2 ?_
             intro v2 w2 own2 gr2 at2
             have kk2 := kk1.append own1 gr2
             clear gr2 at2))
        go_roundw
        case rel => exact ⟨k + 1, by omega, by omega, by go_num, by rw [HS.out, HE.out]; exact own2, kk2⟩
        case measure => simp [intOf]; omega
      · by_cases h1 : kd = 1
        · subst h1
          have hE : enc ⟨1, n, bs⟩ = put (zig (sgn n)) := enc1 (by show ¬ (1 : Int) = 0; decide) rfl
          rw [hE] at hln
          have HE := Lib.hid hE
          clear hE
          have hsw := sgn_wrap hn
          have hsr := sgn_range hn
          have hzl := zig_lt hsr.1 hsr.2
          have hZ := refzig_any (sgn n) hsr.1 hsr.2 wr
          generalize hz : zig (sgn n) = z at *
          have HZ := Lib.hid hz
          clear hz
          go_wp2_with (first
            | (go_at_call 11; refine hZ.mono ?_; rintro e w1 ⟨rfl, rfl⟩)
            | (go_at_call 10
               refine (refuint_any z hzl _).mono ?_
               rintro e w1 ⟨v, rfl, ownv, hb1⟩
               obtain ⟨A3, c3, rfl, hrow⟩ := ownv.row (by omega) (put_byte z)
               have kk1 := kk.call hb1
               have own1 := own.below hb1
               clear ownv)
            | (at_builtin
               refine wpList_append_bts rfl (.tmp 42) (.tmp 50) rfl (base := w.heap.size) (ds := encs (its.take k)) rfl rfl own1 hrow.bts hrow.nil (by omega) kk1.2 ?_
               intro v2 w2 own2 gr2 at2
               have kk2 := kk1.append own1 gr2
               clear gr2 at2))
          go_roundw
          case rel => exact ⟨k + 1, by omega, by omega, by go_num, by rw [HS.out, HE.out]; exact own2, kk2⟩
          case measure => simp [intOf]; omega
        · have hE : enc ⟨kd, n, bs⟩ = put m ++ bs := by rw [enc2 h0 h1, ← hbl2]
          rw [hE] at hln
          have HE := Lib.hid hE
          have hpb : ∀ c ∈ put m ++ bs, c < 256 := by
            have := HBY.out
            rw [hE] at this
            exact this
          have hRB := refbytes_any A2 m cc bs (by omega) wr (HBT.out.below kk.1) kk.2 HNIL.out
          generalize put m ++ bs = pb at *
          clear hE
          go_wp2_with (first
            | (go_at_call 12
               refine hRB.mono ?_
               rintro e w1 ⟨v, rfl, ownv, hb1⟩
               obtain ⟨A3, c3, rfl, hrow⟩ := ownv.row (by omega) hpb
               have kk1 := kk.call hb1
               have own1 := own.below hb1
               clear ownv)
            | (at_builtin
               refine wpList_append_bts rfl (.tmp 22) (.tmp 28) rfl (base := w.heap.size) (ds := encs (its.take k)) rfl rfl own1 hrow.bts hrow.nil (by omega) kk1.2 ?_
               intro v2 w2 own2 gr2 at2
               have kk2 := kk1.append own1 gr2
               clear gr2 at2))
          go_roundw
          case rel => exact ⟨k + 1, by omega, by omega, by go_num, by rw [HS.out, HE.out]; exact own2, kk2⟩
          case measure => simp [intOf]; omega
    · have hall : its.take k = its.take 100 := by
        by_cases h : k = 100
        · rw [h]
        · rw [List.take_of_length_le (by omega), List.take_of_length_le (by omega)]
      rw [hall] at own
      have hfl := HBD.out 100 (by omega)
      have hfb := encs_byte (l := its.take 100) (fun x hx => HO.out x (List.mem_of_mem_take hx))
      have hlay := fun W (h : Kept w W) => lay_any a0 len0 cap0 its W (HI.out.kept h)
      clear hall hat
      generalize encs (its.take 100) = full at *
      obtain ⟨A', c', e', hr⟩ := own.row (by omega) hfb
      simp only [Value.slice.injEq] at e'
      obtain ⟨rfl, rfl, rfl⟩ := e'
      have hwant : ∀ W, Kept wr W → (convert 24 9 (.slice WA full.length WC)).run Tryd.prog W = .ok (.string (txt full)) W := fun W h =>
        run_text (c := WC) (hr.below h.1).bts (fun h => by have := hr.nil h; have := hr.room; omega)
      have hl2 : ∀ W, Kept wr W → Calls Tryd.prog 13 #[.slice a0 len0 cap0] W fun e W' => ∃ A cap, e = .returned (.slice A full.length cap) ∧ Row W' A full.length cap full ∧ Kept wr W' := fun W h =>
        (hlay W (kk.trans h)).mono fun _ _ ⟨v, e1, ownv, hb⟩ => by
          obtain ⟨A, cap, rfl, hrow⟩ := ownv.row (by omega) hfb
          exact ⟨A, cap, e1, hrow, h.call hb⟩
      have kd := (Kept.refl wr).drew
      have t0 := hwant _ kd
      have HW := Lib.hid hwant
      have HL := Lib.hid hl2
      clear hlay hwant hl2 own hr hfb
      by_cases hkl : k < len0
      · obtain rfl : k = 100 := by omega
        go_wp2
        go_region_with (first
          | (go_at_call 13
             refine (HL.out _ kd).mono ?_
             rintro e w6 ⟨A, cap, rfl, hr6, k6⟩
             have t6 := run_text (c := cap) hr6.bts (fun h => by have := hr6.nil h; have := hr6.room; omega)
             have t7 := HW.out _ k6))
        all_goals go_wp2
        all_goals go_ret
        all_goals exact ⟨rfl, (kk.trans k6).1⟩
      · obtain rfl : k = len0 := by omega
        go_wp2
        go_region_with (first
          | (go_at_call 13
             refine (HL.out _ kd).mono ?_
             rintro e w6 ⟨A, cap, rfl, hr6, k6⟩
             have t6 := run_text (c := cap) hr6.bts (fun h => by have := hr6.nil h; have := hr6.room; omega)
             have t7 := HW.out _ k6))
        all_goals go_wp2
        all_goals go_ret
        all_goals exact ⟨rfl, (kk.trans k6).1⟩
end Go.Proofs.YtmmmajlfndibnaaDoor
