/- The walk of DiskKeeps. -/
import Derived.Test.YteefeancakeebaaDskD
import Derived.Test.YteefeancakeebaaTypedB
import Derived.Deep.CutRange
import Derived.Deep.DeepCutAuto
import Derived.Deep.CutBlock
namespace Go.Proofs.Yteefeancakeebaa
open Go.RowKit

theorem and_three (n : Int) : ∃ r : Nat, r < 4 ∧ bits BinOp.and IntKind.i64 n 3 = (r : Int) := by
  have h3 : (BitVec.ofInt IntKind.i64.bits 3).toNat = 3 := by decide
  refine ⟨(BitVec.ofInt IntKind.i64.bits n &&& BitVec.ofInt IntKind.i64.bits 3).toNat, ?_, ?_⟩
  · rw [BitVec.toNat_and, h3]
    exact Nat.lt_succ_of_le Nat.and_le_right
  · have hle : (BitVec.ofInt IntKind.i64.bits n &&& BitVec.ofInt IntKind.i64.bits 3).toNat ≤ 3 := by rw [BitVec.toNat_and, h3]; exact Nat.and_le_right
    unfold bits
    simp only [IntKind.wrap_i64]
    omega
/-- at a round's head: the Disk, and what was synced last -/
structure Kp (v W : World) (g : Nat) (bs : List Nat) (s : Nat) (A : Option Addr) (c : Nat) : Prop where
  disk : Dk W g g bs s
  sync : s ≤ bs.length
  kept : Kept v W
  row : Row W A s c (bs.take s)
  far : Far W g A s
theorem Kp.grow {v W W' : World} {g s c : Nat} {bs : List Nat} {A : Option Addr} (h : Kp v W g bs s A c) (k : Kept W W') : Kp v W' g bs s A c :=
  ⟨h.disk.below k.1, h.sync, h.kept.trans k, h.row.below k.1, h.far.below k.1 h.disk.lt⟩
theorem Row.grown {W W' : World} {A : Option Addr} {n c : Nat} {bs : List Nat} {v : Value} (h : Row W A n c bs) (gr : W.grownBy W' v.ownBlock) (hk : ∀ a, A = some a → 0 < n → v.ownBlock ≠ some a.block) : Row W' A n c bs :=
  h.off gr.size fun a ha hn => gr.block a.block (h.block_lt ha hn) fun e => hk a ha hn e.symm

set_option maxRecDepth 100000 in
set_option maxHeartbeats 4000000 in
theorem DiskKeeps_walk (a0 : Option Addr) (len0 cap0 : Nat) (w : World) (w0 : SliceAt 3 40 (fun w cs => cs.length = 3 ∧ IsStruct [(0, 1, (IsInt .i64)), (1, 1, (IsInt .i64)), (2, 1, (IsSlice 1 1 (IsInt .u8)))] w cs) w a0 len0 cap0) :
    Calls Try.prog 4 #[.slice a0 len0 cap0] w fun e w' => e = .returned (.bool true) ∧ Below w.heap.size w w' := by
  have hl0 : len0 ≤ 140737488351232 := by have := w0.2.2.1; omega
  have HDEED := Lib.hid (fun k (hk : k < len0) => deed_at w0 hk)
  clear w0
  go_enter Try.func4, Try.ntmps4
  go_wp2_with fail
  refine (awake_any _).mono ?_
  rintro e v ⟨rfl, h1⟩
  have k1 : Kept w v := (Kept.refl w).call h1
  have K1 := Lib.hid k1
  clear h1 k1
  go_wp2_with fail
  refine (new_any _).mono ?_
  rintro e u ⟨rfl, rfl⟩
  have d2 := Dk.new v v.heap.size (Nat.le_refl _)
  have k2 : Kept v _ := (Kept.refl v).alloc (.cells #[.slice none 0 0, .int .i64 0] 50)
  generalize v.alloc (.cells #[.slice none 0 0, .int .i64 0] 50) = u at *
  have hkp : Kp v u v.heap.size [] 0 none 0 := ⟨d2, Nat.le_refl _, k2, Row.none, fun a e => by cases e⟩
  have HB := Lib.hid hkp
  clear d2 k2 hkp
  go_wp2
  go_loopw [5, 6] (fun q i wr => ∃ (k : Nat) (bs : List Nat) (s : Nat) (A : Option Addr) (c : Nat), k ≤ len0 ∧ k ≤ 100 ∧ i = .int .i64 k ∧ q = .slice A s c ∧ Kp v wr v.heap.size bs s A c) (fun _ i _ => 100 - (intOf i).toNat)
  case atStart => exact ⟨0, [], 0, none, 0, Nat.zero_le _, Nat.zero_le _, rfl, rfl, HB.out⟩
  case round =>
    obtain ⟨k, bs, s, AS, cS, hk, hk1, rfl, rfl, hb⟩ := hrel
    clear HB
    by_cases hgo : k < len0 ∧ k < 100
    · obtain ⟨hg1, hg2⟩ := hgo
      obtain ⟨b, off, kind, n, B, m, d, cs, rfl, hbl, c0, c1, c2, hrow, hm⟩ := HDEED.out k hg1
      have kk := K1.out.trans hb.kept
      obtain ⟨r, hr4, hand⟩ := and_three kind
      go_wp2_with fail
      refine (bytes_any hb.disk).mono ?_
      rintro e w1 ⟨y, rfl, own, h1⟩
      have hbs := hb.disk.most
      have fo := FarO.new hb.disk h1 own (Nat.le_refl _)
      have hge := fun j hj => (World.ownsRow.lt own j hj).1
      obtain ⟨AW, cW, rfl, hrW⟩ := own.row (by omega) hb.disk.byte
      have hfW := Far.new hb.disk h1 own.block_ge
      have kp1 := hb.grow ⟨h1, h1.size⟩
      have kk1 := K1.out.trans kp1.kept
      have c0 := (kk1.cell (p := ⟨b, off + k * 3, none⟩) hbl).trans c0
      have c1 := (kk1.cell (p := ⟨b, off + k * 3 + 1, none⟩) hbl).trans c1
      have c2 := (kk1.cell (p := ⟨b, off + k * 3 + 2, none⟩) hbl).trans c2
      have hsw : Hid (∀ a, AS = some a → 0 < s → (Value.slice AW bs.length cW).ownBlock ≠ some a.block) := Lib.hid fun a ha hn e => by
        have h2 := hge _ e
        have h3 := hb.row.block_lt ha hn
        omega
      have HKP := Lib.hid kp1
      have HOWN := Lib.hid own
      have HFO := Lib.hid fo
      have HRW := Lib.hid hrW
      have HFW := Lib.hid hfW
      have HROW := Lib.hid (hrow.below kk1.1)
      have HROWW := Lib.hid hrow
      have HBL : Hid (wr.heap.size ≤ w1.heap.size) := Lib.hid h1.size
      have HVB : Hid (v.heap.size ≤ wr.heap.size) := Lib.hid hb.kept.2
      have hss := hb.sync
      clear own fo hrW hfW hrow kk kk1 kp1 h1 hb HDEED hge
      go_upto_block 2 with fail
      go_cut [5] (fun q wx => ∃ (pb : List Nat) (ps : Nat) (A : Option Addr) (c : Nat), q = .slice A ps c ∧ Kp v wx v.heap.size pb ps A c)
      case first =>
        obtain rfl | rfl | rfl | rfl : r = 0 ∨ r = 1 ∨ r = 2 ∨ r = 3 := by omega
        ·
          by_cases hf : 1048576 < bs.length + m
          ·
            clear hand
            go_wp2_with (first
              | (go_at_call 19
                 refine (append_full HKP.out.disk _ _ _ hf).mono ?_
                 rintro e u ⟨rfl, rfl⟩)
              | fail)
            have HLEN : Hid (bs.length = bs.length) := Lib.hid rfl
            have HBY := Lib.hid HKP.out.disk.byte
            have T1 := Lib.hid fun (W : World) (h : Kept u.drew W) => (HRW.out.below ((Kept.refl u).drew.trans h).1).text
            have TB := Lib.hid fun (W : World) (h : Kept u.drew W) => bytes_any (HKP.out.disk.below ((Kept.refl u).drew.trans h).1)
            refine wp_region_typed (N := 6) (fl := []) (by kernel_rfl) (by kernel_rfl) ?_
            simp only [List.take_succ_cons, List.take_zero, List.drop_succ_cons, List.drop_zero, List.map_cons, List.map_nil, zipF]
            repeat (first
              | (refine wpT_text rfl rfl rfl ?_; dsimp only [putS, List.set_cons_succ, List.set_cons_zero])
              | (refine wpT_len rfl rfl rfl ?_; dsimp only [putS, List.set_cons_succ, List.set_cons_zero])
              | (refine wpT_slot (S := .has _) _ (.inl rfl) rfl (RowT.mono _ _) rfl ?_; dsimp only [putS, List.set_cons_succ, List.set_cons_zero])
              | (refine wpT_skip rfl ?_; dsimp only [putS, List.set_cons_succ, List.set_cons_zero])
              | (refine wpT_slot (S := .is _) _ (.inl rfl) rfl (Slot.mono_is _) rfl ?_; dsimp only [putS, List.set_cons_succ, List.set_cons_zero])
              | (refine wpT_slot (S := .is _) _ (.inr rfl) rfl (Slot.mono_is _) rfl ?_; dsimp only [putS, List.set_cons_succ, List.set_cons_zero])
              | (refine wpT_exact1 rfl rfl rfl ?_; apply Exists.intro; refine ⟨fun ρ w hk ⟨c1, c2, c3⟩ h1 => ?_, ?_⟩; (· have t1 := T1.out w hk; go_simp; exact rfl); dsimp only [putS, List.set_cons_succ, List.set_cons_zero])
              | (refine wpT_exact2 rfl rfl rfl rfl ?_; apply Exists.intro; refine ⟨fun ρ w hk ⟨c1, c2, c3⟩ h1 h2 => ?_, ?_⟩; (· have t1 := T1.out w hk; go_simp; exact rfl); dsimp only [putS, List.set_cons_succ, List.set_cons_zero])
              | (refine wpT_exact3 rfl rfl rfl rfl rfl ?_; apply Exists.intro; refine ⟨fun ρ w hk ⟨c1, c2, c3⟩ h1 h2 h3 => ?_, ?_⟩; (· have t1 := T1.out w hk; go_simp; exact rfl); dsimp only [putS, List.set_cons_succ, List.set_cons_zero])
              | (refine wpT_exact0 rfl ?_; apply Exists.intro; refine ⟨fun ρ w hk ⟨c1, c2, c3⟩ => ?_, ?_⟩; (· have t1 := T1.out w hk; go_simp; exact rfl); dsimp only [putS, List.set_cons_succ, List.set_cons_zero])
              | (refine wpT_has (RowT.mono bs.length bs) rfl (fun ρ w hk ⟨c1, c2, c3⟩ ⟨h1, _⟩ => ?_) ?_
                 · have h1 : ρ (.tmp 54) = _ := h1
                   refine upT_call 17 #[.pointer (some ⟨v.heap.size, 0, none⟩)] ?_ ((TB.out w hk).mono ?_)
                   · go_simp
                   rintro e u ⟨y, rfl, own, hb⟩
                   exact ⟨_, rfl, ⟨hb, hb.size⟩, own.rowT HLEN.out (by omega) HBY.out⟩
                 dsimp only [putS, List.set_cons_succ, List.set_cons_zero]))
            refine wpT_nil ?_
            intro wz kz
            simp only [Fits]
            intro y _
            refine wpList_end ?_
            go_wp2_with fail
            go_meet
            exact ⟨bs, s, AS, cS, rfl, HKP.out.grow ((Kept.refl u).drew.trans kz)⟩
          ·
            clear hand
            go_wp2_with fail
            refine (append_ok HKP.out.disk HROW.out.bts HROW.out.nil (by omega)).mono ?_
            rintro e w2 ⟨rfl, hd2⟩
            have k2 := hd2.kept HKP.out.kept (Nat.le_refl _)
            have kk2 := K1.out.trans k2
            have c0 := (kk2.cell (p := ⟨b, off + k * 3, none⟩) hbl).trans ((K1.out.trans HKP.out.kept).cell (p := ⟨b, off + k * 3, none⟩) hbl |>.symm.trans c0)
            have c1 := (kk2.cell (p := ⟨b, off + k * 3 + 1, none⟩) hbl).trans ((K1.out.trans HKP.out.kept).cell (p := ⟨b, off + k * 3 + 1, none⟩) hbl |>.symm.trans c1)
            have c2 := (kk2.cell (p := ⟨b, off + k * 3 + 2, none⟩) hbl).trans ((K1.out.trans HKP.out.kept).cell (p := ⟨b, off + k * 3 + 2, none⟩) hbl |>.symm.trans c2)
            obtain ⟨own2, fo2⟩ := hd2.own HOWN.out HFO.out
            obtain ⟨rs2, fs2⟩ := hd2.row HKP.out.row HKP.out.far
            have HD2 := Lib.hid hd2.1
            have HK2 := Lib.hid k2
            have HO2 := Lib.hid own2
            have HF2 := Lib.hid fo2
            have HS2 := Lib.hid rs2
            have HFS2 := Lib.hid fs2
            have HBB := Lib.hid ((HROWW.out.below kk2.1))
            have HSZ : Hid (w1.heap.size ≤ w2.heap.size) := Lib.hid hd2.2.2.size
            clear hd2 k2 kk2 own2 fo2 rs2 fs2
            go_wp2_with (first
              | (at_builtin
                 refine wpList_append_bts rfl (.tmp 47) (.tmp 52) rfl (v := .slice AW bs.length cW) (base := wr.heap.size) (ds := bs) (bs := cs) (n := m) rfl rfl HO2.out HBB.out.bts HBB.out.nil (by omega) (Nat.le_trans HBL.out HSZ.out) ?_
                 intro y3 w3 own3 gr3 at3
                 have d3 := (HD2.out.grown gr3 HF2.out).1
                 have e3 : rowOf w3 v.heap.size = rowOf w2 v.heap.size := (HD2.out.grown gr3 HF2.out).2
                 have k3 : Kept v w3 := ⟨HK2.out.1.grown gr3 HK2.out.2 (fun j hj => by have := (World.ownsRow.lt HO2.out j hj).1; have := HVB.out; omega), Nat.le_trans HK2.out.2 gr3.size⟩
                 have rs3 := HS2.out.grown gr3 hsw.out
                 have fs3 : Far w3 v.heap.size AS s := by unfold Far; rw [e3]; exact HFS2.out
                 obtain ⟨A3, c3, e4, hr3⟩ := own3.row (by rw [List.length_append, HROW.out.len]; omega) (fun x hx => (List.mem_append.1 hx).elim (HKP.out.disk.byte x) (HROW.out.bts.2.2.1 x))
                 obtain ⟨PL, hPL⟩ : ∃ PL, (bs ++ cs).length = PL := ⟨_, rfl⟩
                 rw [hPL] at hr3 e4
                 have HLEN := Lib.hid hPL
                 have HD3 := Lib.hid d3
                 have HK3 := Lib.hid k3
                 have HS3 := Lib.hid rs3
                 have HF3 := Lib.hid fs3
                 have HR3 := Lib.hid hr3
                 subst e4
                 clear own3 gr3 at3 d3 e3 k3 rs3 fs3 hr3 hPL)
              | fail)
            have hlen : PL ≤ 1048576 := by rw [← HLEN.out]; exact HD3.out.most
            have HBY := Lib.hid HD3.out.byte
            have T1 := Lib.hid fun (W : World) (h : Kept w3.drew W) => (HR3.out.below ((Kept.refl w3).drew.trans h).1).text
            have TB := Lib.hid fun (W : World) (h : Kept w3.drew W) => bytes_any (HD3.out.below ((Kept.refl w3).drew.trans h).1)
            have htk : (bs ++ cs).take s = bs.take s := List.take_append_of_le_length hss
            have hsl : s ≤ PL := by rw [← HLEN.out, List.length_append]; omega
            have HTK := Lib.hid htk
            clear htk
            generalize bs ++ cs = pb at *
            refine wp_region_typed (N := 6) (fl := []) (by kernel_rfl) (by kernel_rfl) ?_
            simp only [List.take_succ_cons, List.take_zero, List.drop_succ_cons, List.drop_zero, List.map_cons, List.map_nil, zipF]
            repeat (first
              | (refine wpT_text rfl rfl rfl ?_; dsimp only [putS, List.set_cons_succ, List.set_cons_zero])
              | (refine wpT_len rfl rfl rfl ?_; dsimp only [putS, List.set_cons_succ, List.set_cons_zero])
              | (refine wpT_slot (S := .has _) _ (.inl rfl) rfl (RowT.mono _ _) rfl ?_; dsimp only [putS, List.set_cons_succ, List.set_cons_zero])
              | (refine wpT_skip rfl ?_; dsimp only [putS, List.set_cons_succ, List.set_cons_zero])
              | (refine wpT_slot (S := .is _) _ (.inl rfl) rfl (Slot.mono_is _) rfl ?_; dsimp only [putS, List.set_cons_succ, List.set_cons_zero])
              | (refine wpT_slot (S := .is _) _ (.inr rfl) rfl (Slot.mono_is _) rfl ?_; dsimp only [putS, List.set_cons_succ, List.set_cons_zero])
              | (refine wpT_exact1 rfl rfl rfl ?_; apply Exists.intro; refine ⟨fun ρ w hk ⟨c1, c2, c3⟩ h1 => ?_, ?_⟩; (· have t1 := T1.out w hk; go_simp; exact rfl); dsimp only [putS, List.set_cons_succ, List.set_cons_zero])
              | (refine wpT_exact2 rfl rfl rfl rfl ?_; apply Exists.intro; refine ⟨fun ρ w hk ⟨c1, c2, c3⟩ h1 h2 => ?_, ?_⟩; (· have t1 := T1.out w hk; go_simp; exact rfl); dsimp only [putS, List.set_cons_succ, List.set_cons_zero])
              | (refine wpT_exact3 rfl rfl rfl rfl rfl ?_; apply Exists.intro; refine ⟨fun ρ w hk ⟨c1, c2, c3⟩ h1 h2 h3 => ?_, ?_⟩; (· have t1 := T1.out w hk; go_simp; exact rfl); dsimp only [putS, List.set_cons_succ, List.set_cons_zero])
              | (refine wpT_exact0 rfl ?_; apply Exists.intro; refine ⟨fun ρ w hk ⟨c1, c2, c3⟩ => ?_, ?_⟩; (· have t1 := T1.out w hk; go_simp; exact rfl); dsimp only [putS, List.set_cons_succ, List.set_cons_zero])
              | (refine wpT_has (RowT.mono PL pb) rfl (fun ρ w hk ⟨c1, c2, c3⟩ ⟨h1, _⟩ => ?_) ?_
                 · have h1 : ρ (.tmp 54) = _ := h1
                   refine upT_call 17 #[.pointer (some ⟨v.heap.size, 0, none⟩)] ?_ ((TB.out w hk).mono ?_)
                   · go_simp
                   rintro e u ⟨y, rfl, own, hb⟩
                   exact ⟨_, rfl, ⟨hb, hb.size⟩, own.rowT HLEN.out (by omega) HBY.out⟩
                 dsimp only [putS, List.set_cons_succ, List.set_cons_zero]))
            refine wpT_nil ?_
            intro wz kz
            simp only [Fits]
            intro y _
            refine wpList_end ?_
            go_wp2_with fail
            go_meet
            have kz3 : Kept w3 wz := (Kept.refl w3).drew.trans kz
            exact ⟨pb, s, AS, cS, rfl, Kp.grow ⟨HD3.out, by rw [HLEN.out]; exact hsl, HK3.out, by rw [HTK.out]; exact HS3.out, HF3.out⟩ kz3⟩
        ·
          clear hand
          go_wp2_with fail
          refine (sync_any HKP.out.disk).mono ?_
          rintro e w2 ⟨rfl, hd2⟩
          have k2 := hd2.kept HKP.out.kept (Nat.le_refl _)
          obtain ⟨rw2, fw2⟩ := hd2.row HRW.out HFW.out
          have d2 := hd2.1
          clear hd2
          go_wp2_with fail
          refine (bytes_any d2).mono ?_
          rintro e w3 ⟨y, rfl, own, h3⟩
          obtain ⟨A3, c3, rfl, hr3⟩ := own.row (by omega) d2.byte
          have f3 := Far.new d2 h3 own.block_ge
          have HK3 : Hid (Kp v w3 v.heap.size bs bs.length A3 c3) := Lib.hid ⟨d2.below h3, Nat.le_refl _, k2.trans ⟨h3, h3.size⟩, by rw [List.take_length]; exact hr3, f3⟩
          have t1 := hr3.text
          have t2 := (rw2.below h3).text
          clear own h3 d2 k2 rw2 fw2 hr3 f3
          go_wp2_with fail
          go_meet
          exact ⟨bs, bs.length, A3, c3, rfl, HK3.out⟩
        ·
          clear hand
          go_wp2_with fail
          refine (crash_any HKP.out.disk hss n).mono ?_
          rintro e w2 ⟨rfl, hd2⟩
          have hq : s + kept n (bs.length - s) ≤ bs.length := by have := kept_le' n (bs.length - s); omega
          generalize s + kept n (bs.length - s) = q at *
          have k2 := hd2.kept HKP.out.kept (Nat.le_refl _)
          obtain ⟨rw2, fw2⟩ := hd2.row HRW.out HFW.out
          have d2 := hd2.1
          clear hd2
          go_wp2_with fail
          have htl : (bs.take q).length = q := by rw [List.length_take]; omega
          refine (bytes_any d2).mono ?_
          rintro e w3 ⟨y, rfl, own, h3⟩
          obtain ⟨A3, c3, rfl, hr3⟩ := own.row (by omega) d2.byte
          have f3 := Far.new d2 h3 own.block_ge
          rw [htl] at hr3 f3 ⊢
          have HK3 : Hid (Kp v w3 v.heap.size (bs.take q) q A3 c3) := Lib.hid ⟨d2.below h3, by rw [htl]; exact Nat.le_refl _, k2.trans ⟨h3, h3.size⟩, by rw [List.take_take, Nat.min_self]; exact hr3, f3⟩
          have T1 := Lib.hid fun (W : World) (h : Kept w3.drew W) => (hr3.below ((Kept.refl w3).drew.trans h).1).text
          have T2 := Lib.hid fun (W : World) (h : Kept w3.drew W) => (((rw2.cut hq).below h3).below ((Kept.refl w3).drew.trans h).1).text
          have TS := Lib.hid fun (W : World) (h : Kept w3.drew W) => synced_any (HK3.out.disk.below ((Kept.refl w3).drew.trans h).1)
          have hs := fun W => run_head AW bs.length cW q (by have := HRW.out.room; omega) W
          have hd1 : decide (bs.length < q) = false := decide_eq_false (by omega)
          have hd2 : decide ((bs.length : Int) < (q : Int)) = false := decide_eq_false (by omega)
          clear own h3 d2 k2 rw2 fw2 hr3 f3 htl
          generalize bs.length = L at *
          generalize txt (bs.take q) = X at *
          go_wp2_with fail
          refine wp_region_typed (N := 22) (fl := []) (by kernel_rfl) (by kernel_rfl) ?_
          simp only [List.take_succ_cons, List.take_zero, List.drop_succ_cons, List.drop_zero, List.map_cons, List.map_nil, zipF]
          repeat (first
            | (refine wpT_skip rfl ?_; dsimp only [putS, List.set_cons_succ, List.set_cons_zero])
            | (refine wpT_slot (S := .is _) _ (.inl rfl) rfl (Slot.mono_is _) rfl ?_; dsimp only [putS, List.set_cons_succ, List.set_cons_zero])
            | (refine wpT_slot (S := .is _) _ (.inr rfl) rfl (Slot.mono_is _) rfl ?_; dsimp only [putS, List.set_cons_succ, List.set_cons_zero])
            | (refine wpT_exact1 rfl rfl rfl ?_; apply Exists.intro; refine ⟨fun ρ w hk ⟨c1, c2, c3⟩ h1 => ?_, ?_⟩; (· have t1 := T1.out w hk; have t2 := T2.out w hk; go_simp; exact rfl); dsimp only [putS, List.set_cons_succ, List.set_cons_zero])
            | (refine wpT_exact2 rfl rfl rfl rfl ?_; apply Exists.intro; refine ⟨fun ρ w hk ⟨c1, c2, c3⟩ h1 h2 => ?_, ?_⟩; (· have t1 := T1.out w hk; have t2 := T2.out w hk; go_simp; exact rfl); dsimp only [putS, List.set_cons_succ, List.set_cons_zero])
            | (refine wpT_exact3 rfl rfl rfl rfl rfl ?_; apply Exists.intro; refine ⟨fun ρ w hk ⟨c1, c2, c3⟩ h1 h2 h3 => ?_, ?_⟩; (· have t1 := T1.out w hk; have t2 := T2.out w hk; go_simp; exact rfl); dsimp only [putS, List.set_cons_succ, List.set_cons_zero])
            | (refine wpT_exact0 rfl ?_; apply Exists.intro; refine ⟨fun ρ w hk ⟨c1, c2, c3⟩ => ?_, ?_⟩; (· have t1 := T1.out w hk; have t2 := T2.out w hk; go_simp; exact rfl); dsimp only [putS, List.set_cons_succ, List.set_cons_zero])
            | (refine wpT_is (.int .i64 (q : Int)) rfl (fun ρ w hk ⟨c1, c2, c3⟩ ⟨h1, _⟩ => ?_) ?_
               · have h1 : ρ (.tmp 98) = _ := h1
                 refine upT_call 18 #[.pointer (some ⟨v.heap.size, 0, none⟩)] ?_ ((TS.out w hk).mono ?_)
                 · go_simp
                 rintro e u ⟨rfl, rfl⟩
                 exact ⟨_, rfl, Kept.refl _, rfl⟩
               dsimp only [putS, List.set_cons_succ, List.set_cons_zero]))
          refine wpT_nil ?_
          intro wz kz
          simp only [Fits]
          refine wpList_end ?_
          go_wp2_with fail
          go_meet
          exact ⟨bs.take q, q, A3, c3, rfl, HK3.out.grow ((Kept.refl w3).drew.trans kz)⟩
        ·
          by_cases hf : 1048576 < bs.length + m
          ·
            clear hand
            go_wp2_with (first
              | (go_at_call 19
                 refine (append_full HKP.out.disk _ _ _ hf).mono ?_
                 rintro e u ⟨rfl, rfl⟩)
              | fail)
            have HLEN : Hid (bs.length = bs.length) := Lib.hid rfl
            have HBY := Lib.hid HKP.out.disk.byte
            have T1 := Lib.hid fun (W : World) (h : Kept u.drew W) => (HRW.out.below ((Kept.refl u).drew.trans h).1).text
            have TB := Lib.hid fun (W : World) (h : Kept u.drew W) => bytes_any (HKP.out.disk.below ((Kept.refl u).drew.trans h).1)
            refine wp_region_typed (N := 6) (fl := []) (by kernel_rfl) (by kernel_rfl) ?_
            simp only [List.take_succ_cons, List.take_zero, List.drop_succ_cons, List.drop_zero, List.map_cons, List.map_nil, zipF]
            repeat (first
              | (refine wpT_text rfl rfl rfl ?_; dsimp only [putS, List.set_cons_succ, List.set_cons_zero])
              | (refine wpT_len rfl rfl rfl ?_; dsimp only [putS, List.set_cons_succ, List.set_cons_zero])
              | (refine wpT_slot (S := .has _) _ (.inl rfl) rfl (RowT.mono _ _) rfl ?_; dsimp only [putS, List.set_cons_succ, List.set_cons_zero])
              | (refine wpT_skip rfl ?_; dsimp only [putS, List.set_cons_succ, List.set_cons_zero])
              | (refine wpT_slot (S := .is _) _ (.inl rfl) rfl (Slot.mono_is _) rfl ?_; dsimp only [putS, List.set_cons_succ, List.set_cons_zero])
              | (refine wpT_slot (S := .is _) _ (.inr rfl) rfl (Slot.mono_is _) rfl ?_; dsimp only [putS, List.set_cons_succ, List.set_cons_zero])
              | (refine wpT_exact1 rfl rfl rfl ?_; apply Exists.intro; refine ⟨fun ρ w hk ⟨c1, c2, c3⟩ h1 => ?_, ?_⟩; (· have t1 := T1.out w hk; go_simp; exact rfl); dsimp only [putS, List.set_cons_succ, List.set_cons_zero])
              | (refine wpT_exact2 rfl rfl rfl rfl ?_; apply Exists.intro; refine ⟨fun ρ w hk ⟨c1, c2, c3⟩ h1 h2 => ?_, ?_⟩; (· have t1 := T1.out w hk; go_simp; exact rfl); dsimp only [putS, List.set_cons_succ, List.set_cons_zero])
              | (refine wpT_exact3 rfl rfl rfl rfl rfl ?_; apply Exists.intro; refine ⟨fun ρ w hk ⟨c1, c2, c3⟩ h1 h2 h3 => ?_, ?_⟩; (· have t1 := T1.out w hk; go_simp; exact rfl); dsimp only [putS, List.set_cons_succ, List.set_cons_zero])
              | (refine wpT_exact0 rfl ?_; apply Exists.intro; refine ⟨fun ρ w hk ⟨c1, c2, c3⟩ => ?_, ?_⟩; (· have t1 := T1.out w hk; go_simp; exact rfl); dsimp only [putS, List.set_cons_succ, List.set_cons_zero])
              | (refine wpT_has (RowT.mono bs.length bs) rfl (fun ρ w hk ⟨c1, c2, c3⟩ ⟨h1, _⟩ => ?_) ?_
                 · have h1 : ρ (.tmp 54) = _ := h1
                   refine upT_call 17 #[.pointer (some ⟨v.heap.size, 0, none⟩)] ?_ ((TB.out w hk).mono ?_)
                   · go_simp
                   rintro e u ⟨y, rfl, own, hb⟩
                   exact ⟨_, rfl, ⟨hb, hb.size⟩, own.rowT HLEN.out (by omega) HBY.out⟩
                 dsimp only [putS, List.set_cons_succ, List.set_cons_zero]))
            refine wpT_nil ?_
            intro wz kz
            simp only [Fits]
            intro y _
            refine wpList_end ?_
            go_wp2_with fail
            go_meet
            exact ⟨bs, s, AS, cS, rfl, HKP.out.grow ((Kept.refl u).drew.trans kz)⟩
          ·
            clear hand
            go_wp2_with fail
            refine (append_ok HKP.out.disk HROW.out.bts HROW.out.nil (by omega)).mono ?_
            rintro e w2 ⟨rfl, hd2⟩
            have k2 := hd2.kept HKP.out.kept (Nat.le_refl _)
            have kk2 := K1.out.trans k2
            have c0 := (kk2.cell (p := ⟨b, off + k * 3, none⟩) hbl).trans ((K1.out.trans HKP.out.kept).cell (p := ⟨b, off + k * 3, none⟩) hbl |>.symm.trans c0)
            have c1 := (kk2.cell (p := ⟨b, off + k * 3 + 1, none⟩) hbl).trans ((K1.out.trans HKP.out.kept).cell (p := ⟨b, off + k * 3 + 1, none⟩) hbl |>.symm.trans c1)
            have c2 := (kk2.cell (p := ⟨b, off + k * 3 + 2, none⟩) hbl).trans ((K1.out.trans HKP.out.kept).cell (p := ⟨b, off + k * 3 + 2, none⟩) hbl |>.symm.trans c2)
            obtain ⟨own2, fo2⟩ := hd2.own HOWN.out HFO.out
            obtain ⟨rs2, fs2⟩ := hd2.row HKP.out.row HKP.out.far
            have HD2 := Lib.hid hd2.1
            have HK2 := Lib.hid k2
            have HO2 := Lib.hid own2
            have HF2 := Lib.hid fo2
            have HS2 := Lib.hid rs2
            have HFS2 := Lib.hid fs2
            have HBB := Lib.hid ((HROWW.out.below kk2.1))
            have HSZ : Hid (w1.heap.size ≤ w2.heap.size) := Lib.hid hd2.2.2.size
            clear hd2 k2 kk2 own2 fo2 rs2 fs2
            go_wp2_with (first
              | (at_builtin
                 refine wpList_append_bts rfl (.tmp 47) (.tmp 52) rfl (v := .slice AW bs.length cW) (base := wr.heap.size) (ds := bs) (bs := cs) (n := m) rfl rfl HO2.out HBB.out.bts HBB.out.nil (by omega) (Nat.le_trans HBL.out HSZ.out) ?_
                 intro y3 w3 own3 gr3 at3
                 have d3 := (HD2.out.grown gr3 HF2.out).1
                 have e3 : rowOf w3 v.heap.size = rowOf w2 v.heap.size := (HD2.out.grown gr3 HF2.out).2
                 have k3 : Kept v w3 := ⟨HK2.out.1.grown gr3 HK2.out.2 (fun j hj => by have := (World.ownsRow.lt HO2.out j hj).1; have := HVB.out; omega), Nat.le_trans HK2.out.2 gr3.size⟩
                 have rs3 := HS2.out.grown gr3 hsw.out
                 have fs3 : Far w3 v.heap.size AS s := by unfold Far; rw [e3]; exact HFS2.out
                 obtain ⟨A3, c3, e4, hr3⟩ := own3.row (by rw [List.length_append, HROW.out.len]; omega) (fun x hx => (List.mem_append.1 hx).elim (HKP.out.disk.byte x) (HROW.out.bts.2.2.1 x))
                 obtain ⟨PL, hPL⟩ : ∃ PL, (bs ++ cs).length = PL := ⟨_, rfl⟩
                 rw [hPL] at hr3 e4
                 have HLEN := Lib.hid hPL
                 have HD3 := Lib.hid d3
                 have HK3 := Lib.hid k3
                 have HS3 := Lib.hid rs3
                 have HF3 := Lib.hid fs3
                 have HR3 := Lib.hid hr3
                 subst e4
                 clear own3 gr3 at3 d3 e3 k3 rs3 fs3 hr3 hPL)
              | fail)
            have hlen : PL ≤ 1048576 := by rw [← HLEN.out]; exact HD3.out.most
            have HBY := Lib.hid HD3.out.byte
            have T1 := Lib.hid fun (W : World) (h : Kept w3.drew W) => (HR3.out.below ((Kept.refl w3).drew.trans h).1).text
            have TB := Lib.hid fun (W : World) (h : Kept w3.drew W) => bytes_any (HD3.out.below ((Kept.refl w3).drew.trans h).1)
            have htk : (bs ++ cs).take s = bs.take s := List.take_append_of_le_length hss
            have hsl : s ≤ PL := by rw [← HLEN.out, List.length_append]; omega
            have HTK := Lib.hid htk
            clear htk
            generalize bs ++ cs = pb at *
            refine wp_region_typed (N := 6) (fl := []) (by kernel_rfl) (by kernel_rfl) ?_
            simp only [List.take_succ_cons, List.take_zero, List.drop_succ_cons, List.drop_zero, List.map_cons, List.map_nil, zipF]
            repeat (first
              | (refine wpT_text rfl rfl rfl ?_; dsimp only [putS, List.set_cons_succ, List.set_cons_zero])
              | (refine wpT_len rfl rfl rfl ?_; dsimp only [putS, List.set_cons_succ, List.set_cons_zero])
              | (refine wpT_slot (S := .has _) _ (.inl rfl) rfl (RowT.mono _ _) rfl ?_; dsimp only [putS, List.set_cons_succ, List.set_cons_zero])
              | (refine wpT_skip rfl ?_; dsimp only [putS, List.set_cons_succ, List.set_cons_zero])
              | (refine wpT_slot (S := .is _) _ (.inl rfl) rfl (Slot.mono_is _) rfl ?_; dsimp only [putS, List.set_cons_succ, List.set_cons_zero])
              | (refine wpT_slot (S := .is _) _ (.inr rfl) rfl (Slot.mono_is _) rfl ?_; dsimp only [putS, List.set_cons_succ, List.set_cons_zero])
              | (refine wpT_exact1 rfl rfl rfl ?_; apply Exists.intro; refine ⟨fun ρ w hk ⟨c1, c2, c3⟩ h1 => ?_, ?_⟩; (· have t1 := T1.out w hk; go_simp; exact rfl); dsimp only [putS, List.set_cons_succ, List.set_cons_zero])
              | (refine wpT_exact2 rfl rfl rfl rfl ?_; apply Exists.intro; refine ⟨fun ρ w hk ⟨c1, c2, c3⟩ h1 h2 => ?_, ?_⟩; (· have t1 := T1.out w hk; go_simp; exact rfl); dsimp only [putS, List.set_cons_succ, List.set_cons_zero])
              | (refine wpT_exact3 rfl rfl rfl rfl rfl ?_; apply Exists.intro; refine ⟨fun ρ w hk ⟨c1, c2, c3⟩ h1 h2 h3 => ?_, ?_⟩; (· have t1 := T1.out w hk; go_simp; exact rfl); dsimp only [putS, List.set_cons_succ, List.set_cons_zero])
              | (refine wpT_exact0 rfl ?_; apply Exists.intro; refine ⟨fun ρ w hk ⟨c1, c2, c3⟩ => ?_, ?_⟩; (· have t1 := T1.out w hk; go_simp; exact rfl); dsimp only [putS, List.set_cons_succ, List.set_cons_zero])
              | (refine wpT_has (RowT.mono PL pb) rfl (fun ρ w hk ⟨c1, c2, c3⟩ ⟨h1, _⟩ => ?_) ?_
                 · have h1 : ρ (.tmp 54) = _ := h1
                   refine upT_call 17 #[.pointer (some ⟨v.heap.size, 0, none⟩)] ?_ ((TB.out w hk).mono ?_)
                   · go_simp
                   rintro e u ⟨y, rfl, own, hb⟩
                   exact ⟨_, rfl, ⟨hb, hb.size⟩, own.rowT HLEN.out (by omega) HBY.out⟩
                 dsimp only [putS, List.set_cons_succ, List.set_cons_zero]))
            refine wpT_nil ?_
            intro wz kz
            simp only [Fits]
            intro y _
            refine wpList_end ?_
            go_wp2_with fail
            go_meet
            have kz3 : Kept w3 wz := (Kept.refl w3).drew.trans kz
            exact ⟨pb, s, AS, cS, rfl, Kp.grow ⟨HD3.out, by rw [HLEN.out]; exact hsl, HK3.out, by rw [HTK.out]; exact HS3.out, HF3.out⟩ kz3⟩
      case rest =>
        obtain ⟨pb, ps, A, c, rfl, hkp⟩ := hcut
        clear c0 c1 c2 HKP HOWN HFO HRW HFW HROW hsw
        go_wp2_with fail
        refine (bytes_any hkp.disk).mono ?_
        rintro e w2 ⟨y, rfl, own, h2⟩
        have hmost := hkp.disk.most
        have hps := hkp.sync
        obtain ⟨A2, c2, rfl, hr2⟩ := own.row (by omega) hkp.disk.byte
        have kp2 := hkp.grow ⟨h2, h2.size⟩
        have hs := fun W => run_head A2 pb.length c2 ps (by have := hr2.room; omega) W
        have T1 := Lib.hid fun (W : World) (h : Kept w2.drew W) => ((hr2.cut hps).below ((Kept.refl w2).drew.trans h).1).text
        have T2 := Lib.hid fun (W : World) (h : Kept w2.drew W) => (kp2.row.below ((Kept.refl w2).drew.trans h).1).text
        have TS := Lib.hid fun (W : World) (h : Kept w2.drew W) => synced_any (kp2.disk.below ((Kept.refl w2).drew.trans h).1)
        have HK2 := Lib.hid kp2
        have hd1 : decide (pb.length < ps) = false := decide_eq_false (by omega)
        have hd2 : decide ((pb.length : Int) < (ps : Int)) = false := decide_eq_false (by omega)
        clear own h2 hkp kp2 hr2
        generalize pb.length = L at *
        generalize txt (pb.take ps) = X at *
        go_wp2_with fail
        refine wp_region_typed (N := 22) (fl := []) (by kernel_rfl) (by kernel_rfl) ?_
        simp only [List.take_succ_cons, List.take_zero, List.drop_succ_cons, List.drop_zero, List.map_cons, List.map_nil, zipF]
        repeat (first
          | (refine wpT_skip rfl ?_; dsimp only [putS, List.set_cons_succ, List.set_cons_zero])
          | (refine wpT_slot (S := .is _) _ (.inl rfl) rfl (Slot.mono_is _) rfl ?_; dsimp only [putS, List.set_cons_succ, List.set_cons_zero])
          | (refine wpT_slot (S := .is _) _ (.inr rfl) rfl (Slot.mono_is _) rfl ?_; dsimp only [putS, List.set_cons_succ, List.set_cons_zero])
          | (refine wpT_exact1 rfl rfl rfl ?_; apply Exists.intro; refine ⟨fun ρ w hk ⟨c1, c2, c3⟩ h1 => ?_, ?_⟩; (· have t1 := T1.out w hk; have t2 := T2.out w hk; go_simp; exact rfl); dsimp only [putS, List.set_cons_succ, List.set_cons_zero])
          | (refine wpT_exact2 rfl rfl rfl rfl ?_; apply Exists.intro; refine ⟨fun ρ w hk ⟨c1, c2, c3⟩ h1 h2 => ?_, ?_⟩; (· have t1 := T1.out w hk; have t2 := T2.out w hk; go_simp; exact rfl); dsimp only [putS, List.set_cons_succ, List.set_cons_zero])
          | (refine wpT_exact3 rfl rfl rfl rfl rfl ?_; apply Exists.intro; refine ⟨fun ρ w hk ⟨c1, c2, c3⟩ h1 h2 h3 => ?_, ?_⟩; (· have t1 := T1.out w hk; have t2 := T2.out w hk; go_simp; exact rfl); dsimp only [putS, List.set_cons_succ, List.set_cons_zero])
          | (refine wpT_exact0 rfl ?_; apply Exists.intro; refine ⟨fun ρ w hk ⟨c1, c2, c3⟩ => ?_, ?_⟩; (· have t1 := T1.out w hk; have t2 := T2.out w hk; go_simp; exact rfl); dsimp only [putS, List.set_cons_succ, List.set_cons_zero])
          | (refine wpT_is (.int .i64 (ps : Int)) rfl (fun ρ w hk ⟨c1, c2, c3⟩ ⟨h1, _⟩ => ?_) ?_
             · have h1 : ρ (.tmp 123) = _ := h1
               refine upT_call 18 #[.pointer (some ⟨v.heap.size, 0, none⟩)] ?_ ((TS.out w hk).mono ?_)
               · go_simp
               rintro e u ⟨rfl, rfl⟩
               exact ⟨_, rfl, Kept.refl _, rfl⟩
             dsimp only [putS, List.set_cons_succ, List.set_cons_zero]))
        refine wpT_nil ?_
        intro wz kz
        simp only [Fits]
        refine wpList_end ?_
        have HZ := Lib.hid (HK2.out.grow ((Kept.refl w2).drew.trans kz))
        clear HK2 T1 T2 TS kz hs hd1 hd2
        go_wp2
        go_roundw
        case rel => exact ⟨k + 1, pb, ps, A, c, by omega, by omega, by go_num, rfl, HZ.out⟩
        case measure => simp [intOf]; omega
    · by_cases hkl : k < len0
      · obtain rfl : k = 100 := by omega
        go_wp2
        go_ret
        exact ⟨rfl, (K1.out.trans hb.kept).1⟩
      · obtain rfl : k = len0 := by omega
        go_wp2
        go_ret
        exact ⟨rfl, (K1.out.trans hb.kept).1⟩
end Go.Proofs.Yteefeancakeebaa
