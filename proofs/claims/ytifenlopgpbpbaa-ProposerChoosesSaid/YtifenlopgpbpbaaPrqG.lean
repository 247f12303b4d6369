/- Choose of the document. -/
import Derived.Test.YtifenlopgpbpbaaPrqD
import Derived.Test.YtifenlopgpbpbaaBalR
namespace Go.Proofs.Ytifenlopgpbpbaa
open Go.RowKit

/-- the place of the greatest one so far -/
def Best (n : Int) (l : List It) (k : Nat) : Option Nat → Prop
  | none => gP ((l.take k).filter (okP n)) = none
  | some j => ∃ h : j < l.length, j < k ∧ gP ((l.take k).filter (okP n)) = some l[j]
/-- what the document's Choose tells -/
def RCho (o : Option (List Nat)) (b : Bool) (bs : List Nat) : Prop := match o with | none => b = false ∧ bs = [] | some cs => b = true ∧ bs = cs
def bestV : Option Nat → Value
  | none => .int .i64 (-1)
  | some j => .int .i64 (j : Int)

set_option maxRecDepth 100000 in
set_option maxHeartbeats 8000000 in
theorem refchoose_any {w : World} {A : Option Addr} {N cap : Nat} {l : List It} {n : Int} (hl : l.length = N) (hR : EPr.Reads w A l) (hV : ∀ x ∈ l, Row w x.A x.r.val.length x.c x.r.val) (hW : ∀ x ∈ l, -9223372036854775808 ≤ x.r.who ∧ x.r.who ≤ 9223372036854775807)
    (hN : N ≤ 1099511627775) (hn : n ≤ 9223372036854775807) :
    Calls Try.prog 11 #[.slice A N cap, .int .i64 n] w fun e w' => ∃ v b bs B c, e = .returned (.tuple #[v, .bool b]) ∧ Kept w w' ∧ v = .slice B bs.length c ∧ Row w' B bs.length c bs ∧ RCho (chooseP (l.map It.r) n) b bs := by
  have HL := Lib.hid hl
  have HR := Lib.hid (show EP.Reads w A l from hR.as (fun _ => rfl) rfl)
  have HV := Lib.hid hV
  have HW := Lib.hid hW
  have HN := Lib.hid hn
  have HT : Hid (l.take l.length = l) := Lib.hid (by rw [List.take_length])
  clear hl hR hV hW hn
  go_enter Try.func11, Try.ntmps11
  go_wp2
  go_loopw [6, 7, 8] (fun f o i wr => ∃ (k : Nat) (j : Option Nat), k ≤ N ∧ i = .int .i64 k ∧ o = bestV j ∧ Best n l k j ∧ Kept w wr ∧ OwnZ wr w.heap.size f ((l.take k).map fun x => x.r.who)) (fun _ _ i _ => N - (intOf i).toNat)
  case atStart => exact ⟨0, none, Nat.zero_le _, rfl, rfl, rfl, Kept.refl _, OwnZ.nil _ _⟩
  case round =>
    obtain ⟨k, j, hk, rfl, rfl, hbest, kk, ownf⟩ := hrel
    have KK := Lib.hid kk
    have HF := Lib.hid ownf
    have HB := Lib.hid hbest
    by_cases hlt : k < N
    · have hkl : k < l.length := by rw [HL.out]; exact hlt
      obtain ⟨b, off, rfl, hb, c0, c1, c2, c3, c4⟩ := EP_five (HR.out.kept kk) hkl
      have HSN : Hid ((l.take (k + 1)).map (fun x : It => x.r.who) = (l.take k).map (fun x : It => x.r.who) ++ [l[k].r.who]) := Lib.hid (by rw [List.take_succ_eq_append_getElem hkl, List.map_append]; rfl)
      have HSF : Hid (gP ((l.take (k + 1)).filter (okP n)) = if okP n l[k] = true then gStep (gP ((l.take k).filter (okP n))) l[k] else gP ((l.take k).filter (okP n))) := Lib.hid (by
        rw [List.take_succ_eq_append_getElem hkl, List.filter_append, List.filter_cons, List.filter_nil]
        split
        · rw [gP_snoc]
        · rw [List.append_nil])
      have HL1 : Hid (((l.take k).map (fun x : It => x.r.who)).length ≤ 1099511627775) := Lib.hid (by rw [List.length_map, List.length_take]; omega)
      have BK : Hid (okP n l[k] = true → gStep (gP ((l.take k).filter (okP n))) l[k] = some l[k] → Best n l (k + 1) (some k)) := Lib.hid (fun h1 h2 => ⟨hkl, Nat.lt_succ_self _, by rw [HSF.out, if_pos h1]; exact h2⟩)
      have BO : Hid ((okP n l[k] = false ∨ gStep (gP ((l.take k).filter (okP n))) l[k] = gP ((l.take k).filter (okP n))) → Best n l (k + 1) j) := Lib.hid (fun h => by
        have e : gP ((l.take (k + 1)).filter (okP n)) = gP ((l.take k).filter (okP n)) := by
          rw [HSF.out]
          split
          · rename_i h1
            rcases h with h | h
            · rw [h] at h1; cases h1
            · exact h
          · rfl
        cases j with
        | none => exact e.trans HB.out
        | some i => obtain ⟨h1, h2, h3⟩ := HB.out; exact ⟨h1, by omega, e.trans h3⟩)
      have HI := Lib.hid (fun who : Int => refsite_any who n)
      obtain ⟨x, hx⟩ : ∃ x, l[k] = x := ⟨_, rfl⟩
      rw [hx] at c0 c1 c2 c3 c4 BK BO
      have HSN2 := Lib.hid HSN.out
      rw [hx] at HSN2
      have HXE := Lib.hid hx
      clear HSN HSF
      have HX := Lib.hid (show okP n x = (x.r.so && isSiteB x.r.who n) from rfl)
      obtain ⟨⟨who, so, ar, as_, val⟩, B, c⟩ := x
      simp only at c0 c1 c2 c3 c4 HX HSN2
      generalize (l.take k).map (fun x : It => x.r.who) = L at *
      have own1 := HF.out.below ((Kept.refl wr).alloc (.cells #[.int .i64 who] 3)).1
      have OA := Lib.hid own1
      have HBL := Lib.hid (show b < wr.heap.size from hb)
      clear own1 ownf kk hb hbest hx
      go_wp2_with (first
        | (at_builtin
           refine wpList_append_ints rfl (.tmp 15) (.tmp 21) rfl (v := u6) (base := w.heap.size) (ds := L) (xs := [who]) (off := 0) (n := 1) (c := 1) rfl rfl OA.out rfl (fun i hi => ?_) (by have := HL1.out; omega) (KK.out.alloc _).2 ?_
           · obtain rfl : i = 0 := by simpa using hi
             exact cell_of_heap (push_new wr _) 0
           intro y4 v4 own4 gr4 at4
           have k4 := Lib.hid (Kept.grow (KK.out.alloc _) OA.out (Nat.le_refl _) gr4)
           have own4 := Lib.hid own4
           clear gr4 at4)
        | fail)
      have TK : Hid (∀ W, Kept v4.drew W → W.cell? ⟨b, off + k * 5, none⟩ = some (.int .i64 who) ∧ W.cell? ⟨b, off + k * 5 + 1, none⟩ = some (.bool so) ∧ W.cell? ⟨b, off + k * 5 + 2, none⟩ = some (.int .i64 ar) ∧ W.cell? ⟨b, off + k * 5 + 3, none⟩ = some (.int .i64 as_)) := Lib.hid (fun W hk => by
        have k' : Kept w W := k4.out.trans ((Kept.refl _).drew.trans hk)
        obtain ⟨b', off', e', hb', d0, d1, d2, d3, d4⟩ := EP_five (HR.out.kept k') hkl
        obtain ⟨rfl, rfl⟩ : b = b' ∧ off = off' := by injection e' with e'; injection e' with h1 h2; exact ⟨h1, h2⟩
        rw [HXE.out] at d0 d1 d2 d3
        exact ⟨d0, d1, d2, d3⟩)
      clear c0 c1 c2 c3 c4
      have HII := Lib.hid (HI.out who)
      clear HI
      have HI := HII
      clear HII
      cases so with
      | false =>
        have hok : okP n ⟨⟨who, false, ar, as_, val⟩, B, c⟩ = false := by rw [HX.out]; rfl
        have HBO := Lib.hid (BO.out (.inl hok))
        clear hok BO BK HX
        cases j with
        | none =>
          simp only [bestV] at *
          refine wp_region_typed (N := 32) (fl := []) (by kernel_rfl) (by kernel_rfl) ?_
          simp only [List.take_succ_cons, List.take_zero, List.drop_succ_cons, List.drop_zero, List.map_cons, List.map_nil, zipF]
          repeat (first
            | (refine wpT_skip rfl ?_; dsimp only [putS, List.set_cons_succ, List.set_cons_zero])
            | (refine wpT_slot (S := .is _) _ (.inl rfl) rfl (Slot.mono_is _) rfl ?_; dsimp only [putS, List.set_cons_succ, List.set_cons_zero])
            | (refine wpT_slot (S := .is _) _ (.inr rfl) rfl (Slot.mono_is _) rfl ?_; dsimp only [putS, List.set_cons_succ, List.set_cons_zero])
            | (refine wpT_exact1 rfl rfl rfl ?_; apply Exists.intro; refine ⟨fun ρ w hk ⟨c1, c2, c3⟩ h1 => ?_, ?_⟩; (· obtain ⟨t1, t2, t3, t4⟩ := TK.out w hk; go_simp; exact rfl); dsimp only [putS, List.set_cons_succ, List.set_cons_zero])
            | (refine wpT_exact2 rfl rfl rfl rfl ?_; apply Exists.intro; refine ⟨fun ρ w hk ⟨c1, c2, c3⟩ h1 h2 => ?_, ?_⟩; (· obtain ⟨t1, t2, t3, t4⟩ := TK.out w hk; go_simp; exact rfl); dsimp only [putS, List.set_cons_succ, List.set_cons_zero])
            | (refine wpT_exact3 rfl rfl rfl rfl rfl ?_; apply Exists.intro; refine ⟨fun ρ w hk ⟨c1, c2, c3⟩ h1 h2 h3 => ?_, ?_⟩; (· obtain ⟨t1, t2, t3, t4⟩ := TK.out w hk; go_simp; exact rfl); dsimp only [putS, List.set_cons_succ, List.set_cons_zero])
            | (refine wpT_exact4 rfl rfl rfl rfl rfl rfl ?_; apply Exists.intro; refine ⟨fun ρ w hk ⟨c1, c2, c3⟩ h1 h2 h3 h4 => ?_, ?_⟩; (· obtain ⟨t1, t2, t3, t4⟩ := TK.out w hk; go_simp; exact rfl); dsimp only [putS, List.set_cons_succ, List.set_cons_zero])
            | (refine wpT_exact0 rfl ?_; apply Exists.intro; refine ⟨fun ρ w hk ⟨c1, c2, c3⟩ => ?_, ?_⟩; (· obtain ⟨t1, t2, t3, t4⟩ := TK.out w hk; go_simp; exact rfl); dsimp only [putS, List.set_cons_succ, List.set_cons_zero])
            | fail)
          refine wpT_nil ?_
          intro wz kz
          simp only [Fits]
          have kz' : Kept v4 wz := (Kept.refl _).drew.trans kz
          have KZ := Lib.hid (k4.out.trans kz')
          have OZ := Lib.hid (own4.out.below kz'.1)
          clear kz kz' TK
          refine wpList_end ?_
          go_wp2
          go_roundw
          case rel => exact ⟨k + 1, none, by omega, by go_num, rfl, HBO.out, KZ.out, by rw [HSN2.out]; exact OZ.out⟩
          case measure => simp [intOf]; omega
        | some j =>
          simp only [bestV] at *
          refine wp_region_typed (N := 32) (fl := []) (by kernel_rfl) (by kernel_rfl) ?_
          simp only [List.take_succ_cons, List.take_zero, List.drop_succ_cons, List.drop_zero, List.map_cons, List.map_nil, zipF]
          repeat (first
            | (refine wpT_skip rfl ?_; dsimp only [putS, List.set_cons_succ, List.set_cons_zero])
            | (refine wpT_slot (S := .is _) _ (.inl rfl) rfl (Slot.mono_is _) rfl ?_; dsimp only [putS, List.set_cons_succ, List.set_cons_zero])
            | (refine wpT_slot (S := .is _) _ (.inr rfl) rfl (Slot.mono_is _) rfl ?_; dsimp only [putS, List.set_cons_succ, List.set_cons_zero])
            | (refine wpT_exact1 rfl rfl rfl ?_; apply Exists.intro; refine ⟨fun ρ w hk ⟨c1, c2, c3⟩ h1 => ?_, ?_⟩; (· obtain ⟨t1, t2, t3, t4⟩ := TK.out w hk; go_simp; exact rfl); dsimp only [putS, List.set_cons_succ, List.set_cons_zero])
            | (refine wpT_exact2 rfl rfl rfl rfl ?_; apply Exists.intro; refine ⟨fun ρ w hk ⟨c1, c2, c3⟩ h1 h2 => ?_, ?_⟩; (· obtain ⟨t1, t2, t3, t4⟩ := TK.out w hk; go_simp; exact rfl); dsimp only [putS, List.set_cons_succ, List.set_cons_zero])
            | (refine wpT_exact3 rfl rfl rfl rfl rfl ?_; apply Exists.intro; refine ⟨fun ρ w hk ⟨c1, c2, c3⟩ h1 h2 h3 => ?_, ?_⟩; (· obtain ⟨t1, t2, t3, t4⟩ := TK.out w hk; go_simp; exact rfl); dsimp only [putS, List.set_cons_succ, List.set_cons_zero])
            | (refine wpT_exact4 rfl rfl rfl rfl rfl rfl ?_; apply Exists.intro; refine ⟨fun ρ w hk ⟨c1, c2, c3⟩ h1 h2 h3 h4 => ?_, ?_⟩; (· obtain ⟨t1, t2, t3, t4⟩ := TK.out w hk; go_simp; exact rfl); dsimp only [putS, List.set_cons_succ, List.set_cons_zero])
            | (refine wpT_exact0 rfl ?_; apply Exists.intro; refine ⟨fun ρ w hk ⟨c1, c2, c3⟩ => ?_, ?_⟩; (· obtain ⟨t1, t2, t3, t4⟩ := TK.out w hk; go_simp; exact rfl); dsimp only [putS, List.set_cons_succ, List.set_cons_zero])
            | fail)
          refine wpT_nil ?_
          intro wz kz
          simp only [Fits]
          have kz' : Kept v4 wz := (Kept.refl _).drew.trans kz
          have KZ := Lib.hid (k4.out.trans kz')
          have OZ := Lib.hid (own4.out.below kz'.1)
          clear kz kz' TK
          refine wpList_end ?_
          go_wp2
          go_roundw
          case rel => exact ⟨k + 1, some j, by omega, by go_num, rfl, HBO.out, KZ.out, by rw [HSN2.out]; exact OZ.out⟩
          case measure => simp [intOf]; omega
      | true =>
        have HX2 : Hid (okP n ⟨⟨who, true, ar, as_, val⟩, B, c⟩ = isSiteB who n) := Lib.hid (by rw [HX.out, Bool.true_and])
        clear HX
        generalize isSiteB who n = sb at *
        cases sb with
        | false =>
          have HBO := Lib.hid (BO.out (.inl HX2.out))
          clear BO BK
          cases j with
          | none =>
            simp only [bestV] at *
            refine wp_region_typed (N := 32) (fl := []) (by kernel_rfl) (by kernel_rfl) ?_
            simp only [List.take_succ_cons, List.take_zero, List.drop_succ_cons, List.drop_zero, List.map_cons, List.map_nil, zipF]
            repeat (first
            | (refine wpT_is (.bool false) rfl (fun ρ w2 hk ⟨c1, c2, c3⟩ ⟨h1, h2, _⟩ => ?_) ?_
               · have h1 : ρ (.tmp 33) = _ := h1
                 have h2 : ρ (.tmp 34) = _ := h2
                 refine upT_call 26 #[.int .i64 who, .int .i64 n] ?_ ((HI.out w2).mono ?_)
                 · go_simp
                 rintro e u ⟨rfl, rfl⟩
                 exact ⟨_, rfl, Kept.refl _, rfl⟩
               dsimp only [putS, List.set_cons_succ, List.set_cons_zero])
              | (refine wpT_skip rfl ?_; dsimp only [putS, List.set_cons_succ, List.set_cons_zero])
              | (refine wpT_slot (S := .is _) _ (.inl rfl) rfl (Slot.mono_is _) rfl ?_; dsimp only [putS, List.set_cons_succ, List.set_cons_zero])
              | (refine wpT_slot (S := .is _) _ (.inr rfl) rfl (Slot.mono_is _) rfl ?_; dsimp only [putS, List.set_cons_succ, List.set_cons_zero])
              | (refine wpT_exact1 rfl rfl rfl ?_; apply Exists.intro; refine ⟨fun ρ w hk ⟨c1, c2, c3⟩ h1 => ?_, ?_⟩; (· obtain ⟨t1, t2, t3, t4⟩ := TK.out w hk; go_simp; exact rfl); dsimp only [putS, List.set_cons_succ, List.set_cons_zero])
              | (refine wpT_exact2 rfl rfl rfl rfl ?_; apply Exists.intro; refine ⟨fun ρ w hk ⟨c1, c2, c3⟩ h1 h2 => ?_, ?_⟩; (· obtain ⟨t1, t2, t3, t4⟩ := TK.out w hk; go_simp; exact rfl); dsimp only [putS, List.set_cons_succ, List.set_cons_zero])
              | (refine wpT_exact3 rfl rfl rfl rfl rfl ?_; apply Exists.intro; refine ⟨fun ρ w hk ⟨c1, c2, c3⟩ h1 h2 h3 => ?_, ?_⟩; (· obtain ⟨t1, t2, t3, t4⟩ := TK.out w hk; go_simp; exact rfl); dsimp only [putS, List.set_cons_succ, List.set_cons_zero])
              | (refine wpT_exact4 rfl rfl rfl rfl rfl rfl ?_; apply Exists.intro; refine ⟨fun ρ w hk ⟨c1, c2, c3⟩ h1 h2 h3 h4 => ?_, ?_⟩; (· obtain ⟨t1, t2, t3, t4⟩ := TK.out w hk; go_simp; exact rfl); dsimp only [putS, List.set_cons_succ, List.set_cons_zero])
              | (refine wpT_exact0 rfl ?_; apply Exists.intro; refine ⟨fun ρ w hk ⟨c1, c2, c3⟩ => ?_, ?_⟩; (· obtain ⟨t1, t2, t3, t4⟩ := TK.out w hk; go_simp; exact rfl); dsimp only [putS, List.set_cons_succ, List.set_cons_zero])
              | fail)
            refine wpT_nil ?_
            intro wz kz
            simp only [Fits]
            have kz' : Kept v4 wz := (Kept.refl _).drew.trans kz
            have KZ := Lib.hid (k4.out.trans kz')
            have OZ := Lib.hid (own4.out.below kz'.1)
            clear kz kz' TK
            refine wpList_end ?_
            go_wp2
            go_roundw
            case rel => exact ⟨k + 1, none, by omega, by go_num, rfl, HBO.out, KZ.out, by rw [HSN2.out]; exact OZ.out⟩
            case measure => simp [intOf]; omega
          | some j =>
            simp only [bestV] at *
            refine wp_region_typed (N := 32) (fl := []) (by kernel_rfl) (by kernel_rfl) ?_
            simp only [List.take_succ_cons, List.take_zero, List.drop_succ_cons, List.drop_zero, List.map_cons, List.map_nil, zipF]
            repeat (first
            | (refine wpT_is (.bool false) rfl (fun ρ w2 hk ⟨c1, c2, c3⟩ ⟨h1, h2, _⟩ => ?_) ?_
               · have h1 : ρ (.tmp 33) = _ := h1
                 have h2 : ρ (.tmp 34) = _ := h2
                 refine upT_call 26 #[.int .i64 who, .int .i64 n] ?_ ((HI.out w2).mono ?_)
                 · go_simp
                 rintro e u ⟨rfl, rfl⟩
                 exact ⟨_, rfl, Kept.refl _, rfl⟩
               dsimp only [putS, List.set_cons_succ, List.set_cons_zero])
              | (refine wpT_skip rfl ?_; dsimp only [putS, List.set_cons_succ, List.set_cons_zero])
              | (refine wpT_slot (S := .is _) _ (.inl rfl) rfl (Slot.mono_is _) rfl ?_; dsimp only [putS, List.set_cons_succ, List.set_cons_zero])
              | (refine wpT_slot (S := .is _) _ (.inr rfl) rfl (Slot.mono_is _) rfl ?_; dsimp only [putS, List.set_cons_succ, List.set_cons_zero])
              | (refine wpT_exact1 rfl rfl rfl ?_; apply Exists.intro; refine ⟨fun ρ w hk ⟨c1, c2, c3⟩ h1 => ?_, ?_⟩; (· obtain ⟨t1, t2, t3, t4⟩ := TK.out w hk; go_simp; exact rfl); dsimp only [putS, List.set_cons_succ, List.set_cons_zero])
              | (refine wpT_exact2 rfl rfl rfl rfl ?_; apply Exists.intro; refine ⟨fun ρ w hk ⟨c1, c2, c3⟩ h1 h2 => ?_, ?_⟩; (· obtain ⟨t1, t2, t3, t4⟩ := TK.out w hk; go_simp; exact rfl); dsimp only [putS, List.set_cons_succ, List.set_cons_zero])
              | (refine wpT_exact3 rfl rfl rfl rfl rfl ?_; apply Exists.intro; refine ⟨fun ρ w hk ⟨c1, c2, c3⟩ h1 h2 h3 => ?_, ?_⟩; (· obtain ⟨t1, t2, t3, t4⟩ := TK.out w hk; go_simp; exact rfl); dsimp only [putS, List.set_cons_succ, List.set_cons_zero])
              | (refine wpT_exact4 rfl rfl rfl rfl rfl rfl ?_; apply Exists.intro; refine ⟨fun ρ w hk ⟨c1, c2, c3⟩ h1 h2 h3 h4 => ?_, ?_⟩; (· obtain ⟨t1, t2, t3, t4⟩ := TK.out w hk; go_simp; exact rfl); dsimp only [putS, List.set_cons_succ, List.set_cons_zero])
              | (refine wpT_exact0 rfl ?_; apply Exists.intro; refine ⟨fun ρ w hk ⟨c1, c2, c3⟩ => ?_, ?_⟩; (· obtain ⟨t1, t2, t3, t4⟩ := TK.out w hk; go_simp; exact rfl); dsimp only [putS, List.set_cons_succ, List.set_cons_zero])
              | fail)
            refine wpT_nil ?_
            intro wz kz
            simp only [Fits]
            have kz' : Kept v4 wz := (Kept.refl _).drew.trans kz
            have KZ := Lib.hid (k4.out.trans kz')
            have OZ := Lib.hid (own4.out.below kz'.1)
            clear kz kz' TK
            refine wpList_end ?_
            go_wp2
            go_roundw
            case rel => exact ⟨k + 1, some j, by omega, by go_num, rfl, HBO.out, KZ.out, by rw [HSN2.out]; exact OZ.out⟩
            case measure => simp [intOf]; omega
        | true =>
          cases j with
          | none =>
            have HBK := Lib.hid (BK.out HX2.out (by have h : gP ((l.take k).filter (okP n)) = none := HB.out; rw [h]; rfl))
            clear BO BK
            simp only [bestV] at *
            refine wp_region_typed (N := 32) (fl := []) (by kernel_rfl) (by kernel_rfl) ?_
            simp only [List.take_succ_cons, List.take_zero, List.drop_succ_cons, List.drop_zero, List.map_cons, List.map_nil, zipF]
            repeat (first
            | (refine wpT_is (.bool true) rfl (fun ρ w2 hk ⟨c1, c2, c3⟩ ⟨h1, h2, _⟩ => ?_) ?_
               · have h1 : ρ (.tmp 33) = _ := h1
                 have h2 : ρ (.tmp 34) = _ := h2
                 refine upT_call 26 #[.int .i64 who, .int .i64 n] ?_ ((HI.out w2).mono ?_)
                 · go_simp
                 rintro e u ⟨rfl, rfl⟩
                 exact ⟨_, rfl, Kept.refl _, rfl⟩
               dsimp only [putS, List.set_cons_succ, List.set_cons_zero])
              | (refine wpT_skip rfl ?_; dsimp only [putS, List.set_cons_succ, List.set_cons_zero])
              | (refine wpT_slot (S := .is _) _ (.inl rfl) rfl (Slot.mono_is _) rfl ?_; dsimp only [putS, List.set_cons_succ, List.set_cons_zero])
              | (refine wpT_slot (S := .is _) _ (.inr rfl) rfl (Slot.mono_is _) rfl ?_; dsimp only [putS, List.set_cons_succ, List.set_cons_zero])
              | (refine wpT_exact1 rfl rfl rfl ?_; apply Exists.intro; refine ⟨fun ρ w hk ⟨c1, c2, c3⟩ h1 => ?_, ?_⟩; (· obtain ⟨t1, t2, t3, t4⟩ := TK.out w hk; go_simp; exact rfl); dsimp only [putS, List.set_cons_succ, List.set_cons_zero])
              | (refine wpT_exact2 rfl rfl rfl rfl ?_; apply Exists.intro; refine ⟨fun ρ w hk ⟨c1, c2, c3⟩ h1 h2 => ?_, ?_⟩; (· obtain ⟨t1, t2, t3, t4⟩ := TK.out w hk; go_simp; exact rfl); dsimp only [putS, List.set_cons_succ, List.set_cons_zero])
              | (refine wpT_exact3 rfl rfl rfl rfl rfl ?_; apply Exists.intro; refine ⟨fun ρ w hk ⟨c1, c2, c3⟩ h1 h2 h3 => ?_, ?_⟩; (· obtain ⟨t1, t2, t3, t4⟩ := TK.out w hk; go_simp; exact rfl); dsimp only [putS, List.set_cons_succ, List.set_cons_zero])
              | (refine wpT_exact4 rfl rfl rfl rfl rfl rfl ?_; apply Exists.intro; refine ⟨fun ρ w hk ⟨c1, c2, c3⟩ h1 h2 h3 h4 => ?_, ?_⟩; (· obtain ⟨t1, t2, t3, t4⟩ := TK.out w hk; go_simp; exact rfl); dsimp only [putS, List.set_cons_succ, List.set_cons_zero])
              | (refine wpT_exact0 rfl ?_; apply Exists.intro; refine ⟨fun ρ w hk ⟨c1, c2, c3⟩ => ?_, ?_⟩; (· obtain ⟨t1, t2, t3, t4⟩ := TK.out w hk; go_simp; exact rfl); dsimp only [putS, List.set_cons_succ, List.set_cons_zero])
              | fail)
            refine wpT_nil ?_
            intro wz kz
            simp only [Fits]
            have kz' : Kept v4 wz := (Kept.refl _).drew.trans kz
            have KZ := Lib.hid (k4.out.trans kz')
            have OZ := Lib.hid (own4.out.below kz'.1)
            clear kz kz' TK
            refine wpList_end ?_
            go_wp2
            go_roundw
            case rel => exact ⟨k + 1, some k, by omega, by go_num, rfl, HBK.out, KZ.out, by rw [HSN2.out]; exact OZ.out⟩
            case measure => simp [intOf]; omega
          | some j =>
            obtain ⟨hjl, hjk, hj⟩ := HB.out
            obtain ⟨y, hy⟩ : ∃ y, l[j] = y := ⟨_, rfl⟩
            rw [hy] at hj
            rw [hj] at BK BO
            have TJ : Hid (∀ W, Kept v4.drew W → W.cell? ⟨b, off + j * 5 + 2, none⟩ = some (.int .i64 y.r.ar) ∧ W.cell? ⟨b, off + j * 5 + 3, none⟩ = some (.int .i64 y.r.as_)) := Lib.hid (fun W hk => by
              have k' : Kept w W := k4.out.trans ((Kept.refl _).drew.trans hk)
              obtain ⟨b', off', e', hb', d0, d1, d2, d3, d4⟩ := EP_five (HR.out.kept k') hjl
              obtain ⟨rfl, rfl⟩ : b = b' ∧ off = off' := by injection e' with e'; injection e' with h1 h2; exact ⟨h1, h2⟩
              rw [hy] at d2 d3
              exact ⟨d2, d3⟩)
            obtain ⟨⟨yw, yo, yr, ys, yv⟩, YB, yc⟩ := y
            simp only at TJ
            have HGS : Hid (gStep (some ⟨⟨yw, yo, yr, ys, yv⟩, YB, yc⟩) ⟨⟨who, true, ar, as_, val⟩, B, c⟩ = if 0 < cmpB ar as_ yr ys then some ⟨⟨who, true, ar, as_, val⟩, B, c⟩ else some ⟨⟨yw, yo, yr, ys, yv⟩, YB, yc⟩) := Lib.hid rfl
            have HC := Lib.hid (refcompare_any ar as_ yr ys)
            have hjN : j < N := by omega
            have hj0 : decide ((j : Int) < 0) = false := decide_eq_false (by omega)
            clear hj hy HB
            generalize cmpB ar as_ yr ys = z at *
            simp only [bestV] at *
            refine wp_region_typed (N := 32) (fl := []) (by kernel_rfl) (by kernel_rfl) ?_
            simp only [List.take_succ_cons, List.take_zero, List.drop_succ_cons, List.drop_zero, List.map_cons, List.map_nil, zipF]
            repeat (first
            | (refine wpT_is (.bool true) rfl (fun ρ w2 hk ⟨c1, c2, c3⟩ ⟨h1, h2, _⟩ => ?_) ?_
               · have h1 : ρ (.tmp 33) = _ := h1
                 have h2 : ρ (.tmp 34) = _ := h2
                 refine upT_call 26 #[.int .i64 who, .int .i64 n] ?_ ((HI.out w2).mono ?_)
                 · go_simp
                 rintro e u ⟨rfl, rfl⟩
                 exact ⟨_, rfl, Kept.refl _, rfl⟩
               dsimp only [putS, List.set_cons_succ, List.set_cons_zero])
            | (refine wpT_is (.int .i64 z) rfl (fun ρ w2 hk ⟨c1, c2, c3⟩ ⟨h1, h2, _⟩ => ?_) ?_
               · have h1 : ρ (.tmp 45) = _ := h1
                 have h2 : ρ (.tmp 50) = _ := h2
                 refine upT_call 21 #[.agg #[.int .i64 ar, .int .i64 as_], .agg #[.int .i64 yr, .int .i64 ys]] ?_ ((HC.out w2).mono ?_)
                 · go_simp
                 rintro e u ⟨rfl, hk2⟩
                 exact ⟨_, rfl, (Kept.refl _).call hk2, rfl⟩
               dsimp only [putS, List.set_cons_succ, List.set_cons_zero])
              | (refine wpT_skip rfl ?_; dsimp only [putS, List.set_cons_succ, List.set_cons_zero])
              | (refine wpT_slot (S := .is _) _ (.inl rfl) rfl (Slot.mono_is _) rfl ?_; dsimp only [putS, List.set_cons_succ, List.set_cons_zero])
              | (refine wpT_slot (S := .is _) _ (.inr rfl) rfl (Slot.mono_is _) rfl ?_; dsimp only [putS, List.set_cons_succ, List.set_cons_zero])
              | (refine wpT_exact1 rfl rfl rfl ?_; apply Exists.intro; refine ⟨fun ρ w hk ⟨c1, c2, c3⟩ h1 => ?_, ?_⟩; (· obtain ⟨t1, t2, t3, t4⟩ := TK.out w hk; obtain ⟨s1, s2⟩ := TJ.out w hk; go_simp; exact rfl); dsimp only [putS, List.set_cons_succ, List.set_cons_zero])
              | (refine wpT_exact2 rfl rfl rfl rfl ?_; apply Exists.intro; refine ⟨fun ρ w hk ⟨c1, c2, c3⟩ h1 h2 => ?_, ?_⟩; (· obtain ⟨t1, t2, t3, t4⟩ := TK.out w hk; obtain ⟨s1, s2⟩ := TJ.out w hk; go_simp; exact rfl); dsimp only [putS, List.set_cons_succ, List.set_cons_zero])
              | (refine wpT_exact3 rfl rfl rfl rfl rfl ?_; apply Exists.intro; refine ⟨fun ρ w hk ⟨c1, c2, c3⟩ h1 h2 h3 => ?_, ?_⟩; (· obtain ⟨t1, t2, t3, t4⟩ := TK.out w hk; obtain ⟨s1, s2⟩ := TJ.out w hk; go_simp; exact rfl); dsimp only [putS, List.set_cons_succ, List.set_cons_zero])
              | (refine wpT_exact4 rfl rfl rfl rfl rfl rfl ?_; apply Exists.intro; refine ⟨fun ρ w hk ⟨c1, c2, c3⟩ h1 h2 h3 h4 => ?_, ?_⟩; (· obtain ⟨t1, t2, t3, t4⟩ := TK.out w hk; obtain ⟨s1, s2⟩ := TJ.out w hk; go_simp; exact rfl); dsimp only [putS, List.set_cons_succ, List.set_cons_zero])
              | (refine wpT_exact0 rfl ?_; apply Exists.intro; refine ⟨fun ρ w hk ⟨c1, c2, c3⟩ => ?_, ?_⟩; (· obtain ⟨t1, t2, t3, t4⟩ := TK.out w hk; obtain ⟨s1, s2⟩ := TJ.out w hk; go_simp; exact rfl); dsimp only [putS, List.set_cons_succ, List.set_cons_zero])
              | fail)
            refine wpT_nil ?_
            intro wz kz
            simp only [Fits]
            have kz' : Kept v4 wz := (Kept.refl _).drew.trans kz
            have KZ := Lib.hid (k4.out.trans kz')
            have OZ := Lib.hid (own4.out.below kz'.1)
            clear kz kz' TK
            refine wpList_end ?_
            by_cases hz : 0 < z
            · have hzd : decide (0 < z) = true := decide_eq_true hz
              rw [if_pos hz] at HGS
              have HBK := Lib.hid (BK.out HX2.out HGS.out)
              clear BO BK HGS
              go_wp2
              go_roundw
              case rel => exact ⟨k + 1, some k, by omega, by go_num, rfl, HBK.out, KZ.out, by rw [HSN2.out]; exact OZ.out⟩
              case measure => simp [intOf]; omega
            · have hzd : decide (0 < z) = false := decide_eq_false hz
              rw [if_neg hz] at HGS
              have HBO := Lib.hid (BO.out (.inr HGS.out))
              clear BO BK HGS
              go_wp2
              go_roundw
              case rel => exact ⟨k + 1, some j, by omega, by go_num, rfl, HBO.out, KZ.out, by rw [HSN2.out]; exact OZ.out⟩
              case measure => simp [intOf]; omega
    · obtain rfl : k = N := by omega
      have e : l.take k = l := by rw [← HL.out, HT.out]
      rw [e] at HF
      unfold Best at hbest
      rw [e] at hbest
      obtain ⟨Af, cf, rfl, -, -, -, -⟩ := HF.out.slice
      have hlf : (l.map fun x : It => x.r.who).length = k := by rw [List.length_map, HL.out]
      have HI : Hid (IntsAt wr Af (l.map fun x : It => x.r.who)) := Lib.hid (ownz_ints HF.out (fun s hs => by
        obtain ⟨x, hx, rfl⟩ := List.mem_map.1 hs
        exact HW.out x hx))
      have HCH : Hid (chooseP (l.map It.r) n = if mostB n (l.map fun x : It => x.r.who) = true then some ((gP (l.filter (okP n))).getD It.zero).r.val else none) := Lib.hid (by
        unfold chooseP
        rw [← gP_bestP, List.map_map, show Pm.who ∘ It.r = fun x : It => x.r.who from rfl]
        cases gP (l.filter (okP n)) <;> rfl)
      have HMO := Lib.hid (refmost_any (n := n) (cap := cf) hlf HI.out (by omega) HN.out)
      rw [hlf]
      clear ownf kk HF HI hlf e
      generalize mostB n (l.map fun x : It => x.r.who) = mo at *
      cases mo with
      | false =>
        rw [if_neg (by decide)] at HCH
        go_wp2_with fail
        refine HMO.out.mono ?_
        rintro e u1 ⟨rfl, b1⟩
        have K1 := Lib.hid (KK.out.call b1)
        clear b1
        go_wp2
        go_ret2
        refine ⟨_, _, [], none, 0, rfl, K1.out, rfl, Row.none, ?_⟩
        rw [HCH.out]
        exact ⟨rfl, rfl⟩
      | true =>
        rw [if_pos rfl] at HCH
        cases j with
        | none =>
          have hg : gP (l.filter (okP n)) = none := hbest
          rw [hg] at HCH
          clear hg hbest HB
          simp only [bestV]
          go_wp2_with fail
          refine HMO.out.mono ?_
          rintro e u1 ⟨rfl, b1⟩
          have K1 := Lib.hid (KK.out.call b1)
          clear b1
          go_wp2
          go_ret2
          refine ⟨_, _, [], none, 0, rfl, K1.out, rfl, Row.none, ?_⟩
          rw [HCH.out]
          exact ⟨rfl, rfl⟩
        | some j =>
          obtain ⟨hjl, hjk, hj⟩ : ∃ h : j < l.length, j < k ∧ gP (l.filter (okP n)) = some l[j] := hbest
          rw [hj] at HCH
          have HROW := Lib.hid (HV.out l[j] (List.getElem_mem hjl))
          obtain ⟨y, hy⟩ : ∃ y, l[j] = y := ⟨_, rfl⟩
          rw [hy] at HCH HROW
          have TJ : Hid (∀ W, Kept wr W → ∃ b off, A = some ⟨b, off, none⟩ ∧ W.cell? ⟨b, off + j * 5 + 4, none⟩ = some (.slice y.A y.r.val.length y.c)) := Lib.hid (fun W hk => by
            obtain ⟨b', off', e', hb', d0, d1, d2, d3, d4⟩ := EP_five (HR.out.kept (KK.out.trans hk)) hjl
            rw [hy] at d4
            exact ⟨b', off', e', d4⟩)
          obtain ⟨b, off, rfl, -⟩ := TJ.out wr (Kept.refl _)
          obtain ⟨⟨yw, yo, yr, ys, yv⟩, YB, yc⟩ := y
          simp only at TJ HCH HROW
          have hj0 : decide ((j : Int) < 0) = false := decide_eq_false (by omega)
          clear hj hy HB
          simp only [bestV]
          go_wp2_with fail
          refine HMO.out.mono ?_
          rintro e u1 ⟨rfl, b1⟩
          have K1 := Lib.hid (KK.out.call b1)
          obtain ⟨b', off', e', d4⟩ := TJ.out u1 ((Kept.refl _).call b1)
          obtain ⟨rfl, rfl⟩ : b = b' ∧ off = off' := by injection e' with e'; injection e' with h1 h2; exact ⟨h1, h2⟩
          clear b1 e'
          go_wp2
          go_ret2
          refine ⟨_, _, yv, YB, yc, rfl, K1.out, rfl, HROW.out.below K1.out.1, ?_⟩
          rw [HCH.out]
          exact ⟨rfl, rfl⟩
end Go.Proofs.Ytifenlopgpbpbaa
