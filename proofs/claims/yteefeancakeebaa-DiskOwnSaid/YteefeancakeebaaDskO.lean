/- The walk of DiskOwn. -/
import Derived.Test.YteefeancakeebaaDskK
import Derived.Test.YteefeancakeebaaTypedB
import Derived.Deep.CutRange
import Derived.Deep.DeepCutAuto
namespace Go.Proofs.Yteefeancakeebaa
open Go.RowKit

theorem wrap_u8 (c m : Nat) : IntKind.u8.wrap ((c : Int) + (m : Int)) = (((c + m) % 256 : Nat) : Int) := by
  simp only [IntKind.wrap_u8]
  omega
theorem set_byte {bs : List Nat} {j c : Nat} (h : ∀ x ∈ bs, x < 256) (hc : c < 256) : ∀ x ∈ bs.set j c, x < 256 := fun x hx => by
  rcases List.mem_or_eq_of_mem_set hx with h1 | h1
  · exact h x h1
  · omega

theorem Own.lower {w : World} {b b' : Nat} {v : Value} {bs : List Nat} (h : Own w b v bs) (hb : b' ≤ b) : Own w b' v bs := by
  obtain ⟨h0, h | ⟨g, cap, cur, e, h1, h2⟩⟩ := h
  · exact ⟨h0, .inl h⟩
  · exact ⟨h0, .inr ⟨g, cap, cur, e, Nat.le_trans hb h1, h2⟩⟩
theorem Own.addr {w : World} {b n c : Nat} {A : Option Addr} {bs : List Nat} (h : Own w b (.slice A n c) bs) (hl : bs.length = n) (hn : 0 < n) : ∃ g, A = some ⟨g, 0, none⟩ := by
  obtain ⟨g, cap, e, _⟩ := h.form (by omega)
  cases e
  exact ⟨g, rfl⟩
/-- what the loop keeps: the Disk, and two rows of the law's own that are written over -/
structure Wrt (v wr : World) (g n : Nat) (xs : List Nat) (R : Option Nat) (y z : Value) : Prop where
  disk : Dk wr g g xs 0
  row : rowOf wr g = R
  kept : Kept v wr
  y : ∃ os, Own wr g y os ∧ os.length = n ∧ ∀ x ∈ os, x < 256
  z : ∃ os, Own wr g z os ∧ os.length = n ∧ ∀ x ∈ os, x < 256
theorem Wrt.put {v wr : World} {n cy cz gy gz j c : Nat} {xs : List Nat} {R : Option Nat} (h : Wrt v wr v.heap.size n xs R (.slice (some ⟨gy, 0, none⟩) n cy) (.slice (some ⟨gz, 0, none⟩) n cz)) (h1 : gy ≠ v.heap.size) (h2 : R ≠ some gy) (h3 : gy ≠ gz) (hc : c < 256) :
    Wrt v (wr.setCell ⟨gy, j, none⟩ (.int .u8 (c : Int))) v.heap.size n xs R (.slice (some ⟨gy, 0, none⟩) n cy) (.slice (some ⟨gz, 0, none⟩) n cz) := by
  obtain ⟨os, ho, hl, hb⟩ := h.y
  obtain ⟨os', ho', hl', hb'⟩ := h.z
  obtain ⟨d1, d2⟩ := h.disk.far (p := ⟨gy, j, none⟩) h1 (by rw [h.row]; exact h2) (.int .u8 (c : Int))
  have hge := (World.ownsRow.lt ho gy rfl).1
  exact ⟨d1, d2.trans h.row, h.kept.setCell (p := ⟨gy, j, none⟩) hge _, ⟨os.set j c, ho.store j c, by simpa using hl, set_byte hb hc⟩, ⟨os', ho'.far (p := ⟨gy, j, none⟩) (by simp [Value.ownBlock]; exact fun e => h3 e.symm) _, hl', hb'⟩⟩
theorem Wrt.swap {v wr : World} {g n : Nat} {xs : List Nat} {R : Option Nat} {y z : Value} (h : Wrt v wr g n xs R y z) : Wrt v wr g n xs R z y := ⟨h.disk, h.row, h.kept, h.z, h.y⟩
theorem Wrt.cell {v wr : World} {g n cy gy : Nat} {xs : List Nat} {R : Option Nat} {z : Value} (h : Wrt v wr g n xs R (.slice (some ⟨gy, 0, none⟩) n cy) z) {j : Nat} (hj : j < n) : ∃ c : Nat, c < 256 ∧ wr.cell? ⟨gy, j, none⟩ = some (.int .u8 (c : Int)) ∧ wr.frozen? ⟨gy, j, none⟩ = false := by
  obtain ⟨os, ho, hl, hb⟩ := h.y
  refine ⟨os.getD j 0, ?_, ho.cell (by omega), ho.free j⟩
  rw [List.getD_eq_getElem?_getD, List.getElem?_eq_getElem (by omega)]
  exact hb _ (List.getElem_mem _)

set_option maxRecDepth 100000 in
set_option maxHeartbeats 4000000 in
theorem DiskOwn_walk (a0 : Option Addr) (len0 cap0 : Nat) (w : World) (w0 : SliceAt 1 1 (IsInt .u8) w a0 len0 cap0) :
    Calls Try.prog 7 #[.slice a0 len0 cap0] w fun e w' => e = .returned (.bool true) ∧ Below w.heap.size w w' := by
  obtain ⟨xs, r0⟩ := Row.of w0
  have hl0 : len0 ≤ 140737488351232 := by have := w0.2.2.1; omega
  have R0 := Lib.hid r0
  clear r0 w0
  go_enter Try.func7, Try.ntmps7
  go_wp2_with fail
  refine (awake_any _).mono ?_
  rintro e v ⟨rfl, h1⟩
  have k1 : Kept w v := (Kept.refl w).call h1
  have R0' := Lib.hid (R0.out.below h1)
  clear h1 R0
  go_wp2_with fail
  refine (new_any _).mono ?_
  rintro e u ⟨rfl, rfl⟩
  have d2 := Dk.new v v.heap.size (Nat.le_refl _)
  have hr2 : rowOf (v.alloc (.cells #[.slice none 0 0, .int .i64 0] 50)) v.heap.size = none := rowOf_two (push_new v _)
  have k2 : Kept v _ := (Kept.refl v).alloc (.cells #[.slice none 0 0, .int .i64 0] 50)
  generalize v.alloc (.cells #[.slice none 0 0, .int .i64 0] 50) = u2 at *
  by_cases hbig : 100000 < len0
  · go_wp2
    go_ret
    exact ⟨rfl, (k1.trans k2).1⟩
  have hg1 : ¬ ((100000 : Int) < (len0 : Int)) := by omega
  have HB := Lib.hid hbig
  have K1 := Lib.hid k1
  have D2 := Lib.hid d2
  have HR2 := Lib.hid hr2
  have HD2 := Lib.hid d2.lt
  have K2 := Lib.hid k2
  have own0 : Own (u2.alloc (.cells #[] 5)) u2.heap.size (.slice (some ⟨u2.heap.size, 0, none⟩) 0 0) [] := Own.lit [] (Nat.le_refl _) (by simp)
  have O0 := Lib.hid own0
  have HX := Lib.hid R0'.out.len
  have HBY := Lib.hid R0'.out.bts.2.2.1
  clear hbig k1 d2 hr2 k2 own0
  go_wp2_with (first
    | (at_builtin
       refine wpList_append_bts rfl (.tmp 23) (.tmp 24) rfl (v := .slice (some ⟨u2.heap.size, 0, none⟩) 0 0) (base := u2.heap.size) (ds := []) (bs := xs) (n := len0) rfl rfl O0.out (R0'.out.bts.below (K2.out.alloc _).1) R0'.out.nil (by simp; omega) (by simp) ?_
       intro y w1 own1 gr1 at1
       have q1 := ((Kept.refl u2).alloc (.cells #[] 5)).append O0.out gr1
       rw [List.nil_append] at own1
       obtain ⟨AY, nY, cY, rfl⟩ := own1.slice
       have O1 := Lib.hid own1
       have Q1 := Lib.hid q1
       clear own1 gr1 at1 q1)
    | fail)
  have d1 := D2.out.below Q1.out.1
  have hlY : nY = len0 := by have := O1.out.row (by rw [HX.out]; omega) HBY.out; obtain ⟨A', c', e, _⟩ := this; rw [HX.out] at e; simp at e; exact e.2.1
  subst hlY
  have r1 : rowOf w1 v.heap.size = none := (rowOf_below Q1.out.1 D2.out.lt).trans HR2.out
  have f1 : FarO w1 v.heap.size (.slice AY nY cY) := fun j hj => ⟨by have := (World.ownsRow.lt O1.out j hj).1; have := D2.out.lt; omega, by rw [r1]; simp⟩
  refine (append_ok d1 (O1.out.at_ (by rw [HX.out]; omega) HBY.out) (by
    obtain ⟨A', c', e, hr⟩ := O1.out.row (by rw [HX.out]; omega) HBY.out
    simp at e; obtain ⟨rfl, _, rfl⟩ := e; exact hr.nil) (by have := HB.out; simp; omega)).mono ?_
  rintro e u3 ⟨rfl, h3⟩
  have D3 := Lib.hid h3.1
  rw [List.nil_append] at D3
  have K3 := Lib.hid (h3.kept (K2.out.trans Q1.out) (Nat.le_refl _))
  obtain ⟨o3, f3⟩ := h3.own O1.out f1
  have O3 := Lib.hid o3
  have F3 := Lib.hid f3
  clear h3 d1 r1 f1 o3 f3
  go_wp2_with fail
  refine (bytes_any D3.out).mono ?_
  rintro e u4 ⟨x, rfl, own, h4⟩
  have D4 := Lib.hid (D3.out.below h4)
  have K4 := Lib.hid (K3.out.call h4)
  have O4 := Lib.hid (O3.out.below h4)
  have HR4 := Lib.hid (rowOf_below h4 D3.out.lt)
  obtain ⟨AX, cX, rfl, _⟩ := own.row (by rw [HX.out]; omega) HBY.out
  rw [HX.out] at own ⊢
  have P4 := Lib.hid own
  clear own h4 D2 HR2 Q1 O1 K2 O0
  have hw0 : Wrt v u4 v.heap.size nY xs (rowOf u3 v.heap.size) (.slice AY nY cY) (.slice AX nY cX) :=
    ⟨D4.out, HR4.out, K4.out, ⟨xs, O4.out.lower (Nat.le_of_lt HD2.out), HX.out, HBY.out⟩, ⟨xs, P4.out.lower (Nat.le_of_lt D3.out.lt), HX.out, HBY.out⟩⟩
  have hsep : Hid (0 < nY → ∃ gy gx, AY = some ⟨gy, 0, none⟩ ∧ AX = some ⟨gx, 0, none⟩ ∧ gy ≠ v.heap.size ∧ rowOf u3 v.heap.size ≠ some gy ∧ gx ≠ v.heap.size ∧ rowOf u3 v.heap.size ≠ some gx ∧ gy ≠ gx) := Lib.hid fun hn => by
    obtain ⟨gy, rfl⟩ := O3.out.addr HX.out hn
    obtain ⟨gx, rfl⟩ := P4.out.addr HX.out hn
    have h1 := (World.ownsRow.lt O3.out gy rfl)
    have h2 := (World.ownsRow.lt P4.out gx rfl).1
    have h3 := D3.out.lt
    have h4 := F3.out gy rfl
    refine ⟨gy, gx, rfl, rfl, h4.1, h4.2, by omega, fun e => ?_, by omega⟩
    have := (D3.out.row_lt gx e).2
    omega
  have HW0 := Lib.hid hw0
  clear hw0 O4 P4 HR4 K4 D4 K3 F3 O3
  generalize rowOf u3 v.heap.size = R at *
  have hll : nY ≤ 140737505132544 := by omega
  go_wp2
  go_loopw [7] (fun i wr => ∃ k : Nat, k ≤ nY ∧ i = .int .i64 k ∧ Wrt v wr v.heap.size nY xs R (.slice AY nY cY) (.slice AX nY cX)) (fun i _ => nY - (intOf i).toNat)
  case atStart => exact ⟨0, Nat.zero_le _, rfl, HW0.out⟩
  case round =>
    obtain ⟨k, hk, rfl, hw⟩ := hrel
    by_cases hlt : k < nY
    · obtain ⟨gy, gx, rfl, rfl, h1, h2, h3, h4, h5⟩ := hsep.out (by omega)
      obtain ⟨c, hc, q1, f1⟩ := hw.cell hlt
      obtain ⟨c', hc', e1⟩ : ∃ c' : Nat, c' < 256 ∧ IntKind.u8.wrap ((c : Int) + 1) = (c' : Int) := ⟨(c + 1) % 256, by omega, by have := wrap_u8 c 1; simpa using this⟩
      have hw2 := hw.put (j := k) h1 h2 h5 hc'
      obtain ⟨d, hd, q2, f2⟩ := hw2.swap.cell hlt
      obtain ⟨d', hd', e2⟩ : ∃ d' : Nat, d' < 256 ∧ IntKind.u8.wrap ((d : Int) + 2) = (d' : Int) := ⟨(d + 2) % 256, by omega, by have := wrap_u8 d 2; simpa using this⟩
      have HW3 := Lib.hid (hw2.swap.put (j := k) h3 h4 (Ne.symm h5) hd').swap
      clear hw hw2 h1 h2 h3 h4 h5 hc hd hc' hd'
      go_wp2
      go_roundw
      case rel => exact ⟨k + 1, by omega, by go_num, HW3.out⟩
      case measure => simp [intOf]; omega
    · have HW := Lib.hid hw
      clear hw
      go_wp2_with fail
      refine (bytes_any HW.out.disk).mono ?_
      rintro e u5 ⟨y, rfl, own, h5⟩
      have D5 := Lib.hid (HW.out.disk.below h5)
      have K5 := Lib.hid (HW.out.kept.call h5)
      have F5 := Lib.hid (FarO.new HW.out.disk h5 own (Nat.le_refl _))
      have hs5 := HW.out.disk.lt
      obtain ⟨AZ, nZ, cZ, rfl⟩ := own.slice
      have O5 := Lib.hid (own.lower (Nat.le_of_lt hs5))
      clear own h5 HW hs5
      have A5 : Below u5.heap.size u5 (u5.alloc (.cells #[.int .u8 7] 5)) := (Below.refl _ _).alloc (Nat.le_refl _) _
      have HA5 := Lib.hid A5
      clear A5
      go_wp2_with (first
        | (at_builtin
           refine wpList_append_bts rfl (.tmp 54) (.tmp 55) rfl (v := .slice AZ nZ cZ) (base := v.heap.size) (ds := xs) rfl rfl (O5.out.alloc' _) (bts_one _ _ _ rfl (show 7 < 256 by decide)) (by simp) (by rw [HX.out]; omega) (Nat.le_trans K5.out.2 (by simp)) ?_
           intro y6 u6 own6 gr6 at6
           have K6 := Lib.hid ((K5.out.alloc (.cells #[.int .u8 7] 5)).append (O5.out.alloc' _) gr6)
           have D6 := Lib.hid ((D5.out.below HA5.out).grown gr6 (F5.out.below HA5.out D5.out.lt)).1
           obtain ⟨A6, n6, c6, rfl⟩ := own6.slice
           have hn6 : n6 = nY + 1 := by rw [own6.len, List.length_append, HX.out]; rfl
           subst hn6
           clear own6 gr6 at6)
        | fail)
      have T2 := Lib.hid fun (W : World) (h : Kept u6.drew W) => ((R0'.out.below K6.out.1).below ((Kept.refl u6).drew.trans h).1).text
      have TB := Lib.hid fun (W : World) (k : Kept u6.drew W) => bytes_any (D6.out.below ((Kept.refl u6).drew.trans k).1)
      have ew : IntKind.i64.wrap ((nY : Int) + 1) = (nY : Int) + 1 := IntWalk.i64_in _ (by omega)
      refine wp_region_typed (N := 18) (fl := []) (by kernel_rfl) (by kernel_rfl) ?_
      simp only [List.take_succ_cons, List.take_zero, List.drop_succ_cons, List.drop_zero, List.map_cons, List.map_nil, zipF]
      repeat (first
        | (refine wpT_text rfl rfl rfl ?_; dsimp only [putS, List.set_cons_succ, List.set_cons_zero])
        | (refine wpT_len rfl rfl rfl ?_; dsimp only [putS, List.set_cons_succ, List.set_cons_zero])
        | (refine wpT_slot (S := .has _) _ (.inl rfl) rfl (RowT.mono _ _) rfl ?_; dsimp only [putS, List.set_cons_succ, List.set_cons_zero])
        | (refine wpT_skip rfl ?_; dsimp only [putS, List.set_cons_succ, List.set_cons_zero])
        | (refine wpT_slot (S := .is _) _ (.inl rfl) rfl (Slot.mono_is _) rfl ?_; dsimp only [putS, List.set_cons_succ, List.set_cons_zero])
        | (refine wpT_slot (S := .is _) _ (.inr rfl) rfl (Slot.mono_is _) rfl ?_; dsimp only [putS, List.set_cons_succ, List.set_cons_zero])
        | (refine wpT_exact1 rfl rfl rfl ?_; apply Exists.intro; refine ⟨fun ρ w hk ⟨c1, c2, c3⟩ h1 => ?_, ?_⟩; (· have t2 := T2.out w hk; go_simp; exact rfl); dsimp only [putS, List.set_cons_succ, List.set_cons_zero])
        | (refine wpT_exact2 rfl rfl rfl rfl ?_; apply Exists.intro; refine ⟨fun ρ w hk ⟨c1, c2, c3⟩ h1 h2 => ?_, ?_⟩; (· have t2 := T2.out w hk; go_simp; exact rfl); dsimp only [putS, List.set_cons_succ, List.set_cons_zero])
        | (refine wpT_exact3 rfl rfl rfl rfl rfl ?_; apply Exists.intro; refine ⟨fun ρ w hk ⟨c1, c2, c3⟩ h1 h2 h3 => ?_, ?_⟩; (· have t2 := T2.out w hk; go_simp; exact rfl); dsimp only [putS, List.set_cons_succ, List.set_cons_zero])
        | (refine wpT_exact0 rfl ?_; apply Exists.intro; refine ⟨fun ρ w hk ⟨c1, c2, c3⟩ => ?_, ?_⟩; (· have t2 := T2.out w hk; go_simp; exact rfl); dsimp only [putS, List.set_cons_succ, List.set_cons_zero])
        | (refine wpT_has (RowT.mono nY xs) rfl (fun ρ w hk ⟨c1, c2, c3⟩ ⟨h1, _⟩ => ?_) ?_
           · have h1 : ρ (.tmp 59) = _ := h1
             refine upT_call 17 #[.pointer (some ⟨v.heap.size, 0, none⟩)] (by go_simp) ((TB.out w hk).mono ?_)
             rintro e u ⟨y, rfl, own, hb⟩
             exact ⟨_, rfl, ⟨hb, hb.size⟩, own.rowT HX.out hll HBY.out⟩
           dsimp only [putS, List.set_cons_succ, List.set_cons_zero]))
      refine wpT_nil ?_
      intro wz kz
      simp only [Fits]
      intro y _
      refine wpList_end ?_
      go_wp2
      go_ret
      exact ⟨rfl, ((K1.out.trans K6.out).drew.trans kz).1⟩
end Go.Proofs.Yteefeancakeebaa
