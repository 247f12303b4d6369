/- The greatest of votes. -/
import Derived.Test.YtifenlopgpbpbaaPrqA
import Derived.Test.YtifenlopgpbpbaaTypedB
import Derived.Test.YtifenlopgpbpbaaBalP
namespace Go.Proofs.Ytifenlopgpbpbaa
open Go.RowKit

def Vt.zero : Vt := ⟨0, 0, 0⟩
def gvStep (o : Option Vt) (x : Vt) : Option Vt := match o with | none => some x | some q => if 0 < cmpB x.r x.s q.r q.s then some x else some q
/-- the first one of the greatest -/
def gV (l : List Vt) : Option Vt := l.foldl gvStep none
theorem gV_snoc (l : List Vt) (x : Vt) : gV (l ++ [x]) = gvStep (gV l) x := by unfold gV; rw [List.foldl_append]; rfl
theorem gV_some : ∀ (l : List Vt) (q : Vt), ∃ y, l.foldl gvStep (some q) = some y
  | [], q => ⟨q, rfl⟩
  | x :: l, q => by
    rw [List.foldl_cons]
    unfold gvStep
    split
    · rename_i h; cases h
    · split
      · exact gV_some l _
      · exact gV_some l _
theorem gV_none {l : List Vt} (h : gV l = none) : l = [] := by
  cases l with
  | nil => rfl
  | cons x l =>
    obtain ⟨y, hy⟩ := gV_some l x
    have : gV (x :: l) = some y := hy
    rw [h] at this
    cases this
/-- a promise in a block of its own -/
abbrev Hv (W : World) (g : Nat) (x : Vt) : Prop := W.heap[g]? = some (.cells #[.int .i64 x.who, .int .i64 x.r, .int .i64 x.s] 60 (0, 0))
theorem Hv.kept {W W' : World} {g : Nat} {x : Vt} (h : Hv W g x) (k : Kept W W') : Hv W' g x := (k.1.block g (heap_lt h)).trans h
theorem Hv.cells {W : World} {g : Nat} {x : Vt} (h : Hv W g x) : W.cell? ⟨g, 0, none⟩ = some (.int .i64 x.who) ∧ W.cell? ⟨g, 1, none⟩ = some (.int .i64 x.r) ∧ W.cell? ⟨g, 2, none⟩ = some (.int .i64 x.s) :=
  ⟨cell_of_heap h 0, cell_of_heap h 1, cell_of_heap h 2⟩
theorem Hv.free {W : World} {g : Nat} {x : Vt} (h : Hv W g x) : W.frozen? ⟨g, 0, none⟩ = false ∧ W.frozen? ⟨g, 1, none⟩ = false ∧ W.frozen? ⟨g, 2, none⟩ = false :=
  ⟨frozen_of_heap h 0, frozen_of_heap h 1, frozen_of_heap h 2⟩
/-- a vote written over -/
abbrev put3 (W : World) (g : Nat) (x : Vt) : World :=
  ((W.setCell ⟨g, 0, none⟩ (.int .i64 x.who)).setCell ⟨g, 1, none⟩ (.int .i64 x.r)).setCell ⟨g, 2, none⟩ (.int .i64 x.s)
theorem put3_size (W : World) (g : Nat) (x : Vt) : (put3 W g x).heap.size = W.heap.size := by simp [put3, World.setCell]
theorem put3_old (W : World) (g : Nat) (x : Vt) {k : Nat} (hk : k ≠ g) : (put3 W g x).heap[k]? = W.heap[k]? :=
  (Below.heap_setCell _ ⟨g, 2, none⟩ _ k hk).trans ((Below.heap_setCell _ ⟨g, 1, none⟩ _ k hk).trans (Below.heap_setCell _ ⟨g, 0, none⟩ _ k hk))
theorem put3_new {W : World} {g : Nat} {y : Vt} (h : Hv W g y) (x : Vt) : Hv (put3 W g x) g x := by
  unfold put3 Hv
  exact (heap_setCell_same (heap_setCell_same (heap_setCell_same h _) _) _).trans rfl
theorem put3_kept {v W : World} {g : Nat} (x : Vt) (k : Kept v W) (h : v.heap.size ≤ g) : Kept v (put3 W g x) :=
  ((k.setCell (p := ⟨g, 0, none⟩) h _).setCell (p := ⟨g, 1, none⟩) h _).setCell (p := ⟨g, 2, none⟩) h _

set_option maxRecDepth 100000 in
set_option maxHeartbeats 8000000 in
theorem greatestV_any {w : World} {A : Option Addr} {N cap : Nat} {l : List Vt} (hl : l.length = N) (hR : EV.Reads w A l) (hN : N ≤ 1099511627776) :
    Calls Try.prog 28 #[.slice A N cap, .func (.func 29) #[] #[]] w fun e w' =>
      ∃ x, x = (gV l).getD Vt.zero ∧ e = .returned (.tuple #[.agg #[.int .i64 x.who, .int .i64 x.r, .int .i64 x.s], .bool (decide (0 < N))]) ∧ Kept w w' := by
  have HL := Lib.hid hl
  have HR := Lib.hid hR
  have HT : Hid (l.take l.length = l) := Lib.hid (by rw [List.take_length])
  clear hl hR
  have K0 : Hid (Kept w ((w.alloc (.cells #[.int .i64 0, .int .i64 0, .int .i64 0] 60)).alloc (.cells #[.int .i64 0, .int .i64 0, .int .i64 0] 60))) := Lib.hid (((Kept.refl w).alloc _).alloc _)
  have P0 : Hid (Hv ((w.alloc (.cells #[.int .i64 0, .int .i64 0, .int .i64 0] 60)).alloc (.cells #[.int .i64 0, .int .i64 0, .int .i64 0] 60)) w.heap.size Vt.zero) := Lib.hid (push_two_old w _ _)
  have P1 : Hid (Hv ((w.alloc (.cells #[.int .i64 0, .int .i64 0, .int .i64 0] 60)).alloc (.cells #[.int .i64 0, .int .i64 0, .int .i64 0] 60)) (w.heap.size + 1) Vt.zero) := Lib.hid (push_two_new w _ _)
  go_enter Try.func28, Try.ntmps28
  go_wp2
  go_loopw [11] (fun i wr => ∃ k : Nat, k ≤ N ∧ i = .int .i64 k ∧ Kept w wr ∧ Hv wr w.heap.size Vt.zero ∧ Hv wr (w.heap.size + 1) ((gV (l.take k)).getD Vt.zero)) (fun i _ => N - (intOf i).toNat)
  case atStart => exact ⟨0, Nat.zero_le _, rfl, K0.out, P0.out, P1.out⟩
  case round =>
    obtain ⟨k, hk, rfl, kk, hz, ht⟩ := hrel
    have KK := Lib.hid kk
    have HZ := Lib.hid hz
    by_cases hlt : k < N
    · have hkl : k < l.length := by rw [HL.out]; exact hlt
      obtain ⟨b, off, rfl, hb, c0, c1, c2⟩ := EV_three (HR.out.kept kk) hkl
      have HS : Hid (gV (l.take (k + 1)) = gvStep (gV (l.take k)) l[k]) := Lib.hid (by rw [List.take_succ_eq_append_getElem hkl, gV_snoc])
      have H0 : Hid (gV (l.take k) = none → k = 0) := Lib.hid (fun h => by have := congrArg List.length (gV_none h); rw [List.length_take, List.length_nil] at this; omega)
      have H00 : Hid (k = 0 → gV (l.take k) = none) := Lib.hid (fun h => by subst h; rfl)
      generalize l[k] = x at *
      generalize gV (l.take k) = o at *
      have HTP := Lib.hid ht
      have hsz : w.heap.size + 1 < wr.heap.size := heap_lt ht
      obtain ⟨who, ar, as_⟩ := x
      simp only at c0 c1 c2
      clear kk hz ht
      go_wp2_with fail
      have K5 := Lib.hid (KK.out.alloc (.cells #[.int .i64 who, .int .i64 ar, .int .i64 as_] 60))
      have E5 : Hid (Hv (wr.alloc (.cells #[.int .i64 who, .int .i64 ar, .int .i64 as_] 60)) wr.heap.size ⟨who, ar, as_⟩) := Lib.hid (push_new wr _)
      have T5 := Lib.hid (HTP.out.kept ((Kept.refl wr).alloc (.cells #[.int .i64 who, .int .i64 ar, .int .i64 as_] 60)))
      have Z5 := Lib.hid (HZ.out.kept ((Kept.refl wr).alloc (.cells #[.int .i64 who, .int .i64 ar, .int .i64 as_] 60)))
      clear c0 c1 c2 HTP HZ hb
      generalize wr.alloc (.cells #[.int .i64 who, .int .i64 ar, .int .i64 as_] 60) = W5 at *
      generalize wr.heap.size = g at *
      have ways : (k = 0 ∧ o = none) ∨ (k ≠ 0 ∧ ∃ y, o = some y) := by
        cases o with
        | none => exact .inl ⟨H0.out rfl, rfl⟩
        | some y => exact .inr ⟨(fun h => by have := H00.out h; cases this), y, rfl⟩
      clear H0 H00
      rcases ways with ⟨rfl, rfl⟩ | ⟨hk0, ⟨yw, yr, ys⟩, rfl⟩
      · have HG : Hid (gvStep none ⟨who, ar, as_⟩ = some ⟨who, ar, as_⟩) := Lib.hid rfl
        refine wp_region_typed (N := 12) (fl := []) (by kernel_rfl) (by kernel_rfl) ?_
        simp only [List.take_succ_cons, List.take_zero, List.drop_succ_cons, List.drop_zero, List.map_cons, List.map_nil, zipF]
        repeat (first
          | (refine wpT_skip rfl ?_; dsimp only [putS, List.set_cons_succ, List.set_cons_zero])
          | (refine wpT_slot (S := .is _) _ (.inl rfl) rfl (Slot.mono_is _) rfl ?_; dsimp only [putS, List.set_cons_succ, List.set_cons_zero])
          | (refine wpT_slot (S := .is _) _ (.inr rfl) rfl (Slot.mono_is _) rfl ?_; dsimp only [putS, List.set_cons_succ, List.set_cons_zero])
          | (refine wpT_exact1 rfl rfl rfl ?_; apply Exists.intro; refine ⟨fun ρ w hk ⟨c1, c2, c3⟩ h1 => ?_, ?_⟩; (· go_simp; exact rfl); dsimp only [putS, List.set_cons_succ, List.set_cons_zero])
          | (refine wpT_exact2 rfl rfl rfl rfl ?_; apply Exists.intro; refine ⟨fun ρ w hk ⟨c1, c2, c3⟩ h1 h2 => ?_, ?_⟩; (· go_simp; exact rfl); dsimp only [putS, List.set_cons_succ, List.set_cons_zero])
          | (refine wpT_exact3 rfl rfl rfl rfl rfl ?_; apply Exists.intro; refine ⟨fun ρ w hk ⟨c1, c2, c3⟩ h1 h2 h3 => ?_, ?_⟩; (· go_simp; exact rfl); dsimp only [putS, List.set_cons_succ, List.set_cons_zero])
          | (refine wpT_exact4 rfl rfl rfl rfl rfl rfl ?_; apply Exists.intro; refine ⟨fun ρ w hk ⟨c1, c2, c3⟩ h1 h2 h3 h4 => ?_, ?_⟩; (· go_simp; exact rfl); dsimp only [putS, List.set_cons_succ, List.set_cons_zero])
          | (refine wpT_exact0 rfl ?_; apply Exists.intro; refine ⟨fun ρ w hk ⟨c1, c2, c3⟩ => ?_, ?_⟩; (· go_simp; exact rfl); dsimp only [putS, List.set_cons_succ, List.set_cons_zero])
          | fail)
        refine wpT_nil ?_
        intro wz kz
        simp only [Fits]
        have HS1 : Hid (gV (l.take 1) = some ⟨who, ar, as_⟩) := Lib.hid (HS.out.trans HG.out)
        have kz' : Kept W5 wz := (Kept.refl _).drew.trans kz
        have EZ := E5.out.kept kz'
        have TZ := T5.out.kept kz'
        have ZZ := Lib.hid (Z5.out.kept kz')
        have KZ := Lib.hid (K5.out.trans kz')
        obtain ⟨c0, c1, c2⟩ := EZ.cells
        obtain ⟨d0, d1, d2⟩ := TZ.cells
        obtain ⟨f0, f1, f2⟩ := TZ.free
        simp only [Option.getD_none, Vt.zero] at d0 d1 d2
        have RT : Hid (Hv (put3 wz (w.heap.size + 1) ⟨who, ar, as_⟩) (w.heap.size + 1) ⟨who, ar, as_⟩) := Lib.hid (put3_new TZ _)
        have RZ : Hid (Hv (put3 wz (w.heap.size + 1) ⟨who, ar, as_⟩) w.heap.size Vt.zero) := Lib.hid ((put3_old _ _ _ (by omega)).trans ZZ.out)
        have RK : Hid (Kept w (put3 wz (w.heap.size + 1) ⟨who, ar, as_⟩)) := Lib.hid (put3_kept _ KZ.out (by omega))
        simp only at c0 c1 c2
        clear kz kz' EZ TZ K5 T5 Z5
        refine wpList_end ?_
        go_wp2
        go_roundw
        case rel =>
          refine ⟨1, by omega, by go_num, ?_, ?_, ?_⟩
          · with_reducible exact RK.out
          · with_reducible exact RZ.out
          · rw [HS1.out]
            simp only [Option.getD_some]
            with_reducible exact RT.out
        case measure => simp [intOf]; omega
      · have hkz : ((k : Int) == 0) = false := by simp; omega
        have T1 : Hid (∀ W, Kept W5.drew W → (W.cell? ⟨g, 0, none⟩ = some (.int .i64 who) ∧ W.cell? ⟨g, 1, none⟩ = some (.int .i64 ar) ∧ W.cell? ⟨g, 2, none⟩ = some (.int .i64 as_)) ∧
            (W.cell? ⟨w.heap.size + 1, 0, none⟩ = some (.int .i64 yw) ∧ W.cell? ⟨w.heap.size + 1, 1, none⟩ = some (.int .i64 yr) ∧ W.cell? ⟨w.heap.size + 1, 2, none⟩ = some (.int .i64 ys))) :=
          Lib.hid (fun W hk => by
            have k' : Kept W5 W := (Kept.refl _).drew.trans hk
            exact ⟨(E5.out.kept k').cells, (T5.out.kept k').cells⟩)
        have HC := Lib.hid (compare_any ar as_ yr ys)
        have HG : Hid (gvStep (some ⟨yw, yr, ys⟩) ⟨who, ar, as_⟩ = if 0 < cmpB ar as_ yr ys then some ⟨who, ar, as_⟩ else some ⟨yw, yr, ys⟩) := Lib.hid rfl
        generalize cmpB ar as_ yr ys = z at *
        refine wp_region_typed (N := 12) (fl := []) (by kernel_rfl) (by kernel_rfl) ?_
        simp only [List.take_succ_cons, List.take_zero, List.drop_succ_cons, List.drop_zero, List.map_cons, List.map_nil, zipF]
        repeat (first
          | (refine wpT_is (.agg #[.int .i64 ar, .int .i64 as_]) rfl (fun ρ w2 hk ⟨c1, c2, c3⟩ ⟨h1, h2, _⟩ => ?_) ?_
             · have h1 : ρ (.tmp 19) = _ := h1
               have h2 : ρ (.tmp 20) = _ := h2
               refine upT_call 29 #[.agg #[.int .i64 who, .int .i64 ar, .int .i64 as_]] ?_ ((vat_any _ _ _ _).mono ?_)
               · go_simp
               rintro e u ⟨rfl, hk2⟩
               exact ⟨_, rfl, hk2, rfl⟩
             dsimp only [putS, List.set_cons_succ, List.set_cons_zero])
          | (refine wpT_is (.agg #[.int .i64 yr, .int .i64 ys]) rfl (fun ρ w2 hk ⟨c1, c2, c3⟩ ⟨h1, h2, _⟩ => ?_) ?_
             · have h1 : ρ (.tmp 22) = _ := h1
               have h2 : ρ (.tmp 23) = _ := h2
               refine upT_call 29 #[.agg #[.int .i64 yw, .int .i64 yr, .int .i64 ys]] ?_ ((vat_any _ _ _ _).mono ?_)
               · go_simp
               rintro e u ⟨rfl, hk2⟩
               exact ⟨_, rfl, hk2, rfl⟩
             dsimp only [putS, List.set_cons_succ, List.set_cons_zero])
          | (refine wpT_is (.int .i64 z) rfl (fun ρ w2 hk ⟨c1, c2, c3⟩ ⟨h1, h2, _⟩ => ?_) ?_
             · have h1 : ρ (.tmp 21) = _ := h1
               have h2 : ρ (.tmp 24) = _ := h2
               refine upT_call 35 #[.agg #[.int .i64 ar, .int .i64 as_], .agg #[.int .i64 yr, .int .i64 ys]] ?_ ((HC.out w2).mono ?_)
               · go_simp
               rintro e u ⟨rfl, hk2⟩
               exact ⟨_, rfl, (Kept.refl _).call hk2, rfl⟩
             dsimp only [putS, List.set_cons_succ, List.set_cons_zero])
          | (refine wpT_skip rfl ?_; dsimp only [putS, List.set_cons_succ, List.set_cons_zero])
          | (refine wpT_slot (S := .is _) _ (.inl rfl) rfl (Slot.mono_is _) rfl ?_; dsimp only [putS, List.set_cons_succ, List.set_cons_zero])
          | (refine wpT_slot (S := .is _) _ (.inr rfl) rfl (Slot.mono_is _) rfl ?_; dsimp only [putS, List.set_cons_succ, List.set_cons_zero])
          | (refine wpT_exact1 rfl rfl rfl ?_; apply Exists.intro; refine ⟨fun ρ w hk ⟨c1, c2, c3⟩ h1 => ?_, ?_⟩; (· obtain ⟨⟨t1, t2, t3⟩, s1, s2, s3⟩ := T1.out w hk; go_simp; exact rfl); dsimp only [putS, List.set_cons_succ, List.set_cons_zero])
          | (refine wpT_exact2 rfl rfl rfl rfl ?_; apply Exists.intro; refine ⟨fun ρ w hk ⟨c1, c2, c3⟩ h1 h2 => ?_, ?_⟩; (· obtain ⟨⟨t1, t2, t3⟩, s1, s2, s3⟩ := T1.out w hk; go_simp; exact rfl); dsimp only [putS, List.set_cons_succ, List.set_cons_zero])
          | (refine wpT_exact3 rfl rfl rfl rfl rfl ?_; apply Exists.intro; refine ⟨fun ρ w hk ⟨c1, c2, c3⟩ h1 h2 h3 => ?_, ?_⟩; (· obtain ⟨⟨t1, t2, t3⟩, s1, s2, s3⟩ := T1.out w hk; go_simp; exact rfl); dsimp only [putS, List.set_cons_succ, List.set_cons_zero])
          | (refine wpT_exact4 rfl rfl rfl rfl rfl rfl ?_; apply Exists.intro; refine ⟨fun ρ w hk ⟨c1, c2, c3⟩ h1 h2 h3 h4 => ?_, ?_⟩; (· obtain ⟨⟨t1, t2, t3⟩, s1, s2, s3⟩ := T1.out w hk; go_simp; exact rfl); dsimp only [putS, List.set_cons_succ, List.set_cons_zero])
          | (refine wpT_exact0 rfl ?_; apply Exists.intro; refine ⟨fun ρ w hk ⟨c1, c2, c3⟩ => ?_, ?_⟩; (· obtain ⟨⟨t1, t2, t3⟩, s1, s2, s3⟩ := T1.out w hk; go_simp; exact rfl); dsimp only [putS, List.set_cons_succ, List.set_cons_zero])
          | fail)
        refine wpT_nil ?_
        intro wz kz
        simp only [Fits]
        have kz' : Kept W5 wz := (Kept.refl _).drew.trans kz
        have ZZ := Lib.hid (Z5.out.kept kz')
        have KZ := Lib.hid (K5.out.trans kz')
        have EZ := E5.out.kept kz'
        have TZ := T5.out.kept kz'
        simp only [Option.getD_some] at TZ
        by_cases hz : 0 < z
        · have hzd : decide (0 < z) = true := decide_eq_true hz
          rw [if_pos hz] at HG
          obtain ⟨c0, c1, c2⟩ := EZ.cells
          obtain ⟨d0, d1, d2⟩ := TZ.cells
          obtain ⟨f0, f1, f2⟩ := TZ.free
          have RT : Hid (Hv (put3 wz (w.heap.size + 1) ⟨who, ar, as_⟩) (w.heap.size + 1) ⟨who, ar, as_⟩) := Lib.hid (put3_new TZ _)
          have RZ : Hid (Hv (put3 wz (w.heap.size + 1) ⟨who, ar, as_⟩) w.heap.size Vt.zero) := Lib.hid ((put3_old _ _ _ (by omega)).trans ZZ.out)
          have RK : Hid (Kept w (put3 wz (w.heap.size + 1) ⟨who, ar, as_⟩)) := Lib.hid (put3_kept _ KZ.out (by omega))
          simp only at c0 c1 c2 d0 d1 d2
          clear kz kz' EZ TZ K5 T5 Z5 T1
          refine wpList_end ?_
          go_wp2
          go_roundw
          case rel =>
            refine ⟨k + 1, by omega, by go_num, ?_, ?_, ?_⟩
            · with_reducible exact RK.out
            · with_reducible exact RZ.out
            · rw [HS.out, HG.out]
              simp only [Option.getD_some]
              with_reducible exact RT.out
          case measure => simp [intOf]; omega
        · have hzd : decide (0 < z) = false := decide_eq_false hz
          rw [if_neg hz] at HG
          have TZ := Lib.hid TZ
          clear kz kz' EZ K5 T5 Z5 T1
          refine wpList_end ?_
          go_wp2
          go_roundw
          case rel => exact ⟨k + 1, by omega, by go_num, KZ.out, ZZ.out, by rw [HS.out, HG.out]; exact TZ.out⟩
          case measure => simp [intOf]; omega
    · obtain rfl : k = N := by omega
      have e : l.take k = l := by rw [← HL.out, HT.out]
      rw [e] at ht
      obtain ⟨d0, d1, d2⟩ := hz.cells
      obtain ⟨f0, f1, f2⟩ := hz.free
      simp only [Vt.zero] at d0 d1 d2
      obtain ⟨y, hy⟩ : ∃ y, (gV l).getD Vt.zero = y := ⟨_, rfl⟩
      rw [hy] at ht
      have HY := Lib.hid hy
      clear hy
      obtain ⟨t0, t1, t2⟩ := ht.cells
      have R : Hid (Hv (put3 wr w.heap.size y) w.heap.size y) := Lib.hid (put3_new hz y)
      have RK : Hid (Kept w (put3 wr w.heap.size y)) := Lib.hid (put3_kept y kk (Nat.le_refl _))
      obtain ⟨who, ar, as_⟩ := y
      simp only at t0 t1 t2
      clear hz ht kk
      go_wp2
      refine bodyPost_ret (results_row_tmp (p := 4) (u := 5) (ty := 60) rfl _ _ _ w.heap.size _ _ _ _ _ rfl rfl (by with_reducible exact R.out) Try.underlying60 rfl (by kernel_rfl)) rfl ?_
      refine ⟨_, HY.out.symm, rfl, ?_⟩
      with_reducible exact RK.out
end Go.Proofs.Ytifenlopgpbpbaa
