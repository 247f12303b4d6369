/- The greatest of promises. -/
import Derived.Test.YtifenlopgpbpbaaPrqA
import Derived.Test.YtifenlopgpbpbaaTypedB
import Derived.Test.YtifenlopgpbpbaaBalP
namespace Go.Proofs.Ytifenlopgpbpbaa
open Go.RowKit

def It.zero : It := ⟨⟨0, false, 0, 0, []⟩, none, 0⟩
def gStep (o : Option It) (x : It) : Option It := match o with | none => some x | some q => if 0 < cmpB x.r.ar x.r.as_ q.r.ar q.r.as_ then some x else some q
/-- the first one of the greatest -/
def gP (l : List It) : Option It := l.foldl gStep none
theorem gP_snoc (l : List It) (x : It) : gP (l ++ [x]) = gStep (gP l) x := by unfold gP; rw [List.foldl_append]; rfl
theorem gP_some : ∀ (l : List It) (q : It), ∃ y, l.foldl gStep (some q) = some y
  | [], q => ⟨q, rfl⟩
  | x :: l, q => by
    rw [List.foldl_cons]
    unfold gStep
    split
    · rename_i h; cases h
    · split
      · exact gP_some l _
      · exact gP_some l _
theorem gP_none {l : List It} (h : gP l = none) : l = [] := by
  cases l with
  | nil => rfl
  | cons x l =>
    obtain ⟨y, hy⟩ := gP_some l x
    have : gP (x :: l) = some y := hy
    rw [h] at this
    cases this
/-- a promise in a block of its own -/
abbrev Hp (W : World) (g : Nat) (x : It) : Prop := W.heap[g]? = some (.cells #[.int .i64 x.r.who, .bool x.r.so, .int .i64 x.r.ar, .int .i64 x.r.as_, .slice x.A x.r.val.length x.c] 58 (0, 0))
theorem Hp.kept {W W' : World} {g : Nat} {x : It} (h : Hp W g x) (k : Kept W W') : Hp W' g x := (k.1.block g (heap_lt h)).trans h
theorem Hp.cells {W : World} {g : Nat} {x : It} (h : Hp W g x) : W.cell? ⟨g, 0, none⟩ = some (.int .i64 x.r.who) ∧ W.cell? ⟨g, 1, none⟩ = some (.bool x.r.so) ∧ W.cell? ⟨g, 2, none⟩ = some (.int .i64 x.r.ar) ∧ W.cell? ⟨g, 3, none⟩ = some (.int .i64 x.r.as_) ∧ W.cell? ⟨g, 4, none⟩ = some (.slice x.A x.r.val.length x.c) :=
  ⟨cell_of_heap h 0, cell_of_heap h 1, cell_of_heap h 2, cell_of_heap h 3, cell_of_heap h 4⟩
theorem Hp.free {W : World} {g : Nat} {x : It} (h : Hp W g x) : W.frozen? ⟨g, 0, none⟩ = false ∧ W.frozen? ⟨g, 1, none⟩ = false ∧ W.frozen? ⟨g, 2, none⟩ = false ∧ W.frozen? ⟨g, 3, none⟩ = false ∧ W.frozen? ⟨g, 4, none⟩ = false :=
  ⟨frozen_of_heap h 0, frozen_of_heap h 1, frozen_of_heap h 2, frozen_of_heap h 3, frozen_of_heap h 4⟩
/-- a promise written over -/
abbrev put5 (W : World) (g : Nat) (x : It) : World :=
  ((((W.setCell ⟨g, 0, none⟩ (.int .i64 x.r.who)).setCell ⟨g, 1, none⟩ (.bool x.r.so)).setCell ⟨g, 2, none⟩ (.int .i64 x.r.ar)).setCell ⟨g, 3, none⟩ (.int .i64 x.r.as_)).setCell ⟨g, 4, none⟩ (.slice x.A x.r.val.length x.c)
theorem put5_size (W : World) (g : Nat) (x : It) : (put5 W g x).heap.size = W.heap.size := by simp [put5, World.setCell]
theorem put5_old (W : World) (g : Nat) (x : It) {k : Nat} (hk : k ≠ g) : (put5 W g x).heap[k]? = W.heap[k]? :=
  (Below.heap_setCell _ ⟨g, 4, none⟩ _ k hk).trans ((Below.heap_setCell _ ⟨g, 3, none⟩ _ k hk).trans ((Below.heap_setCell _ ⟨g, 2, none⟩ _ k hk).trans ((Below.heap_setCell _ ⟨g, 1, none⟩ _ k hk).trans (Below.heap_setCell _ ⟨g, 0, none⟩ _ k hk))))
theorem put5_new {W : World} {g : Nat} {y : It} (h : Hp W g y) (x : It) : Hp (put5 W g x) g x := by
  unfold put5 Hp
  exact (heap_setCell_same (heap_setCell_same (heap_setCell_same (heap_setCell_same (heap_setCell_same h _) _) _) _) _).trans rfl
theorem put5_kept {v W : World} {g : Nat} (x : It) (k : Kept v W) (h : v.heap.size ≤ g) : Kept v (put5 W g x) :=
  ((((k.setCell (p := ⟨g, 0, none⟩) h _).setCell (p := ⟨g, 1, none⟩) h _).setCell (p := ⟨g, 2, none⟩) h _).setCell (p := ⟨g, 3, none⟩) h _).setCell (p := ⟨g, 4, none⟩) h _

set_option maxRecDepth 100000 in
set_option maxHeartbeats 8000000 in
theorem greatestP_any {w : World} {A : Option Addr} {N cap : Nat} {l : List It} (hl : l.length = N) (hR : EP.Reads w A l) (hN : N ≤ 1099511627776) :
    Calls Try.prog 23 #[.slice A N cap, .func (.func 24) #[] #[]] w fun e w' =>
      ∃ x, x = (gP l).getD It.zero ∧ e = .returned (.tuple #[.agg #[.int .i64 x.r.who, .bool x.r.so, .int .i64 x.r.ar, .int .i64 x.r.as_, .slice x.A x.r.val.length x.c], .bool (decide (0 < N))]) ∧ Kept w w' := by
  have HL := Lib.hid hl
  have HR := Lib.hid hR
  have HT : Hid (l.take l.length = l) := Lib.hid (by rw [List.take_length])
  clear hl hR
  have K0 : Hid (Kept w ((w.alloc (.cells #[.int .i64 0, .bool false, .int .i64 0, .int .i64 0, .slice none 0 0] 58)).alloc (.cells #[.int .i64 0, .bool false, .int .i64 0, .int .i64 0, .slice none 0 0] 58))) := Lib.hid (((Kept.refl w).alloc _).alloc _)
  have P0 : Hid (Hp ((w.alloc (.cells #[.int .i64 0, .bool false, .int .i64 0, .int .i64 0, .slice none 0 0] 58)).alloc (.cells #[.int .i64 0, .bool false, .int .i64 0, .int .i64 0, .slice none 0 0] 58)) w.heap.size It.zero) := Lib.hid (push_two_old w _ _)
  have P1 : Hid (Hp ((w.alloc (.cells #[.int .i64 0, .bool false, .int .i64 0, .int .i64 0, .slice none 0 0] 58)).alloc (.cells #[.int .i64 0, .bool false, .int .i64 0, .int .i64 0, .slice none 0 0] 58)) (w.heap.size + 1) It.zero) := Lib.hid (push_two_new w _ _)
  go_enter Try.func23, Try.ntmps23
  go_wp2
  go_loopw [11] (fun i wr => ∃ k : Nat, k ≤ N ∧ i = .int .i64 k ∧ Kept w wr ∧ Hp wr w.heap.size It.zero ∧ Hp wr (w.heap.size + 1) ((gP (l.take k)).getD It.zero)) (fun i _ => N - (intOf i).toNat)
  case atStart => exact ⟨0, Nat.zero_le _, rfl, K0.out, P0.out, P1.out⟩
  case round =>
    obtain ⟨k, hk, rfl, kk, hz, ht⟩ := hrel
    have KK := Lib.hid kk
    have HZ := Lib.hid hz
    by_cases hlt : k < N
    · have hkl : k < l.length := by rw [HL.out]; exact hlt
      obtain ⟨b, off, rfl, hb, c0, c1, c2, c3, c4⟩ := EP_five (HR.out.kept kk) hkl
      have HS : Hid (gP (l.take (k + 1)) = gStep (gP (l.take k)) l[k]) := Lib.hid (by rw [List.take_succ_eq_append_getElem hkl, gP_snoc])
      have H0 : Hid (gP (l.take k) = none → k = 0) := Lib.hid (fun h => by have := congrArg List.length (gP_none h); rw [List.length_take, List.length_nil] at this; omega)
      have H00 : Hid (k = 0 → gP (l.take k) = none) := Lib.hid (fun h => by subst h; rfl)
      generalize l[k] = x at *
      generalize gP (l.take k) = o at *
      have HTP := Lib.hid ht
      have hsz : w.heap.size + 1 < wr.heap.size := heap_lt ht
      obtain ⟨⟨who, so, ar, as_, val⟩, B, c⟩ := x
      simp only at c0 c1 c2 c3 c4
      clear kk hz ht
      go_wp2_with fail
      have K5 := Lib.hid (KK.out.alloc (.cells #[.int .i64 who, .bool so, .int .i64 ar, .int .i64 as_, .slice B val.length c] 58))
      have E5 : Hid (Hp (wr.alloc (.cells #[.int .i64 who, .bool so, .int .i64 ar, .int .i64 as_, .slice B val.length c] 58)) wr.heap.size ⟨⟨who, so, ar, as_, val⟩, B, c⟩) := Lib.hid (push_new wr _)
      have T5 := Lib.hid (HTP.out.kept ((Kept.refl wr).alloc (.cells #[.int .i64 who, .bool so, .int .i64 ar, .int .i64 as_, .slice B val.length c] 58)))
      have Z5 := Lib.hid (HZ.out.kept ((Kept.refl wr).alloc (.cells #[.int .i64 who, .bool so, .int .i64 ar, .int .i64 as_, .slice B val.length c] 58)))
      clear c0 c1 c2 c3 c4 HTP HZ hb
      generalize wr.alloc (.cells #[.int .i64 who, .bool so, .int .i64 ar, .int .i64 as_, .slice B val.length c] 58) = W5 at *
      generalize wr.heap.size = g at *
      have ways : (k = 0 ∧ o = none) ∨ (k ≠ 0 ∧ ∃ y, o = some y) := by
        cases o with
        | none => exact .inl ⟨H0.out rfl, rfl⟩
        | some y => exact .inr ⟨(fun h => by have := H00.out h; cases this), y, rfl⟩
      clear H0 H00
      rcases ways with ⟨rfl, rfl⟩ | ⟨hk0, ⟨⟨yw, yo, yr, ys, yv⟩, YB, yc⟩, rfl⟩
      · have HG : Hid (gStep none ⟨⟨who, so, ar, as_, val⟩, B, c⟩ = some ⟨⟨who, so, ar, as_, val⟩, B, c⟩) := Lib.hid rfl
        refine wp_region_typed (N := 12) (fl := []) (by kernel_rfl) (by kernel_rfl) ?_
        simp only [List.take_succ_cons, List.take_zero, List.drop_succ_cons, List.drop_zero, List.map_cons, List.map_nil, zipF]
        repeat (first
          | (refine wpT_skip rfl ?_; dsimp only [putS, List.set_cons_succ, List.set_cons_zero])
          | (refine wpT_slot (S := .is _) _ (.inl rfl) rfl (Slot.mono_is _) rfl ?_; dsimp only [putS, List.set_cons_succ, List.set_cons_zero])
          | (refine wpT_slot (S := .is _) _ (.inr rfl) rfl (Slot.mono_is _) rfl ?_; dsimp only [putS, List.set_cons_succ, List.set_cons_zero])
          | (refine wpT_exact1 rfl rfl rfl ?_; apply Exists.intro; refine ⟨fun ρ w hk ⟨c1, c2, c3⟩ h1 => ?_, ?_⟩; (· go_simp; exact rfl); dsimp only [putS, List.set_cons_succ, List.set_cons_zero])
          | (refine wpT_exact2 rfl rfl rfl rfl ?_; apply Exists.intro; refine ⟨fun ρ w hk ⟨c1, c2, c3⟩ h1 h2 => ?_, ?_⟩; (· go_simp; exact rfl); dsimp only [putS, List.set_cons_succ, List.set_cons_zero])
          | (refine wpT_exact3 rfl rfl rfl rfl rfl ?_; apply Exists.intro; refine ⟨fun ρ w hk ⟨c1, c2, c3⟩ h1 h2 h3 => ?_, ?_⟩; (· go_simp; exact rfl); dsimp only [putS, List.set_cons_succ, List.set_cons_zero])
          | (refine wpT_exact4 rfl rfl rfl rfl rfl rfl ?_; apply Exists.intro; refine ⟨fun ρ w hk ⟨c1, c2, c3⟩ h1 h2 h3 h4 => ?_, ?_⟩; (· go_simp; exact rfl); dsimp only [putS, List.set_cons_succ, List.set_cons_zero])
          | (refine wpT_exact0 rfl ?_; apply Exists.intro; refine ⟨fun ρ w hk ⟨c1, c2, c3⟩ => ?_, ?_⟩; (· go_simp; exact rfl); dsimp only [putS, List.set_cons_succ, List.set_cons_zero])
          | fail)
        refine wpT_nil ?_
        intro wz kz
        simp only [Fits]
        have HS1 : Hid (gP (l.take 1) = some ⟨⟨who, so, ar, as_, val⟩, B, c⟩) := Lib.hid (HS.out.trans HG.out)
        have kz' : Kept W5 wz := (Kept.refl _).drew.trans kz
        have EZ := E5.out.kept kz'
        have TZ := T5.out.kept kz'
        have ZZ := Lib.hid (Z5.out.kept kz')
        have KZ := Lib.hid (K5.out.trans kz')
        obtain ⟨c0, c1, c2, c3, c4⟩ := EZ.cells
        obtain ⟨d0, d1, d2, d3, d4⟩ := TZ.cells
        obtain ⟨f0, f1, f2, f3, f4⟩ := TZ.free
        simp only [Option.getD_none, It.zero] at d0 d1 d2 d3 d4
        have RT : Hid (Hp (put5 wz (w.heap.size + 1) ⟨⟨who, so, ar, as_, val⟩, B, c⟩) (w.heap.size + 1) ⟨⟨who, so, ar, as_, val⟩, B, c⟩) := Lib.hid (put5_new TZ _)
        have RZ : Hid (Hp (put5 wz (w.heap.size + 1) ⟨⟨who, so, ar, as_, val⟩, B, c⟩) w.heap.size It.zero) := Lib.hid ((put5_old _ _ _ (by omega)).trans ZZ.out)
        have RK : Hid (Kept w (put5 wz (w.heap.size + 1) ⟨⟨who, so, ar, as_, val⟩, B, c⟩)) := Lib.hid (put5_kept _ KZ.out (by omega))
        simp only at c0 c1 c2 c3 c4
        clear kz kz' EZ TZ K5 T5 Z5
        refine wpList_end ?_
        go_wp2
        go_roundw
        case rel =>
          refine ⟨1, by omega, by go_num, ?_, ?_, ?_⟩
          · with_reducible exact RK.out
          · with_reducible exact RZ.out
          · rw [HS1.out]
            simp only [Option.getD_some]
            with_reducible exact RT.out
        case measure => simp [intOf]; omega
      · have hkz : ((k : Int) == 0) = false := by simp; omega
        have T1 : Hid (∀ W, Kept W5.drew W → (W.cell? ⟨g, 0, none⟩ = some (.int .i64 who) ∧ W.cell? ⟨g, 1, none⟩ = some (.bool so) ∧ W.cell? ⟨g, 2, none⟩ = some (.int .i64 ar) ∧ W.cell? ⟨g, 3, none⟩ = some (.int .i64 as_) ∧ W.cell? ⟨g, 4, none⟩ = some (.slice B val.length c)) ∧
            (W.cell? ⟨w.heap.size + 1, 0, none⟩ = some (.int .i64 yw) ∧ W.cell? ⟨w.heap.size + 1, 1, none⟩ = some (.bool yo) ∧ W.cell? ⟨w.heap.size + 1, 2, none⟩ = some (.int .i64 yr) ∧ W.cell? ⟨w.heap.size + 1, 3, none⟩ = some (.int .i64 ys) ∧ W.cell? ⟨w.heap.size + 1, 4, none⟩ = some (.slice YB yv.length yc))) :=
          Lib.hid (fun W hk => by
            have k' : Kept W5 W := (Kept.refl _).drew.trans hk
            exact ⟨(E5.out.kept k').cells, (T5.out.kept k').cells⟩)
        have HC := Lib.hid (compare_any ar as_ yr ys)
        have HG : Hid (gStep (some ⟨⟨yw, yo, yr, ys, yv⟩, YB, yc⟩) ⟨⟨who, so, ar, as_, val⟩, B, c⟩ = if 0 < cmpB ar as_ yr ys then some ⟨⟨who, so, ar, as_, val⟩, B, c⟩ else some ⟨⟨yw, yo, yr, ys, yv⟩, YB, yc⟩) := Lib.hid rfl
        generalize cmpB ar as_ yr ys = z at *
        refine wp_region_typed (N := 12) (fl := []) (by kernel_rfl) (by kernel_rfl) ?_
        simp only [List.take_succ_cons, List.take_zero, List.drop_succ_cons, List.drop_zero, List.map_cons, List.map_nil, zipF]
        repeat (first
          | (refine wpT_is (.agg #[.int .i64 ar, .int .i64 as_]) rfl (fun ρ w2 hk ⟨c1, c2, c3⟩ ⟨h1, h2, _⟩ => ?_) ?_
             · have h1 : ρ (.tmp 19) = _ := h1
               have h2 : ρ (.tmp 20) = _ := h2
               refine upT_call 24 #[.agg #[.int .i64 who, .bool so, .int .i64 ar, .int .i64 as_, .slice B val.length c]] ?_ ((pat_any _ _ _ _ _ _ _ _).mono ?_)
               · go_simp
               rintro e u ⟨rfl, hk2⟩
               exact ⟨_, rfl, hk2, rfl⟩
             dsimp only [putS, List.set_cons_succ, List.set_cons_zero])
          | (refine wpT_is (.agg #[.int .i64 yr, .int .i64 ys]) rfl (fun ρ w2 hk ⟨c1, c2, c3⟩ ⟨h1, h2, _⟩ => ?_) ?_
             · have h1 : ρ (.tmp 22) = _ := h1
               have h2 : ρ (.tmp 23) = _ := h2
               refine upT_call 24 #[.agg #[.int .i64 yw, .bool yo, .int .i64 yr, .int .i64 ys, .slice YB yv.length yc]] ?_ ((pat_any _ _ _ _ _ _ _ _).mono ?_)
               · go_simp
               rintro e u ⟨rfl, hk2⟩
               exact ⟨_, rfl, hk2, rfl⟩
             dsimp only [putS, List.set_cons_succ, List.set_cons_zero])
          | (refine wpT_is (.int .i64 z) rfl (fun ρ w2 hk ⟨c1, c2, c3⟩ ⟨h1, h2, _⟩ => ?_) ?_
             · have h1 : ρ (.tmp 21) = _ := h1
               have h2 : ρ (.tmp 24) = _ := h2
               refine upT_call 35 #[.agg #[.int .i64 ar, .int .i64 as_], .agg #[.int .i64 yr, .int .i64 ys]] ?_ ((HC.out w2).mono ?_)
               · go_simp
               rintro e u ⟨rfl, hk2⟩
               exact ⟨_, rfl, (Kept.refl _).call hk2, rfl⟩
             dsimp only [putS, List.set_cons_succ, List.set_cons_zero])
          | (refine wpT_skip rfl ?_; dsimp only [putS, List.set_cons_succ, List.set_cons_zero])
          | (refine wpT_slot (S := .is _) _ (.inl rfl) rfl (Slot.mono_is _) rfl ?_; dsimp only [putS, List.set_cons_succ, List.set_cons_zero])
          | (refine wpT_slot (S := .is _) _ (.inr rfl) rfl (Slot.mono_is _) rfl ?_; dsimp only [putS, List.set_cons_succ, List.set_cons_zero])
          | (refine wpT_exact1 rfl rfl rfl ?_; apply Exists.intro; refine ⟨fun ρ w hk ⟨c1, c2, c3⟩ h1 => ?_, ?_⟩; (· obtain ⟨⟨t1, t2, t3, t4, t5⟩, s1, s2, s3, s4, s5⟩ := T1.out w hk; go_simp; exact rfl); dsimp only [putS, List.set_cons_succ, List.set_cons_zero])
          | (refine wpT_exact2 rfl rfl rfl rfl ?_; apply Exists.intro; refine ⟨fun ρ w hk ⟨c1, c2, c3⟩ h1 h2 => ?_, ?_⟩; (· obtain ⟨⟨t1, t2, t3, t4, t5⟩, s1, s2, s3, s4, s5⟩ := T1.out w hk; go_simp; exact rfl); dsimp only [putS, List.set_cons_succ, List.set_cons_zero])
          | (refine wpT_exact3 rfl rfl rfl rfl rfl ?_; apply Exists.intro; refine ⟨fun ρ w hk ⟨c1, c2, c3⟩ h1 h2 h3 => ?_, ?_⟩; (· obtain ⟨⟨t1, t2, t3, t4, t5⟩, s1, s2, s3, s4, s5⟩ := T1.out w hk; go_simp; exact rfl); dsimp only [putS, List.set_cons_succ, List.set_cons_zero])
          | (refine wpT_exact4 rfl rfl rfl rfl rfl rfl ?_; apply Exists.intro; refine ⟨fun ρ w hk ⟨c1, c2, c3⟩ h1 h2 h3 h4 => ?_, ?_⟩; (· obtain ⟨⟨t1, t2, t3, t4, t5⟩, s1, s2, s3, s4, s5⟩ := T1.out w hk; go_simp; exact rfl); dsimp only [putS, List.set_cons_succ, List.set_cons_zero])
          | (refine wpT_exact0 rfl ?_; apply Exists.intro; refine ⟨fun ρ w hk ⟨c1, c2, c3⟩ => ?_, ?_⟩; (· obtain ⟨⟨t1, t2, t3, t4, t5⟩, s1, s2, s3, s4, s5⟩ := T1.out w hk; go_simp; exact rfl); dsimp only [putS, List.set_cons_succ, List.set_cons_zero])
          | fail)
        refine wpT_nil ?_
        intro wz kz
        simp only [Fits]
        have kz' : Kept W5 wz := (Kept.refl _).drew.trans kz
        have ZZ := Lib.hid (Z5.out.kept kz')
        have KZ := Lib.hid (K5.out.trans kz')
        have EZ := E5.out.kept kz'
        have TZ := T5.out.kept kz'
        simp only [Option.getD_some] at TZ
        by_cases hz : 0 < z
        · have hzd : decide (0 < z) = true := decide_eq_true hz
          rw [if_pos hz] at HG
          obtain ⟨c0, c1, c2, c3, c4⟩ := EZ.cells
          obtain ⟨d0, d1, d2, d3, d4⟩ := TZ.cells
          obtain ⟨f0, f1, f2, f3, f4⟩ := TZ.free
          have RT : Hid (Hp (put5 wz (w.heap.size + 1) ⟨⟨who, so, ar, as_, val⟩, B, c⟩) (w.heap.size + 1) ⟨⟨who, so, ar, as_, val⟩, B, c⟩) := Lib.hid (put5_new TZ _)
          have RZ : Hid (Hp (put5 wz (w.heap.size + 1) ⟨⟨who, so, ar, as_, val⟩, B, c⟩) w.heap.size It.zero) := Lib.hid ((put5_old _ _ _ (by omega)).trans ZZ.out)
          have RK : Hid (Kept w (put5 wz (w.heap.size + 1) ⟨⟨who, so, ar, as_, val⟩, B, c⟩)) := Lib.hid (put5_kept _ KZ.out (by omega))
          simp only at c0 c1 c2 c3 c4 d0 d1 d2 d3 d4
          clear kz kz' EZ TZ K5 T5 Z5 T1
          refine wpList_end ?_
          go_wp2
          go_roundw
          case rel =>
            refine ⟨k + 1, by omega, by go_num, ?_, ?_, ?_⟩
            · with_reducible exact RK.out
            · with_reducible exact RZ.out
            · rw [HS.out, HG.out]
              simp only [Option.getD_some]
              with_reducible exact RT.out
          case measure => simp [intOf]; omega
        · have hzd : decide (0 < z) = false := decide_eq_false hz
          rw [if_neg hz] at HG
          have TZ := Lib.hid TZ
          clear kz kz' EZ K5 T5 Z5 T1
          refine wpList_end ?_
          go_wp2
          go_roundw
          case rel => exact ⟨k + 1, by omega, by go_num, KZ.out, ZZ.out, by rw [HS.out, HG.out]; exact TZ.out⟩
          case measure => simp [intOf]; omega
    · obtain rfl : k = N := by omega
      have e : l.take k = l := by rw [← HL.out, HT.out]
      rw [e] at ht
      obtain ⟨d0, d1, d2, d3, d4⟩ := hz.cells
      obtain ⟨f0, f1, f2, f3, f4⟩ := hz.free
      simp only [It.zero] at d0 d1 d2 d3 d4
      obtain ⟨y, hy⟩ : ∃ y, (gP l).getD It.zero = y := ⟨_, rfl⟩
      rw [hy] at ht
      have HY := Lib.hid hy
      clear hy
      obtain ⟨t0, t1, t2, t3, t4⟩ := ht.cells
      have R : Hid (Hp (put5 wr w.heap.size y) w.heap.size y) := Lib.hid (put5_new hz y)
      have RK : Hid (Kept w (put5 wr w.heap.size y)) := Lib.hid (put5_kept y kk (Nat.le_refl _))
      obtain ⟨⟨who, so, ar, as_, val⟩, B, c⟩ := y
      simp only at t0 t1 t2 t3 t4
      clear hz ht kk
      go_wp2
      refine bodyPost_ret (results_row_tmp (p := 4) (u := 5) (ty := 58) rfl _ _ _ w.heap.size _ _ _ _ _ rfl rfl (by with_reducible exact R.out) Try.underlying58 rfl (by kernel_rfl)) rfl ?_
      refine ⟨_, HY.out.symm, rfl, ?_⟩
      with_reducible exact RK.out
end Go.Proofs.Ytifenlopgpbpbaa
