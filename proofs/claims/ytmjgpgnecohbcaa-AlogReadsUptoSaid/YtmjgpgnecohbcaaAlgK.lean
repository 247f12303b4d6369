/- The known record that every statement of layer 7 asks first. -/
import Derived.Test.YtmjgpgnecohbcaaAlgU
import Derived.Test.YtmjgpgnecohbcaaAlgL
import Derived.Test.YtmjgpgnecohbcaaAlgO
namespace Go.Proofs.Ytmjgpgnecohbcaa
open Go.RowKit

def r0 : Rc := ⟨1, 3, 1, 2, []⟩
theorem r0_may : r0.may := by decide
theorem r0_enc : r0.enc = [1, 3, 1, 2, 0] := by
  have h1 : put 1 = [1] := put_small (by omega)
  have h3 : put 3 = [3] := put_small (by omega)
  have h2 : put 2 = [2] := put_small (by omega)
  have h0 : put 0 = [0] := put_small (by omega)
  simp [Rc.enc, puts, Rc.nums, r0, h0, h1, h2, h3]
theorem r0_two : ∀ r ∈ [r0, r0], r.may := by
  intro r hr
  simp only [List.mem_cons, List.not_mem_nil, or_false, or_self] at hr
  subst hr; exact r0_may
theorem r0_len : (frm r0.enc).length = 13 := by rw [frm_len, r0_enc]; rfl
theorem r0_laid : (laidAll [r0, r0]).length = 26 := by simp [laidAll, flat, r0_len]
theorem r0_torn : Reads ((laidAll [r0, r0]).take 20) [r0] 13 := by
  obtain ⟨w, h1, h2, h3, h4⟩ := reads_torn r0_two 20
  have e0 : (laidAll ([] : List Rc)).length = 0 := rfl
  have e1 : (laidAll [r0]).length = 13 := by simp [laidAll, flat, r0_len]
  have hw : w = 1 := by
    simp only [List.length_cons, List.length_nil] at h1
    have : w = 0 ∨ w = 1 ∨ w = 2 := by omega
    rcases this with rfl | rfl | rfl
    · have := h4 (by simp)
      simp only [List.take_zero, List.getElem_cons_zero, e0, r0_len] at this
      omega
    · rfl
    · simp only [List.take_succ_cons, List.take_zero, r0_laid] at h2
      omega
  subst hw
  simp only [List.take_succ_cons, List.take_zero, e1] at h3
  exact h3
theorem r0_byte : ∀ c ∈ laidAll [r0, r0], c < 256 := laidAll_byte (by
  intro r hr
  simp only [List.mem_cons, List.not_mem_nil, or_false, or_self] at hr
  subst hr
  intro c hc
  cases hc)
theorem its_one {its : List It} {r : Rc} (h : its.map It.r = [r]) : ∃ x, its = [x] ∧ x.r = r := by
  match its, h with
  | [x], h => exact ⟨x, rfl, by simpa using h⟩
def twoCells : Array Value := #[.int .i64 1, .int .i64 3, .int .i64 1, .int .i64 2, .slice none 0 0, .int .i64 1, .int .i64 3, .int .i64 1, .int .i64 2, .slice none 0 0]
theorem rcs_two (w : World) (t : TypeId) : Rcs (w.alloc (.cells twoCells t)) (some ⟨w.heap.size, 0, none⟩) [r0, r0] := by
  refine ⟨fun r hr => Rc.wf_may (r0_two r hr), fun i hi => ⟨w.heap.size, 0, rfl, by simp, ?_⟩⟩
  have hc : ∀ j, (w.alloc (.cells twoCells t)).cell? ⟨w.heap.size, j, none⟩ = twoCells[j]? := fun j => World.cell?_alloc_at _ _ _ _ rfl
  simp only [List.length_cons, List.length_nil] at hi
  have h01 : i = 0 ∨ i = 1 := by omega
  rcases h01 with rfl | rfl
  · exact ⟨hc 0, hc 1, hc 2, hc 3, none, 0, hc 4, Row.none⟩
  · exact ⟨hc 5, hc 6, hc 7, hc 8, none, 0, hc 9, Row.none⟩

set_option maxRecDepth 100000 in
set_option maxHeartbeats 4000000 in
theorem awake_any (w : World) : Calls Try.prog 21 #[] w fun e w' => e = .returned (.bool true) ∧ Below w.heap.size w w' := by
  go_enter Try.func21, Try.ntmps21
  go_wp2_with fail
  refine (encode_ok (w := w.alloc (.cells #[.int .i64 1, .int .i64 3, .int .i64 1, .int .i64 2, .slice none 0 0] 52)) (r := r0) (A := none) (n := 0) (c := 0) r0_may Row.none).mono ?_
  rintro e u1 ⟨v1, rfl, o1, h1⟩
  have hz1 : w.heap.size < u1.heap.size := by have := h1.size; simp at this; omega
  have hb1 := (h1.block w.heap.size (by simp)).trans (push_new w _)
  have k1 : Kept w u1 := ((Kept.refl w).alloc _).call h1
  rw [r0_enc] at o1
  obtain ⟨A1, c1, rfl, q1⟩ := o1.row (by decide) (by decide)
  have Q1 := Lib.hid q1
  have x0 := cell_of_heap hb1 0; have x1 := cell_of_heap hb1 1; have x2 := cell_of_heap hb1 2; have x3 := cell_of_heap hb1 3; have x4 := cell_of_heap hb1 4
  simp only [List.getElem?_toArray, List.getElem?_cons_zero, List.getElem?_cons_succ] at x0 x1 x2 x3 x4
  have HB1 := Lib.hid hb1
  clear h1 o1 q1 hb1
  go_wp2_with fail
  refine (lay_any (l := [r0, r0]) (len := 2) (cap := 2) rfl (rcs_two u1 52) (by omega)).mono ?_
  rintro e u2 ⟨h2, ⟨-, v2, rfl, o2⟩ | ⟨hno, -⟩⟩
  case inr => exact absurd r0_two hno
  have k2 : Kept w u2 := (k1.alloc _).call h2
  have k12 : Kept u1 u2 := ((Kept.refl u1).alloc _).call h2
  have Q1b := Lib.hid (Q1.out.below k12.1)
  obtain ⟨A2, c2, e2, q2⟩ := o2.row (by rw [r0_laid]; decide) r0_byte
  rw [r0_laid] at e2 q2
  subst e2
  have hc2 := q2.room
  have hb2 := (k12.1.block w.heap.size hz1).trans HB1.out
  have HB2 := Lib.hid hb2
  have hsl := fun W => run_headK .i64 A2 26 c2 20 (by omega) W
  rw [show (((20 : Nat)) : Int) = 20 from rfl] at hsl
  have Q2 := Lib.hid q2
  clear h2 o2 q2 hb2 k1 k12 x0 x1 x2 x3 x4 HB1 Q1 hz1
  go_wp2_with fail
  refine (aread_any (A := A2) (n := 20) (cap := c2) (bs := (laidAll [r0, r0]).take 20) ⟨Q2.out.bts.head (by omega), Q2.out.nil, by omega, Q2.out.most⟩ (by omega)).mono ?_
  rintro e u3 ⟨v3, its, n3, rfl, own, hrd, h3⟩
  obtain ⟨h4, rfl⟩ := reads_one (fun c hc => r0_byte c (List.mem_of_mem_take hc)) hrd r0_torn
  obtain ⟨x, rfl, hx⟩ := its_one h4
  have k3 : Kept w u3 := k2.call h3
  have k23 : Kept u2 u3 := (Kept.refl u2).call h3
  obtain ⟨A3, c3, rfl, -, hc3, -⟩ := own.slice
  have hrc := own.rcs (fun y hy => by
    simp only [List.mem_singleton] at hy
    subst hy
    rw [hx]; exact Rc.wf_may r0_may)
  rw [h4] at hrc
  obtain ⟨b, off, A4, c4, rfl, hb, a0, a1, a2, a3, a4, ar⟩ := hrc.cells_at (k := 0) (by simp)
  have hb3 := (h3.block w.heap.size (heap_lt HB2.out)).trans HB2.out
  have q3 := (Q1b.out.below h3)
  simp only [List.getElem_cons_zero, Nat.zero_mul, Nat.add_zero] at a0 a1 a2 a3 a4 ar
  have b0 := cell_of_heap hb3 0; have b1 := cell_of_heap hb3 1; have b2 := cell_of_heap hb3 2; have b3 := cell_of_heap hb3 3; have b4 := cell_of_heap hb3 4
  simp only [List.getElem?_toArray, List.getElem?_cons_zero, List.getElem?_cons_succ] at b0 b1 b2 b3 b4
  have hbz := heap_lt hb3
  have KW : ∀ W, Kept u3.drew W → Kept u3 W := fun W h => (Kept.refl u3).drew.trans h
  have T1 := Lib.hid fun (W : World) (h : Kept u3.drew W) => And.intro (((KW W h).cell (p := ⟨b, off, none⟩) hb).trans a0) (And.intro (((KW W h).cell (p := ⟨b, off + 1, none⟩) hb).trans a1) (And.intro (((KW W h).cell (p := ⟨b, off + 2, none⟩) hb).trans a2) (And.intro (((KW W h).cell (p := ⟨b, off + 3, none⟩) hb).trans a3) (((KW W h).cell (p := ⟨b, off + 4, none⟩) hb).trans a4))))
  have T2 := Lib.hid fun (W : World) (h : Kept u3.drew W) => And.intro (((KW W h).cell (p := ⟨w.heap.size, 0, none⟩) hbz).trans b0) (And.intro (((KW W h).cell (p := ⟨w.heap.size, 1, none⟩) hbz).trans b1) (And.intro (((KW W h).cell (p := ⟨w.heap.size, 2, none⟩) hbz).trans b2) (And.intro (((KW W h).cell (p := ⟨w.heap.size, 3, none⟩) hbz).trans b3) (((KW W h).cell (p := ⟨w.heap.size, 4, none⟩) hbz).trans b4))))
  have T3 := Lib.hid fun (W : World) (h : Kept u3.drew W) => (q3.below (KW W h).1).txt
  have TO := Lib.hid fun (W : World) (h : Kept u3.drew W) => one_any (r := r0) (A := A4) (ca := c4) (B := none) (n := 0) (cb := 0) (ar.below (KW W h).1) Row.none
  rw [show txt [1, 3, 1, 2, 0] = ⟨#[1, 3, 1, 2, 0]⟩ from rfl] at T3
  simp only [rcv, r0, List.length_cons, List.length_nil, Nat.reduceAdd] at T1 TO T3
  have HK3 := Lib.hid k3
  clear a0 a1 a2 a3 a4 ar b0 b1 b2 b3 b4 KW hb hbz hb3 hrc own hrd h3 k2 k3 k23 hx h4 hsl q3 Q2 Q1b HB2
  go_wp2_with fail
  refine wp_region_typed (N := 33) (fl := []) (by kernel_rfl) (by kernel_rfl) ?_
  simp only [List.take_succ_cons, List.take_zero, List.drop_succ_cons, List.drop_zero, List.map_cons, List.map_nil, zipF]
  repeat (first
    | (refine wpT_skip rfl ?_; dsimp only [putS, List.set_cons_succ, List.set_cons_zero])
    | (refine wpT_slot (S := .is _) _ (.inl rfl) rfl (Slot.mono_is _) rfl ?_; dsimp only [putS, List.set_cons_succ, List.set_cons_zero])
    | (refine wpT_slot (S := .is _) _ (.inr rfl) rfl (Slot.mono_is _) rfl ?_; dsimp only [putS, List.set_cons_succ, List.set_cons_zero])
    | (refine wpT_exact1 rfl rfl rfl ?_; apply Exists.intro; refine ⟨fun ρ w hk ⟨c1, c2, c3⟩ h1 => ?_, ?_⟩; (· obtain ⟨t1, t2, t3, t4, t5⟩ := T1.out w hk; obtain ⟨s1, s2, s3, s4, s5⟩ := T2.out w hk; have s6 := T3.out w hk; go_simp; exact rfl); dsimp only [putS, List.set_cons_succ, List.set_cons_zero])
    | (refine wpT_exact2 rfl rfl rfl rfl ?_; apply Exists.intro; refine ⟨fun ρ w hk ⟨c1, c2, c3⟩ h1 h2 => ?_, ?_⟩; (· obtain ⟨t1, t2, t3, t4, t5⟩ := T1.out w hk; obtain ⟨s1, s2, s3, s4, s5⟩ := T2.out w hk; have s6 := T3.out w hk; go_simp; exact rfl); dsimp only [putS, List.set_cons_succ, List.set_cons_zero])
    | (refine wpT_exact3 rfl rfl rfl rfl rfl ?_; apply Exists.intro; refine ⟨fun ρ w hk ⟨c1, c2, c3⟩ h1 h2 h3 => ?_, ?_⟩; (· obtain ⟨t1, t2, t3, t4, t5⟩ := T1.out w hk; obtain ⟨s1, s2, s3, s4, s5⟩ := T2.out w hk; have s6 := T3.out w hk; go_simp; exact rfl); dsimp only [putS, List.set_cons_succ, List.set_cons_zero])
    | (refine wpT_exact4 rfl rfl rfl rfl rfl rfl ?_; apply Exists.intro; refine ⟨fun ρ w hk ⟨c1, c2, c3⟩ h1 h2 h3 h4 => ?_, ?_⟩; (· obtain ⟨t1, t2, t3, t4, t5⟩ := T1.out w hk; obtain ⟨s1, s2, s3, s4, s5⟩ := T2.out w hk; have s6 := T3.out w hk; go_simp; exact rfl); dsimp only [putS, List.set_cons_succ, List.set_cons_zero])
    | (refine wpT_exact0 rfl ?_; apply Exists.intro; refine ⟨fun ρ w hk ⟨c1, c2, c3⟩ => ?_, ?_⟩; (· obtain ⟨t1, t2, t3, t4, t5⟩ := T1.out w hk; obtain ⟨s1, s2, s3, s4, s5⟩ := T2.out w hk; have s6 := T3.out w hk; go_simp; exact rfl); dsimp only [putS, List.set_cons_succ, List.set_cons_zero])
    | (refine wpT_is (.bool true) rfl (fun ρ w hk ⟨c1, c2, c3⟩ ⟨h1, h2, _⟩ => ?_) ?_
       · have h1 : ρ (.tmp 59) = _ := h1
         have h2 : ρ (.tmp 60) = _ := h2
         refine upT_call 38 #[.agg #[.int .i64 1, .int .i64 3, .int .i64 1, .int .i64 2, .slice A4 0 c4], .agg #[.int .i64 1, .int .i64 3, .int .i64 1, .int .i64 2, .slice none 0 0]] ?_ ((TO.out w hk).mono ?_)
         · go_simp
         rintro e u ⟨rfl, hb⟩
         exact ⟨_, rfl, ⟨hb, hb.size⟩, rfl⟩
       dsimp only [putS, List.set_cons_succ, List.set_cons_zero]))
  refine wpT_nil ?_
  intro wz kz
  simp only [Fits]
  refine wpList_end ?_
  have hkz := HK3.out.trans ((Kept.refl u3).drew.trans kz)
  go_wp2
  go_ret
  exact ⟨rfl, hkz.1⟩
end Go.Proofs.Ytmjgpgnecohbcaa
