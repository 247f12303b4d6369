/- CrcAdds -/
import Derived.Test.YthegohpkjfoaoaaCrcT
namespace Go.Proofs.Ythegohpkjfoaoaa
open Go.RowKit CrcM CrcW CrcR

theorem num_map3 (f g h : Nat → Nat) : ∀ k, num ((List.range k).map fun i => f i ^^^ g i ^^^ h i) = num ((List.range k).map f) ^^^ num ((List.range k).map g) ^^^ num ((List.range k).map h)
  | 0 => by simp [num]
  | k + 1 => by
    simp only [List.range_succ, List.map_append, List.map_cons, List.map_nil, num_snoc, num_map3 f g h k, List.length_map, List.length_range, Nat.shiftLeft_xor_distrib]
    generalize num ((List.range k).map f) = x; generalize num ((List.range k).map g) = y; generalize num ((List.range k).map h) = z
    generalize f k <<< (8 * k) = p; generalize g k <<< (8 * k) = q; generalize h k <<< (8 * k) = r
    apply Nat.eq_of_testBit_eq; intro i
    simp only [Nat.testBit_xor]
    cases x.testBit i <;> cases y.testBit i <;> cases z.testBit i <;> cases p.testBit i <;> cases q.testBit i <;> cases r.testBit i <;> rfl

/-- four rows that the call owns, apart from each other -/
structure Four (w : World) (base : Nat) (a b c d : Value) (A B C D : List Nat) : Prop where
  oa : Own w base a A
  ob : Own w base b B
  oc : Own w base c C
  od : Own w base d D
  ab : Apart a b
  ac : Apart a c
  ad : Apart a d
  bc : Apart b c
  bd : Apart b d
  cd : Apart c d
theorem Four.start (w : World) (base : Nat) : Four w base (.slice none 0 0) (.slice none 0 0) (.slice none 0 0) (.slice none 0 0) [] [] [] [] :=
  ⟨Own.nil w base, Own.nil w base, Own.nil w base, Own.nil w base, Apart.nil _, Apart.nil _, Apart.nil _, Apart.nil _, Apart.nil _, Apart.nil _⟩
section
variable {w w' : World} {base : Nat} {a b c d v : Value} {A B C D V : List Nat}
theorem Four.alloc (h : Four w base a b c d A B C D) (o : Obj) : Four (w.alloc o) base a b c d A B C D :=
  ⟨h.oa.alloc' o, h.ob.alloc' o, h.oc.alloc' o, h.od.alloc' o, h.ab, h.ac, h.ad, h.bc, h.bd, h.cd⟩
theorem Four.roll (h : Four w base a b c d A B C D) : Four w base b c d a B C D A := ⟨h.ob, h.oc, h.od, h.oa, h.bc, h.bd, h.ab.symm, h.cd, h.ac.symm, h.ad.symm⟩
theorem Four.first (h : Four w base a b c d A B C D) (ho : Own w' base v V) (hg : w.grownBy w' a.ownBlock) (hat : v.ownBlock = a.ownBlock ∨ v.ownBlock = some w.heap.size) : Four w' base v b c d V B C D :=
  ⟨ho, h.ob.other h.ab.symm hg, h.oc.other h.ac.symm hg, h.od.other h.ad.symm hg, (h.ob.apart_new h.ab.symm hat).symm, (h.oc.apart_new h.ac.symm hat).symm, (h.od.apart_new h.ad.symm hat).symm, h.bc, h.bd, h.cd⟩
theorem Four.call (h : Four w base a b c d A B C D) (hb : Below w.heap.size w w') : Four w' base a b c d A B C D := by
  have hg : w.grownBy w' none := ⟨hb.os, hb.tape, hb.output, hb.size, fun k hk _ => hb.block k hk⟩
  exact ⟨World.ownsRow.kept h.oa hg (by cases a.ownBlock <;> simp), World.ownsRow.kept h.ob hg (by cases b.ownBlock <;> simp), World.ownsRow.kept h.oc hg (by cases c.ownBlock <;> simp), World.ownsRow.kept h.od hg (by cases d.ownBlock <;> simp), h.ab, h.ac, h.ad, h.bc, h.bd, h.cd⟩
/-- one byte more on the first row; the rows come round -/
theorem Four.push {o : Obj} (h : Four w base a b c d A B C D) (ho : Own w' base v V) (hg : (w.alloc o).grownBy w' a.ownBlock) (hat : v.ownBlock = a.ownBlock ∨ v.ownBlock = some (w.alloc o).heap.size) : Four w' base b c d v B C D V :=
  ((h.alloc o).first ho hg hat).roll
theorem Four.far (h : Four w base a b c d A B C D) : ∀ g, a.ownBlock = some g → g < w.heap.size := fun g hg => (World.ownsRow.lt h.oa g hg).2
/-- a cell behind the append -/
theorem cell_push {W w1 : World} {o : Obj} {p : Addr} {u : Value} {row : Option Nat} (hc : W.cell? p = some u) (hp : row ≠ some p.block) (hg : (W.alloc o).grownBy w1 row) : w1.cell? p = some u := by
  have hl := cell_lt hc
  refine hg.cell (a := p) ?_ (fun e => hp e.symm)
  rw [World.cell?_alloc_lt W o p hl]
  exact hc
end

/-- the rows, read -/
theorem three_of {w : World} {A : Option Addr} {n cap : Nat} (h : SliceAt 3 3 (IsArr 3 1 (IsInt .u8)) w A n cap) :
    ∃ f0 f1 f2 : Nat → Nat, ∀ i, i < n → f0 i < 256 ∧ f1 i < 256 ∧ f2 i < 256 ∧ ∃ b off, A = some ⟨b, off, none⟩ ∧ b < w.heap.size ∧
      w.cell? ⟨b, off + i * 3, none⟩ = some (.int .u8 (f0 i : Nat)) ∧ w.cell? ⟨b, off + i * 3 + 1, none⟩ = some (.int .u8 (f1 i : Nat)) ∧ w.cell? ⟨b, off + i * 3 + 2, none⟩ = some (.int .u8 (f2 i : Nat)) := by
  obtain ⟨_, _, _, _, hc⟩ := h
  have key : ∀ i, i < n → ∃ t : Nat × Nat × Nat, t.1 < 256 ∧ t.2.1 < 256 ∧ t.2.2 < 256 ∧ ∃ b off, A = some ⟨b, off, none⟩ ∧ b < w.heap.size ∧
      w.cell? ⟨b, off + i * 3, none⟩ = some (.int .u8 (t.1 : Nat)) ∧ w.cell? ⟨b, off + i * 3 + 1, none⟩ = some (.int .u8 (t.2.1 : Nat)) ∧ w.cell? ⟨b, off + i * 3 + 2, none⟩ = some (.int .u8 (t.2.2 : Nat)) := by
    intro i hi
    obtain ⟨b, off, rfl, hlt, hel⟩ := hc (by omega)
    obtain ⟨cs, hl, ⟨_, hr⟩, hcell⟩ := hel i hi
    match cs, hl with
    | [c0, c1, c2], _ =>
      obtain ⟨m0, e0, g0⟩ := hr 0 (by omega)
      obtain ⟨m1, e1, g1⟩ := hr 1 (by omega)
      obtain ⟨m2, e2, g2⟩ := hr 2 (by omega)
      simp at e0 e1 e2
      subst e0 e1 e2
      obtain ⟨x0, h0, rfl⟩ := byte_of_wf g0
      obtain ⟨x1, h1, rfl⟩ := byte_of_wf g1
      obtain ⟨x2, h2, rfl⟩ := byte_of_wf g2
      exact ⟨(x0, x1, x2), h0, h1, h2, b, off, rfl, hlt, by simpa using hcell 0 (by omega), by simpa [Nat.add_assoc] using hcell 1 (by omega), by simpa [Nat.add_assoc] using hcell 2 (by omega)⟩
  obtain ⟨f, hf⟩ := Go.Deep.choose_lt key
  exact ⟨fun i => (f i).1, fun i => (f i).2.1, fun i => (f i).2.2, hf⟩

set_option maxRecDepth 100000 in
set_option maxHeartbeats 4000000 in
theorem CrcAdds_walk (a0 : Option Addr) (len0 cap0 : Nat) (w : World) (w0 : SliceAt 3 3 (IsArr 3 1 (IsInt .u8)) w a0 len0 cap0) :
    Calls Try.prog 6 #[.slice a0 len0 cap0] w fun e w' => e = .returned (.bool true) ∧ Below w.heap.size w w' := by
  obtain ⟨f0, f1, f2, hf⟩ := three_of w0
  have hmax : len0 ≤ 140737488351232 := by have := w0.2.2.1; omega
  have HF := Lib.hid hf
  clear w0 hf
  go_enter Try.func6, Try.ntmps6
  go_wp2_with fail
  refine (awake_any _).mono ?_
  rintro e u1 ⟨rfl, h1⟩
  have k1 : Kept w u1 := (Kept.refl w).call h1
  clear h1
  go_wp2_with fail
  go_loopw [4, 5, 6, 7, 8] (fun a b c d i wr => ∃ k : Nat, k ≤ len0 ∧ k ≤ 1000 ∧ i = .int .i64 k ∧
      Four wr w.heap.size a b c d ((List.range k).map f0) ((List.range k).map f1) ((List.range k).map f2) ((List.range k).map fun i => f0 i ^^^ f1 i ^^^ f2 i) ∧ Kept w wr) (fun _ _ _ _ i _ => len0 - (intOf i).toNat)
  case atStart => exact ⟨0, by omega, by omega, rfl, Four.start _ _, k1⟩
  case round =>
    obtain ⟨k, hk, hk1, rfl, four, kk⟩ := hrel
    by_cases hgo : k < len0 ∧ k < 1000
    · obtain ⟨l0, l1, l2, b, off, rfl, hlt, c0, c1, c2⟩ := HF.out k hgo.1
      have c0 := (kk.cell (p := ⟨b, off + k * 3, none⟩) hlt).trans c0
      have c1 := (kk.cell (p := ⟨b, off + k * 3 + 1, none⟩) hlt).trans c1
      have c2 := (kk.cell (p := ⟨b, off + k * 3 + 2, none⟩) hlt).trans c2
      generalize hx0 : f0 k = x0 at *
      generalize hx1 : f1 k = x1 at *
      generalize hx2 : f2 k = x2 at *
      have X0 := Lib.hid hx0
      have X1 := Lib.hid hx1
      have X2 := Lib.hid hx2
      clear hx0 hx1 hx2
      have q01 := u8_xor_nat x0 x1 l0 l1
      have l01 : x0 ^^^ x1 < 256 := Nat.xor_lt_two_pow (n := 8) l0 l1
      have q012 := u8_xor_nat (x0 ^^^ x1) x2 l01 l2
      have l012 : x0 ^^^ x1 ^^^ x2 < 256 := Nat.xor_lt_two_pow (n := 8) l01 l2
      have RS : ∀ f : Nat → Nat, (List.range k).map f ++ [f k] = (List.range (k + 1)).map f := fun f => by rw [List.range_succ, List.map_append]; rfl
      have R0 := Lib.hid (RS f0)
      have R1 := Lib.hid (RS f1)
      have R2 := Lib.hid (RS f2)
      have R3 := Lib.hid (RS fun i => f0 i ^^^ f1 i ^^^ f2 i)
      have ll : ∀ f : Nat → Nat, ((List.range k).map f).length = k := fun f => by simp
      have LL := Lib.hid ll
      clear RS ll
      generalize hy1 : x0 ^^^ x1 = y01 at *
      generalize hy2 : y01 ^^^ x2 = y at *
      have Y1 := Lib.hid hy1
      have Y2 := Lib.hid hy2
      clear hy1 hy2
      rw [X0.out] at R0
      rw [X1.out] at R1
      rw [X2.out] at R2
      simp only [X0.out, X1.out, X2.out, Y1.out, Y2.out] at R3
      generalize hA : (List.range k).map f0 = A at *
      generalize hB : (List.range k).map f1 = B at *
      generalize hC : (List.range k).map f2 = C at *
      generalize hD : ((List.range k).map fun i => f0 i ^^^ f1 i ^^^ f2 i) = D at *
      have lA : A.length ≤ 1000 := by rw [← hA]; simpa using hk1
      have lB : B.length ≤ 1000 := by rw [← hB]; simpa using hk1
      have lC : C.length ≤ 1000 := by rw [← hC]; simpa using hk1
      have lD : D.length ≤ 1000 := by rw [← hD]; simpa using hk1
      clear hA hB hC hD LL
      have z0 : (wr.alloc (.cells #[.int .u8 (x0 : Int), .int .u8 (x1 : Int), .int .u8 (x2 : Int)] 32)).cell? ⟨wr.heap.size, 0, none⟩ = some (.int .u8 (x0 : Int)) := by rw [World.cell?_alloc_mark]; rfl
      have z1 : (wr.alloc (.cells #[.int .u8 (x0 : Int), .int .u8 (x1 : Int), .int .u8 (x2 : Int)] 32)).cell? ⟨wr.heap.size, 1, none⟩ = some (.int .u8 (x1 : Int)) := by rw [World.cell?_alloc_mark]; rfl
      have z2 : (wr.alloc (.cells #[.int .u8 (x0 : Int), .int .u8 (x1 : Int), .int .u8 (x2 : Int)] 32)).cell? ⟨wr.heap.size, 2, none⟩ = some (.int .u8 (x2 : Int)) := by rw [World.cell?_alloc_mark]; rfl
      have four0 := four.alloc (.cells #[.int .u8 (x0 : Int), .int .u8 (x1 : Int), .int .u8 (x2 : Int)] 32)
      have kk0 := kk.alloc (.cells #[.int .u8 (x0 : Int), .int .u8 (x1 : Int), .int .u8 (x2 : Int)] 32)
      have na : u4.ownBlock ≠ some wr.heap.size := fun h => by have := four.far _ h; omega
      have nb : u5.ownBlock ≠ some wr.heap.size := fun h => by have := four.roll.far _ h; omega
      have nc : u6.ownBlock ≠ some wr.heap.size := fun h => by have := four.roll.roll.far _ h; omega
      have NA := Lib.hid na
      have NB := Lib.hid nb
      have NC := Lib.hid nc
      clear na nb nc four kk
      have Z0 := Lib.hid z0
      have Z1 := Lib.hid z1
      have Z2 := Lib.hid z2
      clear z0 z1 z2
      go_wp2_with (first
        | (at_builtin
           refine wpList_append_bts rfl (.tmp 25) (.tmp 28) rfl (v := u4) (base := w.heap.size) (ds := A) rfl rfl (four0.alloc _).oa (bts_one _ _ _ (by simp) l0) (by simp) (by omega) (kk0.alloc _).2 ?_
           intro v1 w1 own1 gr1 at1
           have kk1 := (kk0.alloc _).append (four0.alloc _).oa gr1
           have four1 := four0.push own1 gr1 at1
           have d0 := cell_push Z0.out NA.out gr1
           have d1 := cell_push Z1.out NA.out gr1
           have d2 := cell_push Z2.out NA.out gr1
           clear gr1 at1 own1)
        | (at_builtin
           refine wpList_append_bts rfl (.tmp 30) (.tmp 33) rfl (v := u5) (base := w.heap.size) (ds := B) rfl rfl (four1.alloc _).oa (bts_one _ _ _ (by simp) l1) (by simp) (by omega) (kk1.alloc _).2 ?_
           intro v2 w2 own2 gr2 at2
           have kk2 := (kk1.alloc _).append (four1.alloc _).oa gr2
           have four2 := four1.push own2 gr2 at2
           have e0 := cell_push d0 NB.out gr2
           have e1 := cell_push d1 NB.out gr2
           have e2 := cell_push d2 NB.out gr2
           clear gr2 at2 own2)
        | (at_builtin
           refine wpList_append_bts rfl (.tmp 35) (.tmp 38) rfl (v := u6) (base := w.heap.size) (ds := C) rfl rfl (four2.alloc _).oa (bts_one _ _ _ (by simp) l2) (by simp) (by omega) (kk2.alloc _).2 ?_
           intro v3 w3 own3 gr3 at3
           have kk3 := (kk2.alloc _).append (four2.alloc _).oa gr3
           have four3 := four2.push own3 gr3 at3
           have g0 := cell_push e0 NC.out gr3
           have g1 := cell_push e1 NC.out gr3
           have g2 := cell_push e2 NC.out gr3
           clear gr3 at3 own3)
        | (at_builtin
           refine wpList_append_bts rfl (.tmp 40) (.tmp 49) rfl (v := u7) (base := w.heap.size) (ds := D) rfl rfl (four3.alloc _).oa (bts_one _ _ _ (by simp) l012) (by simp) (by omega) (kk3.alloc _).2 ?_
           intro v4 w4 own4 gr4 at4
           have kk4 := (kk3.alloc _).append (four3.alloc _).oa gr4
           have four4 := four3.push own4 gr4 at4
           clear gr4 at4 own4))
      go_roundw
      case rel => exact ⟨k + 1, by omega, by omega, by go_num, by rw [← R0.out, ← R1.out, ← R2.out, ← R3.out]; exact four4, kk4⟩
      case measure => simp [intOf]; omega
    · have hA : ∀ c ∈ (List.range k).map f0, c < 256 := fun c hc => by
        obtain ⟨i, hi, rfl⟩ := List.mem_map.1 hc
        exact (HF.out i (by have := List.mem_range.1 hi; omega)).1
      have hB : ∀ c ∈ (List.range k).map f1, c < 256 := fun c hc => by
        obtain ⟨i, hi, rfl⟩ := List.mem_map.1 hc
        exact (HF.out i (by have := List.mem_range.1 hi; omega)).2.1
      have hC : ∀ c ∈ (List.range k).map f2, c < 256 := fun c hc => by
        obtain ⟨i, hi, rfl⟩ := List.mem_map.1 hc
        exact (HF.out i (by have := List.mem_range.1 hi; omega)).2.2.1
      have hD : ∀ c ∈ (List.range k).map (fun i => f0 i ^^^ f1 i ^^^ f2 i), c < 256 := fun c hc => by
        obtain ⟨i, hi, rfl⟩ := List.mem_map.1 hc
        obtain ⟨l0, l1, l2, _⟩ := HF.out i (by have := List.mem_range.1 hi; omega)
        exact Nat.xor_lt_two_pow (n := 8) (Nat.xor_lt_two_pow (n := 8) l0 l1) l2
      have HS := Lib.hid (adds (n := k) (a := (List.range k).map f0) (b := (List.range k).map f1) (c := (List.range k).map f2) (by simp) (by simp) (by simp) (by simp) (num_map3 f0 f1 f2 k))
      have lA : ((List.range k).map f0).length ≤ 140737488355328 := by simp; omega
      have lB : ((List.range k).map f1).length ≤ 140737488355328 := by simp; omega
      have lC : ((List.range k).map f2).length ≤ 140737488355328 := by simp; omega
      have lD : ((List.range k).map fun i => f0 i ^^^ f1 i ^^^ f2 i).length ≤ 140737488355328 := by simp; omega
      obtain ⟨A4, c4, rfl, _⟩ := four.oa.bts lA hA
      obtain ⟨A5, c5, rfl, _⟩ := four.ob.bts lB hB
      obtain ⟨A6, c6, rfl, _⟩ := four.oc.bts lC hC
      obtain ⟨A7, c7, rfl, _⟩ := four.od.bts lD hD
      have sA := sum_lt _ hA
      have sB := sum_lt _ hB
      have sC := sum_lt _ hC
      generalize (List.range k).map f0 = A at *
      generalize (List.range k).map f1 = B at *
      generalize (List.range k).map f2 = C at *
      generalize ((List.range k).map fun i => f0 i ^^^ f1 i ^^^ f2 i) = D at *
      have HA := Lib.hid hA
      have HB := Lib.hid hB
      have HC := Lib.hid hC
      have HD := Lib.hid hD
      clear hA hB hC hD
      go_wp2_with fail
      all_goals
        refine (CrcW.sum_any _ _ _ D _ (four.od.at_ lD HD.out)).mono ?_
        rintro e y1 ⟨rfl, b1⟩
        have four1 := four.call b1
        have kk1 := kk.call b1
        clear b1
        go_wp2_with fail
        refine (CrcW.sum_any _ _ _ A _ (four1.oa.at_ lA HA.out)).mono ?_
        rintro e y2 ⟨rfl, b2⟩
        have four2 := four1.call b2
        have kk2 := kk1.call b2
        clear b2 four1
        go_wp2_with fail
        refine (CrcW.sum_any _ _ _ B _ (four2.ob.at_ lB HB.out)).mono ?_
        rintro e y3 ⟨rfl, b3⟩
        have four3 := four2.call b3
        have kk3 := kk2.call b3
        clear b3 four2
        have x1 := u32_xor_nat _ _ sA sB
        have sAB : CrcM.sum A ^^^ CrcM.sum B < 4294967296 := Nat.xor_lt_two_pow (n := 32) sA sB
        have x2 := u32_xor_nat _ _ sAB sC
        go_wp2_with fail
        refine (CrcW.sum_any _ _ _ C _ (four3.oc.at_ lC HC.out)).mono ?_
        rintro e y4 ⟨rfl, b4⟩
        have kk4 := kk3.call b4
        rw [← HS.out] at x2
        generalize CrcM.sum D = sD at *
        generalize CrcM.sum A ^^^ CrcM.sum B = sX at *
        generalize CrcM.sum A = sa at *
        generalize CrcM.sum B = sb at *
        generalize CrcM.sum C = sc at *
        clear four3 b4
        go_wp2
        go_ret
        exact ⟨rfl, kk4.1⟩
end Go.Proofs.Ythegohpkjfoaoaa
