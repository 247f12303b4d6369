/- What is written into a slot. -/
import Derived.Test.YtifenlopgpbpbaaPrqS
namespace Go.Proofs.Ytifenlopgpbpbaa
open Go.RowKit

abbrev putA (W : World) (g a : Nat) (y : Sit) : World :=
  (((((W.setCell ⟨g, 1 + a * 6, none⟩ (.int .i64 y.x.pr)).setCell ⟨g, 1 + a * 6 + 1, none⟩ (.int .i64 y.x.ps)).setCell ⟨g, 1 + a * 6 + 2, none⟩ (.bool y.x.so)).setCell ⟨g, 1 + a * 6 + 3, none⟩ (.int .i64 y.x.ar)).setCell ⟨g, 1 + a * 6 + 4, none⟩ (.int .i64 y.x.as_)).setCell ⟨g, 1 + a * 6 + 5, none⟩ (.slice y.A y.x.val.length y.c)
abbrev putR (W : World) (b k : Nat) (x : Rit) : World :=
  (((((W.setCell ⟨b, k * 6, none⟩ (.int .i64 x.r)).setCell ⟨b, k * 6 + 1, none⟩ (.int .i64 x.s)).setCell ⟨b, k * 6 + 2, none⟩ (.slice x.PA x.pn x.pc)).setCell ⟨b, k * 6 + 3, none⟩ (.bool x.has)).setCell ⟨b, k * 6 + 4, none⟩ (.slice x.VA x.vn x.vc)).setCell ⟨b, k * 6 + 5, none⟩ (.slice x.TA x.tn x.tc)
theorem putA_old (W : World) (g a : Nat) (y : Sit) {i : Nat} (h : i ≠ g) : (putA W g a y).heap[i]? = W.heap[i]? :=
  (Below.heap_setCell _ ⟨g, 1 + a * 6 + 5, none⟩ _ i h).trans ((Below.heap_setCell _ ⟨g, 1 + a * 6 + 4, none⟩ _ i h).trans ((Below.heap_setCell _ ⟨g, 1 + a * 6 + 3, none⟩ _ i h).trans ((Below.heap_setCell _ ⟨g, 1 + a * 6 + 2, none⟩ _ i h).trans ((Below.heap_setCell _ ⟨g, 1 + a * 6 + 1, none⟩ _ i h).trans (Below.heap_setCell _ ⟨g, 1 + a * 6, none⟩ _ i h)))))
theorem putA_size (W : World) (g a : Nat) (y : Sit) : (putA W g a y).heap.size = W.heap.size := by simp [putA, World.setCell]
theorem putR_size (W : World) (b k : Nat) (x : Rit) : (putR W b k x).heap.size = W.heap.size := by simp [putR, World.setCell]

/-- the slot's block with any cells -/
structure SlC (v W : World) (g : Nat) (cs : List Value) (rl : List Rit) (R : Option Addr) (rn rc : Nat) : Prop where
  kept : Kept v W
  slot : W.ownsRow v.heap.size 49 44 (.slice (some ⟨g, 0, none⟩) 1 1) 1 cs
  rds : ER.Own W v.heap.size (.slice R rn rc) rl
theorem SlC.block {v W : World} {g : Nat} {cs : List Value} {rl : List Rit} {R : Option Addr} {rn rc : Nat} (h : SlC v W g cs rl R rn rc) : ∃ ds, W.heap[g]? = some (.cells ds 49 (0, 0)) := by
  rcases h.slot.2 with ⟨e3, _⟩ | ⟨g2, cap2, cur2, e3, _, hg2, _⟩
  · cases e3
  · rw [Value.slice.injEq] at e3
    obtain ⟨e3, -, -⟩ := e3
    injection e3 with e3
    injection e3 with e3
    subst e3
    exact ⟨_, hg2⟩
theorem SlC.one {v W : World} {g : Nat} {cs : List Value} {rl : List Rit} {R : Option Addr} {rn rc : Nat} (h : SlC v W g cs rl R rn rc) (j : Nat) (u : Value) : SlC v (W.setCell ⟨g, j, none⟩ u) g (cs.set j u) rl R rn rc ∧ Hush W (W.setCell ⟨g, j, none⟩ u) := by
  obtain ⟨h1, h2⟩ := World.ownsRow.stored h.slot j u
  obtain ⟨ds, hd⟩ := h.block
  exact ⟨⟨h.kept.setCell (p := ⟨g, j, none⟩) (World.ownsRow.lt h.slot g rfl).1 u, h1, World.ownsRow.kept h.rds h2 (apart_types h.rds h.slot (by decide))⟩, hush_cell hd (.inr rfl) j u⟩
theorem SlM.toC {v W : World} {g : Nat} {n : Int} {sl : List Sit} {rl : List Rit} {R : Option Addr} {rc : Nat} (h : SlM v W g n sl rl R rc) : SlC v W g (scells n sl R rl.length rc) rl R rl.length rc := ⟨h.kept, h.slot, h.rds⟩
/-- a state is written -/
theorem SlM.putState {v W : World} {g : Nat} {n : Int} {sl : List Sit} {rl : List Rit} {R : Option Addr} {rc a : Nat} (h : SlM v W g n sl rl R rc) (ha : a < sl.length) (y : Sit) : SlM v (putA W g a y) g n (sl.set a y) rl R rc ∧ Hush W (putA W g a y) := by
  obtain ⟨c0, k0⟩ := h.toC.one (1 + a * 6) (.int .i64 y.x.pr)
  obtain ⟨c1, k1⟩ := c0.one (1 + a * 6 + 1) (.int .i64 y.x.ps)
  obtain ⟨c2, k2⟩ := c1.one (1 + a * 6 + 2) (.bool y.x.so)
  obtain ⟨c3, k3⟩ := c2.one (1 + a * 6 + 3) (.int .i64 y.x.ar)
  obtain ⟨c4, k4⟩ := c3.one (1 + a * 6 + 4) (.int .i64 y.x.as_)
  obtain ⟨c5, k5⟩ := c4.one (1 + a * 6 + 5) (.slice y.A y.x.val.length y.c)
  have hs := c5.slot
  rw [scells_setState y ha] at hs
  exact ⟨⟨c5.kept, by rw [List.length_set]; exact h.seven, hs, c5.rds⟩, k0.trans (k1.trans (k2.trans (k3.trans (k4.trans k5))))⟩
/-- another row of rounds is written -/
theorem SlM.putRounds {v W : World} {g : Nat} {n : Int} {sl : List Sit} {rl rl' : List Rit} {R R' : Option Addr} {rc rc' : Nat} (h : W.ownsRow v.heap.size 49 44 (.slice (some ⟨g, 0, none⟩) 1 1) 1 (scells n sl R rl.length rc)) (h7 : sl.length = 7) (hk : Kept v W) (hr : ER.Own W v.heap.size (.slice R' rl'.length rc') rl') :
    SlM v (W.setCell ⟨g, 43, none⟩ (.slice R' rl'.length rc')) g n sl rl' R' rc' ∧ Hush W (W.setCell ⟨g, 43, none⟩ (.slice R' rl'.length rc')) := by
  obtain ⟨c0, k0⟩ := SlC.one ⟨hk, h, hr⟩ 43 (.slice R' rl'.length rc')
  have hs := c0.slot
  rw [scells_setRounds h7] at hs
  exact ⟨⟨c0.kept, h7, hs, c0.rds⟩, k0⟩
/-- a row of rounds with any cells -/
structure RwC (v W : World) (g : Nat) (cs : List Value) (b : Nat) (rn rc : Nat) (xs : List Value) : Prop where
  kept : Kept v W
  slot : W.ownsRow v.heap.size 49 44 (.slice (some ⟨g, 0, none⟩) 1 1) 1 cs
  rds : W.ownsRow v.heap.size 56 6 (.slice (some ⟨b, 0, none⟩) rn rc) rn xs
theorem RwC.one {v W : World} {g : Nat} {cs : List Value} {b rn rc : Nat} {xs : List Value} (h : RwC v W g cs b rn rc xs) (j : Nat) (u : Value) : RwC v (W.setCell ⟨b, j, none⟩ u) g cs b rn rc (xs.set j u) ∧ Hush W (W.setCell ⟨b, j, none⟩ u) := by
  obtain ⟨h1, h2⟩ := World.ownsRow.stored h.rds j u
  refine ⟨⟨h.kept.setCell (p := ⟨b, j, none⟩) (World.ownsRow.lt h.rds b rfl).1 u, World.ownsRow.kept h.slot h2 (apart_types h.slot h.rds (by decide)), h1⟩, ?_⟩
  rcases h.rds.2 with ⟨e3, _⟩ | ⟨g2, cap2, cur2, e3, _, hg2, _⟩
  · cases e3
  · rw [Value.slice.injEq] at e3
    obtain ⟨e3, -, -⟩ := e3
    injection e3 with e3
    injection e3 with e3
    subst e3
    exact hush_cell hg2 (.inl rfl) j u
/-- a round is written -/
theorem SlM.putRound {v W : World} {g : Nat} {n : Int} {sl : List Sit} {rl : List Rit} {b rc k : Nat} (h : SlM v W g n sl rl (some ⟨b, 0, none⟩) rc) (hk : k < rl.length) (x : Rit) : SlM v (putR W b k x) g n sl (rl.set k x) (some ⟨b, 0, none⟩) rc ∧ Hush W (putR W b k x) := by
  have h0 : RwC v W g (scells n sl (some ⟨b, 0, none⟩) rl.length rc) b rl.length rc (ER.flat rl) := ⟨h.kept, h.slot, h.rds⟩
  obtain ⟨c0, k0⟩ := h0.one (k * 6) (.int .i64 x.r)
  obtain ⟨c1, k1⟩ := c0.one (k * 6 + 1) (.int .i64 x.s)
  obtain ⟨c2, k2⟩ := c1.one (k * 6 + 2) (.slice x.PA x.pn x.pc)
  obtain ⟨c3, k3⟩ := c2.one (k * 6 + 3) (.bool x.has)
  obtain ⟨c4, k4⟩ := c3.one (k * 6 + 4) (.slice x.VA x.vn x.vc)
  obtain ⟨c5, k5⟩ := c4.one (k * 6 + 5) (.slice x.TA x.tn x.tc)
  have hs := c5.rds
  have h2 : k * 6 + 6 ≤ rl.length * 6 := by have := Nat.mul_le_mul_right 6 (show k + 1 ≤ rl.length by omega); rw [Nat.add_mul] at this; omega
  have hf : (ER.flat rl).length = rl.length * 6 := ER.flat_len rl
  rw [set_six _ _ _ _ _ _ _ _ (by rw [hf]; exact h2)] at hs
  have e : ER.flat (rl.set k x) = (ER.flat rl).take (k * 6) ++ [.int .i64 x.r, .int .i64 x.s, .slice x.PA x.pn x.pc, .bool x.has, .slice x.VA x.vn x.vc, .slice x.TA x.tn x.tc] ++ (ER.flat rl).drop (k * 6 + 6) := ER.flat_set rl k x hk
  rw [← e] at hs
  refine ⟨⟨c5.kept, h.seven, ?_, ?_⟩, k0.trans (k1.trans (k2.trans (k3.trans (k4.trans k5))))⟩
  · rw [List.length_set]; exact c5.slot
  · unfold Elem.Own
    rw [List.length_set]
    exact hs
/-- a slot of the law's -/
def SlW (v W : World) (g : Nat) (s : Sl) : Prop := ∃ sl rl R rc, SlM v W g s.n sl rl R rc ∧ SlH W sl rl s
/-- no list of it is long -/
def Few (B : Nat) (s : Sl) : Prop := s.rds.length ≤ B ∧ ∀ x ∈ s.rds, x.pm.length ≤ B ∧ x.vs.length ≤ B
theorem Few.play {B : Nat} {s : Sl} (h : Few B s) (e : Evt) : Few (B + 1) (playS s e) := by
  have up : ∀ x ∈ s.rds, x.pm.length ≤ B + 1 ∧ x.vs.length ≤ B + 1 := fun x hx => by have := h.2 x hx; omega
  have st : ∀ (k : Nat) (y : Rd), (y.pm.length ≤ B + 1 ∧ y.vs.length ≤ B + 1) → ∀ x ∈ s.rds.set k y, x.pm.length ≤ B + 1 ∧ x.vs.length ≤ B + 1 := fun k y hy x hx => by
    rcases List.mem_or_eq_of_mem_set hx with h1 | rfl
    · exact up x h1
    · exact hy
  unfold playS
  split
  · rename_i x ac hx hac
    have hm : x ∈ s.rds := List.mem_of_getElem? hx
    have hxl := h.2 x hm
    split
    · refine ⟨by simp only [List.length_append, List.length_singleton]; have := h.1; omega, fun y hy => ?_⟩
      rcases List.mem_append.1 hy with h1 | h1
      · exact up y h1
      · obtain rfl := List.mem_singleton.1 h1
        exact ⟨Nat.zero_le _, Nat.zero_le _⟩
    · split
      · split
        · exact ⟨Nat.le_succ_of_le h.1, up⟩
        · split
          · exact ⟨Nat.le_succ_of_le h.1, up⟩
          · refine ⟨by simp only [List.length_set]; exact Nat.le_succ_of_le h.1, st _ _ ⟨?_, Nat.le_succ_of_le hxl.2⟩⟩
            simp only [List.length_append, List.length_singleton]; omega
      · split
        · split
          · exact ⟨Nat.le_succ_of_le h.1, up⟩
          · split
            · exact ⟨Nat.le_succ_of_le h.1, up⟩
            · exact ⟨by simp only [List.length_set]; exact Nat.le_succ_of_le h.1, st _ _ ⟨Nat.le_succ_of_le hxl.1, Nat.le_succ_of_le hxl.2⟩⟩
        · split
          · split
            · exact ⟨Nat.le_succ_of_le h.1, up⟩
            · refine ⟨by simp only [List.length_set]; exact Nat.le_succ_of_le h.1, st _ _ ⟨Nat.le_succ_of_le hxl.1, ?_⟩⟩
              simp only [List.length_append, List.length_singleton]; omega
          · exact ⟨Nat.le_succ_of_le h.1, up⟩
  · exact ⟨Nat.le_succ_of_le h.1, up⟩
end Go.Proofs.Ytifenlopgpbpbaa
