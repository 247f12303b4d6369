/- A slot of the law's in memory: its states, its rounds. -/
import Derived.Test.YtifenlopgpbpbaaPrqD
import Derived.Test.YtifenlopgpbpbaaFillE
import Derived.Test.YtifenlopgpbpbaaPrpK
import Derived.Test.YtifenlopgpbpbaaAccS
namespace Go.Proofs.Ytifenlopgpbpbaa
open Go.RowKit

section
variable {α : Type} (cl : α → List Value) (k : Nat) (hk : ∀ x, (cl x).length = k)
include hk
theorem fm_len : ∀ l : List α, (l.flatMap cl).length = l.length * k
  | [] => by simp
  | x :: l => by
    have := fm_len l
    have h2 := hk x
    simp only [List.flatMap_cons, List.length_append, List.length_cons] at *
    rw [this, h2, Nat.add_mul]
    omega
theorem fm_at : ∀ (l : List α) (i : Nat) (h : i < l.length) (j : Nat), j < k → (l.flatMap cl)[i * k + j]? = (cl l[i])[j]?
  | x :: l, 0, _, j, hj => by
    rw [List.flatMap_cons, List.getElem?_append_left (by rw [hk]; omega)]
    simp
  | x :: l, i + 1, h, j, hj => by
    have := fm_at l i (by simpa using h) j hj
    rw [List.flatMap_cons, List.getElem?_append_right (by rw [hk, Nat.add_mul]; omega)]
    rw [show (i + 1) * k + j - (cl x).length = i * k + j by rw [hk, Nat.add_mul]; omega]
    exact this
theorem fm_set : ∀ (l : List α) (i : Nat) (x : α), i < l.length → (l.set i x).flatMap cl = (l.flatMap cl).take (i * k) ++ cl x ++ (l.flatMap cl).drop (i * k + k)
  | y :: l, 0, x, _ => by
    simp only [List.set_cons_zero, List.flatMap_cons, Nat.zero_mul, List.take_zero, List.nil_append, Nat.zero_add]
    rw [List.drop_left' (hk y)]
  | y :: l, i + 1, x, h => by
    have := fm_set l i x (by simpa using h)
    simp only [List.set_cons_succ, List.flatMap_cons] at *
    have h1 : (cl y).take ((i + 1) * k) = cl y := List.take_of_length_le (by rw [hk, Nat.add_mul]; omega)
    have h2 : (cl y).drop ((i + 1) * k + k) = [] := List.drop_eq_nil_of_le (by rw [hk, Nat.add_mul]; omega)
    rw [this, List.take_append, List.drop_append, hk y, h1, h2]
    rw [show (i + 1) * k - k = i * k by rw [Nat.add_mul]; omega, show (i + 1) * k + k - k = i * k + k by rw [Nat.add_mul]; omega]
    simp [List.append_assoc]
end
/-- six cells, one behind the other -/
theorem set_six (xs : List Value) (o : Nat) (u0 u1 u2 u3 u4 u5 : Value) (h : o + 6 ≤ xs.length) : (((((xs.set o u0).set (o + 1) u1).set (o + 2) u2).set (o + 3) u3).set (o + 4) u4).set (o + 5) u5 = xs.take o ++ [u0, u1, u2, u3, u4, u5] ++ xs.drop (o + 6) := by
  apply List.ext_getElem?
  intro i
  simp only [List.getElem?_set, List.length_set]
  rcases Nat.lt_or_ge i o with hi | hi
  · rw [if_neg (by omega), if_neg (by omega), if_neg (by omega), if_neg (by omega), if_neg (by omega), if_neg (by omega), List.append_assoc, List.getElem?_append_left (by rw [List.length_take]; omega), List.getElem?_take_of_lt hi]
  · rw [List.append_assoc, List.getElem?_append_right (by rw [List.length_take]; omega), List.length_take, Nat.min_eq_left (by omega)]
    obtain ⟨j, rfl⟩ := Nat.exists_eq_add_of_le hi
    rw [Nat.add_sub_cancel_left]
    match j with
    | 0 => rw [if_neg (by omega), if_neg (by omega), if_neg (by omega), if_neg (by omega), if_neg (by omega), if_pos (by omega), if_pos (by omega)]; rfl
    | 1 => rw [if_neg (by omega), if_neg (by omega), if_neg (by omega), if_neg (by omega), if_pos (by omega), if_pos (by omega)]; rfl
    | 2 => rw [if_neg (by omega), if_neg (by omega), if_neg (by omega), if_pos (by omega), if_pos (by omega)]; rfl
    | 3 => rw [if_neg (by omega), if_neg (by omega), if_pos (by omega), if_pos (by omega)]; rfl
    | 4 => rw [if_neg (by omega), if_pos (by omega), if_pos (by omega)]; rfl
    | 5 => rw [if_pos (by omega), if_pos (by omega)]; rfl
    | j + 6 =>
      rw [if_neg (by omega), if_neg (by omega), if_neg (by omega), if_neg (by omega), if_neg (by omega), if_neg (by omega), List.getElem?_append_right (by simp), List.getElem?_drop]
      congr 1
      simp
      omega

/-- a state of the slot, and where its bytes lie -/
structure Sit where
  x : Ac
  A : Option Addr
  c : Nat
def Sit.cells (y : Sit) : List Value := [.int .i64 y.x.pr, .int .i64 y.x.ps, .bool y.x.so, .int .i64 y.x.ar, .int .i64 y.x.as_, .slice y.A y.x.val.length y.c]
/-- a round of the slot, and where its slices lie -/
structure Rit where
  r : Int
  s : Int
  PA : Option Addr
  pn : Nat
  pc : Nat
  has : Bool
  VA : Option Addr
  vn : Nat
  vc : Nat
  TA : Option Addr
  tn : Nat
  tc : Nat
def Rit.cells (x : Rit) : List Value := [.int .i64 x.r, .int .i64 x.s, .slice x.PA x.pn x.pc, .bool x.has, .slice x.VA x.vn x.vc, .slice x.TA x.tn x.tc]
theorem Rit.cells_one (x : Rit) : ∀ u ∈ x.cells, u.oneCell' = true := by
  intro u h
  simp only [Rit.cells, List.mem_cons, List.not_mem_nil, or_false] at h
  rcases h with rfl | rfl | rfl | rfl | rfl | rfl <;> rfl
def ER : Elem 47 56 Rit where
  cl := Rit.cells
  k := 6
  nb := 96
  z := .agg #[.int .i64 0, .int .i64 0, .slice none 0 0, .bool false, .slice none 0 0, .slice none 0 0]
  pos := by decide
  und := Try.underlying47
  info := by kernel_rfl
  zc := rfl
  len := fun _ => rfl
  one := Rit.cells_one
  few := by decide

/-- blocks of bytes, of promises, of votes are as they were -/
structure Hush (W W' : World) : Prop where
  size : W.heap.size ≤ W'.heap.size
  blk : ∀ (k : Nat) (cs : Array Value) (t : TypeId) (fr : Nat × Nat), W.heap[k]? = some (.cells cs t fr) → t ≠ 56 → t ≠ 49 → W'.heap[k]? = W.heap[k]?
theorem Hush.refl (W : World) : Hush W W := ⟨Nat.le_refl _, fun _ _ _ _ _ _ _ => rfl⟩
theorem Hush.trans {U V W : World} (h : Hush U V) (k : Hush V W) : Hush U W := ⟨Nat.le_trans h.size k.size, fun i cs t fr e h1 h2 => (k.blk i cs t fr ((h.blk i cs t fr e h1 h2).trans e) h1 h2).trans (h.blk i cs t fr e h1 h2)⟩
theorem Kept.hush {W W' : World} (k : Kept W W') : Hush W W' := ⟨k.2, fun i _ _ _ e _ _ => k.1.block i (heap_lt e)⟩
theorem FillE.hush {W W' : World} {base : Nat} {a b : List Value} (k : FillE 56 base a b W W') : Hush W W' := ⟨k.size, fun i cs t fr e h1 _ => by
  rcases k.block i (heap_lt e) with h | ⟨_, c1, c2, h, _⟩
  · exact h
  · rw [e] at h
    injection h with h
    injection h with _ h
    exact absurd h h1⟩
theorem hush_cell {W : World} {g : Nat} {cs : Array Value} {t : TypeId} {fr : Nat × Nat} (h : W.heap[g]? = some (.cells cs t fr)) (ht : t = 56 ∨ t = 49) (j : Nat) (u : Value) : Hush W (W.setCell ⟨g, j, none⟩ u) :=
  ⟨by simp [World.setCell], fun i cs' t' fr' e h1 h2 => Below.heap_setCell W ⟨g, j, none⟩ u i (by
    rintro rfl
    rw [h] at e
    injection e with e
    injection e with _ e
    subst e
    rcases ht with ht | ht
    · exact h1 ht
    · exact h2 ht)⟩
theorem RowB.hush {W W' : World} {A : Option Addr} {n c : Nat} {bs : List Nat} (h : RowB W A n c bs) (k : Hush W W') : RowB W' A n c bs :=
  h.off k.size fun a ha hn => by
    obtain ⟨cs, fr, e⟩ := h.typ a ha hn
    exact k.blk _ _ _ _ e (by decide) (by decide)
theorem Elem.Own.hush {α : Type} {t e : TypeId} {E : Elem t e α} {W W' : World} {base : Nat} {v : Value} {l : List α} (h : E.Own W base v l) (k : Hush W W') (h1 : e ≠ 56) (h2 : e ≠ 49) : E.Own W' base v l := by
  refine ⟨h.1, ?_⟩
  rcases h.2 with h3 | ⟨g, cap, cur, e1, e2, hg, e3⟩
  · exact .inl h3
  · exact .inr ⟨g, cap, cur, e1, e2, (k.blk g _ _ _ hg h1 h2).trans hg, e3⟩
/-- a round in memory -/
structure RdAt (W : World) (x : Rit) (y : Rd) : Prop where
  r : x.r = y.r
  s : x.s = y.s
  has : x.has = y.has
  pms : ∃ base li, EP.Own W base (.slice x.PA x.pn x.pc) li ∧ li.map It.r = y.pm ∧ li.length = x.pn ∧ ∀ z ∈ li, RowB W z.A z.r.val.length z.c z.r.val
  vn : x.vn = y.val.length
  val : RowB W x.VA x.vn x.vc y.val
  vts : ∃ base, EV.Own W base (.slice x.TA x.tn x.tc) y.vs ∧ y.vs.length = x.tn
theorem RdAt.hush {W W' : World} {x : Rit} {y : Rd} (h : RdAt W x y) (k : Hush W W') : RdAt W' x y := by
  obtain ⟨base, li, h1, h2, h3, h4⟩ := h.pms
  obtain ⟨base', h5, h6⟩ := h.vts
  exact ⟨h.r, h.s, h.has, ⟨base, li, h1.hush k (by decide) (by decide), h2, h3, fun z hz => (h4 z hz).hush k⟩, h.vn, h.val.hush k, base', h5.hush k (by decide) (by decide), h6⟩
/-- a round in a block of its own -/
abbrev Hx (W : World) (g : Nat) (x : Rit) : Prop := W.heap[g]? = some (.cells #[.int .i64 x.r, .int .i64 x.s, .slice x.PA x.pn x.pc, .bool x.has, .slice x.VA x.vn x.vc, .slice x.TA x.tn x.tc] 56 (0, 0))
theorem Hx.kept {W W' : World} {g : Nat} {x : Rit} (h : Hx W g x) (k : Kept W W') : Hx W' g x := (k.1.block g (heap_lt h)).trans h
theorem Hx.cells {W : World} {g : Nat} {x : Rit} (h : Hx W g x) : W.cell? ⟨g, 0, none⟩ = some (.int .i64 x.r) ∧ W.cell? ⟨g, 1, none⟩ = some (.int .i64 x.s) ∧ W.cell? ⟨g, 2, none⟩ = some (.slice x.PA x.pn x.pc) ∧ W.cell? ⟨g, 3, none⟩ = some (.bool x.has) ∧ W.cell? ⟨g, 4, none⟩ = some (.slice x.VA x.vn x.vc) ∧ W.cell? ⟨g, 5, none⟩ = some (.slice x.TA x.tn x.tc) :=
  ⟨cell_of_heap h 0, cell_of_heap h 1, cell_of_heap h 2, cell_of_heap h 3, cell_of_heap h 4, cell_of_heap h 5⟩
theorem Hx.free {W : World} {g : Nat} {x : Rit} (h : Hx W g x) (j : Nat) : W.frozen? ⟨g, j, none⟩ = false := frozen_of_heap h j

/-- the slot's cells -/
def scells (n : Int) (sl : List Sit) (R : Option Addr) (rn rc : Nat) : List Value := [.int .i64 n] ++ sl.flatMap Sit.cells ++ [.slice R rn rc]
theorem Sit.len (y : Sit) : y.cells.length = 6 := rfl
theorem scells_len {n : Int} {sl : List Sit} {R : Option Addr} {rn rc : Nat} (h : sl.length = 7) : (scells n sl R rn rc).length = 44 := by
  unfold scells
  rw [List.length_append, List.length_append, fm_len Sit.cells 6 Sit.len, h]
  rfl
theorem scells_state {n : Int} {sl : List Sit} {R : Option Addr} {rn rc : Nat} {a j : Nat} (ha : a < sl.length) (hj : j < 6) : (scells n sl R rn rc)[1 + a * 6 + j]? = sl[a].cells[j]? := by
  have hl := fm_len Sit.cells 6 Sit.len sl
  have h2 : a * 6 + 6 ≤ sl.length * 6 := by have := Nat.mul_le_mul_right 6 (show a + 1 ≤ sl.length by omega); rw [Nat.add_mul] at this; omega
  unfold scells
  rw [List.getElem?_append_left (by rw [List.length_append, hl]; simp only [List.length_singleton]; omega), List.getElem?_append_right (by simp only [List.length_singleton]; omega)]
  rw [show 1 + a * 6 + j - [Value.int .i64 n].length = a * 6 + j by simp only [List.length_singleton]; omega]
  exact fm_at Sit.cells 6 Sit.len sl a ha j hj
theorem scells_rounds {n : Int} {sl : List Sit} {R : Option Addr} {rn rc : Nat} (h : sl.length = 7) : (scells n sl R rn rc)[43]? = some (.slice R rn rc) := by
  have hl := fm_len Sit.cells 6 Sit.len sl
  unfold scells
  rw [List.getElem?_append_right (by rw [List.length_append, hl, h]; simp), List.length_append, hl, h]
  rfl
theorem scells_setRounds {n : Int} {sl : List Sit} {R R' : Option Addr} {rn rc rn' rc' : Nat} (h : sl.length = 7) : (scells n sl R rn rc).set 43 (.slice R' rn' rc') = scells n sl R' rn' rc' := by
  have hl := fm_len Sit.cells 6 Sit.len sl
  unfold scells
  rw [List.set_append_right _ _ (by rw [List.length_append, hl, h]; simp), List.length_append, hl, h]
  rfl
theorem scells_setState {n : Int} {sl : List Sit} {R : Option Addr} {rn rc : Nat} {a : Nat} (y : Sit) (ha : a < sl.length) :
    ((((((scells n sl R rn rc).set (1 + a * 6) (.int .i64 y.x.pr)).set (1 + a * 6 + 1) (.int .i64 y.x.ps)).set (1 + a * 6 + 2) (.bool y.x.so)).set (1 + a * 6 + 3) (.int .i64 y.x.ar)).set (1 + a * 6 + 4) (.int .i64 y.x.as_)).set (1 + a * 6 + 5) (.slice y.A y.x.val.length y.c) = scells n (sl.set a y) R rn rc := by
  have hl := fm_len Sit.cells 6 Sit.len sl
  have h2 : a * 6 + 6 ≤ sl.length * 6 := by have := Nat.mul_le_mul_right 6 (show a + 1 ≤ sl.length by omega); rw [Nat.add_mul] at this; omega
  rw [set_six _ _ _ _ _ _ _ _ (by unfold scells; rw [List.length_append, List.length_append, hl]; simp only [List.length_singleton]; omega)]
  unfold scells
  rw [fm_set Sit.cells 6 Sit.len sl a y ha]
  have e1 : ([Value.int .i64 n] ++ sl.flatMap Sit.cells ++ [Value.slice R rn rc]).take (1 + a * 6) = [Value.int .i64 n] ++ (sl.flatMap Sit.cells).take (a * 6) := by
    rw [List.take_append_of_le_length (by rw [List.length_append, hl]; simp only [List.length_singleton]; omega), List.take_append, List.length_singleton, List.take_of_length_le (by simp only [List.length_singleton]; omega)]
    congr 2
    omega
  have e2 : ([Value.int .i64 n] ++ sl.flatMap Sit.cells ++ [Value.slice R rn rc]).drop (1 + a * 6 + 6) = (sl.flatMap Sit.cells).drop (a * 6 + 6) ++ [Value.slice R rn rc] := by
    rw [List.drop_append_of_le_length (by rw [List.length_append, hl]; simp only [List.length_singleton]; omega), List.drop_append, List.length_singleton, List.drop_eq_nil_of_le (by simp only [List.length_singleton]; omega), List.nil_append]
    congr 2
    omega
  rw [e1, e2]
  simp only [Sit.cells, List.append_assoc]

/-- a slot in memory, behind what was there when the law began -/
structure SlM (v W : World) (g : Nat) (n : Int) (sl : List Sit) (rl : List Rit) (R : Option Addr) (rc : Nat) : Prop where
  kept : Kept v W
  seven : sl.length = 7
  slot : W.ownsRow v.heap.size 49 44 (.slice (some ⟨g, 0, none⟩) 1 1) 1 (scells n sl R rl.length rc)
  rds : ER.Own W v.heap.size (.slice R rl.length rc) rl
/-- what stands in it -/
structure SlH (W : World) (sl : List Sit) (rl : List Rit) (s : Sl) : Prop where
  all : sl.map Sit.x = s.all
  each : ∀ y ∈ sl, RowB W y.A y.x.val.length y.c y.x.val
  many : rl.length = s.rds.length
  rd : ∀ (i : Nat) (h : i < rl.length) (h' : i < s.rds.length), RdAt W rl[i] s.rds[i]
theorem SlH.hush {W W' : World} {sl : List Sit} {rl : List Rit} {s : Sl} (h : SlH W sl rl s) (k : Hush W W') : SlH W' sl rl s :=
  ⟨h.all, fun y hy => (h.each y hy).hush k, h.many, fun i h1 h2 => (h.rd i h1 h2).hush k⟩
theorem SlM.lt {v W : World} {g : Nat} {n : Int} {sl : List Sit} {rl : List Rit} {R : Option Addr} {rc : Nat} (h : SlM v W g n sl rl R rc) : v.heap.size ≤ g ∧ g < W.heap.size := World.ownsRow.lt h.slot g rfl
theorem SlM.grow {v W W' : World} {g : Nat} {n : Int} {sl : List Sit} {rl : List Rit} {R : Option Addr} {rc : Nat} (h : SlM v W g n sl rl R rc) (k : Kept W W') : SlM v W' g n sl rl R rc :=
  ⟨h.kept.trans k, h.seven, World.ownsRow.kept h.slot (row := Option.none) ⟨k.1.os, k.1.tape, k.1.output, k.2, fun i hi _ => k.1.block i hi⟩ (.inr (fun e => by cases e)), h.rds.kept k⟩
theorem SlM.n {v W : World} {g : Nat} {n : Int} {sl : List Sit} {rl : List Rit} {R : Option Addr} {rc : Nat} (h : SlM v W g n sl rl R rc) : W.cell? ⟨g, 0, none⟩ = some (.int .i64 n) := by
  rw [World.ownsRow.cellAt h.slot 0 (by decide)]
  rfl
theorem SlM.rounds {v W : World} {g : Nat} {n : Int} {sl : List Sit} {rl : List Rit} {R : Option Addr} {rc : Nat} (h : SlM v W g n sl rl R rc) : W.cell? ⟨g, 43, none⟩ = some (.slice R rl.length rc) := by
  rw [World.ownsRow.cellAt h.slot 43 (by decide), scells_rounds h.seven]
theorem SlM.free {v W : World} {g : Nat} {n : Int} {sl : List Sit} {rl : List Rit} {R : Option Addr} {rc : Nat} (h : SlM v W g n sl rl R rc) (j : Nat) : W.frozen? ⟨g, j, none⟩ = false := World.ownsRow.frozenAt h.slot j
theorem SlM.state {v W : World} {g : Nat} {n : Int} {sl : List Sit} {rl : List Rit} {R : Option Addr} {rc a : Nat} (h : SlM v W g n sl rl R rc) (ha : a < sl.length) : W.cell? ⟨g, 1 + a * 6, none⟩ = some (.int .i64 sl[a].x.pr) ∧ W.cell? ⟨g, 1 + a * 6 + 1, none⟩ = some (.int .i64 sl[a].x.ps) ∧ W.cell? ⟨g, 1 + a * 6 + 2, none⟩ = some (.bool sl[a].x.so) ∧ W.cell? ⟨g, 1 + a * 6 + 3, none⟩ = some (.int .i64 sl[a].x.ar) ∧ W.cell? ⟨g, 1 + a * 6 + 4, none⟩ = some (.int .i64 sl[a].x.as_) ∧ W.cell? ⟨g, 1 + a * 6 + 5, none⟩ = some (.slice sl[a].A sl[a].x.val.length sl[a].c) := by
  have h7 := h.seven
  have key : ∀ j, j < 6 → W.cell? ⟨g, 1 + a * 6 + j, none⟩ = sl[a].cells[j]? := fun j hj => by
    rw [World.ownsRow.cellAt h.slot (1 + a * 6 + j) (by omega), scells_state ha hj]
  exact ⟨key 0 (by decide), key 1 (by decide), key 2 (by decide), key 3 (by decide), key 4 (by decide), key 5 (by decide)⟩
theorem SlM.round {v W : World} {g : Nat} {n : Int} {sl : List Sit} {rl : List Rit} {R : Option Addr} {rc k : Nat} (h : SlM v W g n sl rl R rc) (hk : k < rl.length) : ∃ b, R = some ⟨b, 0, none⟩ ∧ b < W.heap.size ∧ v.heap.size ≤ b ∧ b ≠ g ∧
    (W.cell? ⟨b, k * 6, none⟩ = some (.int .i64 rl[k].r) ∧ W.cell? ⟨b, k * 6 + 1, none⟩ = some (.int .i64 rl[k].s) ∧ W.cell? ⟨b, k * 6 + 2, none⟩ = some (.slice rl[k].PA rl[k].pn rl[k].pc) ∧ W.cell? ⟨b, k * 6 + 3, none⟩ = some (.bool rl[k].has) ∧ W.cell? ⟨b, k * 6 + 4, none⟩ = some (.slice rl[k].VA rl[k].vn rl[k].vc) ∧ W.cell? ⟨b, k * 6 + 5, none⟩ = some (.slice rl[k].TA rl[k].tn rl[k].tc)) ∧ (∀ j, W.frozen? ⟨b, j, none⟩ = false) ∧ ∃ cs fr, W.heap[b]? = some (.cells cs 56 fr) := by
  obtain ⟨b, off, e, hb, hc⟩ := h.rds.reads k hk
  have ho := h.rds
  rcases ho.2 with ⟨e1, h0⟩ | ⟨g', cap, cur, e1, h1, hg, h3⟩
  · omega
  · rw [Value.slice.injEq] at e1
    obtain ⟨e1, -, -⟩ := e1
    rw [e] at e1
    injection e1 with e1
    injection e1 with e1 e2
    subst e1 e2
    refine ⟨b, e, hb, h1, ?_, ?_, fun j => frozen_of_heap hg j, cur, _, hg⟩
    · rintro rfl
      rcases h.slot.2 with ⟨e3, _⟩ | ⟨g2, cap2, cur2, e3, _, hg2, _⟩
      · cases e3
      · rw [Value.slice.injEq] at e3
        obtain ⟨e3, -, -⟩ := e3
        injection e3 with e3
        injection e3 with e3
        subst e3
        rw [hg] at hg2
        injection hg2 with hg2
        injection hg2 with _ hg2
        cases hg2
    · have key : ∀ j u, rl[k].cells[j]? = some u → W.cell? ⟨b, k * 6 + j, none⟩ = some u := fun j u hu => by
        have := hc j u hu
        rw [Nat.zero_add] at this
        exact this
      exact ⟨key 0 _ rfl, key 1 _ rfl, key 2 _ rfl, key 3 _ rfl, key 4 _ rfl, key 5 _ rfl⟩
theorem SlM.slotBlock {v W : World} {g : Nat} {n : Int} {sl : List Sit} {rl : List Rit} {R : Option Addr} {rc : Nat} (h : SlM v W g n sl rl R rc) : ∃ cs fr, W.heap[g]? = some (.cells cs 49 fr) := by
  rcases h.slot.2 with ⟨e3, _⟩ | ⟨g2, cap2, cur2, e3, _, hg2, _⟩
  · cases e3
  · rw [Value.slice.injEq] at e3
    obtain ⟨e3, -, -⟩ := e3
    injection e3 with e3
    injection e3 with e3
    subst e3
    exact ⟨_, _, hg2⟩

theorem least_any {n m : Int} (hn : -9223372036854775808 ≤ n ∧ n ≤ 9223372036854775807) (h : 1 ≤ m ∧ m ≤ 9223372036854775807) (w : World) : Calls Try.prog 30 #[.int .i64 n, .int .i64 m] w fun e w' => e = .returned (.int .i64 (leastI n m)) ∧ w' = w := by
  have hm0 : (m == 0) = false := by simp; omega
  by_cases h0 : n < 0
  · obtain ⟨q, hq, hq0, hq1⟩ : ∃ q, -(n + 1) = q ∧ 0 ≤ q ∧ q ≤ 9223372036854775807 := ⟨_, rfl, by omega, by omega⟩
    have hw1 : IntKind.i64.wrap (n + 1) = n + 1 := by rw [IntKind.wrap_i64]; omega
    have hw2 : IntKind.i64.wrap (-(n + 1)) = q := by rw [IntKind.wrap_i64]; omega
    have ht : q.tmod m = q % m := Int.tmod_eq_emod_of_nonneg hq0
    have hr : 0 ≤ q % m ∧ q % m < m := ⟨Int.emod_nonneg _ (by omega), Int.emod_lt_of_pos _ (by omega)⟩
    have e : leastI n m = q % m := by unfold leastI; rw [if_pos h0, hq]
    rw [e]
    go_enter Try.func30, Try.ntmps30
    go_wp2
    go_ret
    exact ⟨by go_simp, rfl⟩
  · have ht : n.tmod m = n % m := Int.tmod_eq_emod_of_nonneg (by omega)
    have hr : 0 ≤ n % m ∧ n % m < m := ⟨Int.emod_nonneg _ (by omega), Int.emod_lt_of_pos _ (by omega)⟩
    have e : leastI n m = n % m := by unfold leastI; rw [if_neg h0]
    rw [e]
    go_enter Try.func30, Try.ntmps30
    go_wp2
    go_ret
    exact ⟨by go_simp, rfl⟩
end Go.Proofs.Ytifenlopgpbpbaa
