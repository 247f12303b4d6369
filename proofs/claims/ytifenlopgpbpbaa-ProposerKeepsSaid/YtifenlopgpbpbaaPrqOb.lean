/- A slot as it is begun; events as an argument. -/
import Derived.Test.YtifenlopgpbpbaaPrqOa
import Derived.Test.YtifenlopgpbpbaaPrqZ
import Derived.Test.YtifenlopgpbpbaaPrqI
import Derived.Test.YtifenlopgpbpbaaPrqH
namespace Go.Proofs.Ytifenlopgpbpbaa
open Go.RowKit Go.Great

theorem begun_slot {v W : World} {z b : Nat} {n owner : Int} {VA : Option Addr} {vn vc : Nat} {bs : List Nat} (k : Kept v W) (hz : v.heap.size ≤ z) (h : W.heap[z]? = some (.cells (begA 0 none 0 0) 49 (0, 0)))
    (ho : ER.Own W v.heap.size (.slice (some ⟨b, 0, none⟩) 1 1) [(⟨0, owner, none, 0, 0, true, VA, vn, vc, none, 0, 0⟩ : Rit)]) (hvn : vn = bs.length) (hr : RowB W VA vn vc bs) :
    SlW v (W.setRow z (begA n (some ⟨b, 0, none⟩) 1 1)) z ⟨n, List.replicate 7 Ac.zero, [⟨0, owner, [], true, bs, []⟩]⟩ := by
  have h3 := setRow_heap W z (begA 0 none 0 0) (begA n (some ⟨b, 0, none⟩) 1 1) 49 (0, 0) h
  have hot : ∀ i, i ≠ z → (W.setRow z (begA n (some ⟨b, 0, none⟩) 1 1)).heap[i]? = W.heap[i]? := fun i hi => setRow_other W z i _ hi
  have hsz : (W.setRow z (begA n (some ⟨b, 0, none⟩) 1 1)).heap.size = W.heap.size := by simp
  have hk : Kept v (W.setRow z (begA n (some ⟨b, 0, none⟩) 1 1)) := ⟨⟨k.1.os, k.1.tape, k.1.output, by rw [hsz]; exact k.2, fun i hi => (hot i (by omega)).trans (k.1.block i hi)⟩, by rw [hsz]; exact k.2⟩
  have hu : Hush W (W.setRow z (begA n (some ⟨b, 0, none⟩) 1 1)) := ⟨by rw [hsz]; exact Nat.le_refl _, fun i cs t fr e _ h2 => hot i (by
    rintro rfl
    rw [h] at e
    injection e with e
    injection e with _ e
    exact h2 e.symm)⟩
  have hown : ER.Own (W.setRow z (begA n (some ⟨b, 0, none⟩) 1 1)) v.heap.size (.slice (some ⟨b, 0, none⟩) 1 1) [(⟨0, owner, none, 0, 0, true, VA, vn, vc, none, 0, 0⟩ : Rit)] := by
    refine ⟨ho.1, ?_⟩
    rcases ho.2 with h4 | ⟨g, cap, cur, e1, e2, hg, e3⟩
    · exact .inl h4
    · refine .inr ⟨g, cap, cur, e1, e2, (hot g ?_).trans hg, e3⟩
      rintro rfl
      rw [h] at hg
      injection hg with hg
      injection hg with _ hg
      cases hg
  refine ⟨List.replicate 7 sit0, [(⟨0, owner, none, 0, 0, true, VA, vn, vc, none, 0, 0⟩ : Rit)], some ⟨b, 0, none⟩, 1, ⟨hk, rfl, ⟨rfl, .inr ⟨z, 1, _, rfl, hz, h3, Nat.le_refl _, by decide, rfl, ?_⟩⟩, hown⟩, ⟨rfl, fun y hy => ?_, rfl, fun i h1 h2 => ?_⟩⟩
  · rw [begA_list]
    rfl
  · obtain rfl := List.eq_of_mem_replicate hy
    exact RowB.none
  · obtain rfl : i = 0 := by simpa using h1
    exact ⟨rfl, rfl, rfl, ⟨v.heap.size, [], Elem.Own.nil _ _ _, rfl, rfl, fun z hz => by cases hz⟩, hvn, hr.hush hu, v.heap.size, Elem.Own.nil _ _ _, rfl⟩

def Evt.cells (e : Evt) : List Value := [.int .i64 e.kind, .int .i64 e.p, .int .i64 e.k, .int .i64 e.a, .bool e.lost]
def EE : Elem 41 53 Evt where
  cl := Evt.cells
  k := 5
  nb := 40
  z := .agg #[.int .i64 0, .int .i64 0, .int .i64 0, .int .i64 0, .bool false]
  pos := by decide
  und := Try.underlying41
  info := by kernel_rfl
  zc := rfl
  len := fun _ => rfl
  one := fun e u h => by
    simp only [Evt.cells, List.mem_cons, List.not_mem_nil, or_false] at h
    rcases h with rfl | rfl | rfl | rfl | rfl <;> rfl
  few := by decide
instance : Inhabited Evt := ⟨⟨0, 0, 0, 0, false⟩⟩
theorem EE_five {w : World} {A : Option Addr} {l : List Evt} (h : EE.Reads w A l) {i : Nat} (hi : i < l.length) : ∃ b off, A = some ⟨b, off, none⟩ ∧ b < w.heap.size ∧
    w.cell? ⟨b, off + i * 5, none⟩ = some (.int .i64 l[i].kind) ∧ w.cell? ⟨b, off + i * 5 + 1, none⟩ = some (.int .i64 l[i].p) ∧ w.cell? ⟨b, off + i * 5 + 2, none⟩ = some (.int .i64 l[i].k) ∧ w.cell? ⟨b, off + i * 5 + 3, none⟩ = some (.int .i64 l[i].a) ∧ w.cell? ⟨b, off + i * 5 + 4, none⟩ = some (.bool l[i].lost) := by
  obtain ⟨b, off, e, hb, hc⟩ := h i hi
  exact ⟨b, off, e, hb, hc 0 _ rfl, hc 1 _ rfl, hc 2 _ rfl, hc 3 _ rfl, hc 4 _ rfl⟩
theorem event_of {w : World} {cs : List Value} (h : cs.length = 5 ∧ IsStruct [(0, 1, (IsInt .i64)), (1, 1, (IsInt .i64)), (2, 1, (IsInt .i64)), (3, 1, (IsInt .i64)), (4, 1, IsBool)] w cs) : ∃ e : Evt, cs = e.cells ∧ EvOk e := by
  obtain ⟨hl, h0, h1, h2, h3, h4, -⟩ := h
  match cs, hl with
  | [v0, v1, v2, v3, v4], _ =>
    obtain ⟨n0, e0, f0⟩ := h0
    obtain ⟨n1, e1, f1⟩ := h1
    obtain ⟨n2, e2, f2⟩ := h2
    obtain ⟨n3, e3, f3⟩ := h3
    obtain ⟨b, e4⟩ := h4
    simp only [List.drop_zero, List.take_succ_cons, List.take_zero, List.drop_succ_cons, List.cons.injEq, and_true] at e0 e1 e2 e3 e4
    subst e0 e1 e2 e3 e4
    exact ⟨⟨n0, n1, n2, n3, b⟩, rfl, in64 f0, in64 f1, in64 f2, in64 f3⟩
theorem events_of {w : World} {A : Option Addr} {n cap : Nat} (h : SliceAt 5 40 (fun w cs => cs.length = 5 ∧ IsStruct [(0, 1, (IsInt .i64)), (1, 1, (IsInt .i64)), (2, 1, (IsInt .i64)), (3, 1, (IsInt .i64)), (4, 1, IsBool)] w cs) w A n cap) :
    ∃ l : List Evt, l.length = n ∧ EE.Reads w A l ∧ ∀ e ∈ l, EvOk e := by
  obtain ⟨x1, x2, x3, x4, hc⟩ := h
  have key : ∀ i, i < n → ∃ x : Evt, EvOk x ∧ ∃ b off, A = some ⟨b, off, none⟩ ∧ b < w.heap.size ∧ ∀ j u, x.cells[j]? = some u → w.cell? ⟨b, off + i * 5 + j, none⟩ = some u := by
    intro i hi
    obtain ⟨b, off, rfl, hb, hel⟩ := hc (by omega)
    obtain ⟨cs, hl, hr, hcell⟩ := hel i hi
    obtain ⟨x, rfl, hrow⟩ := event_of hr
    refine ⟨x, hrow, b, off, rfl, hb, fun j u hu => ?_⟩
    have hj : j < 5 := by
      have := (List.getElem?_eq_some_iff.1 hu).1
      simpa [Evt.cells] using this
    have := hcell j (by first | exact hj | (simp [Evt.cells]; omega))
    rw [← Nat.add_assoc] at this
    rw [this]
    simpa using hu
  obtain ⟨f, hf⟩ := Go.Deep.choose_lt key
  refine ⟨(List.range n).map f, by simp, fun i hi => ?_, fun x hx => ?_⟩
  · have hin : i < n := by simpa using hi
    obtain ⟨_, b, off, e, hb, hcs⟩ := hf i hin
    refine ⟨b, off, e, hb, fun j u hu => hcs j u ?_⟩
    rw [List.getElem_map, List.getElem_range] at hu
    exact hu
  · obtain ⟨i, hi, rfl⟩ := List.mem_map.1 hx
    exact (hf i (List.mem_range.1 hi)).1
/-- the slot behind events -/
def runS (s : Sl) (l : List Evt) : Sl := l.foldl playS s
theorem runS_snoc (s : Sl) (l : List Evt) (e : Evt) : runS s (l ++ [e]) = playS (runS s l) e := by unfold runS; rw [List.foldl_append]; rfl
theorem Inv.run {v0 : List Nat} : ∀ (l : List Evt) {s : Sl} (_ : Inv v0 s), Inv v0 (runS s l)
  | [], _, I => I
  | e :: l, _, I => Inv.run l (I.play e)
theorem Few.mono {B C : Nat} {s : Sl} (h : Few B s) (hc : B ≤ C) : Few C s := ⟨Nat.le_trans h.1 hc, fun x hx => ⟨Nat.le_trans (h.2 x hx).1 hc, Nat.le_trans (h.2 x hx).2 hc⟩⟩
theorem Few.run : ∀ (l : List Evt) {s : Sl} {B : Nat} (_ : Few B s), Few (B + l.length) (runS s l)
  | [], _, _, h => h
  | e :: l, s, B, h => by
    have := Few.run l (h.play e)
    rw [List.length_cons, show B + (l.length + 1) = B + 1 + l.length by omega]
    exact this
theorem few_begun (n owner : Int) (v0 : List Nat) : Few 1 ⟨n, List.replicate 7 Ac.zero, [⟨0, owner, [], true, v0, []⟩]⟩ := ⟨Nat.le_refl _, fun x hx => by
  obtain rfl := List.mem_singleton.1 hx
  exact ⟨Nat.zero_le _, Nat.zero_le _⟩⟩
theorem play_n (s : Sl) (e : Evt) : (playS s e).n = s.n := by
  unfold playS
  split
  · split
    · rfl
    · split
      · split <;> rfl
      · split
        · split
          · rfl
          · split <;> rfl
        · split
          · split <;> rfl
          · rfl
  · rfl
theorem runS_n : ∀ (l : List Evt) (s : Sl), (runS s l).n = s.n
  | [], _ => rfl
  | e :: l, s => (runS_n l (playS s e)).trans (play_n s e)
/-- a slot's arguments -/
theorem slotarg_of {w : World} {cs : List Value} (h : cs.length = 4 ∧ IsStruct [(0, 1, (IsInt .u8)), (1, 1, (IsInt .u8)), (2, 1, (IsSlice 1 1 (IsInt .u8))), (3, 1, (IsSlice 5 40 (fun w cs => cs.length = 5 ∧ IsStruct [(0, 1, (IsInt .i64)), (1, 1, (IsInt .i64)), (2, 1, (IsInt .i64)), (3, 1, (IsInt .i64)), (4, 1, IsBool)] w cs)))] w cs) :
    ∃ (n o : Int) (A : Option Addr) (m c : Nat) (bs : List Nat) (LA : Option Addr) (ln lc : Nat) (l : List Evt), cs = [.int .u8 n, .int .u8 o, .slice A m c, .slice LA ln lc] ∧ (0 ≤ n ∧ n ≤ 255) ∧ (0 ≤ o ∧ o ≤ 255) ∧ Row w A m c bs ∧ l.length = ln ∧ EE.Reads w LA l ∧ ∀ e ∈ l, EvOk e := by
  obtain ⟨hl, h0, h1, h2, h3, -⟩ := h
  match cs, hl with
  | [v0, v1, v2, v3], _ =>
    obtain ⟨n0, e0, f0⟩ := h0
    obtain ⟨n1, e1, f1⟩ := h1
    obtain ⟨A, m, c, e2, hs⟩ := h2
    obtain ⟨LA, ln, lc, e3, ht⟩ := h3
    simp only [List.drop_zero, List.take_succ_cons, List.take_zero, List.drop_succ_cons, List.cons.injEq, and_true] at e0 e1 e2 e3
    subst e0 e1 e2 e3
    obtain ⟨bs, hb⟩ := Row.of hs
    obtain ⟨l, h4, h5, h6⟩ := events_of ht
    refine ⟨n0, n1, A, m, c, bs, LA, ln, lc, l, rfl, ?_, ?_, hb, h4, h5, h6⟩
    · simp [Lit.wf, IntKind.min, IntKind.max, IntKind.signed, IntKind.bits] at f0; omega
    · simp [Lit.wf, IntKind.min, IntKind.max, IntKind.signed, IntKind.bits] at f1; omega
end Go.Proofs.Ytifenlopgpbpbaa
