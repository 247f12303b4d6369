/- A range over a function, walked outside of any fence: what the loop owes, and one round. -/
import Derived.Test.YtfobhofghjpjeaaQuiet
import Derived.Test.YtfobhofghjpjeaaOpen
import Derived.RangeFuncNested
import Derived.RangeFuncBound
import Derived.RangeFuncCalls
import Derived.RangeFuncLeaves
namespace Go.Proofs.Ytfobhofghjpjeaa
open Go.RowKit

/-- the loop's record -/
abbrev loopRec (fn : FuncId) (tmps : Array Value) (ps : Array Tmp) (assign body : Code) (d : Nat) (st : LoopState) (pe : Option Code) : Loop := { state := st, pending := pe, fn, tmps, params := ps, assign, body, defers := d }
abbrev markOf (a : Act) (d : Nat) : Act := { a with defers := { target := .collected d, args := #[] } :: a.defers }

/-- the statement: the iterator's contract ends with the record ready (all has come), or done with a return pending -/
theorem wp_range {P : Program} {n gf : Nat} {g : Operand} {ps : Array Tmp} {assign body : Code} {Q : Exit → Act → World → Prop} {a : Act} {w : World} {lb : Array Value}
    (hg : a.eval g = .func (.func gf) #[] lb) (eg : ∀ args w, (callFunc gf args).run P w = .ok (.enter gf args) w)
    (h : ∀ fn, Calls P gf (#[.func (.yield (w.heap.size + 1)) #[] #[]] ++ lb) ((w.alloc (.deferred (some []))).alloc (.loop (loopRec fn a.tmps ps assign body w.heap.size .ready none))) fun e W => (∃ v, e = .returned v) ∧
      ((W.heap[w.heap.size + 1]? = some (.loop (loopRec fn a.tmps ps assign body w.heap.size .ready none)) ∧ Q .normal (markOf a w.heap.size) (W.putObj (w.heap.size + 1) (.loop (loopRec fn a.tmps ps assign body w.heap.size .exhausted none)))) ∨
       (∃ r : Loop, W.heap[w.heap.size + 1]? = some (.loop r) ∧ r.state = .done ∧ r.pending = some .ret ∧ Q .ret (markOf a w.heap.size) (W.putObj (w.heap.size + 1) (.loop { r with state := .exhausted }))))) :
    (Code.rangeFunc g ps assign body).wpIn Fence.wide n P Q a w := by
  refine wpIn_rangeFunc ?_
  intro fn _
  have hc := h fn
  generalize hW : (w.alloc (.deferred (some []))).alloc (.loop (loopRec fn a.tmps ps assign body w.heap.size .ready none)) = W1 at hc
  refine ⟨w.heap.size + 1, [{ target := .collected w.heap.size, args := #[] }], W1, { target := .fn (.func gf) lb, args := #[.func (.yield (w.heap.size + 1)) #[] #[]] }, W1, gf,
    #[.func (.yield (w.heap.size + 1)) #[] #[]] ++ lb, W1, ?_, ?_, ?_, ?_, ?_, ?_⟩
  · rw [show Fence.wide.round = none from rfl, ← hW]
    exact run_enterLoop_outer _ _ _ _ _
  · simp only [resolve, hg]
    simp [go_sem]
  · exact fun _ _ => trivial
  · simp [invoke, go_sem, eg]
  · intro h
    simp [Fence.wide] at h
  · refine callsIn_wide.2 (hc.mono ?_)
    rintro e W ⟨⟨v, rfl⟩, ⟨h1, h2⟩ | ⟨r, h1, hs, hp, h2⟩⟩
    · exact ⟨none, _, run_endLoop h1 (by simp), h2⟩
    · have he := run_endLoop (P := P) h1 (by rw [hs]; simp)
      exact ⟨some .ret, _, he.trans (by rw [hp]), wpIn_ret h2⟩

/-- how a round may be left: off its end, or by a return -/
def roundQ (l : Nat) (rec : LoopState → Option Code → Loop) (R : Ending → World → Prop) : Exit → Act → World → Prop
  | .normal, _, W => W.heap[l]? = some (.loop (rec .busy none)) ∧ R (.returned (.bool true)) (W.putObj l (.loop (rec .ready none)))
  | .ret, _, W => W.heap[l]? = some (.loop (rec .busy none)) ∧ R (.returned (.bool false)) (W.putObj l (.loop (rec .done (some .ret))))
  | _, _, _ => False
/-- one round -/
theorem yield_at {P : Program} {n l d : Nat} {fn : FuncId} {tmps args : Array Value} {ps : Array Tmp} {assign body : Code} {W : World} {R : Ending → World → Prop}
    (hl : W.heap[l]? = some (.loop (loopRec fn tmps ps assign body d .ready none))) (hs : args.size = ps.size)
    (h : assign.wpIn (Fence.wide.inRound l) n P (Exit.then (fun a₁ W₁ => W₁.heap[l]? = some (.loop (loopRec fn tmps ps assign body d .ready none)) ∧
      body.wpIn (Fence.wide.inRound l) n P (roundQ l (loopRec fn tmps ps assign body d) R) a₁ (W₁.putObj l (.loop (loopRec fn tmps ps assign body d .busy none)))) (fun _ _ _ => False))
      { tmps := (ps.zip args).foldl (fun t (p, v) => t.setIfInBounds p v) tmps, defers := [] } W) :
    YieldAt Fence.wide n P l args W R := by
  refine ⟨fn, _, assign, body, run_yield hl hs, roundIn_of_wpIn trivial (wpIn_mono h ?_)⟩
  rintro e a1 W1 hp
  cases e with
  | normal =>
    obtain ⟨hl1, hb⟩ := hp
    refine ⟨_, run_beginRound hl1 rfl, wpIn_mono hb ?_⟩
    rintro e a3 W3 hq
    cases e with
    | normal =>
      obtain ⟨h1, h2⟩ := hq
      exact ⟨_, _, run_endRound none h1, h2⟩
    | ret =>
      obtain ⟨h1, h2⟩ := hq
      exact ⟨_, _, run_endRound (some .ret) h1, h2⟩
    | exit id => exact hq.elim
    | goto t => exact hq.elim
    | panic ch => exact hq.elim
    | outgrown => exact hq.elim
  | exit id => exact hp.elim
  | goto t => exact hp.elim
  | ret => exact hp.elim
  | panic ch => exact hp.elim
  | outgrown => exact hp.elim
/-- the statement, its parts apart: what a round may ask and owes (Pre, Post), what the iterator's call ends in (Fin: all has come; FinR: a round has returned) -/
theorem wp_range2 {α : Type} {P : Program} {n m gf : Nat} {g : Operand} {ps : Array Tmp} {assign body : Code} {Q : Exit → Act → World → Prop} {a : Act} {w : World} {lb : Array Value}
    (encs : α → Array Value) (Pre : α → World → Prop) (Post : α → World → Ending → World → Prop) (Fin FinR : World → Prop)
    (hg : a.eval g = .func (.func gf) #[] lb) (eg : ∀ args w, (callFunc gf args).run P w = .ok (.enter gf args) w) (hps : ∀ x, (encs x).size = ps.size)
    (hround : ∀ (rec : LoopState → Option Code → Loop), (∀ s p, (rec s p).state = s ∧ (rec s p).pending = p) → ∀ (x : α) (W : World), Pre x W → W.heap[w.heap.size + 1]? = some (.loop (rec .ready none)) →
      assign.wpIn (Fence.wide.inRound (w.heap.size + 1)) m P (Exit.then (fun a₁ W₁ => W₁.heap[w.heap.size + 1]? = some (.loop (rec .ready none)) ∧
        body.wpIn (Fence.wide.inRound (w.heap.size + 1)) m P (roundQ (w.heap.size + 1) rec (Post x W)) a₁ (W₁.putObj (w.heap.size + 1) (.loop (rec .busy none)))) (fun _ _ _ => False))
        { tmps := (ps.zip (encs x)).foldl (fun t (p, v) => t.setIfInBounds p v) a.tmps, defers := [] } W)
    (hiter : ∀ rec : LoopState → Option Code → Loop, (∀ x W, Pre x W → W.heap[w.heap.size + 1]? = some (.loop (rec .ready none)) → YieldAt Fence.wide m P (w.heap.size + 1) (encs x) W (Post x W)) →
      Calls P gf (#[.func (.yield (w.heap.size + 1)) #[] #[]] ++ lb) ((w.alloc (.deferred (some []))).alloc (.loop (rec .ready none))) fun e W => (∃ v, e = .returned v) ∧
        ((W.heap[w.heap.size + 1]? = some (.loop (rec .ready none)) ∧ Fin W) ∨ ((∃ r : Loop, W.heap[w.heap.size + 1]? = some (.loop r) ∧ r.state = .done ∧ r.pending = some .ret) ∧ FinR W)))
    (hdone : ∀ W (r r' : Loop), W.heap[w.heap.size + 1]? = some (.loop r) → Fin W → Q .normal (markOf a w.heap.size) (W.putObj (w.heap.size + 1) (.loop r')))
    (hret : ∀ W (r r' : Loop), W.heap[w.heap.size + 1]? = some (.loop r) → FinR W → Q .ret (markOf a w.heap.size) (W.putObj (w.heap.size + 1) (.loop r'))) :
    (Code.rangeFunc g ps assign body).wpIn Fence.wide n P Q a w := by
  refine wp_range hg eg fun fn => (hiter (loopRec fn a.tmps ps assign body w.heap.size) ?_).mono ?_
  · intro x W hp hl
    exact yield_at hl (hps x) (hround _ (fun _ _ => ⟨rfl, rfl⟩) x W hp hl)
  · rintro e W ⟨hv, ⟨h1, h2⟩ | ⟨h1, h2⟩⟩
    · exact ⟨hv, .inl ⟨h1, hdone W _ _ h1 h2⟩⟩
    · obtain ⟨r, h1, hs, hp⟩ := h1
      exact ⟨hv, .inr ⟨r, h1, hs, hp, hret W _ _ h1 h2⟩⟩
/-- blocks -/
theorem putObj_same {W : World} {l : Nat} {o o' : Obj} (h : W.heap[l]? = some o) : (W.putObj l o').heap[l]? = some o' := World.putObj_heap_same (Array.getElem?_eq_some_iff.1 h).1
theorem putObj_cell {W : World} {l : Nat} {o : Obj} (o' : Obj) (h : W.heap[l]? = some o) (hc : o.isCells = false) {p : Addr} {v : Value} (hp : W.cell? p = some v) : (W.putObj l o').cell? p = some v := by
  have hne : p.block ≠ l := by
    intro e
    unfold World.cell? at hp
    rw [e, h] at hp
    cases o <;> simp_all [Obj.isCells]
  rw [← hp]
  exact World.cell?_of_block (World.putObj_heap_other hne)

end Go.Proofs.Ytfobhofghjpjeaa
