/- The steps of the typed walk. -/
import Derived.Test.YtifenlopgpbpbaaTyped
import Derived.BigRegion
namespace Go.Proofs.Ytifenlopgpbpbaa
open Go.RowKit

section
variable {P : Program} {ops : Array Oper} {w0 : World} {fin : List Slot → Prop} {o : Oper} {rest : List (Oper × Bool)} {Γ : List Slot}
/-- whether the operation comes up, as far as the slots tell -/
def guardG (ops : Array Oper) (Γ : List Slot) (o : Oper) : Option Bool := match o.guard with
  | none => some true
  | some (g, b) => match dstOf ops g with
    | none => none
    | some t => match Γ.getD t (.is undef) with
      | .is (.bool c) => some (c == b)
      | .is (.tuple ⟨[]⟩) => some false
      | _ => none
theorem looks_mem {a : Act} {w : World} : ∀ {l : List Tmp} {t : Tmp}, Looks Γ l a.eval w → t ∈ l → (Γ.getD t (.is undef)).holds (a.tmps.getD t undef) w
  | u :: l, t, h, ht => by
    rcases List.mem_cons.1 ht with rfl | ht
    · exact h.1
    · exact looks_mem h.2 ht
theorem guard_ok {b : Bool} (h : guardG ops Γ o = some b) {a : Act} {w : World} (hl : Looks Γ (o.looksAt ops) a.eval w) : Region.wanted o (yielded ops a.tmps) = b := by
  unfold guardG at h
  unfold Region.wanted
  split at h
  · rename_i hg
    cases h
    rw [hg]
  · rename_i g want hg
    rw [hg]
    split at h
    · cases h
    · rename_i t ht
      have hm : t ∈ o.looksAt ops := by
        unfold Oper.looksAt
        rw [hg]
        unfold dstOf at ht
        simp [ht]
      have hh := looks_mem hl hm
      split at h
      · rename_i c hc
        rw [hc] at hh
        simp only [Slot.holds] at hh
        have hy : yielded ops a.tmps g = some c := by
          unfold yielded
          unfold dstOf at ht
          rw [ht]
          rcases Nat.lt_or_ge t a.tmps.size with hlt | hge
          · have : a.tmps[t]? = some (.bool c) := by rw [Array.getElem?_eq_getElem hlt]; congr 1; simpa [Array.getD, hlt] using hh
            simp [this]
          · simp [Array.getD, Nat.not_lt.2 hge, undef] at hh
        simp only [hy]
        injection h
      · rename_i hc
        injection h with h
        subst h
        rw [hc] at hh
        simp only [Slot.holds] at hh
        have hy : yielded ops a.tmps g = none := by
          unfold yielded
          unfold dstOf at ht
          rw [ht]
          rcases Nat.lt_or_ge t a.tmps.size with hlt | hge
          · have : a.tmps[t]? = some (.tuple ⟨[]⟩) := by rw [Array.getElem?_eq_getElem hlt]; congr 1; simpa [Array.getD, hlt] using hh
            simp [this]
          · have : a.tmps[t]? = none := Array.getElem?_eq_none hge
            simp [this]
        simp [hy]
      · cases h
theorem wpT_nil [Grow] (h : fin Γ) : wpT P ops w0 fin [] Γ := h
theorem wpT_skip [Grow] (hg : guardG ops Γ o = some false) (hn : wpT P ops w0 fin rest (putS Γ o.dst (.is undef))) : wpT P ops w0 fin ((o, false) :: rest) Γ :=
  ⟨.is undef, Slot.mono_is _, fun a w _ hl => by rw [guard_ok hg hl, if_neg (by simp)]; rfl, hn⟩
theorem wpT_has [Grow] {T : Value → World → Prop} (hm : (Slot.has T).Mono) (hg : guardG ops Γ o = some true) (h : ∀ ρ w, Grow.R w0 w → Ev ρ → Looks Γ (o.looksAt ops) ρ w → upT P (.has T) w ((execOp ρ o).run P w)) (hn : wpT P ops w0 fin rest (putS Γ o.dst (.has T))) : wpT P ops w0 fin ((o, false) :: rest) Γ :=
  ⟨.has T, hm, fun a w hk hl => by rw [guard_ok hg hl, if_pos rfl]; exact h _ w hk (ev_act a) hl, hn⟩
theorem wpT_is [Grow] (v : Value) (hg : guardG ops Γ o = some true) (h : ∀ ρ w, Grow.R w0 w → Ev ρ → Looks Γ (o.looksAt ops) ρ w → upT P (.is v) w ((execOp ρ o).run P w)) (hn : wpT P ops w0 fin rest (putS Γ o.dst (.is v))) : wpT P ops w0 fin ((o, false) :: rest) Γ :=
  ⟨.is v, Slot.mono_is v, fun a w hk hl => by rw [guard_ok hg hl, if_pos rfl]; exact h _ w hk (ev_act a) hl, hn⟩
/-- the value is told by the operands alone -/
theorem upT_value [Grow] {v : Value} {w : World} {r : Result Next} (h : r = .ok (.value v) w) : upT P (.is v) w r := by rw [h]; exact ⟨Grow.refl _, rfl⟩
theorem wpT_exact0 [Grow] (hg : guardG ops Γ o = some true) (h : ∃ v, (∀ (ρ : Operand → Value) (w : World), Grow.R w0 w → Ev ρ → (execOp ρ o).run P w = .ok (.value v) w) ∧ wpT P ops w0 fin rest (putS Γ o.dst (.is v))) : wpT P ops w0 fin ((o, false) :: rest) Γ :=
  let ⟨v, h, hn⟩ := h
  wpT_is v hg (fun ρ w hk he _ => upT_value (h ρ w hk he)) hn
theorem wpT_exact1 [Grow] {t1 : Tmp} {v1 : Value} (hl : o.looksAt ops = [t1]) (h1 : Γ.getD t1 (.is undef) = .is v1) (hg : guardG ops Γ o = some true)
    (h : ∃ v, (∀ (ρ : Operand → Value) (w : World), Grow.R w0 w → Ev ρ → ρ (.tmp t1) = v1 → (execOp ρ o).run P w = .ok (.value v) w) ∧ wpT P ops w0 fin rest (putS Γ o.dst (.is v))) : wpT P ops w0 fin ((o, false) :: rest) Γ :=
  let ⟨v, h, hn⟩ := h
  wpT_is v hg (fun ρ w hk he hh => upT_value (h ρ w hk he (by rw [hl] at hh; have := hh.1; rw [h1] at this; exact this))) hn
theorem wpT_exact2 [Grow] {t1 t2 : Tmp} {v1 v2 : Value} (hl : o.looksAt ops = [t1, t2]) (h1 : Γ.getD t1 (.is undef) = .is v1) (h2 : Γ.getD t2 (.is undef) = .is v2) (hg : guardG ops Γ o = some true)
    (h : ∃ v, (∀ (ρ : Operand → Value) (w : World), Grow.R w0 w → Ev ρ → ρ (.tmp t1) = v1 → ρ (.tmp t2) = v2 → (execOp ρ o).run P w = .ok (.value v) w) ∧ wpT P ops w0 fin rest (putS Γ o.dst (.is v))) : wpT P ops w0 fin ((o, false) :: rest) Γ :=
  let ⟨v, h, hn⟩ := h
  wpT_is v hg (fun ρ w hk he hh => upT_value (h ρ w hk he (by rw [hl] at hh; have := hh.1; rw [h1] at this; exact this) (by rw [hl] at hh; have := hh.2.1; rw [h2] at this; exact this))) hn
theorem wpT_exact3 [Grow] {t1 t2 t3 : Tmp} {v1 v2 v3 : Value} (hl : o.looksAt ops = [t1, t2, t3]) (h1 : Γ.getD t1 (.is undef) = .is v1) (h2 : Γ.getD t2 (.is undef) = .is v2) (h3 : Γ.getD t3 (.is undef) = .is v3) (hg : guardG ops Γ o = some true)
    (h : ∃ v, (∀ (ρ : Operand → Value) (w : World), Grow.R w0 w → Ev ρ → ρ (.tmp t1) = v1 → ρ (.tmp t2) = v2 → ρ (.tmp t3) = v3 → (execOp ρ o).run P w = .ok (.value v) w) ∧ wpT P ops w0 fin rest (putS Γ o.dst (.is v))) : wpT P ops w0 fin ((o, false) :: rest) Γ :=
  let ⟨v, h, hn⟩ := h
  wpT_is v hg (fun ρ w hk he hh => upT_value (h ρ w hk he (by rw [hl] at hh; have := hh.1; rw [h1] at this; exact this) (by rw [hl] at hh; have := hh.2.1; rw [h2] at this; exact this) (by rw [hl] at hh; have := hh.2.2.1; rw [h3] at this; exact this))) hn
theorem wpT_exact4 [Grow] {t1 t2 t3 t4 : Tmp} {v1 v2 v3 v4 : Value} (hl : o.looksAt ops = [t1, t2, t3, t4]) (h1 : Γ.getD t1 (.is undef) = .is v1) (h2 : Γ.getD t2 (.is undef) = .is v2) (h3 : Γ.getD t3 (.is undef) = .is v3) (h4 : Γ.getD t4 (.is undef) = .is v4) (hg : guardG ops Γ o = some true)
    (h : ∃ v, (∀ (ρ : Operand → Value) (w : World), Grow.R w0 w → Ev ρ → ρ (.tmp t1) = v1 → ρ (.tmp t2) = v2 → ρ (.tmp t3) = v3 → ρ (.tmp t4) = v4 → (execOp ρ o).run P w = .ok (.value v) w) ∧ wpT P ops w0 fin rest (putS Γ o.dst (.is v))) : wpT P ops w0 fin ((o, false) :: rest) Γ :=
  let ⟨v, h, hn⟩ := h
  wpT_is v hg (fun ρ w hk he hh => upT_value (h ρ w hk he (by rw [hl] at hh; have := hh.1; rw [h1] at this; exact this) (by rw [hl] at hh; have := hh.2.1; rw [h2] at this; exact this) (by rw [hl] at hh; have := hh.2.2.1; rw [h3] at this; exact this) (by rw [hl] at hh; have := hh.2.2.2.1; rw [h4] at this; exact this))) hn
/-- an operation that may come up late: it tells v in whatever world -/
theorem wpT_late [Grow] {v : Value} (hg : guardG ops Γ o = some true) (h : ∀ ρ w, Grow.R w0 w → Ev ρ → Looks Γ (o.looksAt ops) ρ w → ∀ w', (execOp ρ o).run P w' = .ok (.value v) w') (hn : wpT P ops w0 fin rest (putS Γ o.dst (.is v))) : wpT P ops w0 fin ((o, true) :: rest) Γ :=
  ⟨v, fun a w hk hl => .inl ⟨guard_ok hg hl, h _ w hk (ev_act a) hl⟩, hn⟩
theorem upT_call [Grow] {S : Slot} {w : World} {r : Result Next} (f : FuncId) (args : Array Value) (h : r = .ok (.enter f args) w) (hc : Calls P f args w fun e w'' => ∃ u, e = .returned u ∧ Grow.R w w'' ∧ S.holds u w'') : upT P S w r := by rw [h]; exact hc
theorem upT_made [Grow] {S : Slot} {w w' : World} {r : Result Next} (v : Value) (h : r = .ok (.value v) w') (hk : Grow.R w w') (hs : S.holds v w') : upT P S w r := by rw [h]; exact ⟨hk, hs⟩
/-- move, assign: what is known of the slot goes on -/
def slotG (Γ : List Slot) : Operand → Slot
  | .tmp t => Γ.getD t (.is undef)
  | .const v => .is v
  | .global g => .is (.pointer (some ⟨g, 0, none⟩))
  | .func f => .is (.func (.func f) #[] #[])
theorem wpT_slot [Grow] (x : Operand) {S : Slot} (ho : o.op = .move x ∨ o.op = .assign x) (hS : slotG Γ x = S) (hm : S.Mono) (hg : guardG ops Γ o = some true) (hn : wpT P ops w0 fin rest (putS Γ o.dst S)) : wpT P ops w0 fin ((o, false) :: rest) Γ := by
  refine ⟨S, hm, fun a w hk hl => ?_, hn⟩
  rw [guard_ok hg hl, if_pos rfl]
  have hr : (execOp a.eval o).run P w = .ok (.value (a.eval x)) w := by
    rcases ho with ho | ho
    · exact BigFrame.run_move x ho w
    · exact BigFrame.run_assign x ho w
  rw [hr]
  refine ⟨Grow.refl _, ?_⟩
  subst hS
  cases x with
  | tmp t => exact looks_mem hl (by unfold Oper.looksAt; rcases ho with ho | ho <;> simp [ho, Op.operands])
  | _ => rfl
theorem only_end {K : Act → World → Prop} {a : Act} {w : World} (h : K a w) : Only K .normal a w := ⟨rfl, h⟩
theorem wpList_end {P : Program} {ops : Array Oper} {Q : Exit → Act → World → Prop} {a : Act} {w : World} (h : Q .normal a w) : wpList P ops (Only (Q .normal)) [] a w := ⟨rfl, h⟩
end
end Go.Proofs.Ytifenlopgpbpbaa
