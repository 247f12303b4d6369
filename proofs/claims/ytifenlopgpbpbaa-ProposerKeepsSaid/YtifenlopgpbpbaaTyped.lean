/- A region that draws its order, walked once in the order of the text, where operations may make memory (and so tell values that hang on the order): of each slot either its value is known, or a property of it that stays true while the world grows. A last part that waits for all else is walked as it stands.
Nothing here speaks of one program. -/
import Derived.Test.YtifenlopgpbpbaaQuiet
import Derived.StillTail
import Derived.Tactics
namespace Go.Proofs.Ytifenlopgpbpbaa
open Go.RowKit

/-- how worlds may go on while a region is walked -/
class Grow where
  R : World → World → Prop
  refl : ∀ w, R w w
  trans : ∀ {a b c}, R a b → R b c → R a c
/-- what was there is as it was -/
instance keptGrow : Grow := ⟨Kept, Kept.refl, Kept.trans⟩

/-- what is known of a slot -/
inductive Slot where
  | is (v : Value)
  | has (T : Value → World → Prop)
def Slot.holds : Slot → Value → World → Prop
  | .is v, u, _ => u = v
  | .has T, u, w => T u w
def Slot.Mono [Grow] (S : Slot) : Prop := ∀ u w w', Grow.R w w' → S.holds u w → S.holds u w'
theorem Slot.mono_is [Grow] (v : Value) : (Slot.is v).Mono := fun _ _ _ _ h => h
/-- each slot, in turn -/
def Fits : List Slot → World → (List Value → Prop) → Prop
  | [], _, K => K []
  | .is v :: l, w, K => Fits l w fun vs => K (v :: vs)
  | .has T :: l, w, K => ∀ u, T u w → Fits l w fun vs => K (u :: vs)
theorem fits_use {w : World} : ∀ (Γ : List Slot) (vs : List Value) (K : List Value → Prop), vs.length = Γ.length → (∀ i, (Γ.getD i (.is undef)).holds (vs.getD i undef) w) → Fits Γ w K → K vs
  | [], [], _, _, _, h => h
  | .is v :: Γ, u :: vs, K, hl, hh, h => by
    have h0 := hh 0
    simp only [List.getD_cons_zero, Slot.holds] at h0
    subst h0
    exact fits_use Γ vs (fun vs => K (u :: vs)) (by simpa using hl) (fun i => by simpa using hh (i + 1)) h
  | .has T :: Γ, u :: vs, K, hl, hh, h => by
    have h0 := hh 0
    simp only [List.getD_cons_zero, Slot.holds] at h0
    exact fits_use Γ vs (fun vs => K (u :: vs)) (by simpa using hl) (fun i => by simpa using hh (i + 1)) (h u h0)
def putS (Γ : List Slot) (d : Option Tmp) (S : Slot) : List Slot := match d with
  | some t => Γ.set t S
  | none => Γ
/-- what is known of the slots that an operation looks at -/
def Looks (Γ : List Slot) : List Tmp → (Operand → Value) → World → Prop
  | [], _, _ => True
  | t :: l, ρ, w => (Γ.getD t (.is undef)).holds (ρ (.tmp t)) w ∧ Looks Γ l ρ w
/-- what is no slot is what it is -/
structure Ev (ρ : Operand → Value) : Prop where
  const : ∀ v, ρ (.const v) = v
  global : ∀ g, ρ (.global g) = .pointer (some ⟨g, 0, none⟩)
  func : ∀ f, ρ (.func f) = .func (.func f) #[] #[]
theorem ev_act (a : Act) : Ev a.eval := ⟨fun _ => rfl, fun _ => rfl, fun _ => rfl⟩
theorem looks_of {Γ : List Slot} {a : Act} {w : World} : ∀ (l : List Tmp), (∀ t ∈ l, (Γ.getD t (.is undef)).holds (a.tmps.getD t undef) w) → Looks Γ l a.eval w
  | [], _ => trivial
  | t :: l, h => ⟨h t (by simp), looks_of l fun u hu => h u (by simp [hu])⟩
/-- what an operation may do: tell a value of its kind, in the world that it got or one that grew out of it -/
def upT [Grow] (P : Program) (S : Slot) (w : World) : Result Next → Prop
  | .ok (.value u) w' => Grow.R w w' ∧ S.holds u w'
  | .ok .skip w' => Grow.R w w' ∧ S.holds undef w'
  | .ok (.enter f args) w' => Calls P f args w' fun e w'' => ∃ u, e = .returned u ∧ Grow.R w w'' ∧ S.holds u w''
  | _ => False
def Obl [Grow] (P : Program) (ops : Array Oper) (w0 : World) (o : Oper) (Γ : List Slot) (S : Slot) : Prop :=
  ∀ (a : Act) (w : World), Grow.R w0 w → Looks Γ (o.looksAt ops) a.eval w → if Region.wanted o (yielded ops a.tmps) = true then upT P S w ((execOp a.eval o).run P w) else S.holds undef w
/-- of an operation that may come up late: one value, in every world -/
def PObl [Grow] (P : Program) (ops : Array Oper) (w0 : World) (o : Oper) (Γ : List Slot) (v : Value) : Prop :=
  ∀ (a : Act) (w : World), Grow.R w0 w → Looks Γ (o.looksAt ops) a.eval w → (Region.wanted o (yielded ops a.tmps) = true ∧ ∀ w', (execOp a.eval o).run P w' = .ok (.value v) w') ∨ (Region.wanted o (yielded ops a.tmps) = false ∧ v = undef)
def wpT [Grow] (P : Program) (ops : Array Oper) (w0 : World) (fin : List Slot → Prop) : List (Oper × Bool) → List Slot → Prop
  | [], Γ => fin Γ
  | (o, false) :: rest, Γ => ∃ S : Slot, S.Mono ∧ Obl P ops w0 o Γ S ∧ wpT P ops w0 fin rest (putS Γ o.dst S)
  | (o, true) :: rest, Γ => ∃ v, PObl P ops w0 o Γ v ∧ wpT P ops w0 fin rest (putS Γ o.dst (.is v))
/-- which of them may come up late -/
def zipF : List Oper → List Bool → List (Oper × Bool)
  | [], _ => []
  | o :: l, [] => (o, false) :: zipF l []
  | o :: l, b :: fl => (o, b) :: zipF l fl
theorem zipF_length : ∀ (l : List Oper) (fl : List Bool), (zipF l fl).length = l.length
  | [], _ => rfl
  | o :: l, [] => by simp [zipF, zipF_length l []]
  | o :: l, b :: fl => by simp [zipF, zipF_length l fl]
theorem zipF_at : ∀ (l : List Oper) (fl : List Bool) (j : Nat), (zipF l fl)[j]? = (l[j]?).map fun o => (o, fl.getD j false)
  | [], _, j => by simp [zipF]
  | o :: l, [], 0 => by simp [zipF]
  | o :: l, [], j + 1 => by simp only [zipF, List.getElem?_cons_succ, zipF_at l [] j]; simp
  | o :: l, b :: fl, 0 => by simp [zipF]
  | o :: l, b :: fl, j + 1 => by simp only [zipF, List.getElem?_cons_succ, zipF_at l fl j, List.getD_cons_succ]
theorem PObl.obl [Grow] {P : Program} {ops : Array Oper} {w0 : World} {o : Oper} {Γ : List Slot} {v : Value} (h : PObl P ops w0 o Γ v) : Obl P ops w0 o Γ (.is v) := by
  intro a w hk hl
  rcases h a w hk hl with ⟨h1, h2⟩ | ⟨h1, h2⟩
  · rw [if_pos h1, h2 w]; exact ⟨Grow.refl _, rfl⟩
  · rw [if_neg (by simp [h1])]; exact h2.symm

def Region.typedB (ops : Array Oper) (N : Nat) (fl : List Bool) : Bool :=
  Region.noSelect ops &&
  ((List.range ops.size).all fun j => (ops[j]?).any fun oj => (oj.after.all fun e => !Region.binds .any e || decide (e.on < j)) && (List.range j).all fun k => Region.waitsFor .any ops j k || (ops[k]?).any fun ok => ok.apart ops oj)
  && decide (N ≤ ops.size) && (decide (N = ops.size) || ((List.range N).all (fun i => fl.getD i false || (List.range (N + 1)).any fun j => decide (i < j) && (decide (j = N) || !fl.getD j false) && Region.waitsFor .any ops j i) && Region.chainB .any ops N))

section
variable {P : Program} {ops : Array Oper} {w0 : World}
def dstOf (ops : Array Oper) (j : Nat) : Option Tmp := (ops[j]?).bind (·.dst)
/-- what is known of slot t when of the first n operations those that p tells of have come up -/
def cur (ops : Array Oper) (S : Nat → Slot) (Γ : List Slot) (p : Nat → Bool) : Nat → Tmp → Slot
  | 0, t => Γ.getD t (.is undef)
  | n + 1, t => if p n = true ∧ dstOf ops n = some t ∧ t < Γ.length then S n else cur ops S Γ p n t
variable {S : Nat → Slot} {Γ : List Slot} {p q : Nat → Bool} {t : Tmp}
theorem cur_congr : ∀ n, (∀ j, j < n → dstOf ops j = some t → p j = q j) → cur ops S Γ p n t = cur ops S Γ q n t
  | 0, _ => rfl
  | n + 1, h => by
    unfold cur
    rw [cur_congr n fun j hj => h j (by omega)]
    by_cases hd : dstOf ops n = some t
    · rw [h n (by omega) hd]
    · simp [hd]
theorem cur_past {m : Nat} : ∀ n, m ≤ n → (∀ j, m ≤ j → j < n → dstOf ops j = some t → p j = false) → cur ops S Γ p n t = cur ops S Γ p m t
  | 0, hm, _ => by obtain rfl : m = 0 := by omega
                   rfl
  | n + 1, hm, h => by
    by_cases hmn : m = n + 1
    · rw [hmn]
    · rw [cur, if_neg, cur_past n (by omega) fun j h1 h2 => h j h1 (by omega)]
      rintro ⟨h1, h2, _⟩
      rw [h n (by omega) (by omega) h2] at h1
      cases h1
/-- of an operation that comes up where its conflicts allow it -/
theorem cur_at {i n : Nat} (hin : i < n) (hlo : ∀ j, j < i → dstOf ops j = some t → p j = true) (hhi : ∀ j, i ≤ j → j < n → dstOf ops j = some t → p j = false) : cur ops S Γ p n t = cur ops S Γ (fun _ => true) i t := by
  rw [cur_past n (Nat.le_of_lt hin) hhi]
  exact cur_congr i hlo
theorem cur_set {i n : Nat} (hin : i < n) (hd : dstOf ops i = some t) (ht : t < Γ.length) (hp : p i = true) (hhi : ∀ j, i < j → j < n → dstOf ops j = some t → p j = false) : cur ops S Γ p n t = S i := by
  rw [cur_past (m := i + 1) n (by omega) fun j h1 h2 => hhi j (by omega) h2, cur, if_pos ⟨hp, hd, ht⟩]

theorem apart_spec' {i j : Nat} {oi oj : Oper} (hi : ops[i]? = some oi) (hj : ops[j]? = some oj) (h : oi.apart ops oj = true) :
    (∀ d, dstOf ops i = some d → d ∉ oj.looksAt ops) ∧ (∀ d, dstOf ops i = some d → dstOf ops j ≠ some d) ∧ (∀ d, dstOf ops j = some d → d ∉ oi.looksAt ops) := by
  have := Oper.apart_spec h
  unfold dstOf
  rw [hi, hj]
  exact this

structure Fine (ops : Array Oper) (N : Nat) (fl : List Bool) : Prop where
  sel : Region.noSelect ops = true
  lex : ∀ j oj, ops[j]? = some oj → ∀ e ∈ oj.after, Region.binds .any e = true → e.on < j
  free : ∀ (j k : Nat) oj ok, ops[j]? = some oj → ops[k]? = some ok → k < j → (∃ e ∈ oj.after, Region.binds .any e = true ∧ e.on = k) ∨ ok.apart ops oj = true
  head : N ≤ ops.size
  tail : N = ops.size ∨ ((∀ i, i < N → fl.getD i false = false → ∃ j, i < j ∧ j ≤ N ∧ (j = N ∨ fl.getD j false = false) ∧ Region.waitsFor .any ops j i = true) ∧ Region.chainB .any ops N = true)
theorem fine_of {N : Nat} {fl : List Bool} (h : Region.typedB ops N fl = true) : Fine ops N fl := by
  unfold Region.typedB at h
  simp only [Bool.and_eq_true, Bool.or_eq_true, decide_eq_true_eq] at h
  obtain ⟨⟨⟨h0, h1⟩, h2⟩, h3⟩ := h
  have key : ∀ (j : Nat) oj, ops[j]? = some oj → (oj.after.all fun e => !Region.binds .any e || decide (e.on < j)) = true ∧ ((List.range j).all fun k => Region.waitsFor .any ops j k || (ops[k]?).any fun ok => ok.apart ops oj) = true := by
    intro j oj hj
    have hlt := (Array.getElem?_eq_some_iff.1 hj).1
    have := List.all_eq_true.1 h1 j (List.mem_range.2 hlt)
    rw [hj] at this
    simpa using this
  refine ⟨h0, fun j oj hj e he hb => ?_, fun j k oj ok hj hk hkj => ?_, h2, h3.imp id fun h => ⟨fun i hi hl => ?_, h.2⟩⟩
  rotate_left 2
  · have h4 := List.all_eq_true.1 h.1 i (List.mem_range.2 hi)
    simp only [hl, Bool.false_or] at h4
    obtain ⟨j, hj, h5⟩ := List.any_eq_true.1 h4
    simp only [Bool.and_eq_true, Bool.or_eq_true, decide_eq_true_eq, Bool.not_eq_true'] at h5
    exact ⟨j, h5.1.1, by have := List.mem_range.1 hj; omega, h5.1.2, h5.2⟩
  · have h4 := (key j oj hj).1
    rw [Array.all_eq_true_iff_forall_mem] at h4
    have h5 := h4 e he
    simpa [hb] using h5
  · have h4 := List.all_eq_true.1 (key j oj hj).2 k (List.mem_range.2 hkj)
    rw [hk] at h4
    simp only [Bool.or_eq_true, Option.any_some] at h4
    rcases h4 with h4 | h4
    · obtain ⟨oj', hoj', e, he, hb, hon⟩ := Region.waitsFor_spec h4
      have : oj' = oj := Option.some.inj (hoj'.symm.trans hj)
      subst this
      exact .inl ⟨e, he, hb, hon⟩
    · exact .inr h4
/-- which operations have come up: those that they wait for have, too -/
structure Down (ops : Array Oper) (listed : Array Bool) : Prop where
  size : listed.size = ops.size
  closed : ∀ (j : Nat) oj, ops[j]? = some oj → listed.getD j false = true → ∀ e ∈ oj.after, Region.binds .any e = true → listed.getD e.on false = true
theorem getD_in' {listed : Array Bool} {i : Nat} (hi : i < listed.size) (b c : Bool) : listed.getD i b = listed.getD i c := by
  simp [hi]
theorem Down.set {listed : Array Bool} {i : Nat} (h : Down ops listed) (hi : i ∈ Region.ready .any ops listed) : Down ops (listed.setIfInBounds i true) := by
  obtain ⟨_, oi, hoi, hall⟩ := mem_ready.1 hi
  refine ⟨by simp [h.size], fun j oj hj hl e he hb => ?_⟩
  by_cases hij : i = j
  · subst hij
    have : oj = oi := Option.some.inj (hj.symm.trans hoi)
    subst this
    exact getD_set_true (hall e he hb)
  · rw [getD_set_ne false hij] at hl
    exact getD_set_true (h.closed j oj hj hl e he hb)
/-- where operation i comes up, all that are in conflict with it lie on their side -/
theorem sides {N i k : Nat} {fl : List Bool} {listed : Array Bool} {oi ok : Oper} (hf : Fine ops N fl) (hd : Down ops listed) (hi : i ∈ Region.ready .any ops listed) (hoi : ops[i]? = some oi) (hok : ops[k]? = some ok) :
    (k < i → ok.apart ops oi = true ∨ listed.getD k false = true) ∧ (i < k → oi.apart ops ok = true ∨ listed.getD k false = false) := by
  obtain ⟨hun, oi', hoi', hall⟩ := mem_ready.1 hi
  have : oi' = oi := Option.some.inj (hoi'.symm.trans hoi)
  subst this
  have hlt : i < listed.size := by rw [hd.size]; exact (Array.getElem?_eq_some_iff.1 hoi).1
  refine ⟨fun hki => ?_, fun hik => ?_⟩
  · rcases hf.free i k oi' ok hoi hok hki with ⟨e, he, hb, rfl⟩ | h
    · exact .inr (hall e he hb)
    · exact .inl h
  · rcases hf.free k i ok oi' hok hoi hik with ⟨e, he, hb, hon⟩ | h
    · refine .inr ?_
      cases hl : listed.getD k false with
      | false => rfl
      | true =>
        have := hd.closed k ok hok hl e he hb
        rw [hon, getD_in' hlt false true, hun] at this
        cases this
    · exact .inl h

/-- the end: all that is left stands in one order -/
theorem wpAny_tail {N : Nat} {fl : List Bool} {Q : Exit → Act → World → Prop} (hf : Fine ops N fl) : ∀ (d k fuel : Nat) (listed : Array Bool) (a : Act) (w : World), ops.size - k = d → N ≤ k → k ≤ ops.size → d ≤ fuel → listed.size = ops.size →
    (∀ j, j < k → listed.getD j false = true) → (∀ j, k ≤ j → j < ops.size → listed.getD j true = false) → wpList P ops Q (ops.toList.drop k) a w → wpAny P .any ops Q fuel listed a w := by
  intro d
  induction d with
  | zero =>
    intro k fuel listed a w hd _ hk _ hs hlo _ h
    have hke : k = ops.size := by omega
    have hr : Region.ready .any ops listed = [] := by
      refine List.eq_nil_iff_forall_not_mem.2 fun j hj => ?_
      obtain ⟨hun, oj, hoj, _⟩ := mem_ready.1 hj
      have hlt := (Array.getElem?_eq_some_iff.1 hoj).1
      have := hlo j (by omega)
      rw [getD_in' (by omega) false true, hun] at this
      cases this
    rw [List.drop_eq_nil_of_le (by simp; omega)] at h
    cases fuel with
    | zero => exact ⟨hr, h⟩
    | succ f => exact ⟨fun _ => h, fun j hj => by rw [hr] at hj; cases hj⟩
  | succ d ih =>
    intro k fuel listed a w hd hN hk hfu hs hlo hhi h
    obtain ⟨f, rfl⟩ : ∃ f, fuel = f + 1 := ⟨fuel - 1, by omega⟩
    have hkl : k < ops.size := by omega
    have hok : ops[k]? = some ops[k] := Array.getElem?_eq_getElem hkl
    have hready : k ∈ Region.ready .any ops listed := mem_ready.2 ⟨hhi k (Nat.le_refl _) hkl, _, hok, fun e he hb => hlo e.on (hf.lex k _ hok e he hb)⟩
    refine ⟨fun h0 => (by rw [h0] at hready; cases hready), fun i hi => ?_⟩
    have hik : i = k := by
      obtain ⟨hun, oi, hoi, hall⟩ := mem_ready.1 hi
      have hilt := (Array.getElem?_eq_some_iff.1 hoi).1
      rcases Nat.lt_trichotomy i k with h1 | h1 | h1
      · have := hlo i h1
        rw [getD_in' (by omega) false true, hun] at this
        cases this
      · exact h1
      · rcases hf.tail with h2 | ⟨_, h2⟩
        · omega
        · have h3 := List.all_eq_true.1 h2 i (List.mem_range.2 hilt)
          simp only [Bool.or_eq_true, decide_eq_true_eq] at h3
          rcases h3 with h3 | h3
          · omega
          · obtain ⟨o', ho', e, he, hb, hon⟩ := Region.waitsFor_spec h3
            have : o' = oi := Option.some.inj (ho'.symm.trans hoi)
            subst this
            have h4 := hall e he hb
            rw [hon, getD_in' (by omega) false true, hhi (i - 1) (by omega) (by omega)] at h4
            cases h4
    subst hik
    have hK : ∀ a w, wpList P ops Q (ops.toList.drop (i + 1)) a w → wpAny P .any ops Q f (listed.setIfInBounds i true) a w := fun a w h =>
      ih (i + 1) f (listed.setIfInBounds i true) a w (by omega) (by omega) (by omega) (by omega) (by simp [hs]) (fun j hj => by
        by_cases hij : i = j
        · subst hij; simp [hs, hkl]
        · rw [getD_set_ne false hij]; exact hlo j (by omega)) (fun j hj hjl => by rw [getD_set_ne true (by omega)]; exact hhi j (by omega) hjl) h
    rw [List.drop_eq_getElem_cons (by simpa using hkl)] at h
    simp only [Array.getElem_toList, wpList] at h
    unfold wpOp
    simp only [hok]
    split
    · rename_i hw
      rw [if_pos hw] at h
      rcases h with h | h
      · exact .inl (Oper.wp_mono hK h)
      · exact .inr h
    · rename_i hw
      rw [if_neg hw] at h
      exact hK _ _ h

theorem wp_of_upT [Grow] {o : Oper} {a : Act} {w : World} {T : Slot} {K : Act → World → Prop} {Q : Exit → Act → World → Prop} (h : upT P T w ((execOp a.eval o).run P w)) (hK : ∀ u w', Grow.R w w' → T.holds u w' → K (a.put o.dst u) w') : o.wp P a w K Q := by
  unfold Oper.wp
  generalize (execOp a.eval o).run P w = r at *
  cases r with
  | ok n w' =>
    cases n <;> simp only [upT] at h <;> simp only [Oper.upon]
    case value u => exact hK _ _ h.1 h.2
    case skip => exact hK _ _ h.1 h.2
    case enter f args => exact h.mono fun e w'' ⟨u, he, hk, ht⟩ => by subst he; exact hK _ _ hk ht
  | halt x w' => simp only [upT] at h

/-- how many have not come up yet -/
def left (listed : Array Bool) : Nat → Nat
  | 0 => 0
  | n + 1 => left listed n + if listed.getD n false = true then 0 else 1
theorem left_set {i : Nat} {listed : Array Bool} (hi : i < listed.size) (hun : listed.getD i false = false) : ∀ n, left (listed.setIfInBounds i true) n + (if i < n then 1 else 0) = left listed n
  | 0 => by simp [left]
  | n + 1 => by
    have ih := left_set hi hun n
    simp only [left]
    by_cases hin : i = n
    · subst hin
      rw [if_neg (by omega)] at ih
      rw [if_pos (by simp [hi]), if_pos (by omega), hun, if_neg (by simp)]
      omega
    · rw [getD_set_ne false hin]
      by_cases h1 : i < n
      · rw [if_pos h1] at ih; rw [if_pos (show i < n + 1 by omega)]; omega
      · rw [if_neg h1] at ih; rw [if_neg (show ¬ i < n + 1 by omega)]; omega
theorem left_all {listed : Array Bool} : ∀ n, left listed n = 0 → ∀ j, j < n → listed.getD j false = true
  | 0, _, j, hj => by omega
  | n + 1, h, j, hj => by
    simp only [left] at h
    by_cases hn : listed.getD n false = true
    · by_cases hjn : j = n
      · rw [hjn]; exact hn
      · exact left_all n (by omega) j (by omega)
    · rw [if_neg hn] at h; omega
theorem left_some {listed : Array Bool} : ∀ n, left listed n ≠ 0 → ∃ j, j < n ∧ listed.getD j false = false
  | 0, h => absurd rfl h
  | n + 1, h => by
    simp only [left] at h
    by_cases hn : listed.getD n false = true
    · rw [if_pos hn] at h
      obtain ⟨j, hj, h1⟩ := left_some n (by omega)
      exact ⟨j, by omega, h1⟩
    · exact ⟨n, by omega, by simpa using hn⟩
theorem left_le {listed : Array Bool} : ∀ n, left listed n ≤ n
  | 0 => Nat.le_refl _
  | n + 1 => by
    have := left_le (listed := listed) n
    simp only [left]
    split <;> omega
theorem least {n : Nat} {listed : Array Bool} : ∀ j, j < n → listed.getD j false = false → ∃ i, i < n ∧ listed.getD i false = false ∧ ∀ k, k < i → listed.getD k false = true := by
  intro j
  induction j using Nat.strongRecOn with
  | _ j ih =>
    intro hj hun
    by_cases h : ∃ k, k < j ∧ listed.getD k false = false
    · obtain ⟨k, hk, hku⟩ := h
      exact ih k hk (by omega) hku
    · refine ⟨j, hj, hun, fun k hk => ?_⟩
      cases hl : listed.getD k false with
      | true => rfl
      | false => exact absurd ⟨k, hk, hl⟩ h

/-- nothing but the end -/
def Only (K : Act → World → Prop) (e : Exit) (a : Act) (w : World) : Prop := e = .normal ∧ K a w
theorem only_not {K : Act → World → Prop} : ¬ LetsOut (Only K) := fun ⟨_, _, h, _⟩ => by cases h
theorem wp_only {o : Oper} {a : Act} {w : World} {K F : Act → World → Prop} {Q : Exit → Act → World → Prop} (h : o.wp P a w K (Only F)) : o.wp P a w K Q := by
  unfold Oper.wp at *
  generalize (execOp a.eval o).run P w = r at *
  cases r with
  | ok n w' =>
    cases n <;> simp only [Oper.upon] at h ⊢
    case enter f args => exact Calls.mono h (fun e w'' he => by cases e <;> simp only at he ⊢ <;> first | exact he | exact absurd he only_not | exact absurd he.1 (by simp))
    all_goals exact h
  | halt x w' => cases x <;> simp only [Oper.upon] at h ⊢ <;> first | exact h | exact absurd h.1 (by simp)
theorem wpAny_only {F : Act → World → Prop} {Q : Exit → Act → World → Prop} (hQ : ∀ a w, F a w → Q .normal a w) : ∀ (fuel : Nat) (listed : Array Bool) (a : Act) (w : World), wpAny P .any ops (Only F) fuel listed a w → wpAny P .any ops Q fuel listed a w
  | 0, _, _, _, h => ⟨h.1, hQ _ _ h.2.2⟩
  | fuel + 1, listed, a, w, h => ⟨fun h0 => hQ _ _ (h.1 h0).2, fun i hi => by
      have h1 := h.2 i hi
      unfold wpOp at *
      split
      · rename_i ho; simp only [ho] at h1; exact wpAny_only hQ fuel _ _ _ h1
      · rename_i o ho
        simp only [ho] at h1
        split
        · rename_i hw
          rw [if_pos hw] at h1
          rcases h1 with h1 | h1
          · exact .inl (Oper.wp_mono (fun a w h => wpAny_only hQ fuel _ a w h) (wp_only h1))
          · exact absurd h1.2 only_not
        · rename_i hw; rw [if_neg hw] at h1; exact wpAny_only hQ fuel _ _ _ h1⟩

/-- in this state the operation tells v in whatever world -/
def Pure (P : Program) (ops : Array Oper) (o : Oper) (v : Value) (a : Act) : Prop :=
  (Region.wanted o (yielded ops a.tmps) = true ∧ ∀ w', (execOp a.eval o).run P w' = .ok (.value v) w') ∨ (Region.wanted o (yielded ops a.tmps) = false ∧ v = undef)
theorem Pure.same {o : Oper} {v : Value} {a a' : Act} (h : Pure P ops o v a) (he : execOp a'.eval o = execOp a.eval o) (hw : Region.wanted o (yielded ops a'.tmps) = Region.wanted o (yielded ops a.tmps)) : Pure P ops o v a' := by
  unfold Pure at *
  rw [he, hw]
  exact h
theorem Pure.wpOp {i : Nat} {o : Oper} {v : Value} {a : Act} {w : World} {K : Act → World → Prop} {Q : Exit → Act → World → Prop} (hi : ops[i]? = some o) (h : Pure P ops o v a) (hK : K (a.put o.dst v) w) : wpOp P ops Q i K a w := by
  unfold Go.wpOp
  simp only [hi]
  rcases h with ⟨h1, h2⟩ | ⟨h1, rfl⟩
  · rw [if_pos h1]
    refine .inl ?_
    unfold Oper.wp
    rw [h2 w]
    exact hK
  · rw [if_neg (by simp [h1])]
    exact hK
/-- an operation apart from a late one: whether the late one has come up makes no difference -/
theorem wpOp_put {j : Nat} {oi oj : Oper} {v : Value} {F K : Act → World → Prop} {a : Act} {w : World} (hj : ops[j]? = some oj) (hap : oi.apart ops oj = true) (hsi : ∀ cs b, oi.op ≠ .select cs b) (hsj : ∀ cs b, oj.op ≠ .select cs b)
    (hy : Pure P ops oi v a) (h : wpOp P ops (Only F) j K (a.put oi.dst v) w) : wpOp P ops (Only F) j (fun a' w' => Pure P ops oi v a' ∧ K (a'.put oi.dst v) w') a w := by
  obtain ⟨h1, h2, h3⟩ := Oper.apart_spec hap
  have keep : ∀ (a : Act), Pure P ops oi v a → ∀ u, Pure P ops oi v (a.put oj.dst u) := fun a hy u => hy.same (execOp_put oi hsi a oj.dst u h3) (wanted_put oi a oj.dst u h3)
  have keepD : ∀ (a : Act) d, Pure P ops oi v a → Pure P ops oi v { a with defers := d } := fun a d hy => hy
  unfold wpOp at *
  simp only [hj] at *
  rw [wanted_put oj a oi.dst v h1] at h
  split
  · rename_i hw
    rw [if_pos hw] at h
    rcases h with h | h
    · refine .inl ?_
      unfold Oper.wp at *
      rw [execOp_put oj hsj a oi.dst v h1] at h
      generalize (execOp a.eval oj).run P w = r at *
      cases r with
      | ok n w' =>
        cases n <;> simp only [Oper.upon] at h ⊢
        case value u => exact ⟨keep a hy u, by rw [← Act.put_comm a v u h2]; exact h⟩
        case skip => exact ⟨keep a hy _, by rw [← Act.put_comm a v undef h2]; exact h⟩
        case defer d => exact ⟨keep _ (keepD a _ hy) _, by rw [← Act.put_comm _ v undef h2, ← Act.put_defers]; exact h⟩
        case enter f args =>
          exact Calls.mono h (fun e w'' he => by
            cases e <;> simp only at he ⊢
            case returned u => exact ⟨keep a hy u, by rw [← Act.put_comm a v u h2]; exact he⟩
            case panicked c => exact absurd he.1 (by simp)
            case outgrown => exact absurd he only_not)
        case row r args => exact Rows.mono h (fun u w'' he => ⟨keep a hy u, by rw [← Act.put_comm a v u h2]; exact he⟩)
        all_goals exact h
      | halt x w' => cases x <;> simp only [Oper.upon] at h ⊢ <;> first | exact h | exact absurd h.1 (by simp)
    · exact absurd h.2 only_not
  · rename_i hw
    rw [if_neg hw] at h
    exact ⟨keep a hy _, by rw [← Act.put_comm a v undef h2]; exact h⟩
/-- of what is left the least one, if it is such an operation, may come up at once -/
theorem wpAny_least {N i : Nat} {fl : List Bool} {oi : Oper} {v : Value} {F : Act → World → Prop} (hf : Fine ops N fl) (hi : ops[i]? = some oi) : ∀ (fuel : Nat) (listed : Array Bool), listed.size = ops.size → listed.getD i false = false → (∀ j, j < i → listed.getD j false = true) →
    ∀ (a : Act) (w : World), Pure P ops oi v a → wpAny P .any ops (Only F) fuel (listed.setIfInBounds i true) (a.put oi.dst v) w → wpAny P .any ops (Only F) (fuel + 1) listed a w
  | fuel, listed, hs, hun, hlo, a, w, hy, H => by
    have hil : i < listed.size := by rw [hs]; exact (Array.getElem?_eq_some_iff.1 hi).1
    have here : i ∈ Region.ready .any ops listed := mem_ready.2 ⟨(getD_in' hil true false).trans hun, oi, hi, fun e he hb => hlo _ (hf.lex i oi hi e he hb)⟩
    -- whatever else comes up now lies behind it and is apart from it
    have other : ∀ j, j ∈ Region.ready .any ops listed → j ≠ i → ∃ oj, ops[j]? = some oj ∧ oi.apart ops oj = true ∧ i < j := by
      intro j hj hne
      obtain ⟨h1, oj, hoj, h2⟩ := mem_ready.1 hj
      have hjl : j < listed.size := by rw [hs]; exact (Array.getElem?_eq_some_iff.1 hoj).1
      have hij : i < j := by
        rcases Nat.lt_trichotomy i j with h | h | h
        · exact h
        · exact absurd h.symm hne
        · have h3 := hlo j h
          rw [getD_in' hjl false true, h1] at h3
          cases h3
      refine ⟨oj, hoj, ?_, hij⟩
      rcases hf.free j i oj oi hoj hi hij with ⟨e, he, hb, hon⟩ | h
      · have h3 := h2 e he hb
        rw [hon, hun] at h3
        cases h3
      · exact h
    refine ⟨fun h0 => absurd here (by rw [h0]; simp), fun j hj => ?_⟩
    by_cases hne : j = i
    · rw [hne]; exact hy.wpOp hi H
    · obtain ⟨oj, hoj, hap, hij⟩ := other j hj hne
      have later := ready_mono hj hne
      cases fuel with
      | zero => rw [H.1] at later; cases later
      | succ fuel =>
        have put := wpOp_put hoj hap (Region.noSelect_spec hf.sel i oi · · hi) (Region.noSelect_spec hf.sel j oj · · hoj) hy (H.2 j later)
        refine wpOp_mono (fun a1 w1 ⟨hy1, H1⟩ => ?_) put
        refine wpAny_least hf hi fuel (listed.setIfInBounds j true) (by simpa using hs) (by rw [getD_set_ne false hne]; exact hun) (fun k hk => getD_set_true (hlo k hk)) a1 w1 hy1 ?_
        rw [Array.setIfInBounds_comm _ _ hne]
        exact H1
/-- while one that may not be late is left, nothing of the last part comes up -/
theorem tail_late {N : Nat} {fl : List Bool} {listed : Array Bool} (hf : Fine ops N fl) (hN : N < ops.size) (hd : Down ops listed) (hta : ∀ t, N ≤ t → t < ops.size → listed.getD t true = false) : ∀ (d i : Nat), N - i = d → i < N → fl.getD i false = false → listed.getD i false = false → ∀ t, N ≤ t → t ∉ Region.ready .any ops listed := by
  obtain ⟨hs, hc⟩ := hf.tail.resolve_left (by omega)
  intro d
  induction d using Nat.strongRecOn with
  | _ d ih =>
    intro i hdi hi hl hun t ht hr
    obtain ⟨_, ot, hot, hall⟩ := mem_ready.1 hr
    have htl := (Array.getElem?_eq_some_iff.1 hot).1
    by_cases htN : t = N
    · subst htN
      obtain ⟨j, hij, hjN, hj, hw⟩ := hs i hi hl
      obtain ⟨oj, hoj, e, he, hb, hon⟩ := Region.waitsFor_spec hw
      by_cases hjt : j = t
      · subst hjt
        have : oj = ot := Option.some.inj (hoj.symm.trans hot)
        subst this
        have h2 := hall e he hb
        rw [hon, hun] at h2
        cases h2
      · cases hl' : listed.getD j false with
        | true =>
          have h2 := hd.closed j oj hoj hl' e he hb
          rw [hon, hun] at h2
          cases h2
        | false => exact ih (t - j) (by omega) j rfl (by omega) (hj.resolve_left hjt) hl' t (Nat.le_refl _) hr
    · have h1 := List.all_eq_true.1 hc t (List.mem_range.2 htl)
      simp only [Bool.or_eq_true, decide_eq_true_eq] at h1
      rcases h1 with h1 | h1
      · omega
      · obtain ⟨o', ho', e, he, hb, hon⟩ := Region.waitsFor_spec h1
        have : o' = ot := Option.some.inj (ho'.symm.trans hot)
        subst this
        have h2 := hall e he hb
        have h3 := hta (t - 1) (by omega) (by omega)
        rw [hon, getD_in' (by rw [hd.size]; omega) false true, h3] at h2
        cases h2

/-- the obligations of the first N, each against what is known in the order of the text -/
theorem obls_of [Grow] {fin : List Slot → Prop} : ∀ (l : List (Oper × Bool)) (k : Nat) (Γ0 Γ : List Slot) (S0 : Nat → Slot), (∀ j, j < l.length → ops[k + j]? = (l[j]?).map (·.1)) → Γ.length = Γ0.length → (∀ t, Γ.getD t (.is undef) = cur ops S0 Γ0 (fun _ => true) k t) → wpT P ops w0 fin l Γ →
    ∃ S : Nat → Slot, (∀ j, j < k → S j = S0 j) ∧ (∀ j o, k ≤ j → j < k + l.length → ops[j]? = some o → (S j).Mono ∧ ∃ Γj : List Slot, (∀ t, Γj.getD t (.is undef) = cur ops S Γ0 (fun _ => true) j t) ∧ Obl P ops w0 o Γj (S j) ∧ (((l[j - k]?).map (·.2)) = some true → ∃ v, S j = .is v ∧ PObl P ops w0 o Γj v)) ∧
      ∃ Γf : List Slot, Γf.length = Γ0.length ∧ (∀ t, Γf.getD t (.is undef) = cur ops S Γ0 (fun _ => true) (k + l.length) t) ∧ fin Γf
  | [], k, Γ0, Γ, S0, _, hl, hc, h => ⟨S0, fun _ _ => rfl, fun j o h1 h2 => by simp at h2; omega, Γ, hl, by simpa using hc, h⟩
  | (o, b) :: l, k, Γ0, Γ, S0, hops, hl, hc, h => by
    obtain ⟨T, hm, hob, hpo, hr⟩ : ∃ T : Slot, T.Mono ∧ Obl P ops w0 o Γ T ∧ (b = true → ∃ v, T = .is v ∧ PObl P ops w0 o Γ v) ∧ wpT P ops w0 fin l (putS Γ o.dst T) := by
      cases b with
      | false => obtain ⟨T, h1, h2, h3⟩ := h; exact ⟨T, h1, h2, (fun h => by cases h), h3⟩
      | true => obtain ⟨v, h1, h2⟩ := h; exact ⟨.is v, Slot.mono_is v, h1.obl, fun _ => ⟨v, rfl, h1⟩, h2⟩
    have hok : ops[k]? = some o := by simpa using hops 0 (by simp)
    have hdk : dstOf ops k = o.dst := by unfold dstOf; rw [hok]; rfl
    have same : ∀ (S' : Nat → Slot) n t, (∀ j, j < n → S' j = S0 j) → cur ops S' Γ0 (fun _ => true) n t = cur ops S0 Γ0 (fun _ => true) n t := by
      intro S' n t
      induction n with
      | zero => intro _; rfl
      | succ n ih => intro hj; simp only [cur]; rw [ih fun j h => hj j (by omega), hj n (by omega)]
    let S1 : Nat → Slot := fun j => if j = k then T else S0 j
    have hS1 : ∀ j, j < k → S1 j = S0 j := fun j hj => if_neg (by omega)
    have hS1k : S1 k = T := if_pos rfl
    have hc1 : ∀ t, (putS Γ o.dst T).getD t (.is undef) = cur ops S1 Γ0 (fun _ => true) (k + 1) t := by
      intro t
      simp only [cur, hdk, hS1k, true_and]
      rw [same S1 k t hS1, ← hc t]
      cases hd : o.dst with
      | none => simp [putS]
      | some d =>
        simp only [putS, Option.some.injEq]
        by_cases htd : d = t
        · subst htd
          by_cases hlt : d < Γ0.length
          · rw [if_pos ⟨rfl, hlt⟩]; simp [List.getD_eq_getElem?_getD, hl, hlt]
          · rw [if_neg (fun h => hlt h.2)]; simp [List.getD_eq_getElem?_getD, hl, hlt]
        · rw [if_neg (fun h => htd h.1)]; simp [List.getD_eq_getElem?_getD, htd]
    have hlen : (putS Γ o.dst T).length = Γ0.length := by
      unfold putS
      cases o.dst with
      | none => exact hl
      | some d => simpa using hl
    obtain ⟨S, hS, hobs, Γf, hfl, hfc, hfin⟩ := obls_of l (k + 1) Γ0 _ S1 (fun j hj => by have := hops (j + 1) (by simp; omega); rw [← Nat.add_assoc, Nat.add_right_comm] at this; simpa using this) hlen hc1 hr
    refine ⟨S, fun j hj => (hS j (by omega)).trans (hS1 j hj), fun j oj h1 h2 hj => ?_, Γf, hfl, fun t => ?_, hfin⟩
    · by_cases hjk : j = k
      · subst hjk
        have e : S j = T := (hS j (by omega)).trans hS1k
        have : oj = o := Option.some.inj (hj.symm.trans hok)
        subst this
        rw [e]
        exact ⟨hm, Γ, fun t => (hc t).trans (same S j t fun i hi => (hS i (by omega)).trans (hS1 i hi)).symm, hob, fun hb => hpo (by simpa using hb)⟩
      · obtain ⟨m1, Γj, g1, o1, p1⟩ := hobs j oj (by omega) (by simp at h2; omega) hj
        refine ⟨m1, Γj, g1, o1, fun hb => p1 ?_⟩
        rw [show j - k = (j - (k + 1)) + 1 by omega, List.getElem?_cons_succ] at hb
        exact hb
    · rw [hfc t]
      congr 1
      simp
      omega

/-- **One walk of the order of the text serves every order.** -/
theorem wp_region_typed [Grow] {Q : Exit → Act → World → Prop} {id N : Nat} {fl : List Bool} {a : Act} {w : World} {l : List Oper} (hm : P.follows .mixedOrders = true) (hB : Region.typedB l.toArray N fl = true)
    (h : wpT P l.toArray w.drew (fun Γ => ∀ w', Grow.R w.drew w' → Fits Γ w' fun vs => wpList P l.toArray (Only (Q .normal)) (l.drop N) ⟨vs.toArray, a.defers⟩ w') (zipF (l.take N) fl) (a.tmps.toList.map Slot.is)) : (Code.region id l.toArray true).wp P Q a w := by
  refine wp_region_any hm (wpAny_only (F := Q .normal) (fun _ _ h => h) _ _ _ _ ?_)
  have hf := fine_of hB
  have hNl : N ≤ l.length := by simpa using hf.head
  obtain ⟨S, _, hobs, Γf, hfl, hfc, hfin⟩ := obls_of (ops := l.toArray) (zipF (l.take N) fl) 0 (a.tmps.toList.map Slot.is) _ (fun _ => .is undef) (fun j hj => by
    rw [zipF_length, List.length_take] at hj
    rw [zipF_at]
    simp [show j < N by omega, Function.comp_def]) rfl (fun t => rfl) h
  have hlt : (zipF (l.take N) fl).length = N := by rw [zipF_length, List.length_take]; omega
  rw [hlt, Nat.zero_add] at hobs hfc
  generalize hΓ : a.tmps.toList.map Slot.is = Γ0 at *
  have hΓl : Γ0.length = a.tmps.size := by rw [← hΓ]; simp
  clear h
  have main : ∀ (d fuel : Nat) (listed : Array Bool) (a' : Act) (w' : World), left listed N ≤ d → d + (l.length - N) ≤ fuel → Down l.toArray listed → (∀ j, N ≤ j → j < l.length → listed.getD j true = false) → a'.defers = a.defers → a'.tmps.size = a.tmps.size → Grow.R w.drew w' →
      (∀ t, (cur l.toArray S Γ0 (fun j => listed.getD j false) N t).holds (a'.tmps.getD t undef) w') → wpAny P .any l.toArray (Only (Q .normal)) fuel listed a' w' := by
    intro d
    induction d with
    | zero =>
      intro fuel listed a' w' hd hfu hdn hta hde hsz hk hty
      have hall := left_all N (Nat.le_zero.1 hd)
      refine wpAny_tail hf (l.length - N) N fuel listed a' w' (by simp) (Nat.le_refl _) (by simpa using hNl) (by omega) hdn.size hall (fun j h1 h2 => hta j h1 (by simpa using h2)) ?_
      have h1 := hfin w' hk
      have h2 := fits_use Γf a'.tmps.toList _ (by rw [hfl, hΓl, ← hsz]; simp) (fun t => by
        rw [hfc t]
        have := hty t
        rw [cur_congr (q := fun _ => true) N (fun j hj _ => hall j hj)] at this
        simpa [List.getD_eq_getElem?_getD] using this) h1
      have e : (⟨a'.tmps.toList.toArray, a.defers⟩ : Act) = a' := by rw [← hde]
      rw [e] at h2
      simpa using h2
    | succ d ih =>
      intro fuel listed a' w' hd hfu hdn hta hde hsz hk hty
      rcases Nat.lt_or_ge (left listed N) (d + 1) with hlt' | hge'
      · exact ih fuel listed a' w' (by omega) (by omega) hdn hta hde hsz hk hty
      obtain ⟨f, rfl⟩ : ∃ f, fuel = f + 1 := ⟨fuel - 1, by omega⟩
      have hls : listed.size = l.length := by simpa using hdn.size
      obtain ⟨j0, hj0, hun0⟩ := left_some N (show left listed N ≠ 0 by omega)
      obtain ⟨i0, hi0, hiu, hbel⟩ := least j0 hj0 hun0
      have hoi0 : l.toArray[i0]? = some l[i0] := by simp [show i0 < l.length by omega]
      have hr0 : i0 ∈ Region.ready .any l.toArray listed := mem_ready.2 ⟨by rw [getD_in' (by omega) true false]; exact hiu, _, hoi0, fun e he hb => hbel _ (hf.lex _ _ hoi0 e he hb)⟩
      have hstep : ∀ i, i < N → i ∈ Region.ready .any l.toArray listed → ∀ o, l.toArray[i]? = some o → ∃ Γi : List Slot, (∀ t, Γi.getD t (.is undef) = cur l.toArray S Γ0 (fun _ => true) i t) ∧ Obl P l.toArray w.drew o Γi (S i) ∧ (fl.getD i false = true → ∃ v, S i = .is v ∧ PObl P l.toArray w.drew o Γi v) ∧ Looks Γi (o.looksAt l.toArray) a'.eval w' ∧
          ∀ u w'', Grow.R w' w'' → (S i).holds u w'' → wpAny P .any l.toArray (Only (Q .normal)) f (listed.setIfInBounds i true) (a'.put o.dst u) w'' := by
        intro i hiN hi o ho
        have hil : i < l.length := by omega
        have hun := (mem_ready.1 hi).1
        obtain ⟨hmono, Γi, hΓi, hob, hpob⟩ := hobs i o (Nat.zero_le _) hiN ho
        have hunf : listed.getD i false = false := by rw [getD_in' (by omega) false true]; exact hun
        have hlooks : Looks Γi (o.looksAt l.toArray) a'.eval w' := by
          refine looks_of _ fun t ht => ?_
          have h1 := hty t
          rw [hΓi t]
          rwa [cur_at (i := i) hiN (fun j hj hdj => ?_) (fun j hj hjN hdj => ?_)] at h1
          · obtain ⟨oj, hoj⟩ : ∃ oj, l.toArray[j]? = some oj := ⟨l[j], by simp [show j < l.length by omega]⟩
            rcases (sides hf hdn hi ho hoj).1 hj with h2 | h2
            · exact absurd ht ((apart_spec' hoj ho h2).1 t hdj)
            · exact h2
          · by_cases hji : j = i
            · subst hji; exact hunf
            · obtain ⟨oj, hoj⟩ : ∃ oj, l.toArray[j]? = some oj := ⟨l[j], by simp [show j < l.length by omega]⟩
              rcases (sides hf hdn hi ho hoj).2 (by omega) with h2 | h2
              · exact absurd ht ((apart_spec' ho hoj h2).2.2 t hdj)
              · exact h2
        have hK : ∀ u w'', Grow.R w' w'' → (S i).holds u w'' → wpAny P .any l.toArray (Only (Q .normal)) f (listed.setIfInBounds i true) (a'.put o.dst u) w'' := by
          intro u w'' hkk hu
          have hdst : dstOf l.toArray i = o.dst := by unfold dstOf; rw [ho]; rfl
          have hleft : left (listed.setIfInBounds i true) N ≤ d := by have := left_set (listed := listed) (by omega) hunf N; rw [if_pos hiN] at this; omega
          have hmm : ∀ j, ∀ oj, l.toArray[j]? = some oj → j < N → (S j).Mono := fun j oj hoj hj => (hobs j oj (Nat.zero_le _) hj hoj).1
          have hcm : ∀ p n t, n ≤ N → (cur l.toArray S Γ0 p n t).Mono := by
            intro p n t
            induction n with
            | zero =>
              intro _
              simp only [cur]
              rw [← hΓ]
              rw [List.getD_eq_getElem?_getD, List.getElem?_map]
              cases a.tmps.toList[t]? with
              | none => exact Slot.mono_is _
              | some x => exact Slot.mono_is _
            | succ n ihn =>
              intro hn
              simp only [cur]
              split
              · exact hmm n l[n] (by simp [show n < l.length by omega]) (by omega)
              · exact ihn (by omega)
          have hdn' := hdn.set hi
          have hta' : ∀ j, N ≤ j → j < l.length → (listed.setIfInBounds i true).getD j true = false := fun j h1 h2 => by rw [getD_set_ne true (by omega)]; exact hta j h1 h2
          have hsz' : (a'.put o.dst u).tmps.size = a.tmps.size := by
            unfold Act.put
            cases o.dst <;> simp [hsz]
          have hde' : (a'.put o.dst u).defers = a.defers := by
            unfold Act.put
            cases o.dst <;> simp [hde]
          have hty' : ∀ t, (cur l.toArray S Γ0 (fun j => (listed.setIfInBounds i true).getD j false) N t).holds ((a'.put o.dst u).tmps.getD t undef) w'' := by
            intro t
            have hset : (listed.setIfInBounds i true).getD i false = true := by simp [hls, hil]
            by_cases hdt : o.dst = some t ∧ t < a.tmps.size
            · rw [cur_set (i := i) hiN (hdst.trans hdt.1) (by rw [hΓl]; exact hdt.2) hset (fun j hj hjN hdj => ?_)]
              · rw [show (a'.put o.dst u).tmps.getD t undef = u by simp [hdt.1, Act.put, hsz, hdt.2]]
                exact hu
              · rw [getD_set_ne false (by omega)]
                obtain ⟨oj, hoj⟩ : ∃ oj, l.toArray[j]? = some oj := ⟨l[j], by simp [show j < l.length by omega]⟩
                rcases (sides hf hdn hi ho hoj).2 hj with h2 | h2
                · exact absurd hdj ((apart_spec' ho hoj h2).2.1 t (hdst.trans hdt.1))
                · exact h2
            · have e1 : cur l.toArray S Γ0 (fun j => (listed.setIfInBounds i true).getD j false) N t = cur l.toArray S Γ0 (fun j => listed.getD j false) N t := by
                have : ∀ n, cur l.toArray S Γ0 (fun j => (listed.setIfInBounds i true).getD j false) n t = cur l.toArray S Γ0 (fun j => listed.getD j false) n t := by
                  intro n
                  induction n with
                  | zero => rfl
                  | succ n ihn =>
                    simp only [cur, ihn]
                    by_cases hin : i = n
                    · subst hin
                      rw [if_neg (fun h => hdt ⟨hdst.symm.trans h.2.1, by rw [← hΓl]; exact h.2.2⟩), if_neg (fun h => hdt ⟨hdst.symm.trans h.2.1, by rw [← hΓl]; exact h.2.2⟩)]
                    · rw [getD_set_ne false hin]
                exact this N
              have e2 : (a'.put o.dst u).tmps.getD t undef = a'.tmps.getD t undef := by
                unfold Act.put
                cases hd' : o.dst with
                | none => rfl
                | some x =>
                  by_cases hx : x = t
                  · subst hx
                    have : ¬ x < a'.tmps.size := fun h => hdt ⟨hd', by rw [← hsz]; exact h⟩
                    simp [this]
                  · simp [Array.getD_eq_getD_getElem?, Array.getElem?_setIfInBounds_ne hx]
              rw [e1, e2]
              exact hcm _ N t (Nat.le_refl _) _ _ _ hkk (hty t)
          exact ih f _ _ _ hleft (by omega) hdn' hta' hde' hsz' (Grow.trans hk hkk) hty'
        exact ⟨Γi, hΓi, hob, fun hfl => hpob (by
          rw [Nat.sub_zero, zipF_at]
          have h5 : (l.take N)[i]? = some l[i] := by simp [hiN]
          rw [h5, Option.map_some, Option.map_some, hfl]), hlooks, hK⟩
      by_cases hnl : ∃ i, i < N ∧ fl.getD i false = false ∧ listed.getD i false = false
      · obtain ⟨i1, hi1, hl1, hu1⟩ := hnl
        refine ⟨fun h0 => (by rw [h0] at hr0; cases hr0), fun i hi => ?_⟩
        obtain ⟨hun, o, ho, hall⟩ := mem_ready.1 hi
        have hil : i < l.length := by have := (Array.getElem?_eq_some_iff.1 ho).1; simpa using this
        have hiN : i < N := by
          rcases Nat.lt_or_ge i N with h1 | h1
          · exact h1
          · exact absurd hi (tail_late hf (by simp; omega) hdn (fun t h4 h5 => hta t h4 (by simpa using h5)) (N - i1) i1 rfl hi1 hl1 hu1 i h1)
        obtain ⟨Γi, _, hob, _, hlooks, hK⟩ := hstep i hiN hi o ho
        have hob' := hob a' w' hk hlooks
        unfold wpOp
        simp only [ho]
        by_cases hw : Region.wanted o (yielded l.toArray a'.tmps) = true
        · rw [if_pos hw] at hob' ⊢
          exact .inl (wp_of_upT hob' hK)
        · rw [if_neg hw] at hob' ⊢
          exact hK undef w' (Grow.refl _) hob'
      · have hlate : fl.getD i0 false = true := by
          cases h : fl.getD i0 false with
          | true => rfl
          | false => exact absurd ⟨i0, hi0, h, hiu⟩ hnl
        obtain ⟨Γi, _, _, hpo, hlooks, hK⟩ := hstep i0 hi0 hr0 _ hoi0
        obtain ⟨v, hS, hp⟩ := hpo hlate
        exact wpAny_least hf hoi0 f listed hdn.size hiu hbel a' w' (hp a' w' hk hlooks) (hK v w' (Grow.refl _) (by rw [hS]; rfl))
  refine main _ _ _ _ _ (Nat.le_refl _) ?_ ⟨by simp, fun j oj _ hl => by rw [getD_replicate_false] at hl; cases hl⟩ (fun j h1 h2 => by simp [h2]) rfl rfl (Grow.refl _) (fun t => ?_)
  · have := left_le (listed := Array.replicate l.toArray.size false) N
    simp at this ⊢
    omega
  · rw [cur_past (m := 0) N (Nat.zero_le _) fun j _ _ _ => getD_replicate_false _ _]
    simp only [cur]
    rw [← hΓ, List.getD_eq_getElem?_getD, List.getElem?_map]
    cases h5 : a.tmps.toList[t]? with
    | none =>
      have : a.tmps.size ≤ t := by simpa using List.getElem?_eq_none_iff.1 h5
      simp [Slot.holds, this]
    | some x =>
      have : a.tmps[t]? = some x := by simpa using h5
      simp [Slot.holds, Array.getD_eq_getD_getElem?, this]
end
end Go.Proofs.Ytifenlopgpbpbaa
