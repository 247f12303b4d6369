/- One acceptor of a slot: plain facts. -/
import Derived.Test.YtifenlopgpbpbaaBalB
namespace Go.Proofs.Ytifenlopgpbpbaa

/-- an acceptor -/
structure Ac where
  pr : Int
  ps : Int
  so : Bool
  ar : Int
  as_ : Int
  val : List Nat
def prepA (x : Ac) (r t : Int) : Option Ac := if r < 1 ∨ cmpB r t x.pr x.ps < 0 then none else some ⟨r, t, x.so, x.ar, x.as_, x.val⟩
def acceA (x : Ac) (r t : Int) (v : List Nat) : Option Ac := if cmpB r t x.pr x.ps < 0 then none else some ⟨r, t, true, r, t, v⟩
def Ac.zero : Ac := ⟨0, 0, false, 0, 0, []⟩
/-- an answer: the state behind it, and whether it did something -/
def told (x : Ac) (o : Option Ac) : Ac := o.getD x
/-- what comes: a ballot, and, maybe, a value -/
structure Ak where
  r : Int
  s : Int
  puts : Bool
  val : List Nat
def ansA (x : Ac) (a : Ak) : Option Ac := if a.puts = true then acceA x a.r a.s a.val else prepA x a.r a.s
/-- the state behind all that came -/
def runA (x : Ac) (l : List Ak) : Ac := l.foldl (fun x a => told x (ansA x a)) x
theorem runA_snoc (x : Ac) (l : List Ak) (a : Ak) : runA x (l ++ [a]) = told (runA x l) (ansA (runA x l) a) := by unfold runA; rw [List.foldl_append]; rfl

/-- what was accepted is at no ballot above the promise -/
def Ac.fit (x : Ac) : Prop := x.so = true → cmpB x.ar x.as_ x.pr x.ps ≤ 0
theorem ans_none {x : Ac} {a : Ak} (h : ansA x a = none) : told x (ansA x a) = x := by rw [h]; rfl
/-- what an answer is, if it is one -/
theorem ans_some {x y : Ac} {a : Ak} (h : ansA x a = some y) : 0 ≤ cmpB a.r a.s x.pr x.ps ∧ y.pr = a.r ∧ y.ps = a.s ∧ (a.puts = true ∧ y = ⟨a.r, a.s, true, a.r, a.s, a.val⟩ ∨ a.puts = false ∧ 1 ≤ a.r ∧ y = ⟨a.r, a.s, x.so, x.ar, x.as_, x.val⟩) := by
  unfold ansA at h
  split at h
  · rename_i hp
    unfold acceA at h
    split at h
    · cases h
    · cases h
      exact ⟨by omega, rfl, rfl, .inl ⟨hp, rfl⟩⟩
  · rename_i hp
    unfold prepA at h
    split at h
    · cases h
    · cases h
      exact ⟨by omega, rfl, rfl, .inr ⟨by simpa using hp, by omega, rfl⟩⟩
theorem ans_not {x : Ac} {a : Ak} (h : ansA x a = none) : cmpB a.r a.s x.pr x.ps < 0 ∨ a.puts = false ∧ a.r < 1 := by
  unfold ansA at h
  split at h
  · unfold acceA at h
    split at h
    · left; assumption
    · cases h
  · rename_i hp
    unfold prepA at h
    split at h
    · rename_i hc
      rcases hc with hc | hc
      · exact .inr ⟨by simpa using hp, hc⟩
      · exact .inl hc
    · cases h
theorem cmp_self (r s : Int) : cmpB r s r s = 0 := (cmp_zero _ _ _ _).2 ⟨rfl, rfl⟩
/-- what is promised never gets less, and so on -/
theorem ans_rises {x y : Ac} {a : Ak} (hf : x.fit) (h : ansA x a = some y) : 0 ≤ cmpB y.pr y.ps x.pr x.ps ∧ (x.so = true → y.so = true) ∧ y.fit ∧ (x.so = true → 0 ≤ cmpB y.ar y.as_ x.ar x.as_) := by
  obtain ⟨h0, h1, h2, ⟨hp, rfl⟩ | ⟨hp, hr, rfl⟩⟩ := ans_some h
  · refine ⟨h0, fun _ => rfl, fun _ => by rw [cmp_self]; omega, fun hs => ?_⟩
    have g1 := hf hs
    have g2 := (cmp_trans x.ar x.as_ x.pr x.ps a.r a.s).1 g1 (by rw [cmp_back]; omega)
    rw [cmp_back]
    simp only
    omega
  · refine ⟨h0, fun h => h, fun hs => ?_, fun hs => by rw [cmp_self]; omega⟩
    exact (cmp_trans x.ar x.as_ x.pr x.ps a.r a.s).1 (hf hs) (by rw [cmp_back]; omega)
theorem told_fit {x : Ac} (a : Ak) (hf : x.fit) : (told x (ansA x a)).fit := by
  cases h : ansA x a with
  | none => exact hf
  | some y => exact (ans_rises hf h).2.2.1
/-- once more: the same -/
theorem ans_twice (x : Ac) (a : Ak) : ((ansA (told x (ansA x a)) a).isSome = (ansA x a).isSome) ∧ told (told x (ansA x a)) (ansA (told x (ansA x a)) a) = told x (ansA x a) := by
  cases h : ansA x a with
  | none =>
    show (ansA x a).isSome = _ ∧ told x (ansA x a) = x
    rw [h]
    exact ⟨rfl, rfl⟩
  | some y =>
    show (ansA y a).isSome = true ∧ told y (ansA y a) = y
    obtain ⟨h0, h1, h2, ⟨hp, rfl⟩ | ⟨hp, hr, rfl⟩⟩ := ans_some h
    · have : ansA ⟨a.r, a.s, true, a.r, a.s, a.val⟩ a = some ⟨a.r, a.s, true, a.r, a.s, a.val⟩ := by
        unfold ansA acceA
        rw [if_pos hp, if_neg]
        show ¬ cmpB a.r a.s a.r a.s < 0
        rw [cmp_self]; omega
      rw [this]
      exact ⟨rfl, rfl⟩
    · have : ansA ⟨a.r, a.s, x.so, x.ar, x.as_, x.val⟩ a = some ⟨a.r, a.s, x.so, x.ar, x.as_, x.val⟩ := by
        unfold ansA prepA
        rw [if_neg (by simp [hp]), if_neg]
        show ¬ (a.r < 1 ∨ cmpB a.r a.s a.r a.s < 0)
        rw [cmp_self]; omega
      rw [this]
      exact ⟨rfl, rfl⟩
/-- the promise is at or above a ballot, whatever comes -/
theorem told_above {x : Ac} (a : Ak) {r s : Int} (h : cmpB r s x.pr x.ps ≤ 0) : cmpB r s (told x (ansA x a)).pr (told x (ansA x a)).ps ≤ 0 := by
  cases hy : ansA x a with
  | none => exact h
  | some y =>
    show cmpB r s y.pr y.ps ≤ 0
    obtain ⟨h0, h1, h2, -⟩ := ans_some hy
    rw [h1, h2]
    exact (cmp_trans _ _ _ _ _ _).1 h (by rw [cmp_back]; omega)
theorem low_none {x : Ac} {r s lr ls : Int} (h : cmpB r s x.pr x.ps ≤ 0) (hl : cmpB lr ls r s < 0) (v : List Nat) : acceA x lr ls v = none ∧ prepA x lr ls = none := by
  have : cmpB lr ls x.pr x.ps < 0 := by
    have h1 := cmp_range lr ls x.pr x.ps
    have h2 := cmp_range lr ls r s
    rcases Int.lt_or_le (cmpB lr ls x.pr x.ps) 0 with h3 | h3
    · exact h3
    · have h4 := (cmp_trans x.pr x.ps lr ls r s).1 (by rw [cmp_back]; omega) (by omega)
      have h5 := cmp_back r s x.pr x.ps
      have h6 : cmpB r s x.pr x.ps = 0 := by omega
      obtain ⟨rfl, rfl⟩ := (cmp_zero _ _ _ _).1 h6
      omega
  exact ⟨if_pos this, if_pos (.inr this)⟩
/-- whether a state may be -/
def mayA (x : Ac) (n : Int) : Bool := mayB x.pr x.ps n && (if x.so = true then mayB x.ar x.as_ n && decide (cmpB x.ar x.as_ x.pr x.ps ≤ 0) && decide (x.val.length ≤ 2048) else decide (x.ar = 0 ∧ x.as_ = 0) && decide (x.val.length = 0))
theorem may_told {x : Ac} {a : Ak} {n : Int} (h : mayA x n = true) (hb : mayB a.r a.s n = true) (hl : a.val.length ≤ 2048) : mayA (told x (ansA x a)) n = true := by
  cases hy : ansA x a with
  | none => exact h
  | some y =>
    show mayA y n = true
    obtain ⟨h0, h1, h2, ⟨hp, rfl⟩ | ⟨hp, hr, rfl⟩⟩ := ans_some hy
    · unfold mayA
      simp [hb, hl, cmp_self]
    · unfold mayA at h ⊢
      simp only [Bool.and_eq_true] at h ⊢
      refine ⟨hb, ?_⟩
      have h2 := h.2
      split
      · rename_i hs
        rw [if_pos hs] at h2
        simp only [Bool.and_eq_true, decide_eq_true_eq] at h2 ⊢
        exact ⟨⟨h2.1.1, (cmp_trans _ _ _ _ _ _).1 h2.1.2 (by rw [cmp_back]; omega)⟩, h2.2⟩
      · rename_i hs
        rw [if_neg hs] at h2
        exact h2
theorem may_zero {n : Int} (h : 1 ≤ n) : mayA Ac.zero n = true := by
  unfold mayA mayB Ac.zero
  simp
  omega
/-- whether two are the same -/
def sameA (x y : Ac) : Bool := decide (x.pr = y.pr ∧ x.ps = y.ps) && decide (x.so = y.so) && decide (x.ar = y.ar ∧ x.as_ = y.as_) && decide (x.val = y.val)
theorem same_self (x : Ac) : sameA x x = true := by simp [sameA]
/-- as the numbers of a state are -/
def Ac.wf (x : Ac) : Prop := (-9223372036854775808 ≤ x.pr ∧ x.pr ≤ 9223372036854775807) ∧ (-9223372036854775808 ≤ x.ps ∧ x.ps ≤ 9223372036854775807) ∧ (-9223372036854775808 ≤ x.ar ∧ x.ar ≤ 9223372036854775807) ∧ (-9223372036854775808 ≤ x.as_ ∧ x.as_ ≤ 9223372036854775807)
end Go.Proofs.Ytifenlopgpbpbaa
