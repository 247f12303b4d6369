/- One slot's acceptors and proposers, whatever comes: plain facts (only one value is decided). -/
import Derived.Test.YtifenlopgpbpbaaBalM
import Derived.Test.YtifenlopgpbpbaaAccM
namespace Go.Proofs.Ytifenlopgpbpbaa

/-- a promise, as its proposer has it -/
structure Pm where
  who : Int
  so : Bool
  ar : Int
  as_ : Int
  val : List Nat
/-- a vote -/
structure Vt where
  who : Int
  r : Int
  s : Int
/-- a ballot that was begun -/
structure Rd where
  r : Int
  s : Int
  pm : List Pm
  has : Bool
  val : List Nat
  vs : List Vt
/-- a slot's world -/
structure Sl where
  n : Int
  all : List Ac
  rds : List Rd
/-- what comes -/
structure Evt where
  kind : Int
  p : Int
  k : Int
  a : Int
  lost : Bool

def bestStep (n : Int) (b : Option Pm) (p : Pm) : Option Pm :=
  if (p.so && isSiteB p.who n && (match b with | none => true | some q => decide (0 < cmpB p.ar p.as_ q.ar q.as_))) = true then some p else b
def bestP (n : Int) (l : List Pm) : Option Pm := l.foldl (bestStep n) none
def chooseP (l : List Pm) (n : Int) : Option (List Nat) := if mostB n (l.map Pm.who) = true then some (match bestP n l with | none => [] | some p => p.val) else none
def decidedV (vs : List Vt) (r s n : Int) : Bool := mostB n ((vs.filter fun v => decide (v.r = r ∧ v.s = s)).map Vt.who)
def leastI (n many : Int) : Int := (if n < 0 then -(n + 1) else n) % many
theorem least_range {n many : Int} (h : 1 ≤ many) : 0 ≤ leastI n many ∧ leastI n many < many :=
  ⟨Int.emod_nonneg _ (by omega), Int.emod_lt_of_pos _ (by omega)⟩

theorem cmp_round {r s r' s' : Int} (h : cmpB r s r' s' ≤ 0) : r ≤ r' := by
  unfold cmpB at h
  split at h
  · omega
  · split at h <;> omega
theorem best_from (n : Int) : ∀ (l : List Pm) (b q : Pm) (o : Option Pm), o = some b → l.foldl (bestStep n) o = some q → (q = b ∨ q ∈ l ∧ q.so = true ∧ isSiteB q.who n = true) ∧ cmpB b.ar b.as_ q.ar q.as_ ≤ 0 ∧ ∀ p ∈ l, p.so = true → isSiteB p.who n = true → cmpB p.ar p.as_ q.ar q.as_ ≤ 0
  | [], b, q, o, ho, h => by
    rw [List.foldl_nil, ho] at h
    injection h with h
    subst h
    exact ⟨.inl rfl, by rw [(cmp_zero _ _ _ _).2 ⟨rfl, rfl⟩]; omega, fun p hp => by cases hp⟩
  | p :: l, b, q, o, ho, h => by
    rw [List.foldl_cons] at h
    by_cases hc : p.so = true ∧ isSiteB p.who n = true ∧ 0 < cmpB p.ar p.as_ b.ar b.as_
    · have e : bestStep n o p = some p := by unfold bestStep; rw [ho]; simp [hc.1, hc.2.1, hc.2.2]
      obtain ⟨h1, h2, h3⟩ := best_from n l p q _ e h
      have hb : cmpB b.ar b.as_ p.ar p.as_ ≤ 0 := by have := cmp_back p.ar p.as_ b.ar b.as_; omega
      refine ⟨?_, (cmp_trans _ _ _ _ _ _).1 hb h2, fun x hx g1 g2 => ?_⟩
      · rcases h1 with rfl | ⟨h1, h4⟩
        · exact .inr ⟨by simp, hc.1, hc.2.1⟩
        · exact .inr ⟨List.mem_cons_of_mem _ h1, h4⟩
      · rcases List.mem_cons.1 hx with rfl | hx
        · exact h2
        · exact h3 x hx g1 g2
    · have e : bestStep n o p = some b := by
        unfold bestStep; rw [ho, if_neg]
        simp only [Bool.and_eq_true, decide_eq_true_eq]
        rintro ⟨⟨g1, g2⟩, g3⟩
        exact hc ⟨g1, g2, g3⟩
      obtain ⟨h1, h2, h3⟩ := best_from n l b q _ e h
      refine ⟨?_, h2, fun x hx g1 g2 => ?_⟩
      · rcases h1 with rfl | ⟨h1, h4⟩
        · exact .inl rfl
        · exact .inr ⟨List.mem_cons_of_mem _ h1, h4⟩
      · rcases List.mem_cons.1 hx with rfl | hx
        · have : cmpB x.ar x.as_ b.ar b.as_ ≤ 0 := by
            have := cmp_range x.ar x.as_ b.ar b.as_
            rcases Int.lt_or_le 0 (cmpB x.ar x.as_ b.ar b.as_) with h | h
            · exact absurd ⟨g1, g2, h⟩ hc
            · exact h
          exact (cmp_trans _ _ _ _ _ _).1 this h2
        · exact h3 x hx g1 g2
theorem best_has (n : Int) : ∀ (l : List Pm) (b : Pm) (o : Option Pm), o = some b → ∃ q, l.foldl (bestStep n) o = some q
  | [], b, o, ho => ⟨b, ho⟩
  | p :: l, b, o, ho => by
    rw [List.foldl_cons]
    have : ∃ c, bestStep n o p = some c := by
      subst ho
      by_cases hc : (p.so && isSiteB p.who n && decide (0 < cmpB p.ar p.as_ b.ar b.as_)) = true
      · exact ⟨p, if_pos hc⟩
      · exact ⟨b, if_neg hc⟩
    obtain ⟨c, hc⟩ := this
    exact best_has n l c _ hc
/-- the greatest one, if there is any -/
theorem best_is (n : Int) : ∀ (l : List Pm), (bestP n l = none ∧ ∀ p ∈ l, ¬ (p.so = true ∧ isSiteB p.who n = true)) ∨ ∃ q, bestP n l = some q ∧ q ∈ l ∧ q.so = true ∧ isSiteB q.who n = true ∧ ∀ p ∈ l, p.so = true → isSiteB p.who n = true → cmpB p.ar p.as_ q.ar q.as_ ≤ 0
  | [] => .inl ⟨rfl, fun p hp => by cases hp⟩
  | p :: l => by
    unfold bestP
    rw [List.foldl_cons]
    by_cases hc : p.so = true ∧ isSiteB p.who n = true
    · have e : bestStep n none p = some p := by unfold bestStep; simp [hc.1, hc.2]
      obtain ⟨q, hq⟩ := best_has n l p _ e
      obtain ⟨h1, h2, h3⟩ := best_from n l p q _ e hq
      refine .inr ⟨q, hq, ?_⟩
      have hq2 : q ∈ p :: l ∧ q.so = true ∧ isSiteB q.who n = true := by
        rcases h1 with rfl | ⟨h1, h4⟩
        · exact ⟨by simp, hc⟩
        · exact ⟨List.mem_cons_of_mem _ h1, h4⟩
      refine ⟨hq2.1, hq2.2.1, hq2.2.2, fun x hx g1 g2 => ?_⟩
      rcases List.mem_cons.1 hx with rfl | hx
      · exact h2
      · exact h3 x hx g1 g2
    · have e : bestStep n none p = none := by
        unfold bestStep; rw [if_neg]
        simp only [Bool.and_eq_true, and_true]
        exact hc
      rw [e]
      rcases best_is n l with ⟨h1, h2⟩ | ⟨q, h1, h2, h3⟩
      · exact .inl ⟨h1, fun x hx => by rcases List.mem_cons.1 hx with rfl | hx; exact hc; exact h2 x hx⟩
      · refine .inr ⟨q, h1, List.mem_cons_of_mem _ h2, h3.1, h3.2.1, fun x hx g1 g2 => ?_⟩
        rcases List.mem_cons.1 hx with rfl | hx
        · exact absurd ⟨g1, g2⟩ hc
        · exact h3.2.2 x hx g1 g2

/-- an event -/
def playS (s : Sl) (e : Evt) : Sl :=
  match s.rds[(leastI e.k s.rds.length).toNat]?, s.all[(leastI e.a s.n).toNat]? with
  | some x, some ac =>
    if e.kind = 0 then { s with rds := s.rds ++ [⟨(s.rds.length : Int), leastI e.p s.n, [], false, [], []⟩] }
    else if e.kind = 1 then
      match prepA ac x.r x.s with
      | none => s
      | some t => { s with all := s.all.set (leastI e.a s.n).toNat t, rds := if e.lost = true then s.rds else s.rds.set (leastI e.k s.rds.length).toNat { x with pm := x.pm ++ [⟨leastI e.a s.n, ac.so, ac.ar, ac.as_, ac.val⟩] } }
    else if e.kind = 2 then
      match chooseP x.pm s.n with
      | none => s
      | some v => if x.has = true then s else { s with rds := s.rds.set (leastI e.k s.rds.length).toNat { x with has := true, val := v } }
    else if x.has = true then
      match acceA ac x.r x.s x.val with
      | none => s
      | some t => { s with all := s.all.set (leastI e.a s.n).toNat t, rds := s.rds.set (leastI e.k s.rds.length).toNat { x with vs := x.vs ++ [⟨leastI e.a s.n, x.r, x.s⟩] } }
    else s
  | _, _ => s

/-- what always holds -/
structure Inv (v0 : List Nat) (s : Sl) : Prop where
  n1 : 1 ≤ s.n ∧ s.n ≤ 7
  alen : s.all.length = 7
  rnd : ∀ (i : Nat) (x : Rd), s.rds[i]? = some x → x.r = i ∧ 0 ≤ x.s
  first : ∃ x : Rd, s.rds[0]? = some x ∧ x.has = true ∧ x.val = v0
  prom : ∀ (a : Nat) (ac : Ac), s.all[a]? = some ac → 0 ≤ ac.pr ∧ ((ac.pr = 0 ∧ ac.ps = 0) ∨ ∃ (i : Nat) (x : Rd), s.rds[i]? = some x ∧ ac.pr = i ∧ ac.ps = x.s)
  acc : ∀ (a : Nat) (ac : Ac), s.all[a]? = some ac → ac.so = true → ∃ (j : Nat) (x : Rd), s.rds[j]? = some x ∧ ac.ar = j ∧ ac.as_ = x.s ∧ x.has = true ∧ ac.val = x.val ∧ ac.ar ≤ ac.pr
  vote : ∀ (j : Nat) (x : Rd), s.rds[j]? = some x → ∀ v ∈ x.vs, v.r = x.r ∧ v.s = x.s ∧ x.has = true ∧ ∃ (a : Nat) (ac : Ac), s.all[a]? = some ac ∧ v.who = a ∧ ac.so = true ∧ (j : Int) ≤ ac.ar
  pms : ∀ (i : Nat) (x : Rd), s.rds[i]? = some x → ∀ p ∈ x.pm, ∃ (a : Nat) (ac : Ac), s.all[a]? = some ac ∧ p.who = a ∧ (a : Int) < s.n ∧ (i : Int) ≤ ac.pr ∧
    (∀ (j : Nat) (y : Rd), s.rds[j]? = some y → j < i → (∃ v ∈ y.vs, v.who = a) → p.so = true ∧ (j : Int) ≤ p.ar) ∧
    (p.so = true → ∃ (j : Nat) (y : Rd), s.rds[j]? = some y ∧ p.ar = j ∧ p.as_ = y.s ∧ y.has = true ∧ p.val = y.val)
  early : ∀ (i : Nat) (x : Rd), s.rds[i]? = some x → x.has = false → ∀ p ∈ x.pm, p.so = true → p.ar < i
  chosen : ∀ (i : Nat) (x : Rd), s.rds[i]? = some x → 0 < i → x.has = true → ∃ C : List Pm, (∀ p ∈ C, p ∈ x.pm ∧ (p.so = true → p.ar < i)) ∧ chooseP C s.n = some x.val

/-- a ballot that was decided binds all that chose behind it -/
theorem Inv.binds {v0 : List Nat} {s : Sl} (I : Inv v0 s) {j : Nat} {y : Rd} (hj : s.rds[j]? = some y) (hd : mostB s.n (y.vs.map Vt.who) = true) : ∀ (i : Nat) (x : Rd), s.rds[i]? = some x → j < i → x.has = true → x.val = y.val := by
  intro i
  induction i using Nat.strongRecOn with
  | _ i ih =>
    intro x hx hji hh
    obtain ⟨C, hC, hch⟩ := I.chosen i x hx (by omega) hh
    unfold chooseP at hch
    split at hch
    · rename_i hm
      obtain ⟨w, hw1, hw2, hw3, hw4⟩ := most_meet hm hd
      obtain ⟨p, hp, rfl⟩ := List.mem_map.1 hw1
      obtain ⟨v, hv, hvw⟩ := List.mem_map.1 hw2
      obtain ⟨a, ac, ha, hpa, han, hpr, hpv, hps⟩ := I.pms i x hx p (hC p hp).1
      obtain ⟨hso, hja⟩ := hpv j y hj hji ⟨v, hv, hvw.trans hpa⟩
      have hsite : isSiteB p.who s.n = true := decide_eq_true ⟨hw3, hw4⟩
      rcases best_is s.n C with ⟨_, hno⟩ | ⟨q, hq1, hq2, hq3, hq4, hq5⟩
      · exact absurd ⟨hso, hsite⟩ (hno p hp)
      · rw [hq1] at hch
        simp only [Option.some.injEq] at hch
        have hle := cmp_round (hq5 p hp hso hsite)
        obtain ⟨a', ac', _, _, _, _, _, hqs⟩ := I.pms i x hx q (hC q hq2).1
        obtain ⟨m, z, hz, hqm, _, hzh, hqv⟩ := hqs hq3
        have hmi : q.ar < i := (hC q hq2).2 hq3
        rw [← hch, hqv]
        by_cases hmj : m = j
        · subst hmj
          rw [hz] at hj
          injection hj with hj
          rw [hj]
        · exact ih m (by omega) z hz (by omega) hzh
    · cases hch
/-- what was chosen is the owner's, or nothing -/
theorem Inv.owners {v0 : List Nat} {s : Sl} (I : Inv v0 s) : ∀ (i : Nat) (x : Rd), s.rds[i]? = some x → x.has = true → x.val = v0 ∨ x.val = [] := by
  intro i
  induction i using Nat.strongRecOn with
  | _ i ih =>
    intro x hx hh
    by_cases h0 : i = 0
    · subst h0
      obtain ⟨y, hy, _, hv⟩ := I.first
      rw [hx] at hy
      injection hy with hy
      subst hy
      exact .inl hv
    · obtain ⟨C, hC, hch⟩ := I.chosen i x hx (by omega) hh
      unfold chooseP at hch
      split at hch
      · rcases best_is s.n C with ⟨hb, _⟩ | ⟨q, hq1, hq2, hq3, _, _⟩
        · rw [hb] at hch
          simp only [Option.some.injEq] at hch
          exact .inr hch.symm
        · rw [hq1] at hch
          simp only [Option.some.injEq] at hch
          obtain ⟨_, _, _, _, _, _, _, hqs⟩ := I.pms i x hx q (hC q hq2).1
          obtain ⟨m, z, hz, hqm, _, hzh, hqv⟩ := hqs hq3
          have hmi : q.ar < i := (hC q hq2).2 hq3
          rw [← hch, hqv]
          exact ih m (by omega) z hz hzh
      · cases hch
/-- votes of a ballot are all its own -/
theorem Inv.decided {v0 : List Nat} {s : Sl} (I : Inv v0 s) {j : Nat} {y : Rd} (hj : s.rds[j]? = some y) : decidedV y.vs y.r y.s s.n = mostB s.n (y.vs.map Vt.who) := by
  unfold decidedV
  rw [List.filter_eq_self.2]
  intro v hv
  have := I.vote j y hj v hv
  exact decide_eq_true ⟨this.1, this.2.1⟩
theorem Inv.voted {v0 : List Nat} {s : Sl} (I : Inv v0 s) {j : Nat} {y : Rd} (hj : s.rds[j]? = some y) (hd : mostB s.n (y.vs.map Vt.who) = true) : y.has = true := by
  cases hv : y.vs with
  | nil =>
    rw [hv] at hd
    obtain ⟨h1, h2⟩ := of_decide_eq_true hd
    have : majorI s.n = s.n / 2 + 1 := if_neg (by omega)
    simp [uq] at h2
    omega
  | cons v l => exact (I.vote j y hj v (by rw [hv]; simp)).2.2.1
/-- all ballots that are decided have one value -/
theorem Inv.one {v0 : List Nat} {s : Sl} (I : Inv v0 s) {i j : Nat} {x y : Rd} (hi : s.rds[i]? = some x) (hj : s.rds[j]? = some y) (h1 : decidedV x.vs x.r x.s s.n = true) (h2 : decidedV y.vs y.r y.s s.n = true) : x.val = y.val ∧ (x.val = v0 ∨ x.val = []) := by
  rw [I.decided hi] at h1
  rw [I.decided hj] at h2
  refine ⟨?_, I.owners i x hi (I.voted hi h1)⟩
  rcases Nat.lt_trichotomy i j with h | h | h
  · exact (I.binds hi h1 j y hj h (I.voted hj h2)).symm
  · subst h
    rw [hi] at hj
    injection hj with hj
    rw [hj]
  · exact I.binds hj h2 i x hi h (I.voted hi h1)
end Go.Proofs.Ytifenlopgpbpbaa
