/- Whose a slot is: plain facts, no program. -/
import Derived.Lib.Hide
namespace Go.Proofs.Ytfobhofghjpjeaa

/-- two rising lists of the same members are one -/
theorem rise_one : ∀ {L M : List Int}, L.Pairwise (· < ·) → M.Pairwise (· < ·) → (∀ x, x ∈ L ↔ x ∈ M) → L = M
  | [], [], _, _, _ => rfl
  | [], y :: M, _, _, h => by have := (h y).2 (by simp); cases this
  | x :: L, [], _, _, h => by have := (h x).1 (by simp); cases this
  | x :: L, y :: M, h1, h2, h => by
    rw [List.pairwise_cons] at h1 h2
    have hxy : x = y := by
      rcases Int.lt_trichotomy x y with hlt | he | hlt
      · have := (h x).1 (by simp)
        rcases List.mem_cons.1 this with e | hm
        · exact e
        · have := h2.1 x hm; omega
      · exact he
      · have := (h y).2 (by simp)
        rcases List.mem_cons.1 this with e | hm
        · exact e.symm
        · have := h1.1 y hm; omega
    subst hxy
    rw [rise_one h1.2 h2.2 (fun z => by
      have hz := h z
      rw [List.mem_cons, List.mem_cons] at hz
      constructor
      · intro hm
        rcases hz.1 (.inr hm) with rfl | h'
        · exact absurd (h1.1 z hm) (by omega)
        · exact h'
      · intro hm
        rcases hz.2 (.inr hm) with rfl | h'
        · exact absurd (h2.1 z hm) (by omega)
        · exact h')]

/-- whose a slot is -/
def ownerI (s n : Int) : Int := if 0 ≤ s ∧ s ≤ 4095 ∧ 1 ≤ n ∧ n ≤ 64 then s % n else -1
theorem owner_in {s n : Int} (h1 : 0 ≤ s) (h2 : s ≤ 4095) (h3 : 1 ≤ n) (h4 : n ≤ 64) : ownerI s n = s % n := if_pos ⟨h1, h2, h3, h4⟩
theorem owner_out {s n : Int} (h : ¬ (0 ≤ s ∧ s ≤ 4095 ∧ 1 ≤ n ∧ n ≤ 64)) : ownerI s n = -1 := if_neg h
theorem owner_range {s n : Int} (h : 0 ≤ ownerI s n) : 0 ≤ s ∧ s ≤ 4095 ∧ 1 ≤ n ∧ n ≤ 64 ∧ ownerI s n < n ∧ ownerI s n = s % n := by
  by_cases hc : 0 ≤ s ∧ s ≤ 4095 ∧ 1 ≤ n ∧ n ≤ 64
  · obtain ⟨h1, h2, h3, h4⟩ := hc
    rw [owner_in h1 h2 h3 h4]
    exact ⟨h1, h2, h3, h4, Int.emod_lt_of_pos s (by omega), rfl⟩
  · rw [owner_out hc] at h; omega
/-- the slots below k of a site, not below lo, below hi -/
def ownTo (site lo hi n : Int) (k : Nat) : List Int := ((List.range k).map fun j : Nat => (j : Int)).filter fun s => decide (lo ≤ s ∧ s < hi ∧ 0 ≤ site ∧ ownerI s n = site)
theorem ownTo_zero (site lo hi n : Int) : ownTo site lo hi n 0 = [] := rfl
theorem ownTo_succ (site lo hi n : Int) (k : Nat) : ownTo site lo hi n (k + 1) = ownTo site lo hi n k ++ if lo ≤ (k : Int) ∧ (k : Int) < hi ∧ 0 ≤ site ∧ ownerI k n = site then [(k : Int)] else [] := by
  unfold ownTo
  rw [List.range_succ, List.map_append, List.filter_append, List.map_cons, List.map_nil, List.filter_cons, List.filter_nil]
  simp only [decide_eq_true_eq]
theorem ownTo_mem {site lo hi n : Int} {k : Nat} {x : Int} : x ∈ ownTo site lo hi n k ↔ 0 ≤ x ∧ x < k ∧ lo ≤ x ∧ x < hi ∧ 0 ≤ site ∧ ownerI x n = site := by
  unfold ownTo
  rw [List.mem_filter, List.mem_map]
  simp only [decide_eq_true_eq, List.mem_range]
  constructor
  · rintro ⟨⟨j, hj, rfl⟩, h⟩; exact ⟨by omega, by omega, h⟩
  · rintro ⟨h1, h2, h⟩; exact ⟨⟨x.toNat, by omega, by omega⟩, h⟩
theorem ownTo_rise (site lo hi n : Int) (k : Nat) : (ownTo site lo hi n k).Pairwise (· < ·) := by
  induction k with
  | zero => exact List.Pairwise.nil
  | succ k ih =>
    rw [ownTo_succ, List.pairwise_append]
    refine ⟨ih, by split <;> simp, fun x hx y hy => ?_⟩
    have := (ownTo_mem.1 hx).2.1
    split at hy
    · obtain rfl := List.mem_singleton.1 hy; exact this
    · cases hy
theorem ownTo_len (site lo hi n : Int) (k : Nat) : (ownTo site lo hi n k).length ≤ k := by
  have := List.length_filter_le (fun s => decide (lo ≤ s ∧ s < hi ∧ 0 ≤ site ∧ ownerI s n = site)) ((List.range k).map fun j : Nat => (j : Int))
  unfold ownTo
  simpa using this
/-- all of them -/
def ownL (site lo hi n : Int) : List Int := ownTo site lo hi n 4096
theorem ownL_mem {site lo hi n x : Int} : x ∈ ownL site lo hi n ↔ lo ≤ x ∧ x < hi ∧ 0 ≤ site ∧ ownerI x n = site := by
  unfold ownL
  rw [ownTo_mem]
  constructor
  · rintro ⟨_, _, h⟩; exact h
  · rintro ⟨h1, h2, h3, h4⟩
    have := owner_range (s := x) (n := n) (by omega)
    exact ⟨this.1, by omega, h1, h2, h3, h4⟩
theorem ownL_rise (site lo hi n : Int) : (ownL site lo hi n).Pairwise (· < ·) := ownTo_rise _ _ _ _ _
theorem ownL_len (site lo hi n : Int) : (ownL site lo hi n).length ≤ 4096 := ownTo_len _ _ _ _ _
/-- the first one -/
def nextI (site lo n : Int) : Int := (ownL site lo 4096 n).headD (-1)
theorem next_cases (site lo n : Int) : (nextI site lo n = -1 ∧ ∀ x, ¬ (lo ≤ x ∧ 0 ≤ site ∧ ownerI x n = site)) ∨
    (lo ≤ nextI site lo n ∧ 0 ≤ site ∧ ownerI (nextI site lo n) n = site ∧ ∀ x, lo ≤ x → ownerI x n = site → nextI site lo n ≤ x) := by
  unfold nextI
  have hr := ownL_rise site lo 4096 n
  have hm : ∀ x, x ∈ ownL site lo 4096 n ↔ lo ≤ x ∧ 0 ≤ site ∧ ownerI x n = site := fun x => by
    rw [ownL_mem]
    constructor
    · rintro ⟨h1, _, h3, h4⟩; exact ⟨h1, h3, h4⟩
    · rintro ⟨h1, h3, h4⟩
      have := owner_range (s := x) (n := n) (by omega)
      exact ⟨h1, by omega, h3, h4⟩
  cases hL : ownL site lo 4096 n with
  | nil =>
    rw [hL] at hm
    exact .inl ⟨rfl, fun x h => by have := (hm x).2 h; cases this⟩
  | cons y M =>
    rw [hL] at hm hr
    have hy := (hm y).1 (by simp)
    refine .inr ⟨hy.1, hy.2.1, hy.2.2, fun x h1 h2 => ?_⟩
    rcases List.mem_cons.1 ((hm x).2 ⟨h1, hy.2.1, h2⟩) with rfl | h
    · exact Int.le_refl _
    · exact Int.le_of_lt ((List.pairwise_cons.1 hr).1 x h)
theorem next_is {site lo n x : Int} (h1 : lo ≤ x) (h2 : 0 ≤ site) (h3 : ownerI x n = site) (h4 : ∀ y, lo ≤ y → ownerI y n = site → x ≤ y) : nextI site lo n = x := by
  rcases next_cases site lo n with ⟨_, h⟩ | ⟨h5, _, h6, h7⟩
  · exact absurd ⟨h1, h2, h3⟩ (h x)
  · have a := h7 x h1 h3
    have b := h4 _ h5 h6
    omega

/-- what is owned up to a slot, and from there on -/
theorem own_join {site lo k hi n : Int} (h1 : lo ≤ k) (h2 : k ≤ hi) : ownL site lo k n ++ ownL site k hi n = ownL site lo hi n := by
  refine rise_one ?_ (ownL_rise _ _ _ _) (fun x => ?_)
  · rw [List.pairwise_append]
    refine ⟨ownL_rise _ _ _ _, ownL_rise _ _ _ _, fun x hx y hy => ?_⟩
    have := (ownL_mem.1 hx).2.1
    have := (ownL_mem.1 hy).1
    omega
  · rw [List.mem_append, ownL_mem, ownL_mem, ownL_mem]
    constructor
    · rintro (⟨a, b, c⟩ | ⟨a, b, c⟩)
      · exact ⟨a, by omega, c⟩
      · exact ⟨by omega, b, c⟩
    · rintro ⟨a, b, c⟩
      by_cases hx : x < k
      · exact .inl ⟨a, hx, c⟩
      · exact .inr ⟨by omega, b, c⟩
theorem own_none {site lo hi n : Int} (h : hi ≤ lo) : ownL site lo hi n = [] := by
  cases hL : ownL site lo hi n with
  | nil => rfl
  | cons y M =>
    have : y ∈ ownL site lo hi n := by rw [hL]; simp
    have := ownL_mem.1 this
    omega
/-- the first one of those that are owned is the next one -/
theorem own_head {site lo hi n y : Int} {M : List Int} (h : ownL site lo hi n = y :: M) : nextI site lo n = y ∧ y < hi := by
  have hy : y ∈ ownL site lo hi n := by rw [h]; simp
  have hm := ownL_mem.1 hy
  have hr := ownL_rise site lo hi n
  rw [h] at hr
  refine ⟨next_is hm.1 hm.2.2.1 hm.2.2.2 (fun z h1 h2 => ?_), hm.2.1⟩
  rcases Int.lt_or_le z hi with hz | hz
  · have : z ∈ ownL site lo hi n := ownL_mem.2 ⟨h1, hz, hm.2.2.1, h2⟩
    rw [h] at this
    rcases List.mem_cons.1 this with rfl | h'
    · exact Int.le_refl _
    · exact Int.le_of_lt ((List.pairwise_cons.1 hr).1 z h')
  · have := hm.2.1; omega
/-- of n sites' slots, those of one lie n apart -/
theorem own_apart {s n lo : Int} (h1 : 1 ≤ n) (h2 : n ≤ 64) (h3 : 0 ≤ s) (h4 : s < n) (h5 : 0 ≤ lo) (h6 : lo ≤ 4095) :
    (nextI s lo n < 0 → 4096 < lo + n) ∧ (0 ≤ nextI s lo n → lo ≤ nextI s lo n ∧ nextI s lo n < lo + n ∧ ownerI (nextI s lo n) n = s ∧
      (nextI s (nextI s lo n + 1) n = nextI s lo n + n ∨ nextI s (nextI s lo n + 1) n = -1 ∧ 4095 < nextI s lo n + n) ∧ ownL s (nextI s lo n + 1) (nextI s lo n + n) n = []) := by
  -- the slot of s that is not below lo, and below lo + n
  obtain ⟨x, hx1, hx2, hx3⟩ : ∃ x, lo ≤ x ∧ x < lo + n ∧ x % n = s := by
    refine ⟨lo + (s - lo) % n, ?_, ?_, ?_⟩
    · have := Int.emod_nonneg (s - lo) (show n ≠ 0 by omega); omega
    · have := Int.emod_lt_of_pos (s - lo) (show 0 < n by omega); omega
    · rw [Int.add_emod, Int.emod_emod_of_dvd _ (Int.dvd_refl n), ← Int.add_emod, show lo + (s - lo) = s by omega]
      exact Int.emod_eq_of_lt h3 h4
  have near : ∀ y z : Int, y % n = s → z % n = s → y < z → z < y + n → False := fun y z hy hz hlt hlt2 => by
    have hd : (z - y) % n = 0 := by rw [Int.sub_emod, hy, hz]; simp
    have := Int.emod_eq_of_lt (show 0 ≤ z - y by omega) (show z - y < n by omega)
    omega
  constructor
  · intro hneg
    rcases next_cases s lo n with ⟨_, h⟩ | ⟨h, _⟩
    · have := h x
      rcases Int.lt_or_le x 4096 with hl | hl
      · exact absurd ⟨hx1, h3, by rw [owner_in (by omega) (by omega) h1 h2]; exact hx3⟩ this
      · omega
    · omega
  · intro hpos
    rcases next_cases s lo n with ⟨h, _⟩ | ⟨e1, _, e3, e4⟩
    · omega
    · generalize nextI s lo n = a at *
      have ha := owner_range (s := a) (n := n) (by omega)
      have ham : a % n = s := by rw [← ha.2.2.2.2.2]; exact e3
      have hax : a ≤ x ∨ 4095 < x := by
        rcases Int.lt_or_le x 4096 with hl | hl
        · exact .inl (e4 x hx1 (by rw [owner_in (by omega) (by omega) h1 h2]; exact hx3))
        · exact .inr (by omega)
      have hempty : ∀ y, a + 1 ≤ y → y < a + n → ownerI y n = s → False := fun y g1 g2 g3 => by
        have hy := owner_range (s := y) (n := n) (by omega)
        exact near a y ham (by rw [← hy.2.2.2.2.2]; exact g3) (by omega) (by omega)
      refine ⟨e1, by omega, e3, ?_, ?_⟩
      · rcases Int.lt_or_le (a + n) 4096 with hl | hl
        · left
          refine next_is (by omega) h3 ?_ (fun y g1 g2 => ?_)
          · rw [owner_in (by omega) (by omega) h1 h2, Int.add_emod_right]; exact ham
          · rcases Int.lt_or_le y (a + n) with h | h
            · exact (hempty y g1 h g2).elim
            · exact h
        · right
          refine ⟨?_, by omega⟩
          rcases next_cases s (a + 1) n with ⟨h, _⟩ | ⟨g1, _, g3, _⟩
          · exact h
          · have hg := owner_range (s := nextI s (a + 1) n) (n := n) (by omega)
            exact (hempty _ g1 (by omega) g3).elim
      · cases hL : ownL s (a + 1) (a + n) n with
        | nil => rfl
        | cons y M =>
          have hy : y ∈ ownL s (a + 1) (a + n) n := by rw [hL]; simp
          have := ownL_mem.1 hy
          exact (hempty y this.1 this.2.1 this.2.2.2).elim
theorem next_self {i n : Int} (h1 : 1 ≤ n) (h2 : n ≤ 64) (h3 : 0 ≤ i) (h4 : i ≤ 4095) : nextI (ownerI i n) i n = i := by
  have : 0 ≤ ownerI i n := by rw [owner_in h3 h4 h1 h2]; exact Int.emod_nonneg _ (by omega)
  exact next_is (Int.le_refl _) this rfl (fun y h _ => h)
/-- how many slots the sites below m have between a and b -/
def sumOwn (a b n : Int) : Nat → Int
  | 0 => 0
  | m + 1 => sumOwn a b n m + ((ownL (m : Int) a b n).length : Int)
/-- whose slots are below m -/
def belowM (a b n : Int) (m : Nat) (k : Nat) : List Int := ((List.range k).map fun j : Nat => (j : Int)).filter fun s => decide (a ≤ s ∧ s < b ∧ 0 ≤ ownerI s n ∧ ownerI s n < m)
theorem sum_below (a b n : Int) : ∀ m : Nat, sumOwn a b n m = ((belowM a b n m 4096).length : Int)
  | 0 => by
    have : belowM a b n 0 4096 = [] := by
      unfold belowM
      rw [List.filter_eq_nil_iff]
      intro x _
      simp only [decide_eq_true_eq]
      omega
    rw [this]; rfl
  | m + 1 => by
    rw [sumOwn, sum_below a b n m]
    unfold belowM ownL ownTo
    have key : ∀ L : List Int, ((L.filter fun s => decide (a ≤ s ∧ s < b ∧ 0 ≤ ownerI s n ∧ ownerI s n < (m : Nat))).length : Int) + ((L.filter fun s => decide (a ≤ s ∧ s < b ∧ 0 ≤ (m : Int) ∧ ownerI s n = (m : Int))).length : Int) =
        ((L.filter fun s => decide (a ≤ s ∧ s < b ∧ 0 ≤ ownerI s n ∧ ownerI s n < ((m + 1 : Nat) : Int))).length : Int) := by
      intro L
      induction L with
      | nil => rfl
      | cons x L ih =>
        rw [List.filter_cons, List.filter_cons, List.filter_cons]
        simp only [decide_eq_true_eq]
        by_cases hx : a ≤ x ∧ x < b
        · by_cases h1 : 0 ≤ ownerI x n ∧ ownerI x n < m
          · rw [if_pos ⟨hx.1, hx.2, h1⟩, if_neg (by omega), if_pos (by omega)]
            simp only [List.length_cons]; omega
          · by_cases h2 : ownerI x n = m
            · rw [if_neg (by omega), if_pos (by omega), if_pos (by omega)]
              simp only [List.length_cons]; omega
            · rw [if_neg (by omega), if_neg (by omega), if_neg (by omega)]
              exact ih
        · rw [if_neg (by omega), if_neg (by omega), if_neg (by omega)]
          exact ih
    exact key _
/-- all sites' slots together are all -/
theorem sum_all {a b n : Int} (h1 : 1 ≤ n) (h2 : n ≤ 64) (h3 : 0 ≤ a) (h4 : a ≤ b) (h5 : b ≤ 4096) : sumOwn a b n n.toNat = b - a := by
  rw [sum_below]
  have e : belowM a b n n.toNat 4096 = ((List.range 4096).map fun j : Nat => (j : Int)).filter fun s => decide (a ≤ s ∧ s < b) := by
    unfold belowM
    apply List.filter_congr
    intro x hx
    obtain ⟨j, hj, rfl⟩ := List.mem_map.1 hx
    have hj' := List.mem_range.1 hj
    rw [owner_in (by omega) (by omega) h1 h2]
    have g1 := Int.emod_nonneg (j : Int) (show n ≠ 0 by omega)
    have g2 := Int.emod_lt_of_pos (j : Int) (show 0 < n by omega)
    rw [decide_eq_decide]
    constructor
    · rintro ⟨x1, x2, _⟩; exact ⟨x1, x2⟩
    · rintro ⟨x1, x2⟩; exact ⟨x1, x2, g1, by omega⟩
  rw [e]
  have key : ∀ k : Nat, ((((List.range k).map fun j : Nat => (j : Int)).filter fun s => decide (a ≤ s ∧ s < b)).length : Int) = max 0 (min (k : Int) b - a) := by
    intro k
    induction k with
    | zero => simp; omega
    | succ k ih =>
      rw [List.range_succ, List.map_append, List.filter_append, List.length_append, List.map_cons, List.map_nil, List.filter_cons, List.filter_nil]
      simp only [decide_eq_true_eq]
      by_cases hx : a ≤ (k : Int) ∧ (k : Int) < b
      · rw [if_pos hx]
        simp only [List.length_cons, List.length_nil]
        omega
      · rw [if_neg hx]
        simp only [List.length_nil]
        omega
  rw [key]
  omega
end Go.Proofs.Ytfobhofghjpjeaa
