/- One slot's acceptors and proposers: what always holds is kept by whatever comes. -/
import Derived.Test.YtifenlopgpbpbaaPrpM
namespace Go.Proofs.Ytifenlopgpbpbaa

section
variable {α : Type}
theorem snoc_get {l : List α} {y x : α} {i : Nat} (h : (l ++ [y])[i]? = some x) : l[i]? = some x ∨ (i = l.length ∧ x = y) := by
  rcases Nat.lt_or_ge i l.length with hi | hi
  · rw [List.getElem?_append_left hi] at h; exact .inl h
  · rw [List.getElem?_append_right hi] at h
    cases hk : i - l.length with
    | zero => rw [hk] at h; simp at h; exact .inr ⟨by omega, h.symm⟩
    | succ k => rw [hk] at h; simp at h
theorem snoc_fwd {l : List α} {y x : α} {i : Nat} (h : l[i]? = some x) : (l ++ [y])[i]? = some x := by
  have hi : i < l.length := (List.getElem?_eq_some_iff.1 h).1
  rw [List.getElem?_append_left hi]; exact h
theorem get_lt {l : List α} {x : α} {i : Nat} (h : l[i]? = some x) : i < l.length := (List.getElem?_eq_some_iff.1 h).1
theorem get_one {l : List α} {x y : α} {i : Nat} (h : l[i]? = some x) (k : l[i]? = some y) : x = y := by rw [h] at k; injection k
theorem set_get {l : List α} {y x : α} {k i : Nat} (h : (l.set k y)[i]? = some x) : (i = k ∧ x = y) ∨ (i ≠ k ∧ l[i]? = some x) := by
  by_cases hik : i = k
  · subst hik
    have hi := get_lt h
    rw [List.length_set] at hi
    rw [List.getElem?_set_self hi] at h
    injection h with h
    exact .inl ⟨rfl, h.symm⟩
  · rw [List.getElem?_set_ne (fun e => hik e.symm)] at h
    exact .inr ⟨hik, h⟩
theorem set_at {l : List α} {y : α} {k : Nat} (h : k < l.length) : (l.set k y)[k]? = some y := List.getElem?_set_self h
theorem set_off {l : List α} {y x : α} {k i : Nat} (h : l[i]? = some x) (hik : i ≠ k) : (l.set k y)[i]? = some x := by
  rw [List.getElem?_set_ne (fun e => hik e.symm)]; exact h
theorem set_same {l : List α} {x : α} {k : Nat} (h : l[k]? = some x) : l.set k x = l := by
  apply List.ext_getElem?
  intro i
  by_cases hik : i = k
  · subst hik; rw [set_at (get_lt h), h]
  · rw [List.getElem?_set_ne (fun e => hik e.symm)]
end

theorem cmp_ge {r s r' s' : Int} (h : ¬ cmpB r s r' s' < 0) : r' ≤ r := by
  have := cmp_back r s r' s'
  exact cmp_round (r := r') (s := s') (r' := r) (s' := s) (by omega)

theorem Inv.begun {n owner : Int} {v0 : List Nat} (h1 : 1 ≤ n) (h2 : n ≤ 7) (h3 : 0 ≤ owner) : Inv v0 ⟨n, List.replicate 7 ⟨0, 0, false, 0, 0, []⟩, [⟨0, owner, [], true, v0, []⟩]⟩ where
  n1 := ⟨h1, h2⟩
  alen := by simp
  rnd := fun i x h => by
    match i, h with
    | 0, h => simp at h; subst h; exact ⟨rfl, h3⟩
    | i + 1, h => simp at h
  first := ⟨_, rfl, rfl, rfl⟩
  prom := fun a ac h => by
    obtain ⟨hl, rfl⟩ := List.getElem?_eq_some_iff.1 h
    rw [List.getElem_replicate]
    exact ⟨by simp, .inl ⟨rfl, rfl⟩⟩
  acc := fun a ac h hs => by
    obtain ⟨hl, rfl⟩ := List.getElem?_eq_some_iff.1 h
    rw [List.getElem_replicate] at hs
    cases hs
  vote := fun j x h v hv => by
    match j, h with
    | 0, h => simp at h; subst h; cases hv
    | j + 1, h => simp at h
  pms := fun i x h p hp => by
    match i, h with
    | 0, h => simp at h; subst h; cases hp
    | i + 1, h => simp at h
  early := fun i x h _ p hp => by
    match i, h with
    | 0, h => simp at h; subst h; cases hp
    | i + 1, h => simp at h
  chosen := fun i x h hi => by
    match i, h with
    | 0, h => omega
    | i + 1, h => simp at h

/-- a ballot is begun -/
theorem Inv.begin {v0 : List Nat} {s : Sl} (I : Inv v0 s) {t : Int} (ht : 0 ≤ t) : Inv v0 { s with rds := s.rds ++ [⟨(s.rds.length : Int), t, [], false, [], []⟩] } where
  n1 := I.n1
  alen := I.alen
  rnd := fun i x h => by
    rcases snoc_get h with h | ⟨rfl, rfl⟩
    · exact I.rnd i x h
    · exact ⟨rfl, ht⟩
  first := by obtain ⟨x, h, h2⟩ := I.first; exact ⟨x, snoc_fwd h, h2⟩
  prom := fun a ac h => by
    obtain ⟨h0, h1 | ⟨i, x, h1, h2⟩⟩ := I.prom a ac h
    · exact ⟨h0, .inl h1⟩
    · exact ⟨h0, .inr ⟨i, x, snoc_fwd h1, h2⟩⟩
  acc := fun a ac h hs => by
    obtain ⟨j, x, h1, h2⟩ := I.acc a ac h hs
    exact ⟨j, x, snoc_fwd h1, h2⟩
  vote := fun j x h v hv => by
    rcases snoc_get h with h | ⟨rfl, rfl⟩
    · exact I.vote j x h v hv
    · cases hv
  pms := fun i x h p hp => by
    rcases snoc_get h with h | ⟨rfl, rfl⟩
    · obtain ⟨a, ac, h1, h2, h3, h4, h5, h6⟩ := I.pms i x h p hp
      refine ⟨a, ac, h1, h2, h3, h4, fun j y hj hji hv => ?_, fun hs => ?_⟩
      · rcases snoc_get hj with hj | ⟨rfl, rfl⟩
        · exact h5 j y hj hji hv
        · have := get_lt h; omega
      · obtain ⟨j, y, g1, g2⟩ := h6 hs
        exact ⟨j, y, snoc_fwd g1, g2⟩
    · cases hp
  early := fun i x h hh p hp => by
    rcases snoc_get h with h | ⟨rfl, rfl⟩
    · exact I.early i x h hh p hp
    · cases hp
  chosen := fun i x h hi hh => by
    rcases snoc_get h with h | ⟨rfl, rfl⟩
    · exact I.chosen i x h hi hh
    · cases hh

/-- a promise is made; its proposer has it, or not -/
theorem Inv.promise {v0 : List Nat} {s : Sl} (I : Inv v0 s) {k a : Nat} {x : Rd} {ac : Ac} {pm : List Pm} (hx : s.rds[k]? = some x) (hac : s.all[a]? = some ac) (han : (a : Int) < s.n) (hge : ac.pr ≤ x.r)
    (hpm : ∀ p ∈ pm, p ∈ x.pm ∨ p = ⟨(a : Int), ac.so, ac.ar, ac.as_, ac.val⟩) (hin : ∀ p ∈ x.pm, p ∈ pm) : Inv v0 { s with all := s.all.set a ⟨x.r, x.s, ac.so, ac.ar, ac.as_, ac.val⟩, rds := s.rds.set k { x with pm := pm } } := by
  have hk := get_lt hx
  have ha := get_lt hac
  have hxr := I.rnd k x hx
  -- a ballot behind, of one ahead
  have fwd : ∀ (j : Nat) (y : Rd), s.rds[j]? = some y → ∃ z, (s.rds.set k { x with pm := pm })[j]? = some z ∧ z.r = y.r ∧ z.s = y.s ∧ z.has = y.has ∧ z.val = y.val ∧ z.vs = y.vs := fun j y hj => by
    by_cases hjk : j = k
    · subst hjk
      obtain rfl := get_one hx hj
      exact ⟨_, set_at hk, rfl, rfl, rfl, rfl, rfl⟩
    · exact ⟨y, set_off hj hjk, rfl, rfl, rfl, rfl, rfl⟩
  have bwd : ∀ (j : Nat) (z : Rd), (s.rds.set k { x with pm := pm })[j]? = some z → ∃ y, s.rds[j]? = some y ∧ z.r = y.r ∧ z.s = y.s ∧ z.has = y.has ∧ z.val = y.val ∧ z.vs = y.vs ∧ ((j = k ∧ z.pm = pm ∧ y = x) ∨ (j ≠ k ∧ z.pm = y.pm)) := fun j z hj => by
    rcases set_get hj with ⟨rfl, rfl⟩ | ⟨hjk, h⟩
    · exact ⟨x, hx, rfl, rfl, rfl, rfl, rfl, .inl ⟨rfl, rfl, rfl⟩⟩
    · exact ⟨z, h, rfl, rfl, rfl, rfl, rfl, .inr ⟨hjk, rfl⟩⟩
  have afwd : ∀ (b : Nat) (c : Ac), s.all[b]? = some c → ∃ d, (s.all.set a ⟨x.r, x.s, ac.so, ac.ar, ac.as_, ac.val⟩)[b]? = some d ∧ d.so = c.so ∧ d.ar = c.ar ∧ c.pr ≤ d.pr := fun b c hb => by
    by_cases hba : b = a
    · subst hba
      obtain rfl := get_one hac hb
      exact ⟨_, set_at ha, rfl, rfl, hge⟩
    · exact ⟨c, set_off hb hba, rfl, rfl, Int.le_refl _⟩
  have said : ∀ (so : Bool) (ar as_ : Int) (val : List Nat), (so = true → ∃ (j : Nat) (y : Rd), s.rds[j]? = some y ∧ ar = j ∧ as_ = y.s ∧ y.has = true ∧ val = y.val) → so = true → ∃ (j : Nat) (y : Rd), (s.rds.set k { x with pm := pm })[j]? = some y ∧ ar = j ∧ as_ = y.s ∧ y.has = true ∧ val = y.val := fun so ar as_ val h hs => by
    obtain ⟨j, y, g1, g2, g3, g4, g5⟩ := h hs
    obtain ⟨z, f1, f2, f3, f4, f5, f6⟩ := fwd j y g1
    exact ⟨j, z, f1, g2, by rw [f3]; exact g3, by rw [f4]; exact g4, by rw [f5]; exact g5⟩
  refine { n1 := I.n1, alen := by simp only [List.length_set]; exact I.alen, rnd := ?_, first := ?_, prom := ?_, acc := ?_, vote := ?_, pms := ?_, early := ?_, chosen := ?_ }
  · intro i z h
    obtain ⟨y, h1, h2, h3, _⟩ := bwd i z h
    rw [h2, h3]
    exact I.rnd i y h1
  · obtain ⟨y, h1, h2, h3⟩ := I.first
    obtain ⟨z, f1, f2, f3, f4, f5, _⟩ := fwd 0 y h1
    exact ⟨z, f1, by rw [f4]; exact h2, by rw [f5]; exact h3⟩
  · intro b c h
    rcases set_get h with ⟨rfl, rfl⟩ | ⟨hba, h⟩
    · obtain ⟨z, f1, f2, f3, _⟩ := fwd k x hx
      exact ⟨by simp only; omega, .inr ⟨k, z, f1, hxr.1, f3.symm⟩⟩
    · obtain ⟨h0, h1 | ⟨i, y, h1, h2, h3⟩⟩ := I.prom b c h
      · exact ⟨h0, .inl h1⟩
      · obtain ⟨z, f1, f2, f3, _⟩ := fwd i y h1
        exact ⟨h0, .inr ⟨i, z, f1, h2, by rw [f3]; exact h3⟩⟩
  · intro b c h hs
    rcases set_get h with ⟨rfl, rfl⟩ | ⟨hba, h⟩
    · obtain ⟨j, y, g1, g2, g3, g4, g5, g6⟩ := I.acc b ac hac hs
      obtain ⟨z, f1, f2, f3, f4, f5, _⟩ := fwd j y g1
      exact ⟨j, z, f1, g2, by rw [f3]; exact g3, by rw [f4]; exact g4, by rw [f5]; exact g5, by simp only; omega⟩
    · obtain ⟨j, y, g1, g2, g3, g4, g5, g6⟩ := I.acc b c h hs
      obtain ⟨z, f1, f2, f3, f4, f5, _⟩ := fwd j y g1
      exact ⟨j, z, f1, g2, by rw [f3]; exact g3, by rw [f4]; exact g4, by rw [f5]; exact g5, g6⟩
  · intro j z h v hv
    obtain ⟨y, h1, h2, h3, h4, h5, h6, _⟩ := bwd j z h
    rw [h6] at hv
    obtain ⟨g1, g2, g3, b, c, g4, g5, g6, g7⟩ := I.vote j y h1 v hv
    obtain ⟨d, f1, f2, f3, _⟩ := afwd b c g4
    exact ⟨by rw [h2]; exact g1, by rw [h3]; exact g2, by rw [h4]; exact g3, b, d, f1, g5, by rw [f2]; exact g6, by rw [f3]; exact g7⟩
  · intro i z h p hp
    obtain ⟨y, h1, h2, h3, h4, h5, h6, h7⟩ := bwd i z h
    -- what was told of a promise that was there
    have old : p ∈ y.pm → ∃ (b : Nat) (c : Ac), (s.all.set a ⟨x.r, x.s, ac.so, ac.ar, ac.as_, ac.val⟩)[b]? = some c ∧ p.who = b ∧ (b : Int) < s.n ∧ (i : Int) ≤ c.pr ∧
        (∀ (j : Nat) (u : Rd), (s.rds.set k { x with pm := pm })[j]? = some u → j < i → (∃ v ∈ u.vs, v.who = b) → p.so = true ∧ (j : Int) ≤ p.ar) ∧
        (p.so = true → ∃ (j : Nat) (u : Rd), (s.rds.set k { x with pm := pm })[j]? = some u ∧ p.ar = j ∧ p.as_ = u.s ∧ u.has = true ∧ p.val = u.val) := fun hpy => by
      obtain ⟨b, c, g1, g2, g3, g4, g5, g6⟩ := I.pms i y h1 p hpy
      obtain ⟨d, f1, _, _, f4⟩ := afwd b c g1
      refine ⟨b, d, f1, g2, g3, by omega, fun j u hj hji hv => ?_, said _ _ _ _ g6⟩
      obtain ⟨u', e1, _, _, _, _, e6, _⟩ := bwd j u hj
      rw [e6] at hv
      exact g5 j u' e1 hji hv
    rcases h7 with ⟨rfl, hz, rfl⟩ | ⟨hik, hz⟩
    · rw [hz] at hp
      rcases hpm p hp with hp | rfl
      · exact old hp
      · refine ⟨a, _, set_at ha, rfl, han, by simp only; omega, fun j u hj hji hv => ?_, said _ _ _ _ (fun hs => by
          obtain ⟨j, y', g1, g2, g3, g4, g5, _⟩ := I.acc a ac hac hs
          exact ⟨j, y', g1, g2, g3, g4, g5⟩)⟩
        obtain ⟨u', e1, _, _, _, _, e6, _⟩ := bwd j u hj
        rw [e6] at hv
        obtain ⟨v, hv1, hv2⟩ := hv
        obtain ⟨_, _, _, b, c, g4, g5, g6, g7⟩ := I.vote j u' e1 v hv1
        have hba : b = a := by omega
        subst hba
        obtain rfl := get_one hac g4
        exact ⟨g6, g7⟩
    · rw [hz] at hp
      exact old hp
  · intro i z h hh p hp hs
    obtain ⟨y, h1, h2, h3, h4, h5, h6, h7⟩ := bwd i z h
    rw [h4] at hh
    rcases h7 with ⟨rfl, hz, rfl⟩ | ⟨hik, hz⟩
    · rw [hz] at hp
      rcases hpm p hp with hp | rfl
      · exact I.early i y h1 hh p hp hs
      · obtain ⟨j, y', g1, g2, g3, g4, g5, g6⟩ := I.acc a ac hac hs
        simp only at *
        rcases Int.lt_or_le ac.ar i with hl | hl
        · exact hl
        · have : j = i := by omega
          subst this
          obtain rfl := get_one hx g1
          rw [hh] at g4
          cases g4
    · rw [hz] at hp
      exact I.early i y h1 hh p hp hs
  · intro i z h hi hh
    obtain ⟨y, h1, h2, h3, h4, h5, h6, h7⟩ := bwd i z h
    rw [h4] at hh
    obtain ⟨C, c1, c2⟩ := I.chosen i y h1 hi hh
    refine ⟨C, fun p hp => ⟨?_, (c1 p hp).2⟩, by rw [h5]; exact c2⟩
    rcases h7 with ⟨rfl, hz, rfl⟩ | ⟨hik, hz⟩
    · rw [hz]; exact hin p (c1 p hp).1
    · rw [hz]; exact (c1 p hp).1
end Go.Proofs.Ytifenlopgpbpbaa
