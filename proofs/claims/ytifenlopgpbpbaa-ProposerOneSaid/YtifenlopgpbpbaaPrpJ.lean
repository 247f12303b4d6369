/- One slot's acceptors and proposers: values that are chosen, votes; whatever comes, one value is decided. -/
import Derived.Test.YtifenlopgpbpbaaPrpI
namespace Go.Proofs.Ytifenlopgpbpbaa

/-- a value is chosen -/
theorem Inv.choose {v0 : List Nat} {s : Sl} (I : Inv v0 s) {k : Nat} {x : Rd} {v : List Nat} (hx : s.rds[k]? = some x) (hno : x.has = false) (hc : chooseP x.pm s.n = some v) : Inv v0 { s with rds := s.rds.set k { x with has := true, val := v } } := by
  have hk := get_lt hx
  -- those that had a value are elsewhere
  have fwd : ∀ (j : Nat) (y : Rd), s.rds[j]? = some y → y.has = true → (s.rds.set k { x with has := true, val := v })[j]? = some y := fun j y hj hh => by
    refine set_off hj (fun e => ?_)
    subst e
    obtain rfl := get_one hx hj
    rw [hno] at hh
    cases hh
  have bwd : ∀ (j : Nat) (z : Rd), (s.rds.set k { x with has := true, val := v })[j]? = some z → ∃ y, s.rds[j]? = some y ∧ z.r = y.r ∧ z.s = y.s ∧ z.vs = y.vs ∧ z.pm = y.pm ∧ ((j = k ∧ y = x ∧ z.has = true ∧ z.val = v) ∨ (j ≠ k ∧ z = y)) := fun j z hj => by
    rcases set_get hj with ⟨rfl, rfl⟩ | ⟨hjk, h⟩
    · exact ⟨x, hx, rfl, rfl, rfl, rfl, .inl ⟨rfl, rfl, rfl, rfl⟩⟩
    · exact ⟨z, h, rfl, rfl, rfl, rfl, .inr ⟨hjk, rfl⟩⟩
  have same : ∀ (j : Nat) (y : Rd), s.rds[j]? = some y → ∃ z, (s.rds.set k { x with has := true, val := v })[j]? = some z ∧ z.s = y.s := fun j y hj => by
    by_cases hjk : j = k
    · subst hjk
      obtain rfl := get_one hx hj
      exact ⟨_, set_at hk, rfl⟩
    · exact ⟨y, set_off hj hjk, rfl⟩
  refine { n1 := I.n1, alen := I.alen, rnd := ?_, first := ?_, prom := ?_, acc := ?_, vote := ?_, pms := ?_, early := ?_, chosen := ?_ }
  · intro i z h
    obtain ⟨y, h1, h2, h3, _⟩ := bwd i z h
    rw [h2, h3]
    exact I.rnd i y h1
  · obtain ⟨y, h1, h2, h3⟩ := I.first
    exact ⟨y, fwd 0 y h1 h2, h2, h3⟩
  · intro b c h
    obtain ⟨h0, h1 | ⟨i, y, h1, h2, h3⟩⟩ := I.prom b c h
    · exact ⟨h0, .inl h1⟩
    · obtain ⟨z, f1, f2⟩ := same i y h1
      exact ⟨h0, .inr ⟨i, z, f1, h2, by rw [f2]; exact h3⟩⟩
  · intro b c h hs
    obtain ⟨j, y, g1, g2, g3, g4, g5⟩ := I.acc b c h hs
    exact ⟨j, y, fwd j y g1 g4, g2, g3, g4, g5⟩
  · intro j z h w hw
    obtain ⟨y, h1, h2, h3, h4, h5, h6⟩ := bwd j z h
    rw [h4] at hw
    obtain ⟨g1, g2, g3, g4⟩ := I.vote j y h1 w hw
    rcases h6 with ⟨rfl, rfl, h7, h8⟩ | ⟨_, rfl⟩
    · rw [hno] at g3; cases g3
    · exact ⟨g1, g2, g3, g4⟩
  · intro i z h p hp
    obtain ⟨y, h1, h2, h3, h4, h5, h6⟩ := bwd i z h
    rw [h5] at hp
    obtain ⟨a, ac, g1, g2, g3, g4, g5, g6⟩ := I.pms i y h1 p hp
    refine ⟨a, ac, g1, g2, g3, g4, fun j u hj hji hv => ?_, fun hs => ?_⟩
    · obtain ⟨u', e1, _, _, e4, _⟩ := bwd j u hj
      rw [e4] at hv
      exact g5 j u' e1 hji hv
    · obtain ⟨j, u, e1, e2, e3, e4, e5⟩ := g6 hs
      exact ⟨j, u, fwd j u e1 e4, e2, e3, e4, e5⟩
  · intro i z h hh p hp hs
    obtain ⟨y, h1, h2, h3, h4, h5, h6⟩ := bwd i z h
    rcases h6 with ⟨rfl, rfl, h7, h8⟩ | ⟨_, rfl⟩
    · rw [h7] at hh; cases hh
    · exact I.early i z h1 hh p hp hs
  · intro i z h hi hh
    obtain ⟨y, h1, h2, h3, h4, h5, h6⟩ := bwd i z h
    rcases h6 with ⟨rfl, rfl, h7, h8⟩ | ⟨_, rfl⟩
    · exact ⟨y.pm, fun p hp => ⟨by rw [h5]; exact hp, fun hs => I.early i y h1 hno p hp hs⟩, by rw [h8]; exact hc⟩
    · exact I.chosen i z h1 hi hh

/-- a value is accepted -/
theorem Inv.accept {v0 : List Nat} {s : Sl} (I : Inv v0 s) {k a : Nat} {x : Rd} {ac : Ac} (hx : s.rds[k]? = some x) (hac : s.all[a]? = some ac) (hhas : x.has = true) (hge : ac.pr ≤ x.r) :
    Inv v0 { s with all := s.all.set a ⟨x.r, x.s, true, x.r, x.s, x.val⟩, rds := s.rds.set k { x with vs := x.vs ++ [⟨(a : Int), x.r, x.s⟩] } } := by
  have hk := get_lt hx
  have ha := get_lt hac
  have hxr := I.rnd k x hx
  have fwd : ∀ (j : Nat) (y : Rd), s.rds[j]? = some y → ∃ z, (s.rds.set k { x with vs := x.vs ++ [⟨(a : Int), x.r, x.s⟩] })[j]? = some z ∧ z.r = y.r ∧ z.s = y.s ∧ z.has = y.has ∧ z.val = y.val := fun j y hj => by
    by_cases hjk : j = k
    · subst hjk
      obtain rfl := get_one hx hj
      exact ⟨_, set_at hk, rfl, rfl, rfl, rfl⟩
    · exact ⟨y, set_off hj hjk, rfl, rfl, rfl, rfl⟩
  have bwd : ∀ (j : Nat) (z : Rd), (s.rds.set k { x with vs := x.vs ++ [⟨(a : Int), x.r, x.s⟩] })[j]? = some z → ∃ y, s.rds[j]? = some y ∧ z.r = y.r ∧ z.s = y.s ∧ z.has = y.has ∧ z.val = y.val ∧ z.pm = y.pm ∧ ((j = k ∧ z.vs = x.vs ++ [⟨(a : Int), x.r, x.s⟩] ∧ y = x) ∨ (j ≠ k ∧ z.vs = y.vs)) := fun j z hj => by
    rcases set_get hj with ⟨rfl, rfl⟩ | ⟨hjk, h⟩
    · exact ⟨x, hx, rfl, rfl, rfl, rfl, rfl, .inl ⟨rfl, rfl, rfl⟩⟩
    · exact ⟨z, h, rfl, rfl, rfl, rfl, rfl, .inr ⟨hjk, rfl⟩⟩
  -- what was accepted ahead is at no greater ballot
  have hle : ac.so = true → ac.ar ≤ x.r := fun hs => by
    obtain ⟨j, y, g1, g2, g3, g4, g5, g6⟩ := I.acc a ac hac hs
    omega
  have afwd : ∀ (b : Nat) (c : Ac), s.all[b]? = some c → ∃ d, (s.all.set a ⟨x.r, x.s, true, x.r, x.s, x.val⟩)[b]? = some d ∧ c.pr ≤ d.pr ∧ (c.so = true → d.so = true ∧ c.ar ≤ d.ar) := fun b c hb => by
    by_cases hba : b = a
    · subst hba
      obtain rfl := get_one hac hb
      exact ⟨_, set_at ha, hge, fun hs => ⟨rfl, hle hs⟩⟩
    · exact ⟨c, set_off hb hba, Int.le_refl _, fun hs => ⟨hs, Int.le_refl _⟩⟩
  refine { n1 := I.n1, alen := by simp only [List.length_set]; exact I.alen, rnd := ?_, first := ?_, prom := ?_, acc := ?_, vote := ?_, pms := ?_, early := ?_, chosen := ?_ }
  · intro i z h
    obtain ⟨y, h1, h2, h3, _⟩ := bwd i z h
    rw [h2, h3]
    exact I.rnd i y h1
  · obtain ⟨y, h1, h2, h3⟩ := I.first
    obtain ⟨z, f1, f2, f3, f4, f5⟩ := fwd 0 y h1
    exact ⟨z, f1, by rw [f4]; exact h2, by rw [f5]; exact h3⟩
  · intro b c h
    rcases set_get h with ⟨rfl, rfl⟩ | ⟨hba, h⟩
    · obtain ⟨z, f1, f2, f3, _⟩ := fwd k x hx
      exact ⟨by simp only; omega, .inr ⟨k, z, f1, hxr.1, f3.symm⟩⟩
    · obtain ⟨h0, h1 | ⟨i, y, h1, h2, h3⟩⟩ := I.prom b c h
      · exact ⟨h0, .inl h1⟩
      · obtain ⟨z, f1, f2, f3, _⟩ := fwd i y h1
        exact ⟨h0, .inr ⟨i, z, f1, h2, by rw [f3]; exact h3⟩⟩
  · intro b c h hs
    rcases set_get h with ⟨rfl, rfl⟩ | ⟨hba, h⟩
    · obtain ⟨z, f1, f2, f3, f4, f5⟩ := fwd k x hx
      exact ⟨k, z, f1, hxr.1, f3.symm, by rw [f4]; exact hhas, f5.symm, Int.le_refl _⟩
    · obtain ⟨j, y, g1, g2, g3, g4, g5, g6⟩ := I.acc b c h hs
      obtain ⟨z, f1, f2, f3, f4, f5⟩ := fwd j y g1
      exact ⟨j, z, f1, g2, by rw [f3]; exact g3, by rw [f4]; exact g4, by rw [f5]; exact g5, g6⟩
  · intro j z h v hv
    obtain ⟨y, h1, h2, h3, h4, h5, h6, h7⟩ := bwd j z h
    have old : v ∈ y.vs → v.r = z.r ∧ v.s = z.s ∧ z.has = true ∧ ∃ (b : Nat) (c : Ac), (s.all.set a ⟨x.r, x.s, true, x.r, x.s, x.val⟩)[b]? = some c ∧ v.who = b ∧ c.so = true ∧ (j : Int) ≤ c.ar := fun hvy => by
      obtain ⟨g1, g2, g3, b, c, g4, g5, g6, g7⟩ := I.vote j y h1 v hvy
      obtain ⟨d, f1, f2, f3⟩ := afwd b c g4
      exact ⟨by rw [h2]; exact g1, by rw [h3]; exact g2, by rw [h4]; exact g3, b, d, f1, g5, (f3 g6).1, by have := (f3 g6).2; omega⟩
    rcases h7 with ⟨rfl, hz, rfl⟩ | ⟨hjk, hz⟩
    · rw [hz] at hv
      rcases List.mem_append.1 hv with hv | hv
      · exact old hv
      · obtain rfl := List.mem_singleton.1 hv
        exact ⟨h2.symm, h3.symm, by rw [h4]; exact hhas, a, _, set_at ha, rfl, rfl, by simp only; omega⟩
    · rw [hz] at hv
      exact old hv
  · intro i z h p hp
    obtain ⟨y, h1, h2, h3, h4, h5, h6, _⟩ := bwd i z h
    rw [h6] at hp
    obtain ⟨b, c, g1, g2, g3, g4, g5, g6⟩ := I.pms i y h1 p hp
    obtain ⟨d, f1, f2, _⟩ := afwd b c g1
    refine ⟨b, d, f1, g2, g3, by omega, fun j u hj hji hv => ?_, fun hs => ?_⟩
    · obtain ⟨u', e1, e2, e3, e4, e5, e6, e7⟩ := bwd j u hj
      rcases e7 with ⟨rfl, hz, rfl⟩ | ⟨hjk, hz⟩
      · rw [hz] at hv
        obtain ⟨v, hv1, hv2⟩ := hv
        rcases List.mem_append.1 hv1 with hv1 | hv1
        · exact g5 j u' e1 hji ⟨v, hv1, hv2⟩
        · obtain rfl := List.mem_singleton.1 hv1
          have hba : b = a := by simp only at hv2; omega
          subst hba
          obtain rfl := get_one hac g1
          omega
      · rw [hz] at hv
        exact g5 j u' e1 hji hv
    · obtain ⟨j, u, e1, e2, e3, e4, e5⟩ := g6 hs
      obtain ⟨u', q1, q2, q3, q4, q5⟩ := fwd j u e1
      exact ⟨j, u', q1, e2, by rw [q3]; exact e3, by rw [q4]; exact e4, by rw [q5]; exact e5⟩
  · intro i z h hh p hp hs
    obtain ⟨y, h1, h2, h3, h4, h5, h6, _⟩ := bwd i z h
    rw [h4] at hh
    rw [h6] at hp
    exact I.early i y h1 hh p hp hs
  · intro i z h hi hh
    obtain ⟨y, h1, h2, h3, h4, h5, h6, _⟩ := bwd i z h
    rw [h4] at hh
    obtain ⟨C, c1, c2⟩ := I.chosen i y h1 hi hh
    exact ⟨C, fun p hp => ⟨by rw [h6]; exact (c1 p hp).1, (c1 p hp).2⟩, by rw [h5]; exact c2⟩

/-- whatever comes keeps it -/
theorem Inv.play {v0 : List Nat} {s : Sl} (I : Inv v0 s) (e : Evt) : Inv v0 (playS s e) := by
  unfold playS
  have hlen : 1 ≤ (s.rds.length : Int) := by
    obtain ⟨x, h, _⟩ := I.first
    have := get_lt h
    omega
  obtain ⟨k1, k2⟩ := least_range (n := e.k) hlen
  obtain ⟨a1, a2⟩ := least_range (n := e.a) I.n1.1
  obtain ⟨p1, p2⟩ := least_range (n := e.p) I.n1.1
  have ea : ((leastI e.a s.n).toNat : Int) = leastI e.a s.n := by omega
  split
  · rename_i x ac hx hac
    split
    · exact I.begin p1
    · split
      · cases hp : prepA ac x.r x.s with
        | none => exact I
        | some t =>
          unfold prepA at hp
          split at hp
          · cases hp
          · rename_i hc
            injection hp with hp
            subst hp
            have hge : ac.pr ≤ x.r := cmp_ge (fun h => hc (.inr h))
            simp only
            by_cases hl : e.lost = true
            · rw [if_pos hl]
              have := I.promise (pm := x.pm) hx hac (by omega) hge (fun p hp => .inl hp) (fun p hp => hp)
              have e2 : { x with pm := x.pm } = x := rfl
              rw [e2, set_same hx] at this
              exact this
            · rw [if_neg hl]
              refine I.promise hx hac (by omega) hge (fun p hp => ?_) (fun p hp => List.mem_append_left _ hp)
              rcases List.mem_append.1 hp with hp | hp
              · exact .inl hp
              · rw [List.mem_singleton.1 hp, ea]
                exact .inr rfl
      · split
        · cases hc : chooseP x.pm s.n with
          | none => exact I
          | some v =>
            simp only
            by_cases hh : x.has = true
            · rw [if_pos hh]; exact I
            · rw [if_neg hh]; exact I.choose hx (by simpa using hh) hc
        · split
          · rename_i hh
            cases hp : acceA ac x.r x.s x.val with
            | none => exact I
            | some t =>
              unfold acceA at hp
              split at hp
              · cases hp
              · rename_i hc
                injection hp with hp
                subst hp
                have := I.accept hx hac hh (cmp_ge hc)
                rw [ea] at this
                exact this
          · exact I
  · exact I
end Go.Proofs.Ytifenlopgpbpbaa
