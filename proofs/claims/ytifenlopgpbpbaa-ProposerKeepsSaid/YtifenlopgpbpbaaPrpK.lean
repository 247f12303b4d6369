/- Proposers: what each ballot chooses behind a decided one; all sites' promises; order; more votes. -/
import Derived.Test.YtifenlopgpbpbaaPrpJ
namespace Go.Proofs.Ytifenlopgpbpbaa

theorem Inv.keeps {v0 : List Nat} {s : Sl} (I : Inv v0 s) {k j : Nat} {x y : Rd} {v : List Nat} (hx : s.rds[k]? = some x) (hno : x.has = false) (hc : chooseP x.pm s.n = some v) (hj : s.rds[j]? = some y) (hjk : j < k) (hd : decidedV y.vs y.r y.s s.n = true) : v = y.val := by
  have I2 := I.choose hx hno hc
  rw [I.decided hj] at hd
  exact I2.binds (set_off hj (by omega)) hd k _ (set_at (get_lt hx)) hjk rfl

theorem sub_length : ∀ (l m : List Int), l.Nodup → (∀ x ∈ l, x ∈ m) → l.length ≤ m.length
  | [], m, _, _ => Nat.zero_le _
  | x :: l, m, hd, h => by
    rw [List.nodup_cons] at hd
    have hm := h x (by simp)
    have h1 := sub_length l (m.erase x) hd.2 (fun y hy => (List.mem_erase_of_ne (fun e => hd.1 (by rw [← e]; exact hy))).2 (h y (List.mem_cons_of_mem _ hy)))
    have h2 := List.length_erase_of_mem hm
    have h3 := List.length_pos_of_mem hm
    simp only [List.length_cons]
    omega
/-- all sites are most of them -/
theorem most_all {n : Int} (hn : 1 ≤ n) {L : List Int} (h : ∀ x, 0 ≤ x → x < n → x ∈ L) : mostB n L = true := by
  have hs : ∀ x ∈ (List.range n.toNat).map (fun j : Nat => (j : Int)), x ∈ uq n L := fun x hx => by
    obtain ⟨j, hj, rfl⟩ := List.mem_map.1 hx
    have hj' := List.mem_range.1 hj
    exact uq_mem.2 ⟨decide_eq_true (by omega), h _ (by omega) (by omega)⟩
  have hd : ((List.range n.toNat).map (fun j : Nat => (j : Int))).Nodup := (List.nodup_range).map _ (fun a b h e => h (by omega))
  have hl := sub_length _ _ hd hs
  rw [List.length_map, List.length_range] at hl
  have e : majorI n = n / 2 + 1 := if_neg (by omega)
  exact decide_eq_true ⟨hn, by rw [e]; omega⟩
theorem most_more2 {n : Int} {L M : List Int} (h : ∀ x ∈ L, x ∈ M) (hm : mostB n L = true) : mostB n M = true := by
  obtain ⟨h1, h2⟩ := of_decide_eq_true hm
  have := sub_length (uq n L) (uq n M) (uq_nodup n L) (fun x hx => uq_mem.2 ⟨(uq_mem.1 hx).1, h x (uq_mem.1 hx).2⟩)
  exact decide_eq_true ⟨h1, by omega⟩
/-- the newest ballot is promised by whoever is asked -/
theorem Inv.prep_last {v0 : List Nat} {s : Sl} (I : Inv v0 s) {k a : Nat} {x : Rd} {ac : Ac} (hx : s.rds[k]? = some x) (hl : k + 1 = s.rds.length) (hk : 1 ≤ k) (hac : s.all[a]? = some ac) : prepA ac x.r x.s = some ⟨x.r, x.s, ac.so, ac.ar, ac.as_, ac.val⟩ := by
  obtain ⟨hr, hs⟩ := I.rnd k x hx
  unfold prepA
  rw [if_neg]
  rintro (h | h)
  · omega
  · obtain ⟨h0, ⟨h1, h2⟩ | ⟨i, y, h1, h2, h3⟩⟩ := I.prom a ac hac
    · have : cmpB x.r x.s ac.pr ac.ps = 1 := by unfold cmpB; rw [if_neg (by omega), if_neg (by omega)]
      omega
    · have hi := get_lt h1
      by_cases hik : i = k
      · subst hik
        obtain rfl := get_one hx h1
        rw [(cmp_zero _ _ _ _).2 ⟨by omega, by omega⟩] at h
        omega
      · have : cmpB x.r x.s ac.pr ac.ps = 1 := by unfold cmpB; rw [if_neg (by omega), if_neg (by omega)]
        omega
/-- of whoever is asked by the newest ballot, all ahead are as they were -/
theorem play_last {v0 : List Nat} {s : Sl} (I : Inv v0 s) {k a : Nat} {x : Rd} (hx : s.rds[k]? = some x) (hl : k + 1 = s.rds.length) (hk : 1 ≤ k) (ha : (a : Int) < s.n) :
    ∃ p t, p.who = (a : Int) ∧ playS s ⟨1, 0, k, a, false⟩ = { s with all := s.all.set a t, rds := s.rds.set k { x with pm := x.pm ++ [p] } } := by
  have hal : a < s.all.length := by have := I.alen; have := I.n1.2; omega
  obtain ⟨ac, hac⟩ : ∃ ac, s.all[a]? = some ac := ⟨_, List.getElem?_eq_getElem hal⟩
  have e1 : leastI (k : Int) (s.rds.length : Int) = k := by unfold leastI; rw [if_neg (by omega)]; exact Int.emod_eq_of_lt (by omega) (by omega)
  have e2 : leastI (a : Int) s.n = a := by unfold leastI; rw [if_neg (by omega)]; exact Int.emod_eq_of_lt (by omega) (by omega)
  have e3 : ((k : Int)).toNat = k := by omega
  have e4 : ((a : Int)).toNat = a := by omega
  refine ⟨⟨(a : Int), ac.so, ac.ar, ac.as_, ac.val⟩, ⟨x.r, x.s, ac.so, ac.ar, ac.as_, ac.val⟩, rfl, ?_⟩
  unfold playS
  simp only [e1, e2, e3, e4, hx, hac]
  rw [I.prep_last hx hl hk hac]
  simp
/-- the newest ballot asks the sites below m -/
def askTo (s : Sl) (k : Nat) : Nat → Sl
  | 0 => s
  | m + 1 => playS (askTo s k m) ⟨1, 0, k, m, false⟩
theorem ask_all {v0 : List Nat} {s : Sl} (I : Inv v0 s) {k : Nat} {x : Rd} (hx : s.rds[k]? = some x) (hl : k + 1 = s.rds.length) (hk : 1 ≤ k) (hno : x.has = false) : ∀ m : Nat, (m : Int) ≤ s.n →
    Inv v0 (askTo s k m) ∧ (askTo s k m).n = s.n ∧ (askTo s k m).rds.length = s.rds.length ∧ (∀ j y, j ≠ k → s.rds[j]? = some y → (askTo s k m).rds[j]? = some y) ∧ ∃ y, (askTo s k m).rds[k]? = some y ∧ y.has = false ∧ ∀ z : Int, 0 ≤ z → z < m → z ∈ y.pm.map Pm.who
  | 0, _ => ⟨I, rfl, rfl, fun _ _ _ h => h, x, hx, hno, fun z h1 h2 => by omega⟩
  | m + 1, hm => by
    obtain ⟨J, hn, hlen, hold, y, hy, hyn, hyw⟩ := ask_all I hx hl hk hno m (by omega)
    obtain ⟨p, t, hp, he⟩ := play_last (a := m) J hy (by rw [hlen]; exact hl) hk (by rw [hn]; omega)
    have J2 := J.play ⟨1, 0, k, m, false⟩
    unfold askTo
    rw [he] at J2 ⊢
    refine ⟨J2, hn, by simp only [List.length_set]; exact hlen, fun j z hj hz => set_off (hold j z hj hz) hj, _, set_at (get_lt hy), hyn, fun z h1 h2 => ?_⟩
    simp only [List.map_append, List.map_cons, List.map_nil, List.mem_append, List.mem_singleton]
    rcases Int.lt_or_le z m with h | h
    · exact .inl (hyw z h1 h)
    · exact .inr (by rw [hp]; omega)
/-- what was decided is what the newest ballot chooses, once all are asked -/
theorem Inv.told {v0 : List Nat} {s : Sl} (I : Inv v0 s) {t : Int} (ht : 0 ≤ t) {j : Nat} {y : Rd} (hj : s.rds[j]? = some y) (hd : decidedV y.vs y.r y.s s.n = true) :
    ∃ z, (askTo { s with rds := s.rds ++ [⟨(s.rds.length : Int), t, [], false, [], []⟩] } s.rds.length s.n.toNat).rds[s.rds.length]? = some z ∧ chooseP z.pm s.n = some y.val := by
  have J := I.begin ht
  have hx : (s.rds ++ [(⟨(s.rds.length : Int), t, [], false, [], []⟩ : Rd)])[s.rds.length]? = some ⟨(s.rds.length : Int), t, [], false, [], []⟩ := by simp
  have hjl := get_lt hj
  obtain ⟨K, hn, hlen, hold, z, hz, hzn, hzw⟩ := ask_all J hx (by simp) (by omega) rfl s.n.toNat (by simp only; have := I.n1.1; omega)
  refine ⟨z, hz, ?_⟩
  simp only at hn
  have hm : mostB s.n (z.pm.map Pm.who) = true := most_all I.n1.1 (fun w h1 h2 => hzw w h1 (by have := I.n1.1; omega))
  obtain ⟨v, hv⟩ : ∃ v, chooseP z.pm s.n = some v := by unfold chooseP; rw [if_pos hm]; exact ⟨_, rfl⟩
  rw [hv]
  have := K.keeps hz hzn (by rw [hn]; exact hv) (hold j y (by omega) (snoc_fwd hj)) hjl (by rw [hn]; exact hd)
  rw [this]

/-- the greatest of promises, whatever their order, if no two are at one ballot -/
theorem best_perm {n : Int} {l m : List Pm} (h : ∀ p, p ∈ l ↔ p ∈ m) (hu : ∀ p ∈ l, ∀ q ∈ l, p.so = true → q.so = true → p.ar = q.ar → p.as_ = q.as_ → p = q) : bestP n l = bestP n m := by
  rcases best_is n l with ⟨h1, h2⟩ | ⟨p, h1, h2, h3, h4, h5⟩
  · rcases best_is n m with ⟨g1, _⟩ | ⟨q, g1, g2, g3, g4, _⟩
    · rw [h1, g1]
    · exact absurd ⟨g3, g4⟩ (h2 q ((h q).2 g2))
  · rcases best_is n m with ⟨_, g2⟩ | ⟨q, g1, g2, g3, g4, g5⟩
    · exact absurd ⟨h3, h4⟩ (g2 p ((h p).1 h2))
    · rw [h1, g1]
      have a := h5 q ((h q).2 g2) g3 g4
      have b := g5 p ((h p).1 h2) h3 h4
      have c := cmp_back p.ar p.as_ q.ar q.as_
      have d := (cmp_zero p.ar p.as_ q.ar q.as_).1 (by omega)
      rw [hu p h2 q ((h q).2 g2) h3 g3 d.1 d.2]
/-- votes of one site alone are not most of three or more -/
theorem most_alone {n w : Int} (hn : 3 ≤ n) {L : List Int} (h : ∀ x ∈ L, x = w) : mostB n L = false := by
  apply decide_eq_false
  rintro ⟨_, h2⟩
  have e : majorI n = n / 2 + 1 := if_neg (by omega)
  have hl := sub_length (uq n L) [w] (uq_nodup n L) (fun x hx => by rw [h x (uq_mem.1 hx).2]; simp)
  simp only [List.length_cons, List.length_nil] at hl
  rw [e] at h2
  omega
end Go.Proofs.Ytifenlopgpbpbaa
