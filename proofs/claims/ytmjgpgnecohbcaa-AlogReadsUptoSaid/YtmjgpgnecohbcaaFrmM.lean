/- Frames: plain arithmetic on lists of bytes, no program. -/
import Derived.Test.YtmjgpgnecohbcaaCrcM
namespace Go.Proofs.Ytmjgpgnecohbcaa

/-- a number as four bytes, and back -/
def four (n : Nat) : List Nat := [n % 256, n / 256 % 256, n / 65536 % 256, n / 16777216 % 256]
def num4 (bs : List Nat) : Nat := bs.getD 0 0 + 256 * bs.getD 1 0 + 65536 * bs.getD 2 0 + 16777216 * bs.getD 3 0
def fsum (b : List Nat) : Nat := CrcM.more (CrcM.sum (four b.length)) b
/-- a frame -/
def frm (b : List Nat) : List Nat := four b.length ++ (four (fsum b) ++ b)
/-- the first frame of bytes: an error's number, what is in it, what stands behind it -/
def tke (bs : List Nat) : Nat × List Nat × List Nat :=
  if bs.length < 8 then (3, [], [])
  else if 4096 < num4 bs then (5, [], [])
  else if bs.length - 8 < num4 bs then (3, [], [])
  else if CrcM.more (CrcM.sum (bs.take 4)) ((bs.drop 8).take (num4 bs)) ≠ num4 (bs.drop 4) then (4, [], [])
  else (0, (bs.drop 8).take (num4 bs), bs.drop (8 + num4 bs))

theorem four_len (n : Nat) : (four n).length = 4 := rfl
theorem frm_len (b : List Nat) : (frm b).length = 8 + b.length := by simp [frm, four_len]; omega
theorem four_byte (n : Nat) : ∀ c ∈ four n, c < 256 := by
  intro c hc
  simp only [four, List.mem_cons, List.not_mem_nil, or_false] at hc
  omega
theorem num4_four {n : Nat} (h : n < 4294967296) (more : List Nat) : num4 (four n ++ more) = n := by
  simp only [num4, four, List.cons_append, List.getD_cons_zero, List.getD_cons_succ]
  omega
theorem four_num4 {bs : List Nat} (h : 4 ≤ bs.length) (hb : ∀ c ∈ bs, c < 256) : four (num4 bs) = bs.take 4 := by
  match bs, h with
  | a :: b :: c :: d :: r, _ =>
    have ha := hb a (by simp)
    have hb' := hb b (by simp)
    have hc := hb c (by simp)
    have hd := hb d (by simp)
    simp only [num4, four, List.getD_cons_zero, List.getD_cons_succ, List.take_succ_cons, List.take_zero, List.cons.injEq, and_true]
    omega
theorem num4_lt {bs : List Nat} (hb : ∀ c ∈ bs, c < 256) : num4 bs < 4294967296 := by
  have key : ∀ i, bs.getD i 0 < 256 := fun i => by
    rw [List.getD_eq_getElem?_getD]
    cases h : bs[i]? with
    | none => simp
    | some c => exact hb c (List.mem_of_getElem? h)
  have h0 := key 0
  have h1 := key 1
  have h2 := key 2
  have h3 := key 3
  unfold num4
  omega
theorem fsum_lt {b : List Nat} (hb : ∀ c ∈ b, c < 256) : fsum b < 4294967296 := CrcM.more_lt _ (CrcM.sum_lt _ (four_byte _)) hb
theorem frm_byte {b : List Nat} (hb : ∀ c ∈ b, c < 256) : ∀ c ∈ frm b, c < 256 := by
  intro c hc
  rcases List.mem_append.1 hc with h | h
  · exact four_byte _ c h
  · rcases List.mem_append.1 h with h | h
    · exact four_byte _ c h
    · exact hb c h
/-- what is in a frame, and what stands behind it -/
theorem tke_frm {b : List Nat} (hl : b.length ≤ 4096) (hb : ∀ c ∈ b, c < 256) (more : List Nat) : tke (frm b ++ more) = (0, b, more) := by
  have e0 : frm b ++ more = four b.length ++ (four (fsum b) ++ (b ++ more)) := by simp [frm]
  have e1 : num4 (frm b ++ more) = b.length := by rw [e0]; exact num4_four (by omega) _
  have e2 : num4 ((frm b ++ more).drop 4) = fsum b := by
    rw [e0, List.drop_left' (four_len _)]
    exact num4_four (fsum_lt hb) _
  have e3 : (frm b ++ more).take 4 = four b.length := by rw [e0, List.take_left' (four_len _)]
  have e4 : (frm b ++ more).drop 8 = b ++ more := by
    rw [e0, show (8 : Nat) = 4 + 4 from rfl, ← List.drop_drop, List.drop_left' (four_len _), List.drop_left' (four_len _)]
  have e5 : (frm b ++ more).length = 8 + b.length + more.length := by rw [List.length_append, frm_len]
  unfold tke
  rw [if_neg (by omega), e1, if_neg (by omega), if_neg (by omega), e2, e3, e4, List.take_left]
  have e6 : (frm b ++ more).drop (8 + b.length) = more := List.drop_left' (frm_len b)
  rw [e6]
  simp [fsum]
/-- what is taken stood there as a frame -/
theorem tke_back {bs x r : List Nat} (hb : ∀ c ∈ bs, c < 256) (h : tke bs = (0, x, r)) : bs = frm x ++ r ∧ x.length ≤ 4096 := by
  unfold tke at h
  split at h
  · simp at h
  split at h
  · simp at h
  split at h
  · simp at h
  split at h
  · simp at h
  rename_i h1 h2 h3 h4
  simp only [Prod.mk.injEq, true_and] at h
  obtain ⟨hx, hr⟩ := h
  have hxl : x.length = num4 bs := by rw [← hx]; simp; omega
  have e1 := four_num4 (by omega) hb
  have e2 := four_num4 (bs := bs.drop 4) (by simp; omega) (fun c hc => hb c (List.mem_of_mem_drop hc))
  have e3 : fsum x = num4 (bs.drop 4) := by
    have := Classical.not_not.1 h4
    rw [← this, ← hx]
    unfold fsum
    rw [hx, hxl, e1]
  refine ⟨?_, by omega⟩
  unfold frm
  rw [hxl, e1, e3, e2, ← hx, ← hr]
  have a1 : bs.drop (8 + num4 bs) = (bs.drop 8).drop (num4 bs) := by rw [List.drop_drop]
  have a2 : (bs.drop 4).take 4 ++ bs.drop 8 = bs.drop 4 := by
    have := List.take_append_drop 4 (bs.drop 4)
    rw [List.drop_drop] at this
    exact this
  rw [List.append_assoc, List.append_assoc, a1, List.take_append_drop, a2, List.take_append_drop]
theorem tke_err {bs : List Nat} : (tke bs).1 ≠ 0 → tke bs = ((tke bs).1, [], []) := by
  unfold tke
  split
  · intro _; rfl
  split
  · intro _; rfl
  split
  · intro _; rfl
  split
  · intro _; rfl
  · intro h; exact absurd rfl h
theorem tke_rest {bs x r : List Nat} (hb : ∀ c ∈ bs, c < 256) (h : tke bs = (0, x, r)) : r = bs.drop (8 + x.length) ∧ 8 + x.length ≤ bs.length := by
  have hb' := tke_back hb h
  have e1 := congrArg List.length hb'.1
  rw [List.length_append, frm_len] at e1
  refine ⟨?_, by omega⟩
  rw [hb'.1, List.drop_left' (frm_len _)]
/-- a beginning of a frame that isn't whole -/
theorem tke_torn {b : List Nat} (hl : b.length ≤ 4096) (j : Nat) (hj : j < 8 + b.length) : (tke ((frm b).take j)).1 ≠ 0 := by
  have hlen : ((frm b).take j).length = j := by rw [List.length_take, frm_len]; omega
  unfold tke
  rw [hlen]
  by_cases h8 : j < 8
  · rw [if_pos h8]; simp
  · rw [if_neg h8]
    have e1 : num4 ((frm b).take j) = b.length := by
      have : (frm b).take j = four b.length ++ ((four (fsum b) ++ b).take (j - 4)) := by
        unfold frm
        rw [List.take_append, four_len, List.take_of_length_le (by rw [four_len]; omega)]
      rw [this]
      exact num4_four (by omega) _
    rw [e1, if_neg (by omega), if_pos (by omega)]
    simp

/-- frames one behind the other -/
def flat (l : List (List Nat)) : List Nat := l.flatMap frm
theorem flat_cons (x : List Nat) (l : List (List Nat)) : flat (x :: l) = frm x ++ flat l := by simp [flat]
theorem flat_append (a b : List (List Nat)) : flat (a ++ b) = flat a ++ flat b := by simp [flat]
/-- l is what is scanned of bs, n how many bytes its frames have -/
def Scanned (bs : List Nat) (l : List (List Nat)) (n : Nat) : Prop := ∃ r, bs = flat l ++ r ∧ n = (flat l).length ∧ (∀ x ∈ l, x.length ≤ 4096) ∧ (tke r).1 ≠ 0
theorem scanned_one : ∀ {l l' : List (List Nat)} {bs : List Nat} {n n' : Nat}, (∀ c ∈ bs, c < 256) → Scanned bs l n → Scanned bs l' n' → l = l' ∧ n = n'
  | [], [], bs, n, n', _, ⟨_, _, h1, _⟩, ⟨_, _, h2, _⟩ => ⟨rfl, by rw [h1, h2]⟩
  | [], y :: l', bs, n, n', hb, ⟨r, e, _, _, ht⟩, ⟨r', e', _, hl, _⟩ => by
    simp only [flat, List.flatMap_nil, List.nil_append] at e
    rw [flat_cons, List.append_assoc] at e'
    have hby : ∀ c ∈ y, c < 256 := fun c hc => hb c (by rw [e']; simp [frm, hc])
    have := tke_frm (hl y (by simp)) hby (flat l' ++ r')
    rw [← e', e] at this
    rw [this] at ht
    exact absurd rfl ht
  | x :: l, [], bs, n, n', hb, ⟨r, e, _, hl, _⟩, ⟨r', e', _, _, ht⟩ => by
    simp only [flat, List.flatMap_nil, List.nil_append] at e'
    rw [flat_cons, List.append_assoc] at e
    have hby : ∀ c ∈ x, c < 256 := fun c hc => hb c (by rw [e]; simp [frm, hc])
    have := tke_frm (hl x (by simp)) hby (flat l ++ r)
    rw [← e, e'] at this
    rw [this] at ht
    exact absurd rfl ht
  | x :: l, y :: l', bs, n, n', hb, ⟨r, e, hn, hl, ht⟩, ⟨r', e', hn', hl', ht'⟩ => by
    rw [flat_cons, List.append_assoc] at e e'
    have hbx : ∀ c ∈ x, c < 256 := fun c hc => hb c (by rw [e]; simp [frm, hc])
    have hby : ∀ c ∈ y, c < 256 := fun c hc => hb c (by rw [e']; simp [frm, hc])
    have h1 := tke_frm (hl x (by simp)) hbx (flat l ++ r)
    have h2 := tke_frm (hl' y (by simp)) hby (flat l' ++ r')
    rw [← e] at h1
    rw [← e', h1] at h2
    simp only [Prod.mk.injEq, true_and] at h2
    obtain ⟨rfl, h2⟩ := h2
    have hbr : ∀ c ∈ flat l ++ r, c < 256 := fun c hc => hb c (by rw [e]; exact List.mem_append_right _ hc)
    obtain ⟨rfl, h3⟩ := scanned_one (l := l) (l' := l') (n := (flat l).length) (n' := (flat l').length) hbr ⟨r, rfl, rfl, fun z hz => hl z (by simp [hz]), ht⟩ ⟨r', h2, rfl, fun z hz => hl' z (by simp [hz]), ht'⟩
    exact ⟨rfl, by rw [hn, hn']⟩
/-- a beginning of frames -/
theorem scanned_torn {l : List (List Nat)} (hl : ∀ x ∈ l, x.length ≤ 4096) (w j : Nat) (hw : w ≤ l.length) (h1 : (flat (l.take w)).length ≤ j) (h2 : ∀ (h : w < l.length), j < (flat (l.take w)).length + 8 + l[w].length) :
    Scanned ((flat l).take j) (l.take w) (flat (l.take w)).length := by
  by_cases hlt : w < l.length
  · have e : flat l = flat (l.take w) ++ (frm l[w] ++ flat (l.drop (w + 1))) := by
      rw [← flat_cons, ← List.drop_eq_getElem_cons hlt, ← flat_append, List.take_append_drop]
    have hj := h2 hlt
    refine ⟨(frm l[w]).take (j - (flat (l.take w)).length), ?_, rfl, fun x hx => hl x (List.mem_of_mem_take hx), tke_torn (hl _ (List.getElem_mem hlt)) _ (by omega)⟩
    conv => lhs; rw [e]
    rw [List.take_append, List.take_of_length_le h1, List.take_append_of_le_length (by rw [frm_len]; omega)]
  · have hall : l.take w = l := List.take_of_length_le (by omega)
    rw [hall] at h1
    have : (flat l).take j = flat l := List.take_of_length_le h1
    rw [hall, this]
    exact ⟨[], by simp, rfl, hl, by decide⟩
/-- with another row of as many bytes in a frame's place: those ahead are scanned, it isn't scanned as it was -/
theorem scanned_turned {l m : List (List Nat)} {F C : List Nat} {n k : Nat} (hk : k < l.length) (hl : ∀ x ∈ l, x.length ≤ 4096) (hb : ∀ c ∈ flat (l.take k) ++ (F ++ C), c < 256) (hF : F.length = (frm l[k]).length) (hne : F ≠ frm l[k])
    (hm : Scanned (flat (l.take k) ++ (F ++ C)) m n) : k ≤ m.length ∧ m.take k = l.take k ∧ ∀ (h : k < m.length), m[k] ≠ l[k] := by
  have key : ∀ (a : List (List Nat)) (m : List (List Nat)) (n : Nat) (D : List Nat), (∀ x ∈ a, x.length ≤ 4096) → (∀ c ∈ flat a ++ D, c < 256) → Scanned (flat a ++ D) m n → ∃ m' n', m = a ++ m' ∧ Scanned D m' n' := by
    intro a
    induction a with
    | nil => intro m n D _ _ h; exact ⟨m, n, rfl, by simpa [flat] using h⟩
    | cons x a ih =>
      intro m n D ha hb h
      obtain ⟨r, e, hn, hml, ht⟩ := h
      rw [flat_cons, List.append_assoc] at e
      have hbx : ∀ c ∈ x, c < 256 := fun c hc => hb c (by rw [flat_cons]; simp [frm, hc])
      have h1 := tke_frm (ha x (by simp)) hbx (flat a ++ D)
      cases m with
      | nil =>
        simp only [flat, List.flatMap_nil, List.nil_append] at e
        simp only [flat] at h1
        rw [e] at h1
        rw [h1] at ht
        exact absurd rfl ht
      | cons y m =>
        have hby : ∀ c ∈ y, c < 256 := fun c hc => hb c (by rw [flat_cons, List.append_assoc, e, flat_cons]; simp [frm, hc])
        have h2 := tke_frm (hml y (by simp)) hby (flat m ++ r)
        rw [flat_cons, List.append_assoc] at e
        rw [← e, h1] at h2
        simp only [Prod.mk.injEq, true_and] at h2
        obtain ⟨rfl, h2⟩ := h2
        obtain ⟨m', n', e3, h3⟩ := ih m _ D (fun z hz => ha z (by simp [hz])) (fun c hc => hb c (by rw [flat_cons, List.append_assoc]; exact List.mem_append_right _ hc)) ⟨r, h2, rfl, fun z hz => hml z (by simp [hz]), ht⟩
        exact ⟨m', n', by rw [e3]; rfl, h3⟩
  obtain ⟨m', n', rfl, r, e, _, hml, _⟩ := key (l.take k) m n (F ++ C) (fun x hx => hl x (List.mem_of_mem_take hx)) hb hm
  have hkl : (l.take k).length = k := by rw [List.length_take]; omega
  refine ⟨by rw [List.length_append]; omega, by rw [List.take_left' hkl], fun h he => ?_⟩
  rw [List.getElem_append_right (by omega)] at he
  simp only [hkl, Nat.sub_self] at he
  cases m' with
  | nil => simp at h; omega
  | cons y m' =>
    simp only [List.getElem_cons_zero] at he
    subst he
    rw [flat_cons, List.append_assoc] at e
    exact hne (List.append_inj e hF).1
end Go.Proofs.Ytmjgpgnecohbcaa
