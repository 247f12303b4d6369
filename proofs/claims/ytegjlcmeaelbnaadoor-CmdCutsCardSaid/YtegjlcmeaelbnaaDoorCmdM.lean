/- Commands as nine numbers, and their bytes: plain arithmetic, no program. -/
import Derived.Test.YtegjlcmeaelbnaaDoorWireR
namespace Go.Proofs.YtegjlcmeaelbnaaDoor

/-- from where to where each of a command's numbers may be, of a command of kind k -/
def spansOf (k : Int) : List (Int × Int) :=
  (0, 11) :: (1, 64) :: (1, 1099511627776) :: (0, 1099511627776) ::
    (if k = 1 ∨ k = 3 ∨ k = 4 ∨ k = 5 then [(1, 2), (0, 0), (1, 1073741824), (1, 1073741824), (0, 0)]
    else if k = 2 then [(1, 2), (0, 0), (0, 0), (1, 1073741824), (0, 0)]
    else if k = 6 then [(1, 2), (0, 0), (-1073741824, 1073741824), (1, 1073741824), (0, 0)]
    else if k = 7 then [(0, 0), (0, 0), (0, 0), (0, 0), (1, 1099511627776)]
    else if k = 8 then [(0, 0), (0, 0), (1, 1073741824), (1, 1073741824), (1, 1099511627776)]
    else if k = 9 ∨ k = 10 then [(0, 0), (0, 1), (0, 0), (1, 1073741824), (0, 0)]
    else if k = 11 then [(0, 0), (0, 0), (1, 1073741824), (0, 0), (0, 0)]
    else [(0, 0), (0, 0), (0, 0), (0, 0), (0, 0)])
def lo (k : Int) (i : Nat) : Int := ((spansOf k).getD i (0, 0)).1
def hi (k : Int) (i : Nat) : Int := ((spansOf k).getD i (0, 0)).2
def Fit (ns : List Int) (i : Nat) : Prop := lo (ns.getD 0 0) i ≤ ns.getD i 0 ∧ ns.getD i 0 ≤ hi (ns.getD 0 0) i
def Ok (ns : List Int) : Prop := ∀ i, i < 9 → Fit ns i
instance (ns : List Int) (i : Nat) : Decidable (Fit ns i) := inferInstanceAs (Decidable (_ ∧ _))
instance (ns : List Int) : Decidable (Ok ns) := inferInstanceAs (Decidable (∀ i, i < 9 → Fit ns i))

/-- a number that the bytes can hold -/
def Good (i : Nat) (n : Int) : Prop := -1099511627776 ≤ n ∧ n ≤ 1099511627776 ∧ (i ≤ 1 → 0 ≤ n ∧ n ≤ 1000)
theorem lohi (k : Int) (i : Nat) (h : i < 9) : -1099511627776 ≤ lo k i ∧ hi k i ≤ 1099511627776 ∧ (i ≤ 1 → 0 ≤ lo k i ∧ hi k i ≤ 1000) := by
  unfold lo hi spansOf
  match i, h with
  | 0, _ => simp
  | 1, _ => simp
  | 2, _ => simp
  | 3, _ => simp
  | 4, _ => simp only [List.getD_cons_succ]; (repeat' split) <;> simp
  | 5, _ => simp only [List.getD_cons_succ]; (repeat' split) <;> simp
  | 6, _ => simp only [List.getD_cons_succ]; (repeat' split) <;> simp
  | 7, _ => simp only [List.getD_cons_succ]; (repeat' split) <;> simp
  | 8, _ => simp only [List.getD_cons_succ]; (repeat' split) <;> simp
theorem ok_good {ns : List Int} (h : Ok ns) (i : Nat) (hi : i < 9) : Good i (ns.getD i 0) := by
  have h1 := h i hi
  have h2 := lohi (ns.getD 0 0) i hi
  unfold Fit at h1
  unfold Good
  omega

/-- number i as bytes; the numbers from i on as bytes -/
def enc (i : Nat) (n : Int) : List Nat := if 1 < i then put (zig n) else put n.toNat
def encN : Nat → List Int → List Nat
  | _, [] => []
  | i, n :: ns => enc i n ++ encN (i + 1) ns
theorem zig_good {n : Int} (h1 : -1099511627776 ≤ n) (h2 : n ≤ 1099511627776) : zig n < 4398046511104 := by
  unfold zig
  split <;> omega
theorem enc_pos (i : Nat) (n : Int) : 0 < (enc i n).length := by
  unfold enc
  split <;> exact put_pos _
theorem enc_six {i : Nat} {n : Int} (h : Good i n) : (enc i n).length ≤ 6 := by
  have hp : (128 : Nat) ^ (5 + 1) = 4398046511104 := by decide
  unfold enc
  split
  · exact put_len _ 5 (by rw [hp]; exact zig_good h.1 h.2.1)
  · exact put_len _ 5 (by rw [hp]; have := h.2.2 (by omega); omega)
theorem enc_byte (i : Nat) (n : Int) : ∀ c ∈ enc i n, c < 256 := by
  unfold enc
  split <;> exact put_byte _
theorem encN_byte : ∀ (ns : List Int) (i : Nat), ∀ c ∈ encN i ns, c < 256
  | [], _, c, h => by simp [encN] at h
  | n :: ns, i, c, h => by
    rcases List.mem_append.1 h with h | h
    · exact enc_byte i n c h
    · exact encN_byte ns (i + 1) c h
/-- all of the numbers from i on can be held -/
def Goods : Nat → List Int → Prop
  | _, [] => True
  | i, n :: ns => Good i n ∧ Goods (i + 1) ns
theorem encN_six : ∀ (ns : List Int) (i : Nat), Goods i ns → (encN i ns).length ≤ 6 * ns.length
  | [], _, _ => by simp [encN]
  | n :: ns, i, h => by
    have h1 := enc_six h.1
    have h2 := encN_six ns (i + 1) h.2
    simp only [encN, List.length_append, List.length_cons]
    omega
theorem nine {ns : List Int} (h : ns.length = 9) : ∃ n0 n1 n2 n3 n4 n5 n6 n7 n8, ns = [n0, n1, n2, n3, n4, n5, n6, n7, n8] := by
  match ns, h with
  | [n0, n1, n2, n3, n4, n5, n6, n7, n8], _ => exact ⟨n0, n1, n2, n3, n4, n5, n6, n7, n8, rfl⟩
theorem ok_goods {ns : List Int} (hl : ns.length = 9) (h : Ok ns) : Goods 0 ns := by
  have hg := ok_good h
  obtain ⟨n0, n1, n2, n3, n4, n5, n6, n7, n8, rfl⟩ := nine hl
  exact ⟨hg 0 (by omega), hg 1 (by omega), hg 2 (by omega), hg 3 (by omega), hg 4 (by omega), hg 5 (by omega), hg 6 (by omega), hg 7 (by omega), hg 8 (by omega), trivial⟩

/-- number i, read of these bytes: the number, how many bytes, an error's number -/
def rdOne (i : Nat) (bs : List Nat) : Int × Nat × Nat := if 1 < i then (zag (get bs).1, (get bs).2) else (((sml bs 1000).1 : Int), (sml bs 1000).2)
/-- m numbers from number i on, read from place p on: the numbers, the place behind them or of the error, an error's number -/
def rdN : Nat → Nat → List Nat → Nat → List Int × Nat × Nat
  | _, 0, _, p => ([], p, 0)
  | i, m + 1, bs, p =>
    if (rdOne i (bs.drop p)).2.2 ≠ 0 then ([], p, (rdOne i (bs.drop p)).2.2)
    else ((rdOne i (bs.drop p)).1 :: (rdN (i + 1) m bs (p + (rdOne i (bs.drop p)).2.1)).1, (rdN (i + 1) m bs (p + (rdOne i (bs.drop p)).2.1)).2)

theorem sml_put {m : Nat} (h : m ≤ 1000) (rest : List Nat) : sml (put m ++ rest) 1000 = (m, (put m).length, 0) := by
  unfold sml
  rw [get_put (by omega)]
  simp only [ne_eq, not_true_eq_false, if_false]
  rw [if_neg (by omega)]
theorem one_enc {i : Nat} {n : Int} (h : Good i n) (rest : List Nat) : rdOne i (enc i n ++ rest) = (n, (enc i n).length, 0) := by
  unfold rdOne enc
  split
  · have := zig_good h.1 h.2.1
    rw [get_put (by omega)]
    simp only [zag_zig]
  · have := h.2.2 (by omega)
    rw [sml_put (by omega)]
    simp only [Prod.mk.injEq, and_true]
    omega
theorem rd_enc : ∀ (ns : List Int) (i p : Nat) (bs rest : List Nat), Goods i ns → bs.drop p = encN i ns ++ rest → rdN i ns.length bs p = (ns, p + (encN i ns).length, 0)
  | [], i, p, bs, rest, _, _ => by simp [rdN, encN]
  | n :: ns, i, p, bs, rest, hg, hb => by
    have hb' : bs.drop p = enc i n ++ (encN (i + 1) ns ++ rest) := by rw [hb, encN, List.append_assoc]
    have h1 := one_enc hg.1 (encN (i + 1) ns ++ rest)
    rw [← hb'] at h1
    have h2 := rd_enc ns (i + 1) (p + (enc i n).length) bs rest hg.2 (by rw [← List.drop_drop, hb', List.drop_left])
    rw [List.length_cons, rdN, h1]
    simp only [ne_eq, not_true_eq_false, if_false, h2]
    simp only [encN, List.length_append, Nat.add_assoc]

theorem zig_zag {x : Nat} (h : x < 18446744073709551616) : zig (zag x) = x := by
  unfold zag zig
  split <;> split <;> omega
theorem one_back {i : Nat} {cs : List Nat} {n : Int} {k : Nat} (hb : ∀ c ∈ cs, c < 256) (h : rdOne i cs = (n, k, 0)) : cs.take k = enc i n ∧ k = (enc i n).length ∧ k ≤ cs.length := by
  unfold rdOne at h
  unfold enc
  by_cases hi : 1 < i
  · rw [if_pos hi] at h ⊢
    generalize hG : get cs = G at *
    obtain ⟨x, k', c⟩ := G
    simp only [Prod.mk.injEq] at h
    obtain ⟨rfl, rfl, rfl⟩ := h
    obtain ⟨h1, h2, h3, h4⟩ := get_back hb hG
    rw [zig_zag h3]
    exact ⟨h2, h1, h4⟩
  · rw [if_neg hi] at h ⊢
    unfold sml at h
    generalize hG : get cs = G at *
    obtain ⟨x, k', c⟩ := G
    simp only at h
    split at h
    · rename_i hc
      simp only [Prod.mk.injEq] at h
      omega
    · split at h
      · simp only [Prod.mk.injEq] at h
        omega
      · simp only [Prod.mk.injEq] at h
        obtain ⟨rfl, rfl, rfl⟩ := h
        obtain ⟨h1, h2, h3, h4⟩ := get_back hb hG
        rw [Int.toNat_natCast]
        exact ⟨h2, h1, h4⟩
theorem rd_back : ∀ (m i p : Nat) (bs : List Nat) (ns : List Int) (q : Nat), (∀ c ∈ bs, c < 256) → p ≤ bs.length → rdN i m bs p = (ns, q, 0) → bs.drop p = encN i ns ++ bs.drop q ∧ q ≤ bs.length ∧ ns.length = m
  | 0, i, p, bs, ns, q, _, hp, h => by
    simp only [rdN, Prod.mk.injEq] at h
    obtain ⟨rfl, rfl, _⟩ := h
    exact ⟨by simp [encN], hp, rfl⟩
  | m + 1, i, p, bs, ns, q, hb, hp, h => by
    rw [rdN] at h
    generalize hO : rdOne i (bs.drop p) = O at *
    obtain ⟨n, k, c⟩ := O
    simp only at h
    split at h
    · rename_i hc
      simp only [Prod.mk.injEq] at h
      omega
    · rename_i hc
      have hc0 : c = 0 := by omega
      subst hc0
      obtain ⟨h1, h2, h3⟩ := one_back (fun x hx => hb x (List.mem_of_mem_drop hx)) hO
      rw [List.length_drop] at h3
      generalize hR : rdN (i + 1) m bs (p + k) = R at *
      obtain ⟨ms, q', c'⟩ := R
      simp only [Prod.mk.injEq] at h
      obtain ⟨rfl, rfl, rfl⟩ := h
      obtain ⟨h4, h5, h6⟩ := rd_back m (i + 1) (p + k) bs ms q' hb (by omega) hR
      refine ⟨?_, h5, by simp [h6]⟩
      rw [encN, List.append_assoc, ← h4, ← h1, ← List.drop_drop, List.take_append_drop]

/-- a beginning of a number's bytes is too short -/
theorem getW_short (m : Nat) : ∀ (i acc k : Nat), i ≤ 9 → m * 128 ^ i < 18446744073709551616 → (0 < i → 0 < m) → k < (put m).length → getW i acc ((put m).take k) = (0, 0, 3) := by
  induction m using put.induct with
  | case1 m h =>
    intro i acc k hi hm hpos hk
    rw [put_small h] at hk ⊢
    have : k = 0 := by simpa using hk
    subst this
    rfl
  | case2 m h ih =>
    intro i acc k hi hm hpos hk
    match k with
    | 0 => simp [getW]
    | k + 1 =>
      have hlt : i < 9 := by
        rcases Nat.lt_or_ge i 9 with h' | h'
        · exact h'
        · have : i = 9 := by omega
          subst this
          rw [pow9] at hm
          omega
      have e : m / 128 * 128 ^ (i + 1) ≤ m * 128 ^ i := by
        rw [Nat.pow_succ, Nat.mul_comm (128 ^ i) 128, ← Nat.mul_assoc]
        exact Nat.mul_le_mul_right _ (Nat.div_mul_le_self m 128)
      rw [put_big h] at hk ⊢
      have := ih (i + 1) (acc + m % 128 * 128 ^ i) k (by omega) (by omega) (by omega) (by simpa using hk)
      rw [List.take_succ_cons]
      simp only [getW]
      rw [if_neg (by omega), if_neg (by omega), if_neg (by omega), show m % 128 + 128 - 128 = m % 128 by omega, this]
theorem get_short {m k : Nat} (h : m < 18446744073709551616) (hk : k < (put m).length) : get ((put m).take k) = (0, 0, 3) :=
  getW_short m 0 0 k (by omega) (by simpa using h) (by omega) hk
theorem one_short {i k : Nat} {n : Int} (h : Good i n) (hk : k < (enc i n).length) : (rdOne i ((enc i n).take k)).2.2 = 3 := by
  unfold enc at hk ⊢
  unfold rdOne
  by_cases hi : 1 < i
  · rw [if_pos hi] at hk ⊢
    have := zig_good h.1 h.2.1
    rw [if_pos hi, get_short (by omega) hk]
  · rw [if_neg hi] at hk ⊢
    have := h.2.2 (by omega)
    rw [if_neg hi]
    unfold sml
    rw [get_short (by omega) hk]
    simp
theorem rd_short : ∀ (ns : List Int) (i p k : Nat) (bs : List Nat), Goods i ns → bs.drop p = (encN i ns).take k → k < (encN i ns).length → (rdN i ns.length bs p).2.2 = 3
  | [], i, p, k, bs, _, _, hk => by simp [encN] at hk
  | n :: ns, i, p, k, bs, hg, hb, hk => by
    rw [encN] at hb hk
    rw [List.length_cons, rdN]
    by_cases hlt : k < (enc i n).length
    · rw [List.take_append_of_le_length (by omega)] at hb
      have := one_short hg.1 hlt
      rw [← hb] at this
      rw [if_pos (by omega)]
      exact this
    · rw [List.take_append, List.take_of_length_le (by omega : (enc i n).length ≤ k)] at hb
      have h1 := one_enc hg.1 ((encN (i + 1) ns).take (k - (enc i n).length))
      rw [← hb] at h1
      have h2 := rd_short ns (i + 1) (p + (enc i n).length) (k - (enc i n).length) bs hg.2 (by rw [← List.drop_drop, hb, List.drop_left]) (by rw [List.length_append] at hk; omega)
      rw [h1]
      simp only [ne_eq, not_true_eq_false, if_false, h2]

/-- what is decoded: the numbers (none where there is an error), the error's number, and its place, where it has one -/
def zeros : List Int := [0, 0, 0, 0, 0, 0, 0, 0, 0]
def dec (bs : List Nat) : List Int × Nat × Option Nat :=
  if (rdN 0 9 bs 0).2.2 ≠ 0 then (zeros, (rdN 0 9 bs 0).2.2, some (rdN 0 9 bs 0).2.1)
  else if (rdN 0 9 bs 0).2.1 < bs.length then (zeros, 2, some (rdN 0 9 bs 0).2.1)
  else if Ok (rdN 0 9 bs 0).1 then ((rdN 0 9 bs 0).1, 0, none) else (zeros, 1, none)
theorem dec_enc {ns : List Int} (hl : ns.length = 9) (h : Ok ns) : dec (encN 0 ns) = (ns, 0, none) := by
  have := rd_enc ns 0 0 (encN 0 ns) [] (ok_goods hl h) (by simp)
  rw [hl] at this
  unfold dec
  rw [this]
  simp [h]
theorem dec_more {ns : List Int} (hl : ns.length = 9) (h : Ok ns) (x : Nat) : ∃ p, dec (encN 0 ns ++ [x]) = (zeros, 2, some p) := by
  have := rd_enc ns 0 0 (encN 0 ns ++ [x]) [x] (ok_goods hl h) (by simp)
  rw [hl] at this
  unfold dec
  rw [this]
  exact ⟨0 + (encN 0 ns).length, by simp⟩
theorem dec_cut {ns : List Int} (hl : ns.length = 9) (h : Ok ns) {k : Nat} (hk : k < (encN 0 ns).length) : ∃ p, dec ((encN 0 ns).take k) = (zeros, 3, some p) := by
  have := rd_short ns 0 0 k ((encN 0 ns).take k) (ok_goods hl h) (by simp) hk
  rw [hl] at this
  unfold dec
  rw [this, if_pos (by decide)]
  exact ⟨_, rfl⟩
theorem dec_once {bs : List Nat} {ns : List Int} {o : Option Nat} (hb : ∀ c ∈ bs, c < 256) (h : dec bs = (ns, 0, o)) : Ok ns ∧ ns.length = 9 ∧ bs = encN 0 ns ∧ o = none := by
  unfold dec at h
  generalize hR : rdN 0 9 bs 0 = R at *
  obtain ⟨ms, q, c⟩ := R
  simp only at h
  split at h
  · simp only [Prod.mk.injEq] at h; omega
  · split at h
    · simp only [Prod.mk.injEq] at h; omega
    · split at h
      · rename_i h1 h2 h3
        simp only [Prod.mk.injEq, true_and] at h
        obtain ⟨rfl, rfl⟩ := h
        have hc : c = 0 := by omega
        subst hc
        obtain ⟨h4, h5, h6⟩ := rd_back 9 0 0 bs ms q hb (Nat.zero_le _) hR
        refine ⟨h3, h6, ?_, rfl⟩
        rw [List.drop_zero, List.drop_eq_nil_of_le (by omega), List.append_nil] at h4
        exact h4
      · simp only [Prod.mk.injEq] at h; omega
theorem dec_err {bs : List Nat} {ns : List Int} {c : Nat} {o : Option Nat} (h : dec bs = (ns, c, o)) (hc : c ≠ 0) : ns = zeros := by
  unfold dec at h
  split at h
  · simp only [Prod.mk.injEq] at h; exact h.1.symm
  · split at h
    · simp only [Prod.mk.injEq] at h; exact h.1.symm
    · split at h
      · simp only [Prod.mk.injEq] at h; omega
      · simp only [Prod.mk.injEq] at h; exact h.1.symm
end Go.Proofs.YtegjlcmeaelbnaaDoor
