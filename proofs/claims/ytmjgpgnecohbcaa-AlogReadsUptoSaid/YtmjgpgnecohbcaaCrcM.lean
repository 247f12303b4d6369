/- The plain arithmetic of the sum of bytes: a step of one bit over natural numbers, that it is linear, and one to one below 2^32. Nothing here speaks of the program. -/
namespace Go.Proofs.Ytmjgpgnecohbcaa.CrcM

/-- one bit falls out -/
def bit1 (x : Nat) : Nat := x / 2 ^^^ (if x % 2 = 1 then 3988292384 else 0)
def bitN : Nat → Nat → Nat
  | 0, x => x
  | n + 1, x => bitN n (bit1 x)
def byteStep (w c : Nat) : Nat := bitN 8 (w ^^^ c)
def word : Nat → List Nat → Nat
  | w, [] => w
  | w, c :: r => word (byteStep w c) r
def big : Nat := 4294967295
def more (s : Nat) (bs : List Nat) : Nat := big ^^^ word (big ^^^ s) bs
def sum (bs : List Nat) : Nat := big ^^^ word big bs

theorem xor_div_two (x y : Nat) : (x ^^^ y) / 2 = x / 2 ^^^ y / 2 := by
  apply Nat.eq_of_testBit_eq; intro i
  simp [Nat.testBit_div_two, Nat.testBit_xor]
theorem xor_mod_two (x y : Nat) : (x ^^^ y) % 2 = (x % 2 + y % 2) % 2 := by
  have h := Nat.xor_mod_two_pow (a := x) (b := y) (n := 1)
  rw [Nat.pow_one] at h
  rw [h]
  rcases Nat.mod_two_eq_zero_or_one x with hx | hx <;> rcases Nat.mod_two_eq_zero_or_one y with hy | hy <;> rw [hx, hy] <;> rfl
theorem bit1_xor (x y : Nat) : bit1 (x ^^^ y) = bit1 x ^^^ bit1 y := by
  unfold bit1
  rw [xor_div_two, xor_mod_two]
  rcases Nat.mod_two_eq_zero_or_one x with hx | hx <;> rcases Nat.mod_two_eq_zero_or_one y with hy | hy <;> rw [hx, hy]
  · simp
  · simp [Nat.xor_assoc]
  · simp only [Nat.add_zero, Nat.reduceMod, ↓reduceIte, Nat.zero_ne_one, Nat.xor_zero]
    rw [Nat.xor_assoc, Nat.xor_assoc, Nat.xor_comm (y / 2)]
  · simp only [Nat.reduceAdd, Nat.reduceMod, Nat.zero_ne_one, ↓reduceIte, Nat.xor_zero]
    rw [Nat.xor_assoc, ← Nat.xor_assoc 3988292384, Nat.xor_comm 3988292384 (y / 2), Nat.xor_assoc (y / 2), Nat.xor_self, Nat.xor_zero]
theorem bitN_xor (n : Nat) : ∀ x y, bitN n (x ^^^ y) = bitN n x ^^^ bitN n y := by
  induction n with
  | zero => intro x y; rfl
  | succ n ih => intro x y; simp only [bitN, bit1_xor, ih]
theorem bitN_zero (n : Nat) : bitN n 0 = 0 := by
  induction n with
  | zero => rfl
  | succ n ih => simp only [bitN]; exact ih
theorem bitN_add (m n : Nat) : ∀ x, bitN (m + n) x = bitN n (bitN m x) := by
  induction m with
  | zero => intro x; simp [bitN]
  | succ m ih => intro x; rw [Nat.succ_add]; simp only [bitN]; exact ih _
theorem bit1_double (x : Nat) : bit1 (2 * x) = x := by
  unfold bit1; rw [show 2 * x % 2 = 0 by omega, show 2 * x / 2 = x by omega]; simp
theorem bitN_shift (k : Nat) : ∀ x, bitN k (x <<< k) = x := by
  induction k with
  | zero => intro x; simp [bitN]
  | succ k ih =>
    intro x
    simp only [bitN]
    have : x <<< (k + 1) = 2 * (x <<< k) := by rw [Nat.shiftLeft_succ]
    rw [this, bit1_double, ih]
theorem bit1_lt {x : Nat} (h : x < 4294967296) : bit1 x < 4294967296 := by
  unfold bit1
  have : x / 2 < 2 ^ 32 := by omega
  exact Nat.xor_lt_two_pow (n := 32) this (by split <;> omega)
theorem bitN_lt (n : Nat) : ∀ {x : Nat}, x < 4294967296 → bitN n x < 4294967296 := by
  induction n with
  | zero => intro x h; exact h
  | succ n ih => intro x h; exact ih (bit1_lt h)
theorem xor_eq_zero {x y : Nat} (h : x ^^^ y = 0) : x = y := by
  have h2 : (x ^^^ y) ^^^ y = 0 ^^^ y := by rw [h]
  rw [Nat.xor_assoc, Nat.xor_self, Nat.xor_zero, Nat.zero_xor] at h2
  exact h2
theorem bit1_zero {x : Nat} (h : x < 4294967296) (hz : bit1 x = 0) : x = 0 := by
  unfold bit1 at hz
  have := xor_eq_zero hz
  split at this <;> omega
theorem bitN_of_zero (n : Nat) : ∀ {x : Nat}, x < 4294967296 → bitN n x = 0 → x = 0 := by
  induction n with
  | zero => intro x _ h; exact h
  | succ n ih => intro x h hz; exact bit1_zero h (ih (bit1_lt h) hz)
theorem bitN_inj (n : Nat) {x y : Nat} (hx : x < 4294967296) (hy : y < 4294967296) (h : bitN n x = bitN n y) : x = y := by
  apply xor_eq_zero
  apply bitN_of_zero n (Nat.xor_lt_two_pow (n := 32) hx hy)
  rw [bitN_xor, h, Nat.xor_self]

theorem byteStep_lt {w c : Nat} (hw : w < 4294967296) (hc : c < 256) : byteStep w c < 4294967296 :=
  bitN_lt 8 (Nat.xor_lt_two_pow (n := 32) hw (by omega))
theorem word_append (a b : List Nat) : ∀ w, word w (a ++ b) = word (word w a) b := by
  induction a with
  | nil => intro w; rfl
  | cons c a ih => intro w; exact ih _
theorem word_lt (bs : List Nat) (hb : ∀ c ∈ bs, c < 256) : ∀ {w}, w < 4294967296 → word w bs < 4294967296 := by
  induction bs with
  | nil => intro w h; exact h
  | cons c bs ih => intro w h; exact ih (fun d hd => hb d (List.mem_cons_of_mem _ hd)) (byteStep_lt h (hb c List.mem_cons_self))
theorem big_big (x : Nat) : big ^^^ (big ^^^ x) = x := by rw [← Nat.xor_assoc, Nat.xor_self, Nat.zero_xor]
theorem big_lt : big < 4294967296 := by decide
theorem big_xor_lt {x : Nat} (h : x < 4294967296) : big ^^^ x < 4294967296 := Nat.xor_lt_two_pow (n := 32) big_lt h
theorem more_lt {s : Nat} (bs : List Nat) (hs : s < 4294967296) (hb : ∀ c ∈ bs, c < 256) : more s bs < 4294967296 := big_xor_lt (word_lt bs hb (big_xor_lt hs))
theorem sum_eq (bs : List Nat) : sum bs = more 0 bs := by simp [sum, more]
theorem sum_lt (bs : List Nat) (hb : ∀ c ∈ bs, c < 256) : sum bs < 4294967296 := by rw [sum_eq]; exact more_lt bs (by omega) hb
theorem more_more (s : Nat) (a b : List Nat) : more (more s a) b = more s (a ++ b) := by
  simp [more, big_big, word_append]
theorem more_sum (a b : List Nat) : more (sum a) b = sum (a ++ b) := by rw [sum_eq, more_more, ← sum_eq]
theorem more_nil (s : Nat) : more s [] = s := by simp [more, word, big_big]
/-- wherever bytes are cut in three -/
theorem cuts (bs : List Nat) (i k : Nat) (h : i ≤ k) : more (more (sum (bs.take i)) ((bs.take k).drop i)) (bs.drop k) = sum bs := by
  rw [more_sum, more_sum]
  congr 1
  have h1 : bs.take i = (bs.take k).take i := by rw [List.take_take, Nat.min_eq_left h]
  rw [h1, List.take_append_drop, List.take_append_drop]

/-! all bytes as one number, the first one lowest -/
def num : List Nat → Nat
  | [] => 0
  | c :: r => c ^^^ (num r <<< 8)
theorem word_num (bs : List Nat) : ∀ w, word w bs = bitN (8 * bs.length) (w ^^^ num bs) := by
  induction bs with
  | nil => intro w; simp [word, num, bitN]
  | cons c bs ih =>
    intro w
    simp only [word, num, List.length_cons, Nat.mul_succ]
    rw [ih, Nat.add_comm, bitN_add, ← Nat.xor_assoc, bitN_xor 8 (w ^^^ c), bitN_shift]
    rfl
theorem num_xor : ∀ {a b : List Nat}, a.length = b.length → num (List.zipWith (· ^^^ ·) a b) = num a ^^^ num b
  | [], [], _ => by simp [num]
  | x :: a, y :: b, h => by
    have ih := num_xor (a := a) (b := b) (by simpa using h)
    simp only [List.zipWith_cons_cons, num, ih, Nat.shiftLeft_xor_distrib]
    apply Nat.eq_of_testBit_eq; intro i
    simp only [Nat.testBit_xor]
    cases x.testBit i <;> cases y.testBit i <;> cases (num a <<< 8).testBit i <;> cases (num b <<< 8).testBit i <;> rfl
  | [], _ :: _, h => by simp at h
  | _ :: _, [], h => by simp at h
theorem xor_right_comm (a b c : Nat) : a ^^^ b ^^^ c = a ^^^ c ^^^ b := by rw [Nat.xor_assoc, Nat.xor_comm b, ← Nat.xor_assoc]
/-- three rows of as many bytes: of all three added the sum is the three sums added -/
theorem adds {n : Nat} {a b c all : List Nat} (ha : a.length = n) (hb : b.length = n) (hc : c.length = n) (hl : all.length = n)
    (hx : num all = num a ^^^ num b ^^^ num c) : sum all = sum a ^^^ sum b ^^^ sum c := by
  unfold sum
  rw [word_num, word_num, word_num, word_num, ha, hb, hc, hl, hx]
  generalize num a = x; generalize num b = y; generalize num c = z
  simp only [bitN_xor]
  generalize bitN (8 * n) big = g; generalize bitN (8 * n) x = p; generalize bitN (8 * n) y = q; generalize bitN (8 * n) z = r
  apply Nat.eq_of_testBit_eq; intro i
  simp only [Nat.testBit_xor]
  cases big.testBit i <;> cases g.testBit i <;> cases p.testBit i <;> cases q.testBit i <;> cases r.testBit i <;> rfl
/-- what differs within 32 bits, one behind the other, has another sum -/
theorem turned {a b : List Nat} {from_ M : Nat} (hl : a.length = b.length) (hfrom : from_ ≤ 8 * b.length) (hM : M < 4294967296) (hM0 : M ≠ 0)
    (hx : num a = num b ^^^ (M <<< from_)) : sum a ≠ sum b := by
  intro h
  apply hM0
  unfold sum at h
  have h1 : word big a = word big b := by
    have h2 : big ^^^ (big ^^^ word big a) = big ^^^ (big ^^^ word big b) := by rw [h]
    rwa [big_big, big_big] at h2
  rw [word_num, word_num, hl, hx, ← Nat.xor_assoc, bitN_xor _ (big ^^^ num b)] at h1
  have h3 : bitN (8 * b.length) (M <<< from_) = 0 := by
    generalize bitN (8 * b.length) (big ^^^ num b) = u at h1
    generalize bitN (8 * b.length) (M <<< from_) = v at h1 ⊢
    have h4 : u ^^^ (u ^^^ v) = u ^^^ u := by rw [h1]
    rwa [← Nat.xor_assoc, Nat.xor_self, Nat.zero_xor] at h4
  obtain ⟨d, hd⟩ : ∃ d, 8 * b.length = from_ + d := ⟨8 * b.length - from_, by omega⟩
  rw [hd, bitN_add, bitN_shift] at h3
  exact bitN_of_zero d hM h3
/-- one bit turned in one byte -/
theorem num_set : ∀ (b : List Nat) (j r : Nat), j < b.length → num (b.set j (b.getD j 0 ^^^ 1 <<< r)) = num b ^^^ 1 <<< (8 * j + r)
  | [], j, r, h => by simp at h
  | c :: b, 0, r, _ => by
    simp only [List.set_cons_zero, num, List.getD_cons_zero, Nat.mul_zero, Nat.zero_add]
    exact xor_right_comm _ _ _
  | c :: b, j + 1, r, h => by
    have ih := num_set b j r (by simpa using h)
    simp only [List.set_cons_succ, num, List.getD_cons_succ, ih, Nat.shiftLeft_xor_distrib, ← Nat.shiftLeft_add]
    rw [← Nat.xor_assoc, show 8 * j + r + 8 = 8 * (j + 1) + r by omega]
theorem num_append : ∀ (a b : List Nat), num (a ++ b) = num a ^^^ num b <<< (8 * a.length)
  | [], b => by simp [num]
  | c :: a, b => by
    simp only [List.cons_append, num, num_append a b, Nat.shiftLeft_xor_distrib, ← Nat.shiftLeft_add, List.length_cons]
    rw [← Nat.xor_assoc, show 8 * a.length + 8 = 8 * (a.length + 1) by omega]
theorem num_snoc (a : List Nat) (c : Nat) : num (a ++ [c]) = num a ^^^ c <<< (8 * a.length) := by rw [num_append]; simp [num]
/-- the low bits of the mask, one more -/
theorem mask_succ (m i : Nat) : m % 2 ^ (i + 1) = (m % 2 ^ i) ^^^ (m / 2 ^ i % 2) <<< i := by
  apply Nat.eq_of_testBit_eq; intro j
  simp only [Nat.testBit_mod_two_pow, Nat.testBit_xor, Nat.testBit_shiftLeft]
  have ht : ∀ k, (m / 2 ^ i % 2).testBit k = (decide (k = 0) && m.testBit i) := by
    intro k
    cases k with
    | zero => simp [Nat.testBit_eq_decide_div_mod_eq]
    | succ k =>
      have h2 : m / 2 ^ i % 2 < 2 ^ (k + 1) := Nat.lt_of_lt_of_le (Nat.mod_lt _ (by omega)) (by rw [Nat.pow_succ]; have := Nat.two_pow_pos k; omega)
      rw [Nat.testBit_lt_two_pow h2]; simp
  rw [ht]
  by_cases h : j < i
  · simp [h, show j < i + 1 by omega, show ¬ i ≤ j by omega]
  · by_cases h' : j = i
    · subst h'; simp
    · simp [h, show ¬ j < i + 1 by omega, show ¬ j - i = 0 by omega]
/-- bytes with their own sum behind them -/
theorem back (bs : List Nat) (s0 s1 s2 s3 : Nat) (hs : num [s0, s1, s2, s3] = sum bs) : sum (bs ++ [s0, s1, s2, s3]) = 558161692 := by
  unfold sum at hs ⊢
  rw [word_append, word_num [s0, s1, s2, s3], hs, ← Nat.xor_assoc, Nat.xor_comm (word big bs) big, Nat.xor_assoc, Nat.xor_self, Nat.xor_zero]
  show big ^^^ bitN 32 big = 558161692
  decide +kernel
theorem num4 (s : Nat) : num [s % 256, s / 256 % 256, s / 65536 % 256, s / 16777216 % 256] = s % 4294967296 := by
  have key : ∀ (c r : Nat), c < 256 → c ^^^ (r <<< 8) = c + 256 * r := by
    intro c r hc
    have h1 : c ^^^ (r <<< 8) = 2 ^ 8 * r ||| c := by
      rw [Nat.shiftLeft_eq, Nat.mul_comm]
      apply Nat.eq_of_testBit_eq; intro i
      simp only [Nat.testBit_xor, Nat.testBit_or, Nat.testBit_two_pow_mul]
      by_cases h : 8 ≤ i
      · rw [Nat.testBit_lt_two_pow (x := c) (i := i) (Nat.lt_of_lt_of_le (m := 2 ^ 8) hc (Nat.pow_le_pow_right (by omega) h))]; simp
      · simp [h]
    rw [h1, ← Nat.two_pow_add_eq_or_of_lt (i := 8) hc]
    omega
  simp only [num]
  rw [Nat.zero_shiftLeft, Nat.xor_zero, key _ _ (by omega), key _ _ (by omega), key _ _ (by omega)]
  omega
theorem ones_sum {s o a : Nat} (hs : s < 4294967296) (ho : o < 4294967296) (ha : a < 256) : more s [a] = more o [a] ↔ s = o := by
  refine ⟨fun h => ?_, fun h => by rw [h]⟩
  have h1 : word (big ^^^ s) [a] = word (big ^^^ o) [a] := by rw [← big_big (word (big ^^^ s) [a]), ← big_big (word (big ^^^ o) [a])]; exact congrArg _ h
  have h2 := bitN_inj 8 (Nat.xor_lt_two_pow (n := 32) (big_xor_lt hs) (by omega)) (Nat.xor_lt_two_pow (n := 32) (big_xor_lt ho) (by omega)) h1
  have h3 : big ^^^ s = big ^^^ o := by
    have h4 := congrArg (· ^^^ a) h2
    simpa [Nat.xor_assoc] using h4
  rw [← big_big s, ← big_big o, h3]
theorem ones_byte {s a b : Nat} (hs : s < 4294967296) (ha : a < 256) (hb : b < 256) : more s [a] = more s [b] ↔ a = b := by
  refine ⟨fun h => ?_, fun h => by rw [h]⟩
  have h1 : word (big ^^^ s) [a] = word (big ^^^ s) [b] := by rw [← big_big (word (big ^^^ s) [a]), ← big_big (word (big ^^^ s) [b])]; exact congrArg _ h
  have h2 := bitN_inj 8 (Nat.xor_lt_two_pow (n := 32) (big_xor_lt hs) (by omega)) (Nat.xor_lt_two_pow (n := 32) (big_xor_lt hs) (by omega)) h1
  have h3 := congrArg ((big ^^^ s) ^^^ ·) h2
  simpa [← Nat.xor_assoc] using h3
theorem known : sum [49, 50, 51, 52, 53, 54, 55, 56, 57] = 3421780262 := by decide +kernel
theorem known2 : more (sum [49, 50, 51, 52]) [53, 54, 55, 56, 57] = 3421780262 := by decide +kernel
end Go.Proofs.Ytmjgpgnecohbcaa.CrcM
