/- The program's Reader, its inner functions first. -/
import Derived.Test.YtmjgpgnecohbcaaMgD
import Derived.BigRegion
namespace Go.Proofs.Ytmjgpgnecohbcaa
open Go.RowKit

theorem pow128 (k : Nat) : (128 : Nat) ^ k = 2 ^ (7 * k) := by rw [Nat.pow_mul]
/-- a byte of 7 bits, put above the bits that were read -/
theorem shl_or (acc c k : Nat) (ha : acc < 128 ^ k) (hk : k ≤ 9) (hc : c < 128) (h9 : k = 9 → c ≤ 1) : bits BinOp.or IntKind.u64 (acc : Int) ((c * 128 ^ k : Nat) : Int) = ((acc + c * 128 ^ k : Nat) : Int) := by
  have hp := pow_le9 hk
  have hlt : c * 128 ^ k < 18446744073709551616 := by
    rcases Nat.lt_or_ge k 9 with h | h
    · have h2 : (128 : Nat) ^ k * 128 ≤ 9223372036854775808 := by rw [← Nat.pow_succ]; exact pow_le9 (by omega)
      have : c * 128 ^ k ≤ 127 * 128 ^ k := Nat.mul_le_mul_right _ (by omega)
      omega
    · have : k = 9 := by omega
      subst this
      rw [pow9]
      have := h9 rfl
      omega
  rw [u64_or_nat _ _ (by omega) hlt]
  congr 1
  rw [pow128, Nat.mul_comm c, Nat.or_comm, ← Nat.two_pow_add_eq_or_of_lt (by rw [← pow128]; exact ha)]
  omega

theorem shl_or9 (acc c k : Nat) (h9 : (k : Int) = 9) (ha : acc < 128 ^ k) (hc : (c : Int) ≤ 1) : bits BinOp.or IntKind.u64 (acc : Int) ((c : Int) * 9223372036854775808) = ((acc + c * 128 ^ k : Nat) : Int) := by
  have : k = 9 := by omega
  subst this
  rw [← shl_or acc c 9 ha (by omega) (by omega) (by omega), pow9]
  congr 1
theorem shl_orK (acc c k : Nat) (ha : acc < 128 ^ k) (hk : k ≤ 9) (h9 : ¬ (k : Int) = 9) (hc : c < 128) : bits BinOp.or IntKind.u64 (acc : Int) (IntKind.u64.wrap ((c : Int) * 2 ^ (7 * k))) = ((acc + c * 128 ^ k : Nat) : Int) := by
  rw [← shl_or acc c k ha hk hc (by omega)]
  congr 1
  have h2 : (128 : Nat) ^ k * 128 ≤ 9223372036854775808 := by rw [← Nat.pow_succ]; exact pow_le9 (by omega)
  have h3 : c * 128 ^ k ≤ 127 * 128 ^ k := Nat.mul_le_mul_right _ (by omega)
  have e : ((c : Int) * 2 ^ (7 * k)) = ((c * 128 ^ k : Nat) : Int) := by rw [pow128]; simp
  rw [e, IntKind.wrap_u64]
  omega

theorem shl_orD (acc c k : Nat) (ha : acc < 128 ^ k) (hk : k ≤ 9) (h9 : ¬ (k : Int) = 9) (h1 : ¬ c < 128) (h2 : c < 256) : bits BinOp.or IntKind.u64 (acc : Int) (IntKind.u64.wrap (((c : Int) - 128) * 2 ^ (7 * k))) = ((acc + (c - 128) * 128 ^ k : Nat) : Int) := by
  rw [show (c : Int) - 128 = ((c - 128 : Nat) : Int) by omega]
  exact shl_orK acc (c - 128) k ha hk h9 (by omega)
theorem acc_next (acc c k : Nat) (ha : acc < 128 ^ k) (h1 : ¬ c < 128) (h2 : c < 256) : acc + (c - 128) * 128 ^ k < 128 ^ (k + 1) := by
  have : (c - 128) * 128 ^ k ≤ 127 * 128 ^ k := Nat.mul_le_mul_right _ (by omega)
  rw [Nat.pow_succ]
  omega

set_option maxRecDepth 100000 in
set_option maxHeartbeats 2000000 in
theorem wnumber_any (B : Nat) (A : Option Addr) (n cap : Nat) (bs : List Nat) (w : World) (hb : Bts w B A n bs) :
    Calls Try.prog 117 #[.slice A n cap] w fun e w' => e = .returned (.tuple #[.int .u64 ((get bs).1 : Nat), .int .i64 ((get bs).2.1 : Nat), .int .i64 ((get bs).2.2 : Nat)]) ∧ w' = w := by
  obtain ⟨hlen, hmax, hby, hcell⟩ := hb
  go_enter Try.func117, Try.ntmps117
  go_wp2
  go_loop [5, 10] (fun a i => ∃ k acc : Nat, k ≤ n ∧ k ≤ 9 ∧ i = .int .i64 k ∧ a = .int .u64 acc ∧ acc < 128 ^ k ∧ get bs = getW k acc (bs.drop k)) (fun _ i => n - (intOf i).toNat)
  case atStart => exact ⟨0, 0, by omega, by omega, rfl, rfl, by simp, rfl⟩
  case round =>
    obtain ⟨k, acc, hk, hk9, rfl, rfl, hacc, hget⟩ := hrel
    by_cases hlt : k < n
    · obtain ⟨b, off, rfl, hbg, hcs⟩ := hcell (by omega)
      have hcx := hcs k hlt
      have hc256 : bs.getD k 0 < 256 := by
        rw [List.getD_eq_getElem?_getD, List.getElem?_eq_getElem (by omega)]; exact hby _ (List.getElem_mem _)
      have hd : bs.drop k = bs.getD k 0 :: bs.drop (k + 1) := by
        rw [List.getD_eq_getElem?_getD, List.getElem?_eq_getElem (by omega), List.drop_eq_getElem_cons (by omega)]; rfl
      rw [hd, getW] at hget
      clear hd hcs hcell hby
      generalize hcc : bs.getD k 0 = c at *
      clear hcc
      by_cases h9 : k = 9 ∧ 1 < c
      · rw [if_pos h9] at hget
        rw [hget]
        obtain ⟨rfl, h1⟩ := h9
        go_wp2
        go_ret3
        exact ⟨rfl, rfl⟩
      · rw [if_neg h9] at hget
        by_cases h0 : 0 < k ∧ c = 0
        · rw [if_pos h0] at hget
          rw [hget]
          obtain ⟨h1, rfl⟩ := h0
          go_wp2
          all_goals (go_ret3; exact ⟨rfl, rfl⟩)
        · rw [if_neg h0] at hget
          by_cases h128 : c < 128
          · rw [if_pos h128] at hget
            by_cases hk9' : k = 9
            · subst hk9'
              have hv := shl_or9 acc c 9 rfl hacc (by omega)
              generalize acc + c * 128 ^ 9 = V at *
              clear hacc
              rw [hget]
              go_wp2
              all_goals (go_ret3; exact ⟨rfl, rfl⟩)
            · have hv := shl_orK acc c k hacc hk9 (by omega) h128
              have hne : ¬ (k : Int) = 9 := by omega
              generalize acc + c * 128 ^ k = V at *
              clear hacc
              rw [hget]
              go_wp2
              all_goals (go_ret3; exact ⟨rfl, rfl⟩)
          · rw [if_neg h128] at hget
            have hne : ¬ (k : Int) = 9 := by omega
            go_wp2
            all_goals exact ⟨⟨k + 1, acc + (c - 128) * 128 ^ k, by omega, by omega, by go_num, by rw [shl_orD acc c k hacc hk9 hne h128 hc256], acc_next acc c k hacc h128 hc256, hget⟩, by simp [intOf]; omega⟩
    · have hkn : k = n := by omega
      subst hkn
      rw [List.drop_eq_nil_of_le (by omega), getW] at hget
      rw [hget]
      go_wp2
      go_ret3
      exact ⟨rfl, rfl⟩

/-- a number up to a bound -/
def sml (bs : List Nat) (most : Int) : Nat × Nat × Nat :=
  if (get bs).2.2 ≠ 0 then (0, 0, (get bs).2.2) else if most < 0 ∨ most < ((get bs).1 : Nat) then (0, 0, 8) else get bs
/-- bytes behind their number -/
def tak (bs : List Nat) (most : Int) : List Nat × Nat × Nat :=
  if (sml bs most).2.2 ≠ 0 then ([], 0, (sml bs most).2.2) else if bs.length - (sml bs most).2.1 < (sml bs most).1 then ([], 0, 3) else ((bs.drop (sml bs most).2.1).take (sml bs most).1, (sml bs most).2.1 + (sml bs most).1, 0)

set_option maxRecDepth 100000 in
set_option maxHeartbeats 1000000 in
theorem small_any (B : Nat) (A : Option Addr) (n cap : Nat) (bs : List Nat) (most : Int) (hm : (Lit.int .i64 most).wf = true) (w : World) (hb : Bts w B A n bs) :
    Calls Try.prog 105 #[.slice A n cap, .int .i64 most] w fun e w' => e = .returned (.tuple #[.int .i64 ((sml bs most).1 : Nat), .int .i64 ((sml bs most).2.1 : Nat), .int .i64 ((sml bs most).2.2 : Nat)]) ∧ w' = w := by
  have hnum := wnumber_any B A n cap bs w hb
  have hbk : ∀ n k, get bs = (n, k, 0) → n < 18446744073709551616 := fun n k h => (get_back hb.2.2.1 h).2.2.1
  have her : ∀ n k c, get bs = (n, k, c) → c = 0 ∨ c = 2 ∨ c = 3 := fun n k c h => by rcases get_err h with h | h <;> omega
  clear hb
  unfold sml
  generalize get bs = G at *
  obtain ⟨x, k, c⟩ := G
  have hxx : c = 0 → x < 18446744073709551616 := fun h => hbk x k (by rw [h])
  have hcc := her x k c rfl
  clear hbk her
  simp only at hnum ⊢
  have hms := bounds_i64 hm
  clear hm
  by_cases hc : c = 0
  · subst hc
    have hx := hxx rfl
    clear hxx
    rw [if_neg (by simp)]
    by_cases hlo : most < 0
    · rw [if_pos (.inl hlo)]
      go_enter Try.func105, Try.ntmps105
      go_wp2_with fail
      refine hnum.mono ?_
      rintro e w1 ⟨rfl, rfl⟩
      go_wp2
      go_ret3
      exact ⟨rfl, rfl⟩
    · have hw : IntKind.u64.wrap most = most := by rw [IntKind.wrap_u64]; omega
      by_cases hhi : most < (x : Int)
      · rw [if_pos (.inr hhi)]
        go_enter Try.func105, Try.ntmps105
        go_wp2_with fail
        refine hnum.mono ?_
        rintro e w1 ⟨rfl, rfl⟩
        go_wp2
        go_ret3
        exact ⟨rfl, rfl⟩
      · rw [if_neg (by omega)]
        have hxi : IntKind.i64.wrap (x : Int) = x := by rw [IntKind.wrap_i64]; omega
        go_enter Try.func105, Try.ntmps105
        go_wp2_with fail
        refine hnum.mono ?_
        rintro e w1 ⟨rfl, rfl⟩
        go_wp2
        go_ret3
        exact ⟨rfl, rfl⟩
  · rw [if_pos hc]
    have hci : ¬ (c : Int) = 0 := by omega
    go_enter Try.func105, Try.ntmps105
    go_wp2_with fail
    refine hnum.mono ?_
    rintro e w1 ⟨rfl, rfl⟩
    go_wp2
    go_ret3
    exact ⟨rfl, rfl⟩

theorem get_len {bs : List Nat} (hb : ∀ c ∈ bs, c < 256) : (get bs).2.1 ≤ bs.length := by
  generalize hg : get bs = G at *
  obtain ⟨x, k, c⟩ := G
  rcases get_err hg with ⟨rfl, _⟩ | ⟨_, rfl, _⟩
  · exact (get_back hb hg).2.2.2
  · exact Nat.zero_le _
theorem sml_len {bs : List Nat} (hb : ∀ c ∈ bs, c < 256) (most : Int) : (sml bs most).2.1 ≤ bs.length := by
  have := get_len hb
  unfold sml
  split
  · exact Nat.zero_le _
  · split
    · exact Nat.zero_le _
    · exact this
theorem sml_code {bs : List Nat} (most : Int) : (sml bs most).2.2 = 0 ∨ (sml bs most).2.2 = 2 ∨ (sml bs most).2.2 = 3 ∨ (sml bs most).2.2 = 8 := by
  have : (get bs).2.2 = 0 ∨ (get bs).2.2 = 2 ∨ (get bs).2.2 = 3 := by
    generalize hg : get bs = G at *
    obtain ⟨x, k, c⟩ := G
    rcases get_err hg with h | h
    · exact .inl h.1
    · exact .inr h.2.2
  unfold sml
  split
  · rcases this with h | h | h <;> simp [h]
  · split
    · simp
    · rcases this with h | h | h <;> simp [h]
theorem sml_most {bs : List Nat} {most : Int} (h : (sml bs most).2.2 = 0) : ((sml bs most).1 : Int) ≤ most := by
  unfold sml at *
  split at h
  · rename_i h1; exact absurd h h1
  · split at h
    · simp at h
    · rename_i h1 h2
      rw [if_neg h1, if_neg h2]
      omega
theorem tak_code {bs : List Nat} (most : Int) : (tak bs most).2.2 = 0 ∨ (tak bs most).2.2 = 2 ∨ (tak bs most).2.2 = 3 ∨ (tak bs most).2.2 = 8 := by
  have := sml_code (bs := bs) most
  unfold tak
  split
  · exact this
  · split <;> simp
theorem tak_len {bs : List Nat} (hb : ∀ c ∈ bs, c < 256) (most : Int) : (tak bs most).2.1 ≤ bs.length := by
  have := sml_len hb most
  unfold tak
  split
  · exact Nat.zero_le _
  · split
    · exact Nat.zero_le _
    · simp only; omega
end Go.Proofs.Ytmjgpgnecohbcaa
