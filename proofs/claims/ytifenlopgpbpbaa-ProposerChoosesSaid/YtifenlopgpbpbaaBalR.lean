/- Count and Most of the document. -/
import Derived.Test.YtifenlopgpbpbaaBalQ
namespace Go.Proofs.Ytifenlopgpbpbaa
open Go.RowKit Go.Maps

/-- still unlike all so far -/
def freshB (n : Int) (L : List Int) (s : Int) (q : Nat) : Bool := decide (isSiteB s n = true ∧ s ∉ L.take q)
theorem fresh_zero (n : Int) (L : List Int) (s : Int) : freshB n L s 0 = isSiteB s n := by unfold freshB; simp
theorem fresh_succ (n : Int) (L : List Int) (s : Int) (q : Nat) (h : q < L.length) : freshB n L s (q + 1) = (freshB n L s q && decide (L[q] ≠ s)) := by
  unfold freshB
  rw [List.take_succ_eq_append_getElem h, ← Bool.decide_and]
  congr 1
  rw [List.mem_append, List.mem_singleton]
  apply propext
  constructor
  · rintro ⟨h1, h2⟩; exact ⟨⟨h1, fun h => h2 (.inl h)⟩, fun h => h2 (.inr h.symm)⟩
  · rintro ⟨⟨h1, h2⟩, h3⟩; exact ⟨h1, fun h => h.elim h2 (fun h => h3 h.symm)⟩
theorem fresh_uq (n : Int) (L : List Int) (k : Nat) (h : k < L.length) : (uq n (L.take (k + 1))).length = (uq n (L.take k)).length + if freshB n L L[k] k = true then 1 else 0 := by
  rw [List.take_succ_eq_append_getElem h, uq_snoc]
  unfold uqStep freshB
  by_cases h1 : isSiteB L[k] n = true ∧ L[k] ∉ L.take k
  · have h2 : isSiteB L[k] n = true ∧ L[k] ∉ uq n (L.take k) := ⟨h1.1, fun h => h1.2 (uq_mem.1 h).2⟩
    rw [if_pos h2, decide_eq_true h1]
    simp
  · have h2 : ¬ (isSiteB L[k] n = true ∧ L[k] ∉ uq n (L.take k)) := fun h => h1 ⟨h.1, fun hx => h.2 (uq_mem.2 ⟨h.1, hx⟩)⟩
    rw [if_neg h2, decide_eq_false h1]
    simp

set_option maxRecDepth 100000 in
set_option maxHeartbeats 2000000 in
theorem count_any {w : World} {A : Option Addr} {N cap : Nat} {L : List Int} {n : Int} (hl : L.length = N) (hR : IntsAt w A L) (hN : N ≤ 1099511627776) :
    Calls Try.prog 36 #[.slice A N cap, .int .i64 n] w fun e w' => e = .returned (.int .i64 ((uq n L).length : Nat)) ∧ Below w.heap.size w w' := by
  have HI := Lib.hid (refsite_any · n)
  have HR := Lib.hid hR
  have HL := Lib.hid hl
  have HT : Hid (uq n (L.take L.length) = uq n L) := Lib.hid (by rw [List.take_length])
  clear hR hl
  go_enter Try.func36, Try.ntmps36
  go_wp2
  go_loopw [5, 6] (fun m i wr => ∃ k : Nat, k ≤ N ∧ i = .int .i64 k ∧ m = .int .i64 ((uq n (L.take k)).length : Nat) ∧ Kept w wr) (fun _ i _ => N - (intOf i).toNat)
  case atStart => exact ⟨0, Nat.zero_le _, rfl, rfl, Kept.refl _⟩
  case round =>
    obtain ⟨k, hk, rfl, rfl, kk⟩ := hrel
    have HKK := Lib.hid kk
    by_cases hlt : k < N
    · have hkl : k < L.length := by rw [HL.out]; exact hlt
      obtain ⟨b, off, rfl, hb, hat⟩ := HR.out.2 k hkl
      have hfu := Lib.hid (fresh_uq n L k hkl)
      have hfs := Lib.hid (fun q hq => fresh_succ n L L[k] q hq)
      have hf0 := Lib.hid (fresh_zero n L L[k])
      have hml := uq_len n (L.take k)
      rw [List.length_take] at hml
      generalize hrr : L[k] = s at *
      generalize (uq n (L.take k)).length = m at *
      have c0 := (kk.cell (p := ⟨b, off + k, none⟩) hb).trans hat
      have hi := Lib.hid (HI.out s)
      have hbw : b < wr.heap.size := Nat.lt_of_lt_of_le hb HKK.out.2
      clear hrr kk
      go_wp2_with fail
      refine (hi.out _).mono ?_
      rintro e u ⟨rfl, rfl⟩
      rw [← hf0.out]
      go_wp2
      go_loopw [7, 8] (fun f j wq => ∃ q : Nat, q ≤ k ∧ j = .int .i64 q ∧ f = .bool (freshB n L s q) ∧ Kept w wq) (fun _ j _ => k - (intOf j).toNat)
      case atStart => exact ⟨0, Nat.zero_le _, rfl, rfl, HKK.out⟩
      case round =>
        obtain ⟨q, hq, rfl, rfl, kq⟩ := hrel
        have HQK := Lib.hid kq
        by_cases hqk : q < k
        · have hql : q < L.length := by omega
          obtain ⟨b', off', he, hb', hatq⟩ := HR.out.2 q hql
          obtain ⟨rfl, rfl⟩ : b = b' ∧ off = off' := by injection he with he; injection he with h1 h2; exact ⟨h1, h2⟩
          have hfq := Lib.hid (hfs.out q hql)
          generalize hLq : L[q] = sq at *
          rename_i wq _ _
          have c1 := (kq.cell (p := ⟨b, off + k, none⟩) hb).trans hat
          have c2 := (kq.cell (p := ⟨b, off + q, none⟩) hb).trans hatq
          clear he hatq kq hLq
          generalize hff : freshB n L s q = f at *
          clear hff
          cases f with
          | false =>
            go_wp2
            go_region
            go_wp2
            go_roundw
            case rel => exact ⟨q + 1, by omega, by go_num, by rw [hfq.out]; rfl, HQK.out.drew⟩
            case measure => simp [intOf]; omega
          | true =>
            go_wp2
            go_region
            go_wp2
            go_roundw
            case rel => exact ⟨q + 1, by omega, by go_num, by rw [hfq.out, Bool.true_and]; exact congrArg Value.bool (by rw [Bool.eq_iff_iff]; simp), HQK.out.drew⟩
            case measure => simp [intOf]; omega
        · obtain rfl : q = k := by omega
          cases hff : freshB n L s q with
          | false =>
            rw [hff] at hfu
            go_wp2
            go_roundw
            case rel => exact ⟨q + 1, by omega, by go_num, by rw [hfu.out]; simp, HQK.out⟩
            case measure => simp [intOf]; omega
          | true =>
            rw [hff] at hfu
            go_wp2
            go_roundw
            case rel => exact ⟨q + 1, by omega, by go_num, by rw [hfu.out]; simp, HQK.out⟩
            case measure => simp [intOf]; omega
    · obtain rfl : k = N := by omega
      have e : (uq n (L.take k)).length = (uq n L).length := by rw [← HL.out, HT.out]
      rw [e]
      go_wp2
      go_ret
      exact ⟨rfl, HKK.out.1⟩

set_option maxHeartbeats 1000000 in
theorem refmost_any {w : World} {A : Option Addr} {N cap : Nat} {L : List Int} {n : Int} (hl : L.length = N) (hR : IntsAt w A L) (hN : N ≤ 1099511627776) (hn : n ≤ 9223372036854775807) :
    Calls Try.prog 27 #[.slice A N cap, .int .i64 n] w fun e w' => e = .returned (.bool (mostB n L)) ∧ Below w.heap.size w w' := by
  have HC := Lib.hid (count_any (n := n) (cap := cap) hl hR hN)
  have HJ := Lib.hid (refmajor_any n hn)
  by_cases h1 : 1 ≤ n
  · have e : mostB n L = decide (majorI n ≤ ((uq n L).length : Int)) := by unfold mostB; simp [h1]
    rw [e]
    generalize (uq n L).length = S at *
    generalize majorI n = m at *
    clear e hR hl hn
    go_enter Try.func27, Try.ntmps27
    go_wp2_with fail
    refine HC.out.mono ?_
    rintro e u ⟨rfl, hb⟩
    go_wp2_with fail
    refine (HJ.out _).mono ?_
    rintro e u ⟨rfl, rfl⟩
    go_wp2
    go_ret
    exact ⟨rfl, hb⟩
  · have e : mostB n L = false := decide_eq_false (fun h => h1 h.1)
    rw [e]
    clear e hR hl hn
    go_enter Try.func27, Try.ntmps27
    go_wp2
    go_ret
    exact ⟨rfl, Below.refl _ _⟩


end Go.Proofs.Ytifenlopgpbpbaa
