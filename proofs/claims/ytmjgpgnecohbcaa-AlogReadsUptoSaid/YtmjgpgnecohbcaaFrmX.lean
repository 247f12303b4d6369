/- The document's own frame (the reference): Take. -/
import Derived.Test.YtmjgpgnecohbcaaMgI
namespace Go.Proofs.Ytmjgpgnecohbcaa
open Go.RowKit CrcM

theorem tail_nil {A : Option Addr} {n cap k : Nat} (hnil : A = none → cap = 0) (hk : k ≤ n) (hc : n ≤ cap) : (if cap = k then A else A.map fun x => x.add k) = none → n - k = 0 ∧ cap - k = 0 := by
  intro h
  cases A with
  | none => have := hnil rfl; omega
  | some a =>
    split at h
    · cases h
    · cases h

set_option maxHeartbeats 4000000 in
theorem rtake_room {w : World} {B : Nat} {A : Option Addr} {n cap : Nat} {bs : List Nat} (hb : Bts w B A n bs) (hnil : A = none → cap = 0) (hcap : n ≤ cap) :
    Calls Try.prog 64 #[.slice A n cap] w fun e w' => ∃ A1 n1 c1 A2 n2 c2, e = .returned (.tuple #[.slice A1 n1 c1, .slice A2 n2 c2, .int .i64 ((tke bs).1 : Nat)]) ∧
      Bts w B A1 n1 (tke bs).2.1 ∧ (A1 = none → n1 = 0 ∧ c1 = 0) ∧ Bts w B A2 n2 (tke bs).2.2 ∧ (A2 = none → n2 = 0 ∧ c2 = 0) ∧ Below w.heap.size w w' ∧ n1 ≤ c1 ∧ c1 ≤ cap := by
  obtain ⟨hlen, hmax, hby, hcell⟩ := id hb
  by_cases h8 : n < 8
  · have ht : tke bs = (3, [], []) := by unfold tke; rw [if_pos (by omega)]
    rw [ht]
    clear hb hcell hby
    go_enter Try.func64, Try.ntmps64
    go_wp2
    go_ret3
    exact ⟨_, _, _, _, _, _, rfl, Bts.nil, fun _ => ⟨rfl, rfl⟩, Bts.nil, fun _ => ⟨rfl, rfl⟩, Below.refl _ _, Nat.le_refl _, Nat.zero_le _⟩
  · obtain ⟨b0, b1, b2, b3, b4, b5, b6, b7, more, rfl⟩ := eight_of (bs := bs) (by omega)
    have hbl : ∀ c ∈ [b0, b1, b2, b3], c < 256 := fun c hc => hby c (by simp at hc ⊢; omega)
    have hm : more.length = n - 8 := by simp at hlen; omega
    have ht : tke (b0 :: b1 :: b2 :: b3 :: b4 :: b5 :: b6 :: b7 :: more) = if 4096 < num4 [b0, b1, b2, b3] then (5, [], []) else if n - 8 < num4 [b0, b1, b2, b3] then (3, [], [])
        else if CrcM.more (CrcM.sum [b0, b1, b2, b3]) (more.take (num4 [b0, b1, b2, b3])) ≠ num4 [b4, b5, b6, b7] then (4, [], []) else (0, more.take (num4 [b0, b1, b2, b3]), more.drop (num4 [b0, b1, b2, b3])) := by
      unfold tke
      rw [if_neg (by omega)]
      have e8 : ∀ k, (b0 :: b1 :: b2 :: b3 :: b4 :: b5 :: b6 :: b7 :: more).drop (8 + k) = more.drop k := fun k => by rw [Nat.add_comm]; rfl
      rw [e8, hlen]
      rfl
    have hn1 := Lib.hid (fun u (h : Bts u B A n (b0 :: b1 :: b2 :: b3 :: b4 :: b5 :: b6 :: b7 :: more)) => rnumber_any b0 b1 b2 b3 _ B A n cap u h)
    have hb4 := hb.rest (k := 4) (cap := cap) (by omega) hcap
    have hn2 := Lib.hid (fun u c A4 n4 (h : Bts u B A4 n4 (b4 :: b5 :: b6 :: b7 :: more)) => rnumber_any b4 b5 b6 b7 more B A4 n4 c u h)
    have hlow := Lib.hid (hb.head (m := 4) (by omega))
    have hsm := sum_lt [b0, b1, b2, b3] hbl
    have hN := num4_lt hbl
    have HB := Lib.hid hb
    have HB4 := Lib.hid hb4
    generalize hTT : tke (b0 :: b1 :: b2 :: b3 :: b4 :: b5 :: b6 :: b7 :: more) = T at *
    generalize hNN : num4 [b0, b1, b2, b3] = N at *
    have HT := Lib.hid ht
    clear hTT hb hb4 hcell hby hbl ht hNN hlen
    go_enter Try.func64, Try.ntmps64
    go_wp2_with fail
    refine (hn1.out _ HB.out).mono ?_
    rintro e u1 ⟨rfl, rfl⟩
    by_cases hbig : 4096 < N
    · go_wp2
      go_ret3
      rw [HT.out, if_pos hbig]
      exact ⟨_, _, _, _, _, _, rfl, Bts.nil, fun _ => ⟨rfl, rfl⟩, Bts.nil, fun _ => ⟨rfl, rfl⟩, Below.refl _ _, Nat.le_refl _, Nat.zero_le _⟩
    by_cases hshort : n - 8 < N
    · go_wp2
      go_ret3
      rw [HT.out, if_neg hbig, if_pos hshort]
      exact ⟨_, _, _, _, _, _, rfl, Bts.nil, fun _ => ⟨rfl, rfl⟩, Bts.nil, fun _ => ⟨rfl, rfl⟩, Below.refl _ _, Nat.le_refl _, Nat.zero_le _⟩
    have hst := fun W => run_midK .i64 .i64 A n cap 8 (8 + N) 8 (8 + (N : Int)) rfl (by omega) (by omega) (by omega) W
    have hst4 := fun W => run_headK .i64 A n cap 4 (by omega) W
    have hst5 := fun W => run_tailK .i64 A n cap 4 4 rfl (by omega) W
    have hst6 := fun W => run_tailK .i64 A n cap (8 + N) (8 + (N : Int)) (by omega) (by omega) W
    have e4 : ((4 : Nat) : Int) = 4 := rfl
    rw [e4] at hst4
    have hwr0 : IntKind.i64.wrap (N : Int) = N := by rw [IntKind.wrap_i64]; omega
    have hwr : IntKind.i64.wrap (8 + (N : Int)) = 8 + N := by rw [IntKind.wrap_i64]; omega
    have hnA := Lib.hid (tail_nil (k := 8) (n := 8 + N) (cap := cap) hnil (by omega) (by omega))
    have hnB := Lib.hid (tail_nil (k := 8 + N) (n := n) (cap := cap) hnil (by omega) hcap)
    have hbA := HB.out.cutIf (k := 8) (m := 8 + N) (cap := cap) (by omega) (by omega) hcap
    have hbB := HB.out.rest (k := 8 + N) (cap := cap) (by omega) hcap
    have e9 : ((b0 :: b1 :: b2 :: b3 :: b4 :: b5 :: b6 :: b7 :: more).take (8 + N)).drop 8 = more.take N := by
      rw [List.drop_take, Nat.add_sub_cancel_left]
      rfl
    have e10 : (b0 :: b1 :: b2 :: b3 :: b4 :: b5 :: b6 :: b7 :: more).drop (8 + N) = more.drop N := by rw [Nat.add_comm]; rfl
    rw [e9, Nat.add_sub_cancel_left] at hbA
    rw [e10] at hbB
    simp only [Nat.add_sub_cancel_left] at hst
    clear e9 e10 e4
    generalize (if cap = 8 then A else A.map fun x => x.add 8) = AM at *
    generalize (if cap = 8 + N then A else A.map fun x => x.add (8 + N)) = AR at *
    have HB4' := HB4.out
    generalize (if cap = 4 then A else A.map fun x => x.add 4) = A4 at *
    have hR := more_lt (more.take N) hsm hbA.2.2.1
    have HBA := Lib.hid hbA
    have HBB := Lib.hid hbB
    have H4 := Lib.hid HB4'
    clear HB4 HB4' hbA hbB
    generalize hS : CrcM.sum [b0, b1, b2, b3] = S at *
    have HS := Lib.hid hS
    generalize hRR : CrcM.more S (more.take N) = R at *
    have HR := Lib.hid hRR
    generalize hN2 : num4 [b4, b5, b6, b7] = N2 at *
    have d1 : Bts u1.drew B A 4 [b0, b1, b2, b3] := hlow.out
    have d2 : Bts u1.drew B AM N (more.take N) := HBA.out
    have d3 : Bts u1.drew B A4 (n - 4) (b4 :: b5 :: b6 :: b7 :: more) := H4.out
    have D1 := Lib.hid fun c => CrcR.sum_any A 4 c [b0, b1, b2, b3] B _ d1
    have D2 := Lib.hid fun c => CrcR.more_any S hsm AM N c (more.take N) B _ d2
    have D3 := Lib.hid fun c => hn2.out _ c _ _ d3
    rw [hS] at D1
    rw [hRR] at D2
    clear hS hRR hN2
    clear d1 d2 d3
    go_wp2
    go_region_with (first
      | (go_at_call 60
         refine (D1.out _).mono ?_
         rintro e v ⟨rfl, rfl⟩)
      | (go_at_call 59
         refine (D2.out _).mono ?_
         rintro e v ⟨rfl, rfl⟩)
      | (go_at_call 80
         refine (D3.out _).mono ?_
         rintro e v ⟨rfl, rfl⟩))
    by_cases hRN : R = N2
    · have hq : ((R : Int) != (N2 : Int)) = false := by rw [hRN]; simp
      have HQ := Lib.hid hRN
      clear hRN
      go_wp2
      go_region
      go_wp2
      go_ret3
      rw [HT.out, if_neg hbig, if_neg hshort, if_neg (fun h => h HQ.out)]
      refine ⟨AM, N, cap - 8, AR, n - (8 + N), cap - (8 + N), ?_, HBA.out, (fun h => ⟨by have := hnA.out h; omega, (hnA.out h).2⟩), HBB.out, (fun h => hnB.out h), ?_, by omega, by omega⟩
      · go_simp
      · exact ((Below.refl _ _).drew).drew
    · have hq : ((R : Int) != (N2 : Int)) = true := by simp [Int.natCast_inj, hRN]
      have HQ := Lib.hid hRN
      clear hRN
      go_wp2
      go_ret3
      rw [HT.out, if_neg hbig, if_neg hshort, if_pos HQ.out]
      exact ⟨_, _, _, _, _, _, rfl, Bts.nil, fun _ => ⟨rfl, rfl⟩, Bts.nil, fun _ => ⟨rfl, rfl⟩, (Below.refl _ _).drew, Nat.le_refl _, Nat.zero_le _⟩
theorem rtake_any {w : World} {B : Nat} {A : Option Addr} {n cap : Nat} {bs : List Nat} (hb : Bts w B A n bs) (hnil : A = none → cap = 0) (hcap : n ≤ cap) :
    Calls Try.prog 64 #[.slice A n cap] w fun e w' => ∃ A1 n1 c1 A2 n2 c2, e = .returned (.tuple #[.slice A1 n1 c1, .slice A2 n2 c2, .int .i64 ((tke bs).1 : Nat)]) ∧
      Bts w B A1 n1 (tke bs).2.1 ∧ (A1 = none → n1 = 0 ∧ c1 = 0) ∧ Bts w B A2 n2 (tke bs).2.2 ∧ (A2 = none → n2 = 0 ∧ c2 = 0) ∧ Below w.heap.size w w' := by
  refine (rtake_room hb hnil hcap).mono ?_
  rintro e w' ⟨A1, n1, c1, A2, n2, c2, h0, h1, h2, h3, h4, h5, -, -⟩
  exact ⟨A1, n1, c1, A2, n2, c2, h0, h1, h2, h3, h4, h5⟩
end Go.Proofs.Ytmjgpgnecohbcaa
