/- Of the document: a number up to a bound (Small), bytes behind their number (Take). -/
import Derived.Test.YtmjgpgnecohbcaaAlgZe
import Derived.Test.YtmjgpgnecohbcaaWireR
namespace Go.Proofs.Ytmjgpgnecohbcaa
open Go.RowKit

set_option maxRecDepth 100000 in
set_option maxHeartbeats 1000000 in
theorem refsmall_any {B : Nat} {A : Option Addr} {n cap : Nat} {bs : List Nat} {w : World} (hb : Bts w B A n bs) {p : Nat} (hp : p ≤ n) {M : Nat} (hM : M ≤ 1099511627776) :
    Calls Try.prog 65 #[.slice A n cap, .int .i64 p, .int .i64 M] w fun e w' => e = .returned (.tuple #[.int .i64 ((sml (bs.drop p) M).1 : Nat), .int .i64 ((sml (bs.drop p) M).2.1 : Nat), .int .i64 ((sml (bs.drop p) M).2.2 : Nat)]) ∧ w' = w := by
  have HG := Lib.hid (refget_any (cap := cap) hb hp)
  have her : ∀ n k c, get (bs.drop p) = (n, k, c) → c = 0 ∨ c = 2 ∨ c = 3 := fun n k c h => by rcases get_err h with h | h <;> omega
  clear hb
  unfold sml
  generalize get (bs.drop p) = G at *
  obtain ⟨x, k, c⟩ := G
  have hcc := her x k c rfl
  clear her
  simp only at HG ⊢
  by_cases hc : c = 0
  · subst hc
    rw [if_neg (by simp)]
    have hm0 : ¬ (M : Int) < 0 := by omega
    have hu : IntKind.u64.wrap (M : Int) = (M : Int) := by rw [IntKind.wrap_u64]; omega
    by_cases hx : (M : Int) < (x : Int)
    · rw [if_pos (.inr hx)]
      clear hcc
      go_enter Try.func65, Try.ntmps65
      go_wp2_with fail
      refine HG.out.mono ?_
      rintro e u ⟨rfl, rfl⟩
      go_wp2
      go_ret3
      exact ⟨rfl, rfl⟩
    · rw [if_neg (by omega)]
      have hux : IntKind.i64.wrap (x : Int) = (x : Int) := by rw [IntKind.wrap_i64]; omega
      clear hcc
      go_enter Try.func65, Try.ntmps65
      go_wp2_with fail
      refine HG.out.mono ?_
      rintro e u ⟨rfl, rfl⟩
      go_wp2
      go_ret3
      exact ⟨rfl, rfl⟩
  · rw [if_pos hc]
    have hc' : ¬ (c : Int) = 0 := by omega
    clear hcc
    go_enter Try.func65, Try.ntmps65
    go_wp2_with fail
    refine HG.out.mono ?_
    rintro e u ⟨rfl, rfl⟩
    go_wp2
    go_ret3
    exact ⟨rfl, rfl⟩

theorem sml_room {D : List Nat} {M : Int} (hb : ∀ c ∈ D, c < 256) : (sml D M).2.1 ≤ D.length ∧ ((sml D M).2.2 = 0 → ((sml D M).1 : Int) ≤ M) := by
  unfold sml
  have hg : ∀ n k, get D = (n, k, 0) → k ≤ D.length := fun n k h => (get_back hb h).2.2.2
  generalize get D = G at *
  obtain ⟨x, k, c⟩ := G
  simp only
  split
  · simp; intro h; contradiction
  · rename_i hc
    simp only [ne_eq, Decidable.not_not] at hc
    subst hc
    split
    · simp
    · exact ⟨hg x k rfl, fun _ => by simp only; omega⟩

set_option maxRecDepth 100000 in
set_option maxHeartbeats 1000000 in
theorem reftake_any {A : Option Addr} {n cap : Nat} {bs : List Nat} {w : World} (hb : Row w A n cap bs) {p : Nat} (hp : p ≤ n) {M : Nat} (hM : M ≤ 1099511627776) :
    Calls Try.prog 66 #[.slice A n cap, .int .i64 p, .int .i64 M] w fun e w' => ∃ v, e = .returned (.tuple #[v, .int .i64 ((tak (bs.drop p) M).2.1 : Nat), .int .i64 ((tak (bs.drop p) M).2.2 : Nat)]) ∧ Own w' w.heap.size v (tak (bs.drop p) M).1 ∧ Below w.heap.size w w' := by
  have HS := Lib.hid (refsmall_any (cap := cap) hb.bts hp hM)
  have hmax := hb.bts.2.1
  have hl := sml_room (D := bs.drop p) (M := M) (fun c hc => hb.bts.2.2.1 c (List.mem_of_mem_drop hc))
  have hdl : (bs.drop p).length = n - p := by rw [List.length_drop, hb.len]
  have HB := Lib.hid hb
  unfold tak
  have hdd : ∀ k, (bs.drop p).drop k = bs.drop (p + k) := fun k => List.drop_drop
  simp only [hdd]
  rw [hdl] at hl ⊢
  generalize sml (bs.drop p) M = S at *
  obtain ⟨x, k, c⟩ := S
  simp only at HS hl ⊢
  obtain ⟨hl1, hl2⟩ := hl
  have hroom := hb.room
  clear hb hdl hdd
  by_cases hc : c = 0
  · subst hc
    rw [if_neg (by simp)]
    have hxM := hl2 rfl
    have e1 : IntKind.i64.wrap ((n : Int) - (p : Int)) = (n : Int) - p := by rw [IntKind.wrap_i64]; omega
    have e2 : IntKind.i64.wrap ((n : Int) - (p : Int) - (k : Int)) = (n : Int) - p - k := by rw [IntKind.wrap_i64]; omega
    clear hl2
    by_cases hx : n - p - k < x
    · rw [if_pos hx]
      have hx' : (n : Int) - p - k < x := by omega
      clear hx
      go_enter Try.func66, Try.ntmps66
      go_wp2_with fail
      refine HS.out.mono ?_
      rintro e u ⟨rfl, rfl⟩
      go_wp2
      go_ret3
      exact ⟨_, rfl, Own.nil _ _, Below.refl _ _⟩
    · rw [if_neg hx]
      have hx' : ¬ (n : Int) - p - k < x := by omega
      have hxn : x ≤ n - p - k := by omega
      clear hx
      obtain ⟨q, hq⟩ : ∃ q, p + k = q := ⟨_, rfl⟩
      have e3 : IntKind.i64.wrap ((p : Int) + (k : Int)) = (q : Int) := by rw [IntKind.wrap_i64]; omega
      have e4 : IntKind.i64.wrap ((q : Int) + (x : Int)) = ((q + x : Nat) : Int) := by rw [IntKind.wrap_i64]; omega
      have e5 : IntKind.i64.wrap ((k : Int) + (x : Int)) = ((k + x : Nat) : Int) := by rw [IntKind.wrap_i64]; omega
      have hqn : q + x ≤ n := by omega
      rw [hq]
      clear hq
      obtain ⟨qe, hqe⟩ : ∃ qe, q + x = qe := ⟨_, rfl⟩
      obtain ⟨ke, hke⟩ : ∃ ke, k + x = ke := ⟨_, rfl⟩
      rw [hqe] at e4 hqn
      rw [hke] at e5
      have hmid := fun W => run_midK .i64 .i64 A n cap q qe q qe rfl rfl (by omega) (by omega) W
      have HCUT := Lib.hid (HB.out.bts.cutIf (k := q) (m := qe) (by omega) hqn hroom)
      have hqx : qe - q = x := by omega
      have HDT : Hid ((bs.take qe).drop q = (bs.drop q).take x) := Lib.hid (by rw [← hqx, List.drop_take])
      rw [hqx] at hmid HCUT
      have HNIL : Hid ((if cap = q then A else A.map fun x => x.add q) = none → cap - q = 0) := Lib.hid (fun h => by
        have := HB.out.nil
        split at h
        · omega
        · rw [this (by cases A <;> simp_all)]; simp)
      generalize (if cap = q then A else A.map fun x => x.add q) = A2 at *
      rw [HDT.out] at HCUT
      have hxs : ((bs.drop q).take x).length = x := HCUT.out.1
      generalize (bs.drop q).take x = val at *
      have HKE := Lib.hid hke
      clear HDT hqe hke
      go_enter Try.func66, Try.ntmps66
      go_wp2_with (first
        | (go_at_call 65; refine HS.out.mono ?_; rintro e u ⟨rfl, rfl⟩)
        | (at_builtin
           refine wpList_append_bts rfl (.tmp 31) (.tmp 41) rfl (v := .slice (some ⟨u.heap.size, 0, none⟩) 0 0) (base := u.heap.size) (ds := []) (bs := val) (n := x) rfl rfl (by simpa using Own.lit (w := u) (base := u.heap.size) [] (Nat.le_refl _) (by decide)) (HCUT.out.below (((Kept.refl u).alloc _).1)) HNIL.out (by simp; omega) (by simp) ?_
           intro v1 w2 own1 gr1 _)
        | fail)
      go_ret3
      obtain rfl := HKE.out
      exact ⟨_, rfl, by simpa using own1, (((Kept.refl u).alloc _).append (by simpa using Own.lit (w := u) (base := u.heap.size) [] (Nat.le_refl _) (by decide)) gr1).1⟩
  · rw [if_pos hc]
    have hc' : ¬ (c : Int) = 0 := by omega
    clear hl2
    go_enter Try.func66, Try.ntmps66
    go_wp2_with fail
    refine HS.out.mono ?_
    rintro e u ⟨rfl, rfl⟩
    go_wp2
    go_ret3
    exact ⟨_, rfl, Own.nil _ _, Below.refl _ _⟩
end Go.Proofs.Ytmjgpgnecohbcaa
