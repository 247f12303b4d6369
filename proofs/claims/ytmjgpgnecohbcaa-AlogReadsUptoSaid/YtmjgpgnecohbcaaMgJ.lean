/- The Reader's last calls, a Reader that is nil, Code and At of the program's own errors; awake. -/
import Derived.Test.YtmjgpgnecohbcaaWireS
import Derived.Test.YtmjgpgnecohbcaaTell

namespace Go.Proofs.Ytmjgpgnecohbcaa
open Go.RowKit

set_option maxRecDepth 100000 in
theorem left_any (g : Nat) (bs : List Nat) (p : Nat) (w : World) (hr : Rd w g bs p) :
    Calls Try.prog 109 #[.pointer (some ⟨g, 0, none⟩)] w fun e w' => e = .returned (.int .i64 ((bs.length - p : Nat) : Int)) ∧ Below w.heap.size w w' := by
  go_enter Try.func109, Try.ntmps109
  go_wp2_with fail
  refine (rest_any g bs p w hr).mono ?_
  rintro e w1 ⟨A, n, c, rfl, hL, hb⟩
  have hn : (n : Int) = ((bs.length - p : Nat) : Int) := by have := hL.1.1; simp only [List.length_drop] at this; omega
  have HN := Lib.hid hn
  clear hn hL hr
  go_wp2
  go_ret
  exact ⟨by rw [← HN.out]; rfl, hb⟩
set_option maxRecDepth 100000 in
theorem left_nil (w : World) :
    Calls Try.prog 109 #[.pointer none] w fun e w' => e = .returned (.int .i64 0) ∧ w' = w := by
  go_enter Try.func109, Try.ntmps109
  go_wp2_with fail
  refine (rest_nil w).mono ?_
  rintro e w1 ⟨rfl, rfl⟩
  go_wp2
  go_ret
  exact ⟨rfl, rfl⟩
set_option maxRecDepth 100000 in
theorem end_any (g : Nat) (bs : List Nat) (p : Nat) (w : World) (hr : Rd w g bs p) :
    Calls Try.prog 92 #[.pointer (some ⟨g, 0, none⟩)] w fun e w' => e = .returned (if p < bs.length then fault 2 (p : Int) else .nilIface) ∧ Rd w' g bs p ∧ Off g w w' := by
  have hle := hr.le
  by_cases hp : p < bs.length
  · rw [if_pos hp]
    go_enter Try.func92, Try.ntmps92
    go_wp2_with fail
    refine (left_any g bs p w hr).mono ?_
    rintro e w1 ⟨rfl, hb⟩
    have hr1 := hr.below hb
    have hpos : 0 < ((bs.length - p : Nat) : Int) := by omega
    generalize ((bs.length - p : Nat) : Int) = L at *
    go_wp2_with fail
    refine (pass_any g bs p 0 2 w1 hr1 (by omega) (fun _ => rfl)).mono ?_
    rintro e w2 ⟨rfl, h3, h4⟩
    go_wp2
    go_ret
    exact ⟨rfl, h3, (Off.of_below hb).trans h4⟩
  · rw [if_neg hp]
    go_enter Try.func92, Try.ntmps92
    go_wp2_with fail
    refine (left_any g bs p w hr).mono ?_
    rintro e w1 ⟨rfl, hb⟩
    have hr1 := hr.below hb
    have hz : ((bs.length - p : Nat) : Int) = 0 := by omega
    rw [hz]
    go_wp2
    go_ret
    exact ⟨rfl, hr1, Off.of_below hb⟩
set_option maxRecDepth 100000 in
theorem end_nil (w : World) :
    Calls Try.prog 92 #[.pointer none] w fun e w' => e = .returned .nilIface ∧ w' = w := by
  go_enter Try.func92, Try.ntmps92
  go_wp2_with fail
  refine (left_nil w).mono ?_
  rintro e w1 ⟨rfl, rfl⟩
  go_wp2
  go_ret
  exact ⟨rfl, rfl⟩
set_option maxRecDepth 100000 in
/-- From: a Reader in new memory, at the beginning of the bytes -/
theorem from_any (A : Option Addr) (n cap : Nat) (bs : List Nat) (w : World) (hr : Row w A n cap bs) :
    Calls Try.prog 79 #[.slice A n cap] w fun e w' => ∃ g, e = .returned (.pointer (some ⟨g, 0, none⟩)) ∧ Rd w' g bs 0 ∧ w.heap.size ≤ g ∧ Below w.heap.size w w' := by
  have hl := hr.len
  have hmax := hr.bts.2.1
  have hby := hr.bts.2.2.1
  go_enter Try.func79, Try.ntmps79
  go_wp2_with fail
  refine (clone_any hr).mono ?_
  rintro e w1 ⟨v, rfl, own, hb⟩
  obtain ⟨A1, c1, rfl, hr1⟩ := own.row (by omega) hby
  clear own hr
  go_wp2
  go_ret
  refine ⟨w1.heap.size, rfl, ⟨A1, bs.length, c1, ?_, ?_, hr1.nil, hr1.room, hr1.most, Nat.zero_le _⟩, hb.size, hb.alloc hb.size _⟩
  · show (w1.heap.push _)[w1.heap.size]? = _
    simp [hl]
  · exact hr1.bts.below ((Below.refl _ _).alloc (Nat.le_refl _) _)

/-! ### a Reader that is nil -/
theorem get_nil : get [] = (0, 0, 3) := rfl




theorem sml_nil (most : Int) : sml [] most = (0, 0, 3) := by unfold sml; rw [get_nil]; rfl
theorem tak_nil (most : Int) : tak [] most = ([], 0, 3) := by unfold tak; rw [sml_nil]; rfl
set_option maxRecDepth 100000 in
theorem rsmall_nil (most : Int) (hm : (Lit.int .i64 most).wf = true) (w : World) : Calls Try.prog 90 #[.pointer none, .int .i64 most] w fun e w' => e = .returned (.tuple #[.int .i64 0, fault 3 0]) ∧ w' = w := by
  have hs := fun w => small_any 0 none 0 0 [] most hm w Bts.nil
  rw [sml_nil] at hs
  clear hm
  go_enter Try.func90, Try.ntmps90
  go_wp2_with fail
  refine (rest_nil w).mono ?_
  rintro e w1 ⟨rfl, rfl⟩
  go_wp2_with fail
  refine (hs w1).mono ?_
  rintro e w2 ⟨rfl, rfl⟩
  go_wp2_with fail
  refine (pass_nil 0 3 w2).mono ?_
  rintro e w3 ⟨rfl, rfl⟩
  go_wp2
  go_ret2
  exact ⟨rfl, rfl⟩


end Go.Proofs.Ytmjgpgnecohbcaa

/- What reads and lays down bytes (for seats whose program reaches wire.Reader.Bytes and wire.Writer.Bytes). -/
namespace Go.Proofs.Ytmjgpgnecohbcaa
open Go.RowKit

set_option maxRecDepth 100000 in
set_option maxHeartbeats 1000000 in
theorem counted_any (B : Nat) (A : Option Addr) (n cap : Nat) (bs : List Nat) (most : Int) (hm : (Lit.int .i64 most).wf = true) (w : World) (hb : Bts w B A n bs) (hcap : n ≤ cap) (hmx : cap ≤ maxLen) (hnil : A = none → cap = 0) :
    Calls Try.prog 108 #[.slice A n cap, .int .i64 most] w fun e w' => ∃ A' n' c', e = .returned (.tuple #[.slice A' n' c', .int .i64 ((tak bs most).2.1 : Nat), .int .i64 ((tak bs most).2.2 : Nat)]) ∧
      Bts w B A' n' (tak bs most).1 ∧ (A' = none → c' = 0) ∧ n' ≤ c' ∧ c' ≤ maxLen ∧ w' = w := by
  have hsm := small_any B A n cap bs most hm w hb
  have hsl := sml_len hb.2.2.1 most
  have hsc := sml_code (bs := bs) most
  have hlen := hb.1
  have hmax := hb.2.1
  have HB := Lib.hid hb
  clear hb hm
  unfold tak
  generalize sml bs most = G at *
  obtain ⟨x, k, c⟩ := G
  simp only at hsm hsl hsc ⊢
  by_cases hc : c = 0
  · subst hc
    rw [if_neg (by simp)]
    by_cases hlt : bs.length - k < x
    · rw [if_pos hlt]
      go_enter Try.func108, Try.ntmps108
      go_wp2_with fail
      refine hsm.mono ?_
      rintro e w1 ⟨rfl, rfl⟩
      go_wp2
      go_ret3
      exact ⟨_, _, _, rfl, Bts.nil, fun _ => rfl, Nat.le_refl _, by decide, rfl⟩
    · rw [if_neg hlt]
      have hcut := HB.out.cutIf (k := k) (m := k + x) (by omega) (by omega) hcap
      rw [List.drop_take, show k + x - k = x by omega] at hcut
      have HC := Lib.hid hcut
      have HN := Lib.hid hnil
      clear hcut hnil
      go_enter Try.func108, Try.ntmps108
      go_wp2_with fail
      refine hsm.mono ?_
      rintro e w1 ⟨rfl, rfl⟩
      go_wp2
      · rename_i h
        have hx := HC.out
        rw [if_pos h] at hx
        go_ret3
        exact ⟨_, _, _, rfl, hx, fun _ => rfl, by omega, by decide, rfl⟩
      · rename_i h
        have hx := HC.out
        rw [if_neg h] at hx
        go_ret3
        exact ⟨_, _, _, rfl, hx, (fun e => by have := HN.out (by simpa using e); omega), by omega, by omega, rfl⟩
  · rw [if_pos hc]
    have hci : ¬ (c : Int) = 0 := by omega
    go_enter Try.func108, Try.ntmps108
    go_wp2_with fail
    refine hsm.mono ?_
    rintro e w1 ⟨rfl, rfl⟩
    go_wp2
    go_ret3
    exact ⟨_, _, _, rfl, Bts.nil, fun _ => rfl, Nat.le_refl _, by decide, rfl⟩

set_option maxRecDepth 100000 in
set_option maxHeartbeats 1000000 in
theorem wbytes_any (base g : Nat) (bs cs : List Nat) (A : Option Addr) (n cap : Nat) (W : World) (hw : Wr W base g bs) {B : Nat} (hc : Bts W B A n cs) (ha : ∀ a, A = some a → 0 < n → a.block ≠ g ∧ rowOf W g ≠ some a.block) (hnil : A = none → cap = 0) (hl : bs.length + 10 + n ≤ 140737505132544) :
    Calls Try.prog 52 #[.pointer (some ⟨g, 0, none⟩), .slice A n cap] W fun e W' => e = .returned (.tuple #[]) ∧ Wr W' base g (bs ++ (put n ++ cs)) ∧ Below base W W' ∧ OffW g W W' := by
  have hn : n < 18446744073709551616 := by have := hc.2.1; omega
  have hp := put_ten hn
  have hcb := hc.2.2.1
  have HC := Lib.hid hc
  have hlen := hc.1
  clear hc
  go_enter Try.func52, Try.ntmps52
  go_wp2_with fail
  refine (wuint_any base g bs n _ hw hn (by omega)).mono ?_
  rintro e w1 ⟨rfl, hwr, hbel, hof⟩
  have HC := Lib.hid (hof.bts HC.out ha)
  clear ha
  obtain ⟨v, hv, own, hne⟩ := hwr.cell
  have hcl := cell_of_heap hv 0
  have hf := frozen_of_heap hv 0
  have HV := Lib.hid hv
  simp only [List.getElem?_toArray, List.getElem?_cons_zero] at hcl
  clear hv
  go_wp2_with (first
    | (at_builtin
       refine wpList_append_bts rfl (.tmp 13) (.tmp 14) rfl (v := v) (base := base) (ds := bs ++ put n) rfl rfl own HC.out hnil (by simp; omega) hwr.hs ?_
       intro v1 w2 own1 gr1 at1
       obtain ⟨A1, n1, c1, rfl⟩ := own1.slice
       obtain ⟨hv1, hw2, hb2, ho2⟩ := hwr.stored HV.out own hne own1 (Below.refl _ _) gr1 at1 hcb
       have hc1 := cell_of_heap hv1 0
       have hf1 := frozen_of_heap hv1 0
       have HW := Lib.hid hw2
       have HB := Lib.hid hb2
       have HO := Lib.hid ho2
       simp only [List.getElem?_toArray, List.getElem?_cons_zero] at hc1
       clear gr1 at1 own1 hw2 hb2 ho2 hv1))
  go_end0
  exact ⟨rfl, by rw [← List.append_assoc]; exact HW.out, hbel.trans HB.out, hof.trans HO.out⟩

set_option maxRecDepth 100000 in
theorem rbytes_any (g : Nat) (bs : List Nat) (p : Nat) (most : Int) (hm : (Lit.int .i64 most).wf = true) (w : World) (hr : Rd w g bs p) :
    Calls Try.prog 91 #[.pointer (some ⟨g, 0, none⟩), .int .i64 most] w fun e w' => ∃ v,
      e = .returned (.tuple #[v, errv (tak (bs.drop p) most).2.2 p]) ∧ Own w' w.heap.size v (tak (bs.drop p) most).1 ∧ Rd w' g bs (p + (tak (bs.drop p) most).2.1) ∧ Off g w w' := by
  have hl := tak_len (bs := bs.drop p) (fun c hc => hr.byte c (List.mem_of_mem_drop hc)) most
  have hle := hr.le
  have hcz : (tak (bs.drop p) most).2.2 ≠ 0 → (tak (bs.drop p) most).2.1 = 0 := fun h => by
    unfold tak at *
    split at h
    · rename_i h1; rw [if_pos h1]
    · rename_i h1
      split at h
      · rename_i h2; rw [if_neg h1, if_pos h2]
      · exact absurd rfl h
  have hN := fun A n c w1 (h : Bts w1 g A n (bs.drop p)) => counted_any g A n c _ most hm w1 h
  have hlt := hr.lt
  clear hm
  generalize tak (bs.drop p) most = G at *
  obtain ⟨x, k, cc⟩ := G
  simp only [List.length_drop] at hl hcz hN ⊢
  go_enter Try.func91, Try.ntmps91
  go_wp2_with fail
  refine (rest_any g bs p w hr).mono ?_
  rintro e w1 ⟨A, n, c, rfl, hL, hb⟩
  have hr1 := hr.below hb
  clear hr
  go_wp2_with fail
  refine (hN A n c w1 hL.1 hL.2.2.1 hL.2.2.2 hL.2.1).mono ?_
  rintro e w2 ⟨A', n', c', rfl, hx, hx1, hx2, hx3, rfl⟩
  clear hN hL
  have hs1 := hb.size
  go_wp2_with fail
  refine (clone_any (w := w2) (A := A') (n := n') (cap := c') (bs := x) ⟨hx.more (by omega), hx1, hx2, hx3⟩).mono ?_
  rintro e w3 ⟨v, rfl, own, hb3⟩
  have hP := pass_any g bs p k cc w3 (hr1.below hb3) (by omega) hcz
  clear hr1 hcz hx hx1
  go_wp2_with fail
  refine hP.mono ?_
  rintro e w4 ⟨rfl, h3, h4⟩
  go_wp2
  go_ret2
  refine ⟨v, rfl, ?_, h3, ((Off.of_below hb).trans (Off.of_below hb3)).trans h4⟩
  refine World.ownsRow.kept (row := some g) (own_base own hs1) ⟨h4.os, h4.tape, h4.output, h4.size, fun k hk hn => h4.rest k hk (fun e => hn (by rw [e]))⟩ ?_
  cases hv : v.ownBlock with
  | none => exact .inl rfl
  | some j =>
    refine .inr fun e => ?_
    injection e with e
    have := (World.ownsRow.lt own j hv).1
    omega

set_option maxRecDepth 100000 in
theorem rbytes_nil (most : Int) (hm : (Lit.int .i64 most).wf = true) (w : World) : Calls Try.prog 91 #[.pointer none, .int .i64 most] w fun e w' => ∃ v, e = .returned (.tuple #[v, fault 3 0]) ∧ Below w.heap.size w w' := by
  have hs := fun w => counted_any 0 none 0 0 [] most hm w Bts.nil (Nat.le_refl _) (by decide) (fun _ => rfl)
  rw [tak_nil] at hs
  clear hm
  go_enter Try.func91, Try.ntmps91
  go_wp2_with fail
  refine (rest_nil w).mono ?_
  rintro e w1 ⟨rfl, rfl⟩
  go_wp2_with fail
  refine (hs w1).mono ?_
  rintro e w2 ⟨A', n', c', rfl, hx, hx1, hx2, hx3, rfl⟩
  go_wp2_with fail
  refine (clone_any (w := w2) (A := A') (n := n') (cap := c') (bs := []) ⟨hx.more (Nat.zero_le _), hx1, hx2, hx3⟩).mono ?_
  rintro e w3 ⟨v, rfl, own, hb3⟩
  go_wp2_with fail
  refine (pass_nil 0 3 w3).mono ?_
  rintro e w4 ⟨rfl, rfl⟩
  go_wp2
  go_ret2
  exact ⟨v, rfl, hb3⟩
end Go.Proofs.Ytmjgpgnecohbcaa
