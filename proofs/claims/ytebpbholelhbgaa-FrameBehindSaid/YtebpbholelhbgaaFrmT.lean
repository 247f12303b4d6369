/- The program's frame: Take. -/
import Derived.Test.YtebpbholelhbgaaFrmR
namespace Go.Proofs.Ytebpbholelhbgaa
open Go.RowKit CrcM CrcW

theorem clone_kept {w u : World} {A : Option Addr} {n cap : Nat} {bs : List Nat} (k : Kept w u) (hb : Bts w w.heap.size A n bs) (hnil : A = none → cap = 0) (hcap : n ≤ cap) (hmost : cap ≤ maxLen) :
    Calls Try.prog 26 #[.slice A n cap] u fun e w' => ∃ v, e = .returned v ∧ Own w' w.heap.size v bs ∧ Kept w w' ∧ Below u.heap.size u w' ∧ (∀ g, v.ownBlock = some g → u.heap.size ≤ g) :=
  (clone_any (w := u) ⟨(hb.below k.1).more k.2, hnil, hcap, hmost⟩).mono fun _ _ ⟨v, h1, h2, h3⟩ => ⟨v, h1, h2.base k.2, k.call h3, h3, fun g hg => (World.ownsRow.lt h2 g hg).1⟩

set_option maxHeartbeats 2000000 in
theorem take_any {w : World} {A : Option Addr} {n cap : Nat} {bs : List Nat} (h : Row w A n cap bs) :
    Calls Try.prog 12 #[.slice A n cap] w fun e w' => ∃ v1 v2, e = .returned (.tuple #[v1, v2, .int .i64 ((tke bs).1 : Nat)]) ∧ Own w' w.heap.size v1 (tke bs).2.1 ∧ Own w' w.heap.size v2 (tke bs).2.2 ∧ Below w.heap.size w w' := by
  have hb := Lib.hid h.bts
  have hl := h.len
  have hnil := h.nil
  have hcap := h.room
  have hmost := h.most
  have hmax := h.bts.2.1
  have hby := Lib.hid h.bts.2.2.1
  have hf := first_any h.bts (Nat.le_refl _) hnil hcap hmost
  clear h
  obtain ⟨c, x, r, ht⟩ : ∃ c x r, tke bs = (c, x, r) := ⟨_, _, _, rfl⟩
  have hT : Hid (c ≠ 0 → x = [] ∧ r = []) := Lib.hid fun h => by
    have := tke_err (bs := bs) (by rw [ht]; exact h)
    rw [ht] at this
    simpa using this
  have hT0 : Hid (c = 0 → r = bs.drop (8 + x.length) ∧ 8 + x.length ≤ bs.length) := Lib.hid fun h => tke_rest hby.out (by rw [ht, h])
  rw [ht] at hf ⊢
  have HF := Lib.hid hf
  clear hf ht
  go_enter Try.func12, Try.ntmps12
  go_wp2_with fail
  refine HF.out.mono ?_
  rintro e u1 ⟨A', n', c', rfl, hx, hn', hc', hm', h1⟩
  have k1 := (Kept.refl w).call h1
  have hxl := hx.1
  have HX := Lib.hid hx
  clear hx h1
  by_cases h0 : c = 0
  · subst h0
    obtain ⟨hr, hle⟩ := hT0.out rfl
    have hln : 8 + n' ≤ n := by omega
    have hwr : IntKind.i64.wrap (8 + (n' : Int)) = 8 + n' := by rw [IntKind.wrap_i64]; omega
    have hst := fun W => run_tailK .i64 A n cap (8 + n') (8 + (n' : Int)) (by omega) hln W
    have hR := hb.out.rest (k := 8 + n') (cap := cap) (by omega) hcap
    rw [← hxl, ← hr, hxl] at hR
    have hRn : (if cap = 8 + n' then A else A.map fun x => x.add (8 + n')) = none → cap - (8 + n') = 0 := by
      intro h
      cases A with
      | none => have := hnil rfl; omega
      | some a =>
        split at h
        · cases h
        · cases h
    generalize (if cap = 8 + n' then A else A.map fun x => x.add (8 + n')) = AR at *
    have HR := Lib.hid hR
    have HRN := Lib.hid hRn
    have hR1 : n - (8 + n') ≤ cap - (8 + n') := by omega
    have hR2 : cap - (8 + n') ≤ maxLen := by omega
    clear hR hr hle hRn
    go_wp2
    go_region_with (first
      | (go_at_call 26
         first
           | (refine (clone_kept (w := w) (A := A') (n := n') (cap := c') (by first | assumption | (refine Kept.drew ?_; assumption)) HX.out hn' hc' hm').mono ?_
              rintro e u2 ⟨v2, rfl, o, k2, b2, -⟩
              obtain ⟨Ax, nx, cx, rfl⟩ := o.slice
              have OX := Lib.hid o
              have BX := Lib.hid b2
              clear o b2)
           | (refine (clone_kept (w := w) (A := AR) (n := n - (8 + n')) (cap := cap - (8 + n')) (by first | assumption | (refine Kept.drew ?_; assumption)) HR.out HRN.out hR1 hR2).mono ?_
              rintro e u2 ⟨v2, rfl, o, k2, b2, -⟩
              obtain ⟨Ax, nx, cx, rfl⟩ := o.slice
              have OR := Lib.hid o
              have BR := Lib.hid b2
              clear o b2)))
    all_goals
      go_wp2
      go_ret3
      first
        | exact ⟨_, _, rfl, OX.out.below BR.out, OR.out, (by assumption : Kept w _).1⟩
        | exact ⟨_, _, rfl, OX.out, OR.out.below BX.out, (by assumption : Kept w _).1⟩
  · obtain ⟨rfl, rfl⟩ := hT.out h0
    go_wp2
    go_ret3
    exact ⟨_, _, rfl, Own.nil _ _, Own.nil _ _, k1.1⟩
end Go.Proofs.Ytebpbholelhbgaa
