/- The walk of ProposerFree. -/
import Derived.Test.YtifenlopgpbpbaaPrqD
import Derived.Test.YtifenlopgpbpbaaPrqH
import Derived.Test.YtifenlopgpbpbaaPrqI
import Derived.Test.YtifenlopgpbpbaaPrpK
import Derived.Test.YtifenlopgpbpbaaFillE
import Derived.Deep.CutRange
import Derived.Deep.DeepCutAuto
namespace Go.Proofs.Ytifenlopgpbpbaa
open Go.RowKit

/-- both tell what was accepted, at one ballot -/
def pair (x y : It) : Bool := x.r.so && y.r.so && decide (x.r.ar = y.r.ar ∧ x.r.as_ = y.r.as_)
def NoPair (l : List It) (p : Nat) : Prop := ∀ (i k : Nat) (hi : i < l.length) (hk : k < i), p ≤ i → pair l[i] (l[k]'(Nat.lt_trans hk hi)) = false
/-- as if nothing had been accepted -/
def unso (x : It) : It := ⟨{ x.r with so := false }, x.A, x.c⟩
def unsoP (x : Pm) : Pm := { x with so := false }
theorem unique_of {l : List It} (h : NoPair l 0) : ∀ p ∈ l.map It.r, ∀ q ∈ l.map It.r, p.so = true → q.so = true → p.ar = q.ar → p.as_ = q.as_ → p = q := by
  intro p hp q hq hs ht hr hu
  obtain ⟨x, hx, rfl⟩ := List.mem_map.1 hp
  obtain ⟨y, hy, rfl⟩ := List.mem_map.1 hq
  obtain ⟨i, hi, rfl⟩ := List.mem_iff_getElem.1 hx
  obtain ⟨k, hk, rfl⟩ := List.mem_iff_getElem.1 hy
  rcases Nat.lt_trichotomy i k with h1 | h1 | h1
  · have := h k i hk h1 (Nat.zero_le _)
    unfold pair at this
    rw [hs, ht, decide_eq_true ⟨hr.symm, hu.symm⟩] at this
    cases this
  · subst h1; rfl
  · have := h i k hi h1 (Nat.zero_le _)
    unfold pair at this
    rw [hs, ht, decide_eq_true ⟨hr, hu⟩] at this
    cases this
theorem most_same {n : Int} {L M : List Int} (h : ∀ x, x ∈ L ↔ x ∈ M) : mostB n L = mostB n M := by
  rw [Bool.eq_iff_iff]
  exact ⟨most_more2 fun x hx => (h x).1 hx, most_more2 fun x hx => (h x).2 hx⟩
theorem free_back {l : List It} (n : Int) (h : NoPair l 0) : chooseP (l.reverse.map It.r) n = chooseP (l.map It.r) n := by
  have hm : ∀ p, p ∈ l.map It.r ↔ p ∈ l.reverse.map It.r := fun p => by simp
  unfold chooseP
  rw [← best_perm (n := n) hm (unique_of h), most_same (n := n) (L := (l.reverse.map It.r).map Pm.who) (M := (l.map It.r).map Pm.who) (fun x => by simp)]
theorem free_none (l : List It) (n : Int) : chooseP (((l.reverse).map unso).map It.r) n = (chooseP (l.map It.r) n).map fun _ => [] := by
  have hb : bestP n (((l.reverse).map unso).map It.r) = none := by
    rcases best_is n (((l.reverse).map unso).map It.r) with ⟨h, _⟩ | ⟨q, _, hq, hs, _⟩
    · exact h
    · obtain ⟨y, hy, rfl⟩ := List.mem_map.1 hq
      obtain ⟨z, hz, rfl⟩ := List.mem_map.1 hy
      cases hs
  unfold chooseP
  rw [hb, most_same (n := n) (L := (((l.reverse).map unso).map It.r).map Pm.who) (M := (l.map It.r).map Pm.who) (fun x => by
    simp only [List.mem_map, List.mem_reverse]
    constructor
    · rintro ⟨_, ⟨_, ⟨x, hx, rfl⟩, rfl⟩, rfl⟩; exact ⟨_, ⟨x, hx, rfl⟩, rfl⟩
    · rintro ⟨_, ⟨x, hx, rfl⟩, rfl⟩; exact ⟨_, ⟨_, ⟨x, hx, rfl⟩, rfl⟩, rfl⟩)]
  split <;> rfl
theorem pair_ways (x y : It) : (x.r.so = false ∧ pair x y = false) ∨ (x.r.so = true ∧ y.r.so = false ∧ pair x y = false) ∨ (x.r.so = true ∧ y.r.so = true ∧ x.r.ar = y.r.ar ∧ x.r.as_ = y.r.as_ ∧ pair x y = true) ∨
    (x.r.so = true ∧ y.r.so = true ∧ ¬ x.r.ar = y.r.ar ∧ pair x y = false) ∨ (x.r.so = true ∧ y.r.so = true ∧ x.r.ar = y.r.ar ∧ ¬ x.r.as_ = y.r.as_ ∧ pair x y = false) := by
  unfold pair
  cases x.r.so with
  | false => exact .inl ⟨rfl, rfl⟩
  | true =>
    cases y.r.so with
    | false => exact .inr (.inl ⟨rfl, rfl, rfl⟩)
    | true =>
      by_cases h1 : x.r.ar = y.r.ar
      · by_cases h2 : x.r.as_ = y.r.as_
        · exact .inr (.inr (.inl ⟨rfl, rfl, h1, h2, by simp [h1, h2]⟩))
        · exact .inr (.inr (.inr (.inr ⟨rfl, rfl, h1, h2, by simp [h2]⟩)))
      · exact .inr (.inr (.inr (.inl ⟨rfl, rfl, h1, by simp [h1]⟩)))
theorem drop_rev {l : List It} {q : Nat} (h : q < l.length) : (l.drop q).reverse = (l.drop (q + 1)).reverse ++ [l[q]] := by
  rw [List.drop_eq_getElem_cons h, List.reverse_cons]

theorem OneE.monoK {α : Type} {t e : TypeId} {E : Elem t e α} (base : Nat) (x : α) : (Slot.has (OneE E base x)).Mono := fun _ _ _ k ⟨g, h1, h2, h3⟩ => ⟨g, h1, h2, (k.1.block g (heap_lt h3)).trans h3⟩

set_option maxRecDepth 100000 in
set_option maxHeartbeats 16000000 in
theorem ProposerFree_walk (a0 : Option Addr) (len0 cap0 : Nat) (a1 : Int) (w : World) (w0 : SliceAt 5 56 (fun w cs => cs.length = 5 ∧ IsStruct [(0, 1, (IsInt .i64)), (1, 1, IsBool), (2, 2, (fun w cs => cs.length = 2 ∧ IsStruct [(0, 1, (IsInt .i64)), (1, 1, (IsInt .i64))] w cs)), (4, 1, (IsSlice 1 1 (IsInt .u8)))] w cs) w a0 len0 cap0) (w1 : (Lit.int .i64 a1).wf = true) :
    Calls Try.prog 7 #[.slice a0 len0 cap0, .int .i64 a1] w fun e w' => e = .returned (.bool true) ∧ Below w.heap.size w w' := by
  obtain ⟨l, hl, hR, hV, hW⟩ := pms_of w0
  have hn := in64 w1
  by_cases hs : len0 ≤ 100
  · have hs' : ¬ (100 : Int) < (len0 : Int) := by omega
    have HC : Hid (∀ W A c N (m : List It), Kept w W → m.length = N → N ≤ 100 → (∀ x ∈ m, x ∈ l ∨ ∃ y ∈ l, x = unso y) → EP.Reads W A m → Calls Try.prog 10 #[.slice A N c, .int .i64 a1] W fun e w' => ∃ v b, e = .returned (.tuple #[v, .bool b]) ∧ Kept W w' ∧ ChoT (chooseP (m.map It.r) a1) v b w') :=
      Lib.hid (fun W A c N m k hm hN hx hr => choose_any hm hr (fun x h => by
        rcases hx x h with h | ⟨y, hy, rfl⟩
        · exact (hV x h).below k.1
        · exact (hV y hy).below k.1) (fun x h => by
        rcases hx x h with h | ⟨y, hy, rfl⟩
        · exact hW x h
        · exact hW y hy) (by omega) hn.2)
    have HR := Lib.hid hR
    have HL := Lib.hid hl
    clear w0 w1 hl hR hV hW hn
    go_enter Try.func7, Try.ntmps7
    go_wp2_with fail
    refine (prawake_any _).mono ?_
    rintro e v ⟨rfl, k1⟩
    have KV := Lib.hid k1
    have HRV := Lib.hid (HR.out.kept k1)
    clear k1
    go_wp2_with fail
    go_loopw [6, 7, 8] (fun no ba i wr => ∃ p : Nat, p ≤ len0 ∧ i = .int .i64 ((p : Int) - 1) ∧ Kept v wr ∧ EP.Own wr v.heap.size no ((l.drop p).reverse.map unso) ∧ EP.Own wr v.heap.size ba (l.drop p).reverse ∧ Apart no ba ∧ NoPair l p) (fun _ _ i _ => (intOf i + 1).toNat)
    case atStart =>
      refine ⟨len0, Nat.le_refl _, by go_num, Kept.refl _, ?_, ?_, Apart.nil _, fun i k hi _ hp => absurd hi (by have := HL.out; omega)⟩
      · rw [List.drop_eq_nil_of_le (by have := HL.out; omega)]; exact Elem.Own.nil _ _ _
      · rw [List.drop_eq_nil_of_le (by have := HL.out; omega)]; exact Elem.Own.nil _ _ _
    case round =>
      obtain ⟨p, hp, rfl, kk, own1, own2, hap, hnp⟩ := hrel
      have KK := Lib.hid kk
      have O1 := Lib.hid own1
      have O2 := Lib.hid own2
      have AP := Lib.hid hap
      have NP := Lib.hid hnp
      clear kk own1 own2 hap hnp
      cases p with
      | zero =>
        rw [show ((0 : Nat) : Int) - 1 = -1 from rfl]
        rw [List.drop_zero] at O1 O2
        have FB := Lib.hid (free_back a1 NP.out)
        have FN := Lib.hid (free_none l a1)
        obtain ⟨A1, d1, rfl, -, -, -⟩ := O1.out.slice
        obtain ⟨A2, d2, rfl, -, -, -⟩ := O2.out.slice
        have R1 := Lib.hid O1.out.reads
        have R2 := Lib.hid O2.out.reads
        have e1 : (l.reverse.map unso).length = len0 := by rw [List.length_map, List.length_reverse, HL.out]
        have e2 : l.reverse.length = len0 := by rw [List.length_reverse, HL.out]
        have HX1 := Lib.hid (fun W k => HC.out W a0 cap0 len0 l k HL.out hs (fun x hx => .inl hx) (HR.out.kept k))
        have HX2 := Lib.hid (fun W A c k hr => HC.out W A c len0 l.reverse k e2 hs (fun x hx => .inl (List.mem_reverse.1 hx)) hr)
        have HX3 := Lib.hid (fun W A c k hr => HC.out W A c len0 (l.reverse.map unso) k e1 hs (fun x hx => by
          obtain ⟨y, hy, rfl⟩ := List.mem_map.1 hx
          exact .inr ⟨y, List.mem_reverse.1 hy, rfl⟩) hr)
        rw [FB.out] at HX2
        rw [FN.out] at HX3
        have KW := Lib.hid (KV.out.trans KK.out)
        rw [e1, e2]
        clear O1 O2 AP NP FB FN HC e1 e2
        generalize chooseP (l.map It.r) a1 = o at *
        go_wp2_with fail
        refine (HX1.out _ KW.out).mono ?_
        rintro e u1 ⟨v1, b1, rfl, k1, t1⟩
        have K1 := Lib.hid (KW.out.trans k1)
        have T1 := Lib.hid t1
        have R12 := Lib.hid (R2.out.kept k1)
        have R11 := Lib.hid (R1.out.kept k1)
        clear k1 t1 R1 R2
        go_wp2_with fail
        refine (HX2.out _ _ _ K1.out R12.out).mono ?_
        rintro e u2 ⟨v2, b2, rfl, k2, t2⟩
        have K2 := Lib.hid (K1.out.trans k2)
        have T12 := Lib.hid (T1.out.kept k2)
        have T2 := Lib.hid t2
        have R21 := Lib.hid (R11.out.kept k2)
        clear k2 t2 R11 R12 T1
        go_wp2_with fail
        refine (HX3.out _ _ _ K2.out R21.out).mono ?_
        rintro e u3 ⟨v3, b3, rfl, k3, t3⟩
        have K3 := Lib.hid (K2.out.trans k3)
        have t1 := T12.out.kept k3
        have t2 := T2.out.kept k3
        clear k3 T12 T2 R21
        cases o with
        | none =>
          obtain ⟨rfl, rfl⟩ := t1
          obtain ⟨rfl, rfl⟩ := t2
          obtain ⟨rfl, rfl⟩ := t3
          have hs0 := (Row.none (w := u3)).str
          generalize txt [] = tx at *
          go_wp2
          go_ret
          exact ⟨by go_simp, K3.out.1⟩
        | some bs =>
          obtain ⟨rfl, B1, f1, rfl, r1⟩ := t1
          obtain ⟨rfl, B2, f2, rfl, r2⟩ := t2
          obtain ⟨rfl, B3, f3, rfl, r3⟩ := t3
          have hs1 := r1.row.str
          have hs2 := r2.row.str
          simp only [List.length_nil]
          generalize txt bs = tx at *
          clear r1 r2 r3
          go_wp2
          go_ret
          exact ⟨by go_simp, K3.out.1⟩
      | succ q =>
        have hq : ((q + 1 : Nat) : Int) - 1 = (q : Int) := by omega
        rw [hq]
        clear hq
        have hqN : q < len0 := by omega
        have hql : q < l.length := by rw [HL.out]; exact hqN
        obtain ⟨b, off, rfl, -, -⟩ := EP_five HR.out hql
        have TC : Hid (∀ (i : Nat) (h : i < l.length) W, Kept w W → W.cell? ⟨b, off + i * 5, none⟩ = some (.int .i64 l[i].r.who) ∧ W.cell? ⟨b, off + i * 5 + 1, none⟩ = some (.bool l[i].r.so) ∧ W.cell? ⟨b, off + i * 5 + 2, none⟩ = some (.int .i64 l[i].r.ar) ∧ W.cell? ⟨b, off + i * 5 + 3, none⟩ = some (.int .i64 l[i].r.as_) ∧ W.cell? ⟨b, off + i * 5 + 4, none⟩ = some (.slice l[i].A l[i].r.val.length l[i].c)) := Lib.hid (fun i h W k => by
          obtain ⟨b', off', e', hb', d⟩ := EP_five (HR.out.kept k) h
          obtain ⟨rfl, rfl⟩ : b = b' ∧ off = off' := by injection e' with e'; injection e' with h1 h2; exact ⟨h1, h2⟩
          exact d)
        have KW := Lib.hid (KV.out.trans KK.out)
        go_wp2_with fail
        go_loopw [9] (fun j wq => ∃ (k : Nat) (W : World), W = wq ∧ k ≤ q ∧ j = .int .i64 k ∧ Kept wr wq ∧ ∀ m, (h : m < q) → m < k → pair l[q] (l[m]'(Nat.lt_trans h hql)) = false) (fun j _ => q - (intOf j).toNat)
        case atStart => exact ⟨0, _, rfl, Nat.zero_le _, rfl, Kept.refl _, fun m _ h => absurd h (Nat.not_lt_zero _)⟩
        case round =>
          obtain ⟨k, wq, rfl, hk, rfl, kq, hno⟩ := hrel
          have KQ := Lib.hid kq
          have NO := Lib.hid hno
          clear kq hno
          by_cases hkq : k < q
          · have hkl : k < l.length := by omega
            have hkN : k < len0 := by omega
            have HNO : Hid (pair l[q] l[k] = false → ∀ m, (h : m < q) → m < k + 1 → pair l[q] (l[m]'(Nat.lt_trans h hql)) = false) := Lib.hid (fun h1 m h hm => by
              rcases Nat.lt_succ_iff_lt_or_eq.1 hm with h2 | rfl
              · exact NO.out m h h2
              · exact h1)
            have HWY := Lib.hid (pair_ways l[q] l[k])
            have TX := Lib.hid (fun W (h : Kept wq.drew W) => TC.out q hql W (KW.out.trans (KQ.out.trans ((Kept.refl _).drew.trans h))))
            have TY := Lib.hid (fun W (h : Kept wq.drew W) => TC.out k hkl W (KW.out.trans (KQ.out.trans ((Kept.refl _).drew.trans h))))
            obtain ⟨x, hx⟩ : ∃ x, l[q] = x := ⟨_, rfl⟩
            obtain ⟨y, hy⟩ : ∃ y, l[k] = y := ⟨_, rfl⟩
            rw [hx, hy] at HWY
            have HXY : Hid (pair x y = false → pair l[q] l[k] = false) := Lib.hid (fun h => by rw [hx, hy]; exact h)
            rw [hx] at TX
            rw [hy] at TY
            clear hx hy NO
            obtain ⟨⟨xw, xo, xr, xs, xv⟩, XB, xc⟩ := x
            obtain ⟨⟨yw, yo, yr, ys, yv⟩, YB, yc⟩ := y
            simp only at TX TY HWY
            go_wp2_with fail
            rcases HWY.out with ⟨rfl, h0⟩ | ⟨rfl, rfl, h0⟩ | ⟨rfl, rfl, rfl, rfl, h0⟩ | ⟨rfl, rfl, h1, h0⟩ | ⟨rfl, rfl, rfl, h1, h0⟩
            case inr.inr.inl =>
              clear h0 HNO HXY HWY
              refine wp_region_typed (N := 25) (fl := []) (by kernel_rfl) (by kernel_rfl) ?_
              simp only [List.take_succ_cons, List.take_zero, List.drop_succ_cons, List.drop_zero, List.map_cons, List.map_nil, zipF]
              repeat (first
                | (refine wpT_skip rfl ?_; dsimp only [putS, List.set_cons_succ, List.set_cons_zero])
                | (refine wpT_slot (S := .is _) _ (.inl rfl) rfl (Slot.mono_is _) rfl ?_; dsimp only [putS, List.set_cons_succ, List.set_cons_zero])
                | (refine wpT_slot (S := .is _) _ (.inr rfl) rfl (Slot.mono_is _) rfl ?_; dsimp only [putS, List.set_cons_succ, List.set_cons_zero])
                | (refine wpT_exact1 rfl rfl rfl ?_; apply Exists.intro; refine ⟨fun ρ w hk ⟨c1, c2, c3⟩ h1 => ?_, ?_⟩; (· obtain ⟨t0, t1, t2, t3, t4⟩ := TX.out w hk; obtain ⟨s0, s1, s2, s3, s4⟩ := TY.out w hk; go_simp; exact rfl); dsimp only [putS, List.set_cons_succ, List.set_cons_zero])
                | (refine wpT_exact2 rfl rfl rfl rfl ?_; apply Exists.intro; refine ⟨fun ρ w hk ⟨c1, c2, c3⟩ h1 h2 => ?_, ?_⟩; (· obtain ⟨t0, t1, t2, t3, t4⟩ := TX.out w hk; obtain ⟨s0, s1, s2, s3, s4⟩ := TY.out w hk; go_simp; exact rfl); dsimp only [putS, List.set_cons_succ, List.set_cons_zero])
                | (refine wpT_exact3 rfl rfl rfl rfl rfl ?_; apply Exists.intro; refine ⟨fun ρ w hk ⟨c1, c2, c3⟩ h1 h2 h3 => ?_, ?_⟩; (· obtain ⟨t0, t1, t2, t3, t4⟩ := TX.out w hk; obtain ⟨s0, s1, s2, s3, s4⟩ := TY.out w hk; go_simp; exact rfl); dsimp only [putS, List.set_cons_succ, List.set_cons_zero])
                | (refine wpT_exact4 rfl rfl rfl rfl rfl rfl ?_; apply Exists.intro; refine ⟨fun ρ w hk ⟨c1, c2, c3⟩ h1 h2 h3 h4 => ?_, ?_⟩; (· obtain ⟨t0, t1, t2, t3, t4⟩ := TX.out w hk; obtain ⟨s0, s1, s2, s3, s4⟩ := TY.out w hk; go_simp; exact rfl); dsimp only [putS, List.set_cons_succ, List.set_cons_zero])
                | (refine wpT_exact0 rfl ?_; apply Exists.intro; refine ⟨fun ρ w hk ⟨c1, c2, c3⟩ => ?_, ?_⟩; (· obtain ⟨t0, t1, t2, t3, t4⟩ := TX.out w hk; obtain ⟨s0, s1, s2, s3, s4⟩ := TY.out w hk; go_simp; exact rfl); dsimp only [putS, List.set_cons_succ, List.set_cons_zero])
                | fail)
              refine wpT_nil ?_
              intro wz kz
              simp only [Fits]
              have KZ := Lib.hid (KQ.out.trans ((Kept.refl _).drew.trans kz))
              clear kz TX TY
              refine wpList_end ?_
              go_wp2
              go_ret
              exact ⟨rfl, (KW.out.trans KZ.out).1⟩
            all_goals
              have HNO := Lib.hid (HNO.out (HXY.out h0))
              clear h0 HXY HWY
              refine wp_region_typed (N := 25) (fl := []) (by kernel_rfl) (by kernel_rfl) ?_
              simp only [List.take_succ_cons, List.take_zero, List.drop_succ_cons, List.drop_zero, List.map_cons, List.map_nil, zipF]
              repeat (first
                | (refine wpT_skip rfl ?_; dsimp only [putS, List.set_cons_succ, List.set_cons_zero])
                | (refine wpT_slot (S := .is _) _ (.inl rfl) rfl (Slot.mono_is _) rfl ?_; dsimp only [putS, List.set_cons_succ, List.set_cons_zero])
                | (refine wpT_slot (S := .is _) _ (.inr rfl) rfl (Slot.mono_is _) rfl ?_; dsimp only [putS, List.set_cons_succ, List.set_cons_zero])
                | (refine wpT_exact1 rfl rfl rfl ?_; apply Exists.intro; refine ⟨fun ρ w hk ⟨c1, c2, c3⟩ h1 => ?_, ?_⟩; (· obtain ⟨t0, t1, t2, t3, t4⟩ := TX.out w hk; obtain ⟨s0, s1, s2, s3, s4⟩ := TY.out w hk; go_simp; exact rfl); dsimp only [putS, List.set_cons_succ, List.set_cons_zero])
                | (refine wpT_exact2 rfl rfl rfl rfl ?_; apply Exists.intro; refine ⟨fun ρ w hk ⟨c1, c2, c3⟩ h1 h2 => ?_, ?_⟩; (· obtain ⟨t0, t1, t2, t3, t4⟩ := TX.out w hk; obtain ⟨s0, s1, s2, s3, s4⟩ := TY.out w hk; go_simp; exact rfl); dsimp only [putS, List.set_cons_succ, List.set_cons_zero])
                | (refine wpT_exact3 rfl rfl rfl rfl rfl ?_; apply Exists.intro; refine ⟨fun ρ w hk ⟨c1, c2, c3⟩ h1 h2 h3 => ?_, ?_⟩; (· obtain ⟨t0, t1, t2, t3, t4⟩ := TX.out w hk; obtain ⟨s0, s1, s2, s3, s4⟩ := TY.out w hk; go_simp; exact rfl); dsimp only [putS, List.set_cons_succ, List.set_cons_zero])
                | (refine wpT_exact4 rfl rfl rfl rfl rfl rfl ?_; apply Exists.intro; refine ⟨fun ρ w hk ⟨c1, c2, c3⟩ h1 h2 h3 h4 => ?_, ?_⟩; (· obtain ⟨t0, t1, t2, t3, t4⟩ := TX.out w hk; obtain ⟨s0, s1, s2, s3, s4⟩ := TY.out w hk; go_simp; exact rfl); dsimp only [putS, List.set_cons_succ, List.set_cons_zero])
                | (refine wpT_exact0 rfl ?_; apply Exists.intro; refine ⟨fun ρ w hk ⟨c1, c2, c3⟩ => ?_, ?_⟩; (· obtain ⟨t0, t1, t2, t3, t4⟩ := TX.out w hk; obtain ⟨s0, s1, s2, s3, s4⟩ := TY.out w hk; go_simp; exact rfl); dsimp only [putS, List.set_cons_succ, List.set_cons_zero])
                | fail)
              refine wpT_nil ?_
              intro wz kz
              simp only [Fits]
              have KZ := Lib.hid (KQ.out.trans ((Kept.refl _).drew.trans kz))
              clear kz TX TY
              refine wpList_end ?_
              go_wp2
              go_roundw
              case rel => exact ⟨k + 1, _, rfl, by omega, by go_num, KZ.out, HNO.out⟩
              case measure => simp [intOf]; omega
          · obtain rfl : k = q := by omega
            have HNP : Hid (NoPair l k) := Lib.hid (fun i m hi hm hp => by
              rcases Nat.lt_or_ge k i with h | h
              · exact NP.out i m hi hm h
              · obtain rfl : i = k := by omega
                exact NO.out m hm hm)
            have HD : Hid ((l.drop k).reverse = (l.drop (k + 1)).reverse ++ [l[k]]) := Lib.hid (drop_rev hql)
            have HD1 : Hid ((l.drop k).reverse.map unso = (l.drop (k + 1)).reverse.map unso ++ [unso l[k]]) := Lib.hid (by rw [drop_rev hql, List.map_append]; rfl)
            have TX := Lib.hid (fun W (h : Kept wq.drew W) => TC.out k hql W (KW.out.trans (KQ.out.trans ((Kept.refl _).drew.trans h))))
            have TX2 := Lib.hid (fun W (h : Kept w W) => TC.out k hql W h)
            have HLL : Hid ((l.drop (k + 1)).reverse.length ≤ 100) := Lib.hid (by rw [List.length_reverse, List.length_drop, HL.out]; omega)
            have HLL1 : Hid (((l.drop (k + 1)).reverse.map unso).length ≤ 100) := Lib.hid (by rw [List.length_map]; exact HLL.out)
            have KVQ := Lib.hid (KK.out.trans KQ.out)
            have KVQ2 := Lib.hid (KW.out.trans KQ.out)
            have O1 := Lib.hid (O1.out.kept KQ.out)
            have O2 := Lib.hid (O2.out.kept KQ.out)
            generalize (l.drop (k + 1)).reverse.map unso = L1 at *
            generalize (l.drop (k + 1)).reverse = L2 at *
            obtain ⟨x, hx⟩ : ∃ x, l[k] = x := ⟨_, rfl⟩
            rw [hx] at HD HD1 TX TX2
            clear hx NO NP KQ
            obtain ⟨⟨xw, xo, xr, xs, xv⟩, XB, xc⟩ := x
            simp only at TX TX2
            go_wp2_with fail
            refine wp_region_typed (N := 18) (fl := []) (by kernel_rfl) (by kernel_rfl) ?_
            simp only [List.take_succ_cons, List.take_zero, List.drop_succ_cons, List.drop_zero, List.map_cons, List.map_nil, zipF]
            repeat (first
              | (refine wpT_has (OneE.monoK (E := EP) wq.drew.heap.size (unso ⟨⟨xw, xo, xr, xs, xv⟩, XB, xc⟩)) rfl (fun ρ w hk ⟨c1, c2, c3⟩ ⟨h1, _⟩ => ?_) ?_
                 · have h1 : ρ (.tmp 75) = _ := h1
                   refine upT_made (.slice (some ⟨w.heap.size, 0, none⟩) 1 1) (w' := w.alloc (.cells #[.int .i64 xw, .bool false, .int .i64 xr, .int .i64 xs, .slice XB xv.length xc] 58)) ?_ ((Kept.refl w).alloc _) ⟨_, hk.2, rfl, push_new w (.cells #[.int .i64 xw, .bool false, .int .i64 xr, .int .i64 xs, .slice XB xv.length xc] 58)⟩
                   go_simp
                 dsimp only [putS, List.set_cons_succ, List.set_cons_zero])
              | (refine wpT_skip rfl ?_; dsimp only [putS, List.set_cons_succ, List.set_cons_zero])
              | (refine wpT_slot (S := .is _) _ (.inl rfl) rfl (Slot.mono_is _) rfl ?_; dsimp only [putS, List.set_cons_succ, List.set_cons_zero])
              | (refine wpT_slot (S := .is _) _ (.inr rfl) rfl (Slot.mono_is _) rfl ?_; dsimp only [putS, List.set_cons_succ, List.set_cons_zero])
              | (refine wpT_exact1 rfl rfl rfl ?_; apply Exists.intro; refine ⟨fun ρ w hk ⟨c1, c2, c3⟩ h1 => ?_, ?_⟩; (· obtain ⟨t0, t1, t2, t3, t4⟩ := TX.out w hk; go_simp; exact rfl); dsimp only [putS, List.set_cons_succ, List.set_cons_zero])
              | (refine wpT_exact2 rfl rfl rfl rfl ?_; apply Exists.intro; refine ⟨fun ρ w hk ⟨c1, c2, c3⟩ h1 h2 => ?_, ?_⟩; (· obtain ⟨t0, t1, t2, t3, t4⟩ := TX.out w hk; go_simp; exact rfl); dsimp only [putS, List.set_cons_succ, List.set_cons_zero])
              | (refine wpT_exact3 rfl rfl rfl rfl rfl ?_; apply Exists.intro; refine ⟨fun ρ w hk ⟨c1, c2, c3⟩ h1 h2 h3 => ?_, ?_⟩; (· obtain ⟨t0, t1, t2, t3, t4⟩ := TX.out w hk; go_simp; exact rfl); dsimp only [putS, List.set_cons_succ, List.set_cons_zero])
              | (refine wpT_exact4 rfl rfl rfl rfl rfl rfl ?_; apply Exists.intro; refine ⟨fun ρ w hk ⟨c1, c2, c3⟩ h1 h2 h3 h4 => ?_, ?_⟩; (· obtain ⟨t0, t1, t2, t3, t4⟩ := TX.out w hk; go_simp; exact rfl); dsimp only [putS, List.set_cons_succ, List.set_cons_zero])
              | (refine wpT_exact0 rfl ?_; apply Exists.intro; refine ⟨fun ρ w hk ⟨c1, c2, c3⟩ => ?_, ?_⟩; (· obtain ⟨t0, t1, t2, t3, t4⟩ := TX.out w hk; go_simp; exact rfl); dsimp only [putS, List.set_cons_succ, List.set_cons_zero])
              | fail)
            refine wpT_nil ?_
            intro wz kz
            simp only [Fits]
            rintro y76 ⟨g76, hg0, rfl, hg⟩
            have kz' : Kept wq wz := (Kept.refl _).drew.trans kz
            have KZ := Lib.hid (KVQ.out.trans kz')
            have KZ2 := Lib.hid (KVQ2.out.trans kz')
            have OZ1 := Lib.hid (O1.out.kept kz')
            have OZ2 := Lib.hid (O2.out.kept kz')
            have HG := Lib.hid hg
            clear kz kz' TX hg O1 O2
            go_wp2_with (first
              | (at_builtin
                 refine wpList_append_flat EP rfl (.tmp 59) (.tmp 76) rfl (xs := [unso ⟨⟨xw, xo, xr, xs, xv⟩, XB, xc⟩]) (base := v.heap.size) rfl rfl OZ1.out (OneE.reads HG.out) rfl (fun h => by cases h) (by have := HLL1.out; omega) KZ.out.2 ?_
                 intro y4 v4 own4 gr4 at4
                 have k4 := Lib.hid (Elem.Own.keeps KZ.out OZ1.out (Nat.le_refl _) gr4)
                 have k42 := Lib.hid (Elem.Own.keeps KZ2.out (OZ1.out.base KV.out.2) (Nat.le_refl _) gr4)
                 have o42 := Lib.hid (show EP.Own v4 v.heap.size u7 L2 from row_other OZ2.out AP.out.symm gr4)
                 have ap4 := Lib.hid (row_apart_new OZ2.out AP.out.symm at4)
                 have own4 := Lib.hid own4
                 clear gr4 at4)
              | fail)
            refine only_end ?_
            obtain ⟨t0, t1, t2, t3, t4⟩ := TX2.out v4 k42.out
            go_wp2_with (first
              | (at_builtin
                 refine wpList_append_flat EP rfl (.tmp 78) (.tmp 83) rfl (xs := [⟨⟨xw, xo, xr, xs, xv⟩, XB, xc⟩]) (base := v.heap.size) rfl rfl (o42.out.kept ((Kept.refl v4).alloc _)) (EP.reads_new v4 _ _ _ rfl) rfl (fun h => by cases h) (by have := HLL.out; omega) (k4.out.alloc _).2 ?_
                 intro y5 v5 own5 gr5 at5
                 have k5 := Lib.hid (Elem.Own.keeps (k4.out.alloc _) (o42.out.kept ((Kept.refl v4).alloc _)) (Nat.le_refl _) gr5)
                 have o51 := Lib.hid (show EP.Own v5 v.heap.size y4 (L1 ++ [unso ⟨⟨xw, xo, xr, xs, xv⟩, XB, xc⟩]) from row_other (own4.out.kept ((Kept.refl v4).alloc _)) ap4.out.symm gr5)
                 have ap5 := Lib.hid (row_apart_new (own4.out.kept ((Kept.refl v4).alloc (.cells #[.int .i64 xw, .bool xo, .int .i64 xr, .int .i64 xs, .slice XB xv.length xc] 58))) ap4.out.symm at5)
                 have own5 := Lib.hid own5
                 clear gr5 at5)
              | fail)
            go_roundw
            case rel =>
              refine ⟨k, by omega, by go_num, k5.out, ?_, ?_, ap5.out, HNP.out⟩
              · rw [HD1.out]; exact o51.out
              · rw [HD.out]; exact own5.out
            case measure => simp [intOf] <;> omega
  · have hs' : (100 : Int) < (len0 : Int) := by omega
    clear w0 w1 hl hR hV hW hn
    go_enter Try.func7, Try.ntmps7
    go_wp2_with fail
    refine (prawake_any _).mono ?_
    rintro e u1 ⟨rfl, k1⟩
    go_wp2
    go_ret
    exact ⟨rfl, k1.1⟩
end Go.Proofs.Ytifenlopgpbpbaa
