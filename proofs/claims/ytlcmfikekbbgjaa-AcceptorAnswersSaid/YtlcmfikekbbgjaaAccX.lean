/- One acceptor of a slot: states, asks, and lists of asks, as arguments; loops over asks. -/
import Derived.Test.YtlcmfikekbbgjaaAccW
import Derived.Test.YtlcmfikekbbgjaaStr
namespace Go.Proofs.Ytlcmfikekbbgjaa
open Go.RowKit

theorem state_of {w : World} {cs : List Value} (h : cs.length = 6 ∧ IsStruct [(0, 2, (fun w cs => cs.length = 2 ∧ IsStruct [(0, 1, (IsInt .i64)), (1, 1, (IsInt .i64))] w cs)), (2, 1, IsBool), (3, 2, (fun w cs => cs.length = 2 ∧ IsStruct [(0, 1, (IsInt .i64)), (1, 1, (IsInt .i64))] w cs)), (5, 1, (IsSlice 1 1 (IsInt .u8)))] w cs) :
    ∃ (x : Ac) (A : Option Addr) (c : Nat), cs = [.int .i64 x.pr, .int .i64 x.ps, .bool x.so, .int .i64 x.ar, .int .i64 x.as_, .slice A x.val.length c] ∧ x.wf ∧ Row w A x.val.length c x.val ∧ x.val.length ≤ 140737488351232 := by
  obtain ⟨hl, h0, h1, h2, h3, -⟩ := h
  match cs, hl with
  | [v0, v1, v2, v3, v4, v5], _ =>
    obtain ⟨r0, s0, e0, f0, g0⟩ := ballot_of h0
    obtain ⟨so, e1⟩ := h1
    obtain ⟨r1, s1, e2, f2, g2⟩ := ballot_of h2
    obtain ⟨A, n, c, e3, hs⟩ := h3
    simp only [List.drop_zero, List.take_succ_cons, List.take_zero, List.drop_succ_cons, List.cons.injEq, and_true] at e0 e1 e2 e3
    obtain ⟨rfl, rfl⟩ := e0
    obtain ⟨rfl, rfl⟩ := e2
    subst e1 e3
    obtain ⟨bs, hb⟩ := Row.of hs
    have hlen := hb.len
    subst hlen
    exact ⟨⟨r0, s0, so, r1, s1, bs⟩, A, c, rfl, ⟨f0, g0, f2, g2⟩, hb, by have := hs.2.2.1; show bs.length ≤ _; omega⟩
theorem ask_of {w : World} {cs : List Value} (h : cs.length = 4 ∧ IsStruct [(0, 2, (fun w cs => cs.length = 2 ∧ IsStruct [(0, 1, (IsInt .i64)), (1, 1, (IsInt .i64))] w cs)), (2, 1, IsBool), (3, 1, (IsSlice 1 1 (IsInt .u8)))] w cs) :
    ∃ (a : Ak) (A : Option Addr) (c : Nat), cs = [.int .i64 a.r, .int .i64 a.s, .bool a.puts, .slice A a.val.length c] ∧ Row w A a.val.length c a.val := by
  obtain ⟨hl, h0, h1, h3, -⟩ := h
  match cs, hl with
  | [v0, v1, v2, v3], _ =>
    obtain ⟨r0, s0, e0, f0, g0⟩ := ballot_of h0
    obtain ⟨so, e1⟩ := h1
    obtain ⟨A, n, c, e3, hs⟩ := h3
    simp only [List.drop_zero, List.take_succ_cons, List.take_zero, List.drop_succ_cons, List.cons.injEq, and_true] at e0 e1 e3
    obtain ⟨rfl, rfl⟩ := e0
    subst e1 e3
    obtain ⟨bs, hb⟩ := Row.of hs
    have hlen := hb.len
    subst hlen
    exact ⟨⟨r0, s0, so, bs⟩, A, c, rfl, hb⟩
/-- an ask in memory -/
def AkAt (w : World) (b off : Nat) (a : Ak) : Prop := b < w.heap.size ∧ w.cell? ⟨b, off, none⟩ = some (.int .i64 a.r) ∧ w.cell? ⟨b, off + 1, none⟩ = some (.int .i64 a.s) ∧ w.cell? ⟨b, off + 2, none⟩ = some (.bool a.puts) ∧ ∃ A c, w.cell? ⟨b, off + 3, none⟩ = some (.slice A a.val.length c) ∧ Row w A a.val.length c a.val
/-- asks in memory -/
def Aks (w : World) (A : Option Addr) (l : List Ak) : Prop := ∀ (i : Nat) (h : i < l.length), ∃ b off, A = some ⟨b, off, none⟩ ∧ AkAt w b (off + i * 4) l[i]
instance : Inhabited Ak := ⟨⟨0, 0, false, []⟩⟩
theorem asks_of {w : World} {A : Option Addr} {n cap : Nat} (h : SliceAt 4 48 (fun w cs => cs.length = 4 ∧ IsStruct [(0, 2, (fun w cs => cs.length = 2 ∧ IsStruct [(0, 1, (IsInt .i64)), (1, 1, (IsInt .i64))] w cs)), (2, 1, IsBool), (3, 1, (IsSlice 1 1 (IsInt .u8)))] w cs) w A n cap) : ∃ l : List Ak, l.length = n ∧ n ≤ 140737488351232 ∧ Aks w A l := by
  obtain ⟨x1, x2, x3, x4, hc⟩ := h
  have key : ∀ i, i < n → ∃ a : Ak, ∃ b off, A = some ⟨b, off, none⟩ ∧ AkAt w b (off + i * 4) a := by
    intro i hi
    obtain ⟨b, off, rfl, hb, hel⟩ := hc (by omega)
    obtain ⟨cs, hl, hr, hcell⟩ := hel i hi
    obtain ⟨a, A', c', rfl, hrow⟩ := ask_of hr
    refine ⟨a, b, off, rfl, hb, ?_⟩
    have c0 := hcell 0 (by omega)
    have c1 := hcell 1 (by omega)
    have c2 := hcell 2 (by omega)
    have c3 := hcell 3 (by omega)
    simp only [← Nat.add_assoc, Nat.add_zero] at c0 c1 c2 c3
    exact ⟨c0, c1, c2, A', c', c3, hrow⟩
  obtain ⟨f, hf⟩ := Go.Deep.choose_lt key
  refine ⟨(List.range n).map f, by simp, by omega, fun i hi => ?_⟩
  have hin : i < n := by simpa using hi
  obtain ⟨b, off, e, hk⟩ := hf i hin
  refine ⟨b, off, e, ?_⟩
  simpa using hk
theorem AkAt.kept {w w' : World} {b off : Nat} {a : Ak} (h : AkAt w b off a) (k : Kept w w') : AkAt w' b off a := by
  obtain ⟨hb, h0, h1, h2, A, c, h3, hr⟩ := h
  exact ⟨Nat.lt_of_lt_of_le hb k.2, (k.cell (p := ⟨b, off, none⟩) hb).trans h0, (k.cell (p := ⟨b, off + 1, none⟩) hb).trans h1, (k.cell (p := ⟨b, off + 2, none⟩) hb).trans h2, A, c, (k.cell (p := ⟨b, off + 3, none⟩) hb).trans h3, hr.below k.1⟩
/-- a state in a variable of the law's, behind what was there when the law began -/
structure St (v W : World) (g : Nat) (x : Ac) : Prop where
  kept : Kept v W
  new : v.heap.size ≤ g
  row : ∃ A c, Hs W g 26 x A x.val.length c ∧ Row W A x.val.length c x.val
/-- a new state's block -/
def PtrA (B : Nat) (u : Value) (w : World) : Prop := ∃ z, u = .pointer (some ⟨z, 0, none⟩) ∧ B ≤ z ∧ Hs w z 26 Ac.zero none 0 0
theorem PtrA.mono (B : Nat) : (Slot.has (PtrA B)).Mono := fun _ _ _ hk ⟨z, h1, h2, h3⟩ => ⟨z, h1, h2, (hk.1.block z (heap_lt h3)).trans h3⟩
/-- a round's end: what was answered stands in its own variable, and in the state's -/
theorem St.round {v wr wz : World} {g z c : Nat} {x y y0 : Ac} {A A0 : Option Addr} {n0 c0 : Nat} (h : St v wr g x) (k : Kept wr wz) (hz : wr.heap.size ≤ z) (hv : Hs wz z 26 y0 A0 n0 c0) (r : Row wz A y.val.length c y.val) :
    St v (put6 (put6 wz z y A y.val.length c) g y A y.val.length c) g y ∧ Hs (put6 wz z y A y.val.length c) z 26 y A y.val.length c := by
  obtain ⟨A1, c1, h1, -⟩ := h.row
  have hg := heap_lt h1
  have h2 := h1.kept k
  have hvz : v.heap.size ≤ z := Nat.le_trans h.kept.2 hz
  have q1 := put6_new hv y A y.val.length c
  have q2 : Hs (put6 wz z y A y.val.length c) g 26 x A1 x.val.length c1 := (put6_old wz z y A y.val.length c (k := g) (by omega)).trans h2
  exact ⟨⟨put6_kept y A _ c (put6_kept y A _ c (h.kept.trans k) hvz) h.new, h.new, A, c, put6_new q2 y A _ c, (r.put6 hv).put6 q2⟩, q1⟩
theorem St.grow {v W W' : World} {g : Nat} {x : Ac} (h : St v W g x) (k : Kept W W') : St v W' g x := by
  obtain ⟨A, c, h1, h2⟩ := h.row
  exact ⟨h.kept.trans k, h.new, A, c, h1.kept k, h2.below k.1⟩
/-- what was answered stands in its own variable -/
theorem St.mid {v wr wz : World} {g z c : Nat} {x y y0 : Ac} {A A0 : Option Addr} {n0 c0 : Nat} (h : St v wr g x) (k : Kept wr wz) (hz : wr.heap.size ≤ z) (hv : Hs wz z 26 y0 A0 n0 c0) (r : Row wz A y.val.length c y.val) :
    St v (put6 wz z y A y.val.length c) g x ∧ Hs (put6 wz z y A y.val.length c) z 26 y A y.val.length c ∧ Row (put6 wz z y A y.val.length c) A y.val.length c y.val := by
  obtain ⟨A1, c1, h1, h1r⟩ := h.row
  have hg := heap_lt h1
  have h2 := h1.kept k
  have hvz : v.heap.size ≤ z := Nat.le_trans h.kept.2 hz
  have q2 : Hs (put6 wz z y A y.val.length c) g 26 x A1 x.val.length c1 := (put6_old wz z y A y.val.length c (k := g) (by omega)).trans h2
  exact ⟨⟨put6_kept y A _ c (h.kept.trans k) hvz, h.new, A1, c1, q2, (h1r.below k.1).put6 hv⟩, put6_new hv y A _ c, r.put6 hv⟩
theorem St.put {v W : World} {g c : Nat} {x y : Ac} {A : Option Addr} (h : St v W g x) (r : Row W A y.val.length c y.val) : St v (put6 W g y A y.val.length c) g y := by
  obtain ⟨A1, c1, h1, h1r⟩ := h.row
  exact ⟨put6_kept y A _ c h.kept h.new, h.new, A, c, put6_new h1 y A _ c, r.put6 h1⟩
theorem St.start (v W : World) (k : Kept v W) : St v (W.alloc (.cells #[.int .i64 0, .int .i64 0, .bool false, .int .i64 0, .int .i64 0, .slice none 0 0] 26)) W.heap.size Ac.zero :=
  ⟨k.alloc _, k.2, none, 0, push_new W _, Row.none⟩
end Go.Proofs.Ytlcmfikekbbgjaa
