/- One acceptor of a slot: own, turn, and the two functions that are handed to it. -/
import Derived.Test.YtifenlopgpbpbaaAccM
import Derived.Test.YtifenlopgpbpbaaClone
import Derived.Test.YtifenlopgpbpbaaTell
import Derived.Deep.MidRow
namespace Go.Proofs.Ytifenlopgpbpbaa
open Go.RowKit

/-- a state's cells, and as a value -/
def acs (x : Ac) (A : Option Addr) (n c : Nat) : Array Value := #[.int .i64 x.pr, .int .i64 x.ps, .bool x.so, .int .i64 x.ar, .int .i64 x.as_, .slice A n c]
def acv (x : Ac) (A : Option Addr) (n c : Nat) : Value := .agg #[.int .i64 x.pr, .int .i64 x.ps, .bool x.so, .int .i64 x.ar, .int .i64 x.as_, .slice A n c]
/-- a value that is this state -/
def AcT (x : Ac) (v : Value) (w : World) : Prop := ∃ A c, v = acv x A x.val.length c ∧ RowB w A x.val.length c x.val
theorem AcT.kept {x : Ac} {v : Value} {w w' : World} (h : AcT x v w) (k : Kept w w') : AcT x v w' := by
  obtain ⟨A, c, e, hr⟩ := h
  exact ⟨A, c, e, hr.below k.1⟩
/-- a state in a block of its own -/
abbrev Hs (W : World) (g : Nat) (t : TypeId) (x : Ac) (A : Option Addr) (n c : Nat) : Prop := W.heap[g]? = some (.cells #[.int .i64 x.pr, .int .i64 x.ps, .bool x.so, .int .i64 x.ar, .int .i64 x.as_, .slice A n c] t (0, 0))
theorem Hs.kept {W W' : World} {g n c : Nat} {t : TypeId} {x : Ac} {A : Option Addr} (h : Hs W g t x A n c) (k : Kept W W') : Hs W' g t x A n c := (k.1.block g (heap_lt h)).trans h
theorem Hs.cells {W : World} {g n c : Nat} {t : TypeId} {x : Ac} {A : Option Addr} (h : Hs W g t x A n c) : W.cell? ⟨g, 0, none⟩ = some (.int .i64 x.pr) ∧ W.cell? ⟨g, 1, none⟩ = some (.int .i64 x.ps) ∧ W.cell? ⟨g, 2, none⟩ = some (.bool x.so) ∧ W.cell? ⟨g, 3, none⟩ = some (.int .i64 x.ar) ∧ W.cell? ⟨g, 4, none⟩ = some (.int .i64 x.as_) ∧ W.cell? ⟨g, 5, none⟩ = some (.slice A n c) :=
  ⟨cell_of_heap h 0, cell_of_heap h 1, cell_of_heap h 2, cell_of_heap h 3, cell_of_heap h 4, cell_of_heap h 5⟩
theorem Hs.free {W : World} {g n c : Nat} {t : TypeId} {x : Ac} {A : Option Addr} (h : Hs W g t x A n c) : W.frozen? ⟨g, 0, none⟩ = false ∧ W.frozen? ⟨g, 1, none⟩ = false ∧ W.frozen? ⟨g, 2, none⟩ = false ∧ W.frozen? ⟨g, 3, none⟩ = false ∧ W.frozen? ⟨g, 4, none⟩ = false ∧ W.frozen? ⟨g, 5, none⟩ = false :=
  ⟨frozen_of_heap h 0, frozen_of_heap h 1, frozen_of_heap h 2, frozen_of_heap h 3, frozen_of_heap h 4, frozen_of_heap h 5⟩
/-- a state written over -/
abbrev put6 (W : World) (g : Nat) (x : Ac) (A : Option Addr) (n c : Nat) : World :=
  (((((W.setCell ⟨g, 0, none⟩ (.int .i64 x.pr)).setCell ⟨g, 1, none⟩ (.int .i64 x.ps)).setCell ⟨g, 2, none⟩ (.bool x.so)).setCell ⟨g, 3, none⟩ (.int .i64 x.ar)).setCell ⟨g, 4, none⟩ (.int .i64 x.as_)).setCell ⟨g, 5, none⟩ (.slice A n c)
theorem put6_size (W : World) (g : Nat) (x : Ac) (A : Option Addr) (n c : Nat) : (put6 W g x A n c).heap.size = W.heap.size := by simp [put6, World.setCell]
theorem put6_old (W : World) (g : Nat) (x : Ac) (A : Option Addr) (n c : Nat) {k : Nat} (hk : k ≠ g) : (put6 W g x A n c).heap[k]? = W.heap[k]? :=
  (Below.heap_setCell _ ⟨g, 5, none⟩ _ k hk).trans ((Below.heap_setCell _ ⟨g, 4, none⟩ _ k hk).trans ((Below.heap_setCell _ ⟨g, 3, none⟩ _ k hk).trans ((Below.heap_setCell _ ⟨g, 2, none⟩ _ k hk).trans ((Below.heap_setCell _ ⟨g, 1, none⟩ _ k hk).trans (Below.heap_setCell _ ⟨g, 0, none⟩ _ k hk)))))
theorem put6_new {W : World} {g n' c' : Nat} {t : TypeId} {y : Ac} {B : Option Addr} (h : Hs W g t y B n' c') (x : Ac) (A : Option Addr) (n c : Nat) : Hs (put6 W g x A n c) g t x A n c := by
  unfold put6 Hs
  exact (heap_setCell_same (heap_setCell_same (heap_setCell_same (heap_setCell_same (heap_setCell_same (heap_setCell_same h _) _) _) _) _) _).trans rfl
theorem put6_below {W : World} {g B : Nat} (x : Ac) (A : Option Addr) (n c : Nat) (h : B ≤ g) : Below B W (put6 W g x A n c) :=
  ((((((Below.refl _ _).setCell (p := ⟨g, 0, none⟩) h _).setCell (p := ⟨g, 1, none⟩) h _).setCell (p := ⟨g, 2, none⟩) h _).setCell (p := ⟨g, 3, none⟩) h _).setCell (p := ⟨g, 4, none⟩) h _).setCell (p := ⟨g, 5, none⟩) h _
theorem put6_kept {v W : World} {g : Nat} (x : Ac) (A : Option Addr) (n c : Nat) (k : Kept v W) (h : v.heap.size ≤ g) : Kept v (put6 W g x A n c) := ⟨k.1.trans (put6_below x A n c h), by rw [put6_size]; exact k.2⟩
/-- bytes don't lie in a state's block -/
theorem Row.apart6 {W : World} {A B : Option Addr} {n c m d g : Nat} {t : TypeId} {y : Ac} {bs : List Nat} (hr : Row W A n c bs) (hz : Hs W g t y B m d) : ∀ a, A = some a → 0 < n → a.block ≠ g := by
  intro a ha hn
  obtain ⟨b, off, e, _, hcs⟩ := hr.bts.2.2.2 hn
  rw [ha] at e
  injection e with e
  subst e
  rintro rfl
  have h0 := hcs 0 hn
  rw [Nat.add_zero, cell_of_heap hz] at h0
  rcases off with _ | _ | _ | _ | _ | _ | off <;> simp at h0
theorem Row.put6 {W : World} {A B B' : Option Addr} {n c m d m' d' g : Nat} {t : TypeId} {x y : Ac} {bs : List Nat} (hr : Row W A n c bs) (hz : Hs W g t y B m d) : Row (put6 W g x B' m' d') A n c bs :=
  hr.off (by rw [put6_size]; exact Nat.le_refl _) fun a ha hn => put6_old _ _ _ _ _ _ (hr.apart6 hz a ha hn)
theorem RowB.put6 {W : World} {A B B' : Option Addr} {n c m d m' d' g : Nat} {t : TypeId} {x y : Ac} {bs : List Nat} (hr : RowB W A n c bs) (hz : Hs W g t y B m d) : RowB (put6 W g x B' m' d') A n c bs :=
  hr.off (by rw [put6_size]; exact Nat.le_refl _) fun a ha hn => put6_old _ _ _ _ _ _ (hr.row.apart6 hz a ha hn)
/-- bytes of new memory stay where older blocks are written -/
theorem Own.rowOff {W W' : World} {base : Nat} {v : Value} {bs : List Nat} (own : Own W base v bs) (hl : bs.length ≤ 140737505132544) (hby : ∀ c ∈ bs, c < 256) (hs : W.heap.size ≤ W'.heap.size) (hk : ∀ k, base ≤ k → W'.heap[k]? = W.heap[k]?) :
    ∃ A cap, v = .slice A bs.length cap ∧ RowB W' A bs.length cap bs := by
  obtain ⟨A, cap, rfl, hr⟩ := own.rowB hl hby
  refine ⟨A, cap, rfl, hr.off hs fun a ha hn => hk _ ?_⟩
  obtain ⟨g, c', e, hg⟩ := own.form hn
  cases e
  cases ha
  exact hg

set_option maxRecDepth 100000 in
set_option maxHeartbeats 1000000 in
theorem own_any {w : World} {x : Ac} {A : Option Addr} {c : Nat} (h : Row w A x.val.length c x.val) :
    Calls Try.prog 38 #[acv x A x.val.length c] w fun e w' => ∃ v, e = .returned v ∧ AcT x v w' ∧ Kept w w' := by
  have hmax := h.bts.2.1
  have hby := h.bts.2.2.1
  obtain ⟨pr, ps, so, ar, as_, val⟩ := x
  simp only [acv] at *
  have k0 : Kept w ((w.alloc (.cells #[.int .i64 pr, .int .i64 ps, .bool so, .int .i64 ar, .int .i64 as_, .slice A val.length c] 45)).alloc (.cells #[.int .i64 0, .int .i64 0, .bool false, .int .i64 0, .int .i64 0, .slice none 0 0] 45)) := ((Kept.refl w).alloc _).alloc _
  have p1 : Hs ((w.alloc (.cells #[.int .i64 pr, .int .i64 ps, .bool so, .int .i64 ar, .int .i64 as_, .slice A val.length c] 45)).alloc (.cells #[.int .i64 0, .int .i64 0, .bool false, .int .i64 0, .int .i64 0, .slice none 0 0] 45)) w.heap.size 45 ⟨pr, ps, so, ar, as_, val⟩ A val.length c := push_two_old w _ _
  have p2 : Hs ((w.alloc (.cells #[.int .i64 pr, .int .i64 ps, .bool so, .int .i64 ar, .int .i64 as_, .slice A val.length c] 45)).alloc (.cells #[.int .i64 0, .int .i64 0, .bool false, .int .i64 0, .int .i64 0, .slice none 0 0] 45)) (w.heap.size + 1) 45 Ac.zero none 0 0 := push_two_new w _ _
  have HC := Lib.hid (clone_any (h.below k0.1))
  have HM := Lib.hid (And.intro hmax hby)
  have K0 := Lib.hid k0
  have P1 := Lib.hid p1
  have P2 := Lib.hid p2
  clear h hmax hby k0 p1 p2
  go_enter Try.func38, Try.ntmps38
  go_wp2_with fail
  refine HC.out.mono ?_
  rintro e u ⟨v, rfl, own, hb⟩
  have k1 : Kept _ u := ⟨hb, hb.size⟩
  have q1 := P1.out.kept k1
  have q2 := P2.out.kept k1
  have hsz : w.heap.size + 2 ≤ u.heap.size := by have := k1.2; simp at this; exact this
  obtain ⟨c0, c1, c2, c3, c4, c5⟩ := q1.cells
  obtain ⟨f0, f1, f2, f3, f4, f5⟩ := q1.free
  obtain ⟨d0, d1, d2, d3, d4, d5⟩ := q2.cells
  obtain ⟨e0, e1, e2, e3, e4, e5⟩ := q2.free
  simp only [Ac.zero] at d0 d1 d2 d3 d4 d5 q2
  have Q1 := Lib.hid q1
  have Q2 := Lib.hid q2
  have KK := Lib.hid (K0.out.trans k1)
  have HO := Lib.hid own
  obtain ⟨A', n', c', rfl⟩ := own.slice
  clear hb k1 q1 q2 own
  go_wp2
  have hn : n' = val.length := by
    obtain ⟨_, _, e, _⟩ := HO.out.row HM.out.1 HM.out.2
    cases e
    rfl
  subst hn
  have H5 := Lib.hid (show Hs (put6 (u.setCell ⟨w.heap.size, 5, none⟩ (.slice A' val.length c')) (w.heap.size + 1) ⟨pr, ps, so, ar, as_, val⟩ A' val.length c') (w.heap.size + 1) 45 ⟨pr, ps, so, ar, as_, val⟩ A' val.length c' from
    put6_new (y := Ac.zero) (B := none) (n' := 0) (c' := 0) ((Below.heap_setCell u ⟨w.heap.size, 5, none⟩ _ (w.heap.size + 1) (by simp)).trans Q2.out) _ _ _ _)
  refine bodyPost_ret (results_cell_row (p := 2) (ty := 45) rfl _ _ (w.heap.size + 1) _ _ _ _ rfl (by with_reducible exact H5.out) Try.underlying45 rfl (by kernel_rfl)) rfl ?_
  obtain ⟨A2, c2', e, hrow⟩ := HO.out.rowOff (W' := put6 (u.setCell ⟨w.heap.size, 5, none⟩ (.slice A' val.length c')) (w.heap.size + 1) ⟨pr, ps, so, ar, as_, val⟩ A' val.length c') HM.out.1 HM.out.2 (by rw [put6_size]; simp [World.setCell]) (fun k hk => by
    simp only [World.size_alloc] at hk
    rw [put6_old _ _ _ _ _ _ (by omega)]
    exact Below.heap_setCell u ⟨w.heap.size, 5, none⟩ _ k (by show k ≠ w.heap.size; omega))
  cases e
  have hk := put6_kept (g := w.heap.size + 1) ⟨pr, ps, so, ar, as_, val⟩ A' val.length c' (KK.out.setCell (p := ⟨w.heap.size, 5, none⟩) (Nat.le_refl _) (.slice A' val.length c')) (by omega)
  refine ⟨_, rfl, ⟨A', c', rfl, ?_⟩, ?_⟩
  · with_reducible exact hrow
  · with_reducible exact hk

set_option maxRecDepth 100000 in
/-- the function that does nothing more -/
theorem idle_any (x : Ac) (A : Option Addr) (n c : Nat) (w : World) : Calls Try.prog 40 #[acv x A n c] w fun e w' => e = .returned (acv x A n c) ∧ Kept w w' := by
  obtain ⟨pr, ps, so, ar, as_, val⟩ := x
  simp only [acv] at *
  go_enter Try.func40, Try.ntmps40
  go_wp2
  refine bodyPost_ret (results_cell_row (p := 2) (ty := 45) rfl _ _ (w.heap.size + 1) _ _ _ _ rfl (push_two_new w _ _) Try.underlying45 rfl (by kernel_rfl)) rfl ?_
  exact ⟨rfl, ((Kept.refl w).alloc _).alloc _⟩

set_option maxRecDepth 100000 in
set_option maxHeartbeats 1000000 in
/-- the function that accepts -/
theorem put_any (x : Ac) (A : Option Addr) (n c : Nat) {w : World} {g1 g2 m d : Nat} {r t : Int} {B : Option Addr} (h1 : Bx w g1 r t) (h2 : w.heap[g2]? = some (.cells #[.slice B m d] 24 (0, 0))) (vs : List Nat) :
    Calls Try.prog 41 #[acv x A n c, .pointer (some ⟨g1, 0, none⟩), .pointer (some ⟨g2, 0, none⟩)] w fun e w' => e = .returned (acv ⟨x.pr, x.ps, true, r, t, vs⟩ B m d) ∧ Kept w w' := by
  obtain ⟨pr, ps, so, ar, as_, val⟩ := x
  simp only [acv] at *
  have c0 := cell_of_heap h2 0
  have b0 := h1.c0
  have b1 := h1.c1
  have l1 := heap_lt h1
  have l2 := heap_lt h2
  simp only [List.getElem?_toArray, List.getElem?_cons_zero] at c0
  clear h1 h2
  go_enter Try.func41, Try.ntmps41
  go_wp2_with fail
  go_region
  go_wp2
  refine bodyPost_ret (results_cell_row (p := 4) (ty := 45) rfl _ _ (w.heap.size + 1) _ _ _ _ rfl (push_two_new w _ _) Try.underlying45 rfl (by kernel_rfl)) rfl ?_
  exact ⟨rfl, (((Kept.refl w).alloc _).alloc _).drew⟩
end Go.Proofs.Ytifenlopgpbpbaa
