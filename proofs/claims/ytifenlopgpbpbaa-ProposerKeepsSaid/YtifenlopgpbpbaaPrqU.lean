/- The law's play: what its ways share. -/
import Derived.Test.YtifenlopgpbpbaaPrqT
namespace Go.Proofs.Ytifenlopgpbpbaa
open Go.RowKit

/-- numbers of the model -/
structure EvOk (e : Evt) : Prop where
  kind : -9223372036854775808 ≤ e.kind ∧ e.kind ≤ 9223372036854775807
  p : -9223372036854775808 ≤ e.p ∧ e.p ≤ 9223372036854775807
  k : -9223372036854775808 ≤ e.k ∧ e.k ≤ 9223372036854775807
  a : -9223372036854775808 ≤ e.a ∧ e.a ≤ 9223372036854775807
theorem play_places {v0 : List Nat} {s : Sl} (I : Inv v0 s) (e : Evt) : ∃ (kq aq : Nat) (x : Rd) (ac : Ac), leastI e.k (s.rds.length : Int) = kq ∧ leastI e.a s.n = aq ∧ s.rds[kq]? = some x ∧ s.all[aq]? = some ac ∧ kq < s.rds.length ∧ (aq : Int) < s.n := by
  obtain ⟨z, hz, -⟩ := I.first
  have hl := get_lt hz
  have h1 := least_range (n := e.k) (many := (s.rds.length : Int)) (by omega)
  have h2 := least_range (n := e.a) (many := s.n) I.n1.1
  have h7 := I.alen
  have hn := I.n1
  refine ⟨(leastI e.k s.rds.length).toNat, (leastI e.a s.n).toNat, s.rds[(leastI e.k s.rds.length).toNat]'(by omega), s.all[(leastI e.a s.n).toNat]'(by omega), by omega, by omega, List.getElem?_eq_getElem _, List.getElem?_eq_getElem _, by omega, by omega⟩
theorem playS_at {s : Sl} {e : Evt} {kq aq : Nat} {x : Rd} {ac : Ac} (hx : s.rds[kq]? = some x) (hac : s.all[aq]? = some ac) (hk : leastI e.k (s.rds.length : Int) = kq) (ha : leastI e.a s.n = aq) : playS s e =
    if e.kind = 0 then { s with rds := s.rds ++ [⟨(s.rds.length : Int), leastI e.p s.n, [], false, [], []⟩] }
    else if e.kind = 1 then
      match prepA ac x.r x.s with
      | none => s
      | some t => { s with all := s.all.set aq t, rds := if e.lost = true then s.rds else s.rds.set kq { x with pm := x.pm ++ [⟨(aq : Int), ac.so, ac.ar, ac.as_, ac.val⟩] } }
    else if e.kind = 2 then
      match chooseP x.pm s.n with
      | none => s
      | some v => if x.has = true then s else { s with rds := s.rds.set kq { x with has := true, val := v } }
    else if x.has = true then
      match acceA ac x.r x.s x.val with
      | none => s
      | some t => { s with all := s.all.set aq t, rds := s.rds.set kq { x with vs := x.vs ++ [⟨(aq : Int), x.r, x.s⟩] } }
    else s := by
  unfold playS
  rw [hk, ha]
  simp only [Int.toNat_natCast]
  rw [hx, hac]
  rfl
/-- an event in a block of its own -/
abbrev HEv (W : World) (g : Nat) (ki p k a : Int) (lost : Bool) : Prop := W.heap[g]? = some (.cells #[.int .i64 ki, .int .i64 p, .int .i64 k, .int .i64 a, .bool lost] 53 (0, 0))
theorem HEv.kept {W W' : World} {g : Nat} {ki p k a : Int} {lost : Bool} (h : HEv W g ki p k a lost) (kk : Kept W W') : HEv W' g ki p k a lost := (kk.1.block g (heap_lt h)).trans h
theorem HEv.cells {W : World} {g : Nat} {ki p k a : Int} {lost : Bool} (h : HEv W g ki p k a lost) : W.cell? ⟨g, 0, none⟩ = some (.int .i64 ki) ∧ W.cell? ⟨g, 1, none⟩ = some (.int .i64 p) ∧ W.cell? ⟨g, 2, none⟩ = some (.int .i64 k) ∧ W.cell? ⟨g, 3, none⟩ = some (.int .i64 a) ∧ W.cell? ⟨g, 4, none⟩ = some (.bool lost) :=
  ⟨cell_of_heap h 0, cell_of_heap h 1, cell_of_heap h 2, cell_of_heap h 3, cell_of_heap h 4⟩
/-- a new block that the region made -/
def PtrN (B : Nat) (t : TypeId) (cs : Array Value) (u : Value) (w : World) : Prop := ∃ z, u = .pointer (some ⟨z, 0, none⟩) ∧ B ≤ z ∧ w.heap[z]? = some (.cells cs t (0, 0))
theorem PtrN.mono (B : Nat) (t : TypeId) (cs : Array Value) : (Slot.has (PtrN B t cs)).Mono := fun _ _ _ hk ⟨z, h1, h2, h3⟩ => ⟨z, h1, h2, (hk.1.block z (heap_lt h3)).trans h3⟩
/-- blocks of another kind are as they were -/
theorem FillE.other {e : TypeId} {base : Nat} {a b : List Value} {w w' : World} (k : FillE e base a b w w') {g : Nat} {cs : Array Value} {t : TypeId} {fr : Nat × Nat} (h : w.heap[g]? = some (.cells cs t fr)) (ht : t ≠ e) : w'.heap[g]? = some (.cells cs t fr) := by
  rcases k.block g (heap_lt h) with h1 | ⟨_, c1, c2, h1, _⟩
  · exact h1.trans h
  · rw [h] at h1
    injection h1 with h1
    injection h1 with _ h1
    exact absurd h1 ht
theorem Kept.filled {v W W' : World} {e : TypeId} {a b : List Value} (k : Kept v W) (h : FillE e v.heap.size a b W W') : Kept v W' :=
  ⟨⟨h.os.trans k.1.os, h.tape.trans k.1.tape, h.output.trans k.1.output, Nat.le_trans k.2 h.size, fun i hi => by
    rcases h.block i (Nat.lt_of_lt_of_le hi k.2) with h1 | ⟨h1, _⟩
    · exact h1.trans (k.1.block i hi)
    · omega⟩, Nat.le_trans k.2 h.size⟩
theorem row_filled {W W' : World} {e e' : TypeId} {base base' k n : Nat} {v : Value} {xs a b : List Value} (h : W.ownsRow base e' k v n xs) (f : FillE e base' a b W W') (hne : e' ≠ e) : W'.ownsRow base e' k v n xs := by
  refine ⟨h.1, ?_⟩
  rcases h.2 with h3 | ⟨g, cap, cur, e1, e2, hg, e3⟩
  · exact .inl h3
  · exact .inr ⟨g, cap, cur, e1, e2, f.other hg hne, e3⟩
theorem SlH.setState {W : World} {sl : List Sit} {rl : List Rit} {n : Int} {all : List Ac} {rds : List Rd} (H : SlH W sl rl ⟨n, all, rds⟩) (a : Nat) (Y : Sit) (hr : RowB W Y.A Y.x.val.length Y.c Y.x.val) : SlH W (sl.set a Y) rl ⟨n, all.set a Y.x, rds⟩ :=
  ⟨by show (sl.set a Y).map Sit.x = all.set a Y.x; rw [List.map_set]; congr 1; exact H.all, fun y hy => by
    rcases List.mem_or_eq_of_mem_set hy with h | rfl
    · exact H.each y h
    · exact hr, H.many, H.rd⟩
theorem SlH.setRound {W : World} {sl : List Sit} {rl : List Rit} {n : Int} {all : List Ac} {rds : List Rd} (H : SlH W sl rl ⟨n, all, rds⟩) (k : Nat) {x : Rit} {y : Rd} (hr : RdAt W x y) : SlH W sl (rl.set k x) ⟨n, all, rds.set k y⟩ :=
  ⟨H.all, H.each, by show (rl.set k x).length = (rds.set k y).length; rw [List.length_set, List.length_set]; exact H.many, fun i h1 h2 => by
    show RdAt W (rl.set k x)[i] ((rds.set k y)[i]'h2)
    have h2 : i < (rds.set k y).length := h2
    rw [List.getElem_set, List.getElem_set]
    split
    · exact hr
    · rw [List.length_set] at h1 h2
      exact H.rd i h1 h2⟩
/-- another block is written -/
theorem SlM.far {v W : World} {g : Nat} {n : Int} {sl : List Sit} {rl : List Rit} {b rc gx : Nat} (h : SlM v W g n sl rl (some ⟨b, 0, none⟩) rc) (hg : gx ≠ g) (hb : gx ≠ b) (hv : v.heap.size ≤ gx) (j : Nat) (u : Value) : SlM v (W.setCell ⟨gx, j, none⟩ u) g n sl rl (some ⟨b, 0, none⟩) rc :=
  ⟨h.kept.setCell (p := ⟨gx, j, none⟩) hv u, h.seven, ownsRow_setCell_other h.slot (a := ⟨gx, j, none⟩) (fun e => hg (by injection e with e; exact e.symm)) u, ownsRow_setCell_other h.rds (a := ⟨gx, j, none⟩) (fun e => hb (by injection e with e; exact e.symm)) u⟩
/-- what Choose tells where most of the sites have promised -/
def CtT (bs : List Nat) (u : Value) (w : World) : Prop := ∃ A c, u = .tuple #[.slice A bs.length c, .bool true] ∧ RowB w A bs.length c bs
theorem CtT.mono (bs : List Nat) : (Slot.has (CtT bs)).Mono := fun _ _ _ hk ⟨A, c, e, h⟩ => ⟨A, c, e, h.below hk.1⟩
def RbT (bs : List Nat) (u : Value) (w : World) : Prop := ∃ A c, u = .slice A bs.length c ∧ RowB w A bs.length c bs
theorem RbT.mono (bs : List Nat) : (Slot.has (RbT bs)).Mono := fun _ _ _ hk ⟨A, c, e, h⟩ => ⟨A, c, e, h.below hk.1⟩
end Go.Proofs.Ytifenlopgpbpbaa
