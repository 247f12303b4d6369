/- Last: plain facts; the function that it ranges over. -/
import Derived.Test.YtmjgpgnecohbcaaAlgO
import Derived.Test.YtmjgpgnecohbcaaRange
import Derived.Test.YtmjgpgnecohbcaaMgA
import Derived.Shelf.Abstract
import Derived.Shelf.RegionOpen
import Derived.OwnWalkIn
import Derived.TacticsInMore
import Derived.LoopNIn
import Derived.LoopIn
namespace Go.Proofs.Ytmjgpgnecohbcaa
open Go.RowKit Go.Shelf
attribute [local go_sem] Oper.semAt_some

/-- it is of this kind, about this slot -/
def Rc.is (kind slot : Int) (r : Rc) : Prop := r.kind = kind ∧ r.slot = slot
instance (kind slot : Int) (r : Rc) : Decidable (r.is kind slot) := by unfold Rc.is; exact inferInstance
/-- the last one of a kind about a slot -/
def lastOf (kind slot : Int) (l : List Rc) : Option Rc := l.reverse.find? fun r => decide (r.is kind slot)
theorem lastOf_none {kind slot : Int} {l : List Rc} (h : ∀ i (hi : i < l.length), ¬ l[i].is kind slot) : lastOf kind slot l = none := by
  unfold lastOf
  rw [List.find?_eq_none]
  intro r hr
  obtain ⟨i, hi, rfl⟩ := List.mem_iff_getElem.1 (List.mem_reverse.1 hr)
  simpa using h i hi
theorem lastOf_hit {kind slot : Int} {l : List Rc} {k : Nat} (hk : k < l.length) (hm : l[k].is kind slot) (h : ∀ i (hi : i < l.length), k < i → ¬ l[i].is kind slot) : lastOf kind slot l = some l[k] := by
  have e : l = l.take k ++ (l[k] :: l.drop (k + 1)) := by rw [← List.drop_eq_getElem_cons hk, List.take_append_drop]
  have hd : (l.drop (k + 1)).reverse.find? (fun r => decide (r.is kind slot)) = none := by
    rw [List.find?_eq_none]
    intro r hr
    obtain ⟨i, hi, rfl⟩ := List.mem_iff_getElem.1 (List.mem_reverse.1 hr)
    rw [List.length_drop] at hi
    rw [List.getElem_drop]
    simpa using h (k + 1 + i) (by omega) (by omega)
  unfold lastOf
  conv => lhs; rw [e]
  rw [List.reverse_append, List.reverse_cons, List.append_assoc, List.find?_append, hd]
  simp [hm]

/-- what a round of Last is handed -/
structure Bk where
  x : It
  i : Nat
def Bk.args (y : Bk) : Array Value := #[.int .i64 (y.i : Nat), rcv y.x.r y.x.A y.x.r.val.length y.x.c]
def Bk.Pre (w5 : World) (y : Bk) (W : World) : Prop := Kept w5 W ∧ y.x.ok W
/-- behind the round that told it -/
structure LHit (B : Nat) (r : Rc) (W W' : World) : Prop where
  os : W'.os = W.os
  tape : W'.tape = W.tape
  output : W'.output = W.output
  size : W.heap.size ≤ W'.heap.size
  old : ∀ b, b < W.heap.size → b ≠ B + 2 → b ≠ B + 3 → b ≠ B + 6 → W'.heap[b]? = W.heap[b]?
  res : ∃ A c, W'.heap[B + 2]? = some (.cells #[.int .i64 r.kind, .int .i64 r.slot, .int .i64 r.round, .int .i64 r.site, .slice A r.val.length c] 52 (0, 0)) ∧ Row W' A r.val.length c r.val
  yes : W'.heap[B + 3]? = some (.cells #[.bool true] 4 (0, 0))
  done : ∃ r : Loop, W'.heap[B + 6]? = some (.loop r) ∧ r.state = .done ∧ r.pending = some .ret
def Bk.Post (B : Nat) (kind slot : Int) (y : Bk) (W : World) (e : Ending) (W' : World) : Prop :=
  (¬ y.x.r.is kind slot ∧ e = .returned (.bool true) ∧ Kept W W') ∨ (y.x.r.is kind slot ∧ e = .returned (.bool false) ∧ LHit B y.x.r W W')

theorem back_fn (A : Option Addr) (n cap : Nat) (w : World) : Calls Try.prog 45 #[.slice A n cap] w fun e w' => e = .returned (.func (.func 67) #[] #[.pointer (some ⟨w.heap.size, 0, none⟩)]) ∧ w' = w.alloc (.cells #[.slice A n cap] 36) := by
  go_enter Try.func45, Try.ntmps45
  go_wp2
  go_ret
  exact ⟨rfl, rfl⟩

set_option maxRecDepth 100000 in
set_option maxHeartbeats 4000000 in
theorem back_any {w5 : World} {B : Nat} {A : Option Addr} {n cap : Nat} {l : List Rc} {kind slot : Int} (hs0 : w5.heap.size = B + 5) (hb : w5.heap[B + 4]? = some (.cells #[.slice A n cap] 36 (0, 0))) (hl : l.length = n) (hR : Rcs w5 A l) (hn : n ≤ 1099511627776) (rec : LoopState → Option Code → Loop)
    (hY : ∀ (x : Bk) W, x.Pre w5 W → W.heap[B + 6]? = some (.loop (rec .ready none)) → YieldAt Fence.wide 0 Try.prog (B + 6) x.args W (x.Post B kind slot W)) :
    CallsIn Fence.wide 1 Try.prog 67 #[.func (.yield (B + 6)) #[] #[], .pointer (some ⟨B + 4, 0, none⟩)] ((w5.alloc (.deferred (some []))).alloc (.loop (rec .ready none))) fun e W => (∃ v, e = .returned v) ∧
      ((W.heap[B + 6]? = some (.loop (rec .ready none)) ∧ (Kept w5 W ∧ W.heap[B + 5]? = some (.deferred (some [])) ∧ lastOf kind slot l = none)) ∨
       ((∃ r : Loop, W.heap[B + 6]? = some (.loop r) ∧ r.state = .done ∧ r.pending = some .ret) ∧ ∃ r Wk, lastOf kind slot l = some r ∧ Kept w5 Wk ∧ Wk.heap[B + 5]? = some (.deferred (some [])) ∧ LHit B r Wk W)) := by
  have k1 : Kept w5 ((w5.alloc (.deferred (some []))).alloc (.loop (rec .ready none))) := ((Kept.refl w5).alloc _).alloc _
  have hL1 : ((w5.alloc (.deferred (some []))).alloc (.loop (rec .ready none))).heap[B + 6]? = some (.loop (rec .ready none)) := by
    have := push_new (w5.alloc (.deferred (some []))) (.loop (rec .ready none))
    rwa [World.size_alloc, hs0] at this
  have hs1 : ((w5.alloc (.deferred (some []))).alloc (.loop (rec .ready none))).heap.size = B + 7 := by simp [hs0]
  have hD1 : ((w5.alloc (.deferred (some []))).alloc (.loop (rec .ready none))).heap[B + 5]? = some (.deferred (some [])) := by
    have := push_two_old w5 (.deferred (some [])) (.loop (rec .ready none))
    rwa [hs0] at this
  generalize (w5.alloc (.deferred (some []))).alloc (.loop (rec .ready none)) = W1 at *
  have hbl : B + 4 < w5.heap.size := by omega
  have hc0 := cell_of_heap hb 0
  simp only [List.getElem?_toArray, List.getElem?_cons_zero] at hc0
  have hc := (k1.cell (p := ⟨B + 4, 0, none⟩) hbl).trans hc0
  have HC0 := Lib.hid hc0
  have HK1 := Lib.hid k1
  have HL1 := Lib.hid hL1
  have HD1 := Lib.hid hD1
  have HY := Lib.hid hY
  have HS1 := Lib.hid hs1
  have HR := Lib.hid hR
  have HL := Lib.hid hl
  clear k1 hL1 hD1 hY hs1 hb hR hl hc0
  refine callsIn_of_wp Try.func67 rfl trivial ?_ rfl
  simp only [Try.ntmps67, List.size_toArray, List.length_cons, List.length_nil, Nat.reduceAdd, Nat.reduceSub, Array.replicate_succ, Array.replicate_zero, List.push_toArray, List.append_toArray, List.nil_append, List.cons_append]
  gi_wp2
  gi_loopw [3] (fun i wr => ∃ (k : Nat), k ≤ n ∧ i = .int .i64 ((k : Int) - 1) ∧ Kept W1 wr ∧ ∀ j (hj : j < l.length), k ≤ j → ¬ l[j].is kind slot) (fun i _ => ((intOf i) + 1).toNat)
  case atStart => exact ⟨n, Nat.le_refl _, rfl, Kept.refl _, fun j hj h => absurd hj (by rw [HL.out]; omega)⟩
  case round =>
    obtain ⟨k, hk, rfl, kk, hno⟩ := hrel
    rename_i wr
    have HKK := Lib.hid kk
    have HNO := Lib.hid hno
    clear kk hno
    by_cases hpos : 0 < k
    · obtain ⟨m, rfl⟩ : ∃ m, k = m + 1 := ⟨k - 1, by omega⟩
      have e1 : ((m + 1 : Nat) : Int) - 1 = (m : Int) := by omega
      rw [e1]
      have hki : m < l.length := by rw [HL.out]; omega
      obtain ⟨b, off, A2, e2, rfl, hb, a0, a1, a2, a3, a4, ar⟩ := HR.out.cells_at hki
      have hkw := HK1.out.trans HKK.out
      have HHIT := Lib.hid fun hm => lastOf_hit (kind := kind) (slot := slot) hki hm (fun i hi h => HNO.out i hi h)
      have HNO2 : Hid (¬ l[m].is kind slot → ∀ j (hj : j < l.length), m ≤ j → ¬ l[j].is kind slot) := Lib.hid fun hm j hj h => by
        by_cases hjm : j = m
        · subst hjm; exact hm
        · exact HNO.out j hj (by omega)
      generalize l[m] = r at *
      have c0 := (hkw.cell (p := ⟨b, off + m * 5, none⟩) hb).trans a0
      have c1 := (hkw.cell (p := ⟨b, off + m * 5 + 1, none⟩) hb).trans a1
      have c2 := (hkw.cell (p := ⟨b, off + m * 5 + 2, none⟩) hb).trans a2
      have c3 := (hkw.cell (p := ⟨b, off + m * 5 + 3, none⟩) hb).trans a3
      have c4 := (hkw.cell (p := ⟨b, off + m * 5 + 4, none⟩) hb).trans a4
      have cb := (hkw.cell (p := ⟨B + 4, 0, none⟩) hbl).trans HC0.out
      have hsz := HS1.out
      have hready := (HKK.out.1.block (B + 6) (by omega)).trans HL1.out
      have hmark := (HKK.out.1.block (B + 5) (by omega)).trans HD1.out
      have HMARK := Lib.hid hmark
      have HREADY := Lib.hid hready
      obtain ⟨fn, tmps, assign, body, hy, hRR⟩ := HY.out ⟨⟨r, A2, e2⟩, m⟩ wr ⟨hkw, ar.below hkw.1⟩ hready
      have HKW := Lib.hid hkw
      clear a0 a1 a2 a3 a4 ar hready hkw hmark hc
      simp only [rcv, Bk.args] at *
      gi_wp2
      refine hRR.mono ?_
      rintro e5 w6 (⟨hnm, rfl, hk6⟩ | ⟨hm, rfl, hh⟩)
      · clear hy hRR
        gi_wp2
        go_roundw
        case rel => exact ⟨m, by omega, by go_num, HKK.out.trans hk6, HNO2.out hnm⟩
        case measure => first | (simp [intOf]; done) | (simp [intOf]; omega)
      · clear hy hRR
        gi_wp2
        refine bodyPost_ret (results_none rfl _ _ _) rfl ?_
        exact ⟨⟨_, rfl⟩, .inr ⟨hh.done, r, wr, HHIT.out hm, HKW.out, HMARK.out, hh⟩⟩
    · have hk0 : k = 0 := by omega
      subst hk0
      have hsz := HS1.out
      gi_wp2
      go_end0
      refine ⟨⟨_, rfl⟩, .inl ⟨(HKK.out.1.block (B + 6) (by omega)).trans HL1.out, HK1.out.trans HKK.out, (HKK.out.1.block (B + 5) (by omega)).trans HD1.out, lastOf_none fun i hi => HNO.out i hi (Nat.zero_le _)⟩⟩
end Go.Proofs.Ytmjgpgnecohbcaa
