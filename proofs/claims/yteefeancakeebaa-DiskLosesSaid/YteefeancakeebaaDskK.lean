/- awake of the laws on disk. -/
import Derived.Test.YteefeancakeebaaDskQ
import Derived.Test.YteefeancakeebaaTell
namespace Go.Proofs.Yteefeancakeebaa
open Go.RowKit

/-- the class that a law's world stays in -/
theorem Did.kept {base g s : Nat} {bs : List Nat} {w a b : World} (h : Did base g bs s a b) (k : Kept w a) (hb : w.heap.size ≤ base) : Kept w b :=
  ⟨k.1.trans (h.2.1.mono hb), Nat.le_trans k.2 h.2.1.size⟩
/-- bytes that are not the Disk's own -/
def Far (W : World) (g : Nat) (A : Option Addr) (n : Nat) : Prop := ∀ a, A = some a → 0 < n → a.block ≠ g ∧ rowOf W g ≠ some a.block
theorem Row.block_lt {W : World} {A : Option Addr} {n cap : Nat} {cs : List Nat} (h : Row W A n cap cs) {a : Addr} (ha : A = some a) (hn : 0 < n) : a.block < W.heap.size := by
  obtain ⟨b, off, e, hlt, _⟩ := h.bts.2.2.2 hn
  rw [ha] at e
  injection e with e
  rw [e]; exact hlt
theorem Row.far {W : World} {A : Option Addr} {n cap : Nat} {cs : List Nat} (h : Row W A n cap cs) {p : Addr} (hp : ∀ a, A = some a → 0 < n → a.block ≠ p.block) (u : Value) : Row (W.setCell p u) A n cap cs := by
  refine ⟨⟨h.bts.1, h.bts.2.1, h.bts.2.2.1, fun hn => ?_⟩, h.nil, h.room, h.most⟩
  obtain ⟨b, off, e, hlt, hcs⟩ := h.bts.2.2.2 hn
  have h1 := hp _ e hn
  refine ⟨b, off, e, by simpa [World.setCell] using hlt, fun j hj => (World.cell?_of_block (Below.heap_setCell W p u b h1)).trans (hcs j hj)⟩
theorem Did.row {base g s n cap : Nat} {bs cs : List Nat} {W W' : World} {A : Option Addr} (h : Did base g bs s W W') (hr : Row W A n cap cs) (hf : Far W g A n) : Row W' A n cap cs ∧ Far W' g A n :=
  ⟨⟨(h.2.2.bts hr.bts hf).more h.2.2.size, hr.nil, hr.room, hr.most⟩, fun a ha hn => ⟨(hf a ha hn).1, fun e => (hf a ha hn).2 (h.2.2.row _ e (hr.block_lt ha hn))⟩⟩
theorem rowOf_below {W W' : World} {g : Nat} (h : Below W.heap.size W W') (hg : g < W.heap.size) : rowOf W' g = rowOf W g := by
  unfold rowOf; rw [h.block g hg]
theorem Far.below {W W' : World} {g n : Nat} {A : Option Addr} (hf : Far W g A n) (h : Below W.heap.size W W') (hg : g < W.heap.size) : Far W' g A n := by
  unfold Far
  rw [rowOf_below h hg]
  exact hf
theorem Far.cut {W : World} {g n k : Nat} {A : Option Addr} (h : Far W g A n) (hk : k ≤ n) : Far W g A k := fun a ha hn => h a ha (by omega)
/-- what is made behind the Disk is not its own -/
theorem Far.new {base g s n : Nat} {bs : List Nat} {W W' : World} {A : Option Addr} (hd : Dk W base g bs s) (h : Below W.heap.size W W') (ha : ∀ a, A = some a → 0 < n → W.heap.size ≤ a.block) : Far W' g A n := by
  intro a e hn
  have h1 := ha a e hn
  have h2 := hd.lt
  refine ⟨by omega, fun e2 => ?_⟩
  rw [rowOf_below h h2] at e2
  have := (hd.row_lt _ e2).2
  omega
theorem Own.block_ge {W : World} {B n c : Nat} {A : Option Addr} {bs : List Nat} (h : Own W B (.slice A n c) bs) : ∀ a, A = some a → 0 < n → B ≤ a.block := by
  intro a ha _
  subst ha
  exact (World.ownsRow.lt h a.block rfl).1
/-- what lay there ahead of the Disk is not its own -/
theorem Far.old {base g s n B : Nat} {bs : List Nat} {W : World} {A : Option Addr} (hd : Dk W base g bs s) (hB : B ≤ base) (ha : ∀ a, A = some a → 0 < n → a.block < B) : Far W g A n := by
  intro a e hn
  have h1 := ha a e hn
  have h2 := hd.lo
  refine ⟨by omega, fun e2 => ?_⟩
  have := (hd.row_lt _ e2).1
  omega
theorem Own.keep {w w' : World} {base : Nat} {v : Value} {bs : List Nat} (h : Own w base v bs) (hb : ∀ k, v.ownBlock = some k → w'.heap[k]? = w.heap[k]?) : Own w' base v bs := by
  obtain ⟨h0, h1 | ⟨g, cap, cur, rfl, h1, h2, h3⟩⟩ := h
  · exact ⟨h0, .inl h1⟩
  · exact ⟨h0, .inr ⟨g, cap, cur, rfl, h1, (hb g rfl).trans h2, h3⟩⟩
/-- a row that is not the Disk's own -/
def FarO (W : World) (g : Nat) (v : Value) : Prop := ∀ j, v.ownBlock = some j → j ≠ g ∧ rowOf W g ≠ some j
theorem Did.own {base g s B : Nat} {bs cs : List Nat} {W W' : World} {v : Value} (h : Did base g bs s W W') (hr : Own W B v cs) (hf : FarO W g v) : Own W' B v cs ∧ FarO W' g v :=
  ⟨hr.keep fun k hk => h.2.2.rest k (World.ownsRow.lt hr k hk).2 (hf k hk).1 (hf k hk).2, fun j hj => ⟨(hf j hj).1, fun e => (hf j hj).2 (h.2.2.row j e (World.ownsRow.lt hr j hj).2)⟩⟩
theorem FarO.new {base g s B : Nat} {bs cs : List Nat} {W W' : World} {v : Value} (hd : Dk W base g bs s) (h : Below W.heap.size W W') (own : Own W' B v cs) (hB : W.heap.size ≤ B) : FarO W' g v := by
  intro j hj
  have h1 := (World.ownsRow.lt own j hj).1
  have h2 := hd.lt
  refine ⟨by omega, fun e => ?_⟩
  rw [rowOf_below h h2] at e
  have := (hd.row_lt j e).2
  omega
theorem FarO.below {W W' : World} {g : Nat} {v : Value} (hf : FarO W g v) (h : Below W.heap.size W W') (hg : g < W.heap.size) : FarO W' g v := by
  unfold FarO
  rw [rowOf_below h hg]
  exact hf
/-- behind an append to a row that is not the Disk's own -/
theorem Dk.grown {W W' : World} {base g s : Nat} {bs : List Nat} {v : Value} (h : Dk W base g bs s) (gr : W.grownBy W' v.ownBlock) (hf : FarO W g v) : Dk W' base g bs s ∧ rowOf W' g = rowOf W g := by
  obtain ⟨u, hu, own, hne⟩ := h.cell
  have hg := heap_lt hu
  have h1 : W'.heap[g]? = W.heap[g]? := gr.block g hg fun e => (hf g e.symm).1 rfl
  refine ⟨⟨h.lo, Nat.le_trans h.hs gr.size, ⟨u, h1.trans hu, own.kept fun k hk => gr.block k (own.lt k hk).2 fun e => (hf k e.symm).2 (by rw [rowOf_two hu]; exact hk), hne⟩, h.byte, h.most⟩, by unfold rowOf; rw [h1]⟩
theorem Own.len {w : World} {b n c : Nat} {A : Option Addr} {bs : List Nat} (h : Own w b (.slice A n c) bs) : n = bs.length := by
  obtain ⟨_, ⟨e, h0⟩ | ⟨g, cap, cur, e, _⟩⟩ := h
  · cases e; exact h0.symm
  · cases e; rfl
theorem Dk.far {W : World} {base g s : Nat} {bs : List Nat} (h : Dk W base g bs s) {p : Addr} (h1 : p.block ≠ g) (h2 : rowOf W g ≠ some p.block) (u : Value) : Dk (W.setCell p u) base g bs s ∧ rowOf (W.setCell p u) g = rowOf W g := by
  obtain ⟨v, hv, own, hne⟩ := h.cell
  have h3 : (W.setCell p u).heap[g]? = W.heap[g]? := Below.heap_setCell W p u g (fun e => h1 e.symm)
  rw [rowOf_two hv] at h2
  exact ⟨⟨h.lo, by simpa [World.setCell] using h.hs, ⟨v, h3.trans hv, own.far h2 u, hne⟩, h.byte, h.most⟩, by unfold rowOf; rw [h3]⟩
theorem kept_le' (keep : Int) (n : Nat) : kept keep n ≤ n := Nat.min_le_right _ _
theorem run_headZ (A : Option Addr) (n cap k : Nat) (z : Int) (hz : z = (k : Int)) (hk : k ≤ cap) (w : World) :
    (Instr.slice 26 (.slice A n cap) Option.none (some (.int .i64 z)) Option.none).run Try.prog w = .ok (.slice A k cap) w := by
  subst hz
  exact run_head A n cap k (by omega) w
theorem run_headAtZ (A : Option Addr) (n cap k : Nat) (z : Int) (hz : z = (k : Int)) (hk : k ≤ cap) (w : World) :
    (Instr.sliceAt 26 (.slice A n cap) Option.none (some (.int .i64 z)) Option.none).run Try.prog w = .ok (.slice A k cap) w := by
  subst hz
  exact run_headAt A n cap k (by omega) w
theorem Row.of {w : World} {A : Option Addr} {n cap : Nat} (h : SliceAt 1 1 (IsInt .u8) w A n cap) : ∃ bs, Row w A n cap bs := by
  obtain ⟨bs, hb⟩ := bts_of h
  exact ⟨bs, hb, h.2.2.2.1, h.1, h.2.1⟩
theorem Row.cut {w : World} {A : Option Addr} {n cap : Nat} {bs : List Nat} (h : Row w A n cap bs) {k : Nat} (hk : k ≤ n) : Row w A k cap (bs.take k) := ⟨h.bts.head hk, h.nil, Nat.le_trans hk h.room, h.most⟩
/-- 'b[k:]' -/
theorem Row.tail {w : World} {A : Option Addr} {n cap : Nat} {bs : List Nat} (h : Row w A n cap bs) {k : Nat} (hk : k ≤ n) :
    ∃ A', (∀ W, (Instr.slice 26 (.slice A n cap) (some (.int .i64 (k : Int))) Option.none Option.none).run Try.prog W = .ok (.slice A' (n - k) (cap - k)) W) ∧ Row w A' (n - k) (cap - k) (bs.drop k) := by
  refine ⟨_, fun W => run_tailS .i64 A n cap k (k : Int) rfl hk W, h.bts.rest hk h.room, fun e => ?_, by have := h.room; omega, by have := h.most; omega⟩
  split at e
  · omega
  · cases A with
    | none => have := h.nil rfl; omega
    | some a => cases e
theorem Row.text {w : World} {A : Option Addr} {n cap : Nat} {bs : List Nat} (h : Row w A n cap bs) : (convert 26 9 (.slice A n cap)).run Try.prog w = .ok (.string (txt bs)) w :=
  run_text h.bts fun e => by have := h.nil e; have := h.room; omega
theorem txtAbc : txt [97, 98, 99] = ⟨#[97, 98, 99]⟩ := rfl

set_option maxHeartbeats 2000000 in
theorem awake_any (w : World) : Calls Try.prog 9 #[] w fun e w' => e = .returned (.bool true) ∧ Below w.heap.size w w' := by
  have kc := fun (w : World) (C : Array Value) (n c : Nat) => Lib.run_convert_bytes_const (P := Try.prog) w 26 5 C n c Try.underlying26 Try.underlying5
  go_enter Try.func9, Try.ntmps9
  go_wp2_with fail
  refine (new_any _).mono ?_
  rintro e u ⟨rfl, rfl⟩
  have d0 := Dk.new w w.heap.size (Nat.le_refl _)
  have k0 : Kept w _ := (Kept.refl w).alloc (.cells #[.slice none 0 0, .int .i64 0] 50)
  generalize w.alloc (.cells #[.slice none 0 0, .int .i64 0] 50) = u0 at *
  generalize hg : w.heap.size = g at *
  have HG := Lib.hid hg
  clear hg
  go_wp2_with fail
  have d1 := d0.below (W' := u0.alloc (.cells #[.int .u8 97, .int .u8 98] 5 (2, 3))) ((Below.refl _ _).alloc (Nat.le_refl _) _)
  have k1 := k0.alloc (.cells #[.int .u8 97, .int .u8 98] 5 (2, 3))
  refine (append_ok d1 (bts_new u0 5 (2, 3) [97, 98] (by decide) (by decide)) (fun h => by cases h) (by decide)).mono ?_
  rintro e u1 ⟨rfl, h2⟩
  have k2 := h2.kept k1 (by rw [HG.out]; exact Nat.le_refl _)
  have d2 := h2.1
  simp only [List.nil_append] at d2
  clear h2 d1 d0 k1 k0
  go_wp2_with fail
  refine (sync_any d2).mono ?_
  rintro e u2 ⟨rfl, h3⟩
  have k3 := h3.kept k2 (by rw [HG.out]; exact Nat.le_refl _)
  have d3 := h3.1
  clear h3 d2 k2
  go_wp2_with fail
  have d4 := d3.below (W' := u2.alloc (.cells #[.int .u8 99, .int .u8 100] 5 (2, 3))) ((Below.refl _ _).alloc (Nat.le_refl _) _)
  have k4 := k3.alloc (.cells #[.int .u8 99, .int .u8 100] 5 (2, 3))
  refine (append_ok d4 (bts_new u2 5 (2, 3) [99, 100] (by decide) (by decide)) (fun h => by cases h) (by decide)).mono ?_
  rintro e u3 ⟨rfl, h5⟩
  have k5 := h5.kept k4 (by rw [HG.out]; exact Nat.le_refl _)
  have d5 := h5.1
  clear h5 d4 d3 k4 k3
  go_wp2_with fail
  refine (crash_any d5 (by decide) 1).mono ?_
  rintro e u4 ⟨rfl, h6⟩
  have k6 := h6.kept k5 (by rw [HG.out]; exact Nat.le_refl _)
  have d6 := h6.1
  have e6 : ([97, 98] ++ [99, 100] : List Nat).take ([97, 98].length + kept 1 (([97, 98] ++ [99, 100] : List Nat).length - [97, 98].length)) = [97, 98, 99] := by decide
  have e6' : [97, 98].length + kept 1 (([97, 98] ++ [99, 100] : List Nat).length - [97, 98].length) = 3 := by decide
  rw [e6, e6'] at d6
  clear h6 d5 k5 e6 e6'
  have D6 := Lib.hid d6
  clear d6
  go_wp2_with fail
  refine (bytes_any D6.out).mono ?_
  rintro e u5 ⟨v, rfl, own, h7⟩
  obtain ⟨A, c, rfl, hr⟩ := own.row (by decide) (by decide)
  have hr : Row u5 A 3 c [97, 98, 99] := hr
  have t7 := run_text (c := c) hr.bts (fun h => by have := hr.nil h; have := hr.room; omega)
  rw [txtAbc] at t7
  have k7 := k6.call h7
  have D7 := Lib.hid (D6.out.below h7)
  clear own h7 hr
  go_wp2_with fail
  refine (synced_any D7.out).mono ?_
  rintro e u6 ⟨rfl, rfl⟩
  go_wp2
  go_ret
  exact ⟨rfl, k7.1⟩
end Go.Proofs.Yteefeancakeebaa
