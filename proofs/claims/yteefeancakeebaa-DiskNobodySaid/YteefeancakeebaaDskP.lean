/- The program's Disk, call by call. -/
import Derived.Test.YteefeancakeebaaHave
import Derived.Test.YteefeancakeebaaOffW
import Derived.Test.YteefeancakeebaaClone
import Derived.Test.YteefeancakeebaaQuiet
import Derived.WalkKit
import Derived.Below
import Derived.WalkSmall
import Derived.Lib.Hide
import Derived.Lib.SlBytesConst
import Derived.WalkLawsBesides
import Derived.RegionTactic
import Derived.ChangeAlike
namespace Go.Proofs.Yteefeancakeebaa
open Go.RowKit

theorem rowOf_two {W : World} {g : Nat} {v u : Value} {t : TypeId} {m : Nat × Nat} (h : W.heap[g]? = some (.cells #[v, u] t m)) : rowOf W g = v.ownBlock := by
  unfold rowOf; rw [h]; rfl
/-- a Disk at block g: its bytes, which the call owns from block base on, and the number of those that are synced -/
structure Dk (W : World) (base g : Nat) (bs : List Nat) (s : Nat) : Prop where
  lo : base ≤ g
  hs : base ≤ W.heap.size
  cell : ∃ v, W.heap[g]? = some (.cells #[v, .int .i64 (s : Int)] 50 (0, 0)) ∧ Have W base v bs ∧ v.ownBlock ≠ some g
  byte : ∀ c ∈ bs, c < 256
  most : bs.length ≤ 1048576
theorem Dk.lt {W : World} {base g : Nat} {bs : List Nat} {s : Nat} (h : Dk W base g bs s) : g < W.heap.size := by
  obtain ⟨v, hv, _⟩ := h.cell
  exact heap_lt hv
theorem Dk.below {W W' : World} {base g : Nat} {bs : List Nat} {s : Nat} (h : Dk W base g bs s) (hb : Below W.heap.size W W') : Dk W' base g bs s := by
  obtain ⟨v, hv, own, hne⟩ := h.cell
  exact ⟨h.lo, Nat.le_trans h.hs hb.size, ⟨v, (hb.block g (heap_lt hv)).trans hv, own.below hb, hne⟩, h.byte, h.most⟩
theorem Dk.new (w : World) (base : Nat) (hb : base ≤ w.heap.size) : Dk (w.alloc (.cells #[.slice none 0 0, .int .i64 0] 50)) base w.heap.size [] 0 :=
  ⟨hb, by simp; omega, ⟨_, push_new w _, Have.nil _ _, fun h => by cases h⟩, by simp, by simp⟩
/-- the block of a Disk's bytes is neither its own, nor below the base -/
theorem Dk.row_lt {W : World} {base g : Nat} {bs : List Nat} {s : Nat} (h : Dk W base g bs s) : ∀ j, rowOf W g = some j → base ≤ j ∧ j < W.heap.size := by
  obtain ⟨v, hv, own, hne⟩ := h.cell
  rw [rowOf_two hv]
  exact own.lt
/-- behind what changed at most the Disk's bytes, and the store of what they are then -/
theorem Dk.put0 {W W1 : World} {base g : Nat} {bs cs : List Nat} {s : Nat} (hd : Dk W base g bs s) {v v1 : Value} (hv : W.heap[g]? = some (.cells #[v, .int .i64 (s : Int)] 50 (0, 0))) (own : Have W base v bs) (hne : v.ownBlock ≠ some g)
    (gr : W.grownBy W1 v.ownBlock) (own1 : Have W1 base v1 cs) (at1 : ∀ j, v1.ownBlock = some j → j < W.heap.size → v.ownBlock = some j) (hby : ∀ c ∈ cs, c < 256) (hm : cs.length ≤ 1048576) :
    W1.heap[g]? = some (.cells #[v, .int .i64 (s : Int)] 50 (0, 0)) ∧ Dk (W1.setCell ⟨g, 0, none⟩ v1) base g cs s ∧ Below base W (W1.setCell ⟨g, 0, none⟩ v1) ∧ OffO g W (W1.setCell ⟨g, 0, none⟩ v1) := by
  have hg := heap_lt hv
  have h1 : W1.heap[g]? = some (.cells #[v, .int .i64 (s : Int)] 50 (0, 0)) := (gr.block g hg (fun e => hne e.symm)).trans hv
  have hne1 : v1.ownBlock ≠ some g := fun e => hne (at1 g e hg)
  have hb : Below base W W1 := (Below.refl _ _).grown gr hd.hs (fun k hk => (own.lt k hk).1)
  have h2 : (W1.setCell ⟨g, 0, none⟩ v1).heap[g]? = some (.cells #[v1, .int .i64 (s : Int)] 50 (0, 0)) := by rw [heap_setCell_same h1]; rfl
  refine ⟨h1, ⟨hd.lo, ?_, ⟨v1, h2, own1.far hne1 v1, hne1⟩, hby, hm⟩, hb.setCell hd.lo _, ?_, fun k hk hn hr => ?_, fun j hj hlt => ?_⟩
  · have := hb.size; have := hd.hs; simp [World.setCell]; omega
  · simpa [World.setCell] using hb.size
  · rw [rowOf_two hv] at hr
    exact (Below.heap_setCell W1 ⟨g, 0, none⟩ v1 k hn).trans (gr.block k hk (fun e => hr e.symm))
  · rw [rowOf_two h2] at hj
    rw [rowOf_two hv]
    exact at1 j hj hlt
/-- the store of how many are synced -/
theorem Dk.put1 {W : World} {base g : Nat} {bs : List Nat} {s : Nat} (hd : Dk W base g bs s) (m : Nat) :
    Dk (W.setCell ⟨g, 1, none⟩ (.int .i64 (m : Int))) base g bs m ∧ Below base W (W.setCell ⟨g, 1, none⟩ (.int .i64 (m : Int))) ∧ OffO g W (W.setCell ⟨g, 1, none⟩ (.int .i64 (m : Int))) := by
  obtain ⟨v, hv, own, hne⟩ := hd.cell
  have h2 : (W.setCell ⟨g, 1, none⟩ (.int .i64 (m : Int))).heap[g]? = some (.cells #[v, .int .i64 (m : Int)] 50 (0, 0)) := by rw [heap_setCell_same hv]; rfl
  refine ⟨⟨hd.lo, by simpa [World.setCell] using hd.hs, ⟨v, h2, own.far hne _, hne⟩, hd.byte, hd.most⟩, (Below.refl _ _).setCell hd.lo _, by simp [World.setCell], fun k hk hn hr => Below.heap_setCell W ⟨g, 1, none⟩ _ k hn, fun j hj _ => ?_⟩
  rw [rowOf_two h2] at hj
  rwa [rowOf_two hv]
/-- of what was there the Disk alone has changed: it has these bytes, so many of them synced -/
def Did (base g : Nat) (bs : List Nat) (s : Nat) (W W' : World) : Prop := Dk W' base g bs s ∧ Below base W W' ∧ OffO g W W'
theorem Did.then {base g s t : Nat} {bs cs : List Nat} {a b c : World} (h : Did base g bs s a b) (k : Did base g cs t b c) : Did base g cs t a c := ⟨k.1, h.2.1.trans k.2.1, h.2.2.trans k.2.2⟩

theorem new_any (w : World) : Calls Try.prog 10 #[] w fun e w' => e = .returned (.pointer (some ⟨w.heap.size, 0, none⟩)) ∧ w' = w.alloc (.cells #[.slice none 0 0, .int .i64 0] 50) := by
  go_enter Try.func10, Try.ntmps10
  go_wp2
  go_ret
  exact ⟨rfl, rfl⟩
theorem synced_any {base g s : Nat} {bs : List Nat} {W : World} (hd : Dk W base g bs s) :
    Calls Try.prog 18 #[.pointer (some ⟨g, 0, none⟩)] W fun e W' => e = .returned (.int .i64 (s : Int)) ∧ W' = W := by
  obtain ⟨v, hv, own, hne⟩ := hd.cell
  have q1 := cell_of_heap hv 1
  simp only [List.getElem?_toArray, List.getElem?_cons_zero, List.getElem?_cons_succ] at q1
  clear hv own hne hd
  go_enter Try.func18, Try.ntmps18
  go_wp2
  go_ret
  exact ⟨rfl, rfl⟩
theorem bytes_any {base g s : Nat} {bs : List Nat} {W : World} (hd : Dk W base g bs s) :
    Calls Try.prog 17 #[.pointer (some ⟨g, 0, none⟩)] W fun e W' => ∃ v, e = .returned v ∧ Own W' W.heap.size v bs ∧ Below W.heap.size W W' := by
  obtain ⟨v, hv, own, hne⟩ := hd.cell
  obtain ⟨A0, c0, rfl, -⟩ := own.slice
  have q0 := cell_of_heap hv 0
  simp only [List.getElem?_toArray, List.getElem?_cons_zero] at q0
  have hr := own.row (by have := hd.most; omega) hd.byte
  have HR := Lib.hid (clone_any hr)
  generalize bs.length = L at *
  clear hv own hne hd hr
  go_enter Try.func17, Try.ntmps17
  go_wp2_with fail
  refine HR.out.mono ?_
  rintro e u ⟨v, rfl, own, hb⟩
  have HO := Lib.hid own
  clear own
  obtain ⟨A, n, c, rfl⟩ := HO.out.slice
  go_wp2
  go_ret
  exact ⟨_, rfl, HO.out, hb⟩
theorem append_full {base g s : Nat} {bs : List Nat} {W : World} (hd : Dk W base g bs s) (A : Option Addr) (n c : Nat) (hn : 1048576 < bs.length + n) :
    Calls Try.prog 19 #[.pointer (some ⟨g, 0, none⟩), .slice A n c] W fun e W' => e = .returned (.int .i64 5) ∧ W' = W := by
  obtain ⟨v, hv, own, hne⟩ := hd.cell
  obtain ⟨A0, c0, rfl, -⟩ := own.slice
  have q0 := cell_of_heap hv 0
  simp only [List.getElem?_toArray, List.getElem?_cons_zero] at q0
  have hm := hd.most
  generalize bs.length = L at *
  clear hv own hne hd
  have hg1 : decide ((1048576 : Int) - (L : Int) < (n : Int)) = true := decide_eq_true (by omega)
  go_enter Try.func19, Try.ntmps19
  go_wp2
  go_ret
  exact ⟨rfl, rfl⟩
theorem append_ok {base g s : Nat} {bs cs : List Nat} {W : World} (hd : Dk W base g bs s) {A : Option Addr} {n c B : Nat} (hb : Bts W B A n cs) (hc : A = none → c = 0) (hn : bs.length + n ≤ 1048576) :
    Calls Try.prog 19 #[.pointer (some ⟨g, 0, none⟩), .slice A n c] W fun e W' => e = .returned (.int .i64 0) ∧ Did base g (bs ++ cs) s W W' := by
  obtain ⟨v, hv, own, hne⟩ := hd.cell
  obtain ⟨A0, c0, rfl, -⟩ := own.slice
  have q0 := cell_of_heap hv 0
  have f0 := frozen_of_heap hv 0
  simp only [List.getElem?_toArray, List.getElem?_cons_zero] at q0
  have hm := hd.most
  have HP := Lib.hid fun W1 v1 gr own1 at1 => hd.put0 (W1 := W1) (v1 := v1) (cs := bs ++ cs) hv own hne gr own1 at1 (fun x hx => (List.mem_append.1 hx).elim (hd.byte x) (hb.2.2.1 x)) (by rw [List.length_append, hb.1]; exact hn)
  have HB := Lib.hid hb
  have HA := Lib.hid own
  have hhs := hd.hs
  have hsum : bs.length + n ≤ 140737505132544 := by omega
  clear hv hb hne hd own
  generalize hL : bs.length = L at *
  have HL := Lib.hid hL
  clear hL
  have hg1 : decide ((1048576 : Int) - (L : Int) < (n : Int)) = false := decide_eq_false (by omega)
  go_enter Try.func19, Try.ntmps19
  go_wp2_with (first
    | (at_builtin
       refine wpList_append_have rfl (.tmp 22) (.tmp 23) rfl (v := .slice A0 L c0) rfl rfl HA.out HB.out hc (by rw [HL.out]; omega) hhs ?_
       intro v1 w1 own1 gr1 at1
       obtain ⟨h1, h2⟩ := HP.out w1 v1 gr1 own1 (fun j hj hlt => at1.elim (fun e => by rw [← e]; exact hj) (fun e => by rw [e] at hj; injection hj with hj; omega))
       have q1 := cell_of_heap h1 0
       have f1 := frozen_of_heap h1 0
       simp only [List.getElem?_toArray, List.getElem?_cons_zero] at q1
       have H2 := Lib.hid h2
       obtain ⟨A1, n1, c1, rfl⟩ := own1.form
       clear h2 h1 gr1 at1 own1))
  go_ret
  exact ⟨rfl, H2.out⟩
end Go.Proofs.Yteefeancakeebaa
