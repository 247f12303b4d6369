/- The program's Writer, call by call. -/
import Derived.Test.YtmjgpgnecohbcaaRows
import Derived.Test.YtmjgpgnecohbcaaMgC
import Derived.Test.YtmjgpgnecohbcaaMgA
import Derived.WalkKit
import Derived.Below
import Derived.WalkSmall
import Derived.Lib.SlBytesConst
import Derived.WalkLawsBesides

namespace Go.Proofs.Ytmjgpgnecohbcaa
open Go.RowKit

/-- a Writer at block g, whose bytes the call owns from block base on -/
structure Wr (W : World) (base g : Nat) (bs : List Nat) : Prop where
  lo : base ≤ g
  hs : base ≤ W.heap.size
  cell : ∃ v, W.heap[g]? = some (.cells #[v] 91 (0, 0)) ∧ Own W base v bs ∧ v.ownBlock ≠ some g
  byte : ∀ c ∈ bs, c < 256

set_option maxRecDepth 100000 in
theorem u8_or128 (m : Nat) : bits BinOp.or IntKind.u8 ((m : Int) % 256) 128 = ((m % 128 + 128 : Nat) : Int) := by
  have e : (m : Int) % 256 = ((m % 256 : Nat) : Int) := by omega
  rw [e, show (128 : Int) = ((128 : Nat) : Int) from rfl, u8_or_nat _ _ (by omega) (by omega)]
  have key : ∀ x : Fin 256, x.val ||| 128 = x.val % 128 + 128 := by decide
  have := key ⟨m % 256, by omega⟩
  simp only at this
  rw [this]
  congr 2
  omega
theorem u8_small {m : Nat} (h : m < 128) : (m : Int) % 256 = (m : Int) := by omega

/-- behind an append to the Writer's bytes and the store of what it gave -/
theorem Wr.stored {wr wa w1 : World} {base g : Nat} {ds es : List Nat} (hw : Wr wr base g ds) {v v1 : Value} (hv : wr.heap[g]? = some (.cells #[v] 91 (0, 0))) (own : Own wr base v ds) (hne : v.ownBlock ≠ some g)
    (own1 : Own w1 base v1 (ds ++ es)) (ha : Below wr.heap.size wr wa) (gr : wa.grownBy w1 v.ownBlock) (at1 : v1.ownBlock = v.ownBlock ∨ v1.ownBlock = some wa.heap.size) (hby : ∀ c ∈ es, c < 256) :
    w1.heap[g]? = some (.cells #[v] 91 (0, 0)) ∧ Wr (w1.setCell ⟨g, 0, none⟩ v1) base g (ds ++ es) ∧ Below base wr (w1.setCell ⟨g, 0, none⟩ v1) ∧ OffW g wr (w1.setCell ⟨g, 0, none⟩ v1) := by
  have hg := heap_lt hv
  have h1 : w1.heap[g]? = some (.cells #[v] 91 (0, 0)) := (gr.block g (Nat.lt_of_lt_of_le hg ha.size) (fun e => hne e.symm)).trans ((ha.block g hg).trans hv)
  have hne1 : v1.ownBlock ≠ some g := by
    rcases at1 with e | e
    · rw [e]; exact hne
    · rw [e]; intro h; injection h with h; have := ha.size; omega
  have hb : Below base wr w1 := (ha.mono hw.hs).grown gr (Nat.le_trans hw.hs ha.size) (fun k hk => (World.ownsRow.lt own k hk).1)
  refine ⟨h1, ⟨hw.lo, ?_, ⟨v1, by rw [heap_setCell_same h1]; rfl, own1.far hne1 v1, hne1⟩, ?_⟩, hb.setCell hw.lo _, ?_⟩
  · have := hb.size; have := hw.hs; simp only [World.setCell]; simp; omega
  · intro c hc
    rcases List.mem_append.1 hc with h | h
    · exact hw.byte c h
    · exact hby c h
  · have er := rowOf_is hv
    have er1 : rowOf (w1.setCell ⟨g, 0, none⟩ v1) g = v1.ownBlock := rowOf_is (by rw [heap_setCell_same h1]; rfl)
    refine ⟨by simpa [World.setCell] using hb.size, fun k hk hn hr => ?_, ?_⟩
    · rw [er] at hr
      exact (Below.heap_setCell w1 ⟨g, 0, none⟩ v1 k hn).trans ((gr.block k (Nat.lt_of_lt_of_le hk ha.size) (fun e => hr e.symm)).trans (ha.block k hk))
    · rw [er, er1]
      rcases at1 with e | e
      · exact .inl e
      · exact .inr ⟨_, ha.size, e⟩

set_option maxRecDepth 100000 in
set_option maxHeartbeats 1000000 in
theorem wuint_any (base g : Nat) (bs : List Nat) (n : Nat) (W : World) (hw : Wr W base g bs) (hn : n < 18446744073709551616) (hl : bs.length + (put n).length ≤ 140737505132544) :
    Calls Try.prog 72 #[.pointer (some ⟨g, 0, none⟩), .int .u64 n] W fun e W' => e = .returned (.tuple #[]) ∧ Wr W' base g (bs ++ put n) ∧ Below base W W' ∧ OffW g W W' := by
  go_enter Try.func72, Try.ntmps72
  go_wp2
  go_loopw [1] (fun i wr => ∃ (m : Nat) (ds : List Nat), i = .int .u64 m ∧ m < 18446744073709551616 ∧ Wr wr base g ds ∧ ds ++ put m = bs ++ put n ∧ Below base W wr ∧ OffW g W wr) (fun i _ => (intOf i).toNat)
  case atStart => exact ⟨n, bs, rfl, hn, hw, rfl, Below.refl _ _, OffW.refl _ _⟩
  case round =>
    obtain ⟨m, ds, rfl, hm, hwr, hds, hbel, hof⟩ := hrel
    have hll : ds.length + (put m).length = bs.length + (put n).length := by simpa using congrArg List.length hds
    have hpp := put_pos m
    obtain ⟨v, hv, own, hne⟩ := hwr.cell
    have hc := cell_of_heap hv 0
    have hf := frozen_of_heap hv 0
    have HV := Lib.hid hv
    simp only [List.getElem?_toArray, List.getElem?_cons_zero] at hc
    have hgl := heap_lt hv
    clear hv
    by_cases hlt : m < 128
    · have hb := u8_small hlt
      rw [put_small hlt] at hds
      have HDS := Lib.hid hds
      clear hds
      go_wp2_with (first
        | (at_builtin
           refine wpList_append_bts rfl (.tmp 24) (.tmp 27) rfl (v := v) (base := base) (ds := ds) rfl rfl (own.alloc' _) (bts_one _ _ _ rfl (show m < 256 by omega)) (by simp) (by omega) (Nat.le_trans hwr.hs (by simp)) ?_
           intro v1 w1 own1 gr1 at1
           obtain ⟨A1, n1, c1, rfl⟩ := own1.slice
           obtain ⟨hv1, hw2, hb2, ho2⟩ := hwr.stored HV.out own hne own1 ((Below.refl _ _).alloc (Nat.le_refl _) _) gr1 at1 (by simp; omega)
           have hc1 := cell_of_heap hv1 0
           have hf1 := frozen_of_heap hv1 0
           have HW := Lib.hid hw2
           have HB := Lib.hid hb2
           have HO := Lib.hid ho2
           simp only [List.getElem?_toArray, List.getElem?_cons_zero] at hc1
           clear gr1 at1 own1 hw2 hb2 ho2 hv1))
      go_end0
      exact ⟨rfl, HDS.out ▸ HW.out, hbel.trans HB.out, hof.trans HO.out⟩
    · have hb := u8_or128 m
      rw [put_big hlt] at hds
      have HDS := Lib.hid hds
      clear hds
      go_wp2_with (first
        | (at_builtin
           refine wpList_append_bts rfl (.tmp 12) (.tmp 16) rfl (v := v) (base := base) (ds := ds) rfl rfl (own.alloc' _) (bts_one _ _ _ rfl (show m % 128 + 128 < 256 by omega)) (by simp) (by omega) (Nat.le_trans hwr.hs (by simp)) ?_
           intro v1 w1 own1 gr1 at1
           obtain ⟨A1, n1, c1, rfl⟩ := own1.slice
           obtain ⟨hv1, hw2, hb2, ho2⟩ := hwr.stored HV.out own hne own1 ((Below.refl _ _).alloc (Nat.le_refl _) _) gr1 at1 (by simp; omega)
           have hc1 := cell_of_heap hv1 0
           have hf1 := frozen_of_heap hv1 0
           have HW := Lib.hid hw2
           have HB := Lib.hid hb2
           have HO := Lib.hid ho2
           simp only [List.getElem?_toArray, List.getElem?_cons_zero] at hc1
           clear gr1 at1 own1 hw2 hb2 ho2 hv1))
      go_roundw
      case rel => exact ⟨m / 128, _, by go_num, by omega, HW.out, by rw [List.append_assoc]; exact HDS.out, hbel.trans HB.out, hof.trans HO.out⟩
      case measure => simp [intOf]; omega

/-! ### the sign -/
theorem i64_flip (n : Int) (h1 : -9223372036854775808 ≤ n) (h2 : n < 9223372036854775808) : bits .xor .i64 (-1) n = -1 - n := by
  unfold bits
  simp only
  have e : BitVec.ofInt IntKind.i64.bits (-1) = BitVec.allOnes _ := by decide
  rw [e, BitVec.allOnes_xor]
  have e2 : (BitVec.ofInt IntKind.i64.bits n).toNat = (n % 18446744073709551616).toNat := by rw [BitVec.toNat_ofInt]; rfl
  rw [BitVec.toNat_not, e2]
  have e3 : (2 : Nat) ^ IntKind.i64.bits = 18446744073709551616 := by decide
  rw [e3]
  simp only [IntKind.wrap_i64]
  omega


end Go.Proofs.Ytmjgpgnecohbcaa

/- The Writer's other calls; Own bytes told; a new Writer. -/
namespace Go.Proofs.Ytmjgpgnecohbcaa
open Go.RowKit






set_option maxRecDepth 100000 in
theorem told_any (base g : Nat) (bs : List Nat) (W : World) (hw : Wr W base g bs) (hl : bs.length ≤ 140737505132544) :
    Calls Try.prog 53 #[.pointer (some ⟨g, 0, none⟩)] W fun e W' => ∃ v, e = .returned v ∧ Own W' W.heap.size v bs ∧ Below W.heap.size W W' := by
  obtain ⟨v, hv, own, hne⟩ := hw.cell
  obtain ⟨A, cap, rfl, hr⟩ := own.row hl hw.byte
  have hcl := cell_of_heap hv 0
  simp only [List.getElem?_toArray, List.getElem?_cons_zero] at hcl
  go_enter Try.func53, Try.ntmps53
  go_wp2_with fail
  refine (clone_any hr).mono ?_
  rintro e w1 ⟨v, rfl, h1, h2⟩
  go_wp2
  go_ret
  exact ⟨_, rfl, h1, h2⟩

/-- a new Writer -/
theorem Wr.new (w : World) (base : Nat) (hb : base ≤ w.heap.size) : Wr (w.alloc (.cells #[.slice none 0 0] 91)) base w.heap.size [] :=
  ⟨hb, by simp; omega, ⟨.slice none 0 0, by show (w.heap.push _)[w.heap.size]? = _; simp, Own.nil _ _, by intro h; cases h⟩, by simp⟩
theorem Wr.below {w w' : World} {base g : Nat} {bs : List Nat} (h : Wr w base g bs) (hb : Below w.heap.size w w') : Wr w' base g bs := by
  obtain ⟨v, hv, own, hne⟩ := h.cell
  exact ⟨h.lo, Nat.le_trans h.hs hb.size, ⟨v, (hb.block g (heap_lt hv)).trans hv, own.below hb, hne⟩, h.byte⟩
theorem Wr.row_lt {w : World} {base g : Nat} {bs : List Nat} (h : Wr w base g bs) : ∀ k, rowOf w g = some k → base ≤ k ∧ k < w.heap.size := by
  obtain ⟨v, hv, own, _⟩ := h.cell
  rw [rowOf_is hv]
  exact World.ownsRow.lt own
theorem Wr.lt {w : World} {base g : Nat} {bs : List Nat} (h : Wr w base g bs) : g < w.heap.size := by
  obtain ⟨v, hv, _⟩ := h.cell
  exact heap_lt hv
end Go.Proofs.Ytmjgpgnecohbcaa
