/- A slot whose owner puts a value in. -/
import Derived.Test.YtifenlopgpbpbaaPrqT
import Derived.Deep.CutRange
import Derived.Deep.DeepCutAuto
namespace Go.Proofs.Ytifenlopgpbpbaa
open Go.RowKit Go.Great

/-- the cells of a slot whose states are at first -/
def begA (n : Int) (R : Option Addr) (rn rc : Nat) : Array Value := #[.int .i64 n, .int .i64 0, .int .i64 0, .bool false, .int .i64 0, .int .i64 0, .slice none 0 0, .int .i64 0, .int .i64 0, .bool false, .int .i64 0, .int .i64 0, .slice none 0 0, .int .i64 0, .int .i64 0, .bool false, .int .i64 0, .int .i64 0, .slice none 0 0, .int .i64 0, .int .i64 0, .bool false, .int .i64 0, .int .i64 0, .slice none 0 0, .int .i64 0, .int .i64 0, .bool false, .int .i64 0, .int .i64 0, .slice none 0 0, .int .i64 0, .int .i64 0, .bool false, .int .i64 0, .int .i64 0, .slice none 0 0, .int .i64 0, .int .i64 0, .bool false, .int .i64 0, .int .i64 0, .slice none 0 0, .slice R rn rc]
def sit0 : Sit := ⟨Ac.zero, none, 0⟩
theorem begA_list (n : Int) (R : Option Addr) (rn rc : Nat) : (begA n R rn rc).toList = scells n (List.replicate 7 sit0) R rn rc := rfl
/-- what begun tells -/
def BegT (base : Nat) (n owner : Int) (bs : List Nat) (u : Value) (w : World) : Prop := ∃ b VA vn vc, u = .agg (begA n (some ⟨b, 0, none⟩) 1 1) ∧ ER.Own w base (.slice (some ⟨b, 0, none⟩) 1 1) [(⟨0, owner, none, 0, 0, true, VA, vn, vc, none, 0, 0⟩ : Rit)] ∧ vn = bs.length ∧ RowB w VA vn vc bs
theorem BegT.mono (base : Nat) (n owner : Int) (bs : List Nat) : (Slot.has (BegT base n owner bs)).Mono := fun _ _ _ hk ⟨b, VA, vn, vc, e, h1, h2, h3⟩ => ⟨b, VA, vn, vc, e, h1.kept hk, h2, h3.below hk.1⟩

set_option maxRecDepth 100000 in
set_option maxHeartbeats 8000000 in
theorem begun_any {w : World} {A : Option Addr} {m c : Nat} {bs : List Nat} (n owner : Int) (h : Row w A m c bs) :
    Calls Try.prog 18 #[.int .i64 n, .int .i64 owner, .slice A m c] w fun e w' => ∃ u, e = .returned u ∧ Kept w w' ∧ BegT w.heap.size n owner bs u w' := by
  have HR := Lib.hid h
  clear h
  go_enter Try.func18, Try.ntmps18
  go_upto_region 1 with fail
  change Code.wp _ _ _ _ (w.alloc (.cells (begA 0 none 0 0) 49))
  have KA : Hid (Kept w (w.alloc (.cells (begA 0 none 0 0) 49))) := Lib.hid ((Kept.refl _).alloc _)
  have PA : Hid ((w.alloc (.cells (begA 0 none 0 0) 49)).heap[w.heap.size]? = some (.cells (begA 0 none 0 0) 49 (0, 0))) := Lib.hid (push_new w _)
  generalize w.alloc (.cells (begA 0 none 0 0) 49) = W1 at *
  have hB := Lib.hid (HR.out.below KA.out.1)
  have K2 : Hid (Kept w (W1.alloc (.cells #[] 5))) := Lib.hid (KA.out.alloc _)
  have P2 : Hid ((W1.alloc (.cells #[] 5)).heap[w.heap.size]? = some (.cells (begA 0 none 0 0) 49 (0, 0))) := Lib.hid ((push_old _ _ (heap_lt PA.out)).trans PA.out)
  have own0 : Own (W1.alloc (.cells #[] 5)) (w.heap.size + 1) (.slice (some ⟨W1.heap.size, 0, none⟩) 0 0) [] := Own.lit [] (heap_lt PA.out) (by simp)
  apply wp_region_lit
  refine wpList_runTo rfl (some 7) rfl (.int .i64 n) W1 (by kernel_rfl) ?_
  refine wpList_runTo rfl (some 8) rfl (.int .i64 owner) W1 (by kernel_rfl) ?_
  refine wpList_buildTo rfl 33 _ rfl (some 9) rfl #[.int .i64 0, .int .i64 owner] (by kernel_rfl) ?_
  refine wpList_allocTo rfl (some 10) rfl (.slice (some ⟨W1.heap.size, 0, none⟩) 0 0) (.cells #[] 5) (by kernel_rfl) ?_
  refine wpList_runTo rfl (some 11) rfl (.slice A m c) (W1.alloc (.cells #[] 5)) (by kernel_rfl) ?_
  refine wpList_append_bts rfl (.tmp 10) (.tmp 11) rfl (v := .slice (some ⟨W1.heap.size, 0, Option.none⟩) 0 0) (base := w.heap.size + 1) (ds := []) rfl rfl own0 ((hB.out.below ((Kept.refl W1).alloc _).1).bts) HR.out.nil (by have := HR.out.bts.2.1; simp; omega) (by have := K2.out.2; have := heap_lt P2.out; omega) ?_
  intro v1 w1 own1 gr1 at1
  rw [List.nil_append] at own1
  have h1 : w1.heap[w.heap.size]? = some (.cells (begA 0 none 0 0) 49 (0, 0)) := (gr1.block w.heap.size (heap_lt P2.out) (fun e => by injection e with e; have := heap_lt PA.out; have h5 : w.heap.size = W1.heap.size := e; omega)).trans P2.out
  have k1 : Kept w w1 := ⟨K2.out.1.grown gr1 K2.out.2 (fun i hi => by injection hi with hi; have := heap_lt PA.out; have h5 : W1.heap.size = i := hi; omega), Nat.le_trans K2.out.2 gr1.size⟩
  obtain ⟨VA, vc, rfl, hrow⟩ := own1.rowB (by have := HR.out.bts.2.1; have := HR.out.bts.1; omega) HR.out.bts.2.2.1
  refine wpList_buildTo rfl 56 _ rfl (some 13) rfl #[.int .i64 0, .int .i64 owner, .slice none 0 0, .bool true, .slice VA bs.length vc, .slice none 0 0] (by kernel_rfl) ?_
  refine wpList_buildSliceTo rfl 47 56 1 _ rfl w1.heap.size rfl (some 14) rfl Try.underlying47 #[.int .i64 0, .int .i64 owner, .slice none 0 0, .bool true, .slice VA bs.length vc, .slice none 0 0] (by kernel_rfl) ?_
  refine wpList_buildTo rfl 49 _ rfl (some 15) rfl (begA n (some ⟨w1.heap.size, 0, none⟩) 1 1) (by kernel_rfl) ?_
  refine wpList_store_rowTo rfl 49 _ _ rfl rfl w.heap.size (begA n (some ⟨w1.heap.size, 0, none⟩) 1 1) (by kernel_rfl) (by kernel_rfl) 49 (begA 0 none 0 0) ((push_old _ _ (heap_lt h1)).trans h1) (by kernel_rfl) (by kernel_rfl) (by kernel_rfl) ?_
  apply wpList_nil
  have h2 := (push_old w1 (.cells #[.int .i64 0, .int .i64 owner, .slice none 0 0, .bool true, .slice VA bs.length vc, .slice none 0 0] 56) (heap_lt h1)).trans h1
  have k2 := k1.alloc (.cells #[.int .i64 0, .int .i64 owner, .slice none 0 0, .bool true, .slice VA bs.length vc, .slice none 0 0] 56)
  have hn2 := push_new w1 (.cells #[.int .i64 0, .int .i64 owner, .slice none 0 0, .bool true, .slice VA bs.length vc, .slice none 0 0] 56)
  have r2 := hrow.below ((Kept.refl w1).alloc (.cells #[.int .i64 0, .int .i64 owner, .slice none 0 0, .bool true, .slice VA bs.length vc, .slice none 0 0] 56)).1
  have hlt1 : w.heap.size < w1.heap.size := heap_lt h1
  generalize w1.alloc (.cells #[.int .i64 0, .int .i64 owner, .slice none 0 0, .bool true, .slice VA bs.length vc, .slice none 0 0] 56) = W3 at *
  generalize w1.heap.size = b at *
  have h3 := setRow_heap W3 w.heap.size (begA 0 none 0 0) (begA n (some ⟨b, 0, none⟩) 1 1) 49 (0, 0) h2
  have ho : ∀ i, i ≠ w.heap.size → (W3.setRow w.heap.size (begA n (some ⟨b, 0, none⟩) 1 1)).heap[i]? = W3.heap[i]? := fun i hi => setRow_other W3 w.heap.size i _ hi
  have hsz : (W3.setRow w.heap.size (begA n (some ⟨b, 0, none⟩) 1 1)).heap.size = W3.heap.size := by simp
  have K3 : Hid (Kept w (W3.setRow w.heap.size (begA n (some ⟨b, 0, none⟩) 1 1))) := Lib.hid ⟨⟨k2.1.os, k2.1.tape, k2.1.output, by rw [hsz]; exact k2.2, fun i hi => (ho i (by omega)).trans (k2.1.block i hi)⟩, by rw [hsz]; exact k2.2⟩
  have H3 := Lib.hid h3
  have O3 : Hid (ER.Own (W3.setRow w.heap.size (begA n (some ⟨b, 0, none⟩) 1 1)) w.heap.size (.slice (some ⟨b, 0, none⟩) 1 1) [⟨0, owner, none, 0, 0, true, VA, bs.length, vc, none, 0, 0⟩]) := Lib.hid ⟨rfl, .inr ⟨b, 1, _, rfl, by omega, (ho b (by omega)).trans hn2, Nat.le_refl _, by decide, rfl, rfl⟩⟩
  have R3 : Hid (RowB (W3.setRow w.heap.size (begA n (some ⟨b, 0, none⟩) 1 1)) VA bs.length vc bs) := Lib.hid (r2.off (by rw [hsz]; exact Nat.le_refl _) fun a ha hn' => ho _ (r2.ne h2 (by decide) a ha hn'))
  clear h1 k1 own1 gr1 at1 h2 k2 hn2 r2 h3 ho hsz hrow own0
  generalize W3.setRow w.heap.size (begA n (some ⟨b, 0, none⟩) 1 1) = W4 at *
  go_wp2
  refine bodyPost_ret (results_cell_row (p := 6) (ty := 49) rfl _ _ w.heap.size 49 (begA n (some ⟨b, 0, none⟩) 1 1) (0, 0) _ (by kernel_rfl) H3.out Try.underlying49 rfl (by kernel_rfl)) (by kernel_rfl) ?_
  exact ⟨_, rfl, K3.out, b, VA, bs.length, vc, rfl, O3.out, rfl, R3.out⟩
end Go.Proofs.Ytifenlopgpbpbaa
