/- The program's records: Read, a loop over the function records. -/
import Derived.Test.YtmjgpgnecohbcaaAlgF
import Derived.Test.YtmjgpgnecohbcaaMgF
import Derived.Test.YtmjgpgnecohbcaaFrmS
import Derived.Test.YtmjgpgnecohbcaaRange
import Derived.Shelf.Abstract
import Derived.Shelf.RegionOpen
import Derived.OwnWalkIn
import Derived.TacticsInMore
import Derived.LoopNIn
import Derived.LoopIn
namespace Go.Proofs.Ytmjgpgnecohbcaa
open Go.RowKit Go.Shelf
attribute [local go_sem] Oper.semAt_some

/-- between two rounds: what was read so far lies in the box at B, how many bytes that has in the box at B + 1; all else is as it was in W2 -/
structure RdI (B : Nat) (W2 W : World) (its : List It) (k : Nat) : Prop where
  os : W.os = W2.os
  tape : W.tape = W2.tape
  output : W.output = W2.output
  size : W2.heap.size ≤ W.heap.size
  hB : B + 4 < W2.heap.size
  old : ∀ b, b < W2.heap.size → b ≠ B → b ≠ B + 1 → W.heap[b]? = W2.heap[b]?
  lbox : ∃ v, W.heap[B]? = some (.cells #[v] 36 (0, 0)) ∧ OwnR 52 W W2.heap.size v its
  zbox : W.heap[B + 1]? = some (.cells #[.int .i64 (k : Nat)] 3 (0, 0))
  far : ∀ x ∈ its, ∀ a, x.A = some a → 0 < x.r.val.length → W2.heap.size ≤ a.block
theorem RdI.kept {B k : Nat} {W2 W W' : World} {its : List It} (h : RdI B W2 W its k) (kk : Kept W W') : RdI B W2 W' its k := by
  have hs := h.size
  have hb := h.hB
  obtain ⟨v, h1, h2⟩ := h.lbox
  exact ⟨kk.1.os.trans h.os, kk.1.tape.trans h.tape, kk.1.output.trans h.output, Nat.le_trans h.size kk.2, h.hB, fun b hb h1 h2 => (kk.1.block b (by omega)).trans (h.old b hb h1 h2),
    ⟨v, (kk.1.block B (by omega)).trans h1, h2.kept kk⟩, (kk.1.block (B + 1) (by omega)).trans h.zbox, h.far⟩
/-- what a round is handed -/
structure Rnd where
  x : It
  en : Nat
  W2 : World
  its : List It
  k : Nat
def Rnd.args (y : Rnd) : Array Value := #[rcv y.x.r y.x.A y.x.r.val.length y.x.c, .int .i64 (y.en : Nat)]
def Rnd.Pre (B : Nat) (y : Rnd) (W : World) : Prop := RdI B y.W2 W y.its y.k ∧ y.x.ok W ∧ (∀ a, y.x.A = some a → 0 < y.x.r.val.length → y.W2.heap.size ≤ a.block) ∧ (∀ v, W.heap[B]? = some (.cells #[v] 36 (0, 0)) → y.x.off v.ownBlock) ∧ y.its.length < 1099511627776
def Rnd.Post (B : Nat) (y : Rnd) (_ : World) (e : Ending) (W' : World) : Prop := e = .returned (.bool true) ∧ RdI B y.W2 W' (y.its ++ [y.x]) y.en

/-- the world behind a round -/
theorem RdI.step {B k en : Nat} {W2 W W5 : World} {its : List It} {x : It} {v v' : Value} {o1 o2 : Obj} {r0 r1 : Loop} (h : RdI B W2 W its k) (hx : ∀ a, x.A = some a → 0 < x.r.val.length → W2.heap.size ≤ a.block)
    (hl2 : W2.heap[B + 4]? = some (.loop r0)) (hv : W.heap[B]? = some (.cells #[v] 36 (0, 0))) (own : OwnR 52 W W2.heap.size v its)
    (hg : (((W.alloc o1).putObj (B + 4) (.loop r1)).alloc o2).grownBy W5 v.ownBlock) (own' : OwnR 52 W5 W2.heap.size v' (its ++ [x])) :
    (W5.heap[B]? = some (.cells #[v] 36 (0, 0)) ∧ W5.heap[B + 1]? = some (.cells #[.int .i64 (k : Nat)] 3 (0, 0)) ∧ W5.heap[B + 4]? = some (.loop r1)) ∧
    RdI B W2 ((((W5.setCell ⟨B, 0, none⟩ v').setCell ⟨B + 1, 0, none⟩ (.int .i64 (en : Nat)))).putObj (B + 4) (.loop r0)) (its ++ [x]) en := by
  have hs := h.size
  have hb := h.hB
  have hva : ∀ g, v.ownBlock = some g → W2.heap.size ≤ g := fun g hg => (World.ownsRow.lt own.row g hg).1
  have hvb : ∀ g, v'.ownBlock = some g → W2.heap.size ≤ g := fun g hg => (World.ownsRow.lt own'.row g hg).1
  have hs5 : W.heap.size ≤ W5.heap.size := by have := hg.size; simp at this; omega
  have step : ∀ b, b < W2.heap.size → b ≠ B + 4 → W5.heap[b]? = W.heap[b]? := fun b hb hne => by
    rw [hg.block b (by simp; omega) (fun e => by have := hva b e.symm; omega)]
    rw [push_old _ _ (by simp; omega), World.putObj_heap_other hne, push_old _ _ (by omega)]
  have hl5 : W5.heap[B + 4]? = some (.loop r1) := by
    rw [hg.block (B + 4) (by simp; omega) (fun e => by have := hva _ e.symm; omega), push_old _ _ (by simp; omega)]
    exact World.putObj_heap_same (by simp; omega)
  have hB5 := (step B (by omega) (by omega)).trans hv
  have hz5 := (step (B + 1) (by omega) (by omega)).trans h.zbox
  have far : ∀ b, b ≠ B → b ≠ B + 1 → b ≠ B + 4 → ((((W5.setCell ⟨B, 0, none⟩ v').setCell ⟨B + 1, 0, none⟩ (.int .i64 (en : Nat)))).putObj (B + 4) (.loop r0)).heap[b]? = W5.heap[b]? := fun b h1 h2 h3 => by
    rw [World.putObj_heap_other h3]
    exact (Below.heap_setCell _ ⟨B + 1, 0, none⟩ _ b h2).trans (Below.heap_setCell _ ⟨B, 0, none⟩ _ b h1)
  have hfar : ∀ y ∈ its ++ [x], ∀ a, y.A = some a → 0 < y.r.val.length → W2.heap.size ≤ a.block := fun y hy => by
    rcases List.mem_append.1 hy with hy | hy
    · exact h.far y hy
    · simp at hy; subst hy; exact hx
  refine ⟨⟨hB5, hz5, hl5⟩, ?_, ?_, ?_, ?_, hb, fun b hb' h1 h2 => ?_, ⟨v', ?_, ?_⟩, ?_, hfar⟩
  · exact hg.os.trans h.os
  · exact hg.tape.trans h.tape
  · exact hg.output.trans h.output
  · simp [World.setCell]; omega
  · by_cases h3 : b = B + 4
    · subst h3
      rw [hl2]
      exact World.putObj_heap_same (by simp [World.setCell]; omega)
    · rw [far b h1 h2 h3, step b hb' h3]
      exact h.old b hb' h1 h2
  · rw [World.putObj_heap_other (by omega)]
    refine (Below.heap_setCell _ ⟨B + 1, 0, none⟩ _ B (by simp)).trans ?_
    rw [heap_setCell_same hB5]
    rfl
  · refine own'.moved (by simp [World.setCell]) (fun g hg' => far g ?_ ?_ ?_) (fun y hy a ha hn => far _ ?_ ?_ ?_)
    · have := hvb g hg'; omega
    · have := hvb g hg'; omega
    · have := hvb g hg'; omega
    · have := hfar y hy a ha hn; omega
    · have := hfar y hy a ha hn; omega
    · have := hfar y hy a ha hn; omega
  · rw [World.putObj_heap_other (by omega)]
    rw [heap_setCell_same ((Below.heap_setCell _ ⟨B, 0, none⟩ _ (B + 1) (by simp)).trans hz5)]
    rfl
end Go.Proofs.Ytmjgpgnecohbcaa
