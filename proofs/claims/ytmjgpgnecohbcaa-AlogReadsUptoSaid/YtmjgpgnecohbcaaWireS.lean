/- The Reader's calls. -/
import Derived.Test.YtmjgpgnecohbcaaWireR
import Derived.Test.YtmjgpgnecohbcaaMgC
namespace Go.Proofs.Ytmjgpgnecohbcaa
open Go.RowKit

/-- nothing of what was there has changed but block g -/
structure Off (g : Nat) (w w' : World) : Prop where
  os : w'.os = w.os
  tape : w'.tape = w.tape
  output : w'.output = w.output
  size : w.heap.size ≤ w'.heap.size
  rest : ∀ k, k < w.heap.size → k ≠ g → w'.heap[k]? = w.heap[k]?
theorem Off.refl (g : Nat) (w : World) : Off g w w := ⟨rfl, rfl, rfl, Nat.le_refl _, fun _ _ _ => rfl⟩
theorem Off.trans {g : Nat} {a b c : World} (h : Off g a b) (k : Off g b c) : Off g a c :=
  ⟨k.os.trans h.os, k.tape.trans h.tape, k.output.trans h.output, Nat.le_trans h.size k.size, fun i hi hn => (k.rest i (Nat.lt_of_lt_of_le hi h.size) hn).trans (h.rest i hi hn)⟩
theorem Off.of_below {g : Nat} {w w' : World} (h : Below w.heap.size w w') : Off g w w' := ⟨h.os, h.tape, h.output, h.size, fun k hk _ => h.block k hk⟩
theorem Off.below {g B : Nat} {w w' : World} (h : Off g w w') (hg : B ≤ g) (hB : B ≤ w.heap.size) : Below B w w' := ⟨h.os, h.tape, h.output, h.size, fun k hk => h.rest k (by omega) (by omega)⟩
theorem Off.setCell {g : Nat} {w w' : World} (h : Off g w w') (j : Nat) (v : Value) : Off g w (w'.setCell ⟨g, j, none⟩ v) :=
  ⟨h.os, h.tape, h.output, by simpa [World.setCell] using h.size, fun k hk hn => (Below.heap_setCell w' ⟨g, j, none⟩ v k hn).trans (h.rest k hk hn)⟩

theorem Off.new {g : Nat} {w w' : World} (h : Off g w w') {b : Nat} (hb : w.heap.size ≤ b) (j : Nat) (v : Value) : Off g w (w'.setCell ⟨b, j, none⟩ v) :=
  ⟨h.os, h.tape, h.output, by simpa [World.setCell] using h.size, fun k hk hn => (Below.heap_setCell w' ⟨b, j, none⟩ v k (by simp only; omega)).trans (h.rest k hk hn)⟩

/-- a Reader at block g: its bytes, which lie below it, and where it stands -/
def Rd (w : World) (g : Nat) (bs : List Nat) (p : Nat) : Prop :=
  ∃ A n cap, w.heap[g]? = some (.cells #[.slice A n cap, .int .i64 (p : Int)] 144 (0, 0)) ∧ Bts w g A n bs ∧ (A = none → cap = 0) ∧ n ≤ cap ∧ cap ≤ maxLen ∧ p ≤ n
theorem Rd.off {w w' : World} {g h : Nat} {bs : List Nat} {p : Nat} (hr : Rd w g bs p) (ho : Off h w w') (hn : g < h) : Rd w' g bs p := by
  obtain ⟨A, n, cap, hg, hb, h1, h2, h3, h4⟩ := hr
  exact ⟨A, n, cap, (ho.rest g (heap_lt hg) (by omega)).trans hg, hb.below (ho.below (by omega) (Nat.le_of_lt (heap_lt hg))), h1, h2, h3, h4⟩
theorem Rd.below {w w' : World} {g : Nat} {bs : List Nat} {p : Nat} (hr : Rd w g bs p) (hb' : Below w.heap.size w w') : Rd w' g bs p := by
  obtain ⟨A, n, cap, hg, hb, h1, h2, h3, h4⟩ := hr
  exact ⟨A, n, cap, (hb'.block g (heap_lt hg)).trans hg, hb.below (hb'.mono (Nat.le_of_lt (heap_lt hg))), h1, h2, h3, h4⟩
theorem Rd.le {w : World} {g : Nat} {bs : List Nat} {p : Nat} (hr : Rd w g bs p) : p ≤ bs.length := by
  obtain ⟨A, n, cap, hg, hb, h1, h2, h3, h4⟩ := hr
  rw [hb.1]; exact h4
theorem Rd.lt {w : World} {g : Nat} {bs : List Nat} {p : Nat} (hr : Rd w g bs p) : g < w.heap.size := by
  obtain ⟨A, n, cap, hg, _⟩ := hr
  exact heap_lt hg
theorem Rd.byte {w : World} {g : Nat} {bs : List Nat} {p : Nat} (hr : Rd w g bs p) : ∀ c ∈ bs, c < 256 := by
  obtain ⟨A, n, cap, hg, hb, _⟩ := hr
  exact hb.2.2.1

theorem own_base {w : World} {b b' : Nat} {v : Value} {bs : List Nat} (h : Own w b v bs) (hb : b' ≤ b) : Own w b' v bs := by
  obtain ⟨h0, h | ⟨g, cap, cur, e, h1, h2⟩⟩ := h
  · exact ⟨h0, .inl h⟩
  · exact ⟨h0, .inr ⟨g, cap, cur, e, Nat.le_trans hb h1, h2⟩⟩

/-- the bytes that are left, as a slice -/
def Left (w : World) (g : Nat) (A : Option Addr) (n cap : Nat) (bs : List Nat) : Prop := Bts w g A n bs ∧ (A = none → cap = 0) ∧ n ≤ cap ∧ cap ≤ maxLen

set_option maxRecDepth 100000 in
set_option maxHeartbeats 1000000 in
theorem rest_any (g : Nat) (bs : List Nat) (p : Nat) (w : World) (hr : Rd w g bs p) :
    Calls Try.prog 106 #[.pointer (some ⟨g, 0, none⟩)] w fun e w' => ∃ A n c, e = .returned (.slice A n c) ∧ Left w' g A n c (bs.drop p) ∧ Below w.heap.size w w' := by
  obtain ⟨A, n, cap, hg, hb, h1, h2, h3, h4⟩ := hr
  have c0 := cell_of_heap hg 0
  have c1 := cell_of_heap hg 1
  simp only [List.getElem?_toArray, List.getElem?_cons_zero, List.getElem?_cons_succ] at c0 c1
  have hcut := hb.rest (k := p) h4 h2
  have HC := Lib.hid hcut
  have HN := Lib.hid h1
  have hglt := Nat.le_of_lt (heap_lt hg)
  clear hcut h1 hg hb
  go_enter Try.func106, Try.ntmps106
  go_wp2
  go_region
  go_wp2
  · have hx := HC.out
    rw [if_pos h] at hx
    go_ret
    exact ⟨_, _, _, rfl, ⟨hx.below ((Below.refl _ _).drew), fun _ => rfl, by omega, by decide⟩, (Below.refl _ _).drew⟩
  · have hx := HC.out
    rw [if_neg h] at hx
    go_ret
    exact ⟨_, _, _, rfl, ⟨hx.below ((Below.refl _ _).drew), (fun e => by have := HN.out (by simpa using e); omega), by omega, by omega⟩, (Below.refl _ _).drew⟩
set_option maxRecDepth 100000 in
theorem rest_nil (w : World) : Calls Try.prog 106 #[.pointer none] w fun e w' => e = .returned (.slice none 0 0) ∧ w' = w := by
  go_enter Try.func106, Try.ntmps106
  go_wp2
  go_ret
  exact ⟨rfl, rfl⟩

/-- what a call tells: nil, or an error of that number and place -/
def errv (c p : Nat) : Value := if c = 0 then .nilIface else fault (c : Int) (p : Int)

set_option maxRecDepth 100000 in
theorem pass_any (g : Nat) (bs : List Nat) (p size c : Nat) (w : World) (hr : Rd w g bs p) (hs : p + size ≤ bs.length) (hsz : c ≠ 0 → size = 0) :
    Calls Try.prog 107 #[.pointer (some ⟨g, 0, none⟩), .int .i64 (size : Int), .int .i64 (c : Int)] w fun e w' => e = .returned (errv c p) ∧ Rd w' g bs (p + size) ∧ Off g w w' := by
  have hr0 := hr
  obtain ⟨A, n, cap, hg, hb, h1, h2, h3, h4⟩ := hr
  have c0 := cell_of_heap hg 0
  have c1 := cell_of_heap hg 1
  have f1 := frozen_of_heap hg 1
  simp only [List.getElem?_toArray, List.getElem?_cons_zero, List.getElem?_cons_succ] at c0 c1
  have hlen := hb.1
  have hmax := hb.2.1
  have HG := Lib.hid hg
  have HB := Lib.hid hb
  have HR := Lib.hid hr0
  have HN := Lib.hid h1
  clear hg hb hr0 h1
  by_cases hc : c = 0
  · subst hc
    have he : errv 0 p = .nilIface := rfl
    rw [he]
    go_enter Try.func107, Try.ntmps107
    go_wp2
    go_ret
    refine ⟨rfl, ⟨A, n, cap, ?_, ?_, HN.out, h2, h3, by omega⟩, (Off.refl _ _).setCell _ _⟩
    · rw [heap_setCell_same HG.out]
      simp
    · exact HB.out.below ((Below.refl _ _).setCell (p := ⟨g, 1, none⟩) (Nat.le_refl _) _)
  · have he : errv c p = fault (c : Int) (p : Int) := if_neg hc
    rw [he, hsz hc, Nat.add_zero]
    have hci : ¬ (c : Int) = 0 := by omega
    unfold fault
    go_enter Try.func107, Try.ntmps107
    go_wp2
    go_ret
    exact ⟨rfl, HR.out, Off.refl _ _⟩
set_option maxRecDepth 100000 in
theorem pass_nil (size c : Nat) (w : World) :
    Calls Try.prog 107 #[.pointer none, .int .i64 (size : Int), .int .i64 (c : Int)] w fun e w' => e = .returned (fault (c : Int) 0) ∧ w' = w := by
  unfold fault
  go_enter Try.func107, Try.ntmps107
  go_wp2
  go_ret
  exact ⟨rfl, rfl⟩





set_option maxRecDepth 100000 in
theorem rsmall_any (g : Nat) (bs : List Nat) (p : Nat) (most : Int) (hm : (Lit.int .i64 most).wf = true) (w : World) (hr : Rd w g bs p) :
    Calls Try.prog 90 #[.pointer (some ⟨g, 0, none⟩), .int .i64 most] w fun e w' =>
      e = .returned (.tuple #[.int .i64 ((sml (bs.drop p) most).1 : Nat), errv (sml (bs.drop p) most).2.2 p]) ∧ Rd w' g bs (p + (sml (bs.drop p) most).2.1) ∧ Off g w w' := by
  have hl := sml_len (bs := bs.drop p) (fun c hc => hr.byte c (List.mem_of_mem_drop hc)) most
  have hle := hr.le
  have hcz : (sml (bs.drop p) most).2.2 ≠ 0 → (sml (bs.drop p) most).2.1 = 0 := fun h => by
    unfold sml at *
    split at h
    · rename_i h1; rw [if_pos h1]
    · rename_i h1
      split at h
      · rename_i h2; rw [if_neg h1, if_pos h2]
      · omega
  have hN := fun A n c w1 (h : Bts w1 g A n (bs.drop p)) => small_any g A n c _ most hm w1 h
  clear hm
  generalize sml (bs.drop p) most = G at *
  obtain ⟨x, k, cc⟩ := G
  simp only [List.length_drop] at hl hcz hN ⊢
  go_enter Try.func90, Try.ntmps90
  go_wp2_with fail
  refine (rest_any g bs p w hr).mono ?_
  rintro e w1 ⟨A, n, c, rfl, hL, hb⟩
  have hr1 := hr.below hb
  clear hr
  go_wp2_with fail
  refine (hN A n c w1 hL.1).mono ?_
  rintro e w2 ⟨rfl, rfl⟩
  have hP := pass_any g bs p k cc w2 hr1 (by omega) hcz
  clear hr1 hL hcz hN
  go_wp2_with fail
  refine hP.mono ?_
  rintro e w3 ⟨rfl, h3, h4⟩
  go_wp2
  go_ret2
  exact ⟨rfl, h3, (Off.of_below hb).trans h4⟩
end Go.Proofs.Ytmjgpgnecohbcaa
