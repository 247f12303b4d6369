/- The document's Disk. -/
import Derived.Test.YteefeancakeebaaDskK
import Derived.Test.YteefeancakeebaaRes
import Derived.Test.YteefeancakeebaaStep
import Derived.LoopTactic
import Derived.Deep.CutRange
import Derived.Deep.DeepCutAuto
namespace Go.Proofs.Yteefeancakeebaa
open Go.RowKit

/-- the document's Disk as a value: its bytes, and how many are synced -/
def Rf (W : World) (x y : Value) (bs : List Nat) (s : Nat) : Prop := ∃ A n c, x = .slice A n c ∧ y = .int .i64 (s : Int) ∧ Row W A n c bs

theorem refSync_any {A : Option Addr} {n c : Nat} (s : Int) (w : World) :
    Calls Try.prog 13 #[.agg #[.slice A n c, .int .i64 s]] w fun e w' => e = .returned (.agg #[.slice A n c, .int .i64 (n : Int)]) ∧ Below w.heap.size w w' := by
  go_enter Try.func13, Try.ntmps13
  go_wp2
  refine bodyPost_ret (results_cell_row (p := 2) (ty := 28) rfl _ _ (w.heap.size + 1) _ _ _ _ rfl (push_two_new w _ _) Try.underlying28 rfl (by kernel_rfl)) rfl ?_
  exact ⟨rfl, (((Kept.refl w).alloc _).alloc _).1⟩

theorem refAppend_full {A B : Option Addr} {n c m d : Nat} (s : Int) (w : World) (hl : n ≤ 1048576) (hm : m ≤ 140737488351232) (hn : 1048576 < n + m) :
    Calls Try.prog 12 #[.agg #[.slice A n c, .int .i64 s], .slice B m d] w fun e w' => e = .returned (.tuple #[.agg #[.slice A n c, .int .i64 s], .int .i64 5]) ∧ Below w.heap.size w w' := by
  have hg : (1048576 : Int) < (n : Int) + (m : Int) := by omega
  go_enter Try.func12, Try.ntmps12
  go_wp2
  refine bodyPost_ret (results_row_tmp (p := 4) (u := 5) (ty := 28) rfl _ _ _ (w.heap.size + 1) _ _ _ _ _ rfl rfl (push_two_new w _ _) Try.underlying28 rfl (by kernel_rfl)) rfl ?_
  exact ⟨rfl, (((Kept.refl w).alloc _).alloc _).1⟩

theorem refInstall_full {A B : Option Addr} {n c m d : Nat} (s : Int) (w : World) (hn : 1048576 < m) :
    Calls Try.prog 16 #[.agg #[.slice A n c, .int .i64 s], .slice B m d] w fun e w' => e = .returned (.tuple #[.agg #[.slice A n c, .int .i64 s], .int .i64 5]) ∧ Below w.heap.size w w' := by
  go_enter Try.func16, Try.ntmps16
  go_wp2
  refine bodyPost_ret (results_row_tmp (p := 4) (u := 5) (ty := 28) rfl _ _ _ (w.heap.size + 1) _ _ _ _ _ rfl rfl (push_two_new w _ _) Try.underlying28 rfl (by kernel_rfl)) rfl ?_
  exact ⟨rfl, (((Kept.refl w).alloc _).alloc _).1⟩

theorem refCut_bad {A : Option Addr} {n c : Nat} (s k : Int) (w : World) (hk : k < 0 ∨ (n : Int) < k) :
    Calls Try.prog 15 #[.agg #[.slice A n c, .int .i64 s], .int .i64 k] w fun e w' => e = .returned (.tuple #[.agg #[.slice A n c, .int .i64 s], .int .i64 1]) ∧ Below w.heap.size w w' := by
  rcases Int.lt_or_le k 0 with h | h
  · clear hk
    go_enter Try.func15, Try.ntmps15
    go_wp2
    refine bodyPost_ret (results_row_tmp (p := 4) (u := 5) (ty := 28) rfl _ _ _ (w.heap.size + 1) _ _ _ _ _ rfl rfl (push_two_new w _ _) Try.underlying28 rfl (by kernel_rfl)) rfl ?_
    exact ⟨rfl, (((Kept.refl w).alloc _).alloc _).1⟩
  · have h1 : (n : Int) < k := by omega
    clear hk
    go_enter Try.func15, Try.ntmps15
    go_wp2
    refine bodyPost_ret (results_row_tmp (p := 4) (u := 5) (ty := 28) rfl _ _ _ (w.heap.size + 1) _ _ _ _ _ rfl rfl (push_two_new w _ _) Try.underlying28 rfl (by kernel_rfl)) rfl ?_
    exact ⟨rfl, (((Kept.refl w).alloc _).alloc _).1⟩
theorem refCut_ok {A : Option Addr} {n c : Nat} {bs : List Nat} {w : World} (s k : Nat) (hr : Row w A n c bs) (hk : k ≤ n) :
    Calls Try.prog 15 #[.agg #[.slice A n c, .int .i64 (s : Int)], .int .i64 (k : Int)] w fun e w' => e = .returned (.tuple #[.agg #[.slice A k c, .int .i64 ((min s k : Nat) : Int)], .int .i64 0]) ∧ Below w.heap.size w w' := by
  have h1 : ¬ ((k : Int) < 0) := by omega
  have h2 : ¬ ((n : Int) < (k : Int)) := by omega
  have hsl := fun W => run_head A n c k (by have := hr.room; omega) W
  have hm : min (s : Int) (k : Int) = ((min s k : Nat) : Int) := by omega
  generalize min s k = M at *
  clear hr
  go_enter Try.func15, Try.ntmps15
  go_wp2
  go_region
  all_goals
    go_wp2
    refine bodyPost_ret (results_row_tmp (p := 4) (u := 5) (ty := 28) rfl _ _ _ (w.heap.size + 1) _ _ _ _ _ rfl rfl (push_two_new w _ _) Try.underlying28 rfl (by kernel_rfl)) rfl ?_
    exact ⟨rfl, ((((Kept.refl w).alloc _).alloc _).drew).1⟩

theorem refInstall_ok {A B : Option Addr} {n c m d : Nat} {bs : List Nat} {w : World} (s : Int) (hr : Row w B m d bs) (hm : m ≤ 1048576) :
    Calls Try.prog 16 #[.agg #[.slice A n c, .int .i64 s], .slice B m d] w fun e w' => ∃ A' c', e = .returned (.tuple #[.agg #[.slice A' m c', .int .i64 (m : Int)], .int .i64 0]) ∧ Row w' A' m c' bs ∧ (∀ a, A' = some a → 0 < m → w.heap.size ≤ a.block) ∧ Below w.heap.size w w' := by
  have h1 : ¬ ((1048576 : Int) < (m : Int)) := by omega
  have HR := Lib.hid hr
  clear hr
  go_enter Try.func16, Try.ntmps16
  obtain ⟨u, hu⟩ : ∃ u, (w.alloc (.cells #[.slice A n c, .int .i64 s] 28)).alloc (.cells #[.slice none 0 0, .int .i64 0] 28) = u := ⟨_, rfl⟩
  have k2 : Kept w u := by rw [← hu]; exact ((Kept.refl w).alloc _).alloc _
  have h2 : u.heap[w.heap.size + 1]? = some (.cells #[.slice none 0 0, .int .i64 0] 28 (0, 0)) := by rw [← hu]; exact push_two_new w _ _
  have hs2 : u.heap.size = w.heap.size + 2 := by rw [← hu]; simp
  have own0 : Own (u.alloc (.cells #[] 5)) u.heap.size (.slice (some ⟨u.heap.size, 0, none⟩) 0 0) [] := Own.lit [] (Nat.le_refl _) (by simp)
  have O0 := Lib.hid own0
  have H2 := Lib.hid h2
  have K2 := Lib.hid k2
  have HS := Lib.hid hs2
  clear own0 h2 k2 hs2
  go_upto_region 3 with fail
  clear hu
  go_wp2_with (first
    | (at_builtin
       refine wpList_append_bts rfl (.tmp 10) (.tmp 11) rfl (v := .slice (some ⟨u.heap.size, 0, none⟩) 0 0) (base := u.heap.size) (ds := []) rfl rfl O0.out (HR.out.bts.below (K2.out.alloc _).1) HR.out.nil (by simp; omega) (by simp) ?_
       intro v1 w1 own1 gr1 at1
       have q1 := ((Kept.refl u).alloc (.cells #[] 5)).append O0.out gr1
       rw [List.nil_append] at own1
       have h3 := (q1.1.block (w.heap.size + 1) (heap_lt H2.out)).trans H2.out
       have p0 := cell_of_heap h3 0
       have p1 := cell_of_heap h3 1
       have z0 := frozen_of_heap h3 0
       have z1 := frozen_of_heap h3 1
       simp only [List.getElem?_toArray, List.getElem?_cons_zero, List.getElem?_cons_succ] at p0 p1
       obtain ⟨A1, c1, rfl, r1⟩ := own1.row (by rw [HR.out.len]; omega) HR.out.bts.2.2.1
       rw [HR.out.len] at r1 own1 ⊢
       have H3 := Lib.hid h3
       have R1 := Lib.hid r1
       have K1 := Lib.hid (K2.out.trans q1)
       have G1 := Lib.hid own1.block_ge
       clear own1 gr1 at1 q1 h3 r1))
  refine bodyPost_ret (results_row_tmp (p := 4) (u := 5) (ty := 28) rfl _ _ _ (w.heap.size + 1) _ _ _ _ _ rfl rfl (heap_setCell_same (heap_setCell_same H3.out _) _) Try.underlying28 rfl (by kernel_rfl)) rfl ?_
  refine ⟨A1, c1, rfl, ?_, fun a ha hn => by have := G1.out a ha hn; have := HS.out; omega, ?_⟩
  · exact (R1.out.far (fun a ha hn => by have := G1.out a ha hn; have := HS.out; simp only; omega) _).far (fun a ha hn => by have := G1.out a ha hn; have := HS.out; simp only; omega) _
  · exact ((K1.out.setCell (by simp) _).setCell (by simp) _).1

set_option maxHeartbeats 4000000 in
theorem refAppend_ok {A B : Option Addr} {n c m d : Nat} {bs cs : List Nat} {w : World} (s : Int) (ha : Row w A n c bs) (hr : Row w B m d cs) (hm : n + m ≤ 1048576) :
    Calls Try.prog 12 #[.agg #[.slice A n c, .int .i64 s], .slice B m d] w fun e w' => ∃ A' c', e = .returned (.tuple #[.agg #[.slice A' (n + m) c', .int .i64 s], .int .i64 0]) ∧ Row w' A' (n + m) c' (bs ++ cs) ∧ (∀ a, A' = some a → 0 < n + m → w.heap.size ≤ a.block) ∧ Below w.heap.size w w' := by
  have h1 : ¬ ((1048576 : Int) < (n : Int) + (m : Int)) := by omega
  have HA := Lib.hid ha
  have HR := Lib.hid hr
  clear hr ha
  go_enter Try.func12, Try.ntmps12
  obtain ⟨u, hu⟩ : ∃ u, (w.alloc (.cells #[.slice A n c, .int .i64 s] 28)).alloc (.cells #[.slice none 0 0, .int .i64 0] 28) = u := ⟨_, rfl⟩
  have k2 : Kept w u := by rw [← hu]; exact ((Kept.refl w).alloc _).alloc _
  have h2 : u.heap[w.heap.size + 1]? = some (.cells #[.slice none 0 0, .int .i64 0] 28 (0, 0)) := by rw [← hu]; exact push_two_new w _ _
  have g2 : u.heap[w.heap.size]? = some (.cells #[.slice A n c, .int .i64 s] 28 (0, 0)) := by rw [← hu]; exact push_two_old w _ _
  have hs2 : u.heap.size = w.heap.size + 2 := by rw [← hu]; simp
  have own0 : Own (u.alloc (.cells #[] 5)) u.heap.size (.slice (some ⟨u.heap.size, 0, none⟩) 0 0) [] := Own.lit [] (Nat.le_refl _) (by simp)
  have b0 := cell_of_heap g2 0
  have b1 := cell_of_heap g2 1
  simp only [List.getElem?_toArray, List.getElem?_cons_zero, List.getElem?_cons_succ] at b0 b1
  have c0 := cell_of_heap ((push_old u (.cells #[] 5) (heap_lt g2)).trans g2) 0
  simp only [List.getElem?_toArray, List.getElem?_cons_zero] at c0
  have O0 := Lib.hid own0
  have H2 := Lib.hid h2
  have G2 := Lib.hid g2
  have K2 := Lib.hid k2
  have HS := Lib.hid hs2
  clear own0 h2 k2 hs2 g2
  go_upto_region 3 with fail
  clear hu
  go_wp2_with (first
    | (at_builtin
       refine wpList_append_bts rfl (.tmp 15) (.tmp 17) rfl (v := .slice (some ⟨u.heap.size, 0, none⟩) 0 0) (base := u.heap.size) (ds := []) rfl rfl O0.out (HA.out.bts.below (K2.out.alloc _).1) HA.out.nil (by simp; omega) (by simp) ?_
       intro v1 w1 own1 gr1 at1
       have q1 := ((Kept.refl u).alloc (.cells #[] 5)).append O0.out gr1
       rw [List.nil_append] at own1
       obtain ⟨A1, n1, c1, rfl⟩ := own1.slice
       have Q1 := Lib.hid q1
       have O1 := Lib.hid own1
       clear own1 gr1 at1 q1))
  have d1 := Kept.drew Q1.out
  have e1 := (d1.1.block w.heap.size (heap_lt G2.out)).trans G2.out
  have m1 := cell_of_heap e1 1
  simp only [List.getElem?_toArray, List.getElem?_cons_zero, List.getElem?_cons_succ] at m1
  have od : Own w1.drew u.heap.size (.slice A1 n1 c1) bs := O1.out.keep fun _ _ => rfl
  have OD := Lib.hid od
  have E1 := Lib.hid e1
  clear b0 b1 e1 od c0
  go_region_law (first
    | (refine step_append_bts rfl (.tmp 19) (.tmp 20) rfl (v := .slice A1 n1 c1) (base := u.heap.size) (ds := bs) (bs := cs) (n := m) rfl rfl OD.out (HR.out.bts.below (K2.out.trans d1).1) HR.out.nil (by rw [HA.out.len]; omega) d1.2 ?_
       intro v3 w3 own3 gr3 at3
       have q3 := d1.append OD.out gr3
       have e3 := (gr3.block w.heap.size (Nat.lt_of_lt_of_le (heap_lt G2.out) d1.2) (fun e => by have := (World.ownsRow.lt OD.out _ e.symm).1; have := HS.out; omega)).trans E1.out
       have h3 := (q3.1.block (w.heap.size + 1) (heap_lt H2.out)).trans H2.out
       have b1 := cell_of_heap e3 1
       have p0 := cell_of_heap h3 0
       have p1 := cell_of_heap h3 1
       have z0 := frozen_of_heap h3 0
       have z1 := frozen_of_heap h3 1
       simp only [List.getElem?_toArray, List.getElem?_cons_zero, List.getElem?_cons_succ] at p0 p1 b1
       obtain ⟨A3, c3, rfl, r3⟩ := own3.row (by rw [List.length_append, HA.out.len, HR.out.len]; omega) (fun x hx => (List.mem_append.1 hx).elim (HA.out.bts.2.2.1 x) (HR.out.bts.2.2.1 x))
       rw [List.length_append, HA.out.len, HR.out.len] at r3 own3 ⊢
       have H3 := Lib.hid h3
       have R3 := Lib.hid r3
       have K3 := Lib.hid (K2.out.trans q3)
       have G3 := Lib.hid own3.block_ge
       clear own3 gr3 at3 q3 h3 r3 e3))
  all_goals
    go_wp2
    refine bodyPost_ret (results_row_tmp (p := 4) (u := 5) (ty := 28) rfl _ _ _ (w.heap.size + 1) _ _ _ _ _ rfl rfl (heap_setCell_same (heap_setCell_same H3.out _) _) Try.underlying28 rfl (by kernel_rfl)) rfl ?_
    refine ⟨A3, c3, rfl, ?_, fun a ha hn => by have := G3.out a ha hn; have := HS.out; omega, ?_⟩
    · exact (R3.out.far (fun a ha hn => by have := G3.out a ha hn; have := HS.out; simp only; omega) _).far (fun a ha hn => by have := G3.out a ha hn; have := HS.out; simp only; omega) _
    · exact ((K3.out.setCell (by simp) _).setCell (by simp) _).1

theorem refCrash_any {A : Option Addr} {n c : Nat} {bs : List Nat} {w : World} (s : Nat) (keep : Int) (hr : Row w A n c bs) (hs : s ≤ n) (hn : n ≤ 1048576) :
    Calls Try.prog 14 #[.agg #[.slice A n c, .int .i64 (s : Int)], .int .i64 keep] w fun e w' => e = .returned (.agg #[.slice A (s + kept keep (n - s)) c, .int .i64 ((s + kept keep (n - s) : Nat) : Int)]) ∧ Below w.heap.size w w' := by
  have hsl := fun k (hk : k ≤ n) W => run_head A n c k (by have := hr.room; omega) W
  have HSL := Lib.hid hsl
  generalize hM : s + kept keep (n - s) = M
  have HM := Lib.hid hM
  clear hM
  clear hsl hr
  go_enter Try.func14, Try.ntmps14
  obtain ⟨u, hu⟩ : ∃ u, (w.alloc (.cells #[.slice A n c, .int .i64 (s : Int)] 28)).alloc (.cells #[.slice none 0 0, .int .i64 0] 28) = u := ⟨_, rfl⟩
  have k2 : Kept w u := by rw [← hu]; exact ((Kept.refl w).alloc _).alloc _
  have h2 : u.heap[w.heap.size + 1]? = some (.cells #[.slice none 0 0, .int .i64 0] 28 (0, 0)) := by rw [← hu]; exact push_two_new w _ _
  have g2 : u.heap[w.heap.size]? = some (.cells #[.slice A n c, .int .i64 (s : Int)] 28 (0, 0)) := by rw [← hu]; exact push_two_old w _ _
  have b0 := cell_of_heap g2 0
  have b1 := cell_of_heap g2 1
  have p0 := cell_of_heap h2 0
  have p1 := cell_of_heap h2 1
  have z0 := frozen_of_heap h2 0
  have z1 := frozen_of_heap h2 1
  simp only [List.getElem?_toArray, List.getElem?_cons_zero, List.getElem?_cons_succ] at b0 b1 p0 p1
  have H2 := Lib.hid h2
  have K2 := Lib.hid k2
  clear h2 k2 g2
  go_upto_region 1 with fail
  clear hu
  go_wp2
  go_loop [5, 6] (fun q i => ∃ j r : Nat, (j ≤ keep.toNat ∧ r ≤ n ∧ r = s + j) ∧ q = .int .i64 (r : Int) ∧ i = .int .i64 (j : Int)) (fun q _ => n - (intOf q).toNat)
  case atStart => exact ⟨0, s, ⟨Nat.zero_le _, hs, rfl⟩, rfl, rfl⟩
  case round =>
    obtain ⟨j, r, ⟨hj1, hj2, hr⟩, rfl, rfl⟩ := hrel
    have HR := Lib.hid hr
    have hjn : j ≤ 1048576 := by omega
    have hrun := HSL.out r hj2
    by_cases h1 : (j : Int) < keep
    · by_cases h2 : r < n
      · clear hr hrun
        go_wp2
        go_round
        case rel => exact ⟨j + 1, r + 1, ⟨by omega, by omega, by have := HR.out; omega⟩, by go_num, by go_num⟩
        case measure => simp [intOf]; omega
      · have E1 : Hid (M = r) := Lib.hid (by have h := HM.out; unfold kept at h; omega)
        clear hr
        go_wp2
        refine bodyPost_ret (results_cell_row (p := 4) (ty := 28) rfl _ _ (w.heap.size + 1) _ _ _ _ rfl (heap_setCell_same (heap_setCell_same H2.out _) _) Try.underlying28 rfl (by kernel_rfl)) rfl ?_
        exact ⟨by rw [E1.out]; rfl, ((K2.out.setCell (by simp) _).setCell (by simp) _).1⟩
    · have E1 : Hid (M = r) := Lib.hid (by have h := HM.out; unfold kept at h; omega)
      clear hr
      go_wp2
      refine bodyPost_ret (results_cell_row (p := 4) (ty := 28) rfl _ _ (w.heap.size + 1) _ _ _ _ rfl (heap_setCell_same (heap_setCell_same H2.out _) _) Try.underlying28 rfl (by kernel_rfl)) rfl ?_
      exact ⟨by rw [E1.out]; rfl, ((K2.out.setCell (by simp) _).setCell (by simp) _).1⟩
end Go.Proofs.Yteefeancakeebaa
