/- Encode: the program's answers. -/
import Derived.Test.YtegjlcmeaelbnaaDoorCmdE
namespace Go.Proofs.YtegjlcmeaelbnaaDoor
open Go.RowKit Go.Great

set_option maxRecDepth 100000 in
set_option maxHeartbeats 1000000 in
theorem encode_ok (ns : List Int) (hl : ns.length = 9) (hok : Ok ns) (w : World) (hg : Laid w) :
    Calls Tryd.prog 10 #[nums ns] w fun e w' => ∃ v, e = .returned (.tuple #[v, .nilIface]) ∧ Own w' w.heap.size v (encN 0 ns) ∧ Below w.heap.size w w' := by
  have hf := fun w => fields_any ns hl w
  have hm := fun w => may9 ns hl w
  have hd := fun w => laid9 ns hl hok w
  simp only [if_pos hok] at hm
  generalize encN 0 ns = B at *
  obtain ⟨n0, n1, n2, n3, n4, n5, n6, n7, n8, rfl⟩ := nine hl
  unfold nums at *
  simp only [List.map_cons, List.map_nil] at *
  clear hl hok
  have HG := Lib.hid hg
  clear hg
  have HW := Lib.hid (fun w hg => wrapped_ok w hg)
  unfold errno at HW
  go_enter Tryd.func10, Tryd.ntmps10
  go_wp2_with (first
    | (go_at_call 19; refine (hf _).mono ?_; rintro e w1 ⟨rfl, b1⟩; have k1 := ((Kept.refl w).alloc _).call b1; clear b1)
    | (go_at_call 21; refine (hm _).mono ?_; rintro e w2 ⟨rfl, b2⟩; have k2 := (k1.alloc _).call b2; have hg2 := HG.out.below k2.1; have HG2 := Lib.hid hg2
       have hn2 := (b2.block w1.heap.size (by simp)).trans (push_new w1 _)
       have HN2 := Lib.hid hn2
       clear b2 hg2 hn2)
    | (go_at_call 20; refine (HW.out _ HG2.out).mono ?_; rintro e w3 ⟨rfl, b3⟩; have k3 := k2.call b3
       have hn3 := (b3.block _ (heap_lt HN2.out)).trans HN2.out
       have x0 := cell_of_heap hn3 0; have x1 := cell_of_heap hn3 1; have x2 := cell_of_heap hn3 2; have x3 := cell_of_heap hn3 3; have x4 := cell_of_heap hn3 4; have x5 := cell_of_heap hn3 5; have x6 := cell_of_heap hn3 6; have x7 := cell_of_heap hn3 7; have x8 := cell_of_heap hn3 8; simp only [List.getElem?_toArray, List.getElem?_cons_zero, List.getElem?_cons_succ] at x0 x1 x2 x3 x4 x5 x6 x7 x8
       clear b3 hn3)
    | (go_at_call 22; refine (hd _).mono ?_; rintro e w4 ⟨v, rfl, own, b4⟩; have k4 := k3.call b4; clear b4)
    | fail)
  go_ret2
  exact ⟨v, rfl, own_base own k3.2, k4.1⟩

set_option maxRecDepth 100000 in
set_option maxHeartbeats 1000000 in
theorem encode_bad (ns : List Int) (hl : ns.length = 9) (hok : ¬ Ok ns) (w : World) (hg : Laid w) :
    Calls Tryd.prog 10 #[nums ns] w fun e w' => e = .returned (.tuple #[.slice none 0 0, cfault (errno 1)]) ∧ Below w.heap.size w w' := by
  have hf := fun w => fields_any ns hl w
  have hm := fun w => may9 ns hl w
  simp only [if_neg hok] at hm
  obtain ⟨n0, n1, n2, n3, n4, n5, n6, n7, n8, rfl⟩ := nine hl
  unfold nums at *
  simp only [List.map_cons, List.map_nil] at *
  clear hl hok
  have HG := Lib.hid hg
  clear hg
  have HW := Lib.hid (fun w hg => wrapped_errno 1 (by decide) w hg)
  unfold errno at HW
  unfold errno cfault at *
  go_enter Tryd.func10, Tryd.ntmps10
  go_wp2_with (first
    | (go_at_call 19; refine (hf _).mono ?_; rintro e w1 ⟨rfl, b1⟩; have k1 := ((Kept.refl w).alloc _).call b1; clear b1)
    | (go_at_call 21; refine (hm _).mono ?_; rintro e w2 ⟨rfl, b2⟩; have k2 := (k1.alloc _).call b2; have hg2 := HG.out.below k2.1; have HG2 := Lib.hid hg2
       have hn2 := (b2.block w1.heap.size (by simp)).trans (push_new w1 _)
       have HN2 := Lib.hid hn2
       clear b2 hg2 hn2)
    | (go_at_call 20; refine (HW.out _ HG2.out).mono ?_; rintro e w3 ⟨rfl, b3⟩; have k3 := k2.call b3
       have hn3 := (b3.block _ (heap_lt HN2.out)).trans HN2.out
       have x0 := cell_of_heap hn3 0; have x1 := cell_of_heap hn3 1; have x2 := cell_of_heap hn3 2; have x3 := cell_of_heap hn3 3; have x4 := cell_of_heap hn3 4; have x5 := cell_of_heap hn3 5; have x6 := cell_of_heap hn3 6; have x7 := cell_of_heap hn3 7; have x8 := cell_of_heap hn3 8; simp only [List.getElem?_toArray, List.getElem?_cons_zero, List.getElem?_cons_succ] at x0 x1 x2 x3 x4 x5 x6 x7 x8
       clear b3 hn3)
    | fail)
  go_ret2
  exact ⟨rfl, k3.1⟩
end Go.Proofs.YtegjlcmeaelbnaaDoor
