/- Code and At of the errors that package cmd tells; awake of the laws on cmd: true, in every world that holds what the laid variable holds. -/
import Derived.Test.YtegjlcmeaelbnaaDoorCmdG
import Derived.Lib.SlBytesConst
namespace Go.Proofs.YtegjlcmeaelbnaaDoor
open Go.RowKit

theorem code_cfault (c p : Int) (w : World) (hg : Laid w) : Calls Tryd.prog 16 #[cfault (fault c p)] w fun e w' => e = .returned (.int .i64 c) ∧ Below w.heap.size w w' :=
  code_hit _ _ c w hg (fun b => fun a w _ h1 h2 => asE_CF c p a b _ w h1 h2)
theorem at_cfault (c p : Int) (w : World) (hg : Laid w) : Calls Tryd.prog 18 #[cfault (fault c p)] w fun e w' => e = .returned (.int .i64 p) ∧ Below w.heap.size w w' :=
  at_hit _ _ c p w hg (fun b => fun a w _ h1 h2 => asF_CF c p a b _ _ w h1 h2)

theorem enc_deposit : encN 0 [9, 1, 1, 0, 0, 0, 0, 5, 0] = [9, 1, 2, 0, 0, 0, 0, 10, 0] := by
  have e0 : enc 0 9 = [9] := put_small (by decide)
  have e1 : enc 1 1 = [1] := put_small (by decide)
  have e2 : enc 2 1 = [2] := put_small (by decide)
  have e3 : ∀ i, 1 < i → enc i 0 = [0] := fun i h => (if_pos h).trans (put_small (by decide))
  have e7 : enc 7 5 = [10] := put_small (by decide)
  simp only [encN, e0, e1, e2, e7, e3 3 (by decide), e3 4 (by decide), e3 5 (by decide), e3 6 (by decide), e3 8 (by decide)]
  rfl
theorem ok_deposit : Ok [9, 1, 1, 0, 0, 0, 0, 5, 0] := by decide
theorem not_ok_zeros : ¬ Ok zeros := by decide
theorem dec_nine : dec [9] = (zeros, 3, some 1) := by decide
theorem txt_deposit : txt [9, 1, 2, 0, 0, 0, 0, 10, 0] = ⟨#[9, 1, 2, 0, 0, 0, 0, 10, 0]⟩ := rfl

set_option maxRecDepth 100000 in
set_option maxHeartbeats 4000000 in
theorem awake_any (w : World) (hg : Laid w) : Calls Tryd.prog 9 #[] w fun e w' => e = .returned (.bool true) ∧ Below w.heap.size w w' := by
  have hE : ∀ w, Laid w → Calls Tryd.prog 10 #[.agg #[.int .i64 9, .int .i64 1, .int .i64 1, .int .i64 0, .int .i64 0, .int .i64 0, .int .i64 0, .int .i64 5, .int .i64 0]] w fun e w' => ∃ v, e = .returned (.tuple #[v, .nilIface]) ∧ Own w' w.heap.size v [9, 1, 2, 0, 0, 0, 0, 10, 0] ∧ Below w.heap.size w w' := fun w hg => by
    have := encode_ok [9, 1, 1, 0, 0, 0, 0, 5, 0] rfl ok_deposit w hg
    rw [enc_deposit] at this
    exact this
  have hD : ∀ A n cap w, Row w A n cap [9, 1, 2, 0, 0, 0, 0, 10, 0] → Laid w → Calls Tryd.prog 12 #[.slice A n cap] w fun e w' => e = .returned (.tuple #[.agg #[.int .i64 9, .int .i64 1, .int .i64 1, .int .i64 0, .int .i64 0, .int .i64 0, .int .i64 0, .int .i64 5, .int .i64 0], .nilIface]) ∧ Below w.heap.size w w' := fun A n cap w hr hg => by
    have := decode_any A n cap _ w hr hg
    rw [← enc_deposit, dec_enc rfl ok_deposit] at this
    exact this
  have hS : ∀ A n cap w, Row w A n cap [9] → Laid w → Calls Tryd.prog 12 #[.slice A n cap] w fun e w' => e = .returned (.tuple #[.agg #[.int .i64 0, .int .i64 0, .int .i64 0, .int .i64 0, .int .i64 0, .int .i64 0, .int .i64 0, .int .i64 0, .int .i64 0], cfault (fault 3 1)]) ∧ Below w.heap.size w w' := fun A n cap w hr hg => by
    have := decode_any A n cap _ w hr hg
    rw [dec_nine] at this
    exact this
  have hM : ∀ w, Calls Tryd.prog 14 #[.agg #[.int .i64 0, .int .i64 0, .int .i64 0, .int .i64 0, .int .i64 0, .int .i64 0, .int .i64 0, .int .i64 0, .int .i64 0]] w fun e w' => e = .returned (.int .i64 1) ∧ Below w.heap.size w w' := fun w => by
    have := may_any zeros rfl w
    rw [if_neg not_ok_zeros] at this
    exact this
  have hcf : ∀ c p, cfault (fault c p) = .iface 78 (.agg #[.iface 75 (.agg #[.int .i64 c, .int .i64 p])]) := fun _ _ => rfl
  have hco := fun w hg => code_cfault 3 1 w hg
  have hat := fun w hg => at_cfault 3 1 w hg
  rw [hcf] at hS hco hat
  have HE := Lib.hid hE
  have HD := Lib.hid hD
  have HS := Lib.hid hS
  have HM := Lib.hid hM
  have HCO := Lib.hid hco
  have HAT := Lib.hid hat
  have HG := Lib.hid hg
  have hc0 := push_new w (.cells #[.int .i64 9, .int .i64 1, .int .i64 1, .int .i64 0, .int .i64 0, .int .i64 0, .int .i64 0, .int .i64 5, .int .i64 0] 23)
  have k0 : Kept w (w.alloc (.cells #[.int .i64 9, .int .i64 1, .int .i64 1, .int .i64 0, .int .i64 0, .int .i64 0, .int .i64 0, .int .i64 5, .int .i64 0] 23)) := (Kept.refl w).alloc _
  have HC0 := Lib.hid hc0
  have K0 := Lib.hid k0
  clear hE hD hS hM hcf hco hat hg hc0 k0
  go_enter Tryd.func9, Tryd.ntmps9
  go_wp2_with fail
  refine (HE.out _ (HG.out.below K0.out.1)).mono ?_
  rintro e w1 ⟨v, rfl, own, b1⟩
  obtain ⟨A, cap, rfl, hrow⟩ := own.row (by decide) (by decide)
  have hc1 := (b1.block w.heap.size (by simp)).trans HC0.out
  have HC1 := Lib.hid hc1
  have K1 := Lib.hid (K0.out.call b1)
  have HROW := Lib.hid hrow
  clear own b1 hc1 hrow
  go_wp2_with fail
  refine (HD.out _ _ _ _ HROW.out (HG.out.below K1.out.1)).mono ?_
  rintro e w2 ⟨rfl, b2⟩
  have hd2 := push_new w2 (.cells #[.int .i64 9, .int .i64 1, .int .i64 1, .int .i64 0, .int .i64 0, .int .i64 0, .int .i64 0, .int .i64 5, .int .i64 0] 23)
  have bb : Below w1.heap.size w1 (w2.alloc (.cells #[.int .i64 9, .int .i64 1, .int .i64 1, .int .i64 0, .int .i64 0, .int .i64 0, .int .i64 0, .int .i64 5, .int .i64 0] 23)) := b2.alloc b2.size _
  have hc2 := (bb.block w.heap.size (heap_lt HC1.out)).trans HC1.out
  have HC2 := Lib.hid hc2
  have HD2 := Lib.hid hd2
  have K2 := Lib.hid (K1.out.call bb)
  have HROW2 := Lib.hid (HROW.out.below bb)
  clear bb b2 hc2 hd2
  go_wp2_with fail
  have k3 := K2.out.alloc (.cells #[.int .u8 9] 5)
  have row : Row ((w2.alloc (.cells #[.int .i64 9, .int .i64 1, .int .i64 1, .int .i64 0, .int .i64 0, .int .i64 0, .int .i64 0, .int .i64 5, .int .i64 0] 23)).alloc (.cells #[.int .u8 9] 5)) (some ⟨w2.heap.size + 1, 0, none⟩) 1 1 [9] := by
    have hb := bts_new (w2.alloc (.cells #[.int .i64 9, .int .i64 1, .int .i64 1, .int .i64 0, .int .i64 0, .int .i64 0, .int .i64 0, .int .i64 5, .int .i64 0] 23)) 5 (0, 0) [9] (by decide) (by decide)
    refine ⟨?_, fun h => (by cases h), by decide, by decide⟩
    rw [← World.size_alloc w2 (.cells #[.int .i64 9, .int .i64 1, .int .i64 1, .int .i64 0, .int .i64 0, .int .i64 0, .int .i64 0, .int .i64 5, .int .i64 0] 23)]
    exact hb
  refine (HS.out _ _ _ _ row (HG.out.below k3.1)).mono ?_
  rintro e w4 ⟨rfl, b4⟩
  have bb : Below (w2.alloc (.cells #[.int .i64 9, .int .i64 1, .int .i64 1, .int .i64 0, .int .i64 0, .int .i64 0, .int .i64 0, .int .i64 5, .int .i64 0] 23)).heap.size (w2.alloc (.cells #[.int .i64 9, .int .i64 1, .int .i64 1, .int .i64 0, .int .i64 0, .int .i64 0, .int .i64 0, .int .i64 5, .int .i64 0] 23)) w4 := ((Below.refl _ _).alloc (Nat.le_refl _) _).trans (b4.mono (by simp))
  have bb2 := bb.alloc bb.size (.cells #[.int .i64 0, .int .i64 0, .int .i64 0, .int .i64 0, .int .i64 0, .int .i64 0, .int .i64 0, .int .i64 0, .int .i64 0] 23)
  have K4 := Lib.hid (K2.out.call bb2)
  have hc4 := (bb2.block w.heap.size (heap_lt HC2.out)).trans HC2.out
  have hd4 := (bb2.block w2.heap.size (heap_lt HD2.out)).trans HD2.out
  have HROW4 := Lib.hid (HROW2.out.below bb2)
  have hkt := run_text (n := 9) (c := cap) HROW4.out.bts (fun h => by have := HROW4.out.nil h; have := HROW4.out.room; simp at this; omega)
  rw [txt_deposit] at hkt
  have c0 := cell_of_heap hc4 0; have c1 := cell_of_heap hc4 1; have c2 := cell_of_heap hc4 2; have c3 := cell_of_heap hc4 3; have c4 := cell_of_heap hc4 4; have c5 := cell_of_heap hc4 5; have c6 := cell_of_heap hc4 6; have c7 := cell_of_heap hc4 7; have c8 := cell_of_heap hc4 8; simp only [List.getElem?_toArray, List.getElem?_cons_zero, List.getElem?_cons_succ] at c0 c1 c2 c3 c4 c5 c6 c7 c8
  have d0 := cell_of_heap hd4 0; have d1 := cell_of_heap hd4 1; have d2 := cell_of_heap hd4 2; have d3 := cell_of_heap hd4 3; have d4 := cell_of_heap hd4 4; have d5 := cell_of_heap hd4 5; have d6 := cell_of_heap hd4 6; have d7 := cell_of_heap hd4 7; have d8 := cell_of_heap hd4 8; simp only [List.getElem?_toArray, List.getElem?_cons_zero, List.getElem?_cons_succ] at d0 d1 d2 d3 d4 d5 d6 d7 d8
  have hgW := Lib.hid (HG.out.below K4.out.1)
  clear bb bb2 b4 row k3 hc4 hd4
  go_wp2_with (first
    | (go_at_call 16; refine (HCO.out _ hgW.out).mono ?_; rintro e w5 ⟨rfl, b5⟩; have K5 := Lib.hid (K4.out.call b5); have hg5 := Lib.hid (HG.out.below K5.out.1); clear b5)
    | (go_at_call 18; refine (HAT.out _ hg5.out).mono ?_; rintro e w6 ⟨rfl, b6⟩; have K6 := Lib.hid (K5.out.call b6); clear b6)
    | (go_at_call 14; refine (HM.out _).mono ?_; rintro e w7 ⟨rfl, b7⟩; have K7 := Lib.hid (K6.out.call b7); clear b7)
    | fail)
  go_ret
  exact ⟨rfl, K7.out.1⟩
end Go.Proofs.YtegjlcmeaelbnaaDoor
