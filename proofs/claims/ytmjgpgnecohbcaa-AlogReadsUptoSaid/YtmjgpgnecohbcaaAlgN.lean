/- Slots: Go's library. -/
import Derived.Shelf.SlIterI.Nil
import Derived.Shelf.SlIterI.Sorted
import Derived.Shelf.SortM.Plain
import Derived.Shelf.SortM.SortNone
import Derived.Ground.GgzProg
import Derived.Ground.SlgmProg
import Derived.Maps.OwnSet
import Derived.Maps.AppendAt
import Derived.WalkKit
import Derived.Test.YtmjgpgnecohbcaaAlgJ
namespace Go.Proofs.Ytmjgpgnecohbcaa
open Go.RowKit Go.Maps Go.Sort Go.Shelf

shelf_lay_g SlLaysZI.n7 Ggz 7 at Try 48 as keysN
shelf_lay_g SlLaysZI.n6 Ggz 6 at Try 47 as sortedN
shelf_lay_g SlLaysM.n5 Slgm 5 at Try 69 as sortN
theorem sortsN (m : Nat) : AnyZI.SortsIn Try.prog sortedN_ren Fence.wide m :=
  ⟨fun blk off cap ss W hH hblk hsz => callsIn_wide.2 (AnyM.slices_Sort_int sortN blk off cap ss W hH hblk hsz),
   fun p cap W => callsIn_wide.2 (AnyM.slices_Sort_int_none sortN p cap W)⟩

/-- the set of the slots of the first k records -/
def SD (l : List Rc) (k : Nat) : DataW Unit := (l.take k).foldl (fun D r => D.put (.int .i64 r.slot) (.agg [])) (.map [])
theorem SD_zero (l : List Rc) : SD l 0 = .map [] := rfl
theorem SD_succ (l : List Rc) (k : Nat) (hk : k < l.length) : SD l (k + 1) = (SD l k).put (.int .i64 l[k].slot) (.agg []) := by
  unfold SD
  rw [List.take_succ_eq_append_getElem hk, List.foldl_append]
  rfl
theorem SD_tidy (l : List Rc) (k : Nat) (hk : k ≤ l.length) : Maps.Tidy (SD l k) := by
  induction k with
  | zero => exact Maps.tidy_empty
  | succ k ih => rw [SD_succ l k (by omega)]; exact (ih (by omega)).put (by first | trivial | decide | rfl | simp [WideAt.IsKeyLit]) _
theorem SD_size (l : List Rc) (r : Rc) : Maps.size (SD l l.length) ≤ Maps.size (SD (l ++ [r]) (l.length + 1)) := by
  have e : SD (l ++ [r]) l.length = SD l l.length := by unfold SD; rw [List.take_append_of_le_length (Nat.le_refl _)]
  rw [SD_succ (l ++ [r]) l.length (by simp), e, Maps.size_put (SD_tidy l _ (Nat.le_refl _))]
  split <;> omega
theorem slot_wf {r : Rc} (h : r.wf) : (Lit.int .i64 r.slot).wf = true := by
  have := h.2.1
  simp [Lit.wf, IntKind.min, IntKind.max, IntKind.signed, IntKind.bits]
  omega
theorem keyedN : Keyed Try.prog 3 := int_keyed Try.underlying3

set_option maxRecDepth 100000 in
set_option maxHeartbeats 4000000 in
theorem slots_any {w : World} {A : Option Addr} {n cap : Nat} {l : List Rc} (hl : l.length = n) (hR : Rcs w A l) (hn : n ≤ 1099511627776) :
    Calls Try.prog 31 #[.slice A n cap] w fun e w' => Below w.heap.size w w' ∧ ∃ (v : Value) (ss : List Int), e = .returned v ∧ ss.Perm (intKeys (SD l n)) ∧
      w'.ownsRow w.heap.size 3 1 v ss.length ((ss.mergeSort (fun x y => decide (x ≤ y))).map encZ) ∧ (v = .slice none 0 0 ↔ ss = []) := by
  have hmm := @run_makeMap Try.prog
  have HR := Lib.hid hR
  have HL := Lib.hid hl
  clear hR hl
  go_enter Try.func31, Try.ntmps31
  go_wp2
  go_loopw [9] (fun i wr => ∃ k : Nat, k ≤ n ∧ i = .int .i64 k ∧ Kept w wr ∧ wr.ownsMap Try.prog 3 unitElem w.heap.size k (SD l k)) (fun i _ => n - (intOf i).toNat)
  case atStart => exact ⟨0, Nat.zero_le _, rfl, (Kept.refl _).alloc _, by rw [SD_zero]; exact World.ownsMap_made _ _ _ _⟩
  case round =>
    obtain ⟨k, hk, rfl, kk, hown⟩ := hrel
    have HOWN := Lib.hid hown
    have HKK := Lib.hid kk
    clear hown
    by_cases hlt : k < n
    · have hkl : k < l.length := by rw [HL.out]; exact hlt
      obtain ⟨b, off, rfl, hb, hat⟩ := HR.out.2 k hkl
      have hwf := HR.out.1 l[k] (List.getElem_mem hkl)
      have hss := SD_succ l k hkl
      generalize hrr : l[k] = r at *
      have HSS := Lib.hid hss
      have hkey : keyOf Try.prog 3 (.int .i64 r.slot) = some (.int .i64 r.slot) := keyOf_int_mk Try.underlying3 (slot_wf hwf)
      obtain ⟨c0, c1, c2, c3, A2, cc, c4, hrow⟩ := hat.kept kk
      clear hat hrr hss kk hrow hwf
      have hbw : b < wr.heap.size := Nat.lt_of_lt_of_le hb HKK.out.2
      go_wp2_with (first
        | (at_mapUpdate; refine wpList_mapUpdate_own _ rfl _ _ _ 65 rfl 3 66 keyedN Try.underlying65 (unitElem (H := Unit)) w.heap.size k _ rfl (HOWN.out.alloc _) (by unfold maxLen; omega) _ _ _ rfl rfl hkey _ [] unitElem_mk ?_; intro w1 hown1 hgrow1)
        | fail)
      have hks := HKK.out.2
      have hgs := hgrow1.size
      simp only [World.size_alloc] at hgs
      have kk1 : Kept w w1 := ⟨(HKK.out.alloc _).1.grown hgrow1 (by simp only [World.size_alloc]; omega) (fun j hj => by cases hj; exact Nat.le_refl _), by omega⟩
      go_roundw
      case rel => exact ⟨k + 1, by omega, by go_num, kk1, by rw [HSS.out]; exact hown1⟩
      case measure => simp [intOf]; omega
    · obtain rfl : k = n := by omega
      have hbl := HOWN.out.lt
      have hsz := HOWN.out.size_le
      have hseq : SeqGives Fence.wide 2 Try.prog 70 #[.pointer (some ⟨wr.heap.size, 0, none⟩)] encZ (fun ss => ss.Perm (intKeys (SD l k))) (Maps.size (SD l k)) (wr.alloc (.cells #[.map (some w.heap.size)] 65)) :=
        AnyZI.keys_gives (ρ := keysN_ren) { keysN with } Fence.wide _ trivial rfl (by omega) wr.heap.size w.heap.size k (SD l k) _ (by simp) (by simp) (by
          obtain ⟨es, clock, hb, Ft, hs, hD⟩ := HOWN.out
          exact ⟨es, clock, (Below.heap_alloc _ _ w.heap.size hbl).trans hb, Ft, hs, hD⟩)
      have cK : CallsIn Fence.wide 5 Try.prog 48 #[.map (some w.heap.size)] wr fun e w' => e = .returned (.func (.func 70) #[] #[.pointer (some ⟨wr.heap.size, 0, none⟩)]) ∧ w' = wr.alloc (.cells #[.map (some w.heap.size)] 65) := AnyZI.keys_in keysN Fence.wide 5 trivial rfl _ wr
      have cS := AnyZI.sorted_in sortedN Fence.wide 5 trivial trivial trivial trivial rfl (by omega) (sortsN _) (enters_of Try.func69 (by kernel_rfl) rfl) 70 #[.pointer (some ⟨wr.heap.size, 0, none⟩)] trivial (enters_of Try.func70 (by kernel_rfl) rfl) _ _ (by unfold maxLen; omega) (by omega) _ hseq
      change CallsIn _ _ Try.prog 47 _ _ _ at cS
      go_wp2_with fail
      refine (callsIn_wide.1 cK).mono ?_
      rintro e w1 ⟨rfl, rfl⟩
      go_wp2_with fail
      refine (callsIn_wide.1 cS).mono ?_
      rintro e w2 ⟨v, ss, rfl, hS, hrow, hnil, hb2⟩
      have HW := Lib.hid (ownsRow_base_a hrow (show w.heap.size ≤ _ by simp only [World.size_alloc]; omega))
      have HB := Lib.hid ((HKK.out.1.alloc (by omega) _).trans (hb2.mono (by simp only [World.size_alloc]; omega)))
      have HN := Lib.hid hnil
      have HS := Lib.hid hS
      clear hrow hnil hb2 hS
      go_wp2
      go_ret
      exact ⟨HB.out, _, ss, rfl, HS.out, HW.out, HN.out⟩
end Go.Proofs.Ytmjgpgnecohbcaa
