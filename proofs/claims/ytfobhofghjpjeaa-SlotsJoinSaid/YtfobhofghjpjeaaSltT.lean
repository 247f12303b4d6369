/- Slots: the document's Own, Next, Same; the statements' awake. -/
import Derived.Test.YtfobhofghjpjeaaSltS
namespace Go.Proofs.Ytfobhofghjpjeaa
open Go.RowKit

set_option maxHeartbeats 2000000 in
theorem refown_any (s lo hi n : Int) (w : World) : Calls Try.prog 10 #[.int .i64 s, .int .i64 lo, .int .i64 hi, .int .i64 n] w fun e w' => ∃ v, e = .returned v ∧ OwnZ w' w.heap.size v (ownL s lo hi n) ∧ Below w.heap.size w w' := by
  have HO := Lib.hid (fun k : Int => refowner_any k n)
  go_enter Try.func10, Try.ntmps10
  go_wp2
  go_loopw [9, 10] (fun l i wr => ∃ k : Nat, k ≤ 4096 ∧ i = .int .i64 k ∧ OwnZ wr w.heap.size l (ownTo s lo hi n k) ∧ Kept w wr) (fun _ i _ => 4096 - (intOf i).toNat)
  case atStart => exact ⟨0, by omega, rfl, OwnZ.nil _ _, Kept.refl _⟩
  case round =>
    obtain ⟨k, hk, rfl, own, kk⟩ := hrel
    rename_i wr
    have HK := Lib.hid kk
    have HOWN := Lib.hid own
    have HS := Lib.hid (ownTo_succ s lo hi n k)
    have HL := Lib.hid (ownTo_len s lo hi n k)
    clear own kk
    by_cases hlt : k < 4096
    · by_cases h1 : lo ≤ (k : Int)
      · by_cases h2 : (k : Int) < hi
        · by_cases h3 : 0 ≤ s
          · have ho := Lib.hid (HO.out k)
            by_cases h4 : ownerI k n = s
            · have HE : Hid (ownTo s lo hi n (k + 1) = ownTo s lo hi n k ++ [(k : Int)]) := Lib.hid (by rw [HS.out, if_pos ⟨h1, h2, h3, h4⟩])
              rw [h4] at ho
              clear h4
              generalize ownTo s lo hi n k = L at *
              go_wp2_with fail
              refine (ho.out _).mono ?_
              rintro e u ⟨rfl, rfl⟩
              go_wp2_with (first
                | (at_builtin
                   refine wpList_append_ints rfl (.tmp 34) (.tmp 36) rfl (base := w.heap.size) (ds := L) (xs := [(k : Int)]) (off := 0) (n := 1) (c := 1) rfl rfl (World.ownsRow.alloc HOWN.out _) rfl (fun i hi => ?_) (by have := HL.out; omega) (HK.out.alloc _).2 ?_
                   · obtain rfl : i = 0 := by simpa using hi
                     rw [World.cell?_alloc_at _ _ _ _ rfl]
                     rfl
                   intro y5 v5 own5 gr5 at5
                   have HK5 := Lib.hid (show Kept w v5 from ⟨(HK.out.alloc _).1.grown gr5 (HK.out.alloc _).2 (fun j h => (World.ownsRow.lt HOWN.out j h).1), Nat.le_trans (HK.out.alloc _).2 gr5.size⟩)
                   have HO5 := Lib.hid own5
                   clear own5 gr5 at5)
                | fail)
              go_roundw
              case rel => exact ⟨k + 1, by omega, by go_num, by rw [HE.out]; exact HO5.out, HK5.out⟩
              case measure => simp [intOf]; omega
            · have HE : Hid (ownTo s lo hi n (k + 1) = ownTo s lo hi n k) := Lib.hid (by rw [HS.out, if_neg (by omega), List.append_nil])
              generalize ownerI k n = o at *
              have hb : (o == s) = false := by simpa using h4
              generalize ownTo s lo hi n k = L at *
              go_wp2_with fail
              refine (ho.out _).mono ?_
              rintro e u ⟨rfl, rfl⟩
              go_wp2
              go_roundw
              case rel => exact ⟨k + 1, by omega, by go_num, by rw [HE.out]; exact HOWN.out, HK.out⟩
              case measure => simp [intOf]; omega
          · have HE : Hid (ownTo s lo hi n (k + 1) = ownTo s lo hi n k) := Lib.hid (by rw [HS.out, if_neg (by omega), List.append_nil])
            generalize ownTo s lo hi n k = L at *
            go_wp2
            go_roundw
            case rel => exact ⟨k + 1, by omega, by go_num, by rw [HE.out]; exact HOWN.out, HK.out⟩
            case measure => simp [intOf]; omega
        · have HE : Hid (ownTo s lo hi n (k + 1) = ownTo s lo hi n k) := Lib.hid (by rw [HS.out, if_neg (by omega), List.append_nil])
          generalize ownTo s lo hi n k = L at *
          go_wp2
          go_roundw
          case rel => exact ⟨k + 1, by omega, by go_num, by rw [HE.out]; exact HOWN.out, HK.out⟩
          case measure => simp [intOf]; omega
      · have HE : Hid (ownTo s lo hi n (k + 1) = ownTo s lo hi n k) := Lib.hid (by rw [HS.out, if_neg (by omega), List.append_nil])
        generalize ownTo s lo hi n k = L at *
        go_wp2
        go_roundw
        case rel => exact ⟨k + 1, by omega, by go_num, by rw [HE.out]; exact HOWN.out, HK.out⟩
        case measure => simp [intOf]; omega
    · obtain rfl : k = 4096 := by omega
      go_wp2
      go_ret
      exact ⟨_, rfl, HOWN.out, HK.out.1⟩
theorem refnext_any (s lo n : Int) (w : World) : Calls Try.prog 14 #[.int .i64 s, .int .i64 lo, .int .i64 n] w fun e w' => e = .returned (.int .i64 (nextI s lo n)) ∧ Below w.heap.size w w' := by
  have HO := Lib.hid (refown_any s lo 4096 n)
  have HL := Lib.hid (ownL_len s lo 4096 n)
  have HN : Hid (nextI s lo n = (ownL s lo 4096 n).headD (-1)) := Lib.hid rfl
  generalize ownL s lo 4096 n = L at *
  go_enter Try.func14, Try.ntmps14
  go_wp2_with fail
  refine (HO.out _).mono ?_
  rintro e u ⟨v, rfl, own, hb⟩
  obtain ⟨A, c, rfl, -, -, -, hc⟩ := own.slice
  have HB := Lib.hid hb
  clear hb own
  cases L with
  | nil =>
    simp only [List.length_nil]
    go_wp2
    go_ret
    exact ⟨by rw [HN.out]; rfl, HB.out⟩
  | cons x M =>
    obtain ⟨g, rfl, hg, hcell⟩ := hc (by simp)
    have c0 := hcell 0 (by simp)
    simp only [List.getElem_cons_zero] at c0
    have hl : M.length + 1 ≤ 4096 := HL.out
    simp only [List.length_cons]
    have hp : 0 < M.length + 1 := by omega
    generalize M.length + 1 = m at *
    have hd : ((m : Int) == 0) = false := by simp; omega
    clear hcell hc
    go_wp2
    go_ret
    exact ⟨by rw [HN.out]; rfl, HB.out⟩
set_option maxHeartbeats 1000000 in
theorem same_true {w : World} {A B : Option Addr} {n ca cb : Nat} {L : List Int} (hA : Zs w A n L) (hB : Zs w B n L) (hn : n ≤ 1099511627776) :
    Calls Try.prog 15 #[.slice A n ca, .slice B n cb] w fun e w' => e = .returned (.bool true) ∧ Below w.heap.size w w' := by
  have HA := Lib.hid hA
  have HB := Lib.hid hB
  clear hA hB
  go_enter Try.func15, Try.ntmps15
  go_wp2
  go_loopw [5] (fun i wr => ∃ k : Nat, k ≤ n ∧ i = .int .i64 k ∧ Kept w wr) (fun i _ => n - (intOf i).toNat)
  case atStart => exact ⟨0, Nat.zero_le _, rfl, Kept.refl _⟩
  case round =>
    obtain ⟨k, hk, rfl, kk⟩ := hrel
    have HKK := Lib.hid kk
    by_cases hlt : k < n
    · obtain ⟨ga, oa, rfl, ga1, ha⟩ := HA.out.2 (by omega)
      obtain ⟨gb, ob, rfl, gb1, hb⟩ := HB.out.2 (by omega)
      have ca1 := (kk.cell (p := ⟨ga, oa + k, none⟩) ga1).trans (ha k (by rw [HA.out.1]; exact hlt))
      have cb1 := (kk.cell (p := ⟨gb, ob + k, none⟩) gb1).trans (hb k (by rw [HA.out.1]; exact hlt))
      clear ha hb kk
      generalize L[k]'_ = x at *
      have hxx : (x != x) = false := by simp
      go_wp2
      refine wp_region_quiet_lit (by kernel_rfl) (by kernel_rfl) ?_
      repeat (go_big_quiet_step (fail))
      refine wpQuiet_nil ?_
      intro W1 hw1
      have k1' : Kept w W1 := by obtain ⟨n1, rfl⟩ := hw1; exact kept_drewN HKK.out n1
      clear hw1
      go_wp2
      go_roundw
      case rel => exact ⟨k + 1, by omega, by go_num, k1'⟩
      case measure => simp [intOf]; omega
    · go_wp2
      go_ret
      exact ⟨rfl, HKK.out.1⟩

theorem next_awake : nextI 1 5 3 = 7 := next_is (by decide) (by decide) (by decide) (fun y h1 h2 => by
  rcases Int.lt_or_le y 7 with h | h
  · obtain rfl | rfl : y = 5 ∨ y = 6 := by omega
    all_goals (revert h2; decide)
  · exact h)
theorem own_awake : ownL 0 1 8 3 = [3, 6] := rise_one (ownL_rise _ _ _ _) (by decide) fun x => by
  rw [ownL_mem]
  constructor
  · rintro ⟨h1, h2, h3, h4⟩
    obtain rfl | rfl | rfl | rfl | rfl | rfl | rfl : x = 1 ∨ x = 2 ∨ x = 3 ∨ x = 4 ∨ x = 5 ∨ x = 6 ∨ x = 7 := by omega
    all_goals (revert h4; decide)
  · intro h
    obtain rfl | rfl : x = 3 ∨ x = 6 := by simpa using h
    all_goals decide
theorem awake_any (w : World) : Calls Try.prog 9 #[] w fun e w' => e = .returned (.bool true) ∧ Below w.heap.size w w' := by
  have h1 := Lib.hid (owner_any 7 3)
  have h2 := Lib.hid (next_any 1 5 3)
  have h3 := Lib.hid (count_any 0 1 8 3)
  rw [show ownerI 7 3 = 1 by decide] at h1
  rw [next_awake] at h2
  rw [own_awake] at h3
  go_enter Try.func9, Try.ntmps9
  go_wp2_with fail
  refine (h1.out _).mono ?_
  rintro e u ⟨rfl, rfl⟩
  go_wp2_with fail
  refine (h2.out _).mono ?_
  rintro e u1 ⟨rfl, b1⟩
  go_wp2_with fail
  refine (h3.out _).mono ?_
  rintro e u2 ⟨rfl, b2⟩
  have hb := (((Kept.refl _).call b1).call b2).1
  clear b1 b2
  go_wp2
  go_ret
  exact ⟨rfl, hb⟩
end Go.Proofs.Ytfobhofghjpjeaa
