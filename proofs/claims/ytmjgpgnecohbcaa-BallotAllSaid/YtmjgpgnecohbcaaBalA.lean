/- The walk of BallotAll. -/
import Derived.Test.YtmjgpgnecohbcaaBalL
import Derived.Test.YtmjgpgnecohbcaaOwnZ
namespace Go.Proofs.Ytmjgpgnecohbcaa
open Go.RowKit

/-- the sites below j -/
def ri (j : Nat) : List Int := (List.range j).map fun n : Nat => (n : Int)
theorem ri_len (j : Nat) : (ri j).length = j := by simp [ri]
theorem ri_succ (j : Nat) : ri (j + 1) = ri j ++ [(j : Int)] := by simp [ri, List.range_succ]
theorem ri_take {j k : Nat} (h : j ≤ k) : (ri k).take j = ri j := by unfold ri; rw [← List.map_take, List.take_range, Nat.min_eq_left h]
theorem ri_mem {j : Nat} {x : Int} (h : x ∈ ri j) : 0 ≤ x ∧ x < j := by
  obtain ⟨n, hn, rfl⟩ := List.mem_map.1 h
  have := List.mem_range.1 hn
  omega
theorem ri_nodup (j : Nat) : (ri j).Nodup := by
  unfold ri
  exact (List.nodup_range).map _ (fun a b h e => h (by omega))
theorem ri_uq {j k : Nat} (h : j ≤ k) : uq (k : Int) (ri j) = ri j := uq_self (ri_nodup j) (fun s hs => by have := ri_mem hs; exact decide_eq_true (by omega))
theorem major_of {k : Nat} (h : 1 ≤ k) : majorI (k : Int) = ((k / 2 + 1 : Nat) : Int) := by rw [majorI, if_neg (by omega)]; omega
theorem most_ri {j k : Nat} (h : j ≤ k) (hk : 1 ≤ k) : mostB (k : Int) (ri j) = decide (k / 2 + 1 ≤ j) := by
  unfold mostB
  rw [ri_uq h, ri_len, major_of hk]
  apply decide_eq_decide.2
  omega
theorem most_more {k : Nat} (hk : 1 ≤ k) (x : Int) : mostB (k : Int) (ri (k / 2 + 1) ++ [x]) = true := by
  have h := uq_more (k : Int) (ri (k / 2 + 1)) [x]
  rw [ri_uq (by omega), ri_len] at h
  unfold mostB
  rw [major_of hk]
  exact decide_eq_true (by omega)
theorem IntsAt.take {w : World} {A : Option Addr} {L : List Int} (h : IntsAt w A L) (k : Nat) : IntsAt w A (L.take k) :=
  ⟨fun s hs => h.1 s (List.mem_of_mem_take hs), fun i hi => by
    rw [List.length_take] at hi
    obtain ⟨b, off, e, hb, hc⟩ := h.2 i (by omega)
    exact ⟨b, off, e, hb, by rw [List.getElem_take]; exact hc⟩⟩
theorem OwnZ.ints {w : World} {base : Nat} {A : Option Addr} {n c : Nat} {L : List Int} (h : OwnZ w base (.slice A n c) L) (hb : ∀ s ∈ L, -9223372036854775808 ≤ s ∧ s ≤ 9223372036854775807) : IntsAt w A L := by
  obtain ⟨A', c', e, _, _, _, hc⟩ := h.slice
  injection e with e1 e2 e3
  subst e1 e2 e3
  refine ⟨hb, fun i hi => ?_⟩
  obtain ⟨g, rfl, hg, hcell⟩ := hc (by omega)
  exact ⟨g, 0, rfl, hg, by rw [Nat.zero_add]; exact hcell i hi⟩
/-- 'l[:k]' of ints -/
theorem run_headZ (ki : IntKind) (A : Option Addr) (n cap k : Nat) (hk : (k : Int) ≤ (cap : Int)) (w : World) :
    (Instr.sliceAt 29 (.slice A n cap) Option.none (some (.int ki (k : Int))) Option.none).run Try.prog w = .ok (.slice A k cap) w := by
  rw [run_sliceAt_slice w 29 _ _ _ _ (by kernel_rfl), run_slice_h w 29 A n cap (by kernel_rfl) ki (k : Int) (by omega) hk]
  have hz : (sizeOf (Try.prog.elem 29)).run Try.prog w = .ok 1 w := by kernel_rfl
  rw [hz]
  have e : ((k : Int)).toNat = k := by omega
  simp only [Result.andThen, sliced, e]
  cases A with
  | none => simp
  | some a => simp [Addr.add]

set_option maxRecDepth 100000 in
set_option maxHeartbeats 2000000 in
theorem BallotAll_walk (a0 : Int) (a1 : Int) (w : World) (w0 : (Lit.int .u8 a0).wf = true) (w1 : (Lit.int .i64 a1).wf = true) :
    Calls Try.prog 8 #[.int .u8 a0, .int .i64 a1] w fun e w' => e = .returned (.bool true) ∧ Below w.heap.size w w' := by
  have b0 : 0 ≤ a0 ∧ a0 ≤ 255 := by simp [Lit.wf, IntKind.min, IntKind.max, IntKind.signed, IntKind.bits] at w0; omega
  have B1 := Lib.hid (in64 w1)
  obtain ⟨m, hm, lm⟩ : ∃ m : Nat, a0 % 100 = m ∧ m < 100 := ⟨(a0 % 100).toNat, by omega, by omega⟩
  obtain ⟨b00, b01⟩ := b0
  clear w0 w1
  go_enter Try.func8, Try.ntmps8
  go_wp2_with fail
  refine (awake8_any _).mono ?_
  rintro e u1 ⟨rfl, b1⟩
  have k1 := (Kept.refl w).call b1
  go_wp2_with fail
  obtain ⟨K, hK, hK1, hK2⟩ : ∃ K : Nat, (1 : Int) + (m : Int) = K ∧ 1 ≤ K ∧ K ≤ 100 := ⟨m + 1, by omega, by omega, by omega⟩
  rw [hK]
  clear hm hK lm
  generalize a0 % 100 = z at *
  go_loopw [7, 8] (fun v i wr => ∃ j : Nat, j ≤ K ∧ i = .int .i64 j ∧ Kept w wr ∧ OwnZ wr w.heap.size v (ri j)) (fun _ i _ => K - (intOf i).toNat)
  case atStart => exact ⟨0, Nat.zero_le _, rfl, k1, OwnZ.nil _ _⟩
  case round =>
    obtain ⟨j, hj, rfl, kk, own⟩ := hrel
    have HKK := Lib.hid kk
    have HO := Lib.hid own
    clear kk
    by_cases hlt : j < K
    · clear own
      go_wp2_with (first
        | (at_builtin
           refine wpList_append_ints rfl (.tmp 21) (.tmp 23) rfl (v := u7) (base := w.heap.size) (ds := ri j) (xs := [(j : Int)]) (off := 0) (n := 1) (c := 1) rfl rfl (World.ownsRow.alloc HO.out _) rfl (fun i hi => ?_) (by rw [ri_len]; omega) (HKK.out.alloc _).2 ?_
           · obtain rfl : i = 0 := by simpa using hi
             rw [World.cell?_alloc_at _ _ _ _ rfl]
             rfl
           intro y4 v4 own4 gr4 at4
           have k4 : Kept w v4 := (HKK.out.alloc _).grow (World.ownsRow.alloc HO.out _) (Nat.le_refl _) gr4)
        | fail)
      go_roundw
      case rel => exact ⟨j + 1, by omega, by go_num, k4, by rw [ri_succ]; exact own4⟩
      case measure => simp [intOf]; omega
    · obtain rfl : j = K := by omega
      obtain ⟨A, c, rfl, hc1, hc2, -, -⟩ := own.slice
      rw [ri_len] at hc1
      have HINT : Hid (∀ W, Kept wr W → IntsAt W A (ri j)) := Lib.hid (fun W k => (HO.out.ints (fun s hs => by have := ri_mem hs; omega)).kept k)
      clear own
      rw [ri_len] at *
      obtain ⟨H, hH⟩ : ∃ H : Nat, (j : Int) / 2 = H ∧ j / 2 = H := ⟨j / 2, by omega, rfl⟩
      have hs1 := fun W => run_headZ .i64 A j c H (by omega) W
      have hs2 := fun W => run_headZ .i64 A j c (H + 1) (by omega) W
      have M1 := Lib.hid (most_ri (Nat.le_refl j) hK1)
      have M2 := Lib.hid (most_ri (show H + 1 ≤ j by omega) hK1)
      have M3 := Lib.hid (most_ri (show H ≤ j by omega) hK1)
      have M4 := Lib.hid (most_more hK1 a1)
      have MJ := Lib.hid (major_of hK1)
      have T2 := Lib.hid (ri_take (show H + 1 ≤ j by omega))
      have T3 := Lib.hid (ri_take (show H ≤ j by omega))
      rw [hH.2, decide_eq_true (by omega)] at M1
      rw [hH.2, decide_eq_true (by omega)] at M2
      rw [hH.2, decide_eq_false (by omega)] at M3
      rw [hH.2] at M4 MJ
      have HLEN1 := Lib.hid (ri_len (H + 1))
      have HMJ := Lib.hid (major_any (j : Int) (by omega))
      rw [MJ.out] at HMJ
      have HRI : Hid (∀ s ∈ ri (H + 1), -9223372036854775808 ≤ s ∧ s ≤ 9223372036854775807) := Lib.hid (fun s hs => by have := ri_mem hs; omega)
      have HJ1 : (j : Int) ≤ 9223372036854775807 := by omega
      go_wp2_with fail
      refine (most_any (ri_len j) (HINT.out _ (Kept.refl _)) (by omega) HJ1).mono ?_
      rintro e v1 ⟨rfl, d1⟩
      rw [M1.out]
      have q1 := (Kept.refl wr).call d1
      go_wp2_with fail
      refine (most_any HLEN1.out (by rw [← T2.out]; exact (HINT.out _ q1).take _) (by omega) HJ1).mono ?_
      rintro e v2 ⟨rfl, d2⟩
      rw [M2.out]
      have q2 := q1.call d2
      go_wp2_with fail
      refine (most_any (ri_len H) (by rw [← T3.out]; exact (HINT.out _ q2).take _) (by omega) HJ1).mono ?_
      rintro e v3 ⟨rfl, d3⟩
      rw [M3.out]
      have q3 := Lib.hid (q2.call d3)
      clear d1 d2 d3 q1 q2 hs1 hs2
      have q3w : Kept w v3 := HKK.out.trans q3.out
      have own0 : OwnZ (v3.alloc (.cells #[] 3)) w.heap.size (.slice (some ⟨v3.heap.size, 0, none⟩) 0 0) [] := ⟨rfl, .inr ⟨v3.heap.size, 0, #[], rfl, q3w.2, push_new v3 _, Nat.le_refl _, by decide, rfl, rfl⟩⟩
      have hI := (HINT.out _ (q3.out.alloc (.cells #[] 3))).take (H + 1)
      rw [T2.out] at hI
      obtain ⟨g, off, rfl, hgl, hgc⟩ : ∃ g off, A = some ⟨g, off, none⟩ ∧ True ∧ ∀ i (h : i < (ri (H + 1)).length), (v3.alloc (.cells #[] 3)).cell? ⟨g, off + i, none⟩ = some (.int .i64 (ri (H + 1))[i]) := by
        obtain ⟨b, off, e, _, _⟩ := hI.2 0 (by rw [HLEN1.out]; omega)
        refine ⟨b, off, e, trivial, fun i hi => ?_⟩
        obtain ⟨b', off', e', _, hc⟩ := hI.2 i hi
        rw [e] at e'
        injection e' with e'
        injection e' with e1 e2
        subst e1 e2
        exact hc
      obtain ⟨y5, v5, run5, own5, gr5, at5⟩ := run_append_ints (c := c) 29 own0 HLEN1.out hgc (by simp; omega) (q3w.alloc _).2
      rw [List.nil_append] at own5
      have k5 : Kept w v5 := (q3w.alloc _).grow own0 (Nat.le_refl _) gr5
      obtain ⟨y6, v6, run6, own6, gr6, at6⟩ := run_append_ints (off := 0) (n := 1) (xs := [a1]) (c := 1) 29 (World.ownsRow.alloc own5 (.cells #[.int .i64 a1] 3)) rfl (g := v5.heap.size) (fun i hi => by
        obtain rfl : i = 0 := by simpa using hi
        rw [World.cell?_alloc_at _ _ _ _ rfl]
        rfl) (by rw [HLEN1.out]; simp; omega) (k5.alloc _).2
      have k6 : Kept w v6 := (k5.alloc _).grow (World.ownsRow.alloc own5 _) (Nat.le_refl _) gr6
      have hlen6 : (ri (H + 1) ++ [a1]).length = H + 1 + 1 := by rw [List.length_append, HLEN1.out]; rfl
      have HLEN6 := Lib.hid hlen6
      have HB6 : Hid (∀ s ∈ ri (H + 1) ++ [a1], -9223372036854775808 ≤ s ∧ s ≤ 9223372036854775807) := Lib.hid (fun s hs => by
        rcases List.mem_append.1 hs with h | h
        · exact HRI.out s h
        · obtain rfl := List.mem_singleton.1 h
          exact B1.out)
      obtain ⟨A6, c6, rfl, -⟩ := own6.slice
      have HI6 := Lib.hid (own6.ints HB6.out)
      rw [hlen6] at run6
      have K6 := Lib.hid k6
      clear own0 hI hgl hgc own5 gr5 at5 own6 gr6 at6 k5 k6 hlen6 q3w
      go_wp2_with (first
        | (at_builtin; refine wpList_append_known (.tmp 52) (.tmp 53) rfl run5 rfl rfl (by kernel_rfl) ?_)
        | (at_builtin; refine wpList_append_known (.tmp 54) (.tmp 56) rfl run6 rfl rfl (by kernel_rfl) ?_)
        | fail)
      refine (most_any HLEN6.out HI6.out (by omega) HJ1).mono ?_
      rintro e v7 ⟨rfl, d7⟩
      rw [M4.out]
      have k7 := Lib.hid (K6.out.call d7)
      clear d7 run5 run6
      go_wp2_with fail
      refine (HMJ.out _).mono ?_
      rintro e u ⟨rfl, rfl⟩
      go_wp2
      go_ret
      exact ⟨by go_simp, k7.out.1⟩
end Go.Proofs.Ytmjgpgnecohbcaa
