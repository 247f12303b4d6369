/- AlogReads, of bulk at most 1048576 -/
import Derived.Test.YtmjgpgnecohbcaaAlgZh
import Derived.Test.YtmjgpgnecohbcaaMgG
import Derived.Test.YtmjgpgnecohbcaaAlgK
import Derived.Test.YtmjgpgnecohbcaaAlgG
import Derived.Test.YtmjgpgnecohbcaaMgH
namespace Go.Proofs.Ytmjgpgnecohbcaa
open Go.RowKit

theorem laidAll_count (l : List Rc) : l.length ≤ (laidAll l).length := by
  have := flat_len (l.map Rc.enc)
  simpa [laidAll] using this
/-- what Lay tells, in one form -/
theorem laid_told {l : List Rc} (hb : ∀ r ∈ l, r.byte) (hl : l.length ≤ 1000) : ∃ (bs : List Nat) (code : Int), ∀ (w' : World) (e : Ending) (B : Nat),
    (((∀ r ∈ l, r.may) ∧ ∃ v, e = .returned (.tuple #[v, .int .i64 0]) ∧ Own w' B v (laidAll l)) ∨ (¬ (∀ r ∈ l, r.may) ∧ e = .returned (.tuple #[.slice none 0 0, .int .i64 1]))) →
    ∃ A c, e = .returned (.tuple #[.slice A bs.length c, .int .i64 code]) ∧ Row w' A bs.length c bs := by
  by_cases hm : ∀ r ∈ l, r.may
  · refine ⟨laidAll l, 0, fun w' e B h => ?_⟩
    rcases h with ⟨-, v, rfl, own⟩ | ⟨h, -⟩
    · obtain ⟨A, c, rfl, hrow⟩ := own.row (by have := laidAll_len hm; omega) (laidAll_byte hb)
      exact ⟨A, c, rfl, hrow⟩
    · exact absurd hm h
  · refine ⟨[], 1, fun w' e B h => ?_⟩
    rcases h with ⟨h, -⟩ | ⟨-, rfl⟩
    · exact absurd h hm
    · exact ⟨none, 0, rfl, Row.none⟩
/-- a record in a block of its own, of whichever type -/
def HoldsT (T : TypeId) (W : World) (p : Nat) (r : Rc) (A : Option Addr) (c : Nat) : Prop := W.heap[p]? = some (.cells #[.int .i64 r.kind, .int .i64 r.slot, .int .i64 r.round, .int .i64 r.site, .slice A r.val.length c] T (0, 0))
theorem HoldsT.kept {T : TypeId} {W W' : World} {p : Nat} {r : Rc} {A : Option Addr} {c : Nat} (h : HoldsT T W p r A c) (k : Kept W W') : HoldsT T W' p r A c := (k.1.block p (heap_lt h)).trans h

set_option maxRecDepth 100000 in
set_option maxHeartbeats 4000000 in
theorem AlogReads_walk (a0 : List Value) (b0 : Nat) (w : World) (_ : Laid w) (w0 : (fun w cs => cs.length = 4 ∧ IsStruct [(0, 1, (IsSlice 5 56 (fun w cs => cs.length = 5 ∧ IsStruct [(0, 1, (IsInt .i64)), (1, 1, (IsInt .i64)), (2, 2, (fun w cs => cs.length = 2 ∧ IsStruct [(0, 1, (IsInt .i64)), (1, 1, (IsInt .i64))] w cs)), (4, 1, (IsSlice 1 1 (IsInt .u8)))] w cs))), (1, 1, (IsSlice 1 1 (IsInt .u8))), (2, 1, (IsInt .i64)), (3, 1, (IsInt .i64))] w cs : World → List Value → Prop) w a0) (u0 : SStruct [(0, 1, (SSlice 5 (SStruct [(0, 1, SOne), (1, 1, SOne), (2, 2, (SStruct [(0, 1, SOne), (1, 1, SOne)])), (4, 1, (SSlice 1 SOne))]))), (1, 1, (SSlice 1 SOne)), (2, 1, SOne), (3, 1, SOne)] w a0 b0) (hk : b0 ≤ 1048576) :
    Calls Try.prog 9 #[.agg a0.toArray] w fun e w' => e = .returned (.bool true) ∧ Below w.heap.size w w' := by
  obtain ⟨hl4, h0, h1, h2, h3, -⟩ := w0
  match a0, hl4 with
  | [v0, v1, v2, v3], _ =>
    obtain ⟨A, n, cap, e0, s0⟩ := h0
    obtain ⟨B, nb, cb, e1, s1⟩ := h1
    obtain ⟨kind, e2, f2⟩ := h2
    obtain ⟨slot, e3, f3⟩ := h3
    simp only [List.drop_zero, List.take_succ_cons, List.take_zero, List.drop_succ_cons, List.cons.injEq, and_true] at e0 e1 e2 e3
    subst e0 e1 e2 e3
    obtain ⟨l, hl, hR⟩ := rcs_of s0
    obtain ⟨bs, hb⟩ := bts_of s1
    have hnb : nb ≤ 1048576 := by
      obtain ⟨m0, r0, q0, -, m1, r1, q1, u1, -⟩ := u0
      have := bulk_len s1 u1
      omega
    have HB := Lib.hid (show Row w B nb cb bs from ⟨hb, s1.2.2.2.1, s1.1, s1.2.1⟩)
    have HR := Lib.hid hR
    have HL := Lib.hid hl
    have HBY := Lib.hid hb.2.2.1
    clear s0 s1 hR hl hb u0 f2 f3
    go_enter Try.func9, Try.ntmps9
    go_wp2_with fail
    refine (awake_any _).mono ?_
    rintro e u1 ⟨rfl, d1⟩
    have hx := (d1.block w.heap.size (by simp)).trans (push_new w _)
    have k1 : Kept w u1 := ((Kept.refl w).alloc _).call d1
    have x0 := cell_of_heap hx 0; have x1 := cell_of_heap hx 1; have x2 := cell_of_heap hx 2; have x3 := cell_of_heap hx 3
    simp only [List.getElem?_toArray, List.getElem?_cons_zero, List.getElem?_cons_succ] at x0 x1 x2 x3
    have K1 := Lib.hid k1
    clear hx k1 d1
    by_cases h60 : 60 < n
    · go_wp2
      go_ret
      exact ⟨rfl, K1.out.1⟩
    · have hn : n ≤ 60 := by omega
      clear h60
      obtain ⟨LB, code, hLB⟩ := laid_told HR.out.byte (show l.length ≤ 1000 by rw [HL.out]; omega)
      have HLB := Lib.hid hLB
      have HWF := Lib.hid HR.out.1
      clear hLB
      go_wp2_with fail
      refine (lay_any HL.out (HR.out.kept K1.out) (by omega)).mono ?_
      rintro e u2 ⟨d2, alt⟩
      obtain ⟨A2, c2, rfl, r2⟩ := HLB.out _ _ _ alt
      have K2 := Lib.hid (K1.out.call d2)
      have R2 := Lib.hid r2
      clear d2 alt r2 x0 x1 x2 x3
      have HTX := Lib.hid (fun (W : World) (A : Option Addr) (c : Nat) (h : Row W A LB.length c LB) => h.txt)
      generalize txt LB = X at *
      generalize LB.length = nl at *
      go_wp2_with fail
      refine (real_any HL.out (HR.out.kept K2.out) (by omega)).mono ?_
      rintro e u3 ⟨v3, its3, rfl, own3, hit3, d3⟩
      obtain ⟨A3, c3, rfl, -, -, -⟩ := own3.slice
      have rc3 := own3.rcs (fun x hx => HWF.out _ (by rw [← hit3]; exact List.mem_map_of_mem hx))
      have hn3 : its3.length = n := by rw [← HL.out, ← hit3, List.length_map]
      rw [hit3] at rc3
      rw [hn3]
      have RC3 := Lib.hid rc3
      have K3 := Lib.hid (K2.out.call d3)
      have R3 := Lib.hid (R2.out.below d3)
      clear own3 hit3 d3 rc3 hn3
      go_wp2_with fail
      refine (reflay_any HL.out RC3.out (by omega)).mono ?_
      rintro e u4 ⟨d4, alt⟩
      obtain ⟨A4, c4, rfl, r4⟩ := HLB.out _ _ _ alt
      have K4 := Lib.hid (K3.out.call d4)
      have R4 := Lib.hid r4
      have R24 := Lib.hid (R3.out.below d4)
      clear d4 alt r4
      go_wp2_with fail
      refine (aread_any (HB.out.below K4.out.1) (by omega)).mono ?_
      rintro e u5 ⟨v5, its5, n5, rfl, own5, rd5, d5⟩
      obtain ⟨A5, c5, rfl, -, -, -⟩ := own5.slice
      have hw5 := (reads_again HBY.out rd5)
      have rc5 := own5.rcs (fun x hx => Rc.wf_may (hw5.1 _ (List.mem_map_of_mem hx)).1)
      have hn5 := hw5.2.2.1
      have hn5b := hw5.2.2.2
      have K5 := Lib.hid (K4.out.call d5)
      have K45 := Lib.hid ((Kept.refl u4).call d5)
      have RD5 := Lib.hid rd5
      have RC5 := Lib.hid rc5
      have hcnt := laidAll_count (its5.map It.r)
      rw [List.length_map] at hcnt
      rw [HB.out.len] at hn5b
      have HLL5 : Hid ((its5.map It.r).length = its5.length) := Lib.hid (by simp)
      clear own5 hw5 rd5 rc5 d5
      have hl5 : its5.length ≤ 1048576 := by omega
      clear hcnt hn5
      generalize its5.map It.r = l5 at *
      generalize its5.length = m5 at *
      go_wp2_with fail
      refine (refread_any (HB.out.below K5.out.1) (by omega)).mono ?_
      rintro e u6 ⟨v6, its6, n6, rfl, own6, rd6, d6⟩
      obtain ⟨A6, c6, rfl, -, -, -⟩ := own6.slice
      obtain ⟨hl6, hn6⟩ := reads_one HBY.out RD5.out rd6
      have hw6 := (reads_again HBY.out rd6).1
      have rc6 := own6.rcs (fun x hx => Rc.wf_may (hw6 _ (List.mem_map_of_mem hx)).1)
      have hm6 : its6.length = m5 := by rw [← HLL5.out, hl6, List.length_map]
      rw [← hl6] at rc6
      subst hn6
      rw [hm6]
      have K6 := Lib.hid (K5.out.call d6)
      have K46 := Lib.hid (K45.out.call d6)
      have RC6 := Lib.hid rc6
      have RC56 := Lib.hid (RC5.out.kept ((Kept.refl u5).call d6))
      clear own6 rd6 d6 rc6 hw6 hl6 hm6
      go_wp2_with fail
      refine (last_said kind slot HL.out (HR.out.kept K6.out) (by omega)).mono ?_
      rintro e u7 ⟨d7, o, r, A7, c7, said7, rfl, r7⟩
      have K7 := Lib.hid (K6.out.call d7)
      have K67 := Lib.hid ((Kept.refl u6).call d7)
      have R7 := Lib.hid r7
      have HD7 : Hid (HoldsT 52 (u7.alloc (.cells #[.int .i64 r.kind, .int .i64 r.slot, .int .i64 r.round, .int .i64 r.site, .slice A7 r.val.length c7] 52)) u7.heap.size r A7 c7) := Lib.hid (push_new u7 _)
      have SAID7 := Lib.hid said7
      clear d7 r7 said7
      unfold rcv
      go_wp2_with fail
      have KA7 := Lib.hid (K7.out.alloc (.cells #[.int .i64 r.kind, .int .i64 r.slot, .int .i64 r.round, .int .i64 r.site, .slice A7 r.val.length c7] 52))
      refine (real_any HL.out (HR.out.kept KA7.out) (by omega)).mono ?_
      rintro e u8 ⟨v8, its8, rfl, own8, hit8, d8⟩
      obtain ⟨A8, c8, rfl, -, -, -⟩ := own8.slice
      have rc8 := own8.rcs (fun x hx => HWF.out _ (by rw [← hit8]; exact List.mem_map_of_mem hx))
      have hn8 : its8.length = n := by rw [← HL.out, ← hit8, List.length_map]
      rw [hit8] at rc8
      rw [hn8]
      have RC8 := Lib.hid rc8
      have K8 := Lib.hid (KA7.out.call d8)
      have K78 := Lib.hid (((Kept.refl u7).alloc (.cells #[.int .i64 r.kind, .int .i64 r.slot, .int .i64 r.round, .int .i64 r.site, .slice A7 r.val.length c7] 52)).call d8)
      have HD8 := Lib.hid (HD7.out.kept ((Kept.refl _).call d8))
      clear own8 hit8 d8 rc8 hn8
      go_wp2_with fail
      refine (reflast_any kind slot HL.out RC8.out (by omega)).mono ?_
      rintro e u9 ⟨d9, o', r', A9, c9, said9, rfl, r9⟩
      obtain ⟨rfl, rfl⟩ := SAID7.out.eq said9 rfl
      have K9 := Lib.hid (K8.out.call d9)
      have K89 := Lib.hid ((Kept.refl u8).call d9)
      have hp7 : u7.heap.size < u9.heap.size := Nat.lt_of_lt_of_le (heap_lt HD8.out) d9.size
      obtain ⟨W9, hW9⟩ : ∃ W9, W9 = u9.alloc (.cells #[.int .i64 r.kind, .int .i64 r.slot, .int .i64 r.round, .int .i64 r.site, .slice A9 r.val.length c9] 55) := ⟨_, rfl⟩
      have kw9 : Kept u9 W9 := by rw [hW9]; exact (Kept.refl u9).alloc _
      have KW9 := Lib.hid kw9
      have HQ9 : Hid (HoldsT 55 W9 u9.heap.size r A9 c9) := Lib.hid (by rw [hW9]; exact push_new u9 _)
      have R9 := Lib.hid (r9.below kw9.1)
      have HP9 := Lib.hid ((HD8.out.kept K89.out).kept kw9)
      have k49 := (((K46.out.trans K67.out).trans K78.out).trans K89.out).trans kw9
      have tx := HTX.out W9 A2 c2 (R24.out.below k49.1)
      have ty := HTX.out W9 A4 c4 (R4.out.below k49.1)
      have k69 := ((K67.out.trans K78.out).trans K89.out).trans kw9
      have HS5 := Lib.hid (RC56.out.kept k69)
      have HS6 := Lib.hid (RC6.out.kept k69)
      have R79 := Lib.hid (R7.out.below ((K78.out.trans K89.out).trans kw9).1)
      have KK9 := Lib.hid (K9.out.trans kw9)
      have HW9 := Lib.hid hW9.symm
      rw [hW9] at tx ty
      clear d9 r9 said9 kw9 k49 k69 hW9
      unfold rcv
      go_wp2_with fail
      rw [HW9.out]
      refine (same_any HLL5.out HS5.out HS6.out (by omega)).mono ?_
      rintro e u10 ⟨rfl, d10⟩
      have k10 := (Kept.refl W9).call d10
      obtain ⟨p0, p1, p2, p3, p4⟩ := five (HP9.out.kept k10)
      obtain ⟨q0, q1, q2, q3, q4⟩ := five (HQ9.out.kept k10)
      have R710 := Lib.hid (R79.out.below d10)
      have R910 := Lib.hid (R9.out.below d10)
      have K10 := Lib.hid (KK9.out.call d10)
      clear d10 k10 tx ty
      go_wp2_with fail
      refine (One_any (r := r) R710.out R910.out).mono ?_
      rintro e u11 ⟨rfl, d11⟩
      have K11 := Lib.hid (K10.out.call d11)
      clear d11 p0 p1 p2 p3 p4 q0 q1 q2 q3 q4
      go_wp2_with fail
      refine (slots_rising HL.out (HR.out.kept K11.out) (by omega)).mono ?_
      rintro e u12 ⟨v12, L12, rfl, own12, ris12, d12⟩
      have K12 := Lib.hid (K11.out.call d12)
      have O12 := Lib.hid own12
      have RIS12 := Lib.hid ris12
      clear own12 ris12 d12
      go_wp2_with fail
      refine (real_any HL.out (HR.out.kept K12.out) (by omega)).mono ?_
      rintro e u13 ⟨v13, its13, rfl, own13, hit13, d13⟩
      obtain ⟨A13, c13, rfl, -, -, -⟩ := own13.slice
      have rc13 := own13.rcs (fun x hx => HWF.out _ (by rw [← hit13]; exact List.mem_map_of_mem hx))
      have hn13 : its13.length = n := by rw [← HL.out, ← hit13, List.length_map]
      rw [hit13] at rc13
      rw [hn13]
      have RC13 := Lib.hid rc13
      have K13 := Lib.hid (K12.out.call d13)
      have O13 := Lib.hid (O12.out.below d13)
      clear own13 hit13 d13 rc13 hn13
      go_wp2_with fail
      refine (refslots_any HL.out RC13.out (by omega)).mono ?_
      rintro e u14 ⟨v14, L14, rfl, own14, ris14, hlen14, d14⟩
      obtain rfl := rising_one RIS12.out.1 ris14.1 (fun x => (RIS12.out.2 x).trans (ris14.2 x).symm)
      have K14 := Lib.hid (K13.out.call d14)
      have O14 := O13.out.below d14
      obtain ⟨Aa, ca, rfl, -, -, -, hca⟩ := O14.slice
      obtain ⟨Ab, cb', rfl, -, -, -, hcb⟩ := own14.slice
      have HCA : Hid (∀ j, j < L12.length → ∃ g, Aa = some ⟨g, 0, none⟩ ∧ u14.cell? ⟨g, j, none⟩ = some (.int .i64 (L12.getD j 0))) := Lib.hid (fun j hj => by
        obtain ⟨g, e, hg, hc⟩ := hca (by omega)
        refine ⟨g, e, ?_⟩
        rw [hc j hj, List.getD_eq_getElem?_getD, List.getElem?_eq_getElem hj]
        rfl)
      have HCB : Hid (∀ j, j < L12.length → ∃ g, Ab = some ⟨g, 0, none⟩ ∧ u14.cell? ⟨g, j, none⟩ = some (.int .i64 (L12.getD j 0))) := Lib.hid (fun j hj => by
        obtain ⟨g, e, hg, hc⟩ := hcb (by omega)
        refine ⟨g, e, ?_⟩
        rw [hc j hj, List.getD_eq_getElem?_getD, List.getElem?_eq_getElem hj]
        rfl)
      clear hca hcb own14 O14 ris14 d14
      obtain ⟨m, hm⟩ : ∃ m, L12.length = m := ⟨_, rfl⟩
      rw [hm] at HCA HCB hlen14 ⊢
      clear hm
      go_wp2_with fail
      go_loopw [22] (fun i wr => ∃ q : Nat, q ≤ m ∧ i = .int .i64 q ∧ Kept u14 wr) (fun i _ => m - (intOf i).toNat)
      case atStart => exact ⟨0, Nat.zero_le _, rfl, Kept.refl _⟩
      case round =>
        obtain ⟨q, hq, rfl, kq⟩ := hrel
        have HKQ := Lib.hid kq
        by_cases hqm : q < m
        · obtain ⟨ga, rfl, ha⟩ := HCA.out q hqm
          obtain ⟨gb, rfl, hb⟩ := HCB.out q hqm
          have ca1 := (kq.cell (p := ⟨ga, q, none⟩) (cell_lt ha)).trans ha
          have cb1 := (kq.cell (p := ⟨gb, q, none⟩) (cell_lt hb)).trans hb
          clear ha hb kq
          generalize L12.getD q 0 = x at *
          have hxx : (x != x) = false := by simp
          go_wp2
          refine wp_region_quiet_lit (by kernel_rfl) (by kernel_rfl) ?_
          repeat (go_big_quiet_step (fail))
          refine wpQuiet_nil ?_
          intro W1 hw1
          have k1' : Kept u14 W1 := by obtain ⟨n1, rfl⟩ := hw1; exact kept_drewN HKQ.out n1
          clear hw1
          go_wp2
          go_roundw
          case rel => exact ⟨q + 1, by omega, by go_num, k1'⟩
          case measure => simp [intOf]; omega
        · go_wp2
          go_ret
          exact ⟨rfl, (K14.out.trans HKQ.out).1⟩
end Go.Proofs.Ytmjgpgnecohbcaa
