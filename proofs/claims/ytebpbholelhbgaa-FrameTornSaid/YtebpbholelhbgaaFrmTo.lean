/- FrameTorn -/
import Derived.Test.YtebpbholelhbgaaFrmG
import Derived.Test.YtebpbholelhbgaaFrmY
namespace Go.Proofs.Ytebpbholelhbgaa
open Go.RowKit

set_option maxHeartbeats 4000000 in
theorem FrameTorn_walk (a0 : Option Addr) (len0 cap0 : Nat) (a1 : Int) (w : World) (w0 : SliceAt 1 24 (IsSlice 1 1 (IsInt .u8)) w a0 len0 cap0) (w1 : (Lit.int .u16 a1).wf = true) :
    Calls Try.prog 5 #[.slice a0 len0 cap0, .int .u16 a1] w fun e w' => e = .returned (.bool true) ∧ Below w.heap.size w w' := by
  obtain ⟨xs, hx⟩ := rows_of w0
  have hcap := w0.1
  have hb1 := bounds_u16 w1
  have hlen : len0 ≤ 140737488355328 := by have := w0.2.2.1; omega
  have HX := Lib.hid hx
  have HXL := Lib.hid hx.1
  clear w0 w1 hx
  go_enter Try.func5, Try.ntmps5
  go_wp2_with fail
  refine (awake_any _).mono ?_
  rintro e v1 ⟨rfl, h1⟩
  have k1 : Kept w v1 := (Kept.refl w).call h1
  have HX1 := Lib.hid (Rws.below HX.out h1)
  clear h1
  go_wp2_with fail
  refine (row_any HX1.out (by omega)).mono ?_
  rintro e v2 ⟨h2, rfl | ⟨m, y1, y2, rfl, hmn, hm30, hx4, hxb, o1, o2, -⟩⟩
  · go_wp2
    go_ret
    exact ⟨rfl, (k1.call h2).1⟩
  have k2 := k1.call h2
  have HX2 := Lib.hid (Rws.below HX1.out h2)
  have hLl : (xs.take m).length = m := by rw [List.length_take, HXL.out]; omega
  have hfl := flat_le hx4
  rw [hLl] at hfl
  have hby := flat_byte hxb
  have hends : ∀ i, i < m → (endsOf (xs.take m)).getD i 0 = (flat ((xs.take m).take (i + 1))).length := fun i hi => endsOf_at (by omega)
  have hel : (endsOf (xs.take m)).length = m := by rw [endsOf_len, hLl]
  have hq : ∀ q, q ≤ m → (xs.take m).take q = xs.take q := fun q hq => by rw [List.take_take, Nat.min_eq_left hq]
  have hst := fun q j hqm ha hb => scanned_torn (l := xs.take m) hx4 q j hqm ha hb
  have hall : Scanned (flat (xs.take m)) (xs.take m) (flat (xs.take m)).length := ⟨[], by simp, rfl, hx4, by decide⟩
  have hstep : ∀ q, q < m → (flat ((xs.take m).take (q + 1))).length = (flat ((xs.take m).take q)).length + 8 + ((xs.take m)[q]?.getD []).length := fun q hq => by
    have hq' : q < (xs.take m).length := by omega
    rw [List.take_succ_eq_append_getElem hq', flat_append, List.length_append, show flat [(xs.take m)[q]] = frm (xs.take m)[q] by simp [flat], frm_len, List.getElem?_eq_getElem hq']
    simp
    omega
  have HHX := HX2
  generalize hLE : xs.take m = L at *
  have HLE := Lib.hid hLE
  have HLl := Lib.hid hLl
  have HX4 := Lib.hid hx4
  have HBY := Lib.hid hby
  have HENDS := Lib.hid hends
  have HQ := Lib.hid hq
  have HST := Lib.hid hst
  have HALL := Lib.hid hall
  have HSTEP := Lib.hid hstep
  obtain ⟨Ab, cb, rfl, rb⟩ := o1.row (by omega) hby
  obtain ⟨Ae, ce, rfl, hec, hem, hen, hecell⟩ := o2.slice
  have RB := Lib.hid rb
  have hrb := rb.room
  rw [hel] at hec hecell
  have HEC := Lib.hid hecell
  have HEL := Lib.hid hel
  rw [hel]
  have hFL : (flat L).length ≤ 123120 := by omega
  clear h2 hLE hLl hx4 hxb hby hends hq hst hall hstep o1 o2 rb hecell hel hem hen hfl HHX
  generalize hfl : (flat L).length = fl at *
  have HFL := Lib.hid hfl
  clear hfl
  by_cases hm0 : m = 0
  · subst hm0
    go_wp2
    go_ret
    exact ⟨rfl, k2.1⟩
  obtain ⟨k, hk⟩ := Int.eq_ofNat_of_zero_le (Int.emod_nonneg a1 (show (fl : Int) + 1 ≠ 0 by omega))
  have hkf : k ≤ fl := by
    have := Int.emod_lt_of_pos a1 (show (0 : Int) < (fl : Int) + 1 by omega)
    omega
  have hsl := fun W => run_headK .i64 Ab fl cb k (by omega) W
  go_wp2_with fail
  refine (scan_any (A := Ab) (n := k) (cap := cb) (bs := (flat L).take k) ⟨RB.out.bts.head hkf, RB.out.nil, by omega, RB.out.most⟩ (by omega)).mono ?_
  rintro e v3 ⟨A3, c3, ys, n3, rfl, hrw3, -, hsc3, h3⟩
  have k3 := k2.call h3
  have RB3 := Lib.hid (RB.out.below h3)
  have HX3 := Lib.hid (Rws.below HX2.out h3)
  have hec3 : Hid (0 < m → ∃ g, Ae = some ⟨g, 0, none⟩ ∧ ∀ j, j < m → v3.cell? ⟨g, j, none⟩ = some (.int .i64 ((endsOf L).getD j 0 : Nat))) := Lib.hid fun hp => by
    obtain ⟨g, e1, e2⟩ := HEC.out hp
    exact ⟨g, e1, fun j hj => (h3.cell (p := ⟨g, j, none⟩) (cell_lt (e2 j hj))).trans (e2 j hj)⟩
  have HSC3 := Lib.hid hsc3
  have HRW3 := Lib.hid hrw3
  clear h3 hrw3 hsc3 hsl
  go_wp2_with fail
  have hwh := whole_any (w := v3) (A := Ae) (cap := ce) (k := k) (ns := endsOf L) (by rw [HEL.out]; exact hm30) (by rw [HEL.out]; exact hec3.out)
  rw [HEL.out] at hwh
  refine hwh.mono ?_
  rintro e v4 ⟨rfl, q, rfl, hqm, hq1, hq2⟩
  have hfq : (flat (L.take q)).length ≤ k := by
    cases q with
    | zero => simp [flat]
    | succ q =>
      have := hq1 q (by omega)
      rwa [HENDS.out q (by omega)] at this
  have hsc4 : Scanned ((flat L).take k) (L.take q) (flat (L.take q)).length := by
    refine HST.out q k (by rw [HLl.out]; exact hqm) hfq (fun h => ?_)
    have h' : q < m := by rw [← HLl.out]; exact h
    have e1 := hq2 h'
    rw [HENDS.out q h', HSTEP.out q h', List.getElem?_eq_getElem h] at e1
    simpa using e1
  obtain ⟨rfl, rfl⟩ := scanned_one (fun c hc => HBY.out c (List.mem_of_mem_take hc)) HSC3.out hsc4
  have hlq : (L.take q).length = q := by rw [List.length_take, HLl.out]; omega
  rw [hlq] at HRW3 ⊢
  have hR3 : Rws v4 A3 q (xs.take q) := by have := HRW3.out; rwa [HQ.out q hqm] at this
  have hend : Hid (0 < q → ∃ g, Ae = some ⟨g, 0, none⟩ ∧ v4.cell? ⟨g, q - 1, none⟩ = some (.int .i64 ((flat (L.take q)).length : Nat))) := Lib.hid fun hp => by
    obtain ⟨g, e1, e2⟩ := hec3.out (by omega)
    refine ⟨g, e1, ?_⟩
    rw [e2 (q - 1) (by omega), HENDS.out (q - 1) (by omega), show q - 1 + 1 = q by omega]
  have hfq0 : Hid (q = 0 → (flat (L.take q)).length = 0) := Lib.hid fun h => by subst h; simp [flat]
  have HR3 := Lib.hid hR3
  clear hwh hq1 hq2 hsc4 hlq hR3 hec3 HSC3
  generalize (flat (L.take q)).length = fq at *
  have hR4 := Lib.hid fun (u : World) (h : Below v4.heap.size v4 u) => Rws.head (Rws.below HX3.out h) (show q ≤ len0 by omega)
  have hR5 := Lib.hid fun (u : World) (h : Below v4.heap.size v4 u) => Rws.head (Rws.below HX3.out h) (show m ≤ len0 by omega)
  have hR6 := Lib.hid fun (u : World) (h : Below v4.heap.size v4 u) => Rws.below HR3.out h
  have hql : q ≤ 1099511627776 := by omega
  have hs1 := fun W => run_headR .i64 a0 len0 cap0 q (by omega) W
  have hs2 := fun W => run_headR .i64 a0 len0 cap0 m (by omega) W
  have hfin : ∀ (K : Prop), (q = 0 → fq = 0 → K) → (∀ g, Ae = some ⟨g, 0, none⟩ → 0 < q → v4.cell? ⟨g, q - 1, none⟩ = some (.int .i64 (fq : Nat)) → K) → K := by
    intro K h0 h1
    by_cases hq0 : q = 0
    · exact h0 hq0 (hfq0.out hq0)
    · obtain ⟨g, e1, e2⟩ := hend.out (by omega)
      exact h1 g e1 (by omega) e2
  have HFIN := Lib.hid hfin
  clear hfin
  refine HFIN.out _ (fun hq0 hf0 => ?_) (fun g he hqp hcq => ?_)
  · subst hq0 hf0
    go_wp2_with fail
    refine (scan_any (A := Ab) (n := fl) (cap := cb) (bs := flat L) RB3.out (by omega)).mono ?_
    rintro e v5 ⟨A5, c5, zs, n5, rfl, hrw5, -, hsc5, h5⟩
    obtain ⟨e6, e7⟩ := scanned_one HBY.out hsc5 HALL.out
    rw [e6, HLl.out] at hrw5 ⊢
    rw [e7]
    rw [← HLE.out] at hrw5
    have k5 := k3.call h5
    have HRW5 := Lib.hid hrw5
    have HS1 := Lib.hid (hR6.out _ h5)
    have HS2 := Lib.hid (hR4.out _ h5)
    have HS3 := Lib.hid (hR5.out _ h5)
    clear e6 e7 hrw5 hsc5 h5
    go_wp2_with fail
    refine (same_any HS1.out HS2.out (by omega)).mono ?_
    rintro e v6 ⟨rfl, h6⟩
    have k6 := k5.call h6
    have HS3' := Lib.hid (Rws.below HS3.out h6)
    have HRW6 := Lib.hid (Rws.below HRW5.out h6)
    clear h6
    go_wp2_with fail
    refine (same_any HRW6.out HS3'.out (by omega)).mono ?_
    rintro e v7 ⟨rfl, h7⟩
    have k7 := k6.call h7
    clear h7
    go_wp2
    go_ret
    exact ⟨rfl, k7.1⟩
  · subst he
    go_wp2_with fail
    refine (scan_any (A := Ab) (n := fl) (cap := cb) (bs := flat L) RB3.out (by omega)).mono ?_
    rintro e v5 ⟨A5, c5, zs, n5, rfl, hrw5, -, hsc5, h5⟩
    obtain ⟨e6, e7⟩ := scanned_one HBY.out hsc5 HALL.out
    rw [e6, HLl.out] at hrw5 ⊢
    rw [e7]
    rw [← HLE.out] at hrw5
    have k5 := k3.call h5
    have HRW5 := Lib.hid hrw5
    have HS1 := Lib.hid (hR6.out _ h5)
    have HS2 := Lib.hid (hR4.out _ h5)
    have HS3 := Lib.hid (hR5.out _ h5)
    clear e6 e7 hrw5 hsc5 h5
    go_wp2_with fail
    refine (same_any HS1.out HS2.out (by omega)).mono ?_
    rintro e v6 ⟨rfl, h6⟩
    have k6 := k5.call h6
    have HS3' := Lib.hid (Rws.below HS3.out h6)
    have HRW6 := Lib.hid (Rws.below HRW5.out h6)
    clear h6
    go_wp2_with fail
    refine (same_any HRW6.out HS3'.out (by omega)).mono ?_
    rintro e v7 ⟨rfl, h7⟩
    have k7 := k6.call h7
    clear h7
    go_wp2
    go_ret
    exact ⟨rfl, k7.1⟩
end Go.Proofs.Ytebpbholelhbgaa
