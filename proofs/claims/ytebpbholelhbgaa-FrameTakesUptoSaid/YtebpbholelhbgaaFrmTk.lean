/- FrameTakes, of bulk at most 1048576 -/
import Derived.Test.YtebpbholelhbgaaFrmK
import Derived.Test.YtebpbholelhbgaaFrmY
import Derived.Test.YtebpbholelhbgaaBulk
import Derived.Test.YtebpbholelhbgaaBare
namespace Go.Proofs.Ytebpbholelhbgaa
open Go.RowKit

set_option maxHeartbeats 4000000 in
theorem FrameTakes_walk (a0 : Option Addr) (len0 cap0 : Nat) (b0 : Nat) (w : World) (_ : Laid w) (w0 : SliceAt 1 1 (IsInt .u8) w a0 len0 cap0) (u0 : SSlice 1 SOne w [.slice a0 len0 cap0] b0) (hk : b0 ≤ 1048576) :
    Calls Try.prog 4 #[.slice a0 len0 cap0] w fun e w' => e = .returned (.bool true) ∧ Below w.heap.size w w' := by
  obtain ⟨bs, hb⟩ := bts_of w0
  have hnil := w0.2.2.2.1
  have hcap := w0.1
  have hmost := w0.2.1
  have hlen := bulk_len w0 u0
  have HB := Lib.hid hb
  have hby := Lib.hid hb.2.2.1
  clear w0 hb u0
  obtain ⟨c, x, r, ht⟩ : ∃ c x r, tke bs = (c, x, r) := ⟨_, _, _, rfl⟩
  have HT := Lib.hid ht
  have hxb : ∀ d ∈ x, d < 256 := by
    by_cases h0 : c = 0
    · have := tke_back hby.out (by rw [ht, h0])
      exact fun d hd => hby.out d (by rw [this.1]; simp [frm, hd])
    · have := tke_err (bs := bs) (by rw [ht]; exact h0)
      rw [ht] at this
      simp at this
      rw [this.1]
      simp
  have hrb : ∀ d ∈ r, d < 256 := by
    by_cases h0 : c = 0
    · have := tke_back hby.out (by rw [ht, h0])
      exact fun d hd => hby.out d (by rw [this.1]; simp [hd])
    · have := tke_err (bs := bs) (by rw [ht]; exact h0)
      rw [ht] at this
      simp at this
      rw [this.2]
      simp
  have hxr : x.length ≤ 4096 ∧ r.length ≤ 1048576 := by
    have hl := HB.out.1
    by_cases h0 : c = 0
    · have := tke_back hby.out (by rw [ht, h0])
      have e := congrArg List.length this.1
      rw [List.length_append, frm_len] at e
      exact ⟨this.2, by omega⟩
    · have := tke_err (bs := bs) (by rw [ht]; exact h0)
      rw [ht] at this
      simp at this
      rw [this.1, this.2]
      simp
  have HXB := Lib.hid hxb
  have HRB := Lib.hid hrb
  have HXR := Lib.hid hxr
  clear ht hxb hrb hxr
  go_enter Try.func4, Try.ntmps4
  go_wp2_with fail
  refine (awake_any _).mono ?_
  rintro e u1 ⟨rfl, h1⟩
  have k1 : Kept w u1 := (Kept.refl w).call h1
  clear h1
  go_wp2_with fail
  refine (take_any (bs := bs) ⟨(HB.out.below k1.1).more k1.2, hnil, hcap, hmost⟩).mono ?_
  rw [HT.out]
  rintro e u2 ⟨v1, v2, rfl, o1, o2, h2⟩
  have k2 := k1.call h2
  change Own u2 u1.heap.size v1 x at o1
  change Own u2 u1.heap.size v2 r at o2
  obtain ⟨A1, c1, rfl, r1⟩ := o1.row (by have := HXR.out; omega) HXB.out
  obtain ⟨A2, c2, rfl, r2⟩ := o2.row (by have := HXR.out; omega) HRB.out
  have R1 := Lib.hid r1
  have R2 := Lib.hid r2
  have hx0 := HXR.out
  generalize hxl : x.length = xl at *
  generalize hrl : r.length = rl at *
  clear h2 o1 o2 r1 r2 hxl hrl
  go_wp2_with fail
  refine (rtake_any (bs := bs) ((HB.out.below k2.1).more k2.2) hnil hcap).mono ?_
  rw [HT.out]
  rintro e u3 ⟨A3, n3, c3, A4, n4, c4, rfl, hx3, hn3, hr4, hn4, h3⟩
  have k3 := k2.call h3
  change Bts u2 u2.heap.size A3 n3 x at hx3
  change Bts u2 u2.heap.size A4 n4 r at hr4
  have R1' := Lib.hid (R1.out.below h3)
  have R2' := Lib.hid (R2.out.below h3)
  have X3 := Lib.hid ((hx3.below h3).more h3.size)
  have X4 := Lib.hid ((hr4.below h3).more h3.size)
  have N3 := Lib.hid hn3
  have N4 := Lib.hid hn4
  clear hx3 hr4 h3 hn3 hn4
  go_wp2_with fail
  refine (scan_any (bs := bs) ⟨(HB.out.below k3.1).more k3.2, hnil, hcap, hmost⟩ (by omega)).mono ?_
  rintro e u4 ⟨A5, c5, xs, k, rfl, hrw5, -, hsc5, h4⟩
  have k4 := k3.call h4
  have HSC := Lib.hid hsc5
  have HW5 := Lib.hid hrw5
  have R1'' := Lib.hid (R1'.out.below h4)
  have R2'' := Lib.hid (R2'.out.below h4)
  have X3' := Lib.hid ((X3.out.below h4).more h4.size)
  have X4' := Lib.hid ((X4.out.below h4).more h4.size)
  have hxsl : xs.length ≤ 1048576 := by
    obtain ⟨q, e1, -, -⟩ := hsc5
    have e2 := congrArg List.length e1
    rw [List.length_append, HB.out.1] at e2
    have := flat_len xs
    omega
  clear h4 hsc5 hrw5
  go_wp2_with fail
  refine (rscan_any (bs := bs) ((HB.out.below k4.1).more k4.2) hnil hcap (by omega)).mono ?_
  rintro e u5 ⟨A6, c6, ys, k', rfl, hrw6, -, hsc6, h5⟩
  obtain ⟨rfl, rfl⟩ := scanned_one hby.out HSC.out hsc6
  have k5 := k4.call h5
  have HW5' := Lib.hid (HW5.out.below h5)
  have HW6 := Lib.hid hrw6
  have t1 := run_text (c := c1) (R1''.out.bts.below h5) (fun h => by have := R1''.out.nil h; have := R1''.out.room; omega)
  have t2 := run_text (c := c2) (R2''.out.bts.below h5) (fun h => by have := R2''.out.nil h; have := R2''.out.room; omega)
  have t3 := run_text (c := c3) (X3'.out.below h5) (fun h => (N3.out h).1)
  have t4 := run_text (c := c4) (X4'.out.below h5) (fun h => (N4.out h).1)
  generalize txt x = X at *
  generalize txt r = Y at *
  generalize hxsn : xs.length = m at *
  have HN := Lib.hid hxsn
  clear h5 hsc6 hrw6 hxsn
  go_wp2_with fail
  refine (same_any HW5'.out HW6.out (by omega)).mono ?_
  rintro e u6 ⟨rfl, h6⟩
  have k6 := k5.call h6
  clear h6
  go_wp2
  go_ret
  exact ⟨rfl, k6.1⟩
end Go.Proofs.Ytebpbholelhbgaa
