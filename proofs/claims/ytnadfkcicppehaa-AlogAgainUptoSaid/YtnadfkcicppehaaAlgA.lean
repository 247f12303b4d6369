/- AlogAgain, of bulk at most 1048576 -/
import Derived.Test.YtnadfkcicppehaaAlgK
import Derived.Test.YtnadfkcicppehaaBulk
import Derived.Test.YtnadfkcicppehaaBare
namespace Go.Proofs.Ytnadfkcicppehaa
open Go.RowKit

theorem laidAll_count (l : List Rc) : l.length ≤ (laidAll l).length := by
  have := flat_len (l.map Rc.enc)
  simpa [laidAll] using this
set_option maxRecDepth 100000 in
set_option maxHeartbeats 4000000 in
theorem AlogAgain_walk (a0 : Option Addr) (len0 cap0 : Nat) (b0 : Nat) (w : World) (_ : Laid w) (w0 : SliceAt 1 1 (IsInt .u8) w a0 len0 cap0) (u0 : SSlice 1 SOne w [.slice a0 len0 cap0] b0) (hk : b0 ≤ 1048576) :
    Calls Try.prog 6 #[.slice a0 len0 cap0] w fun e w' => e = .returned (.bool true) ∧ Below w.heap.size w w' := by
  obtain ⟨bs, hb⟩ := bts_of w0
  have hnil := w0.2.2.2.1
  have hcap := w0.1
  have hmost := w0.2.1
  have hl0 := bulk_len w0 u0
  have HB := Lib.hid (show Row w a0 len0 cap0 bs from ⟨hb, hnil, hcap, hmost⟩)
  have hby := Lib.hid hb.2.2.1
  clear w0 hb u0
  go_enter Try.func6, Try.ntmps6
  go_wp2_with fail
  refine (awake_any _).mono ?_
  rintro e v1 ⟨rfl, h1⟩
  have k1 : Kept w v1 := (Kept.refl w).call h1
  clear h1
  go_wp2_with fail
  refine (aread_any (bs := bs) (HB.out.below k1.1) (by omega)).mono ?_
  rintro e v2 ⟨lv, its, n2, rfl, own, hrd, h2⟩
  have k2 := k1.call h2
  obtain ⟨hm, htk, hn2, hle⟩ := reads_again hby.out hrd
  rw [HB.out.len] at hle
  have hcnt := laidAll_count (its.map It.r)
  rw [List.length_map] at hcnt
  obtain ⟨A2, c2, rfl, -, -, -⟩ := own.slice
  have hrc := own.rcs (fun x hx => Rc.wf_may (hm _ (List.mem_map_of_mem hx)).1)
  have HM := Lib.hid hm
  have HTK := Lib.hid htk
  have HN2 := Lib.hid hn2
  have HRC := Lib.hid hrc
  have HLL : Hid ((its.map It.r).length = its.length) := Lib.hid (by simp)
  clear h2 hm htk hrd own hrc hn2
  generalize its.map It.r = l at *
  generalize its.length = m at *
  go_wp2_with fail
  refine (lay_any HLL.out HRC.out (by have := HN2.out; omega)).mono ?_
  rintro e v3 ⟨h3, ⟨-, v, rfl, o3⟩ | ⟨hno, -⟩⟩
  case inr => exact absurd (fun r hr => (HM.out r hr).1) hno
  have k3 := k2.call h3
  obtain ⟨A3, c3, rfl, q3⟩ := o3.row (by have := HN2.out; omega) (laidAll_byte fun r hr => (HM.out r hr).2)
  have hsl := fun W => run_headK .i64 a0 len0 cap0 n2 (by omega) W
  have q0 : Row v3.drew a0 n2 cap0 (laidAll l) := by
    have h := HB.out.below k3.1
    have h' : Row v3 a0 n2 cap0 (bs.take n2) := ⟨h.bts.head hle, h.nil, by omega, h.most⟩
    rw [HTK.out] at h'
    exact h'.below (Below.refl _ _).drew
  have t1 := (q3.below (Below.refl _ _).drew).txt
  have t2 := q0.txt
  clear q3 q0 o3 h3
  generalize txt (laidAll l) = X at *
  generalize (laidAll l).length = fl at *
  go_wp2
  go_region
  go_wp2
  go_ret
  exact ⟨by go_simp, k3.1.drew⟩
end Go.Proofs.Ytnadfkcicppehaa
