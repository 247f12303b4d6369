/- CrcBack -/
import Derived.Test.YthegohpkjfoaoaaCrcC
namespace Go.Proofs.Ythegohpkjfoaoaa
open Go.RowKit CrcM CrcW CrcR

/-- four bytes in a new row -/
theorem bts_four (w : World) (t : TypeId) (fr : Nat × Nat) (z0 z1 z2 z3 : Int) (c0 c1 c2 c3 : Nat) (h0 : z0 = c0) (h1 : z1 = c1) (h2 : z2 = c2) (h3 : z3 = c3) (hl : c0 < 256 ∧ c1 < 256 ∧ c2 < 256 ∧ c3 < 256) :
    Bts (w.alloc (.cells #[.int .u8 z0, .int .u8 z1, .int .u8 z2, .int .u8 z3] t fr)) (w.heap.size + 1) (some ⟨w.heap.size, 0, none⟩) 4 [c0, c1, c2, c3] := by
  subst h0 h1 h2 h3
  have := bts_new w t fr [c0, c1, c2, c3] (by simp) (by simp; omega)
  simpa using this

set_option maxHeartbeats 2000000 in
theorem CrcBack_walk (a0 : Option Addr) (len0 cap0 : Nat) (w : World) (w0 : SliceAt 1 1 (IsInt .u8) w a0 len0 cap0) :
    Calls Try.prog 7 #[.slice a0 len0 cap0] w fun e w' => e = .returned (.bool true) ∧ Below w.heap.size w w' := by
  obtain ⟨bs, hb⟩ := bts_of w0
  have hnil : a0 = none → cap0 = 0 := w0.2.2.2.1
  have hmax : len0 ≤ 140737488351232 := by have := w0.2.2.1; omega
  have hby := hb.2.2.1
  have hs := sum_lt bs hby
  have hlen := hb.1
  have HB := Lib.hid hb
  clear w0 hb
  generalize hsx : CrcM.sum bs = s at *
  have HS := Lib.hid hsx
  clear hsx
  have HBK : ∀ s0 s1 s2 s3, num [s0, s1, s2, s3] = s → CrcM.sum (bs ++ [s0, s1, s2, s3]) = 558161692 := fun s0 s1 s2 s3 h => back bs s0 s1 s2 s3 (by rw [h, HS.out])
  have HBK := Lib.hid HBK
  go_enter Try.func7, Try.ntmps7
  go_wp2_with fail
  refine (awake_any _).mono ?_
  rintro e u1 ⟨rfl, h1⟩
  have k1 : Kept w u1 := (Kept.refl w).call h1
  go_wp2_with fail
  refine (sum_kept HB.out HS.out k1).mono ?_
  rintro e u2 ⟨rfl, k2⟩
  clear h1 k1 u1
  have own0 : Own (u2.alloc (.cells #[] 5)) w.heap.size (.slice (some ⟨u2.heap.size, 0, none⟩) 0 0) [] := Own.lit [] k2.2 (by simp)
  have k0 := k2.alloc (.cells #[] 5)
  go_wp2_with (first
    | (at_builtin
       refine wpList_append_bts rfl (.tmp 9) (.tmp 10) rfl (v := .slice (some ⟨u2.heap.size, 0, none⟩) 0 0) (base := w.heap.size) (ds := []) rfl rfl own0 (HB.out.below k0.1) hnil (by simp; omega) k0.2 ?_
       intro v1 w1 own1 gr1 at1
       have k1 := k0.append own0 gr1
       clear gr1 at1)
    | (at_builtin
       refine wpList_append_bts rfl (.tmp 11) (.tmp 23) rfl (v := v1) (base := w.heap.size) (ds := [] ++ bs) rfl rfl (own1.alloc _) (bts_four _ _ _ _ _ _ _ (s % 256) (s / 256 % 256) (s / 65536 % 256) (s / 16777216 % 256) (by omega) (by omega) (by omega) (by omega) (by omega)) (by simp) (by simp; omega) (k1.alloc _).2 ?_
       intro v2 w2 own2 gr2 at2
       have k3 := (k1.alloc _).append (own1.alloc _) gr2
       clear gr2 at2))
  obtain ⟨A, cap, rfl, hbt⟩ := own2.bts (by simp; omega) (fun c hc => by
    simp only [List.nil_append, List.mem_append, List.mem_cons, List.not_mem_nil, or_false] at hc
    rcases hc with hc | rfl | rfl | rfl | rfl
    · exact hby c hc
    all_goals omega)
  refine (CrcW.sum_any _ _ _ _ _ hbt).mono ?_
  rintro e u3 ⟨rfl, h3⟩
  have k4 := k3.call h3
  have hfin : CrcM.sum ([] ++ bs ++ [s % 256, s / 256 % 256, s / 65536 % 256, s / 16777216 % 256]) = 558161692 := by
    rw [List.nil_append]
    exact HBK.out _ _ _ _ (by rw [num4]; omega)
  rw [hfin]
  clear hfin hbt own1 own2
  go_wp2
  go_ret
  exact ⟨rfl, k4.1⟩
end Go.Proofs.Ythegohpkjfoaoaa
