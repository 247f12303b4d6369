/- CrcCuts -/
import Derived.Test.YthegohpkjfoaoaaCrcL
import Derived.Test.YthegohpkjfoaoaaQuiet
namespace Go.Proofs.Ythegohpkjfoaoaa
open Go.RowKit CrcM CrcW CrcR

theorem sum_kept {w W : World} {A : Option Addr} {n cap r : Nat} {bs : List Nat} (hb : Bts w w.heap.size A n bs) (hr : CrcM.sum bs = r) (hk : Kept w W) :
    Calls Try.prog 10 #[.slice A n cap] W fun e W' => e = .returned (.int .u32 (r : Int)) ∧ Kept w W' :=
  (CrcW.sum_any A n cap bs W ((hb.below hk.1).more hk.2)).mono fun _ _ ⟨h1, h2⟩ => ⟨by rw [h1, hr], hk.call h2⟩
theorem more_kept {w W : World} {s r : Nat} (hs : s < 4294967296) {A : Option Addr} {n cap : Nat} {bs : List Nat} (hb : Bts w w.heap.size A n bs) (hr : CrcM.more s bs = r) (hk : Kept w W) :
    Calls Try.prog 12 #[.int .u32 s, .slice A n cap] W fun e W' => e = .returned (.int .u32 (r : Int)) ∧ Kept w W' :=
  (CrcW.more_any s hs A n cap bs W ((hb.below hk.1).more hk.2)).mono fun _ _ ⟨h1, h2⟩ => ⟨by rw [h1, hr], hk.call h2⟩
theorem more_kept0 {w W : World} {r : Nat} {A : Option Addr} {n cap : Nat} {bs : List Nat} (hb : Bts w w.heap.size A n bs) (hr : CrcM.more 0 bs = r) (hk : Kept w W) :
    Calls Try.prog 12 #[.int .u32 0, .slice A n cap] W fun e W' => e = .returned (.int .u32 (r : Int)) ∧ Kept w W' := more_kept (s := 0) (by omega) hb hr hk

set_option maxHeartbeats 2000000 in
theorem CrcCuts_walk (a0 : Option Addr) (len0 cap0 : Nat) (a1 : Int) (a2 : Int) (w : World) (w0 : SliceAt 1 1 (IsInt .u8) w a0 len0 cap0) (w1 : (Lit.int .u16 a1).wf = true) (w2 : (Lit.int .u16 a2).wf = true) :
    Calls Try.prog 4 #[.slice a0 len0 cap0, .int .u16 a1, .int .u16 a2] w fun e w' => e = .returned (.bool true) ∧ Below w.heap.size w w' := by
  obtain ⟨bs, hb⟩ := bts_of w0
  have hlc : len0 ≤ cap0 := w0.1
  have b1 := bounds_u16 w1
  have b2 := bounds_u16 w2
  have hmax := hb.2.1
  have hz : (0 : Int) < (len0 : Int) + 1 := by omega
  clear w0 w1 w2
  go_enter Try.func4, Try.ntmps4
  go_wp2_with fail
  refine (awake_any _).mono ?_
  rintro e u1 ⟨rfl, h1⟩
  have k1 : Kept w u1 := below_call ⟨Below.refl w.heap.size w, Nat.le_refl _⟩ h1
  go_wp2_with fail
  all_goals
    have p1 : 0 ≤ a1 % ((len0 : Int) + 1) := Int.emod_nonneg _ (by omega)
    have p2 : 0 ≤ a2 % ((len0 : Int) + 1) := Int.emod_nonneg _ (by omega)
    have q1 : a1 % ((len0 : Int) + 1) < (len0 : Int) + 1 := Int.emod_lt_of_pos _ hz
    have q2 : a2 % ((len0 : Int) + 1) < (len0 : Int) + 1 := Int.emod_lt_of_pos _ hz
    generalize a1 % ((len0 : Int) + 1) = x1 at *
    generalize a2 % ((len0 : Int) + 1) = x2 at *
    obtain ⟨i, rfl⟩ := Int.eq_ofNat_of_zero_le p1
    obtain ⟨j, rfl⟩ := Int.eq_ofNat_of_zero_le p2
    clear p1 p2
    have HB := Lib.hid hb
    have hby := hb.2.2.1
    have hl1 := sum_lt bs hby
    have hl2 := sum_lt (bs.take i) (fun c hc => hby c (List.mem_of_mem_take hc))
    have hl3 := sum_lt (bs.take j) (fun c hc => hby c (List.mem_of_mem_take hc))
    have hl4 := more_lt ((bs.take i).drop j) hl3 (fun c hc => hby c (List.mem_of_mem_take (List.mem_of_mem_drop hc)))
    have hl5 := more_lt ((bs.take j).drop i) hl2 (fun c hc => hby c (List.mem_of_mem_take (List.mem_of_mem_drop hc)))
    have HC1 := Lib.hid (cuts bs j i)
    have HC2 := Lib.hid (cuts bs i j)
    have HC3 : Hid (CrcM.more (CrcM.sum (bs.take i)) (bs.drop i) = CrcM.sum bs) := Lib.hid (by rw [more_sum, List.take_append_drop])
    have HZ : Hid (CrcM.more 0 bs = CrcM.sum bs) := Lib.hid (sum_eq bs).symm
    have HN : Hid (CrcM.more (CrcM.sum bs) [] = CrcM.sum bs) := Lib.hid (more_nil _)
    clear hb hmax h1 hby
    generalize hx1 : CrcM.sum bs = S at *
    generalize hx2 : CrcM.sum (bs.take i) = Si at *
    generalize hx3 : CrcM.sum (bs.take j) = Sj at *
    generalize hx4 : CrcM.more Sj ((bs.take i).drop j) = M1 at *
    generalize hx5 : CrcM.more Si ((bs.take j).drop i) = M2 at *
    have X1 := Lib.hid hx1
    have X2 := Lib.hid hx2
    have X3 := Lib.hid hx3
    have X4 := Lib.hid hx4
    have X5 := Lib.hid hx5
    clear hx1 hx2 hx3 hx4 hx5
    have c1 : ((i : Int) ≤ (cap0 : Int)) := by omega
    have c2 : ((j : Int) ≤ (cap0 : Int)) := by omega
  all_goals
    refine wp_region_in (Kept w) (by kernel_rfl) (by kernel_rfl) k1.drew ?_
    repeat (go_big_quiet_step (first
      | (intro _; rfl)
      | (intro hk; with_reducible exact sum_kept (HB.out.head (by omega)) X3.out hk)
      | (intro hk; with_reducible exact sum_kept (HB.out.head (by omega)) X2.out hk)
      | (intro hk; with_reducible exact sum_kept HB.out X1.out hk)
      | (intro hk; with_reducible exact more_kept hl3 (HB.out.cut (by omega) (by omega)) X4.out hk)
      | (intro hk; with_reducible exact more_kept hl2 (HB.out.cut (by omega) (by omega)) X5.out hk)
      | (intro hk; with_reducible exact more_kept hl3 (HB.out.cutIf (by omega) (by omega) hlc) X4.out hk)
      | (intro hk; with_reducible exact more_kept hl2 (HB.out.cutIf (by omega) (by omega) hlc) X5.out hk)
      | (intro hk; with_reducible exact more_kept hl4 (HB.out.rest (by omega) hlc) (HC1.out (by omega)) hk)
      | (intro hk; with_reducible exact more_kept hl5 (HB.out.rest (by omega) hlc) (HC2.out (by omega)) hk)
      | (intro hk; with_reducible exact more_kept hl2 Bts.nil (more_nil _) hk)
      | (intro hk; with_reducible exact more_kept hl2 (HB.out.rest (by omega) hlc) HC3.out hk)
      | (intro hk; with_reducible exact more_kept hl1 Bts.nil HN.out hk)
      | (intro hk; with_reducible exact more_kept0 HB.out HZ.out hk)))
    refine wpQuiet_nil ?_
    intro W hk
    go_wp2
    all_goals
      go_ret
      exact ⟨rfl, hk.1⟩
end Go.Proofs.Ythegohpkjfoaoaa
