/- CrcTurned -/
import Derived.Test.YthegohpkjfoaoaaCrcB
namespace Go.Proofs.Ythegohpkjfoaoaa
open Go.RowKit CrcM CrcW CrcR

def Any (b : Bool) (M : Nat) : Prop := b = true ↔ M ≠ 0
theorem bit_test {m k : Nat} (h : m / 2 ^ k % 2 = 1) : (((m : Int) / 2 ^ k).tmod 2 == 1) = true := by
  have h1 : ((m : Int) / 2 ^ k) = ((m / 2 ^ k : Nat) : Int) := by simp
  rw [h1, beq_iff_eq, show (2 : Int) = ((2 : Nat) : Int) from rfl, ← Int.ofNat_tmod]; omega
theorem bit_test0 {m k : Nat} (h : m / 2 ^ k % 2 = 0) : (((m : Int) / 2 ^ k).tmod 2 == 1) = false := by
  have h1 : ((m : Int) / 2 ^ k) = ((m / 2 ^ k : Nat) : Int) := by simp
  rw [h1, beq_eq_false_iff_ne, show (2 : Int) = ((2 : Nat) : Int) from rfl, ← Int.ofNat_tmod]; omega

theorem turn_byte {c r : Nat} (hc : c < 256) (hr : r < 8) : bits BinOp.xor IntKind.u8 (c : Int) (2 ^ r % 256) = ((c ^^^ 1 <<< r : Nat) : Int) := by
  have h1 : (1 <<< r : Nat) < 256 := by
    rw [Nat.one_shiftLeft]; exact Nat.lt_of_lt_of_le (Nat.pow_lt_pow_right (by omega) hr) (by decide)
  have h2 : ∀ q : Nat, q < 256 → ((q : Int) % 256) = (q : Int) := by intro q hq; omega
  rw [Nat.one_shiftLeft] at *
  rw [show ((2 : Int) ^ r) = ((2 ^ r : Nat) : Int) by simp, h2 _ h1, u8_xor_nat c _ hc h1]
theorem turn_lt {c r : Nat} (hc : c < 256) (hr : r < 8) : (c ^^^ 1 <<< r : Nat) < 256 := by
  have h1 : (1 <<< r : Nat) < 2 ^ 8 := by
    rw [Nat.one_shiftLeft]; exact Nat.pow_lt_pow_right (by omega) hr
  exact Nat.xor_lt_two_pow (n := 8) hc h1
theorem turn_num {bs ds : List Nat} {m k f : Nat} (hnum : num ds = num bs ^^^ ((m % 2 ^ k) <<< f)) (hbit : m / 2 ^ k % 2 = 1) (hj : (f + k) / 8 < ds.length) :
    num (ds.set ((f + k) / 8) (ds.getD ((f + k) / 8) 0 ^^^ 1 <<< ((f + k) % 8))) = num bs ^^^ ((m % 2 ^ (k + 1)) <<< f) := by
  rw [num_set ds _ _ hj, hnum, mask_succ, hbit, Nat.shiftLeft_xor_distrib, ← Nat.shiftLeft_add, Nat.xor_assoc, show 8 * ((f + k) / 8) + (f + k) % 8 = k + f by omega]
theorem mask_one {m k : Nat} (hbit : m / 2 ^ k % 2 = 1) : m % 2 ^ (k + 1) ≠ 0 := by
  intro h
  have h1 : (m % 2 ^ (k + 1)).testBit k = true := by
    rw [Nat.testBit_mod_two_pow, Nat.testBit_eq_decide_div_mod_eq]; simp [hbit]
  rw [h] at h1; simp at h1
theorem mask_none {m k : Nat} (hbit : m / 2 ^ k % 2 = 0) : m % 2 ^ (k + 1) = m % 2 ^ k := by
  rw [mask_succ, hbit]; simp

set_option maxHeartbeats 2000000 in
theorem CrcTurned_walk (a0 : Option Addr) (len0 cap0 : Nat) (a1 : Int) (a2 : Int) (w : World) (w0 : SliceAt 1 1 (IsInt .u8) w a0 len0 cap0) (w1 : (Lit.int .u16 a1).wf = true) (w2 : (Lit.int .u32 a2).wf = true) :
    Calls Try.prog 5 #[.slice a0 len0 cap0, .int .u16 a1, .int .u32 a2] w fun e w' => e = .returned (.bool true) ∧ Below w.heap.size w w' := by
  obtain ⟨bs, hb⟩ := bts_of w0
  have hnil : a0 = none → cap0 = 0 := w0.2.2.2.1
  have hmax : len0 ≤ 140737488351232 := by have := w0.2.2.1; omega
  have hby := hb.2.2.1
  have hs := sum_lt bs hby
  have hlen := hb.1
  have b1 := bounds_u16 w1
  obtain ⟨m, hm, rfl⟩ : ∃ s : Nat, s < 4294967296 ∧ a2 = (s : Int) := by
    have := bounds_u32 w2
    exact ⟨a2.toNat, by omega, by omega⟩
  have HB := Lib.hid hb
  clear w0 w1 w2 hb
  by_cases hz : len0 = 0 ∨ m = 0
  · clear hmax hby hs b1 hnil hm HB hlen
    by_cases h0 : len0 = 0
    · have hz3 : ((len0 : Int) == 0) = true := by simp; omega
      clear h0 hz
      go_enter Try.func5, Try.ntmps5
      go_wp2_with fail
      refine (awake_any _).mono ?_
      rintro e u1 ⟨rfl, h1⟩
      go_wp2
      go_ret
      exact ⟨rfl, h1⟩
    · have hz3 : ((len0 : Int) == 0) = false := by simp; omega
      have hz4 : ((m : Int) == 0) = true := by simp; omega
      clear h0 hz
      go_enter Try.func5, Try.ntmps5
      go_wp2_with fail
      refine (awake_any _).mono ?_
      rintro e u1 ⟨rfl, h1⟩
      go_wp2
      go_ret
      exact ⟨rfl, h1⟩
  have hz1 : 0 < len0 := by omega
  have hz2 : 0 < m := by omega
  have hz3 : ((len0 : Int) == 0) = false := by simp; omega
  have hz4 : ((m : Int) == 0) = false := by simp; omega
  have p1 : 0 ≤ a1 % (8 * (len0 : Int)) := Int.emod_nonneg _ (by omega)
  have q1 : a1 % (8 * (len0 : Int)) < 8 * (len0 : Int) := Int.emod_lt_of_pos _ (by omega)
  go_enter Try.func5, Try.ntmps5
  go_wp2_with fail
  refine (awake_any _).mono ?_
  rintro e u1 ⟨rfl, h1⟩
  have k1 : Kept w u1 := (Kept.refl w).call h1
  have own0 : Own (u1.alloc (.cells #[] 5)) w.heap.size (.slice (some ⟨u1.heap.size, 0, none⟩) 0 0) [] := Own.lit [] k1.2 (by simp)
  have k0 := k1.alloc (.cells #[] 5)
  go_wp2_with (first
    | (at_builtin
       refine wpList_append_bts rfl (.tmp 22) (.tmp 23) rfl (v := .slice (some ⟨u1.heap.size, 0, none⟩) 0 0) (base := w.heap.size) (ds := []) rfl rfl own0 (HB.out.below k0.1) hnil (by simp; omega) k0.2 ?_
       intro v1 w1 own1 gr1 at1
       have k1 := k0.append own0 gr1
       clear gr1 at1))
  have own2 : Own w1 w.heap.size v1 bs := by simpa using own1
  obtain ⟨g, cap, rfl, hgw⟩ := own2.form (by omega)
  rw [hlen] at *
  generalize a1 % (8 * (len0 : Int)) = f1 at *
  obtain ⟨f, rfl⟩ := Int.eq_ofNat_of_zero_le p1
  clear own1 p1 own0 k0 h1
  have hab : Any false (m % 2 ^ 0) := by simp [Any, Nat.mod_one]
  have hnb : num bs = num bs ^^^ ((m % 2 ^ 0) <<< f) := by simp [Nat.mod_one]
  have hdb0 : bs.length = len0 := HB.out.1
  go_loopw [10, 11] (fun any i wr => ∃ (k : Nat) (ds : List Nat) (b : Bool), k ≤ 32 ∧ i = .int .i64 k ∧ any = .bool b ∧ Any b (m % 2 ^ k) ∧ Own wr w.heap.size (.slice (some ⟨g, 0, none⟩) len0 cap) ds ∧ ds.length = len0 ∧ (∀ c ∈ ds, c < 256) ∧
      num ds = num bs ^^^ ((m % 2 ^ k) <<< f) ∧ Kept w wr) (fun _ i _ => 32 - (intOf i).toNat)
  case atStart => exact ⟨0, bs, false, by omega, rfl, rfl, hab, own2, hdb0, hby, hnb, k1⟩
  case round =>
    clear hab hnb own2 k1
    obtain ⟨k, ds, b, hk, rfl, rfl, hab, own, hdl, hdb, hnum, kk⟩ := hrel
    by_cases hgo : k < 32 ∧ f + k < 8 * len0
    · by_cases hbit : m / 2 ^ k % 2 = 1
      · have ht := bit_test hbit
        have hj : (f + k) / 8 < ds.length := by omega
        have hcl := own.cell hj
        have hfr := own.free ((f + k) / 8)
        have HNUM := Lib.hid hnum
        clear hnum
        go_wp2_with fail
        obtain ⟨e, he⟩ : ∃ e : Nat, f + k = e := ⟨_, rfl⟩
        rw [show ((f : Int) + (k : Int)) = (e : Int) by omega]
        rw [he] at hj hcl hfr
        have hi1 : 0 ≤ (e : Int) / 8 := by omega
        have hi2 : (e : Int) / 8 < (len0 : Int) := by omega
        have hi3 : ((e : Int) / 8).toNat = e / 8 := by omega
        have hc256 : ds.getD (e / 8) 0 < 256 := by
          rw [List.getD_eq_getElem?_getD, List.getElem?_eq_getElem hj]; exact hdb _ (List.getElem_mem _)
        have hx := turn_byte hc256 (show e % 8 < 8 by omega)
        have hxl := turn_lt hc256 (show e % 8 < 8 by omega)
        have HT := Lib.hid (turn_num HNUM.out hbit (by rw [he]; exact hj))
        have HM := Lib.hid (mask_one hbit)
        rw [he] at HT
        generalize hcc : ds.getD (e / 8) 0 = c at *
        generalize hcy : c ^^^ 1 <<< (e % 8) = y at *
        clear hcc hcy
        go_region
        go_wp2
        go_roundw
        case rel => exact ⟨k + 1, ds.set (e / 8) y, true, by omega, by go_num, rfl, by simp [Any, HM.out], own.store _ _, by simp [hdl], fun c hc => by
              rcases List.mem_or_eq_of_mem_set hc with h | h
              · exact hdb c h
              · omega, HT.out, (kk.setCell hgw _).drew⟩
        case measure => simp [intOf]; omega
      · have ht := bit_test0 (show m / 2 ^ k % 2 = 0 by omega)
        have HM := Lib.hid (mask_none (show m / 2 ^ k % 2 = 0 by omega))
        have HNUM := Lib.hid hnum
        clear hnum
        go_wp2
        go_roundw
        case rel => exact ⟨k + 1, ds, b, by omega, by go_num, rfl, by rw [HM.out]; exact hab, own, hdl, hdb, by rw [HM.out]; exact HNUM.out, kk⟩
        case measure => simp [intOf]; omega
    · have hMl : m % 2 ^ k < 4294967296 := Nat.lt_of_le_of_lt (Nat.mod_le _ _) hm
      have HT := Lib.hid (fun h : m % 2 ^ k ≠ 0 => turned (a := ds) (b := bs) (by rw [hdl, hdb0]) (show f ≤ 8 * bs.length by omega) hMl h hnum)
      clear hnum hMl
      cases b with
      | false =>
        go_wp2
        all_goals
          go_ret
          exact ⟨rfl, kk.1⟩
      | true =>
        have HNE := Lib.hid (HT.out (hab.1 rfl))
        clear HT hab
        obtain ⟨A, cap', he, hbt⟩ := own.bts (by omega) hdb
        cases he
        rw [hdl] at hbt
        go_wp2_with fail
        all_goals
          refine (CrcW.sum_any _ _ _ _ _ hbt).mono ?_
          rintro e u3 ⟨rfl, h3⟩
          have k3 := kk.call h3
          go_wp2_with fail
          refine (sum_kept HB.out rfl k3).mono ?_
          rintro e u4 ⟨rfl, k4⟩
          have hne : (((CrcM.sum ds : Nat) : Int) != ((CrcM.sum bs : Nat) : Int)) = true := by
            rw [bne_iff_ne]; intro h; exact HNE.out (by omega)
          generalize CrcM.sum ds = s1 at *
          generalize CrcM.sum bs = s2 at *
          go_wp2
          go_ret
          exact ⟨rfl, k4.1⟩
end Go.Proofs.Ythegohpkjfoaoaa
