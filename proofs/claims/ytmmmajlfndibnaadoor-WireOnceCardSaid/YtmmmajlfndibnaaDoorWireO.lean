/- WireOnce -/
import Derived.Test.YtmmmajlfndibnaaDoorWireK
import Derived.Deep.RegionHeld3
import Derived.Deep.RegionWith
namespace Go.Proofs.YtmmmajlfndibnaaDoor
open Go.RowKit
theorem row_of {w : World} {A : Option Addr} {n cap : Nat} (h : SliceAt 1 1 (IsInt .u8) w A n cap) : ∃ bs, Row w A n cap bs := by
  obtain ⟨bs, hb⟩ := bts_of h
  exact ⟨bs, hb, h.2.2.2.1, h.1, h.2.1⟩
set_option maxRecDepth 100000 in
set_option maxHeartbeats 4000000 in
theorem WireOnce_walk (a0 : Option Addr) (len0 cap0 : Nat) (w : World) (hg : Laid w) (w0 : SliceAt 1 1 (IsInt .u8) w a0 len0 cap0) :
    Calls Tryd.prog 6 #[.slice a0 len0 cap0] w fun e w' => e = .returned (.bool true) ∧ Below w.heap.size w w' := by
  obtain ⟨bs, hrow⟩ := row_of w0
  have hl := hrow.len
  have hmax := hrow.bts.2.1
  have HR := Lib.hid hrow
  have hget := fun n k => get_back (n := n) (k := k) hrow.bts.2.2.1
  have herr := fun n k c => get_err (bs := bs) (n := n) (k := k) (c := c)
  clear w0 hrow
  go_enter Tryd.func6, Tryd.ntmps6
  go_wp2_with fail
  refine (awake_any w hg).mono ?_
  rintro e w1 ⟨rfl, h1⟩
  have k1 : Kept w w1 := (Kept.refl w).call h1
  clear h1
  go_wp2_with fail
  refine (from_any a0 len0 cap0 bs w1 (HR.out.below k1.1)).mono ?_
  rintro e w2 ⟨r, rfl, rd, hr, h2⟩
  have k2 := k1.call h2
  have hrw : w.heap.size ≤ r := Nat.le_trans k1.2 hr
  clear h2 k1 hr
  go_wp2_with fail
  refine (runt_any r bs 0 w2 rd).mono ?_
  rintro e w3 ⟨rfl, rd3, o3⟩
  have k3 : Kept w w3 := ⟨k2.1.trans (o3.below hrw k2.2), Nat.le_trans k2.2 o3.size⟩
  clear rd k2 o3
  rw [List.drop_zero, Nat.zero_add] at *
  generalize hG : get bs = G at *
  obtain ⟨n, k, c⟩ := G
  simp only at rd3 ⊢
  by_cases hc : c = 0
  · subst hc
    obtain ⟨e1, e2, e3, e4⟩ := hget n k rfl
    have hE : errv 0 0 = .nilIface := rfl
    rw [hE]
    go_wp2_with fail
    have k4 := k3.alloc (.cells #[.slice none 0 0] 53)
    refine (wuint_any w3.heap.size w3.heap.size [] n _ (Wr.new w3 _ (Nat.le_refl _)) e3 (by have := put_ten e3; simp; omega)).mono ?_
    rintro e w5 ⟨rfl, h5, b5, -⟩
    have bb : Below w3.heap.size w3 w5 := ((Below.refl _ _).alloc (Nat.le_refl _) _).trans b5
    have k5 := k3.call bb
    have rd5 := rd3.below bb
    clear b5 k4 bb rd3 k3
    rw [List.nil_append] at h5
    have hlen := put_ten e3
    have H5 := Lib.hid h5
    have R5 := Lib.hid rd5
    have hL : (((bs.length - k : Nat) : Int)) = (len0 : Int) - (k : Int) := by omega
    have hsub : (len0 : Int) - ((len0 : Int) - (k : Int)) = (k : Int) := by omega
    have hlo : 0 ≤ (len0 : Int) - (k : Int) := by omega
    have hhi : (len0 : Int) - (k : Int) ≤ (len0 : Int) := by omega
    have hkc : (k : Int) ≤ (cap0 : Int) := by have := HR.out.room; omega
    have hwk : IntKind.i64.wrap (k : Int) = (k : Int) := by rw [IntKind.wrap_i64]; omega
    generalize (len0 : Int) - (k : Int) = L at *
    clear h5 rd5 hget herr hE
    go_wp2
    have ht : ∀ W : World, Kept w5 W → Calls Tryd.prog 22 #[.pointer (some ⟨w3.heap.size, 0, none⟩)] W fun e W' => ∃ A cap, e = .returned (.slice A k cap) ∧ Row W' A k cap (put n) ∧ Below W.heap.size W W' := by
      intro W hk
      rw [e1]
      refine (told_any _ _ _ _ (H5.out.below hk.1) (by omega)).mono ?_
      rintro e W' ⟨v, rfl, own, hb⟩
      obtain ⟨A, cap, rfl, hr⟩ := own.row (by omega) (put_byte n)
      exact ⟨A, cap, rfl, hr, hb⟩
    have hlf : ∀ W : World, Kept w5 W → Calls Tryd.prog 16 #[.pointer (some ⟨r, 0, none⟩)] W fun e W' => e = .returned (.int .i64 L) ∧ Below W.heap.size W W' := by
      intro W hk
      have := left_any r bs k W (R5.out.below hk.1)
      rw [hL] at this
      exact this
    have hcv : ∀ W : World, Kept w5 W → (convert 24 9 (.slice a0 k cap0)).run Tryd.prog W = .ok (.string (txt (put n))) W := by
      intro W hk
      have := run_text (c := cap0) ((HR.out.bts.head (m := k) (by omega)).below (k5.trans ⟨hk.1, hk.2⟩).1) (fun h => by have := HR.out.nil h; have := HR.out.room; omega)
      rw [e2] at this
      exact this
    have HT := Lib.hid ht
    have HL := Lib.hid hlf
    have HC := Lib.hid hcv
    rw [← e1] at hlen
    clear ht hlf hL hcv e1 e2
    have kd := (Kept.refl w5).drew
    go_region_with (first
      | (go_at_call 22
         refine (HT.out _ kd).mono ?_
         rintro e w6 ⟨A, cap, rfl, hr6, b6⟩
         have k6 := kd.call b6
         have t6 := run_text (c := cap) hr6.bts (fun h => by have := hr6.nil h; have := hr6.room; omega))
      | (go_at_call 16
         refine (HL.out _ k6).mono ?_
         rintro e w7 ⟨rfl, b7⟩
         have k7 := k6.call b7
         have t7 := run_text (c := cap) (hr6.below b7).bts (fun h => by have := hr6.nil h; have := hr6.room; omega)
         have c7 := HC.out _ k7))
    all_goals go_wp2
    all_goals go_ret
    all_goals exact ⟨rfl, (k5.trans k7).1⟩
  · have hz := herr n k c rfl
    have hE : errv c 0 = .iface 97 (.agg #[.int .i64 (c : Int), .int .i64 0]) := if_neg hc
    rw [hE]
    obtain ⟨rfl, rfl⟩ : n = 0 ∧ k = 0 := by omega
    go_wp2_with fail
    refine (left_any r bs 0 w3 rd3).mono ?_
    rintro e w4 ⟨rfl, h4⟩
    have k4 := k3.call h4
    rw [Nat.sub_zero, hl]
    go_wp2
    go_ret
    exact ⟨rfl, k4.1⟩
end Go.Proofs.YtmmmajlfndibnaaDoor
