/- The walk of CmdCuts: no beginning of a command's bytes is a command, nor are they with more behind. -/
import Derived.Test.YtegjlcmeaelbnaaDoorCmdB
namespace Go.Proofs.YtegjlcmeaelbnaaDoor
open Go.RowKit

set_option maxRecDepth 100000 in
set_option maxHeartbeats 4000000 in
theorem CmdCuts_walk (a0 : List Value) (a1 : Int) (a2 : Int) (w : World) (hg : Laid w) (w0 : (fun w cs => cs.length = 9 ∧ IsStruct [(0, 1, (IsInt .i64)), (1, 1, (IsInt .i64)), (2, 1, (IsInt .i64)), (3, 1, (IsInt .i64)), (4, 1, (IsInt .i64)), (5, 1, (IsInt .i64)), (6, 1, (IsInt .i64)), (7, 1, (IsInt .i64)), (8, 1, (IsInt .i64))] w cs : World → List Value → Prop) w a0) (w1 : (Lit.int .u8 a1).wf = true) (w2 : (Lit.int .u8 a2).wf = true) :
    Calls Tryd.prog 6 #[.agg a0.toArray, .int .u8 a1, .int .u8 a2] w fun e w' => e = .returned (.bool true) ∧ Below w.heap.size w w' := by
  obtain ⟨n0, n1, n2, n3, n4, n5, n6, n7, n8, rfl⟩ := cmd_of w0
  obtain ⟨at_, hat, rfl⟩ := byte_of_wf w1
  obtain ⟨mo, hmo, rfl⟩ := byte_of_wf w2
  have hc0 := push_new w (.cells #[.int .i64 n0, .int .i64 n1, .int .i64 n2, .int .i64 n3, .int .i64 n4, .int .i64 n5, .int .i64 n6, .int .i64 n7, .int .i64 n8] 23)
  have k0 : Kept w (w.alloc (.cells #[.int .i64 n0, .int .i64 n1, .int .i64 n2, .int .i64 n3, .int .i64 n4, .int .i64 n5, .int .i64 n6, .int .i64 n7, .int .i64 n8] 23)) := (Kept.refl w).alloc _
  have HC0 := Lib.hid hc0
  have K0 := Lib.hid k0
  have HG := Lib.hid hg
  by_cases hok : Ok [n0, n1, n2, n3, n4, n5, n6, n7, n8]
  · have henc := fun w hg => encode_ok [n0, n1, n2, n3, n4, n5, n6, n7, n8] rfl hok w hg
    have hsix := encN_six [n0, n1, n2, n3, n4, n5, n6, n7, n8] 0 (ok_goods rfl hok)
    have hby := encN_byte [n0, n1, n2, n3, n4, n5, n6, n7, n8] 0
    have hpos : 0 < (encN 0 [n0, n1, n2, n3, n4, n5, n6, n7, n8]).length := by
      rw [encN, List.length_append]
      have := enc_pos 0 n0
      omega
    have hcut := fun k hk => dec_cut (ns := [n0, n1, n2, n3, n4, n5, n6, n7, n8]) rfl hok (k := k) hk
    obtain ⟨p2, hmore⟩ := dec_more (ns := [n0, n1, n2, n3, n4, n5, n6, n7, n8]) rfl hok mo
    simp only [List.length_cons, List.length_nil] at hsix
    generalize encN 0 [n0, n1, n2, n3, n4, n5, n6, n7, n8] = bs at *
    obtain ⟨k, hk, hklt⟩ : ∃ k : Nat, (at_ : Int) % (bs.length : Int) = (k : Int) ∧ k < bs.length := ⟨at_ % bs.length, by simp, Nat.mod_lt _ hpos⟩
    have hkt : (at_ : Int).tmod (bs.length : Int) = (k : Int) := by rw [Int.tmod_eq_emod_of_nonneg (by omega), hk]
    obtain ⟨p1, hcut⟩ := hcut k hklt
    have hd1 := fun A n cap w h hg => decode_any A n cap (bs.take k) w h hg
    have hd2 := fun A n cap w h hg => decode_any A n cap (bs ++ [mo]) w h hg
    rw [hcut] at hd1
    rw [hmore] at hd2
    have he3 : decE 3 (some p1) = cfault (fault 3 (p1 : Int)) := rfl
    have he2 : decE 2 (some p2) = cfault (fault 2 (p2 : Int)) := rfl
    simp only [he3] at hd1
    simp only [he2] at hd2
    have hco3 := fun w hg => code_cfault 3 (p1 : Int) w hg
    have hco2 := fun w hg => code_cfault 2 (p2 : Int) w hg
    have hcf : ∀ c p, cfault (fault c p) = .iface 78 (.agg #[.iface 75 (.agg #[.int .i64 c, .int .i64 p])]) := fun _ _ => rfl
    rw [hcf] at hd1 hd2 hco3 hco2
    unfold zeros nums at *
    simp only [List.map_cons, List.map_nil] at *
    have hby2 : ∀ c ∈ bs ++ [mo], c < 256 := fun c hc => by
      rcases List.mem_append.1 hc with h | h
      · exact hby c h
      · have := List.mem_singleton.1 h; omega
    generalize hN : bs.length = N at *
    have HN := Lib.hid hN
    have HE := Lib.hid henc
    have HD1 := Lib.hid hd1
    have HD2 := Lib.hid hd2
    have HCO3 := Lib.hid hco3
    have HCO2 := Lib.hid hco2
    have HBY := Lib.hid hby
    have HBY2 := Lib.hid hby2
    clear henc hd1 hd2 hco3 hco2 hcf hby hby2 hok w0 w1 w2 hg hc0 k0 hcut hmore he3 he2 hN
    go_enter Tryd.func6, Tryd.ntmps6
    go_wp2_with (first
      | (go_at_call 9; refine (awake_any _ (HG.out.below K0.out.1)).mono ?_; rintro e w1 ⟨rfl, b1⟩
         have HC1 := Lib.hid ((b1.block w.heap.size (heap_lt HC0.out)).trans HC0.out)
         have K1 := Lib.hid (K0.out.call b1)
         have hc1 := HC1.out
         have p0 := cell_of_heap hc1 0; have p1 := cell_of_heap hc1 1; have p2 := cell_of_heap hc1 2; have p3 := cell_of_heap hc1 3; have p4 := cell_of_heap hc1 4; have p5 := cell_of_heap hc1 5; have p6 := cell_of_heap hc1 6; have p7 := cell_of_heap hc1 7; have p8 := cell_of_heap hc1 8; simp only [List.getElem?_toArray, List.getElem?_cons_zero, List.getElem?_cons_succ] at p0 p1 p2 p3 p4 p5 p6 p7 p8
         clear b1 hc1)
      | (go_at_call 10; refine (HE.out _ (HG.out.below K1.out.1)).mono ?_; rintro e w2 ⟨v, rfl, own, b2⟩
         obtain ⟨A, cap, rfl, hrow⟩ := own.row (by have := HN.out; omega) HBY.out
         rw [HN.out] at hrow ⊢
         have K2 := Lib.hid (K1.out.call b2)
         have R2 := Lib.hid hrow
         have hroom := hrow.room
         have hsl := fun W => run_headAt A N cap k (by omega) W
         have hsl2 := fun W => run_head A N cap k (by omega) W
         clear b2 own hrow)
      | fail)
    refine (HD1.out A k cap _ ⟨R2.out.bts.head (by omega), R2.out.nil, by omega, R2.out.most⟩ (HG.out.below K2.out.1)).mono ?_
    rintro e w3 ⟨rfl, b3⟩
    have bb := b3.alloc b3.size (.cells #[.int .i64 0, .int .i64 0, .int .i64 0, .int .i64 0, .int .i64 0, .int .i64 0, .int .i64 0, .int .i64 0, .int .i64 0] 23)
    have K3 := Lib.hid (K2.out.call bb)
    have R3 := Lib.hid (R2.out.below bb)
    have own0 : Own ((w3.alloc (.cells #[.int .i64 0, .int .i64 0, .int .i64 0, .int .i64 0, .int .i64 0, .int .i64 0, .int .i64 0, .int .i64 0, .int .i64 0] 23)).alloc (.cells #[] 5)) w.heap.size (.slice (some ⟨(w3.alloc (.cells #[.int .i64 0, .int .i64 0, .int .i64 0, .int .i64 0, .int .i64 0, .int .i64 0, .int .i64 0, .int .i64 0, .int .i64 0] 23)).heap.size, 0, none⟩) 0 0) [] := Own.lit [] K3.out.2 (by simp)
    rw [World.size_alloc] at own0
    have O0 := Lib.hid own0
    have K3' := Lib.hid (K3.out.alloc (.cells #[] 5))
    have R3' := Lib.hid (R3.out.below ((Below.refl _ _).alloc (Nat.le_refl _) (.cells #[] 5)))
    clear bb b3 own0
    go_wp2_with (first
      | (at_builtin
         refine wpList_append_bts rfl (.tmp 40) (.tmp 41) rfl (v := .slice (some ⟨w3.heap.size + 1, 0, none⟩) 0 0) (base := w.heap.size) (ds := []) (bs := bs) (n := N) rfl rfl O0.out R3'.out.bts R3'.out.nil (by simp; omega) K3'.out.2 ?_
         intro v4 w4 own4 gr4 at4
         have K4 := Lib.hid ((K3'.out.append O0.out gr4).alloc (.cells #[.int .u8 (mo : Int)] 5))
         obtain ⟨A4, n4', c4, rfl⟩ := own4.slice
         have O4 := Lib.hid (own4.alloc' (.cells #[.int .u8 (mo : Int)] 5))
         clear own4 gr4 at4)
      | (at_builtin
         refine wpList_append_bts rfl (.tmp 42) (.tmp 44) rfl (v := .slice A4 n4' c4) (base := w.heap.size) (ds := [] ++ bs) (bs := [mo]) (n := 1) rfl rfl O4.out (bts_one w4 5 (0, 0) rfl hmo) (by simp) (by rw [List.nil_append, HN.out]; omega) K4.out.2 ?_
         intro v5 w5 own5 gr5 at5
         have K5 := Lib.hid (K4.out.append O4.out gr5)
         rw [List.nil_append] at own5
         obtain ⟨A5, c5, rfl, hrow5⟩ := own5.row (by rw [List.length_append, HN.out, List.length_singleton]; omega) HBY2.out
         have e5 : (bs ++ [mo]).length = N + 1 := by rw [List.length_append, HN.out, List.length_singleton]
         rw [e5] at hrow5 ⊢
         have R5 := Lib.hid hrow5
         clear own5 gr5 at5 hrow5 e5)
      | fail)
    refine (HD2.out A5 _ c5 _ R5.out (HG.out.below K5.out.1)).mono ?_
    rintro e w6 ⟨rfl, b6⟩
    have K6 := Lib.hid ((K5.out.call b6).alloc (.cells #[.int .i64 0, .int .i64 0, .int .i64 0, .int .i64 0, .int .i64 0, .int .i64 0, .int .i64 0, .int .i64 0, .int .i64 0] 23))
    clear b6
    go_wp2_with fail
    refine (HCO3.out _ (HG.out.below K6.out.1)).mono ?_
    rintro e w7 ⟨rfl, b7⟩
    have K7 := Lib.hid (K6.out.call b7)
    clear b7
    go_wp2_with fail
    refine (HCO2.out _ (HG.out.below K7.out.1)).mono ?_
    rintro e w8 ⟨rfl, b8⟩
    have K8 := Lib.hid (K7.out.call b8)
    clear b8
    go_wp2
    go_ret
    exact ⟨rfl, K8.out.1⟩
  · have henc := fun w hg => encode_bad [n0, n1, n2, n3, n4, n5, n6, n7, n8] rfl hok w hg
    unfold nums cfault errno at *
    simp only [List.map_cons, List.map_nil] at *
    have hN := fun w => run_neq_held_nil (P := Tryd.prog) w 27 78 (.agg #[.iface 36 (.int .i64 1)]) (by kernel_rfl)
    have HE := Lib.hid henc
    clear henc hok w0 w1 w2 hg hc0 k0
    go_enter Tryd.func6, Tryd.ntmps6
    go_wp2_with (first
      | (go_at_call 9; refine (awake_any _ (HG.out.below K0.out.1)).mono ?_; rintro e w1 ⟨rfl, b1⟩
         have HC1 := Lib.hid ((b1.block w.heap.size (heap_lt HC0.out)).trans HC0.out)
         have K1 := Lib.hid (K0.out.call b1)
         have hc1 := HC1.out
         have p0 := cell_of_heap hc1 0; have p1 := cell_of_heap hc1 1; have p2 := cell_of_heap hc1 2; have p3 := cell_of_heap hc1 3; have p4 := cell_of_heap hc1 4; have p5 := cell_of_heap hc1 5; have p6 := cell_of_heap hc1 6; have p7 := cell_of_heap hc1 7; have p8 := cell_of_heap hc1 8; simp only [List.getElem?_toArray, List.getElem?_cons_zero, List.getElem?_cons_succ] at p0 p1 p2 p3 p4 p5 p6 p7 p8
         clear b1 hc1)
      | (go_at_call 10; refine (HE.out _ (HG.out.below K1.out.1)).mono ?_; rintro e w2 ⟨rfl, b2⟩
         have K2 := Lib.hid (K1.out.call b2)
         clear b2)
      | fail)
    go_ret
    exact ⟨rfl, K2.out.1⟩
end Go.Proofs.YtegjlcmeaelbnaaDoor
