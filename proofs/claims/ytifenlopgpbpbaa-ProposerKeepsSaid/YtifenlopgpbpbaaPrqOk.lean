/- The walk of ProposerKeeps. -/
import Derived.Test.YtifenlopgpbpbaaPrqOb
namespace Go.Proofs.Ytifenlopgpbpbaa
open Go.RowKit Go.Great

def wasV : Option Nat → Value
  | none => .int .i64 (-1)
  | some j => .int .i64 (j : Int)
theorem Inv.ask {v0 : List Nat} {s : Sl} (I : Inv v0 s) (k : Nat) : ∀ m, Inv v0 (askTo s k m)
  | 0 => I
  | m + 1 => (Inv.ask I k m).play _
theorem ev_ask {q m : Nat} (hq : q ≤ 1000) (hm : m ≤ 1000) : EvOk ⟨1, 0, q, m, false⟩ :=
  ⟨(by decide : (-9223372036854775808 : Int) ≤ 1 ∧ (1 : Int) ≤ 9223372036854775807), (by decide : (-9223372036854775808 : Int) ≤ 0 ∧ (0 : Int) ≤ 9223372036854775807), (by omega : (-9223372036854775808 : Int) ≤ (q : Int) ∧ (q : Int) ≤ 9223372036854775807), (by omega : (-9223372036854775808 : Int) ≤ (m : Int) ∧ (m : Int) ≤ 9223372036854775807)⟩
theorem Few.ask {B : Nat} {s : Sl} (h : Few B s) (k : Nat) : ∀ m, Few (B + m) (askTo s k m)
  | 0 => h
  | m + 1 => (Few.ask h k m).play _

set_option maxRecDepth 100000 in
set_option maxHeartbeats 16000000 in
theorem ProposerKeeps_walk (a0 : List Value) (w : World) (w0 : (fun w cs => cs.length = 4 ∧ IsStruct [(0, 1, (IsInt .u8)), (1, 1, (IsInt .u8)), (2, 1, (IsSlice 1 1 (IsInt .u8))), (3, 1, (IsSlice 5 40 (fun w cs => cs.length = 5 ∧ IsStruct [(0, 1, (IsInt .i64)), (1, 1, (IsInt .i64)), (2, 1, (IsInt .i64)), (3, 1, (IsInt .i64)), (4, 1, IsBool)] w cs)))] w cs : World → List Value → Prop) w a0) :
    Calls Try.prog 6 #[.agg a0.toArray] w fun e w' => e = .returned (.bool true) ∧ Below w.heap.size w w' := by
  obtain ⟨N, ow, VA, vm, vc, v0, LA, ln, lc, l, rfl, hN, hO, hrow, hl, hR, hE⟩ := slotarg_of w0
  clear w0
  obtain ⟨m, hm1, hm2, hm3⟩ : ∃ m : Int, N % 7 = m ∧ N.tmod 7 = m ∧ 0 ≤ m ∧ m < 7 := ⟨N % 7, rfl, Int.tmod_eq_emod_of_nonneg hN.1, Int.emod_nonneg _ (by decide), Int.emod_lt_of_pos _ (by decide)⟩
  obtain ⟨K, hK, hK1⟩ : ∃ K : Int, 1 + m = K ∧ 1 ≤ K ∧ K ≤ 7 := ⟨1 + m, rfl, by omega, by omega⟩
  obtain ⟨r, hr1, hr2, hr3⟩ : ∃ r : Int, ow % K = r ∧ ow.tmod K = r ∧ 0 ≤ r ∧ r < K := ⟨ow % K, rfl, Int.tmod_eq_emod_of_nonneg hO.1, Int.emod_nonneg _ (by omega), Int.emod_lt_of_pos _ (by omega)⟩
  have hK0 : (K == 0) = false := by simp; omega
  have hK00 : ¬ K = 0 := by omega
  have hwm : IntKind.u8.wrap m = m := by simp [IntKind.wrap, IntKind.bits, IntKind.signed] <;> omega
  have hwm2 : IntKind.i64.wrap m = m := by rw [IntKind.wrap_i64]; omega
  have hwK : IntKind.i64.wrap K = K := by rw [IntKind.wrap_i64]; omega
  have hwr : IntKind.i64.wrap r = r := by rw [IntKind.wrap_i64]; omega
  have hwo : IntKind.i64.wrap ow = ow := by rw [IntKind.wrap_i64]; omega
  have HR := Lib.hid hR
  have HL := Lib.hid hl
  have HE := Lib.hid hE
  have HROW := Lib.hid hrow
  have KV : Hid (Kept w (w.alloc (.cells #[.int .u8 N, .int .u8 ow, .slice VA vm vc, .slice LA ln lc] 43))) := Lib.hid ((Kept.refl w).alloc _)
  have PV : Hid ((w.alloc (.cells #[.int .u8 N, .int .u8 ow, .slice VA vm vc, .slice LA ln lc] 43)).heap[w.heap.size]? = some (.cells #[.int .u8 N, .int .u8 ow, .slice VA vm vc, .slice LA ln lc] 43 (0, 0))) := Lib.hid (push_new w _)
  have HINV : Hid (Inv v0 ⟨K, List.replicate 7 Ac.zero, [⟨0, r, [], true, v0, []⟩]⟩) := Lib.hid (Inv.begun hK1.1 hK1.2 hr3.1)
  clear hR hl hE hrow
  go_enter Try.func6, Try.ntmps6
  go_wp2_with fail
  refine (prawake_any _).mono ?_
  rintro e v ⟨rfl, k1⟩
  have KV2 := Lib.hid (KV.out.trans k1)
  have PV2 := Lib.hid ((k1.1.block _ (heap_lt PV.out)).trans PV.out)
  have b0 := cell_of_heap PV2.out 0
  have b1 := cell_of_heap PV2.out 1
  have b2 := cell_of_heap PV2.out 2
  have b3 := cell_of_heap PV2.out 3
  simp only [List.getElem?_toArray, List.getElem?_cons_zero, List.getElem?_cons_succ] at b0 b1 b2 b3
  clear k1 KV PV
  go_wp2_with fail
  have T1 : Hid (∀ W', Kept v.drew W' → W'.cell? ⟨w.heap.size, 0, none⟩ = some (.int .u8 N) ∧ W'.cell? ⟨w.heap.size, 1, none⟩ = some (.int .u8 ow) ∧ W'.cell? ⟨w.heap.size, 2, none⟩ = some (.slice VA vm vc)) := Lib.hid (fun W' h => by
    have k' : Kept v W' := (Kept.refl _).drew.trans h
    have hp := (k'.1.block _ (heap_lt PV2.out)).trans PV2.out
    exact ⟨cell_of_heap hp 0, cell_of_heap hp 1, cell_of_heap hp 2⟩)
  have TC : Hid (∀ W', Kept v.drew W' → Calls Try.prog 18 #[.int .i64 K, .int .i64 r, .slice VA vm vc] W' fun e w' => ∃ u, e = .returned u ∧ Kept W' w' ∧ BegT v.heap.size K r v0 u w') := Lib.hid (fun W' h => by
    have k' : Kept w W' := KV2.out.trans ((Kept.refl _).drew.trans h)
    refine (begun_any K r (HROW.out.below k'.1)).mono ?_
    rintro e u ⟨u', rfl, hk2, b, VA', vn, vc', e1, h1, h2, h3⟩
    exact ⟨u', rfl, hk2, b, VA', vn, vc', e1, h1.base h.2, h2, h3⟩)
  refine wp_region_typed (N := 10) (fl := []) (by kernel_rfl) (by kernel_rfl) ?_
  simp only [List.take_succ_cons, List.take_zero, List.drop_succ_cons, List.drop_zero, List.map_cons, List.map_nil, zipF]
  repeat (first
    | (refine wpT_has (BegT.mono v.heap.size K r v0) rfl (fun ρ w hk ⟨c1, c2, c3⟩ ⟨h1, h2, h3, _⟩ => ?_) ?_
       · have h1 : ρ (.tmp 23) = _ := h1
         have h2 : ρ (.tmp 28) = _ := h2
         have h3 : ρ (.tmp 30) = _ := h3
         refine upT_call 18 #[.int .i64 K, .int .i64 r, .slice VA vm vc] ?_ ((TC.out w hk).mono ?_)
         · go_simp
         · rintro e u ⟨u', rfl, hk2, ht⟩
           exact ⟨_, rfl, hk2, ht⟩
       dsimp only [putS, List.set_cons_succ, List.set_cons_zero])
    | (refine wpT_skip rfl ?_; dsimp only [putS, List.set_cons_succ, List.set_cons_zero])
    | (refine wpT_slot (S := .is _) _ (.inl rfl) rfl (Slot.mono_is _) rfl ?_; dsimp only [putS, List.set_cons_succ, List.set_cons_zero])
    | (refine wpT_slot (S := .is _) _ (.inr rfl) rfl (Slot.mono_is _) rfl ?_; dsimp only [putS, List.set_cons_succ, List.set_cons_zero])
    | (refine wpT_exact1 rfl rfl rfl ?_; apply Exists.intro; refine ⟨fun ρ w hk ⟨c1, c2, c3⟩ h1 => ?_, ?_⟩; (· obtain ⟨t1, t2, t3⟩ := T1.out w hk; go_simp; exact rfl); dsimp only [putS, List.set_cons_succ, List.set_cons_zero])
    | (refine wpT_exact2 rfl rfl rfl rfl ?_; apply Exists.intro; refine ⟨fun ρ w hk ⟨c1, c2, c3⟩ h1 h2 => ?_, ?_⟩; (· obtain ⟨t1, t2, t3⟩ := T1.out w hk; go_simp; exact rfl); dsimp only [putS, List.set_cons_succ, List.set_cons_zero])
    | (refine wpT_exact3 rfl rfl rfl rfl rfl ?_; apply Exists.intro; refine ⟨fun ρ w hk ⟨c1, c2, c3⟩ h1 h2 h3 => ?_, ?_⟩; (· obtain ⟨t1, t2, t3⟩ := T1.out w hk; go_simp; exact rfl); dsimp only [putS, List.set_cons_succ, List.set_cons_zero])
    | (refine wpT_exact4 rfl rfl rfl rfl rfl rfl ?_; apply Exists.intro; refine ⟨fun ρ w hk ⟨c1, c2, c3⟩ h1 h2 h3 h4 => ?_, ?_⟩; (· obtain ⟨t1, t2, t3⟩ := T1.out w hk; go_simp; exact rfl); dsimp only [putS, List.set_cons_succ, List.set_cons_zero])
    | (refine wpT_exact0 rfl ?_; apply Exists.intro; refine ⟨fun ρ w hk ⟨c1, c2, c3⟩ => ?_, ?_⟩; (· obtain ⟨t1, t2, t3⟩ := T1.out w hk; go_simp; exact rfl); dsimp only [putS, List.set_cons_succ, List.set_cons_zero])
    | (refine wpT_has (PtrN.mono v.heap.size 49 (begA 0 none 0 0)) rfl (fun ρ w hk ⟨c1, c2, c3⟩ (_ : True) => upT_made (.pointer (some ⟨w.heap.size, 0, none⟩)) (w' := w.alloc (.cells (begA 0 none 0 0) 49)) ?_ ((Kept.refl w).alloc _) ⟨_, rfl, hk.2, push_new w _⟩) ?_; (· kernel_rfl); dsimp only [putS, List.set_cons_succ, List.set_cons_zero])
    | fail)
  refine wpT_nil ?_
  intro wz kz
  simp only [Fits]
  rintro u6 ⟨z, rfl, hz, hvz⟩ u25 ⟨b, VA', vn', vc', rfl, hown, hvn, hrow⟩
  have kz' : Kept v wz := (Kept.refl _).drew.trans kz
  refine wpList_store_rowTo rfl 49 _ _ rfl rfl z (begA K (some ⟨b, 0, none⟩) 1 1) (by kernel_rfl) (by kernel_rfl) 49 (begA 0 none 0 0) hvz (by kernel_rfl) (by kernel_rfl) (by kernel_rfl) ?_
  refine wpList_end ?_
  have S0 := Lib.hid (begun_slot (n := K) kz' hz hvz hown hvn hrow)
  clear kz kz' hvz hown hvn hrow T1 TC b0 b1 b2 b3
  generalize wz.setRow z (begA K (some ⟨b, 0, none⟩) 1 1) = W0 at *
  clear hm1 hm2 hK hr1 hr2 hK0 hK00 hwm hwm2 hwK hwr hwo
  go_wp2_with fail
  obtain ⟨s0, hs0⟩ : ∃ s0, s0 = (⟨K, List.replicate 7 Ac.zero, [⟨0, r, [], true, v0, []⟩]⟩ : Sl) := ⟨_, rfl⟩
  have hs0n : s0.n = K := by rw [hs0]
  rw [← hs0] at S0 HINV
  have HF0 : Hid (Few 1 s0) := Lib.hid (by rw [hs0]; exact few_begun _ _ _)
  have HS0N := Lib.hid hs0n
  clear hs0 hs0n
  go_loopw [7] (fun i wr => ∃ (k : Nat) (Wr : World), Wr = wr ∧ k ≤ ln ∧ k ≤ 150 ∧ i = .int .i64 k ∧ SlW v Wr z (runS s0 (l.take k))) (fun i _ => ln - (intOf i).toNat)
  case atStart => exact ⟨0, _, rfl, Nat.zero_le _, Nat.zero_le _, rfl, S0.out⟩
  case round =>
    obtain ⟨k, Wr, rfl, hk, hk2, rfl, hst⟩ := hrel
    have HST := Lib.hid hst
    have hkw : Kept v Wr := by obtain ⟨sl, rl, R, rc, M, H⟩ := hst; exact M.kept
    have HKW := Lib.hid hkw
    clear hst hkw
    by_cases hc : k < ln ∧ k < 150
    · obtain ⟨hlt, h150⟩ := hc
      have hkl : k < l.length := by rw [HL.out]; exact hlt
      obtain ⟨lb, lo, rfl, -, c0, c1, c2, c3, c4⟩ := EE_five (HR.out.kept (KV2.out.trans HKW.out)) hkl
      have HSN : Hid (runS s0 (l.take (k + 1)) = playS (runS s0 (l.take k)) l[k]) := Lib.hid (by rw [List.take_succ_eq_append_getElem hkl, runS_snoc])
      have HIK := Lib.hid (HINV.out.run (l.take k))
      have HFK : Hid (Few 1000 (runS s0 (l.take k))) := Lib.hid ((HF0.out.run (l.take k)).mono (by rw [List.length_take]; omega))
      have HEK := Lib.hid (HE.out l[k] (List.getElem_mem hkl))
      generalize l[k] = ev at *
      have HP := Lib.hid (play_any HST.out HIK.out HFK.out ev HEK.out)
      generalize runS s0 (l.take k) = sk at *
      obtain ⟨ki, p, kk, ai, lost⟩ := ev
      simp only at c0 c1 c2 c3 c4 HP
      go_wp2_with fail
      refine HP.out.mono ?_
      rintro e W1 ⟨rfl, hw1⟩
      have HW1 := Lib.hid hw1
      clear hw1 c0 c1 c2 c3 c4
      go_wp2
      go_roundw
      case rel => exact ⟨k + 1, _, rfl, by omega, by omega, by go_num, by rw [HSN.out]; exact HW1.out⟩
      case measure => simp [intOf]; omega
    · have HIK := Lib.hid (HINV.out.run (l.take k))
      have HFK : Hid (Few 151 (runS s0 (l.take k))) := Lib.hid ((HF0.out.run (l.take k)).mono (by rw [List.length_take]; omega))
      have HNK : Hid ((runS s0 (l.take k)).n = K) := Lib.hid ((runS_n _ _).trans HS0N.out)
      have hex : k < ln ∧ ¬ k < 150 ∨ k = ln := by omega
      clear hc
      generalize runS s0 (l.take k) = sF at *
      clear HINV HF0 HS0N S0
      obtain ⟨sn, sall, srds⟩ := sF
      have hsn : sn = K := HNK.out
      subst hsn
      obtain ⟨Ns, hNs⟩ : ∃ q, srds.length = q := ⟨_, rfl⟩
      have HNs := Lib.hid hNs
      have hNsB : Ns ≤ 151 := by have := HFK.out.1; simp only at this; omega
      have hNs1 : 1 ≤ Ns := by
        obtain ⟨y0, hy0, -⟩ := HIK.out.first
        have := get_lt hy0
        simp only at this
        omega
      clear hNs
      have HKK : Hid (1 ≤ sn ∧ sn ≤ 7) := Lib.hid hK1
      rcases hex with ⟨hlt, h150⟩ | rfl
      all_goals
        obtain ⟨sl, rl, R, rc, M, H⟩ := HST.out
        have hm0 : rl.length = Ns := by rw [H.many]; exact HNs.out
        obtain ⟨RB, rfl, -, -, -, -, -, -⟩ := M.round (k := 0) (by omega)
        have HM := Lib.hid M
        have HH := Lib.hid H
        have HMN := Lib.hid hm0
        clear M H hm0
        simp only at HM
        go_wp2_with fail
        go_loopw [8, 9] (fun wa i wq => ∃ (q : Nat) (j : Option Nat) (Wq : World), Wq = wq ∧ q ≤ Ns ∧ i = .int .i64 q ∧ wa = wasV j ∧ Kept Wr Wq ∧ (∀ j', j = some j' → j' < Ns ∧ ∃ y, srds[j']? = some y ∧ decidedV y.vs y.r y.s sn = true)) (fun _ i _ => Ns - (intOf i).toNat)
        case atStart => exact ⟨0, none, _, rfl, Nat.zero_le _, rfl, rfl, Kept.refl _, fun j' h => by cases h⟩
        case round =>
          obtain ⟨q, j, Wq, rfl, hq, rfl, rfl, kq, hj⟩ := hrel
          have KQ := Lib.hid kq
          have HJ := Lib.hid hj
          have mq := HM.out.grow kq
          have t43 := mq.rounds
          rw [HMN.out] at t43
          clear kq hj
          by_cases hqN : q < Ns
          · have hql : q < rl.length := by rw [HMN.out]; exact hqN
            have hqr : q < srds.length := by rw [HNs.out]; exact hqN
            obtain ⟨_, e', -, -, -, ⟨r0, r1, r2, r3, r4, r5⟩, -, -⟩ := mq.round hql
            injection e' with e'
            injection e' with e'
            subst e'
            have HRD := Lib.hid ((HH.out.hush KQ.out.hush).rd q hql hqr)
            have HX : Hid (srds[q]? = some srds[q]) := Lib.hid (List.getElem?_eq_getElem hqr)
            simp only at HRD
            generalize srds[q] = x at *
            obtain ⟨y, hy⟩ : ∃ y, rl[q] = y := ⟨_, rfl⟩
            rw [hy] at r0 r1 r2 r3 r4 r5 HRD
            obtain ⟨yr, ys, yPA, ypn, ypc, yh, yVA, yvn, yvc, yTA, ytn, ytc⟩ := y
            simp only at r0 r1 r2 r3 r4 r5
            have K4a : Hid (Kept Wq (Wq.alloc (.cells #[.int .i64 yr, .int .i64 ys, .slice yPA ypn ypc, .bool yh, .slice yVA yvn yvc, .slice yTA ytn ytc] 56))) := Lib.hid ((Kept.refl _).alloc _)
            have K4 := Lib.hid (KQ.out.trans K4a.out)
            have HRD4 := Lib.hid (HRD.out.hush K4a.out.hush)
            obtain ⟨bt, hown, hlen⟩ := HRD4.out.vts
            simp only at hown hlen
            have hxr : yr = x.r := HRD4.out.r
            have hxs : ys = x.s := HRD4.out.s
            have hvl : ytn ≤ 1000 := by
              have := (HFK.out.2 x (List.mem_of_getElem? HX.out)).2
              omega
            obtain ⟨d, hd⟩ : ∃ d, decidedV x.vs x.r x.s sn = d := ⟨_, rfl⟩
            have TC : Hid (Calls Try.prog 16 #[.slice yTA ytn ytc, .agg #[.int .i64 yr, .int .i64 ys], .int .i64 sn] (Wq.alloc (.cells #[.int .i64 yr, .int .i64 ys, .slice yPA ypn ypc, .bool yh, .slice yVA yvn yvc, .slice yTA ytn ytc] 56)) fun e w' => e = .returned (.bool d) ∧ Kept (Wq.alloc (.cells #[.int .i64 yr, .int .i64 ys, .slice yPA ypn ypc, .bool yh, .slice yVA yvn yvc, .slice yTA ytn ytc] 56)) w') := Lib.hid (by
              rw [hxr, hxs, ← hd]
              rw [hxr, hxs] at hown
              exact decided_any x.r x.s hlen hown.reads (HIK.out.voters HX.out) (by omega) (by omega))
            have HD := Lib.hid hd
            clear hown hlen hxr hxs hd HRD HRD4 mq hy
            cases j with
            | none =>
              simp only [wasV] at *
              go_wp2_with fail
              refine TC.out.mono ?_
              rintro e W5 ⟨rfl, k5⟩
              have K5 := Lib.hid (K4.out.trans k5)
              clear k5 TC
              cases d with
              | false =>
                go_wp2
                go_roundw
                case rel => exact ⟨q + 1, none, _, rfl, by omega, by go_num, rfl, K5.out, HJ.out⟩
                case measure => simp [intOf]; omega
              | true =>
                go_wp2
                go_roundw
                case rel => exact ⟨q + 1, some q, _, rfl, by omega, by go_num, rfl, K5.out, fun j' h => by injection h with h; subst h; exact ⟨hqN, x, HX.out, HD.out⟩⟩
                case measure => simp [intOf]; omega
            | some j =>
              have hj0 : decide ((j : Int) < 0) = false := decide_eq_false (by omega)
              simp only [wasV] at *
              clear TC
              go_wp2
              go_roundw
              case rel => exact ⟨q + 1, some j, _, rfl, by omega, by go_num, rfl, K4.out, HJ.out⟩
              case measure => simp [intOf]; omega
          · obtain rfl : q = Ns := by omega
            have KW := Lib.hid (HKW.out.trans KQ.out)
            clear mq
            cases j with
            | none =>
              simp only [wasV] at *
              go_wp2
              go_ret
              exact ⟨rfl, (KV2.out.trans KW.out).1⟩
            | some j =>
              have hj0 : decide ((j : Int) < 0) = false := decide_eq_false (by omega)
              obtain ⟨hjq, y, hy, hyd⟩ := HJ.out j rfl
              have hw5 : SlW v Wq z ⟨sn, sall, srds⟩ := ⟨sl, rl, _, rc, HM.out.grow KQ.out, HH.out.hush KQ.out.hush⟩
              have HP := Lib.hid (play_any hw5 HIK.out (HFK.out.mono (by omega)) ⟨0, 0, 0, 0, false⟩ ⟨by decide, by decide, by decide, by decide⟩)
              have hp0 : playS ⟨sn, sall, srds⟩ ⟨0, 0, 0, 0, false⟩ = ⟨sn, sall, srds ++ [⟨(srds.length : Int), leastI 0 sn, [], false, [], []⟩]⟩ := by
                obtain ⟨kq, aq, x, ac, hk, ha, hx, hac, -, -⟩ := play_places HIK.out ⟨0, 0, 0, 0, false⟩
                rw [playS_at hx hac hk ha]
                rfl
              have hi1 := HIK.out.play ⟨0, 0, 0, 0, false⟩
              have hf1 := HFK.out.play ⟨0, 0, 0, 0, false⟩
              have hle : 0 ≤ leastI 0 sn := (least_range HKK.out.1).1
              have htold := HIK.out.told hle hy hyd
              rw [hp0] at hi1 hf1
              simp only at htold
              obtain ⟨s1, hs1⟩ : ∃ s1, s1 = (⟨sn, sall, srds ++ [⟨(srds.length : Int), leastI 0 sn, [], false, [], []⟩]⟩ : Sl) := ⟨_, rfl⟩
              rw [← hs1] at hi1 hf1 htold hp0
              have hask := fun m hm => ask_all hi1 (k := srds.length) (x := ⟨(srds.length : Int), leastI 0 sn, [], false, [], []⟩) (by rw [hs1]; simp) (by rw [hs1]; simp) (by rw [HNs.out]; exact hNs1) rfl m hm
              have hyo : s1.rds[j]? = some y := by rw [hs1]; exact snoc_fwd hy
              have hs1n : s1.n = sn := by rw [hs1]
              have hs1l : s1.rds.length = q + 1 := by rw [hs1]; simp only [List.length_append, List.length_singleton]; rw [HNs.out]
              rw [HNs.out] at htold hask
              rw [hs1n] at hask
              have HP0 := Lib.hid hp0
              have HI1 := Lib.hid hi1
              have HF1 := Lib.hid hf1
              have HTOLD := Lib.hid htold
              have HASK := Lib.hid hask
              have HYO := Lib.hid hyo
              have HS1L := Lib.hid hs1l
              have HS1N := Lib.hid hs1n
              obtain ⟨tn, htn⟩ : ∃ tn : Nat, (tn : Int) = sn ∧ sn.toNat = tn := ⟨sn.toNat, by omega, rfl⟩
              have HTN := Lib.hid htn
              clear hw5 hp0 hi1 hf1 hle htold hs1 hask hyo hs1n hs1l hy hyd htn
              simp only [wasV] at *
              go_wp2_with fail
              refine HP.out.mono ?_
              rintro e W1 ⟨rfl, hw1⟩
              rw [HP0.out] at hw1
              obtain ⟨sl1, rl1, R1, rc1, M1, H1⟩ := hw1
              have hl1 : rl1.length = q + 1 := by rw [H1.many]; exact HS1L.out
              have t43 := M1.rounds
              obtain ⟨p1, hp1⟩ : ∃ p1, rl1.length = p1 := ⟨_, rfl⟩
              rw [hp1] at t43 hl1
              have hq1 : (p1 : Int) - 1 = (q : Int) := by omega
              have hwq : IntKind.i64.wrap (q : Int) = q := by rw [IntKind.wrap_i64]; omega
              have HW1 : Hid (SlW v W1 z s1) := Lib.hid ⟨sl1, rl1, R1, rc1, M1, H1⟩
              clear M1 H1 hp1 hl1
              go_wp2_with fail
              clear t43 hq1 hwq
              go_loopw [12] (fun a wr => ∃ (m : Nat) (Wa : World), Wa = wr ∧ m ≤ tn ∧ a = .int .i64 m ∧ SlW v Wa z (askTo s1 q m)) (fun a _ => tn - (intOf a).toNat)
              case atStart => exact ⟨0, _, rfl, Nat.zero_le _, rfl, HW1.out⟩
              case round =>
                obtain ⟨m, Wa, rfl, hm, rfl, hsa⟩ := hrel
                have HSA := Lib.hid hsa
                have hka : Kept v Wa := by obtain ⟨sl, rl, R, rc, M, H⟩ := hsa; exact M.kept
                have HKA := Lib.hid hka
                clear hsa hka
                by_cases hmt : m < tn
                · have hms : (m : Int) < sn := by have := HTN.out.1; omega
                  have hmd : decide ((m : Int) < sn) = true := decide_eq_true hms
                  have HPm := Lib.hid (play_any HSA.out (HI1.out.ask q m) ((HF1.out.ask q m).mono (by have := HTN.out.1; have := HKK.out; omega)) ⟨1, 0, q, m, false⟩ (ev_ask (by omega) (by have := HTN.out.1; have := HKK.out; omega)))
                  simp only at HPm
                  go_wp2_with fail
                  refine HPm.out.mono ?_
                  rintro e W2 ⟨rfl, hw2⟩
                  have HW2 := Lib.hid hw2
                  clear hw2
                  go_wp2
                  go_roundw
                  case rel => exact ⟨m + 1, _, rfl, by omega, by go_num, HW2.out⟩
                  case measure => simp [intOf]; omega
                · have hms : ¬ (m : Int) < sn := by have := HTN.out.1; omega
                  have hmd : decide ((m : Int) < sn) = false := decide_eq_false hms
                  obtain rfl : m = tn := by omega
                  rw [HTN.out.2] at HTOLD
                  obtain ⟨IA, hAn, hAl, hAo, -⟩ := HASK.out m (by have := HTN.out.1; omega)
                  obtain ⟨zz, hzz, hcz⟩ := HTOLD.out
                  obtain ⟨yj, hyj, hyv⟩ : ∃ yj, (askTo s1 q m).rds[j]? = some yj ∧ yj.val = y.val := ⟨y, hAo j y (by omega) HYO.out, rfl⟩
                  rw [HS1L.out] at hAl
                  have hFA := (HF1.out.ask q m).mono (C := 1000) (by have := HTN.out.1; have := HKK.out; omega)
                  obtain ⟨sl2, rl2, R2, rc2, M2, H2⟩ := HSA.out
                  have hl2 : rl2.length = q + 1 := by rw [H2.many]; exact hAl
                  have hq2 : q < rl2.length := by omega
                  have hj2 : j < rl2.length := by omega
                  obtain ⟨RZ, rfl, -, -, -, ⟨-, -, r2, -, -, -⟩, -, -⟩ := M2.round hq2
                  have t43 := M2.rounds
                  have hqs : q < (askTo s1 q m).rds.length := by rw [hAl]; omega
                  have hjs : j < (askTo s1 q m).rds.length := by rw [hAl]; omega
                  have hrq := H2.rd q hq2 hqs
                  have hrj := H2.rd j hj2 hjs
                  rw [List.getElem?_eq_getElem hqs] at hzz
                  injection hzz with hzz
                  rw [hzz] at hrq
                  rw [List.getElem?_eq_getElem hjs] at hyj
                  injection hyj with hyj
                  rw [hyj] at hrj
                  obtain ⟨X, hX⟩ : ∃ X, rl2[q] = X := ⟨_, rfl⟩
                  rw [hX] at r2 hrq
                  obtain ⟨bp, li, hown, hmap, hlen, hrows⟩ := hrq.pms
                  have hpl : X.pn ≤ 1000 := by
                    have := (hFA.2 zz (List.mem_of_getElem? (by rw [List.getElem?_eq_getElem hqs, hzz]))).1
                    rw [← hmap, List.length_map] at this
                    omega
                  have hwho : ∀ u ∈ li, -9223372036854775808 ≤ u.r.who ∧ u.r.who ≤ 9223372036854775807 := fun u hu => by
                    obtain ⟨a', ac', _, hwa, han, _⟩ := IA.pms q zz (by rw [List.getElem?_eq_getElem hqs, hzz]) u.r (by rw [← hmap]; exact List.mem_map_of_mem hu)
                    rw [hAn] at han
                    have := HKK.out
                    omega
                  have TC : Hid (Calls Try.prog 10 #[.slice X.PA X.pn X.pc, .int .i64 sn] Wa fun e w' => ∃ v b, e = .returned (.tuple #[v, .bool b]) ∧ Kept Wa w' ∧ ChoT (some y.val) v b w') := Lib.hid (by
                    rw [← hcz, ← hmap]
                    exact choose_any hlen hown.reads (fun u hu => (hrows u hu).row) hwho (by omega) (by have := HKK.out; omega))
                  obtain ⟨YJ, hYJ⟩ : ∃ X, rl2[j] = X := ⟨_, rfl⟩
                  rw [hYJ] at hrj
                  have hvalj := hrj.val
                  rw [hyv] at hvalj
                  have M2H := Lib.hid M2
                  have HVJ := Lib.hid hvalj
                  have HYJ := Lib.hid hYJ
                  obtain ⟨p2, hp2⟩ : ∃ p2, rl2.length = p2 := ⟨_, rfl⟩
                  have HP2 := Lib.hid hp2
                  rw [hp2] at t43 hl2
                  have hqp : q < p2 := by omega
                  have hjp : j < p2 := by omega
                  clear hl2
                  obtain ⟨xr, xs, xPA, xpn, xpc, xh, xVA, xvn, xvc, xTA, xtn, xtc⟩ := X
                  obtain ⟨zr, zs, zPA, zpn, zpc, zh, zVA, zvn, zvc, zTA, ztn, ztc⟩ := YJ
                  simp only at r2 TC HVJ
                  clear M2 H2 hrq hrj hown hmap hlen hrows hwho hcz hvalj hYJ hX hzz hyj hyv hAn hAl hAo hFA IA hqs hjs hp2
                  go_wp2_with fail
                  refine TC.out.mono ?_
                  rintro e W8 ⟨vg, bg, rfl, k8, rfl, Ag, cg, rfl, hrg⟩
                  have K8 := Lib.hid k8
                  have HRG := Lib.hid hrg
                  clear k8 hrg TC
                  go_wp2_with fail
                  have T1 : Hid (∀ W', Kept W8.drew W' → W'.cell? ⟨z, 43, none⟩ = some (.slice (some ⟨RZ, 0, none⟩) p2 rc2) ∧ W'.cell? ⟨RZ, j * 6 + 4, none⟩ = some (.slice zVA zvn zvc) ∧ (convert 24 9 (.slice Ag y.val.length cg)).run Try.prog W' = .ok (.string (txt y.val)) W' ∧ (convert 24 9 (.slice zVA zvn zvc)).run Try.prog W' = .ok (.string (txt y.val)) W') := Lib.hid (fun W' h => by
                    have k' : Kept W8 W' := (Kept.refl _).drew.trans h
                    have m' := M2H.out.grow (K8.out.trans k')
                    obtain ⟨_, e', -, -, -, ⟨-, -, -, -, q4, -⟩, -, -⟩ := m'.round hj2
                    injection e' with e'
                    injection e' with e'
                    subst e'
                    rw [HYJ.out] at q4
                    have h43 := m'.rounds
                    rw [HP2.out] at h43
                    exact ⟨h43, q4, (HRG.out.row.below k'.1).str, (HVJ.out.row.below (K8.out.trans k').1).str⟩)
                  generalize txt y.val = tx at *
                  clear t43 r2
                  refine wp_region_typed (N := 17) (fl := []) (by kernel_rfl) (by kernel_rfl) ?_
                  simp only [List.take_succ_cons, List.take_zero, List.drop_succ_cons, List.drop_zero, List.map_cons, List.map_nil, zipF]
                  repeat (first
                    | (refine wpT_skip rfl ?_; dsimp only [putS, List.set_cons_succ, List.set_cons_zero])
                    | (refine wpT_slot (S := .is _) _ (.inl rfl) rfl (Slot.mono_is _) rfl ?_; dsimp only [putS, List.set_cons_succ, List.set_cons_zero])
                    | (refine wpT_slot (S := .is _) _ (.inr rfl) rfl (Slot.mono_is _) rfl ?_; dsimp only [putS, List.set_cons_succ, List.set_cons_zero])
                    | (refine wpT_exact1 rfl rfl rfl ?_; apply Exists.intro; refine ⟨fun ρ w hk ⟨c1, c2, c3⟩ h1 => ?_, ?_⟩; (· obtain ⟨t1, t2, t3, t4⟩ := T1.out w hk; go_simp; exact rfl); dsimp only [putS, List.set_cons_succ, List.set_cons_zero])
                    | (refine wpT_exact2 rfl rfl rfl rfl ?_; apply Exists.intro; refine ⟨fun ρ w hk ⟨c1, c2, c3⟩ h1 h2 => ?_, ?_⟩; (· obtain ⟨t1, t2, t3, t4⟩ := T1.out w hk; go_simp; exact rfl); dsimp only [putS, List.set_cons_succ, List.set_cons_zero])
                    | (refine wpT_exact3 rfl rfl rfl rfl rfl ?_; apply Exists.intro; refine ⟨fun ρ w hk ⟨c1, c2, c3⟩ h1 h2 h3 => ?_, ?_⟩; (· obtain ⟨t1, t2, t3, t4⟩ := T1.out w hk; go_simp; exact rfl); dsimp only [putS, List.set_cons_succ, List.set_cons_zero])
                    | (refine wpT_exact4 rfl rfl rfl rfl rfl rfl ?_; apply Exists.intro; refine ⟨fun ρ w hk ⟨c1, c2, c3⟩ h1 h2 h3 h4 => ?_, ?_⟩; (· obtain ⟨t1, t2, t3, t4⟩ := T1.out w hk; go_simp; exact rfl); dsimp only [putS, List.set_cons_succ, List.set_cons_zero])
                    | (refine wpT_exact0 rfl ?_; apply Exists.intro; refine ⟨fun ρ w hk ⟨c1, c2, c3⟩ => ?_, ?_⟩; (· obtain ⟨t1, t2, t3, t4⟩ := T1.out w hk; go_simp; exact rfl); dsimp only [putS, List.set_cons_succ, List.set_cons_zero])
                    | fail)
                  refine wpT_nil ?_
                  intro wz kz
                  simp only [Fits]
                  have kz' : Kept W8 wz := (Kept.refl _).drew.trans kz
                  refine wpList_end ?_
                  go_wp2
                  go_ret
                  exact ⟨by go_simp, (KV2.out.trans (HKA.out.trans (K8.out.trans kz'))).1⟩
end Go.Proofs.Ytifenlopgpbpbaa
