/- The program's records: the function that Read ranges over. -/
import Derived.Test.YtmjgpgnecohbcaaAlgQ
namespace Go.Proofs.Ytmjgpgnecohbcaa
open Go.RowKit Go.Shelf
attribute [local go_sem] Oper.semAt_some

/-- what Read's loop ends in -/
def RdFin (B : Nat) (w0 : World) (bs : List Nat) (W : World) : Prop := ∃ W2 its k, RdI B W2 W its k ∧ Below w0.heap.size w0 W2 ∧ Reads bs (its.map It.r) k ∧ W2.heap[B + 3]? = some (.deferred (some []))
theorem flat_step {xs : List (List Nat)} {k : Nat} (h : k < xs.length) : (flat (xs.take (k + 1))).length = (flat (xs.take k)).length + (8 + xs[k].length) := by
  rw [List.take_succ_eq_append_getElem h, flat_append, List.length_append, show flat [xs[k]] = frm xs[k] by simp [flat], frm_len]
theorem flat_taken (xs : List (List Nat)) (k : Nat) : (flat (xs.take k)).length ≤ (flat xs).length := by
  have e : flat xs = flat (xs.take k) ++ flat (xs.drop k) := by rw [← flat_append, List.take_append_drop]
  rw [e, List.length_append]
  omega
theorem rdAll_step {xs : List (List Nat)} {k : Nat} (h : k < xs.length) {r : Rc} (hd : dec xs[k] = some r) : rdAll (xs.drop k) = (r :: (rdAll (xs.drop (k + 1))).1, 8 + xs[k].length + (rdAll (xs.drop (k + 1))).2) := by
  rw [List.drop_eq_getElem_cons h, rdAll, hd]
theorem rdAll_stop {xs : List (List Nat)} {k : Nat} (h : k < xs.length) (hd : dec xs[k] = none) : rdAll (xs.drop k) = ([], 0) := by
  rw [List.drop_eq_getElem_cons h, rdAll, hd]

theorem OwnS.cells_at {w : World} {base : Nat} {lv : Value} {vs : List Value} (h : OwnS w base lv vs) : ∃ Al cl, lv = .slice Al vs.length cl ∧ ∀ i v, vs[i]? = some v → ∃ g, Al = some ⟨g, 0, none⟩ ∧ base ≤ g ∧ g < w.heap.size ∧ w.cell? ⟨g, i, none⟩ = some v := by
  obtain ⟨_, ⟨rfl, h0⟩ | ⟨g, cap, cur, rfl, h1, h2, _⟩⟩ := id h
  · refine ⟨none, 0, by rw [h0], fun i v hv => ?_⟩
    rw [List.getElem?_eq_none (by omega)] at hv
    cases hv
  · refine ⟨_, cap, rfl, fun i v hv => ⟨g, rfl, h1, heap_lt h2, ?_⟩⟩
    have hi : i < vs.length := by
      rcases Nat.lt_or_ge i vs.length with h | h
      · exact h
      · rw [List.getElem?_eq_none h] at hv; cases hv
    rw [World.ownsRow.cellAt h i (by omega)]
    exact hv
/-- a frame that was scanned, in whatever world behind it -/
theorem RdI.row {B k : Nat} {W2 W : World} {its : List It} (h : RdI B W2 W its k) {av : Option Nat} {v : Value} {x : List Nat} (ht : Tell W2 W2.heap.size av v x) (hf : Formed (B + 5) v) : ∃ A n c, v = .slice A n c ∧ Row W A n c x := by
  obtain ⟨A, n, c, rfl, h1, h2, h3⟩ := ht
  obtain ⟨A', n', c', e, f1, f2, f3, f4⟩ := hf
  rw [Value.slice.injEq] at e
  obtain ⟨rfl, rfl, rfl⟩ := e
  refine ⟨A, n, c, rfl, Row.off (W := W2) ⟨h1, f3, f1, f2⟩ h.size fun a ha hn => ?_⟩
  have hb := f4 a ha
  exact h.old a.block (Row.block_lt (W := W2) ⟨h1, f3, f1, f2⟩ ha hn) (by omega) (by omega)

set_option maxRecDepth 100000 in
set_option maxHeartbeats 4000000 in
theorem records_any {w0 : World} {B : Nat} {A : Option Addr} {n cap : Nat} {bs : List Nat} (hs0 : w0.heap.size = B + 3) (hb : w0.heap[B + 2]? = some (.cells #[.slice A n cap] 37 (0, 0)))
    (hl0 : w0.heap[B]? = some (.cells #[.slice none 0 0] 36 (0, 0))) (hz0 : w0.heap[B + 1]? = some (.cells #[.int .i64 0] 3 (0, 0))) (hrow : Row w0 A n cap bs) (hn : n ≤ 1099511627776) (rec : LoopState → Option Code → Loop)
    (hY : ∀ (x : Rnd) W, x.Pre B W → W.heap[B + 4]? = some (.loop (rec .ready none)) → YieldAt Fence.wide 0 Try.prog (B + 4) x.args W (x.Post B W)) :
    CallsIn Fence.wide 1 Try.prog 61 #[.func (.yield (B + 4)) #[] #[], .pointer (some ⟨B + 2, 0, none⟩)] ((w0.alloc (.deferred (some []))).alloc (.loop (rec .ready none))) fun e W => (∃ v, e = .returned v) ∧
      (W.heap[B + 4]? = some (.loop (rec .ready none)) ∧ RdFin B w0 bs W) := by
  have k1 : Kept w0 ((w0.alloc (.deferred (some []))).alloc (.loop (rec .ready none))) := ((Kept.refl w0).alloc _).alloc _
  have hL1 : ((w0.alloc (.deferred (some []))).alloc (.loop (rec .ready none))).heap[B + 4]? = some (.loop (rec .ready none)) := by
    have := push_new (w0.alloc (.deferred (some []))) (.loop (rec .ready none))
    rwa [World.size_alloc, hs0] at this
  have hs1 : ((w0.alloc (.deferred (some []))).alloc (.loop (rec .ready none))).heap.size = B + 5 := by simp [hs0]
  have hD1 : ((w0.alloc (.deferred (some []))).alloc (.loop (rec .ready none))).heap[B + 3]? = some (.deferred (some [])) := by
    have := push_two_old w0 (.deferred (some [])) (.loop (rec .ready none))
    rwa [hs0] at this
  generalize (w0.alloc (.deferred (some []))).alloc (.loop (rec .ready none)) = W1 at *
  have hc := (k1.cell (p := ⟨B + 2, 0, none⟩) (by simp only; omega)).trans (cell_of_heap hb 0)
  simp only [List.getElem?_toArray, List.getElem?_cons_zero] at hc
  have hbl := (k1.1.block B (by omega)).trans hl0
  have hbz := (k1.1.block (B + 1) (by omega)).trans hz0
  have HBL := Lib.hid hbl
  have HBZ := Lib.hid hbz
  have HK1 := Lib.hid k1
  have HROW := Lib.hid (hrow.below k1.1)
  have HL1 := Lib.hid hL1
  have HD1 := Lib.hid hD1
  have HY := Lib.hid hY
  have HS1 := Lib.hid hs1
  clear hbl hbz k1 hrow hL1 hD1 hY hs1 hl0 hz0 hb
  refine callsIn_of_wp Try.func61 rfl trivial ?_ rfl
  simp only [Try.ntmps61, List.size_toArray, List.length_cons, List.length_nil, Nat.reduceAdd, Nat.reduceSub, Array.replicate_succ, Array.replicate_zero, List.push_toArray, List.append_toArray, List.nil_append, List.cons_append]
  gi_wp2_with fail
  refine ⟨trivial, ?_⟩
  refine (callsIn_wide.2 (scan_own HROW.out hn)).mono ?_
  rintro e W2 ⟨lv, vs, xs, kx, rfl, own, tl, hfm, hsc, hb2⟩
  rw [HS1.out] at own hb2 hfm
  have hs2 := hb2.size
  rw [HS1.out] at hs2
  have hI0 : RdI B W2 W2 [] 0 := ⟨rfl, rfl, rfl, Nat.le_refl _, by omega, fun _ _ _ _ => rfl, ⟨_, (hb2.block B (by omega)).trans HBL.out, OwnR.nil _ _ _⟩, (hb2.block (B + 1) (by omega)).trans HBZ.out, by simp⟩
  have hL2 := (hb2.block (B + 4) (by omega)).trans HL1.out
  have HD2 := Lib.hid ((hb2.block (B + 3) (by omega)).trans HD1.out)
  have hfin : Below w0.heap.size w0 W2 := HK1.out.1.trans (hb2.mono (by omega))
  obtain ⟨Al, cl, rfl, hat⟩ := own.cells_at
  have hlen := tl.1
  have hby := scanned_byte HROW.out.bts.2.2.1 hsc
  have hfl : (flat xs).length ≤ n := by
    obtain ⟨q, e1, _⟩ := hsc
    have e2 := congrArg List.length e1
    rw [List.length_append, HROW.out.len] at e2
    omega
  have hx4 : ∀ x ∈ xs, x.length ≤ 4096 := by obtain ⟨q, _, _, h, _⟩ := hsc; exact h
  have HX4 := Lib.hid hx4
  have HI0 := Lib.hid hI0
  have HL2 := Lib.hid hL2
  have HFIN := Lib.hid hfin
  have HAT := Lib.hid hat
  have HTL := Lib.hid tl
  have HFM := Lib.hid hfm
  have HSC := Lib.hid hsc
  have HBY := Lib.hid hby
  have HXL : Hid (xs.length = vs.length) := Lib.hid hlen.symm
  have hxm := flat_len xs
  rw [← hlen] at hxm
  clear own hb2 hI0 hL2 hfin hat tl hfm hsc hby hlen hc HBL HBZ HK1 HL1 HD1 hx4
  generalize hm : vs.length = m at *
  have HM := Lib.hid hm
  clear hm
  gi_wp2
  gi_loopw [5, 17] (fun en i wr => ∃ (k e : Nat) (its : List It), k ≤ m ∧ i = .int .i64 k ∧ en = .int .i64 e ∧ RdI B W2 wr its e ∧ e = (flat (xs.take k)).length ∧ its.length = k ∧ rdAll xs = (its.map It.r ++ (rdAll (xs.drop k)).1, e + (rdAll (xs.drop k)).2)) (fun _ i _ => m - (intOf i).toNat)
  case atStart => exact ⟨0, 0, [], Nat.zero_le _, rfl, rfl, HI0.out, by simp [flat], rfl, by simp⟩
  case round =>
    obtain ⟨k, e, its, hk, rfl, rfl, hI, he, hil, hrd⟩ := hrel
    rename_i wr
    have HI := Lib.hid hI
    have HE := Lib.hid he
    have HIL := Lib.hid hil
    have HRD := Lib.hid hrd
    clear hI he hil hrd HI0
    by_cases hlt : k < m
    · have hkx : k < xs.length := by rw [HXL.out]; exact hlt
      have hkv : k < vs.length := by rw [HM.out]; exact hlt
      obtain ⟨g, rfl, hg1, hg2, hgc⟩ := HAT.out k _ (List.getElem?_eq_getElem hkv)
      have hgw : wr.cell? ⟨g, k, none⟩ = some vs[k] := (World.cell?_of_block (HI.out.old g hg2 (by omega) (by omega))).trans hgc
      obtain ⟨Av, nv, cv, hv, hr⟩ := HI.out.row (HTL.out.2 k _ _ (List.getElem?_eq_getElem hkv) (List.getElem?_eq_getElem hkx)) (HFM.out _ (List.getElem_mem hkv))
      rw [hv] at hgw
      have hx4 := HX4.out _ (List.getElem_mem hkx)
      have hst := flat_step hkx
      have hxl := hr.len
      have hft := flat_taken xs (k + 1)
      have hw1 : IntKind.i64.wrap (8 + (nv : Int)) = 8 + nv := by rw [IntKind.wrap_i64]; omega
      obtain ⟨E2, hEE⟩ : ∃ E2, e + (8 + nv) = E2 := ⟨_, rfl⟩
      have hEb : E2 ≤ 1099511627776 := by have := HE.out; omega
      have hw2 : (e : Int) + (8 + (nv : Int)) = (E2 : Int) := by omega
      have HEE := Lib.hid hEE
      clear hEE
      have HR := Lib.hid hr
      have HST := Lib.hid hst
      have HXLK := Lib.hid hxl
      clear hv hr hgc hst hxl
      gi_wp2_with fail
      refine ⟨trivial, ?_⟩
      refine (callsIn_wide.2 (decode_any HR.out)).mono ?_
      rintro e1 w3 ⟨hb3, ⟨hdn, rfl⟩ | ⟨r, Ar, cr, hdr, rfl, own⟩⟩
      · have hI3 := HI.out.kept ⟨hb3, hb3.size⟩
        have HI3 := Lib.hid hI3
        have HDN := Lib.hid (rdAll_stop hkx hdn)
        clear hI3 hdn hb3
        simp only [rcv, Rc.zero, afault] at *
        gi_wp2
        all_goals
          refine ⟨fun _ h => (by cases h), ?_⟩
          gi_wp2
          refine bodyPost_ret (results_none rfl _ _ _) rfl ?_
          have hI4 := HI3.out.kept ((Kept.refl w3).alloc (.cells #[.int .i64 0, .int .i64 0, .int .i64 0, .int .i64 0, .slice none 0 0] 52))
          refine ⟨⟨_, rfl⟩, (hI4.old (B + 4) (by omega) (by omega) (by omega)).trans HL2.out, W2, its, e, hI4, HFIN.out, ⟨xs, kx, HSC.out, ?_⟩, HD2.out⟩
          rw [HRD.out, HDN.out]
          simp
      · have hI3 := HI.out.kept ⟨hb3, hb3.size⟩
        have hI4 := hI3.kept ((Kept.refl w3).alloc (.cells #[.int .i64 r.kind, .int .i64 r.slot, .int .i64 r.round, .int .i64 r.site, .slice Ar r.val.length cr] 52))
        obtain ⟨hmay, -, hrb⟩ := enc_dec (HBY.out _ (List.getElem_mem hkx)) hdr
        have h8 := hmay.2.2.2.2.2.2.2.1
        obtain ⟨A', c', e', hrow⟩ := own.row (by omega) hrb
        rw [Value.slice.injEq] at e'
        obtain ⟨rfl, -, rfl⟩ := e'
        have hge : ∀ a, Ar = some a → wr.heap.size ≤ a.block := fun a ha => (World.ownsRow.lt own a.block (by rw [ha]; rfl)).1
        have hready := (hI4.old (B + 4) (by omega) (by omega) (by omega)).trans HL2.out
        obtain ⟨va, hva, hown⟩ := HI.out.lbox
        have hpre : Rnd.Pre B ⟨⟨r, Ar, cr⟩, E2, W2, its, e⟩ (w3.alloc (.cells #[.int .i64 r.kind, .int .i64 r.slot, .int .i64 r.round, .int .i64 r.site, .slice Ar r.val.length cr] 52)) := by
          refine ⟨hI4, hrow.below ((Below.refl _ _).alloc (Nat.le_refl _) _), fun a ha _ => Nat.le_trans HI.out.size (hge a ha), fun v hv => ?_, by have := HIL.out; show its.length < _; omega⟩
          have hs3 := hb3.size
          have hBw := heap_lt hva
          rw [push_old _ _ (by omega), hb3.block B hBw, hva] at hv
          injection hv with hv
          simp only [Obj.cells.injEq, Array.mk.injEq, List.cons.injEq, and_true] at hv
          subst hv
          intro a ha _ he
          have h1 := hge a ha
          have h2 := (World.ownsRow.lt hown.row _ he).2
          omega
        obtain ⟨fn, tmps, assign, body, hy, hR⟩ := HY.out _ _ hpre hready
        have hRD2 : Hid (rdAll xs = ((its ++ [(⟨r, Ar, cr⟩ : It)]).map It.r ++ (rdAll (xs.drop (k + 1))).1, E2 + (rdAll (xs.drop (k + 1))).2)) := Lib.hid (by
          rw [← HEE.out, HRD.out, rdAll_step hkx hdr, HXLK.out]
          simp [Nat.add_assoc])
        have hE2 : Hid (E2 = (flat (xs.take (k + 1))).length) := Lib.hid (by rw [← HEE.out, HST.out, HXLK.out, ← HE.out])
        clear hI3 hI4 hmay hrb h8 hrow hge hready hva hown hpre own hb3 hdr
        simp only [rcv, Rnd.args] at *
        gi_wp2
        refine hR.mono ?_
        rintro e5 w5 ⟨rfl, hI5⟩
        clear hy hR
        gi_wp2
        go_roundw
        case rel => exact ⟨k + 1, E2, its ++ [⟨r, Ar, cr⟩], by omega, by go_num, rfl, hI5, hE2.out, by rw [List.length_append, HIL.out]; rfl, hRD2.out⟩
        case measure => simp [intOf]; omega
    · have hkm : k = m := by omega
      subst hkm
      gi_wp2
      go_end0
      refine ⟨⟨_, rfl⟩, (HI.out.old (B + 4) (by omega) (by omega) (by omega)).trans HL2.out, W2, its, e, HI.out, HFIN.out, ⟨xs, kx, HSC.out, ?_⟩, HD2.out⟩
      rw [HRD.out, List.drop_eq_nil_of_le (by rw [HXL.out]; exact Nat.le_refl _)]
      simp [rdAll]
end Go.Proofs.Ytmjgpgnecohbcaa
