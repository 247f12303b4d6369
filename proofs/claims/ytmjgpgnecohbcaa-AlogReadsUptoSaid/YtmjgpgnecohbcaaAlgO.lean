/- The statements' own functions on records: one, real, same; the document's One. -/
import Derived.Test.YtmjgpgnecohbcaaMgF
import Derived.Test.YtmjgpgnecohbcaaTell
import Derived.Test.YtmjgpgnecohbcaaMgB
namespace Go.Proofs.Ytmjgpgnecohbcaa
open Go.RowKit

theorem Row.txt {w : World} {A : Option Addr} {n cap : Nat} {bs : List Nat} (h : Row w A n cap bs) : (convert 37 9 (.slice A n cap)).run Try.prog w = .ok (.string (txt bs)) w :=
  run_text h.bts fun e => by have := h.nil e; have := h.room; omega

set_option maxRecDepth 100000 in
set_option maxHeartbeats 1000000 in
theorem One_any {w : World} {r : Rc} {A B : Option Addr} {n ca cb : Nat} (h1 : Row w A n ca r.val) (h2 : Row w B n cb r.val) :
    Calls Try.prog 30 #[rcv r A n ca, rcv r B n cb] w fun e w' => e = .returned (.bool true) ∧ Below w.heap.size w w' := by
  have hb : Below w.heap.size w ((w.alloc (.cells #[.int .i64 r.kind, .int .i64 r.slot, .int .i64 r.round, .int .i64 r.site, .slice A n ca] 55)).alloc (.cells #[.int .i64 r.kind, .int .i64 r.slot, .int .i64 r.round, .int .i64 r.site, .slice B n cb] 55)) := ((Below.refl _ _).alloc (Nat.le_refl _) _).alloc (by simp) _
  have t1 := (h1.below hb).txt
  have t2 := (h2.below hb).txt
  clear h1 h2 hb
  obtain ⟨kind, slot, round, site, val⟩ := r
  simp only [rcv] at *
  generalize Go.Proofs.Ytmjgpgnecohbcaa.txt val = X at *
  go_enter Try.func30, Try.ntmps30
  go_wp2
  go_ret
  exact ⟨by go_simp, ((Below.refl _ _).alloc (Nat.le_refl _) _).alloc (by simp) _⟩
set_option maxRecDepth 100000 in
theorem one_any {w : World} {r : Rc} {A B : Option Addr} {n ca cb : Nat} (h1 : Row w A n ca r.val) (h2 : Row w B n cb r.val) :
    Calls Try.prog 38 #[rcv r A n ca, rcv r B n cb] w fun e w' => e = .returned (.bool true) ∧ Below w.heap.size w w' := by
  have hb : Below w.heap.size w ((w.alloc (.cells #[.int .i64 r.kind, .int .i64 r.slot, .int .i64 r.round, .int .i64 r.site, .slice A n ca] 52)).alloc (.cells #[.int .i64 r.kind, .int .i64 r.slot, .int .i64 r.round, .int .i64 r.site, .slice B n cb] 52)) := ((Below.refl _ _).alloc (Nat.le_refl _) _).alloc (by simp) _
  have HO := Lib.hid (One_any (h1.below hb) (h2.below hb))
  clear h1 h2 hb
  simp only [rcv] at *
  go_enter Try.func38, Try.ntmps38
  go_wp2_with fail
  refine HO.out.mono ?_
  rintro e w1 ⟨rfl, h3⟩
  go_wp2
  go_ret
  exact ⟨rfl, (((Below.refl _ _).alloc (Nat.le_refl _) _).alloc (by simp) _).trans (h3.mono (by simp; omega))⟩

instance : Inhabited It := ⟨⟨⟨0, 0, 0, 0, []⟩, none, 0⟩⟩
/-- the records of a row in memory, and where their bytes lie -/
theorem Rcs.its {w : World} {A : Option Addr} {l : List Rc} (h : Rcs w A l) : ∃ its : List It, its.map It.r = l ∧ (∀ x ∈ its, x.ok w) ∧ ∀ i (hi : i < its.length), ∃ b off, A = some ⟨b, off, none⟩ ∧ b < w.heap.size ∧ ∀ j, j < 5 → w.cell? ⟨b, off + i * 5 + j, none⟩ = its[i].cells[j]? := by
  have key : ∀ i, i < l.length → ∃ x : It, l[i]? = some x.r ∧ x.ok w ∧ ∃ b off, A = some ⟨b, off, none⟩ ∧ b < w.heap.size ∧ ∀ j, j < 5 → w.cell? ⟨b, off + i * 5 + j, none⟩ = x.cells[j]? := by
    intro i hi
    obtain ⟨b, off, e, hb, c0, c1, c2, c3, A', c', c4, hrow⟩ := h.2 i hi
    refine ⟨⟨l[i], A', c'⟩, List.getElem?_eq_getElem hi, hrow, b, off, e, hb, fun j hj => ?_⟩
    match j, hj with
    | 0, _ => exact c0
    | 1, _ => exact c1
    | 2, _ => exact c2
    | 3, _ => exact c3
    | 4, _ => exact c4
  obtain ⟨f, hf⟩ := Go.Deep.choose_lt key
  have hm : ((List.range l.length).map f).map It.r = l := by
    apply List.ext_getElem?
    intro i
    by_cases hi : i < l.length
    · rw [(hf i hi).1]; simp [hi]
    · rw [List.getElem?_eq_none (by simpa using hi), List.getElem?_eq_none (by omega)]
  refine ⟨(List.range l.length).map f, hm, fun x hx => ?_, fun i hi => ?_⟩
  · obtain ⟨i, hi, rfl⟩ := List.mem_map.1 hx
    exact (hf i (List.mem_range.1 hi)).2.1
  · have hi' : i < l.length := by simpa using hi
    obtain ⟨_, _, b, off, e, hb, hc⟩ := hf i hi'
    exact ⟨b, off, e, hb, by simpa using hc⟩

set_option maxRecDepth 100000 in
set_option maxHeartbeats 2000000 in
theorem real_any {w : World} {A : Option Addr} {len cap : Nat} {l : List Rc} (hl : l.length = len) (hR : Rcs w A l) (hm : len ≤ 1073741824) :
    Calls Try.prog 24 #[.slice A len cap] w fun e w' => ∃ v its, e = .returned v ∧ OwnR 55 w' w.heap.size v its ∧ its.map It.r = l ∧ Below w.heap.size w w' := by
  obtain ⟨its, hits, hok, hat⟩ := hR.its
  have hil : its.length = len := by rw [← hl, ← hits]; simp
  have HIT := Lib.hid hits
  have HOK := Lib.hid hok
  have HAT := Lib.hid hat
  have HIL := Lib.hid hil
  clear hits hok hat hl hR hil
  go_enter Try.func24, Try.ntmps24
  go_wp2
  go_loopw [3, 4] (fun o i wr => ∃ k : Nat, k ≤ len ∧ i = .int .i64 k ∧ Kept w wr ∧ OwnR 55 wr w.heap.size o (its.take k)) (fun _ i _ => len - (intOf i).toNat)
  case atStart => exact ⟨0, Nat.zero_le _, rfl, Kept.refl _, by simpa using OwnR.nil _ _ _⟩
  case round =>
    obtain ⟨k, hk, rfl, kk, own⟩ := hrel
    have HKK := Lib.hid kk
    have HO := Lib.hid own
    clear kk own
    by_cases hlt : k < len
    · have hki : k < its.length := by rw [HIL.out]; exact hlt
      obtain ⟨b, off, rfl, hb, hc⟩ := HAT.out k hki
      have hok := HOK.out _ (List.getElem_mem hki)
      have HTS := Lib.hid (List.take_succ_eq_append_getElem hki)
      generalize its[k] = x at *
      obtain ⟨⟨kd, sl, rd, st, val⟩, A2, c2⟩ := x
      have c0 := (HKK.out.cell (p := ⟨b, off + k * 5, none⟩) hb).trans (hc 0 (by omega))
      have c1 := (HKK.out.cell (p := ⟨b, off + k * 5 + 1, none⟩) hb).trans (hc 1 (by omega))
      have c2' := (HKK.out.cell (p := ⟨b, off + k * 5 + 2, none⟩) hb).trans (hc 2 (by omega))
      have c3 := (HKK.out.cell (p := ⟨b, off + k * 5 + 3, none⟩) hb).trans (hc 3 (by omega))
      have c4 := (HKK.out.cell (p := ⟨b, off + k * 5 + 4, none⟩) hb).trans (hc 4 (by omega))
      simp only [It.cells, List.getElem?_cons_zero, List.getElem?_cons_succ] at c0 c1 c2' c3 c4
      have hoff : ∀ a, A2 = some a → 0 < val.length → u3.ownBlock ≠ some a.block := fun a ha hn e => by
        have h1 := Row.block_lt hok ha hn
        have h2 := (World.ownsRow.lt HO.out.row _ e).1
        omega
      have HX : Hid (∀ y ∈ [(⟨⟨kd, sl, rd, st, val⟩, A2, c2⟩ : It)], y.ok (wr.alloc (.cells #[.int .i64 kd, .int .i64 sl, .int .i64 rd, .int .i64 st, .slice A2 val.length c2] 55)) ∧ y.off u3.ownBlock) := Lib.hid (by
        intro y hy
        simp only [List.mem_singleton] at hy
        subst hy
        exact ⟨It.ok.kept (It.ok.kept hok HKK.out) ((Kept.refl wr).alloc _), hoff⟩)
      have HCN := Lib.hid (cells_new wr ⟨⟨kd, sl, rd, st, val⟩, A2, c2⟩ 55)
      clear hc hok hoff hb
      go_wp2_with (first
        | (at_builtin
           refine wpList_append_ref rfl (.tmp 11) (.tmp 16) rfl (v := u3) (base := w.heap.size) (l := its.take k) (m := [⟨⟨kd, sl, rd, st, val⟩, A2, c2⟩]) (k := 1) (c := 1) (ad := ⟨wr.heap.size, 0, none⟩) rfl rfl rfl (HO.out.kept ((Kept.refl wr).alloc _)) HX.out HCN.out (by rw [List.length_take]; omega) (HKK.out.alloc _).2 ?_
           intro v' w5 own5 gr5 at5
           have k5 : Kept w w5 := ⟨(HKK.out.alloc _).1.grown gr5 (HKK.out.alloc _).2 (fun j h => (World.ownsRow.lt HO.out.row j h).1), Nat.le_trans (HKK.out.alloc _).2 gr5.size⟩
           have HO5 := Lib.hid own5
           clear own5 gr5 at5)
        | fail)
      go_roundw
      case rel => exact ⟨k + 1, by omega, by go_num, k5, by rw [HTS.out]; exact HO5.out⟩
      case measure => simp [intOf]; omega
    · have hkn : k = len := by omega
      subst hkn
      have e : its.take k = its := List.take_of_length_le (by rw [HIL.out]; exact Nat.le_refl _)
      have HO2 := Lib.hid (show OwnR 55 wr w.heap.size u3 its by have := HO.out; rwa [e] at this)
      clear e HO
      go_wp2
      go_ret
      exact ⟨_, its, rfl, HO2.out, HIT.out, HKK.out.1⟩

/-- the cells of one of a row's records -/
theorem Rcs.cells_at {w : World} {A : Option Addr} {l : List Rc} (h : Rcs w A l) {k : Nat} (hk : k < l.length) : ∃ b off A2 c2, A = some ⟨b, off, none⟩ ∧ b < w.heap.size ∧ w.cell? ⟨b, off + k * 5, none⟩ = some (.int .i64 l[k].kind) ∧ w.cell? ⟨b, off + k * 5 + 1, none⟩ = some (.int .i64 l[k].slot) ∧
    w.cell? ⟨b, off + k * 5 + 2, none⟩ = some (.int .i64 l[k].round) ∧ w.cell? ⟨b, off + k * 5 + 3, none⟩ = some (.int .i64 l[k].site) ∧ w.cell? ⟨b, off + k * 5 + 4, none⟩ = some (.slice A2 l[k].val.length c2) ∧ Row w A2 l[k].val.length c2 l[k].val := by
  obtain ⟨b, off, e, hb, c0, c1, c2, c3, A', c', c4, hrow⟩ := h.2 k hk
  exact ⟨b, off, A', c', e, hb, c0, c1, c2, c3, c4, hrow⟩
set_option maxRecDepth 100000 in
set_option maxHeartbeats 2000000 in
theorem same_any {w : World} {A B : Option Addr} {n ca cb : Nat} {l : List Rc} (hl : l.length = n) (hA : Rcs w A l) (hB : Rcs w B l) (hn : n ≤ 1073741824) :
    Calls Try.prog 29 #[.slice A n ca, .slice B n cb] w fun e w' => e = .returned (.bool true) ∧ Below w.heap.size w w' := by
  have HA := Lib.hid hA
  have HB := Lib.hid hB
  have HL := Lib.hid hl
  clear hA hB hl
  go_enter Try.func29, Try.ntmps29
  go_wp2
  go_loopw [5] (fun i wr => ∃ k : Nat, k ≤ n ∧ i = .int .i64 k ∧ Kept w wr) (fun i _ => n - (intOf i).toNat)
  case atStart => exact ⟨0, Nat.zero_le _, rfl, Kept.refl _⟩
  case round =>
    obtain ⟨k, hk, rfl, kk⟩ := hrel
    rename_i wr
    have HKK := Lib.hid kk
    clear kk
    by_cases hlt : k < n
    · have hki : k < l.length := by rw [HL.out]; exact hlt
      obtain ⟨b, off, A2, e2, rfl, hb, a0, a1, a2, a3, a4, ar⟩ := HA.out.cells_at hki
      obtain ⟨b', off', B2, d2, rfl, hb', d0, d1, d2', d3, d4, br⟩ := HB.out.cells_at hki
      generalize l[k] = r at *
      obtain ⟨kd, sl, rd, st, val⟩ := r
      simp only at a0 a1 a2 a3 a4 ar d0 d1 d2' d3 d4 br
      have KW : ∀ W, Kept wr.drew W → Kept w W := fun W h => HKK.out.trans ((Kept.refl wr).drew.trans h)
      have T1 := Lib.hid fun (W : World) (h : Kept wr.drew W) => And.intro (((KW W h).cell (p := ⟨b, off + k * 5, none⟩) hb).trans a0) (And.intro (((KW W h).cell (p := ⟨b, off + k * 5 + 1, none⟩) hb).trans a1) (And.intro (((KW W h).cell (p := ⟨b, off + k * 5 + 2, none⟩) hb).trans a2) (And.intro (((KW W h).cell (p := ⟨b, off + k * 5 + 3, none⟩) hb).trans a3) (((KW W h).cell (p := ⟨b, off + k * 5 + 4, none⟩) hb).trans a4))))
      have T2 := Lib.hid fun (W : World) (h : Kept wr.drew W) => And.intro (((KW W h).cell (p := ⟨b', off' + k * 5, none⟩) hb').trans d0) (And.intro (((KW W h).cell (p := ⟨b', off' + k * 5 + 1, none⟩) hb').trans d1) (And.intro (((KW W h).cell (p := ⟨b', off' + k * 5 + 2, none⟩) hb').trans d2') (And.intro (((KW W h).cell (p := ⟨b', off' + k * 5 + 3, none⟩) hb').trans d3) (((KW W h).cell (p := ⟨b', off' + k * 5 + 4, none⟩) hb').trans d4))))
      have TO := Lib.hid fun (W : World) (h : Kept wr.drew W) => One_any (r := ⟨kd, sl, rd, st, val⟩) (ar.below (KW W h).1) (br.below (KW W h).1)
      simp only [rcv] at TO
      clear a0 a1 a2 a3 a4 ar d0 d1 d2' d3 d4 br KW hb hb'
      go_wp2_with fail
      refine wp_region_typed (N := 10) (fl := []) (by kernel_rfl) (by kernel_rfl) ?_
      simp only [List.take_succ_cons, List.take_zero, List.drop_succ_cons, List.drop_zero, List.map_cons, List.map_nil, zipF]
      repeat (first
        | (refine wpT_skip rfl ?_; dsimp only [putS, List.set_cons_succ, List.set_cons_zero])
        | (refine wpT_slot (S := .is _) _ (.inl rfl) rfl (Slot.mono_is _) rfl ?_; dsimp only [putS, List.set_cons_succ, List.set_cons_zero])
        | (refine wpT_slot (S := .is _) _ (.inr rfl) rfl (Slot.mono_is _) rfl ?_; dsimp only [putS, List.set_cons_succ, List.set_cons_zero])
        | (refine wpT_exact1 rfl rfl rfl ?_; apply Exists.intro; refine ⟨fun ρ w hk ⟨c1, c2, c3⟩ h1 => ?_, ?_⟩; (· obtain ⟨t1, t2, t3, t4, t5⟩ := T1.out w hk; obtain ⟨s1, s2, s3, s4, s5⟩ := T2.out w hk; go_simp; exact rfl); dsimp only [putS, List.set_cons_succ, List.set_cons_zero])
        | (refine wpT_exact2 rfl rfl rfl rfl ?_; apply Exists.intro; refine ⟨fun ρ w hk ⟨c1, c2, c3⟩ h1 h2 => ?_, ?_⟩; (· obtain ⟨t1, t2, t3, t4, t5⟩ := T1.out w hk; obtain ⟨s1, s2, s3, s4, s5⟩ := T2.out w hk; go_simp; exact rfl); dsimp only [putS, List.set_cons_succ, List.set_cons_zero])
        | (refine wpT_exact3 rfl rfl rfl rfl rfl ?_; apply Exists.intro; refine ⟨fun ρ w hk ⟨c1, c2, c3⟩ h1 h2 h3 => ?_, ?_⟩; (· obtain ⟨t1, t2, t3, t4, t5⟩ := T1.out w hk; obtain ⟨s1, s2, s3, s4, s5⟩ := T2.out w hk; go_simp; exact rfl); dsimp only [putS, List.set_cons_succ, List.set_cons_zero])
        | (refine wpT_exact4 rfl rfl rfl rfl rfl rfl ?_; apply Exists.intro; refine ⟨fun ρ w hk ⟨c1, c2, c3⟩ h1 h2 h3 h4 => ?_, ?_⟩; (· obtain ⟨t1, t2, t3, t4, t5⟩ := T1.out w hk; obtain ⟨s1, s2, s3, s4, s5⟩ := T2.out w hk; go_simp; exact rfl); dsimp only [putS, List.set_cons_succ, List.set_cons_zero])
        | (refine wpT_exact0 rfl ?_; apply Exists.intro; refine ⟨fun ρ w hk ⟨c1, c2, c3⟩ => ?_, ?_⟩; (· obtain ⟨t1, t2, t3, t4, t5⟩ := T1.out w hk; obtain ⟨s1, s2, s3, s4, s5⟩ := T2.out w hk; go_simp; exact rfl); dsimp only [putS, List.set_cons_succ, List.set_cons_zero])
        | (refine wpT_is (.bool true) rfl (fun ρ w hk ⟨c1, c2, c3⟩ ⟨h1, h2, _⟩ => ?_) ?_
           · have h1 : ρ (.tmp 20) = _ := h1
             have h2 : ρ (.tmp 24) = _ := h2
             refine upT_call 30 #[.agg #[.int .i64 kd, .int .i64 sl, .int .i64 rd, .int .i64 st, .slice A2 val.length e2], .agg #[.int .i64 kd, .int .i64 sl, .int .i64 rd, .int .i64 st, .slice B2 val.length d2]] ?_ ((TO.out w hk).mono ?_)
             · go_simp
             rintro e u ⟨rfl, hb⟩
             exact ⟨_, rfl, ⟨hb, hb.size⟩, rfl⟩
           dsimp only [putS, List.set_cons_succ, List.set_cons_zero]))
      refine wpT_nil ?_
      intro wz kz
      simp only [Fits]
      refine wpList_end ?_
      have hkz := HKK.out.trans ((Kept.refl wr).drew.trans kz)
      have HKZ := Lib.hid hkz
      clear hkz kz
      go_wp2
      go_roundw
      case rel => exact ⟨k + 1, by omega, by go_num, HKZ.out⟩
      case measure => simp [intOf]; omega
    · have hkn : k = n := by omega
      subst hkn
      go_wp2
      go_ret
      exact ⟨rfl, HKK.out.1⟩
end Go.Proofs.Ytmjgpgnecohbcaa
