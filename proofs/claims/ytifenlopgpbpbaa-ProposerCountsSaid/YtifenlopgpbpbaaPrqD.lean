/- Choose of the program. -/
import Derived.Test.YtifenlopgpbpbaaPrqB
import Derived.Test.YtifenlopgpbpbaaClone
import Derived.Test.YtifenlopgpbpbaaBalQ
namespace Go.Proofs.Ytifenlopgpbpbaa
open Go.RowKit

/-- told by a site -/
def okP (n : Int) (x : It) : Bool := x.r.so && isSiteB x.r.who n
theorem best_step (n : Int) (x : It) (o : Option It) : bestStep n (o.map It.r) x.r = (if okP n x = true then gStep o x else o).map It.r := by
  unfold bestStep okP
  by_cases h : (x.r.so && isSiteB x.r.who n) = true
  · rw [if_pos h]
    cases o with
    | none => simp [gStep, h]
    | some q =>
      simp only [gStep, Option.map_some, h, Bool.true_and, decide_eq_true_eq]
      split <;> rfl
  · rw [if_neg h]
    simp only [Bool.not_eq_true] at h
    rw [h]
    simp
theorem gP_best (n : Int) : ∀ (l : List It) (o : Option It), ((l.filter (okP n)).foldl gStep o).map It.r = (l.map It.r).foldl (bestStep n) (o.map It.r)
  | [], o => rfl
  | x :: l, o => by
    rw [List.filter_cons, List.map_cons, List.foldl_cons, best_step]
    by_cases h : okP n x = true
    · rw [if_pos h, if_pos h, List.foldl_cons, gP_best n l]
    · rw [if_neg h, if_neg h, gP_best n l]
theorem gP_bestP (n : Int) (l : List It) : (gP (l.filter (okP n))).map It.r = bestP n (l.map It.r) := gP_best n l none
theorem gP_mem_from : ∀ (l : List It) (o : Option It) (y : It), l.foldl gStep o = some y → (o = some y) ∨ y ∈ l
  | [], o, y, h => .inl h
  | x :: l, o, y, h => by
    rw [List.foldl_cons] at h
    rcases gP_mem_from l _ y h with h1 | h1
    · unfold gStep at h1
      split at h1
      · injection h1 with h1; exact .inr (by simp [h1])
      · split at h1
        · injection h1 with h1; exact .inr (by simp [h1])
        · exact .inl h1
    · exact .inr (List.mem_cons_of_mem _ h1)
theorem gP_mem {l : List It} {y : It} (h : gP l = some y) : y ∈ l := by
  rcases gP_mem_from l none y h with h | h
  · cases h
  · exact h
/-- rows of elements of two types lie apart -/
theorem apart_types {w : World} {b b' : Nat} {e e' : TypeId} {k k' n n' : Nat} {v v' : Value} {xs xs' : List Value} (h : w.ownsRow b e k v n xs) (h' : w.ownsRow b' e' k' v' n' xs') (hne : e ≠ e') : v.ownBlock = none ∨ v.ownBlock ≠ v'.ownBlock := by
  rcases h.2 with ⟨rfl, _⟩ | ⟨g, cap, cur, rfl, _, hg, _⟩
  · exact .inl rfl
  · refine .inr fun e1 => ?_
    rcases h'.2 with ⟨rfl, _⟩ | ⟨g', cap', cur', rfl, _, hg', _⟩
    · cases e1
    · simp only [Value.ownBlock, Option.some.injEq] at e1
      subst e1
      rw [hg] at hg'
      injection hg' with hg'
      injection hg' with _ hg'
      exact hne hg'
theorem ownz_ints {w : World} {base : Nat} {A : Option Addr} {n c : Nat} {L : List Int} (h : OwnZ w base (.slice A n c) L) (hb : ∀ s ∈ L, -9223372036854775808 ≤ s ∧ s ≤ 9223372036854775807) : IntsAt w A L := by
  obtain ⟨A', c', e, _, _, _, hc⟩ := h.slice
  injection e with e1 e2 e3
  subst e1 e2 e3
  refine ⟨hb, fun i hi => ?_⟩
  obtain ⟨g, rfl, hg, hcell⟩ := hc (by omega)
  exact ⟨g, 0, rfl, hg, by rw [Nat.zero_add]; exact hcell i hi⟩
/-- what Choose tells -/
def ChoT (o : Option (List Nat)) (v : Value) (b : Bool) (w : World) : Prop := match o with
  | none => b = false ∧ v = .slice none 0 0
  | some bs => b = true ∧ ∃ A c, v = .slice A bs.length c ∧ RowB w A bs.length c bs
theorem ChoT.kept {o : Option (List Nat)} {v : Value} {b : Bool} {w w' : World} (h : ChoT o v b w) (k : Kept w w') : ChoT o v b w' := by
  cases o with
  | none => exact h
  | some bs =>
    obtain ⟨h1, A, c, h2, h3⟩ := h
    exact ⟨h1, A, c, h2, h3.below k.1⟩

set_option maxRecDepth 100000 in
set_option maxHeartbeats 8000000 in
theorem choose_any {w : World} {A : Option Addr} {N cap : Nat} {l : List It} {n : Int} (hl : l.length = N) (hR : EP.Reads w A l) (hV : ∀ x ∈ l, Row w x.A x.r.val.length x.c x.r.val) (hW : ∀ x ∈ l, -9223372036854775808 ≤ x.r.who ∧ x.r.who ≤ 9223372036854775807)
    (hN : N ≤ 1099511627775) (hn : n ≤ 9223372036854775807) :
    Calls Try.prog 10 #[.slice A N cap, .int .i64 n] w fun e w' => ∃ v b, e = .returned (.tuple #[v, .bool b]) ∧ Kept w w' ∧ ChoT (chooseP (l.map It.r) n) v b w' := by
  have HL := Lib.hid hl
  have HR := Lib.hid hR
  have HV := Lib.hid hV
  have HW := Lib.hid hW
  have HN := Lib.hid hn
  have HT : Hid (l.take l.length = l) := Lib.hid (by rw [List.take_length])
  clear hl hR hV hW hn
  go_enter Try.func10, Try.ntmps10
  go_wp2
  go_loopw [6, 7, 14] (fun f s i wr => ∃ k : Nat, k ≤ N ∧ i = .int .i64 k ∧ Kept w wr ∧ OwnZ wr w.heap.size f ((l.take k).map fun x => x.r.who) ∧ EP.Own wr w.heap.size s ((l.take k).filter (okP n))) (fun _ _ i _ => N - (intOf i).toNat)
  case atStart => exact ⟨0, Nat.zero_le _, rfl, Kept.refl _, OwnZ.nil _ _, Elem.Own.nil _ _ _⟩
  case round =>
    obtain ⟨k, hk, rfl, kk, ownf, owns⟩ := hrel
    have KK := Lib.hid kk
    have HF := Lib.hid ownf
    have HS := Lib.hid owns
    by_cases hlt : k < N
    · have hkl : k < l.length := by rw [HL.out]; exact hlt
      obtain ⟨b, off, rfl, hb, c0, c1, c2, c3, c4⟩ := EP_five (HR.out.kept kk) hkl
      have HSN : Hid ((l.take (k + 1)).map (fun x : It => x.r.who) = (l.take k).map (fun x : It => x.r.who) ++ [l[k].r.who]) := Lib.hid (by rw [List.take_succ_eq_append_getElem hkl, List.map_append]; rfl)
      have HSF : Hid ((l.take (k + 1)).filter (okP n) = (l.take k).filter (okP n) ++ if okP n l[k] = true then [l[k]] else []) := Lib.hid (by rw [List.take_succ_eq_append_getElem hkl, List.filter_append, List.filter_cons, List.filter_nil])
      have HL1 : Hid (((l.take k).map (fun x : It => x.r.who)).length ≤ 1099511627775) := Lib.hid (by rw [List.length_map, List.length_take]; omega)
      have HL2 : Hid (((l.take k).filter (okP n)).length ≤ 1099511627775) := Lib.hid (by have := List.length_filter_le (okP n) (l.take k); rw [List.length_take] at this; omega)
      generalize l[k] = x at *
      have HX := Lib.hid (show okP n x = (x.r.so && isSiteB x.r.who n) from rfl)
      obtain ⟨⟨who, so, ar, as_, val⟩, B, c⟩ := x
      simp only at c0 c1 c2 c3 c4 HX
      generalize (l.take k).map (fun x : It => x.r.who) = L at *
      generalize (l.take k).filter (okP n) = M at *
      have P1 : Hid (Hp (wr.alloc (.cells #[.int .i64 who, .bool so, .int .i64 ar, .int .i64 as_, .slice B val.length c] 58)) wr.heap.size ⟨⟨who, so, ar, as_, val⟩, B, c⟩) := Lib.hid (push_new wr _)
      have own1 := HF.out.below ((Kept.refl wr).alloc (.cells #[.int .i64 who, .bool so, .int .i64 ar, .int .i64 as_, .slice B val.length c] 58)).1
      have own2 := HS.out.kept ((Kept.refl wr).alloc (.cells #[.int .i64 who, .bool so, .int .i64 ar, .int .i64 as_, .slice B val.length c] 58))
      have hbf : ∀ g, u6.ownBlock = some g → g < wr.heap.size := fun g hg => (World.ownsRow.lt ownf g hg).2
      have KA := Lib.hid (KK.out.alloc (.cells #[.int .i64 who, .bool so, .int .i64 ar, .int .i64 as_, .slice B val.length c] 58))
      have OA := Lib.hid own1
      have OB := Lib.hid own2
      have HBF := Lib.hid hbf
      clear own1 own2 hbf ownf owns kk hb
      have ways : (so = false ∧ okP n ⟨⟨who, so, ar, as_, val⟩, B, c⟩ = false) ∨ (so = true ∧ ¬ 0 ≤ who ∧ okP n ⟨⟨who, so, ar, as_, val⟩, B, c⟩ = false) ∨ (so = true ∧ 0 ≤ who ∧ ¬ who < n ∧ okP n ⟨⟨who, so, ar, as_, val⟩, B, c⟩ = false) ∨ (so = true ∧ 0 ≤ who ∧ who < n ∧ okP n ⟨⟨who, so, ar, as_, val⟩, B, c⟩ = true) := by
        rw [HX.out]
        unfold isSiteB
        cases so with
        | false => exact .inl ⟨rfl, rfl⟩
        | true =>
          by_cases h1 : 0 ≤ who
          · by_cases h2 : who < n
            · exact .inr (.inr (.inr ⟨rfl, h1, h2, by simp [h1, h2]⟩))
            · exact .inr (.inr (.inl ⟨rfl, h1, h2, by simp [h2]⟩))
          · exact .inr (.inl ⟨rfl, h1, by simp [h1]⟩)
      clear HX
      rcases ways with ⟨rfl, ho⟩ | ⟨rfl, h1, ho⟩ | ⟨rfl, h1, h2, ho⟩ | ⟨rfl, h1, h2, ho⟩
      all_goals
        rw [ho] at HSF
        have HSF := Lib.hid HSF.out
        clear ho
      case inr.inr.inr =>
        have hd1 : decide (0 ≤ who) = true := decide_eq_true h1
        have hd2 : decide (who < n) = true := decide_eq_true h2
        rw [if_pos rfl] at HSF
        go_wp2_with (first
          | (at_builtin
             refine wpList_append_ints rfl (.tmp 18) (.tmp 21) rfl (v := u6) (base := w.heap.size) (ds := L) (xs := [who]) (off := 0) (n := 1) (c := 1) rfl rfl (World.ownsRow.alloc OA.out _) rfl (fun i hi => ?_) (by have := HL1.out; omega) (KA.out.alloc _).2 ?_
             · obtain rfl : i = 0 := by simpa using hi
               exact cell_of_heap (push_two_new wr _ _) 0
             intro y4 v4 own4 gr4 at4
             have k4 := Lib.hid (Kept.grow (KA.out.alloc _) (World.ownsRow.alloc OA.out _) (Nat.le_refl _) gr4)
             have hp4 := Lib.hid ((gr4.block wr.heap.size (by simp <;> omega) (fun e => by have := HBF.out _ e.symm; omega)).trans ((push_old _ _ (by simp)).trans P1.out))
             have os4 := Lib.hid (show EP.Own v4 w.heap.size u7 M from World.ownsRow.kept (World.ownsRow.alloc OB.out _) gr4 (apart_types OB.out OA.out (by decide)))
             have hsz4 : wr.heap.size + 2 ≤ v4.heap.size := by have := gr4.size; simp at this; exact this
             obtain ⟨e0, e1, e2, e3, e4⟩ := Hp.cells (x := ⟨⟨who, true, ar, as_, val⟩, B, c⟩) hp4.out
             simp only at e0 e1 e2 e3 e4
             have own4 := Lib.hid own4
             clear gr4 at4)
          | (at_builtin
             refine wpList_append_flat EP rfl (.tmp 36) (.tmp 38) rfl (xs := [⟨⟨who, true, ar, as_, val⟩, B, c⟩]) (base := w.heap.size) rfl rfl (os4.out.kept ((Kept.refl v4).alloc _)) (EP.reads_new v4 _ _ _ rfl) rfl (fun h => by cases h) (by have := HL2.out; omega) (k4.out.alloc _).2 ?_
             intro y5 v5 own5 gr5 at5
             have k5 := Lib.hid (Elem.Own.keeps (k4.out.alloc _) (os4.out.kept ((Kept.refl v4).alloc _)) (Nat.le_refl _) gr5)
             have of5 := Lib.hid (show OwnZ v5 w.heap.size y4 (L ++ [who]) from World.ownsRow.kept (World.ownsRow.alloc own4.out _) gr5 (apart_types own4.out os4.out (by decide)))
             have own5 := Lib.hid own5
             clear gr5 at5)
          | fail)
        go_roundw
        case rel => exact ⟨k + 1, by omega, by go_num, k5.out, by rw [HSN.out]; exact of5.out, by rw [HSF.out]; exact own5.out⟩
        case measure => simp [intOf]; omega
      case inl =>
        rw [if_neg (by decide), List.append_nil] at HSF
        go_wp2_with (first
          | (at_builtin
             refine wpList_append_ints rfl (.tmp 18) (.tmp 21) rfl (v := u6) (base := w.heap.size) (ds := L) (xs := [who]) (off := 0) (n := 1) (c := 1) rfl rfl (World.ownsRow.alloc OA.out _) rfl (fun i hi => ?_) (by have := HL1.out; omega) (KA.out.alloc _).2 ?_
             · obtain rfl : i = 0 := by simpa using hi
               exact cell_of_heap (push_two_new wr _ _) 0
             intro y4 v4 own4 gr4 at4
             have k4 := Lib.hid (Kept.grow (KA.out.alloc _) (World.ownsRow.alloc OA.out _) (Nat.le_refl _) gr4)
             have hp4 := Lib.hid ((gr4.block wr.heap.size (by simp <;> omega) (fun e => by have := HBF.out _ e.symm; omega)).trans ((push_old _ _ (by simp)).trans P1.out))
             have os4 := Lib.hid (show EP.Own v4 w.heap.size u7 M from World.ownsRow.kept (World.ownsRow.alloc OB.out _) gr4 (apart_types OB.out OA.out (by decide)))
             have hsz4 : wr.heap.size + 2 ≤ v4.heap.size := by have := gr4.size; simp at this; exact this
             obtain ⟨e0, e1, e2, e3, e4⟩ := Hp.cells (x := ⟨⟨who, false, ar, as_, val⟩, B, c⟩) hp4.out
             simp only at e0 e1 e2 e3 e4
             have own4 := Lib.hid own4
             clear gr4 at4)
          | fail)
        go_roundw
        case rel => exact ⟨k + 1, by omega, by go_num, k4.out, by rw [HSN.out]; exact own4.out, by rw [HSF.out]; exact os4.out⟩
        case measure => simp [intOf]; omega
      case inr.inl =>
        have hd1 : decide (0 ≤ who) = false := decide_eq_false h1
        rw [if_neg (by decide), List.append_nil] at HSF
        go_wp2_with (first
          | (at_builtin
             refine wpList_append_ints rfl (.tmp 18) (.tmp 21) rfl (v := u6) (base := w.heap.size) (ds := L) (xs := [who]) (off := 0) (n := 1) (c := 1) rfl rfl (World.ownsRow.alloc OA.out _) rfl (fun i hi => ?_) (by have := HL1.out; omega) (KA.out.alloc _).2 ?_
             · obtain rfl : i = 0 := by simpa using hi
               exact cell_of_heap (push_two_new wr _ _) 0
             intro y4 v4 own4 gr4 at4
             have k4 := Lib.hid (Kept.grow (KA.out.alloc _) (World.ownsRow.alloc OA.out _) (Nat.le_refl _) gr4)
             have hp4 := Lib.hid ((gr4.block wr.heap.size (by simp <;> omega) (fun e => by have := HBF.out _ e.symm; omega)).trans ((push_old _ _ (by simp)).trans P1.out))
             have os4 := Lib.hid (show EP.Own v4 w.heap.size u7 M from World.ownsRow.kept (World.ownsRow.alloc OB.out _) gr4 (apart_types OB.out OA.out (by decide)))
             have hsz4 : wr.heap.size + 2 ≤ v4.heap.size := by have := gr4.size; simp at this; exact this
             obtain ⟨e0, e1, e2, e3, e4⟩ := Hp.cells (x := ⟨⟨who, true, ar, as_, val⟩, B, c⟩) hp4.out
             simp only at e0 e1 e2 e3 e4
             have own4 := Lib.hid own4
             clear gr4 at4)
          | fail)
        go_roundw
        case rel => exact ⟨k + 1, by omega, by go_num, k4.out, by rw [HSN.out]; exact own4.out, by rw [HSF.out]; exact os4.out⟩
        case measure => simp [intOf]; omega
      case inr.inr.inl =>
        have hd1 : decide (0 ≤ who) = true := decide_eq_true h1
        have hd2 : decide (who < n) = false := decide_eq_false h2
        rw [if_neg (by decide), List.append_nil] at HSF
        go_wp2_with (first
          | (at_builtin
             refine wpList_append_ints rfl (.tmp 18) (.tmp 21) rfl (v := u6) (base := w.heap.size) (ds := L) (xs := [who]) (off := 0) (n := 1) (c := 1) rfl rfl (World.ownsRow.alloc OA.out _) rfl (fun i hi => ?_) (by have := HL1.out; omega) (KA.out.alloc _).2 ?_
             · obtain rfl : i = 0 := by simpa using hi
               exact cell_of_heap (push_two_new wr _ _) 0
             intro y4 v4 own4 gr4 at4
             have k4 := Lib.hid (Kept.grow (KA.out.alloc _) (World.ownsRow.alloc OA.out _) (Nat.le_refl _) gr4)
             have hp4 := Lib.hid ((gr4.block wr.heap.size (by simp <;> omega) (fun e => by have := HBF.out _ e.symm; omega)).trans ((push_old _ _ (by simp)).trans P1.out))
             have os4 := Lib.hid (show EP.Own v4 w.heap.size u7 M from World.ownsRow.kept (World.ownsRow.alloc OB.out _) gr4 (apart_types OB.out OA.out (by decide)))
             have hsz4 : wr.heap.size + 2 ≤ v4.heap.size := by have := gr4.size; simp at this; exact this
             obtain ⟨e0, e1, e2, e3, e4⟩ := Hp.cells (x := ⟨⟨who, true, ar, as_, val⟩, B, c⟩) hp4.out
             simp only at e0 e1 e2 e3 e4
             have own4 := Lib.hid own4
             clear gr4 at4)
          | fail)
        go_roundw
        case rel => exact ⟨k + 1, by omega, by go_num, k4.out, by rw [HSN.out]; exact own4.out, by rw [HSF.out]; exact os4.out⟩
        case measure => simp [intOf]; omega
    · obtain rfl : k = N := by omega
      have e : l.take k = l := by rw [← HL.out, HT.out]
      rw [e] at HF HS
      obtain ⟨Af, cf, rfl, _, _, _, _⟩ := HF.out.slice
      obtain ⟨As, cs, rfl, _, _, _⟩ := HS.out.slice
      have hlf : (l.map fun x : It => x.r.who).length = k := by rw [List.length_map, HL.out]
      have HI : Hid (IntsAt wr Af (l.map fun x : It => x.r.who)) := Lib.hid (ownz_ints HF.out (fun s hs => by
        obtain ⟨x, hx, rfl⟩ := List.mem_map.1 hs
        exact HW.out x hx))
      have HRS := Lib.hid HS.out.reads
      have hlm : ((l.filter (okP n)).length : Nat) ≤ 1099511627776 := by have := List.length_filter_le (okP n) l; have := HL.out; omega
      have HLM := Lib.hid hlm
      have HCH : Hid (chooseP (l.map It.r) n = if mostB n (l.map fun x : It => x.r.who) = true then some ((gP (l.filter (okP n))).getD It.zero).r.val else none) := Lib.hid (by
        unfold chooseP
        rw [← gP_bestP, List.map_map, show Pm.who ∘ It.r = fun x : It => x.r.who from rfl]
        cases gP (l.filter (okP n)) <;> rfl)
      have HRV : Hid (Row w ((gP (l.filter (okP n))).getD It.zero).A ((gP (l.filter (okP n))).getD It.zero).r.val.length ((gP (l.filter (okP n))).getD It.zero).c ((gP (l.filter (okP n))).getD It.zero).r.val) := Lib.hid (by
        cases hg : gP (l.filter (okP n)) with
        | none => exact Row.none
        | some y => exact HV.out y (List.mem_filter.1 (gP_mem hg)).1)
      have HMO := Lib.hid (most_any (n := n) (cap := cf) hlf HI.out (by omega) HN.out)
      have HGR := Lib.hid (fun (W : World) (k : Kept wr W) => greatestP_any (w := W) (cap := cs) rfl (HRS.out.kept k) HLM.out)
      rw [hlf]
      generalize (l.filter (okP n)).length = M at *
      generalize mostB n (l.map fun x : It => x.r.who) = mo at *
      generalize (gP (l.filter (okP n))).getD It.zero = y at *
      clear ownf owns kk HF HS HI hlf e hlm
      obtain ⟨⟨yw, yo, yr, ys, yv⟩, YB, yc⟩ := y
      simp only at HCH HRV
      go_wp2_with fail
      refine HMO.out.mono ?_
      rintro e u1 ⟨rfl, b1⟩
      have K1 := Lib.hid ((Kept.refl wr).call b1)
      clear b1
      cases mo with
      | false =>
        rw [if_neg (by decide)] at HCH
        go_wp2
        go_ret2
        exact ⟨_, _, rfl, KK.out.trans K1.out, by rw [HCH.out]; exact ⟨rfl, rfl⟩⟩
      | true =>
        rw [if_pos rfl] at HCH
        go_wp2_with fail
        refine (HGR.out _ K1.out).mono ?_
        rintro e u2 ⟨x, rfl, rfl, k2⟩
        have K2 := Lib.hid ((KK.out.trans K1.out).trans k2)
        clear k2
        simp only
        go_wp2_with fail
        have KB : Hid (Kept u2 (u2.alloc (.cells #[.int .i64 yw, .bool yo, .int .i64 yr, .int .i64 ys, .slice YB yv.length yc] 58))) := Lib.hid ((Kept.refl u2).alloc _)
        have HVB := Lib.hid (And.intro HRV.out.bts.2.1 HRV.out.bts.2.2.1)
        refine (clone_any ((HRV.out.below K2.out.1).below KB.out.1)).mono ?_
        rintro e u3 ⟨v, rfl, own, b3⟩
        have K3 := Lib.hid ((K2.out.trans KB.out).trans ((Kept.refl _).call b3))
        have OW := Lib.hid own
        clear own b3
        obtain ⟨A3, n3, c3, rfl⟩ := OW.out.slice
        go_wp2
        go_ret2
        refine ⟨_, _, rfl, K3.out, ?_⟩
        rw [HCH.out]
        obtain ⟨A4, c4, e4, hr4⟩ := OW.out.rowB (by have := HVB.out.1; exact this) HVB.out.2
        exact ⟨rfl, A4, c4, e4, hr4⟩
end Go.Proofs.Ytifenlopgpbpbaa
