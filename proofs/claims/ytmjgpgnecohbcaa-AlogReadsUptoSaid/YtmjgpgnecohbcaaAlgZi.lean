/- Of the document: Slots. -/
import Derived.Test.YtmjgpgnecohbcaaAlgO
import Derived.Test.YtmjgpgnecohbcaaMgE
import Derived.BigQuiet
namespace Go.Proofs.Ytmjgpgnecohbcaa
open Go.RowKit

/-- the slots of records, rising, each once -/
def Rising (L : List Int) (l : List Rc) : Prop := L.Pairwise (· < ·) ∧ ∀ x, x ∈ L ↔ ∃ r ∈ l, r.slot = x
theorem Rising.nil : Rising [] [] := ⟨List.Pairwise.nil, by simp⟩
theorem Rising.same {L : List Int} {l : List Rc} {r : Rc} (h : Rising L l) (hm : r.slot ∈ L) : Rising L (l ++ [r]) := by
  refine ⟨h.1, fun x => ?_⟩
  rw [h.2]
  constructor
  · rintro ⟨s, hs, rfl⟩; exact ⟨s, List.mem_append_left _ hs, rfl⟩
  · rintro ⟨s, hs, rfl⟩
    rcases List.mem_append.1 hs with hs | hs
    · exact ⟨s, hs, rfl⟩
    · obtain rfl := List.mem_singleton.1 hs
      exact (h.2 _).1 hm
theorem Rising.more {L : List Int} {l : List Rc} {r : Rc} {k : Nat} (h : Rising L l) (hk : k ≤ L.length) (h1 : ∀ j (hj : j < L.length), j < k → L[j] < r.slot) (h2 : ∀ (hj : k < L.length), r.slot < L[k]) : Rising (L.take k ++ [r.slot] ++ L.drop k) (l ++ [r]) := by
  have hp := h.1
  rw [← List.take_append_drop k L, List.pairwise_append] at hp
  obtain ⟨p1, p2, p3⟩ := hp
  have t1 : ∀ x ∈ L.take k, x < r.slot := fun x hx => by
    obtain ⟨j, hj, rfl⟩ := List.mem_iff_getElem.1 hx
    rw [List.length_take] at hj
    rw [List.getElem_take]
    exact h1 j (by omega) (by omega)
  have t2 : ∀ x ∈ L.drop k, r.slot < x := fun x hx => by
    rcases Nat.lt_or_ge k L.length with hl | hl
    · have h3 := h2 hl
      rw [List.drop_eq_getElem_cons hl] at hx p2
      rcases List.mem_cons.1 hx with rfl | hx
      · exact h3
      · exact Int.lt_trans h3 (List.rel_of_pairwise_cons p2 hx)
    · rw [List.drop_eq_nil_of_le hl] at hx; cases hx
  refine ⟨?_, fun x => ?_⟩
  · rw [List.append_assoc, List.pairwise_append]
    refine ⟨p1, ?_, fun x hx y hy => ?_⟩
    · rw [List.singleton_append, List.pairwise_cons]
      exact ⟨t2, p2⟩
    · rcases List.mem_cons.1 hy with rfl | hy
      · exact t1 x hx
      · exact p3 x hx y hy
  · have hm : x ∈ L ↔ x ∈ L.take k ∨ x ∈ L.drop k := by
      conv => lhs; rw [← List.take_append_drop k L]
      exact List.mem_append
    rw [List.mem_append, List.mem_append, List.mem_singleton]
    constructor
    · rintro ((hx | rfl) | hx)
      · obtain ⟨s, hs, e⟩ := (h.2 x).1 (hm.2 (.inl hx)); exact ⟨s, List.mem_append_left _ hs, e⟩
      · exact ⟨r, by simp, rfl⟩
      · obtain ⟨s, hs, e⟩ := (h.2 x).1 (hm.2 (.inr hx)); exact ⟨s, List.mem_append_left _ hs, e⟩
    · rintro ⟨s, hs, rfl⟩
      rcases List.mem_append.1 hs with hs | hs
      · rcases hm.1 ((h.2 _).2 ⟨s, hs, rfl⟩) with h4 | h4
        · exact .inl (.inl h4)
        · exact .inr h4
      · obtain rfl := List.mem_singleton.1 hs
        exact .inl (.inr rfl)
theorem rising_one : ∀ {L M : List Int}, L.Pairwise (· < ·) → M.Pairwise (· < ·) → (∀ x, x ∈ L ↔ x ∈ M) → L = M
  | [], [], _, _, _ => rfl
  | [], y :: M, _, _, h => by have := (h y).2 (by simp); cases this
  | x :: L, [], _, _, h => by have := (h x).1 (by simp); cases this
  | x :: L, y :: M, h1, h2, h => by
    rw [List.pairwise_cons] at h1 h2
    have hxy : x = y := by
      rcases Int.lt_trichotomy x y with hlt | he | hlt
      · have := (h x).1 (by simp)
        rcases List.mem_cons.1 this with e | hm
        · exact e
        · have := h2.1 x hm; omega
      · exact he
      · have := (h y).2 (by simp)
        rcases List.mem_cons.1 this with e | hm
        · exact e.symm
        · have := h1.1 y hm; omega
    subst hxy
    rw [rising_one h1.2 h2.2 (fun z => by
      have hz := h z
      rw [List.mem_cons, List.mem_cons] at hz
      constructor
      · intro hm
        rcases hz.1 (.inr hm) with rfl | h'
        · exact absurd (h1.1 z hm) (by omega)
        · exact h'
      · intro hm
        rcases hz.2 (.inr hm) with rfl | h'
        · exact absurd (h2.1 z hm) (by omega)
        · exact h')]

set_option maxRecDepth 100000 in
set_option maxHeartbeats 4000000 in
theorem refslots_any {w : World} {A : Option Addr} {n cap : Nat} {l : List Rc} (hl : l.length = n) (hR : Rcs w A l) (hn : n ≤ 1099511627) :
    Calls Try.prog 32 #[.slice A n cap] w fun e w' => ∃ v L, e = .returned v ∧ OwnZ w' w.heap.size v L ∧ Rising L l ∧ L.length ≤ n ∧ Below w.heap.size w w' := by
  have HR := Lib.hid hR
  have HL := Lib.hid hl
  clear hR hl
  go_enter Try.func32, Try.ntmps32
  go_wp2
  go_loopw [3, 4] (fun o i wr => ∃ (k : Nat) (L : List Int), k ≤ n ∧ i = .int .i64 k ∧ Kept w wr ∧ OwnZ wr w.heap.size o L ∧ Rising L (l.take k) ∧ L.length ≤ k) (fun _ i _ => n - (intOf i).toNat)
  case atStart => exact ⟨0, [], Nat.zero_le _, rfl, Kept.refl _, OwnZ.nil _ _, by rw [List.take_zero]; exact Rising.nil, Nat.le_refl _⟩
  case round =>
    obtain ⟨k, L, hk, rfl, kk, own, hri, hLk⟩ := hrel
    rename World => wo
    have HRI := Lib.hid hri
    have HKK := Lib.hid kk
    have HO := Lib.hid own
    clear hri kk own
    by_cases hlt : k < n
    · have hkl : k < l.length := by rw [HL.out]; exact hlt
      obtain ⟨b, off, A2, c2, rfl, hb, -, hs1, -, -, -, -⟩ := HR.out.cells_at hkl
      have hts := List.take_succ_eq_append_getElem hkl
      have c1 := (HKK.out.cell (p := ⟨b, off + k * 5 + 1, none⟩) hb).trans hs1
      generalize hrr : l[k] = r at *
      have HTS := Lib.hid hts
      obtain ⟨Ao, co, rfl, hco, hcm, hnilo, hcello⟩ := HO.out.slice
      have HZS := Lib.hid HO.out.zs
      have HCO : Hid (∀ j, j < L.length → ∃ g, Ao = some ⟨g, 0, none⟩ ∧ g < wo.heap.size ∧ wo.cell? ⟨g, j, none⟩ = some (.int .i64 (L.getD j 0))) := Lib.hid (fun j hj => by
        obtain ⟨g, e, hg, hc⟩ := hcello (by omega)
        refine ⟨g, e, hg, ?_⟩
        rw [hc j hj, List.getD_eq_getElem?_getD, List.getElem?_eq_getElem hj]
        rfl)
      obtain ⟨m, hm⟩ : ∃ m, L.length = m := ⟨_, rfl⟩
      have HLL := Lib.hid hm
      clear hcello
      rw [hm] at HCO HZS hco hLk ⊢
      clear hm
      have hbw : b < wo.heap.size := Nat.lt_of_lt_of_le hb HKK.out.2
      clear hts hrr
      have HS1 := Lib.hid hs1
      clear hs1
      go_wp2
      go_loopw [5] (fun a wr => ∃ q : Nat, q ≤ m ∧ a = .int .i64 q ∧ Kept wo wr ∧ ∀ j, j < q → L.getD j 0 < r.slot) (fun a _ => m - (intOf a).toNat)
      case atStart => exact ⟨0, Nat.zero_le _, rfl, Kept.refl _, fun j h => absurd h (Nat.not_lt_zero _)⟩
      case round =>
        obtain ⟨q, hqm, rfl, kq, hsm⟩ := hrel
        have HKQ := Lib.hid kq
        have HSMQ := Lib.hid hsm
        have c1q := (kq.cell (p := ⟨b, off + k * 5 + 1, none⟩) hbw).trans c1
        have HSM : Hid (∀ j (hj : j < L.length), j < q → L[j] < r.slot) := Lib.hid (fun j hj h => by
          have := hsm j h
          rwa [List.getD_eq_getElem?_getD, List.getElem?_eq_getElem hj] at this)
        clear hsm kq
        by_cases hql : q < m
        · obtain ⟨g, rfl, hg, hcg⟩ := HCO.out q hql
          have hx : ∀ (hj : q < L.length), L[q] = L.getD q 0 := fun hj => by rw [List.getD_eq_getElem?_getD, List.getElem?_eq_getElem hj]; rfl
          have HX := Lib.hid hx
          have c3 := (HKQ.out.cell (p := ⟨g, q, none⟩) hg).trans hcg
          have HCG := Lib.hid hcg
          clear hx hcg
          generalize hxx : L.getD q 0 = x at *
          have HXX := Lib.hid hxx
          clear hxx
          by_cases hlx : x < r.slot
          · have d1 : decide (x < r.slot) = true := decide_eq_true hlx
            go_wp2
            refine wp_region_quiet_lit (by kernel_rfl) (by kernel_rfl) ?_
            repeat (go_big_quiet_step (fail))
            refine wpQuiet_nil ?_
            intro W1 hw1
            have k1' : Kept wo W1 := by obtain ⟨n1, rfl⟩ := hw1; exact kept_drewN HKQ.out n1
            clear hw1
            go_wp2
            go_roundw
            case rel => exact ⟨q + 1, by omega, by go_num, k1', fun j hj => by
              rcases Nat.lt_succ_iff_lt_or_eq.1 hj with h | rfl
              · exact HSMQ.out j h
              · rw [HXX.out]; exact hlx⟩
            case measure => simp [intOf]; omega
          · have d1 : decide (x < r.slot) = false := decide_eq_false hlx
            by_cases hxs : x = r.slot
            · have d2 : (x == r.slot) = true := by simpa using hxs
              go_wp2
              refine wp_region_quiet_lit (by kernel_rfl) (by kernel_rfl) ?_
              repeat (go_big_quiet_step (fail))
              refine wpQuiet_nil ?_
              intro W1 hw1
              have k1' : Kept wo W1 := by obtain ⟨n1, rfl⟩ := hw1; exact kept_drewN HKQ.out n1
              clear hw1
              clear c3 c1q
              have c3 := (k1'.cell (p := ⟨g, q, none⟩) hg).trans HCG.out
              have c1q := (k1'.cell (p := ⟨b, off + k * 5 + 1, none⟩) hbw).trans c1
              go_wp2
              refine wp_region_quiet_lit (by kernel_rfl) (by kernel_rfl) ?_
              repeat (go_big_quiet_step (fail))
              refine wpQuiet_nil ?_
              intro W2 hw1
              have k2 : Kept wo W2 := by obtain ⟨n1, rfl⟩ := hw1; exact kept_drewN k1' n1
              clear hw1
              have HIN : Hid (r.slot ∈ L) := Lib.hid (by rw [← hxs, ← HX.out (by rw [HLL.out]; exact hql)]; exact List.getElem_mem _)
              have HO2 := Lib.hid (HO.out.below k2.1)
              rw [HLL.out] at HO2
              go_wp2
              go_roundw
              case rel => exact ⟨k + 1, L, by omega, by go_num, HKK.out.trans k2, HO2.out, by rw [HTS.out]; exact HRI.out.same HIN.out, by rw [HLL.out]; omega⟩
              case measure => simp [intOf]; omega
            · have d2 : (x == r.slot) = false := by simpa using hxs
              have HBG : Hid (∀ (hj : q < L.length), r.slot < L[q]) := Lib.hid (fun hj => by rw [HX.out hj]; omega)
              go_wp2
              refine wp_region_quiet_lit (by kernel_rfl) (by kernel_rfl) ?_
              repeat (go_big_quiet_step (fail))
              refine wpQuiet_nil ?_
              intro W1 hw1
              have k1' : Kept wo W1 := by obtain ⟨n1, rfl⟩ := hw1; exact kept_drewN HKQ.out n1
              clear hw1
              clear c3 c1q
              have c3 := (k1'.cell (p := ⟨g, q, none⟩) hg).trans HCG.out
              have c1q := (k1'.cell (p := ⟨b, off + k * 5 + 1, none⟩) hbw).trans c1
              go_wp2
              refine wp_region_quiet_lit (by kernel_rfl) (by kernel_rfl) ?_
              repeat (go_big_quiet_step (fail))
              refine wpQuiet_nil ?_
              intro W2 hw1
              have k2 : Kept wo W2 := by obtain ⟨n1, rfl⟩ := hw1; exact kept_drewN k1' n1
              clear hw1
              clear c3 c1q
              have KW : Kept w W2 := HKK.out.trans k2
              have HKW := Lib.hid KW
              have hz2 := HZS.out.kept k2
              have ZH := Lib.hid ((hz2.head (k := q) hqm).kept ((Kept.refl W2).alloc (.cells #[] 3)))
              have ZT := Lib.hid (hz2.rest (k := q) (cap := co) hqm hco)
              have hnl : Hid ((if co = q then (some ⟨g, 0, none⟩ : Option Addr) else (some ⟨g, 0, none⟩ : Option Addr).map fun x => x.add q) = none → co - q = 0) := Lib.hid (fun h => by
                split at h
                · omega
                · first | (rw [hnilo (by cases (some ⟨g, 0, none⟩ : Option Addr) <;> simp_all)]; simp) | (simp at h))
              have hs1 := fun W => run_headI .i64 (some ⟨g, 0, none⟩ : Option Addr) m co q (by omega) W
              have hs2 := fun W => run_tailI .i64 (some ⟨g, 0, none⟩ : Option Addr) m co q hqm W
              generalize (if co = q then (some ⟨g, 0, none⟩ : Option Addr) else (some ⟨g, 0, none⟩ : Option Addr).map fun x => x.add q) = At at *
              have own0 : OwnZ (W2.alloc (.cells #[] 3)) w.heap.size (.slice (some ⟨W2.heap.size, 0, none⟩) 0 0) [] := ⟨rfl, .inr ⟨W2.heap.size, 0, #[], rfl, KW.2, push_new W2 _, Nat.le_refl _, by decide, rfl, rfl⟩⟩
              have OW0 := Lib.hid own0
              have cb := (KW.cell (p := ⟨b, off + k * 5 + 1, none⟩) hb).trans HS1.out
              have LT : Hid ((L.take q).length = q) := Lib.hid (by rw [List.length_take, HLL.out]; omega)
              have LD : Hid ((L.drop q).length = m - q) := Lib.hid (by rw [List.length_drop, HLL.out])
              clear own0 hz2 KW k2
              go_wp2_with (first
                | (at_builtin
                   refine wpList_append_zs rfl (.tmp 47) (.tmp 50) rfl (v := .slice (some ⟨W2.heap.size, 0, none⟩) 0 0) (base := w.heap.size) (ds := []) (xs := L.take q) (A := (some ⟨g, 0, none⟩ : Option Addr)) (n := q) (c := co) rfl rfl OW0.out ZH.out hnilo (by simp; omega) (HKW.out.alloc _).2 ?_
                   intro y5 v5 own5 gr5 at5
                   rw [List.nil_append] at own5
                   have HK5 := Lib.hid (show Kept w v5 from ⟨(HKW.out.alloc _).1.grown gr5 (HKW.out.alloc _).2 (fun j h => (World.ownsRow.lt OW0.out j h).1), Nat.le_trans (HKW.out.alloc _).2 gr5.size⟩)
                   have HK52 := Lib.hid (show Kept W2 v5 from ⟨((Kept.refl W2).alloc _).1.grown gr5 ((Kept.refl W2).alloc _).2 (fun j h => by cases h; exact Nat.le_refl _), Nat.le_trans ((Kept.refl W2).alloc _).2 gr5.size⟩)
                   have HO5 := Lib.hid own5
                   have HA5 := Lib.hid at5
                   have cb5 := (HK5.out.cell (p := ⟨b, off + k * 5 + 1, none⟩) hb).trans HS1.out
                   clear own5 gr5 at5)
                | (at_builtin
                   refine wpList_append_ints rfl (.tmp 52) (.tmp 58) rfl (v := y5) (base := w.heap.size) (ds := L.take q) (xs := [r.slot]) (off := 0) (n := 1) (c := 1) rfl rfl (World.ownsRow.alloc HO5.out _) rfl (fun i hi => ?_) (by rw [LT.out]; omega) (HK5.out.alloc _).2 ?_
                   · obtain rfl : i = 0 := by simpa using hi
                     rw [World.cell?_alloc_at _ _ _ _ rfl]
                     rfl
                   intro y6 v6 own6 gr6 at6
                   have HK6 := Lib.hid (show Kept w v6 from ⟨(HK5.out.alloc _).1.grown gr6 (HK5.out.alloc _).2 (fun j h => (World.ownsRow.lt HO5.out j h).1), Nat.le_trans (HK5.out.alloc _).2 gr6.size⟩)
                   have HK62 := Lib.hid (show Kept W2 v6 from ⟨(HK52.out.alloc _).1.grown gr6 (HK52.out.alloc _).2 (fun j h => by
                     rcases HA5.out with e | e
                     · rw [e] at h; cases h; exact Nat.le_refl _
                     · rw [e] at h; cases h; simp), Nat.le_trans (HK52.out.alloc _).2 gr6.size⟩)
                   have HO6 := Lib.hid own6
                   have ZT6 := Lib.hid (ZT.out.kept HK62.out)
                   clear own6 gr6 at6)
                | (at_builtin
                   refine wpList_append_zs rfl (.tmp 60) (.tmp 63) rfl (v := y6) (base := w.heap.size) (ds := L.take q ++ [r.slot]) (xs := L.drop q) (A := At) (n := m - q) (c := co - q) rfl rfl HO6.out ZT6.out hnl.out (by rw [List.length_append, LT.out]; simp; omega) HK6.out.2 ?_
                   intro y7 v7 own7 gr7 at7
                   have HK7 := Lib.hid (show Kept w v7 from ⟨HK6.out.1.grown gr7 HK6.out.2 (fun j h => (World.ownsRow.lt HO6.out j h).1), Nat.le_trans HK6.out.2 gr7.size⟩)
                   have HO7 := Lib.hid own7
                   clear own7 gr7 at7)
                | fail)
              go_roundw
              case rel => exact ⟨k + 1, L.take q ++ [r.slot] ++ L.drop q, by omega, by go_num, HK7.out, HO7.out, by rw [HTS.out]; exact HRI.out.more (by rw [HLL.out]; exact hqm) HSM.out HBG.out, by simp only [List.length_append, LT.out, LD.out, List.length_cons, List.length_nil]; omega⟩
              case measure => simp [intOf]; omega
        · have hqe : q = m := by omega
          have HBG : Hid (∀ (hj : q < L.length), r.slot < L[q]) := Lib.hid (fun hj => by rw [HLL.out] at hj; omega)
          subst hqe
          have d0 : decide ((q : Int) < (q : Int)) = false := decide_eq_false (by omega)
          go_wp2
          refine wp_region_quiet_lit (by kernel_rfl) (by kernel_rfl) ?_
          repeat (go_big_quiet_step (fail))
          refine wpQuiet_nil ?_
          intro W1 hw1
          have k1' : Kept wo W1 := by obtain ⟨n1, rfl⟩ := hw1; exact kept_drewN HKQ.out n1
          clear hw1
          go_wp2
          refine wp_region_quiet_lit (by kernel_rfl) (by kernel_rfl) ?_
          repeat (go_big_quiet_step (fail))
          refine wpQuiet_nil ?_
          intro W2 hw1
          have k2 : Kept wo W2 := by obtain ⟨n1, rfl⟩ := hw1; exact kept_drewN k1' n1
          clear hw1
          clear c1q
          have KW : Kept w W2 := HKK.out.trans k2
          have HKW := Lib.hid KW
          have hz2 := HZS.out.kept k2
          have ZH := Lib.hid ((hz2.head (k := q) hqm).kept ((Kept.refl W2).alloc (.cells #[] 3)))
          have ZT := Lib.hid (by have := hz2.rest (k := q) (cap := co) hqm hco; rwa [Nat.sub_self] at this)
          have hnl : Hid ((if co = q then Ao else Ao.map fun x => x.add q) = none → co - q = 0) := Lib.hid (fun h => by
            split at h
            · omega
            · first | (rw [hnilo (by cases Ao <;> simp_all)]; simp) | (simp at h))
          have hs1 := fun W => run_headI .i64 Ao q co q (by omega) W
          have hs2 := fun W => run_tailI .i64 Ao q co q hqm W
          generalize (if co = q then Ao else Ao.map fun x => x.add q) = At at *
          have own0 : OwnZ (W2.alloc (.cells #[] 3)) w.heap.size (.slice (some ⟨W2.heap.size, 0, none⟩) 0 0) [] := ⟨rfl, .inr ⟨W2.heap.size, 0, #[], rfl, KW.2, push_new W2 _, Nat.le_refl _, by decide, rfl, rfl⟩⟩
          have OW0 := Lib.hid own0
          have cb := (KW.cell (p := ⟨b, off + k * 5 + 1, none⟩) hb).trans HS1.out
          have LT : Hid ((L.take q).length = q) := Lib.hid (by rw [List.length_take, HLL.out]; omega)
          have LD : Hid ((L.drop q).length = q - q) := Lib.hid (by rw [List.length_drop, HLL.out])
          clear own0 hz2 KW k2
          go_wp2_with (first
            | (at_builtin
               refine wpList_append_zs rfl (.tmp 47) (.tmp 50) rfl (v := .slice (some ⟨W2.heap.size, 0, none⟩) 0 0) (base := w.heap.size) (ds := []) (xs := L.take q) (A := Ao) (n := q) (c := co) rfl rfl OW0.out ZH.out hnilo (by simp; omega) (HKW.out.alloc _).2 ?_
               intro y5 v5 own5 gr5 at5
               rw [List.nil_append] at own5
               have HK5 := Lib.hid (show Kept w v5 from ⟨(HKW.out.alloc _).1.grown gr5 (HKW.out.alloc _).2 (fun j h => (World.ownsRow.lt OW0.out j h).1), Nat.le_trans (HKW.out.alloc _).2 gr5.size⟩)
               have HK52 := Lib.hid (show Kept W2 v5 from ⟨((Kept.refl W2).alloc _).1.grown gr5 ((Kept.refl W2).alloc _).2 (fun j h => by cases h; exact Nat.le_refl _), Nat.le_trans ((Kept.refl W2).alloc _).2 gr5.size⟩)
               have HO5 := Lib.hid own5
               have HA5 := Lib.hid at5
               have cb5 := (HK5.out.cell (p := ⟨b, off + k * 5 + 1, none⟩) hb).trans HS1.out
               clear own5 gr5 at5)
            | (at_builtin
               refine wpList_append_ints rfl (.tmp 52) (.tmp 58) rfl (v := y5) (base := w.heap.size) (ds := L.take q) (xs := [r.slot]) (off := 0) (n := 1) (c := 1) rfl rfl (World.ownsRow.alloc HO5.out _) rfl (fun i hi => ?_) (by rw [LT.out]; omega) (HK5.out.alloc _).2 ?_
               · obtain rfl : i = 0 := by simpa using hi
                 rw [World.cell?_alloc_at _ _ _ _ rfl]
                 rfl
               intro y6 v6 own6 gr6 at6
               have HK6 := Lib.hid (show Kept w v6 from ⟨(HK5.out.alloc _).1.grown gr6 (HK5.out.alloc _).2 (fun j h => (World.ownsRow.lt HO5.out j h).1), Nat.le_trans (HK5.out.alloc _).2 gr6.size⟩)
               have HK62 := Lib.hid (show Kept W2 v6 from ⟨(HK52.out.alloc _).1.grown gr6 (HK52.out.alloc _).2 (fun j h => by
                 rcases HA5.out with e | e
                 · rw [e] at h; cases h; exact Nat.le_refl _
                 · rw [e] at h; cases h; simp), Nat.le_trans (HK52.out.alloc _).2 gr6.size⟩)
               have HO6 := Lib.hid own6
               have ZT6 := Lib.hid (ZT.out.kept HK62.out)
               clear own6 gr6 at6)
            | (at_builtin
               refine wpList_append_zs rfl (.tmp 60) (.tmp 63) rfl (v := y6) (base := w.heap.size) (ds := L.take q ++ [r.slot]) (xs := L.drop q) (A := At) (n := 0) (c := co - q) rfl rfl HO6.out ZT6.out hnl.out (by rw [List.length_append, LT.out]; simp; omega) HK6.out.2 ?_
               intro y7 v7 own7 gr7 at7
               have HK7 := Lib.hid (show Kept w v7 from ⟨HK6.out.1.grown gr7 HK6.out.2 (fun j h => (World.ownsRow.lt HO6.out j h).1), Nat.le_trans HK6.out.2 gr7.size⟩)
               have HO7 := Lib.hid own7
               clear own7 gr7 at7)
            | fail)
          go_roundw
          case rel => exact ⟨k + 1, L.take q ++ [r.slot] ++ L.drop q, by omega, by go_num, HK7.out, HO7.out, by rw [HTS.out]; exact HRI.out.more (by rw [HLL.out]; exact hqm) HSM.out HBG.out, by simp only [List.length_append, LT.out, LD.out, List.length_cons, List.length_nil]; omega⟩
          case measure => simp [intOf]; omega
    · have hkn : k = n := by omega
      subst hkn
      have e : l.take k = l := List.take_of_length_le (by rw [HL.out]; exact Nat.le_refl _)
      rw [e] at HRI
      go_wp2
      go_ret
      exact ⟨_, L, rfl, HO.out, HRI.out, hLk, HKK.out.1⟩
end Go.Proofs.Ytmjgpgnecohbcaa
