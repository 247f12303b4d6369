/- A command's numbers, read of a Reader: the program's answer. -/
import Derived.Test.YtegjlcmeaelbnaaDoorCmdL
import Derived.Deep.RegionWith
import Derived.Great.BuildSlice
import Derived.Great.Walk
import Derived.Deep.MidRow
import Derived.Laws.Tables
import Derived.Laws.CopyRow
namespace Go.Proofs.YtegjlcmeaelbnaaDoor
open Go.RowKit Go.Great

theorem results_row_tmp {fn : Func} {p u : Tmp} {ty : TypeId} (h : fn.results = #[.cell p ty, .tmp u]) (tmps : Array Value) (P : Program) (w : World) (g : Nat) (t : TypeId) (cs : Array Value) (fr : Nat × Nat) (d : TypeDesc) (v : Value)
    (hp : tmps.getD p undef = .pointer (some ⟨g, 0, none⟩)) (hv : tmps.getD u undef = v) (hg : w.heap[g]? = some (.cells cs t fr))
    (hu : P.underlying ty = some d) (hd : d.isRow = true) (hi : (P.info? ty).map (·.size) = some cs.size) :
    (results fn tmps).run P w = .ok (.tuple #[.agg cs, v]) w := by
  have hl : (loadVar ty ⟨g, 0, none⟩).run P w = .ok (.agg cs) w := by
    cases d <;> first | exact run_loadVar_row w g t ty cs fr _ hg hu rfl hi | cases hd
  rw [results_cell_tmp h, hp, hv]
  simp [asAddr, Result.andThen, hl]

set_option maxRecDepth 100000 in
theorem next_any (g : Nat) (bs : List Nat) (p : Nat) (i : Nat) (w : World) (hr : Rd w g bs p) :
    Calls Tryd.prog 41 #[.pointer (some ⟨g, 0, none⟩), .int .i64 (i : Int)] w fun e w' =>
      e = .returned (.tuple #[.int .i64 (rdOne i (bs.drop p)).1, errv (rdOne i (bs.drop p)).2.2 p]) ∧ Rd w' g bs (p + (rdOne i (bs.drop p)).2.1) ∧ Off g w w' := by
  unfold rdOne
  by_cases h : 1 < i
  · rw [if_pos h]
    have hd : decide ((1 : Int) < (i : Int)) = true := by simp; omega
    go_enter Tryd.func41, Tryd.ntmps41
    go_wp2_with (first
      | (go_at_call 37; refine (signed_cmd _ _).mono ?_; rintro e w2 ⟨rfl, rfl⟩)
      | (go_at_call 51; refine (rint_any g bs p _ hr).mono ?_; rintro e w3 ⟨rfl, hr3, o3⟩)
      | fail)
    go_ret2
    exact ⟨rfl, hr3, o3⟩
  · rw [if_neg h]
    have hd : decide ((1 : Int) < (i : Int)) = false := by simp; omega
    go_enter Tryd.func41, Tryd.ntmps41
    go_wp2_with (first
      | (go_at_call 37; refine (signed_cmd _ _).mono ?_; rintro e w2 ⟨rfl, rfl⟩)
      | (go_at_call 52; refine (rsmall_any g bs p 1000 (by decide) _ hr).mono ?_; rintro e w3 ⟨rfl, hr3, o3⟩)
      | fail)
    go_ret2
    exact ⟨rfl, hr3, o3⟩

theorem Off.new {g : Nat} {w w' : World} (h : Off g w w') {b : Nat} (hb : w.heap.size ≤ b) (j : Nat) (v : Value) : Off g w (w'.setCell ⟨b, j, none⟩ v) :=
  ⟨h.os, h.tape, h.output, by simpa [World.setCell] using h.size, fun k hk hn => (Below.heap_setCell w' ⟨b, j, none⟩ v k (by simp only; omega)).trans (h.rest k hk hn)⟩
theorem Off.row {g : Nat} {w w' : World} (h : Off g w w') {b : Nat} (hb : w.heap.size ≤ b) (cs : Array Value) : Off g w (w'.setRow b cs) :=
  ⟨h.os, h.tape, h.output, by simpa using h.size, fun k hk hn => (setRow_other w' b k cs (by omega)).trans (h.rest k hk hn)⟩
/-- nine numbers of which the first ones are these -/
def arrOf (vs : List Int) : Array Value := ((vs ++ List.replicate (9 - vs.length) 0).map fun n => Value.int .i64 n).toArray
theorem arr_set {vs : List Int} {k : Nat} (hk : vs.length = k) (h : k < 9) (x : Int) : (arrOf vs).setIfInBounds k (.int .i64 x) = arrOf (vs ++ [x]) := by
  unfold arrOf
  subst hk
  have e : 9 - vs.length = (9 - (vs ++ [x]).length) + 1 := by simp; omega
  rw [e, List.replicate_succ]
  simp
theorem arr_size {vs : List Int} (h : vs.length ≤ 9) : (arrOf vs).size = 9 := by
  unfold arrOf
  simp
  omega
theorem arr_cell {vs : List Int} (h : vs.length ≤ 9) {j : Nat} (hj : j < 9) : ∃ n, (arrOf vs)[j]? = some (.int .i64 n) := by
  refine ⟨(vs ++ List.replicate (9 - vs.length) 0)[j]'(by simp; omega), ?_⟩
  unfold arrOf
  rw [List.getElem?_toArray, List.getElem?_map, List.getElem?_eq_getElem (by simp; omega)]
  rfl
theorem arr_nums {vs : List Int} (h : vs.length = 9) : .agg (arrOf vs) = nums vs := by
  unfold arrOf nums
  rw [h]
  simp
/-- what read tells of these bytes -/
def readV (bs : List Nat) : Value × Value :=
  if (rdN 0 9 bs 0).2.2 ≠ 0 then (nums zeros, fault ((rdN 0 9 bs 0).2.2 : Nat) ((rdN 0 9 bs 0).2.1 : Nat))
  else (nums (rdN 0 9 bs 0).1, if (rdN 0 9 bs 0).2.1 < bs.length then fault 2 ((rdN 0 9 bs 0).2.1 : Nat) else .nilIface)

set_option maxRecDepth 100000 in
set_option maxHeartbeats 4000000 in
theorem read9 (g : Nat) (bs : List Nat) (w : World) (hr : Rd w g bs 0) :
    Calls Tryd.prog 25 #[.pointer (some ⟨g, 0, none⟩)] w fun e w' => e = .returned (.tuple #[(readV bs).1, (readV bs).2]) ∧ Off g w w' := by
  have hgl := hr.lt
  have HR0 := Lib.hid hr
  obtain ⟨V, hV⟩ : ∃ V, V = (readV bs).1 := ⟨_, rfl⟩
  obtain ⟨E, hE⟩ : ∃ E, E = (readV bs).2 := ⟨_, rfl⟩
  rw [← hV, ← hE]
  have HV := Lib.hid hV
  have HE := Lib.hid hE
  obtain ⟨R0, hR0⟩ : ∃ R, rdN 0 9 bs 0 = R := ⟨_, rfl⟩
  have HR00 := Lib.hid hR0
  clear hr hV hE hR0
  have hz : ∀ W : World, W.heap.size = w.heap.size → (W.alloc (.cells (arrOf []) 50)).heap[w.heap.size]? = some (.cells (arrOf []) 50 (0, 0)) := fun W h => by rw [← h]; exact push_new _ _
  have ha1 := push_two_old w (.cells (arrOf []) 50) (.cells (arrOf []) 50)
  have ha2 := push_two_new w (.cells (arrOf []) 50) (.cells (arrOf []) 50)
  have hb0 : Below w.heap.size w ((w.alloc (.cells (arrOf []) 50)).alloc (.cells (arrOf []) 50)) := ((Below.refl _ _).alloc (Nat.le_refl _) _).alloc (by simp) _
  have HA1 := Lib.hid ha1
  have HA2 := Lib.hid ha2
  have HB0 := Lib.hid hb0
  clear hz ha1 ha2 hb0
  go_enter Tryd.func25, Tryd.ntmps25
  go_wp2_with fail
  go_loopw [8] (fun i wr => ∃ (k p : Nat) (vs : List Int), i = .int .i64 k ∧ vs.length = k ∧ k ≤ 9 ∧ Rd wr g bs p ∧ R0 = (vs ++ (rdN k (9 - k) bs p).1, (rdN k (9 - k) bs p).2) ∧ Off g w wr ∧
    wr.heap[w.heap.size]? = some (.cells (arrOf []) 50 (0, 0)) ∧ wr.heap[w.heap.size + 1]? = some (.cells (arrOf vs) 50 (0, 0))) (fun i _ => 9 - (intOf i).toNat)
  case atStart => exact ⟨0, 0, [], rfl, rfl, by omega, HR0.out.below HB0.out, by rw [← HR00.out]; simp, Off.of_below HB0.out, HA1.out, HA2.out⟩
  case round =>
    obtain ⟨k, p, vs, rfl, hvk, hk9, hrd, hrn, hof, h1, h2⟩ := hrel
    rename_i wr
    have HRN := Lib.hid hrn
    have HOF := Lib.hid hof
    have H1 := Lib.hid h1
    have H2 := Lib.hid h2
    have HRD := Lib.hid hrd
    have HVK := Lib.hid hvk
    have hle := hrd.le
    clear hrn hof h1 h2 hrd hvk
    by_cases hk : k < 9
    · have hn := next_any g bs p k wr HRD.out
      have hrn := HRN.out
      obtain ⟨m, hm⟩ : ∃ m, 9 - k = m + 1 := ⟨9 - k - 1, by omega⟩
      rw [hm, rdN] at hrn
      have HM := Lib.hid hm
      clear HRN hm
      generalize rdOne k (bs.drop p) = O at *
      obtain ⟨x, sz, c⟩ := O
      simp only at hn hrn
      have HRN := Lib.hid hrn
      clear hrn
      by_cases hc : c = 0
      · subst hc
        have he : errv 0 p = .nilIface := rfl
        rw [he] at hn
        have HNX := Lib.hid hn
        clear hn he
        go_wp2_with (first
          | (go_at_call 41; refine HNX.out.mono ?_; rintro e w2 ⟨rfl, hr2, o2⟩
             have HR2 := Lib.hid hr2
             have HO2 := Lib.hid o2
             have hx1 := (o2.rest w.heap.size (heap_lt H1.out) (by omega)).trans H1.out
             have hx2 := (o2.rest (w.heap.size + 1) (heap_lt H2.out) (by omega)).trans H2.out
             have hcl := (cell_of_heap hx2 k)
             obtain ⟨z, hz⟩ := arr_cell (vs := vs) (j := k) (by have := HVK.out; omega) hk
             rw [hz] at hcl
             have hfr := frozen_of_heap hx2 k
             have HX1 := Lib.hid hx1
             have HX2 := Lib.hid hx2
             clear hx1 hx2 hr2 o2 hz)
          | fail)
        have hrn2 := HRN.out
        simp only [ne_eq, not_true_eq_false, if_false] at hrn2
        refine ⟨⟨k + 1, p + sz, vs ++ [x], by go_num, by rw [List.length_append, HVK.out]; rfl, by omega, HR2.out.off ((Off.refl (w.heap.size + 1) w2).setCell k _) (by omega), ?_, (HOF.out.trans HO2.out).new (by omega) _ _, ?_, ?_⟩, by simp [intOf]; omega⟩
        · rw [hrn2, show 9 - (k + 1) = m by have := HM.out; omega]
          simp
        · exact (Below.heap_setCell w2 ⟨w.heap.size + 1, k, none⟩ _ w.heap.size (by simp)).trans HX1.out
        · rw [heap_setCell_same HX2.out, arr_set HVK.out hk]
      · have he : errv c p = fault (c : Int) (p : Int) := if_neg hc
        rw [he] at hn
        have HNX := Lib.hid hn
        have hrv : readV bs = (nums zeros, fault (c : Int) (p : Int)) := by
          unfold readV
          rw [HR00.out, HRN.out]
          simp only [ne_eq, hc, not_false_eq_true, if_true]
        have hV : V = nums zeros := by rw [HV.out, hrv]
        have hE : E = fault (c : Int) (p : Int) := by rw [HE.out, hrv]
        subst hV hE
        clear hn he hrv HV HE
        unfold fault at *
        go_upto_region 7 with (first
          | (go_at_call 41; refine HNX.out.mono ?_; rintro e w2 ⟨rfl, hr2, o2⟩
             have HO2 := Lib.hid o2
             have hx1 := (o2.rest w.heap.size (heap_lt H1.out) (by omega)).trans H1.out
             have HX1 := Lib.hid hx1
             clear hx1 hr2 o2)
          | fail)
        apply wp_region_lit
        refine wpList_buildTo rfl 50 _ rfl (some 19) rfl (arrOf []) (by kernel_rfl) ?_
        refine wpList_runTo rfl (some 20) rfl (.iface 75 (.agg #[.int .i64 (c : Int), .int .i64 (p : Int)])) w2 (by kernel_rfl) ?_
        refine wpList_store_rowTo rfl 50 _ _ rfl rfl w.heap.size (arrOf []) rfl rfl 50 (arrOf []) HX1.out (by kernel_rfl) rfl (by kernel_rfl) ?_
        rw [setRow_self _ _ _ _ _ HX1.out]
        refine wpList_runTo rfl (some 3) rfl (.iface 75 (.agg #[.int .i64 (c : Int), .int .i64 (p : Int)])) w2 (by kernel_rfl) ?_
        apply wpList_nil
        go_wp2
        refine bodyPost_ret (results_row_tmp (p := 2) (u := 3) (ty := 50) rfl _ _ _ w.heap.size _ (arrOf []) _ _ _ rfl rfl HX1.out Tryd.underlying50 rfl (by kernel_rfl)) rfl ?_
        exact ⟨rfl, HOF.out.trans HO2.out⟩
    · have hk' : k = 9 := by omega
      subst hk'
      have hrn := HRN.out
      rw [show 9 - 9 = 0 from rfl, rdN, List.append_nil] at hrn
      have hend := end_any g bs p
      by_cases hp : p < bs.length
      · rw [if_pos hp] at hend
        have hrv : readV bs = (nums vs, fault 2 (p : Int)) := by
          unfold readV
          rw [HR00.out, hrn]
          simp [hp]
        have hV : V = .agg (arrOf vs) := by rw [HV.out, hrv, arr_nums HVK.out]
        have hE : E = fault 2 (p : Int) := by rw [HE.out, hrv]
        subst hV hE
        clear hrn hrv HV HE HRN
        unfold fault at *
        obtain ⟨m0, m1, m2, m3, m4, m5, m6, m7, m8, hvs⟩ := nine HVK.out
        have h2v := H2.out
        rw [hvs] at h2v
        have x0 := cell_of_heap h2v 0; have x1 := cell_of_heap h2v 1; have x2 := cell_of_heap h2v 2; have x3 := cell_of_heap h2v 3; have x4 := cell_of_heap h2v 4; have x5 := cell_of_heap h2v 5; have x6 := cell_of_heap h2v 6; have x7 := cell_of_heap h2v 7; have x8 := cell_of_heap h2v 8; have z0 := cell_of_heap H1.out 0; have f0 := frozen_of_heap H1.out 0; have z1 := cell_of_heap H1.out 1; have f1 := frozen_of_heap H1.out 1; have z2 := cell_of_heap H1.out 2; have f2 := frozen_of_heap H1.out 2; have z3 := cell_of_heap H1.out 3; have f3 := frozen_of_heap H1.out 3; have z4 := cell_of_heap H1.out 4; have f4 := frozen_of_heap H1.out 4; have z5 := cell_of_heap H1.out 5; have f5 := frozen_of_heap H1.out 5; have z6 := cell_of_heap H1.out 6; have f6 := frozen_of_heap H1.out 6; have z7 := cell_of_heap H1.out 7; have f7 := frozen_of_heap H1.out 7; have z8 := cell_of_heap H1.out 8; have f8 := frozen_of_heap H1.out 8; simp only [arrOf, List.length_cons, List.length_nil, Nat.reduceAdd, Nat.reduceSub, List.replicate, List.append_nil, List.nil_append, List.map_cons, List.map_nil, List.getElem?_toArray, List.getElem?_cons_zero, List.getElem?_cons_succ] at x0 x1 x2 x3 x4 x5 x6 x7 x8 z0 z1 z2 z3 z4 z5 z6 z7 z8
        have HEND := Lib.hid hend
        have hrd2 := HRD.out.below (Below.refl _ _).drew
        have HRD2 := Lib.hid hrd2
        clear hend h2v hrd2
        go_wp2_with fail
        go_region_with (first
          | (go_at_call 42
             refine (HEND.out _ HRD2.out).mono ?_
             rintro e w3 ⟨rfl, -, o3⟩
             have hy1 := (o3.rest w.heap.size (heap_lt H1.out) (by omega)).trans H1.out
             have HO3 := Lib.hid o3
             have hy2 := (o3.rest (w.heap.size + 1) (heap_lt H2.out) (by omega)).trans H2.out
             rw [hvs] at hy2
             have xx0 := cell_of_heap hy2 0; have xx1 := cell_of_heap hy2 1; have xx2 := cell_of_heap hy2 2; have xx3 := cell_of_heap hy2 3; have xx4 := cell_of_heap hy2 4; have xx5 := cell_of_heap hy2 5; have xx6 := cell_of_heap hy2 6; have xx7 := cell_of_heap hy2 7; have xx8 := cell_of_heap hy2 8; simp only [arrOf, List.length_cons, List.length_nil, Nat.reduceAdd, Nat.reduceSub, List.replicate, List.append_nil, List.map_cons, List.map_nil, List.getElem?_toArray, List.getElem?_cons_zero, List.getElem?_cons_succ] at xx0 xx1 xx2 xx3 xx4 xx5 xx6 xx7 xx8
             clear hy2
             have zz0 := cell_of_heap hy1 0; have ff0 := frozen_of_heap hy1 0; have zz1 := cell_of_heap hy1 1; have ff1 := frozen_of_heap hy1 1; have zz2 := cell_of_heap hy1 2; have ff2 := frozen_of_heap hy1 2; have zz3 := cell_of_heap hy1 3; have ff3 := frozen_of_heap hy1 3; have zz4 := cell_of_heap hy1 4; have ff4 := frozen_of_heap hy1 4; have zz5 := cell_of_heap hy1 5; have ff5 := frozen_of_heap hy1 5; have zz6 := cell_of_heap hy1 6; have ff6 := frozen_of_heap hy1 6; have zz7 := cell_of_heap hy1 7; have ff7 := frozen_of_heap hy1 7; have zz8 := cell_of_heap hy1 8; have ff8 := frozen_of_heap hy1 8; simp only [arrOf, List.length_nil, Nat.reduceSub, List.replicate, List.nil_append, List.map_cons, List.map_nil, List.getElem?_toArray, List.getElem?_cons_zero, List.getElem?_cons_succ] at zz0 zz1 zz2 zz3 zz4 zz5 zz6 zz7 zz8
             have HY1 := Lib.hid hy1
             clear hy1 o3))
        all_goals go_wp2
        all_goals refine bodyPost_ret (results_row_tmp (p := 2) (u := 3) (ty := 50) rfl _ _ _ w.heap.size 50 (arrOf [m0, m1, m2, m3, m4, m5, m6, m7, m8]) (0, 0) _ (.iface 75 (.agg #[.int .i64 2, .int .i64 (p : Int)])) rfl rfl ?_ Tryd.underlying50 rfl (by kernel_rfl)) rfl ?_
        all_goals first
          | (refine Eq.trans (by with_reducible exact (heap_setCell_same (heap_setCell_same (heap_setCell_same (heap_setCell_same (heap_setCell_same (heap_setCell_same (heap_setCell_same (heap_setCell_same (heap_setCell_same HY1.out _) _) _) _) _) _) _) _) _)) ?_; kernel_rfl)
          | exact ⟨by first | (rw [hvs]; done) | (rw [hvs]; rfl), (((((((((((HOF.out.trans (Off.of_below (Below.refl _ _).drew)).trans HO3.out).new (Nat.le_refl _) _ _).new (Nat.le_refl _) _ _).new (Nat.le_refl _) _ _).new (Nat.le_refl _) _ _).new (Nat.le_refl _) _ _).new (Nat.le_refl _) _ _).new (Nat.le_refl _) _ _).new (Nat.le_refl _) _ _).new (Nat.le_refl _) _ _)⟩
      · rw [if_neg hp] at hend
        have hrv : readV bs = (nums vs, .nilIface) := by
          unfold readV
          rw [HR00.out, hrn]
          simp [hp]
        have hV : V = .agg (arrOf vs) := by rw [HV.out, hrv, arr_nums HVK.out]
        have hE : E = .nilIface := by rw [HE.out, hrv]
        subst hV hE
        clear hrn hrv HV HE HRN
        obtain ⟨m0, m1, m2, m3, m4, m5, m6, m7, m8, hvs⟩ := nine HVK.out
        have h2v := H2.out
        rw [hvs] at h2v
        have x0 := cell_of_heap h2v 0; have x1 := cell_of_heap h2v 1; have x2 := cell_of_heap h2v 2; have x3 := cell_of_heap h2v 3; have x4 := cell_of_heap h2v 4; have x5 := cell_of_heap h2v 5; have x6 := cell_of_heap h2v 6; have x7 := cell_of_heap h2v 7; have x8 := cell_of_heap h2v 8; have z0 := cell_of_heap H1.out 0; have f0 := frozen_of_heap H1.out 0; have z1 := cell_of_heap H1.out 1; have f1 := frozen_of_heap H1.out 1; have z2 := cell_of_heap H1.out 2; have f2 := frozen_of_heap H1.out 2; have z3 := cell_of_heap H1.out 3; have f3 := frozen_of_heap H1.out 3; have z4 := cell_of_heap H1.out 4; have f4 := frozen_of_heap H1.out 4; have z5 := cell_of_heap H1.out 5; have f5 := frozen_of_heap H1.out 5; have z6 := cell_of_heap H1.out 6; have f6 := frozen_of_heap H1.out 6; have z7 := cell_of_heap H1.out 7; have f7 := frozen_of_heap H1.out 7; have z8 := cell_of_heap H1.out 8; have f8 := frozen_of_heap H1.out 8; simp only [arrOf, List.length_cons, List.length_nil, Nat.reduceAdd, Nat.reduceSub, List.replicate, List.append_nil, List.nil_append, List.map_cons, List.map_nil, List.getElem?_toArray, List.getElem?_cons_zero, List.getElem?_cons_succ] at x0 x1 x2 x3 x4 x5 x6 x7 x8 z0 z1 z2 z3 z4 z5 z6 z7 z8
        have HEND := Lib.hid hend
        have hrd2 := HRD.out.below (Below.refl _ _).drew
        have HRD2 := Lib.hid hrd2
        clear hend h2v hrd2
        go_wp2_with fail
        go_region_with (first
          | (go_at_call 42
             refine (HEND.out _ HRD2.out).mono ?_
             rintro e w3 ⟨rfl, -, o3⟩
             have hy1 := (o3.rest w.heap.size (heap_lt H1.out) (by omega)).trans H1.out
             have HO3 := Lib.hid o3
             have hy2 := (o3.rest (w.heap.size + 1) (heap_lt H2.out) (by omega)).trans H2.out
             rw [hvs] at hy2
             have xx0 := cell_of_heap hy2 0; have xx1 := cell_of_heap hy2 1; have xx2 := cell_of_heap hy2 2; have xx3 := cell_of_heap hy2 3; have xx4 := cell_of_heap hy2 4; have xx5 := cell_of_heap hy2 5; have xx6 := cell_of_heap hy2 6; have xx7 := cell_of_heap hy2 7; have xx8 := cell_of_heap hy2 8; simp only [arrOf, List.length_cons, List.length_nil, Nat.reduceAdd, Nat.reduceSub, List.replicate, List.append_nil, List.map_cons, List.map_nil, List.getElem?_toArray, List.getElem?_cons_zero, List.getElem?_cons_succ] at xx0 xx1 xx2 xx3 xx4 xx5 xx6 xx7 xx8
             clear hy2
             have zz0 := cell_of_heap hy1 0; have ff0 := frozen_of_heap hy1 0; have zz1 := cell_of_heap hy1 1; have ff1 := frozen_of_heap hy1 1; have zz2 := cell_of_heap hy1 2; have ff2 := frozen_of_heap hy1 2; have zz3 := cell_of_heap hy1 3; have ff3 := frozen_of_heap hy1 3; have zz4 := cell_of_heap hy1 4; have ff4 := frozen_of_heap hy1 4; have zz5 := cell_of_heap hy1 5; have ff5 := frozen_of_heap hy1 5; have zz6 := cell_of_heap hy1 6; have ff6 := frozen_of_heap hy1 6; have zz7 := cell_of_heap hy1 7; have ff7 := frozen_of_heap hy1 7; have zz8 := cell_of_heap hy1 8; have ff8 := frozen_of_heap hy1 8; simp only [arrOf, List.length_nil, Nat.reduceSub, List.replicate, List.nil_append, List.map_cons, List.map_nil, List.getElem?_toArray, List.getElem?_cons_zero, List.getElem?_cons_succ] at zz0 zz1 zz2 zz3 zz4 zz5 zz6 zz7 zz8
             have HY1 := Lib.hid hy1
             clear hy1 o3))
        all_goals go_wp2
        all_goals refine bodyPost_ret (results_row_tmp (p := 2) (u := 3) (ty := 50) rfl _ _ _ w.heap.size 50 (arrOf [m0, m1, m2, m3, m4, m5, m6, m7, m8]) (0, 0) _ .nilIface rfl rfl ?_ Tryd.underlying50 rfl (by kernel_rfl)) rfl ?_
        all_goals first
          | (refine Eq.trans (by with_reducible exact (heap_setCell_same (heap_setCell_same (heap_setCell_same (heap_setCell_same (heap_setCell_same (heap_setCell_same (heap_setCell_same (heap_setCell_same (heap_setCell_same HY1.out _) _) _) _) _) _) _) _) _)) ?_; kernel_rfl)
          | exact ⟨by first | (rw [hvs]; done) | (rw [hvs]; rfl), (((((((((((HOF.out.trans (Off.of_below (Below.refl _ _).drew)).trans HO3.out).new (Nat.le_refl _) _ _).new (Nat.le_refl _) _ _).new (Nat.le_refl _) _ _).new (Nat.le_refl _) _ _).new (Nat.le_refl _) _ _).new (Nat.le_refl _) _ _).new (Nat.le_refl _) _ _).new (Nat.le_refl _) _ _).new (Nat.le_refl _) _ _)⟩
end Go.Proofs.YtegjlcmeaelbnaaDoor
