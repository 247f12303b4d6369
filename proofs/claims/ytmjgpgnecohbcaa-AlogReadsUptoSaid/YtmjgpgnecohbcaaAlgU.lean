/- The program's records: Read. -/
import Derived.Test.YtmjgpgnecohbcaaAlgT
namespace Go.Proofs.Ytmjgpgnecohbcaa
open Go.RowKit Go.Shelf
attribute [local go_sem] Oper.semAt_some

theorem recs_fn (A : Option Addr) (n cap : Nat) (w : World) : Calls Try.prog 42 #[.slice A n cap] w fun e w' => e = .returned (.func (.func 61) #[] #[.pointer (some ⟨w.heap.size, 0, none⟩)]) ∧ w' = w.alloc (.cells #[.slice A n cap] 37) := by
  go_enter Try.func42, Try.ntmps42
  go_wp2
  go_ret
  exact ⟨rfl, rfl⟩

set_option maxRecDepth 100000 in
set_option maxHeartbeats 4000000 in
theorem aread_any {w : World} {A : Option Addr} {n cap : Nat} {bs : List Nat} (h : Row w A n cap bs) (hn : n ≤ 1099511627776) :
    Calls Try.prog 25 #[.slice A n cap] w fun e w' => ∃ v its k, e = .returned (.tuple #[v, .int .i64 (k : Nat)]) ∧ OwnR 52 w' w.heap.size v its ∧ Reads bs (its.map It.r) k ∧ Below w.heap.size w w' := by
  refine (callsIn_wide (n := 2)).1 ?_
  refine callsIn_of_wp_marks Try.func25 rfl trivial ?_
  simp only [Try.ntmps25, List.size_toArray, List.length_cons, List.length_nil, Nat.reduceAdd, Nat.reduceSub, Array.replicate_succ, Array.replicate_zero, List.push_toArray, List.append_toArray, List.nil_append, List.cons_append]
  gi_wp2_with fail
  refine ⟨trivial, ?_⟩
  refine (callsIn_wide.2 (recs_fn _ _ _ _)).mono ?_
  rintro e w3 ⟨rfl, hw3⟩
  simp only [World.size_alloc] at *
  have hl0 : w3.heap[w.heap.size]? = some (.cells #[.slice none 0 0] 36 (0, 0)) := by rw [hw3]; exact (push_old _ _ (by simp; omega)).trans (push_two_old _ _ _)
  have hz0 : w3.heap[w.heap.size + 1]? = some (.cells #[.int .i64 0] 3 (0, 0)) := by rw [hw3]; exact (push_old _ _ (by simp)).trans (push_two_new _ _ _)
  have hb0 : w3.heap[w.heap.size + 2]? = some (.cells #[.slice A n cap] 37 (0, 0)) := by
    have := push_new ((w.alloc (.cells #[.slice none 0 0] 36)).alloc (.cells #[.int .i64 0] 3)) (.cells #[.slice A n cap] 37)
    rw [hw3]
    simpa using this
  have hs0 : w3.heap.size = w.heap.size + 3 := by rw [hw3]; simp
  have k3 : Kept w w3 := by rw [hw3]; exact (((Kept.refl w).alloc _).alloc _).alloc _
  have HL0 := Lib.hid hl0
  have HZ0 := Lib.hid hz0
  have HB0 := Lib.hid hb0
  have HS0 := Lib.hid hs0
  have HK3 := Lib.hid k3
  have HROW := Lib.hid (h.below k3.1)
  clear hl0 hz0 hb0 hs0 k3 h hw3
  gi_wp2_with fail
  have hl4 : w3.heap.size + 1 = w.heap.size + 4 := by rw [HS0.out]
  refine wp_range2 (m := 0) (gf := 61) (lb := #[.pointer (some ⟨w.heap.size + 2, 0, none⟩)]) Rnd.args (Rnd.Pre w.heap.size) (Rnd.Post w.heap.size) (RdFin w.heap.size w3 bs) (fun _ => False) rfl (enters_of Try.func61 (by kernel_rfl) rfl) (fun _ => rfl) ?round ?iter ?done ?ret
  case iter =>
    intro rec hY
    rw [hl4] at hY ⊢
    refine (callsIn_wide.1 (records_any HS0.out HB0.out HL0.out HZ0.out HROW.out hn rec hY)).mono ?_
    rintro e W ⟨hv, hl, hf⟩
    exact ⟨hv, .inl ⟨hl, hf⟩⟩
  case ret => exact fun _ _ _ _ h => h.elim
  case round =>
    rw [hl4]
    rintro rec - ⟨x, en, W2, its, k⟩ W ⟨hI, hxo, hxl, hxv, hlen⟩ hl
    obtain ⟨v, hv, own⟩ := hI.lbox
    simp only at hI hxo hxl hxv hlen hv own
    have hxv := hxv v hv
    have HI := Lib.hid hI
    have HXO := Lib.hid hxo
    have HXL := Lib.hid hxl
    have HXV := Lib.hid hxv
    have HV := Lib.hid hv
    have HOWN := Lib.hid own
    have HL := Lib.hid hl
    clear hI hxo hxl hxv hv own hl
    simp only [Rnd.args, rcv]
    gi_wp2
    have hBs := HI.out.hB
    have hsz := HI.out.size
    refine ⟨(push_old _ _ (by omega)).trans HL.out, ?_⟩
    have hW : ∀ j u, (flatI [x])[j]? = some u → ((W.alloc (.cells #[.int .i64 x.r.kind, .int .i64 x.r.slot, .int .i64 x.r.round, .int .i64 x.r.site, .slice x.A x.r.val.length x.c] 52)).putObj (w.heap.size + 4) (.loop (rec .busy none))).cell? ⟨W.heap.size, j, none⟩ = some u := fun j u hu => by
      have e : (⟨W.heap.size, 0, none⟩ : Addr).add j = ⟨W.heap.size, j, none⟩ := by
        unfold Addr.add; by_cases h : j = 0 <;> simp [h]
      have h1 := cells_new W x 52 j u hu
      rw [e] at h1
      exact (World.cell?_of_block (World.putObj_heap_other (by simp only; omega))).trans h1
    have b0 := hW 0 _ rfl
    have b1 := hW 1 _ rfl
    have b2 := hW 2 _ rfl
    have b3 := hW 3 _ rfl
    have b4 := hW 4 _ rfl
    have bl : ((W.alloc (.cells #[.int .i64 x.r.kind, .int .i64 x.r.slot, .int .i64 x.r.round, .int .i64 x.r.site, .slice x.A x.r.val.length x.c] 52)).putObj (w.heap.size + 4) (.loop (rec .busy none))).cell? ⟨w.heap.size, 0, none⟩ = some v := by
      refine (World.cell?_of_block (World.putObj_heap_other (by simp only; omega))).trans ?_
      rw [World.cell?_alloc_past _ _ _ (by omega)]
      exact cell_of_heap HV.out 0
    have hsb : ((W.alloc (.cells #[.int .i64 x.r.kind, .int .i64 x.r.slot, .int .i64 x.r.round, .int .i64 x.r.site, .slice x.A x.r.val.length x.c] 52)).putObj (w.heap.size + 4) (.loop (rec .busy none))).heap.size = W.heap.size + 1 := by simp
    clear hW hxv
    have hstay : ∀ b, b < W.heap.size → b ≠ w.heap.size + 4 → (((W.alloc (.cells #[.int .i64 x.r.kind, .int .i64 x.r.slot, .int .i64 x.r.round, .int .i64 x.r.site, .slice x.A x.r.val.length x.c] 52)).putObj (w.heap.size + 4) (.loop (rec .busy none))).alloc (.cells #[.int .i64 x.r.kind, .int .i64 x.r.slot, .int .i64 x.r.round, .int .i64 x.r.site, .slice x.A x.r.val.length x.c] 52)).heap[b]? = W.heap[b]? := fun b hb hne => by
      rw [push_old _ _ (by rw [hsb]; omega), World.putObj_heap_other hne, push_old _ _ hb]
    have HOB : Hid (OwnR 52 (((W.alloc (.cells #[.int .i64 x.r.kind, .int .i64 x.r.slot, .int .i64 x.r.round, .int .i64 x.r.site, .slice x.A x.r.val.length x.c] 52)).putObj (w.heap.size + 4) (.loop (rec .busy none))).alloc (.cells #[.int .i64 x.r.kind, .int .i64 x.r.slot, .int .i64 x.r.round, .int .i64 x.r.site, .slice x.A x.r.val.length x.c] 52)) W2.heap.size v its) := Lib.hid (HOWN.out.moved (by simp; omega) (fun g hg => by
      have := World.ownsRow.lt HOWN.out.row g hg
      exact hstay g this.2 (by omega)) (fun y hy a ha hn => by
      have h1 := HI.out.far y hy a ha hn
      exact hstay a.block (Row.block_lt (HOWN.out.each y hy).1 ha hn) (by omega)))
    have HXB : Hid (∀ y ∈ [x], y.ok (((W.alloc (.cells #[.int .i64 x.r.kind, .int .i64 x.r.slot, .int .i64 x.r.round, .int .i64 x.r.site, .slice x.A x.r.val.length x.c] 52)).putObj (w.heap.size + 4) (.loop (rec .busy none))).alloc (.cells #[.int .i64 x.r.kind, .int .i64 x.r.slot, .int .i64 x.r.round, .int .i64 x.r.site, .slice x.A x.r.val.length x.c] 52)) ∧ y.off v.ownBlock) := Lib.hid (by
      intro y hy
      simp only [List.mem_singleton] at hy
      subst hy
      exact ⟨Row.off HXO.out (by simp; omega) (fun a ha hn => hstay a.block (Row.block_lt HXO.out ha hn) (by have := HXL.out a ha hn; omega)), HXV.out⟩)
    have HCB : Hid (∀ j u, (flatI [x])[j]? = some u → (((W.alloc (.cells #[.int .i64 x.r.kind, .int .i64 x.r.slot, .int .i64 x.r.round, .int .i64 x.r.site, .slice x.A x.r.val.length x.c] 52)).putObj (w.heap.size + 4) (.loop (rec .busy none))).alloc (.cells #[.int .i64 x.r.kind, .int .i64 x.r.slot, .int .i64 x.r.round, .int .i64 x.r.site, .slice x.A x.r.val.length x.c] 52)).cell? ((⟨W.heap.size + 1, 0, none⟩ : Addr).add j) = some u) := Lib.hid (by
      have := cells_new ((W.alloc (.cells #[.int .i64 x.r.kind, .int .i64 x.r.slot, .int .i64 x.r.round, .int .i64 x.r.site, .slice x.A x.r.val.length x.c] 52)).putObj (w.heap.size + 4) (.loop (rec .busy none))) x 52
      rwa [hsb] at this)
    have HSB := Lib.hid hsb
    clear hstay
    gi_wp2_with (first
      | (gi_at_builtin
         refine wpListIn_append_rec rfl (.tmp 12) (.tmp 14) rfl (v := v) (base := W2.heap.size) (l := its) (m := [x]) (k := 1) (c := 1) (ad := ⟨W.heap.size + 1, 0, none⟩) rfl rfl rfl HOB.out HXB.out HCB.out (by omega) (by rw [World.size_alloc, HSB.out]; omega) ?_
         intro v' W5 own5 gr5 at5
         have hst := HI.out.step (en := en) HXL.out ((HI.out.old (w.heap.size + 4) (by omega) (by omega) (by omega)).symm.trans HL.out) HV.out HOWN.out gr5 own5
         obtain ⟨⟨q1, q2, q3⟩, q4⟩ := hst
         have e5 : (its ++ [x]).length = its.length + 1 := by simp
         obtain ⟨A5, c5, rfl, -⟩ := own5.slice
         rw [e5] at q4
         have d1 := cell_of_heap q1 0
         have d2 := cell_of_heap q2 0
         have g1 := frozen_of_heap q1 0
         have g2 := frozen_of_heap q2 0
         simp only [List.getElem?_toArray, List.getElem?_cons_zero] at d1 d2
         have Q3 := Lib.hid q3
         have Q4 := Lib.hid q4
         clear own5 gr5 at5 q1 q2 q3 q4 e5)
      | fail)
    refine ⟨?_, rfl, Q4.out⟩
    exact (Below.heap_setCell _ ⟨w.heap.size + 1, 0, none⟩ _ _ (by simp)).trans ((Below.heap_setCell _ ⟨w.heap.size, 0, none⟩ _ _ (by simp)).trans Q3.out)
  case done =>
    rw [hl4]
    intro W r r' hl hfin
    obtain ⟨W2, its, k, hI, hb, hrd, hm2⟩ := hfin
    have hs0 := HS0.out
    have hBs := hI.hB
    have hsz := hI.size
    obtain ⟨v, hv, own⟩ := hI.lbox
    have hz := hI.zbox
    have hmark := (hI.old (w.heap.size + 3) (by omega) (by omega) (by omega)).trans hm2
    have c1 : (W.putObj (w.heap.size + 4) (.loop r')).cell? ⟨w.heap.size, 0, none⟩ = some v := putObj_cell _ hl rfl (cell_of_heap hv 0)
    have c2 : (W.putObj (w.heap.size + 4) (.loop r')).cell? ⟨w.heap.size + 1, 0, none⟩ = some (.int .i64 (k : Nat)) := putObj_cell _ hl rfl (cell_of_heap hz 0)
    have hmark' : (W.putObj (w.heap.size + 4) (.loop r')).heap[w.heap.size + 3]? = some (.deferred (some [])) := (World.putObj_heap_other (by omega)).trans hmark
    have hput : ∀ b, b ≠ w.heap.size + 4 → (W.putObj (w.heap.size + 4) (.loop r')).heap[b]? = W.heap[b]? := fun b hb => World.putObj_heap_other hb
    have hpos : (W.putObj (w.heap.size + 4) (.loop r')).heap.size = W.heap.size := by simp
    have hpo : (W.putObj (w.heap.size + 4) (.loop r')).os = W.os ∧ (W.putObj (w.heap.size + 4) (.loop r')).tape = W.tape ∧ (W.putObj (w.heap.size + 4) (.loop r')).output = W.output := ⟨rfl, rfl, rfl⟩
    have HI := Lib.hid hI
    have HB2 := Lib.hid hb
    have HRD := Lib.hid hrd
    have HOWN := Lib.hid own
    have HM := Lib.hid hmark'
    have HP := Lib.hid hput
    have HPS := Lib.hid hpos
    have HPO := Lib.hid hpo
    clear hI hb hrd own hv hz hmark hmark' hm2 hput hpos hpo
    generalize W.putObj (w.heap.size + 4) (.loop r') = W' at *
    gi_wp2
    refine wpIn_wide.2 ?_
    go_quiet (fail)
    gi_wp2
    have hK : (W'.drewN nq).heap[w.heap.size + 3]? = some (.deferred (some [])) := HM.out
    refine ⟨by simp, .inl ⟨_, _, rfl, run_takeDeferred hK, ?_⟩⟩
    have hF : ∀ b, b ≠ w.heap.size + 3 → b ≠ w.heap.size + 4 → ((W'.drewN nq).putObj (w.heap.size + 3) (.deferred none)).heap[b]? = W.heap[b]? := fun b h1 h2 => (World.putObj_heap_other h1).trans (HP.out b h2)
    have hFS : ((W'.drewN nq).putObj (w.heap.size + 3) (.deferred none)).heap.size = W.heap.size := by rw [World.putObj_size]; exact HPS.out
    have k3 := HK3.out
    have hB2 := HB2.out
    rw [hs0] at hB2
    refine ⟨_, results_tmp2 rfl _ _ _, v, its, k, rfl, ?_, HRD.out, ?_⟩
    · refine (HOWN.out.moved (by rw [hFS]; exact Nat.le_refl _) (fun g hg => ?_) (fun x hx a ha hn => ?_)).base (by omega)
      · have := (World.ownsRow.lt HOWN.out.row g hg).1
        exact hF g (by omega) (by omega)
      · have := HI.out.far x hx a ha hn
        exact hF a.block (by omega) (by omega)
    · refine ⟨(HPO.out.1.trans HI.out.os).trans (hB2.os.trans k3.1.os), (HPO.out.2.1.trans HI.out.tape).trans (hB2.tape.trans k3.1.tape), (HPO.out.2.2.trans HI.out.output).trans (hB2.output.trans k3.1.output), by rw [hFS]; omega, fun b hb => ?_⟩
      rw [hF b (by omega) (by omega), HI.out.old b (by omega) (by omega) (by omega), hB2.block b (by omega)]
      exact k3.1.block b hb
end Go.Proofs.Ytmjgpgnecohbcaa
