/- The program's frame, function by function: four, its number, the sum. -/
import Derived.Test.YtmjgpgnecohbcaaRows
import Derived.Test.YtmjgpgnecohbcaaFrmM
import Derived.Test.YtmjgpgnecohbcaaCrcW
import Derived.Test.YtmjgpgnecohbcaaMgA
import Derived.Laws.Cover3
import Derived.Laws.Rows
import Derived.Lib.EndianBits
import Derived.Stop.BytesEq
import Derived.Deep.RegionWith
namespace Go.Proofs.Ytmjgpgnecohbcaa
open Go.RowKit CrcM CrcW

/-- four bytes as the program's array -/
def quad (bs : List Nat) : Value := .agg (bs.map fun c : Nat => Value.int .u8 (c : Int)).toArray

set_option maxHeartbeats 400000 in
theorem laid_any (n : Nat) (hn : n < 4294967296) (w : World) :
    Calls Try.prog 73 #[.int .u32 n] w fun e w' => e = .returned (quad (four n)) ∧ Below w.heap.size w w' := by
  go_enter Try.func73, Try.ntmps73
  go_wp2
  refine bodyPost_ret (results_cell_row rfl _ _ w.heap.size _ _ _ _ rfl (push_new w _) Try.underlying120 rfl (by kernel_rfl)) rfl ?_
  refine ⟨?_, (Below.refl _ _).alloc (Nat.le_refl _) _⟩
  unfold quad four
  simp only [List.map_cons, List.map_nil, Int.natCast_ediv, Int.natCast_emod, Ending.returned.injEq, Value.agg.injEq, Array.mk.injEq, List.cons.injEq, Value.int.injEq, true_and, and_true]
  omega
set_option maxHeartbeats 400000 in
theorem number_any (a b c d : Nat) (ha : a < 256) (hb : b < 256) (hc : c < 256) (hd : d < 256) (w : World) :
    Calls Try.prog 89 #[quad [a, b, c, d]] w fun e w' => e = .returned (.int .u32 (num4 [a, b, c, d] : Nat)) ∧ Below w.heap.size w w' := by
  have e1 : bits .or .u32 (a : Int) ((b : Int) * 256) = a + b * 256 := u32_or8 _ _ (by omega) (by omega) (by omega) (by omega) (by omega)
  have e2 : bits .or .u32 ((a : Int) + b * 256) ((c : Int) * 65536) = a + b * 256 + c * 65536 := u32_or16 _ _ (by omega) (by omega) (by omega) (by omega) (by omega)
  have e3 : bits .or .u32 ((a : Int) + b * 256 + c * 65536) ((d : Int) * 16777216) = a + b * 256 + c * 65536 + d * 16777216 := u32_or24 _ _ (by omega) (by omega) (by omega) (by omega) (by omega)
  have HE : Hid (((num4 [a, b, c, d] : Nat) : Int) = a + b * 256 + c * 65536 + d * 16777216) := Lib.hid (by simp [num4]; omega)
  unfold quad
  generalize num4 [a, b, c, d] = r at *
  go_enter Try.func89, Try.ntmps89
  go_wp2
  go_ret
  exact ⟨ret_u32 HE.out.symm, (Below.refl _ _).alloc (Nat.le_refl _) _⟩

/-- bytes in a block of its own, as a slice of an array's variable has them -/
theorem bts_block {w : World} {g : Nat} {bs : List Nat} {t : TypeId} {fr : Nat × Nat} (hg : w.heap[g]? = some (.cells (bs.map fun c : Nat => Value.int .u8 (c : Int)).toArray t fr)) (hl : bs.length ≤ 140737505132544) (hby : ∀ c ∈ bs, c < 256) :
    Bts w w.heap.size (some ⟨g, 0, none⟩) bs.length bs := by
  refine ⟨rfl, hl, hby, fun _ => ⟨g, 0, rfl, heap_lt hg, fun j hj => ?_⟩⟩
  rw [Nat.zero_add, cell_of_row w g j _ _ _ hg]
  simp [hj]

/-- an array of four, written whole -/
theorem four_set {u : World} {g : Nat} {x0 x1 x2 x3 : Value} {t : TypeId} (h : u.heap[g]? = some (.cells #[x0, x1, x2, x3] t (0, 0))) (v0 v1 v2 v3 : Value) :
    ((((u.setCell ⟨g, 0, none⟩ v0).setCell ⟨g, 1, none⟩ v1).setCell ⟨g, 2, none⟩ v2).setCell ⟨g, 3, none⟩ v3).heap[g]? = some (.cells #[v0, v1, v2, v3] t (0, 0)) :=
  heap_setCell_same (heap_setCell_same (heap_setCell_same (heap_setCell_same h _) _) _) _

set_option maxHeartbeats 400000 in
theorem summed_any (cn : List Nat) (h4 : cn.length = 4) (hcb : ∀ c ∈ cn, c < 256) (A : Option Addr) (n cap : Nat) (bs : List Nat) (w : World) (hb : Bts w w.heap.size A n bs) :
    Calls Try.prog 74 #[quad cn, .slice A n cap] w fun e w' => e = .returned (quad (four (CrcM.more (CrcM.sum cn) bs))) ∧ Below w.heap.size w w' := by
  match cn, h4 with
  | [a, b, c, d], _ =>
    have hs := sum_lt [a, b, c, d] hcb
    have hm := more_lt bs hs hb.2.2.1
    have HB := Lib.hid hb
    have hbc : ∀ W : World, W.heap[w.heap.size]? = some (.cells #[.int .u8 (a : Int), .int .u8 (b : Int), .int .u8 (c : Int), .int .u8 (d : Int)] 120 (0, 0)) → Bts W W.heap.size (some ⟨w.heap.size, 0, none⟩) 4 [a, b, c, d] :=
      fun W h => bts_block (bs := [a, b, c, d]) h (by simp) hcb
    have HC := Lib.hid hbc
    clear hb hbc hcb
    generalize hS : CrcM.sum [a, b, c, d] = S at *
    have HS := Lib.hid hS
    generalize hR : CrcM.more S bs = R at *
    have HR := Lib.hid hR
    clear hS hR
    obtain ⟨f0, f1, f2, f3, hF⟩ : ∃ f0 f1 f2 f3, four R = [f0, f1, f2, f3] := ⟨_, _, _, _, rfl⟩
    have HF := Lib.hid hF
    rw [hF]
    clear hF
    have HQ : Hid (quad [f0, f1, f2, f3] = .agg #[.int .u8 (f0 : Int), .int .u8 (f1 : Int), .int .u8 (f2 : Int), .int .u8 (f3 : Int)]) := Lib.hid rfl
    have HZ : Hid (quad [a, b, c, d] = .agg #[.int .u8 (a : Int), .int .u8 (b : Int), .int .u8 (c : Int), .int .u8 (d : Int)]) := Lib.hid rfl
    rw [HQ.out, HZ.out]
    go_enter Try.func74, Try.ntmps74
    go_wp2_with fail
    refine (CrcW.sum_any _ _ _ [a, b, c, d] _ (HC.out _ (push_two_old w _ _))).mono ?_
    rintro e u1 ⟨rfl, h1⟩
    rw [HS.out]
    have k1 : Kept w u1 := (((Kept.refl w).alloc _).alloc _).call h1
    have z1 := (h1.block (w.heap.size + 1) (by simp)).trans (push_two_new w _ _)
    have H1 := Lib.hid z1
    clear z1 h1
    go_wp2_with fail
    refine (CrcW.more_any S hs _ _ _ bs _ ((HB.out.below k1.1).more k1.2)).mono ?_
    rintro e u2 ⟨rfl, h2⟩
    rw [HR.out]
    have k2 := k1.call h2
    have H2 := Lib.hid ((h2.block (w.heap.size + 1) (heap_lt H1.out)).trans H1.out)
    clear h2
    go_wp2_with fail
    refine (laid_any R hm _).mono ?_
    rintro e u3 ⟨rfl, h3⟩
    rw [HF.out, HQ.out]
    have k3 := k2.call h3
    have H3 := Lib.hid ((h3.block (w.heap.size + 1) (heap_lt H2.out)).trans H2.out)
    clear h3
    have c0 := cell_of_heap H3.out 0
    have c1 := cell_of_heap H3.out 1
    have c2 := cell_of_heap H3.out 2
    have c3 := cell_of_heap H3.out 3
    have y0 := frozen_of_heap H3.out 0
    have y1 := frozen_of_heap H3.out 1
    have y2 := frozen_of_heap H3.out 2
    have y3 := frozen_of_heap H3.out 3
    simp only [List.getElem?_toArray, List.getElem?_cons_zero, List.getElem?_cons_succ] at c0 c1 c2 c3
    go_wp2
    refine bodyPost_ret (results_cell_row rfl _ _ (w.heap.size + 1) _ _ _ _ rfl (four_set H3.out _ _ _ _) Try.underlying120 rfl (by kernel_rfl)) rfl ?_
    exact ⟨rfl, ((((k3.setCell (by simp) _).setCell (by simp) _).setCell (by simp) _).setCell (by simp) _).1⟩


theorem quad_cells {xs : List Nat} (hx : ∀ c ∈ xs, c < 256) : quad xs = .agg ((xs.map UInt8.ofNat).map Extern.Stop.cell).toArray := by
  unfold quad
  rw [List.map_map]
  congr 2
  refine List.map_congr_left fun c hc => ?_
  have h : (UInt8.ofNat c).toNat = c := by rw [UInt8.toNat_ofNat']; exact Nat.mod_eq_of_lt (by have := hx c hc; omega)
  simp [Extern.Stop.cell, h]
theorem bytes_beq {xs ys : List Nat} (hx : ∀ c ∈ xs, c < 256) (hy : ∀ c ∈ ys, c < 256) : (xs.map UInt8.ofNat == ys.map UInt8.ofNat) = decide (xs = ys) := by
  rw [Bool.eq_iff_iff, beq_iff_eq, decide_eq_true_iff]
  refine ⟨fun h => ?_, fun h => by rw [h]⟩
  have key : ∀ l : List Nat, (∀ c ∈ l, c < 256) → (l.map UInt8.ofNat).map UInt8.toNat = l := by
    intro l hl
    rw [List.map_map]
    conv => rhs; rw [← List.map_id l]
    refine List.map_congr_left fun c hc => ?_
    show (UInt8.ofNat c).toNat = c
    rw [UInt8.toNat_ofNat']
    exact Nat.mod_eq_of_lt (by have := hl c hc; omega)
  rw [← key xs hx, ← key ys hy, h]
theorem run_quad_neq {xs ys : List Nat} (hx : ∀ c ∈ xs, c < 256) (hy : ∀ c ∈ ys, c < 256) (h4 : xs.length = 4) (k4 : ys.length = 4) (w : World) :
    (binOp .neq 120 (quad xs) (quad ys)).run Try.prog w = .ok (.bool (!decide (xs = ys))) w := by
  rw [quad_cells hx, quad_cells hy, run_neq_struct, run_equalIn_bytes w 9998 120 5 4 Try.underlying120 Try.underlying5 (fun w => by kernel_rfl) _ _ (by simpa using h4) (by simpa using k4), bytes_beq hx hy]
  rfl
theorem four_eq {n : Nat} (hn : n < 4294967296) {f : List Nat} (h4 : f.length = 4) (hf : ∀ c ∈ f, c < 256) : (f = four n) ↔ (n = num4 f) := by
  constructor
  · intro h
    rw [h]
    have := num4_four hn []
    rw [List.append_nil] at this
    exact this.symm
  · intro h
    rw [h, four_num4 (by omega) hf, List.take_of_length_le (by omega)]

theorem eight_of {bs : List Nat} (h : 8 ≤ bs.length) : ∃ b0 b1 b2 b3 b4 b5 b6 b7 more, bs = b0 :: b1 :: b2 :: b3 :: b4 :: b5 :: b6 :: b7 :: more := by
  rcases bs with _ | ⟨b0, _ | ⟨b1, _ | ⟨b2, _ | ⟨b3, _ | ⟨b4, _ | ⟨b5, _ | ⟨b6, _ | ⟨b7, more⟩⟩⟩⟩⟩⟩⟩⟩
  all_goals first | exact ⟨_, _, _, _, _, _, _, _, _, rfl⟩ | (simp at h)

set_option maxHeartbeats 2000000 in
theorem first_any {w : World} {B : Nat} {A : Option Addr} {n cap : Nat} {bs : List Nat} (hb : Bts w B A n bs) (hB : B ≤ w.heap.size) (hnil : A = none → cap = 0) (hcap : n ≤ cap) (hmost : cap ≤ maxLen) :
    Calls Try.prog 77 #[.slice A n cap] w fun e w' => ∃ A' n' c', e = .returned (.tuple #[.slice A' n' c', .int .i64 ((tke bs).1 : Nat)]) ∧ Bts w B A' n' (tke bs).2.1 ∧ (A' = none → c' = 0) ∧ n' ≤ c' ∧ c' ≤ maxLen ∧ Below w.heap.size w w' := by
  obtain ⟨hlen, hmax, hby, hcell⟩ := id hb
  by_cases h8 : n < 8
  · have ht : tke bs = (3, [], []) := by unfold tke; rw [if_pos (by omega)]
    rw [ht]
    clear hb hcell hby
    go_enter Try.func77, Try.ntmps77
    go_wp2
    go_ret2
    exact ⟨_, _, _, rfl, Bts.nil, fun _ => rfl, Nat.le_refl _, by decide, Below.refl _ _⟩
  · obtain ⟨b, off, rfl, hbB, hcs⟩ := hcell (by omega)
    obtain ⟨b0, b1, b2, b3, b4, b5, b6, b7, more, rfl⟩ := eight_of (bs := bs) (by omega)
    have hbw : b < w.heap.size := by omega
    have z0 : w.cell? ⟨b, off, none⟩ = some (.int .u8 (b0 : Int)) := hcs 0 (by omega)
    have z1 : w.cell? ⟨b, off + 1, none⟩ = some (.int .u8 (b1 : Int)) := hcs 1 (by omega)
    have z2 : w.cell? ⟨b, off + 2, none⟩ = some (.int .u8 (b2 : Int)) := hcs 2 (by omega)
    have z3 : w.cell? ⟨b, off + 3, none⟩ = some (.int .u8 (b3 : Int)) := hcs 3 (by omega)
    have z4 : w.cell? ⟨b, off + 4, none⟩ = some (.int .u8 (b4 : Int)) := hcs 4 (by omega)
    have z5 : w.cell? ⟨b, off + 4 + 1, none⟩ = some (.int .u8 (b5 : Int)) := hcs 5 (by omega)
    have z6 : w.cell? ⟨b, off + 4 + 2, none⟩ = some (.int .u8 (b6 : Int)) := hcs 6 (by omega)
    have z7 : w.cell? ⟨b, off + 4 + 3, none⟩ = some (.int .u8 (b7 : Int)) := hcs 7 (by omega)
    have hat1 := fun W => run_arrayAt (P := Try.prog) W 120 _ 4 (some ⟨b, off, none⟩) 4 cap Try.underlying120 (Nat.le_refl 4)
    have hat2 := fun W => run_arrayAt (P := Try.prog) W 120 _ 4 (some ⟨b, off + 4, none⟩) 4 (cap - 4) Try.underlying120 (Nat.le_refl 4)
    have c4 : ¬ cap = 4 := by omega
    have c8 : (8 : Int) ≤ cap := by omega
    have hb8 : ∀ A8, (if cap = 8 then some (⟨b, off, none⟩ : Addr) else some ⟨b, off + 8, none⟩) = A8 → Bts w B A8 (n - 8) more := by
      intro A8 e
      have := hb.rest (k := 8) (cap := cap) (by omega) hcap
      rw [← e]
      simpa [Addr.add] using this
    have hcs8 : ∀ A8, (if cap = 8 then some (⟨b, off, none⟩ : Addr) else some ⟨b, off + 8, none⟩) = A8 → A8 ≠ none := by
      intro A8 e; rw [← e]; split <;> simp
    have q0 := hby b0 (by simp)
    have q1 := hby b1 (by simp)
    have q2 := hby b2 (by simp)
    have q3 := hby b3 (by simp)
    have hbh : ∀ c ∈ [b4, b5, b6, b7], c < 256 := fun c hc => hby c (by simp at hc ⊢; omega)
    have hbl : ∀ c ∈ [b0, b1, b2, b3], c < 256 := fun c hc => hby c (by simp at hc ⊢; omega)
    have hm : more.length = n - 8 := by simp at hlen; omega
    have ht : tke (b0 :: b1 :: b2 :: b3 :: b4 :: b5 :: b6 :: b7 :: more) = if 4096 < num4 [b0, b1, b2, b3] then (5, [], []) else if n - 8 < num4 [b0, b1, b2, b3] then (3, [], [])
        else if CrcM.more (CrcM.sum [b0, b1, b2, b3]) (more.take (num4 [b0, b1, b2, b3])) ≠ num4 [b4, b5, b6, b7] then (4, [], []) else (0, more.take (num4 [b0, b1, b2, b3]), more.drop (num4 [b0, b1, b2, b3])) := by
      unfold tke
      rw [if_neg (by omega)]
      have e8 : ∀ k, (b0 :: b1 :: b2 :: b3 :: b4 :: b5 :: b6 :: b7 :: more).drop (8 + k) = more.drop k := fun k => by rw [Nat.add_comm]; rfl
      rw [e8, hlen]
      rfl
    generalize hTT : tke (b0 :: b1 :: b2 :: b3 :: b4 :: b5 :: b6 :: b7 :: more) = T at *
    have hN := number_any b0 b1 b2 b3 q0 q1 q2 q3
    have HN := Lib.hid hN
    have hsm := sum_lt [b0, b1, b2, b3] hbl
    have HBH := Lib.hid hbh
    have HBL := Lib.hid hbl
    have HBM : Hid (∀ c ∈ more, c < 256) := Lib.hid fun c hc => hby c (by simp [hc])
    generalize hNN : num4 [b0, b1, b2, b3] = N at *
    obtain ⟨A8, hA8⟩ : ∃ A8, (if cap = 8 then some (⟨b, off, none⟩ : Addr) else some ⟨b, off + 8, none⟩) = A8 := ⟨_, rfl⟩
    have HB := Lib.hid (hb8 A8 hA8)
    have HA := Lib.hid (hcs8 A8 hA8)
    have HNN := Lib.hid hNN
    have HT := Lib.hid ht
    clear hTT hb hb8 hcs8 hcs hcell hby hbh hbl hN ht q0 q1 q2 q3 hNN hlen
    go_enter Try.func77, Try.ntmps77
    go_wp2
    go_region
    all_goals
      go_wp2_with fail
      refine (HN.out _).mono ?_
      rintro e u1 ⟨rfl, h1⟩
      have k1 : Kept w u1 := ((((Kept.refl w).alloc _).alloc _).drew).call h1
      have g1 := (h1.block (w.heap.size + 1) (by simp [World.drew])).trans (push_two_new w _ _)
      have g0 := (h1.block w.heap.size (by simp [World.drew]; omega)).trans (push_two_old w _ _)
      have hsz : w.heap.size + 1 < u1.heap.size := heap_lt g1
      have x0 := cell_of_heap g0 0
      have x1 := cell_of_heap g0 1
      have x2 := cell_of_heap g0 2
      have x3 := cell_of_heap g0 3
      have y0 := cell_of_heap g1 0
      have y1 := cell_of_heap g1 1
      have y2 := cell_of_heap g1 2
      have y3 := cell_of_heap g1 3
      simp only [List.getElem?_toArray, List.getElem?_cons_zero, List.getElem?_cons_succ] at x0 x1 x2 x3 y0 y1 y2 y3
      clear h1 g0 g1 z0 z1 z2 z3 z4 z5 z6 z7 hat1 hat2 hA8
      by_cases hbig : 4096 < N
      · go_wp2
        go_ret2
        rw [HT.out, if_pos hbig]
        exact ⟨_, _, _, rfl, Bts.nil, fun _ => rfl, Nat.le_refl _, by decide, k1.1⟩
      by_cases hshort : n - 8 < N
      · go_wp2
        go_ret2
        rw [HT.out, if_neg hbig, if_pos hshort]
        exact ⟨_, _, _, rfl, Bts.nil, fun _ => rfl, Nat.le_refl _, by decide, k1.1⟩
      have hbN := HB.out.head (m := N) (by omega)
      have hsl := fun W => run_headK .u32 A8 (n - 8) (cap - 8) N (by omega) W
      have hsmm := fun (u : World) (c : Nat) (h : Kept w u) => summed_any [b0, b1, b2, b3] rfl HBL.out A8 N c (more.take N) u ((hbN.below (h.1.mono hB)).more (Nat.le_trans hB h.2))
      have hmr := more_lt (more.take N) hsm (fun c hc => HBM.out c (List.mem_of_mem_take hc))
      have HSM := Lib.hid hsmm
      have HBN := Lib.hid hbN
      clear hsmm hbN
      have hfe := four_eq hmr (f := [b4, b5, b6, b7]) rfl HBH.out
      have hqn := run_quad_neq (xs := [b4, b5, b6, b7]) HBH.out (four_byte (CrcM.more (CrcM.sum [b0, b1, b2, b3]) (more.take N))) rfl rfl
      generalize CrcM.more (CrcM.sum [b0, b1, b2, b3]) (more.take N) = R at *
      obtain ⟨f0, f1, f2, f3, hF⟩ : ∃ f0 f1 f2 f3, four R = [f0, f1, f2, f3] := ⟨_, _, _, _, rfl⟩
      rw [hF] at hfe hqn
      have HQ : Hid (quad (four R) = .agg #[.int .u8 (f0 : Int), .int .u8 (f1 : Int), .int .u8 (f2 : Int), .int .u8 (f3 : Int)]) := Lib.hid (by rw [hF]; rfl)
      clear hF
      unfold quad at hqn
      simp only [List.map_cons, List.map_nil] at hqn
      have hdec : (R ≠ num4 [b4, b5, b6, b7]) ↔ ¬ [b4, b5, b6, b7] = [f0, f1, f2, f3] := by rw [hfe]
      generalize hD : decide ([b4, b5, b6, b7] = [f0, f1, f2, f3]) = D at *
      have HD := Lib.hid hD
      have HDE := Lib.hid hdec
      clear hD hdec hfe hsm hmr
      go_wp2
      go_region_with (first
        | (go_at_call 74
           refine (HSM.out _ _ ?_).mono ?_
           · first | exact k1 | exact k1.drew
           rintro e u2 ⟨rfl, h2⟩
           rw [HQ.out]
           have x0' := (h2.cell (p := ⟨w.heap.size, 0, none⟩) (by show w.heap.size < u1.heap.size; omega)).trans x0
           have x1' := (h2.cell (p := ⟨w.heap.size, 1, none⟩) (by show w.heap.size < u1.heap.size; omega)).trans x1
           have x2' := (h2.cell (p := ⟨w.heap.size, 2, none⟩) (by show w.heap.size < u1.heap.size; omega)).trans x2
           have x3' := (h2.cell (p := ⟨w.heap.size, 3, none⟩) (by show w.heap.size < u1.heap.size; omega)).trans x3
           have y0' := (h2.cell (p := ⟨w.heap.size + 1, 0, none⟩) (by show w.heap.size + 1 < u1.heap.size; omega)).trans y0
           have y1' := (h2.cell (p := ⟨w.heap.size + 1, 1, none⟩) (by show w.heap.size + 1 < u1.heap.size; omega)).trans y1
           have y2' := (h2.cell (p := ⟨w.heap.size + 1, 2, none⟩) (by show w.heap.size + 1 < u1.heap.size; omega)).trans y2
           have y3' := (h2.cell (p := ⟨w.heap.size + 1, 3, none⟩) (by show w.heap.size + 1 < u1.heap.size; omega)).trans y3
           have K2 := Lib.hid ((k1.drew).call h2)))
      all_goals
        cases D
        · go_wp2
          go_ret2
          rw [HT.out, if_neg hbig, if_neg hshort, if_pos (HDE.out.2 (of_decide_eq_false HD.out))]
          exact ⟨_, _, _, rfl, Bts.nil, fun _ => rfl, Nat.le_refl _, by decide, K2.out.1⟩
        · go_wp2
          go_ret2
          rw [HT.out, if_neg hbig, if_neg hshort, if_neg (fun h => HDE.out.1 h (of_decide_eq_true HD.out))]
          exact ⟨_, _, _, rfl, HBN.out, fun h => absurd h HA.out, by omega, by omega, K2.out.1⟩
end Go.Proofs.Ytmjgpgnecohbcaa
