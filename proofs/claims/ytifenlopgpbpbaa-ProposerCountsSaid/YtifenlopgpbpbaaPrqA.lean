/- Promises and votes in memory; real, votes; the functions that tell a ballot; least. -/
import Derived.Test.YtifenlopgpbpbaaFlat
import Derived.Test.YtifenlopgpbpbaaPrpM
import Derived.Test.YtifenlopgpbpbaaOwnZ
import Derived.Test.YtifenlopgpbpbaaRes
import Derived.WalkKit
import Derived.Deep.MidRow
namespace Go.Proofs.Ytifenlopgpbpbaa
open Go.RowKit

/-- a promise, and where its bytes lie -/
structure It where
  r : Pm
  A : Option Addr
  c : Nat
def It.cells (x : It) : List Value := [.int .i64 x.r.who, .bool x.r.so, .int .i64 x.r.ar, .int .i64 x.r.as_, .slice x.A x.r.val.length x.c]
def Vt.cells (x : Vt) : List Value := [.int .i64 x.who, .int .i64 x.r, .int .i64 x.s]
theorem It.cells_one (x : It) : ∀ u ∈ x.cells, u.oneCell' = true := by
  intro u h
  simp only [It.cells, List.mem_cons, List.not_mem_nil, or_false] at h
  rcases h with rfl | rfl | rfl | rfl | rfl <;> rfl
theorem Vt.cells_one (x : Vt) : ∀ u ∈ x.cells, u.oneCell' = true := by
  intro u h
  simp only [Vt.cells, List.mem_cons, List.not_mem_nil, or_false] at h
  rcases h with rfl | rfl | rfl <;> rfl
def EP : Elem 22 58 It where
  cl := It.cells
  k := 5
  nb := 56
  z := .agg #[.int .i64 0, .bool false, .int .i64 0, .int .i64 0, .slice none 0 0]
  pos := by decide
  und := Try.underlying22
  info := by kernel_rfl
  zc := rfl
  len := fun _ => rfl
  one := It.cells_one
  few := by decide
def EPr : Elem 28 69 It where
  cl := It.cells
  k := 5
  nb := 56
  z := .agg #[.int .i64 0, .bool false, .int .i64 0, .int .i64 0, .slice none 0 0]
  pos := by decide
  und := Try.underlying28
  info := by kernel_rfl
  zc := rfl
  len := fun _ => rfl
  one := It.cells_one
  few := by decide
def EV : Elem 31 60 Vt where
  cl := Vt.cells
  k := 3
  nb := 24
  z := .agg #[.int .i64 0, .int .i64 0, .int .i64 0]
  pos := by decide
  und := Try.underlying31
  info := by kernel_rfl
  zc := rfl
  len := fun _ => rfl
  one := Vt.cells_one
  few := by decide
def EVr : Elem 37 74 Vt where
  cl := Vt.cells
  k := 3
  nb := 24
  z := .agg #[.int .i64 0, .int .i64 0, .int .i64 0]
  pos := by decide
  und := Try.underlying37
  info := by kernel_rfl
  zc := rfl
  len := fun _ => rfl
  one := Vt.cells_one
  few := by decide
theorem EP_five {w : World} {A : Option Addr} {l : List It} (h : EP.Reads w A l) {i : Nat} (hi : i < l.length) : ∃ b off, A = some ⟨b, off, none⟩ ∧ b < w.heap.size ∧
    w.cell? ⟨b, off + i * 5, none⟩ = some (.int .i64 l[i].r.who) ∧ w.cell? ⟨b, off + i * 5 + 1, none⟩ = some (.bool l[i].r.so) ∧ w.cell? ⟨b, off + i * 5 + 2, none⟩ = some (.int .i64 l[i].r.ar) ∧ w.cell? ⟨b, off + i * 5 + 3, none⟩ = some (.int .i64 l[i].r.as_) ∧ w.cell? ⟨b, off + i * 5 + 4, none⟩ = some (.slice l[i].A l[i].r.val.length l[i].c) := by
  obtain ⟨b, off, e, hb, hc⟩ := h i hi
  exact ⟨b, off, e, hb, hc 0 _ rfl, hc 1 _ rfl, hc 2 _ rfl, hc 3 _ rfl, hc 4 _ rfl⟩
theorem EV_three {w : World} {A : Option Addr} {l : List Vt} (h : EV.Reads w A l) {i : Nat} (hi : i < l.length) : ∃ b off, A = some ⟨b, off, none⟩ ∧ b < w.heap.size ∧
    w.cell? ⟨b, off + i * 3, none⟩ = some (.int .i64 l[i].who) ∧ w.cell? ⟨b, off + i * 3 + 1, none⟩ = some (.int .i64 l[i].r) ∧ w.cell? ⟨b, off + i * 3 + 2, none⟩ = some (.int .i64 l[i].s) := by
  obtain ⟨b, off, e, hb, hc⟩ := h i hi
  exact ⟨b, off, e, hb, hc 0 _ rfl, hc 1 _ rfl, hc 2 _ rfl⟩

set_option maxRecDepth 100000 in
set_option maxHeartbeats 1000000 in
theorem real_any {w : World} {A : Option Addr} {N cap : Nat} {l : List It} (hl : l.length = N) (hR : EP.Reads w A l) (hN : N ≤ 1099511627775) :
    Calls Try.prog 12 #[.slice A N cap] w fun e w' => ∃ v, e = .returned v ∧ EPr.Own w' w.heap.size v l ∧ Kept w w' := by
  have HL := Lib.hid hl
  have HR := Lib.hid hR
  have HT : Hid (l.take l.length = l) := Lib.hid (by rw [List.take_length])
  clear hl hR
  go_enter Try.func12, Try.ntmps12
  go_wp2
  go_loopw [3, 4] (fun v i wr => ∃ k : Nat, k ≤ N ∧ i = .int .i64 k ∧ Kept w wr ∧ EPr.Own wr w.heap.size v (l.take k)) (fun _ i _ => N - (intOf i).toNat)
  case atStart => exact ⟨0, Nat.zero_le _, rfl, Kept.refl _, Elem.Own.nil _ _ _⟩
  case round =>
    obtain ⟨k, hk, rfl, kk, own⟩ := hrel
    have KK := Lib.hid kk
    have HO := Lib.hid own
    by_cases hlt : k < N
    · have hkl : k < l.length := by rw [HL.out]; exact hlt
      obtain ⟨b, off, rfl, hb, c0, c1, c2, c3, c4⟩ := EP_five (HR.out.kept kk) hkl
      have HS : Hid (l.take (k + 1) = l.take k ++ [l[k]]) := Lib.hid (List.take_succ_eq_append_getElem hkl)
      generalize l[k] = x at *
      obtain ⟨⟨who, so, ar, as_, val⟩, B, c⟩ := x
      simp only at c0 c1 c2 c3 c4
      have HTL : Hid ((l.take k).length ≤ 1099511627775) := Lib.hid (by rw [List.length_take]; omega)
      clear own kk
      go_wp2_with (first
        | (at_builtin
           refine wpList_append_flat EPr rfl (.tmp 11) (.tmp 16) rfl (xs := [⟨⟨who, so, ar, as_, val⟩, B, c⟩]) (base := w.heap.size) rfl rfl (HO.out.kept ((Kept.refl wr).alloc _)) (EPr.reads_new wr _ _ _ rfl) rfl (fun h => by cases h) (by have := HTL.out; omega) (KK.out.alloc _).2 ?_
           intro y4 v4 own4 gr4 at4
           have k4 : Kept w v4 := Elem.Own.keeps (KK.out.alloc _) (HO.out.kept ((Kept.refl wr).alloc _)) (Nat.le_refl _) gr4)
        | fail)
      go_roundw
      case rel => exact ⟨k + 1, by omega, by go_num, k4, by rw [HS.out]; exact own4⟩
      case measure => simp [intOf]; omega
    · obtain rfl : k = N := by omega
      have e : l.take k = l := by rw [← HL.out, HT.out]
      rw [e] at HO
      clear own
      go_wp2
      go_ret
      exact ⟨_, rfl, HO.out, KK.out⟩

set_option maxRecDepth 100000 in
set_option maxHeartbeats 1000000 in
theorem votes_any {w : World} {A : Option Addr} {N cap : Nat} {l : List Vt} (hl : l.length = N) (hR : EV.Reads w A l) (hN : N ≤ 1099511627775) :
    Calls Try.prog 15 #[.slice A N cap] w fun e w' => ∃ v, e = .returned v ∧ EVr.Own w' w.heap.size v l ∧ Kept w w' := by
  have HL := Lib.hid hl
  have HR := Lib.hid hR
  have HT : Hid (l.take l.length = l) := Lib.hid (by rw [List.take_length])
  clear hl hR
  go_enter Try.func15, Try.ntmps15
  go_wp2
  go_loopw [3, 4] (fun v i wr => ∃ k : Nat, k ≤ N ∧ i = .int .i64 k ∧ Kept w wr ∧ EVr.Own wr w.heap.size v (l.take k)) (fun _ i _ => N - (intOf i).toNat)
  case atStart => exact ⟨0, Nat.zero_le _, rfl, Kept.refl _, Elem.Own.nil _ _ _⟩
  case round =>
    obtain ⟨k, hk, rfl, kk, own⟩ := hrel
    have KK := Lib.hid kk
    have HO := Lib.hid own
    by_cases hlt : k < N
    · have hkl : k < l.length := by rw [HL.out]; exact hlt
      obtain ⟨b, off, rfl, hb, c0, c1, c2⟩ := EV_three (HR.out.kept kk) hkl
      have HS : Hid (l.take (k + 1) = l.take k ++ [l[k]]) := Lib.hid (List.take_succ_eq_append_getElem hkl)
      generalize l[k] = x at *
      obtain ⟨who, r, s⟩ := x
      simp only at c0 c1 c2
      have HTL : Hid ((l.take k).length ≤ 1099511627775) := Lib.hid (by rw [List.length_take]; omega)
      clear own kk
      go_wp2_with (first
        | (at_builtin
           refine wpList_append_flat EVr rfl (.tmp 11) (.tmp 16) rfl (xs := [⟨who, r, s⟩]) (base := w.heap.size) rfl rfl (HO.out.kept ((Kept.refl wr).alloc _)) (EVr.reads_new wr _ _ _ rfl) rfl (fun h => by cases h) (by have := HTL.out; omega) (KK.out.alloc _).2 ?_
           intro y4 v4 own4 gr4 at4
           have k4 : Kept w v4 := Elem.Own.keeps (KK.out.alloc _) (HO.out.kept ((Kept.refl wr).alloc _)) (Nat.le_refl _) gr4)
        | fail)
      go_roundw
      case rel => exact ⟨k + 1, by omega, by go_num, k4, by rw [HS.out]; exact own4⟩
      case measure => simp [intOf]; omega
    · obtain rfl : k = N := by omega
      have e : l.take k = l := by rw [← HL.out, HT.out]
      rw [e] at HO
      clear own
      go_wp2
      go_ret
      exact ⟨_, rfl, HO.out, KK.out⟩

set_option maxRecDepth 100000 in
/-- a promise's ballot -/
theorem pat_any (who : Int) (so : Bool) (r s : Int) (B : Option Addr) (n c : Nat) (w : World) : Calls Try.prog 24 #[.agg #[.int .i64 who, .bool so, .int .i64 r, .int .i64 s, .slice B n c]] w fun e w' => e = .returned (.agg #[.int .i64 r, .int .i64 s]) ∧ Kept w w' := by
  go_enter Try.func24, Try.ntmps24
  go_wp2
  refine bodyPost_ret (results_cell_row (p := 2) (ty := 33) rfl _ _ (w.heap.size + 1) _ _ _ _ rfl (push_two_new w _ _) Try.underlying33 rfl (by kernel_rfl)) rfl ?_
  exact ⟨rfl, ((Kept.refl w).alloc _).alloc _⟩
set_option maxRecDepth 100000 in
/-- a vote's ballot -/
theorem vat_any (who r s : Int) (w : World) : Calls Try.prog 29 #[.agg #[.int .i64 who, .int .i64 r, .int .i64 s]] w fun e w' => e = .returned (.agg #[.int .i64 r, .int .i64 s]) ∧ Kept w w' := by
  go_enter Try.func29, Try.ntmps29
  go_wp2
  refine bodyPost_ret (results_cell_row (p := 2) (ty := 33) rfl _ _ (w.heap.size + 1) _ _ _ _ rfl (push_two_new w _ _) Try.underlying33 rfl (by kernel_rfl)) rfl ?_
  exact ⟨rfl, ((Kept.refl w).alloc _).alloc _⟩
end Go.Proofs.Ytifenlopgpbpbaa
