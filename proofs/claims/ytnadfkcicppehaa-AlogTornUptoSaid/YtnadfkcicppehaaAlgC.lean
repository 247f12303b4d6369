/- Those of records that may be, 40 at most. -/
import Derived.Test.YtnadfkcicppehaaAlgB
namespace Go.Proofs.Ytnadfkcicppehaa
open Go.RowKit

set_option maxRecDepth 100000 in
set_option maxHeartbeats 2000000 in
theorem lawmay_any {w : World} {A : Option Addr} {len cap : Nat} {l : List Rc} (hl : l.length = len) (hR : Rcs w A l) (hm : len ≤ 1099511627776000) :
    Calls Try.prog 20 #[.slice A len cap] w fun e w' => ∃ v its, e = .returned v ∧ OwnR 41 w' w.heap.size v its ∧ its.length ≤ 40 ∧ (∀ x ∈ its, x.r.may ∧ x.r.byte) ∧ Below w.heap.size w w' := by
  have HR := Lib.hid hR
  have HL := Lib.hid hl
  clear hR hl
  go_enter Try.func20, Try.ntmps20
  go_wp2
  go_loopw [3, 4] (fun o i wr => ∃ (k : Nat) (its : List It) (A' : Option Addr) (c' : Nat), k ≤ len ∧ i = .int .i64 k ∧ Kept w wr ∧ o = .slice A' its.length c' ∧ OwnR 41 wr w.heap.size o its ∧ its.length ≤ 40 ∧ (∀ x ∈ its, x.r.may ∧ x.r.byte)) (fun _ i _ => len - (intOf i).toNat)
  case atStart => exact ⟨0, [], none, 0, Nat.zero_le _, rfl, Kept.refl _, rfl, OwnR.nil _ _ _, by simp, by simp⟩
  case round =>
    obtain ⟨k, its, A', c', hk, rfl, kk, rfl, own, h40, hok⟩ := hrel
    have HKK := Lib.hid kk
    have HO := Lib.hid own
    have HOK := Lib.hid hok
    clear kk own hok
    generalize hil : its.length = m at *
    have HIL := Lib.hid hil
    clear hil
    by_cases hlt : k < len
    · by_cases hm40 : m < 40
      · have hki : k < l.length := by rw [HL.out]; exact hlt
        obtain ⟨b, off, A2, e2, rfl, hb, a0, a1, a2, a3, a4, ar⟩ := HR.out.cells_at hki
        have hby := HR.out.byte l[k] (List.getElem_mem hki)
        generalize l[k] = r at *
        have c0 := (HKK.out.cell (p := ⟨b, off + k * 5, none⟩) hb).trans a0
        have c1 := (HKK.out.cell (p := ⟨b, off + k * 5 + 1, none⟩) hb).trans a1
        have c2 := (HKK.out.cell (p := ⟨b, off + k * 5 + 2, none⟩) hb).trans a2
        have c3 := (HKK.out.cell (p := ⟨b, off + k * 5 + 3, none⟩) hb).trans a3
        have c4 := (HKK.out.cell (p := ⟨b, off + k * 5 + 4, none⟩) hb).trans a4
        have HM := Lib.hid fun w => refmay_any r A2 r.val.length e2 rfl w
        have hoff : ∀ a, A2 = some a → 0 < r.val.length → (Value.slice A' m c').ownBlock ≠ some a.block := fun a ha hn e => by
          have h1 := Row.block_lt ar ha hn
          have h2 := (World.ownsRow.lt HO.out.row _ e).1
          omega
        have HOFF := Lib.hid hoff
        have HAR := Lib.hid ar
        clear a0 a1 a2 a3 a4 ar hoff
        by_cases hmay : r.may
        · rw [Rc.mayB_yes hmay] at HM
          have HRM : Hid (r.may ∧ r.byte) := Lib.hid ⟨hmay, hby⟩
          clear hmay hby
          simp only [rcv] at HM
          go_wp2_with fail
          refine (HM.out _).mono ?_
          rintro e w1 ⟨rfl, h1⟩
          have hw1 : b < w1.heap.size := by have := h1.size; have := HKK.out.2; omega
          have hbw : b < wr.heap.size := by have := HKK.out.2; omega
          have d0 := (h1.cell (p := ⟨b, off + k * 5, none⟩) hbw).trans c0
          have d1 := (h1.cell (p := ⟨b, off + k * 5 + 1, none⟩) hbw).trans c1
          have d2 := (h1.cell (p := ⟨b, off + k * 5 + 2, none⟩) hbw).trans c2
          have d3 := (h1.cell (p := ⟨b, off + k * 5 + 3, none⟩) hbw).trans c3
          have d4 := (h1.cell (p := ⟨b, off + k * 5 + 4, none⟩) hbw).trans c4
          have k1 := HKK.out.call h1
          have HO1 := Lib.hid (HO.out.kept ((Kept.refl wr).call h1))
          have HX : Hid (∀ y ∈ [(⟨r, A2, e2⟩ : It)], y.ok (w1.alloc (.cells #[.int .i64 r.kind, .int .i64 r.slot, .int .i64 r.round, .int .i64 r.site, .slice A2 r.val.length e2] 41)) ∧ y.off (Value.slice A' m c').ownBlock) := Lib.hid (by
            intro y hy
            simp only [List.mem_singleton] at hy
            subst hy
            exact ⟨HAR.out.below (k1.alloc _).1, HOFF.out⟩)
          have HCN := Lib.hid (cells_new w1 ⟨r, A2, e2⟩ 41)
          clear c0 c1 c2 c3 c4 HM h1
          go_wp2_with (first
            | (at_builtin
               refine wpList_append_rec rfl (.tmp 21) (.tmp 26) rfl (v := .slice A' m c') (base := w.heap.size) (l := its) (m := [⟨r, A2, e2⟩]) (k := 1) (c := 1) (ad := ⟨w1.heap.size, 0, none⟩) rfl rfl rfl (HO1.out.kept ((Kept.refl w1).alloc _)) HX.out HCN.out (by rw [HIL.out]; omega) (k1.alloc _).2 ?_
               intro v' w5 own5 gr5 at5
               have k5 : Kept w w5 := ⟨(k1.alloc _).1.grown gr5 (k1.alloc _).2 (fun j h => (World.ownsRow.lt HO.out.row j h).1), Nat.le_trans (k1.alloc _).2 gr5.size⟩
               obtain ⟨A5, c5, rfl, -⟩ := own5.slice
               have HO5 := Lib.hid own5
               clear own5 gr5 at5)
            | fail)
          go_roundw
          case rel => exact ⟨k + 1, its ++ [⟨r, A2, e2⟩], A5, c5, by omega, by go_num, k5, by simp, by simpa using HO5.out, by simp [HIL.out]; omega, fun y hy => by
            rcases List.mem_append.1 hy with hy | hy
            · exact HOK.out y hy
            · simp only [List.mem_singleton] at hy
              subst hy
              exact HRM.out⟩
          case measure => simp [intOf]; omega
        · rw [Rc.mayB_no hmay] at HM
          clear hmay hby
          simp only [rcv] at HM
          go_wp2_with fail
          refine (HM.out _).mono ?_
          rintro e w1 ⟨rfl, h1⟩
          have k1 := HKK.out.call h1
          have HO1 := Lib.hid (HO.out.kept ((Kept.refl wr).call h1))
          clear h1
          go_wp2
          go_roundw
          case rel => exact ⟨k + 1, its, A', c', by omega, by go_num, k1, by rw [HIL.out], HO1.out, by rw [HIL.out]; omega, HOK.out⟩
          case measure => simp [intOf]; omega
      · go_wp2
        go_ret
        exact ⟨_, its, rfl, HO.out, by rw [HIL.out]; exact h40, HOK.out, HKK.out.1⟩
    · go_wp2
      go_ret
      exact ⟨_, its, rfl, HO.out, by rw [HIL.out]; exact h40, HOK.out, HKK.out.1⟩
end Go.Proofs.Ytnadfkcicppehaa
