/- lay of the laws on wire: the items, laid down by the program's Writer. -/
import Derived.Test.YtmmmajlfndibnaaDoorWireI
import Derived.Test.YtmmmajlfndibnaaDoorWireK
namespace Go.Proofs.YtmmmajlfndibnaaDoor
open Go.RowKit

theorem enc0 {x : Itm} (h : x.kind = 0) : enc x = put x.n := by unfold enc; rw [if_pos h]
theorem enc1 {x : Itm} (h0 : ¬ x.kind = 0) (h : x.kind = 1) : enc x = put (zig (sgn x.n)) := by unfold enc; rw [if_neg h0, if_pos h]
theorem enc2 {x : Itm} (h0 : ¬ x.kind = 0) (h : ¬ x.kind = 1) : enc x = put x.bs.length ++ x.bs := by unfold enc; rw [if_neg h0, if_neg h]
theorem ItmAt.kept {w W : World} {b o : Nat} {x : Itm} (h : ItmAt w b o x) (hk : Kept w W) : ItmAt W b o x := by
  obtain ⟨h1, h2, A, m, c, h3, h4, h5, h6⟩ := h
  exact ⟨(hk.cell (p := ⟨b, o, none⟩) (cell_lt h1)).trans h1, (hk.cell (p := ⟨b, o + 1, none⟩) (cell_lt h2)).trans h2, A, m, c, (hk.cell (p := ⟨b, o + 2, none⟩) (cell_lt h3)).trans h3, (h4.below hk.1).more hk.2, h5, h6⟩
theorem Items.kept {w W : World} {A : Option Addr} {len : Nat} {its : List Itm} (h : Items w A len its) (hk : Kept w W) : Items W A len its := by
  obtain ⟨h1, h2, h3, h4, h5⟩ := h
  refine ⟨h1, h2, h3, h4, fun hp => ?_⟩
  obtain ⟨b, off, e, hb, hi⟩ := h5 hp
  exact ⟨b, off, e, Nat.lt_of_lt_of_le hb hk.2, fun i hh => (hi i hh).kept hk⟩

set_option maxRecDepth 100000 in
set_option maxHeartbeats 4000000 in
theorem lay_any (A : Option Addr) (len cap : Nat) (its : List Itm) (w : World) (hI : Items w A len its) :
    Calls Tryd.prog 13 #[.slice A len cap] w fun e w' => ∃ v, e = .returned v ∧ Own w' w.heap.size v (encs (its.take 100)) ∧ Below w.heap.size w w' := by
  obtain ⟨hlen, hmax, hok, hload, hat⟩ := hI
  have hbound : ∀ k, k ≤ 100 → (encs (its.take k)).length ≤ 1049576 := fun k hk => by
    have h1 := encs_len (l := its.take k) (fun x hx => hok x (List.mem_of_mem_take hx))
    have h2 := load_take its k
    have h3 : (its.take k).length ≤ k := by simp; omega
    omega
  have k0 : Kept w (w.alloc (.cells #[.slice none 0 0] 53)) := (Kept.refl w).alloc _
  have h0 := Wr.new w w.heap.size (Nat.le_refl _)
  have HO := Lib.hid hok
  have HBD := Lib.hid hbound
  clear hok hbound hload
  go_enter Tryd.func13, Tryd.ntmps13
  go_wp2
  go_loopw [4] (fun i wr => ∃ k : Nat, k ≤ len ∧ k ≤ 100 ∧ i = .int .i64 k ∧ Wr wr w.heap.size w.heap.size (encs (its.take k)) ∧ Kept w wr) (fun i _ => 100 - (intOf i).toNat)
  case atStart => exact ⟨0, by omega, by omega, rfl, by simpa [encs] using h0, k0⟩
  case round =>
    obtain ⟨k, hk, hk1, rfl, hw, kk⟩ := hrel
    clear h0 k0
    by_cases hgo : k < len ∧ k < 100
    · obtain ⟨hg1, hg2⟩ := hgo
      obtain ⟨b, off, rfl, hb, hit⟩ := hat (by omega)
      have hkl : k < its.length := by omega
      obtain ⟨c0, c1, A2, m, cc, c2, hbt, hnil2, hroom2⟩ := hit k hkl
      have c0 := (kk.cell (p := ⟨b, off + k * 3, none⟩) hb).trans c0
      have c1 := (kk.cell (p := ⟨b, off + k * 3 + 1, none⟩) hb).trans c1
      have c2 := (kk.cell (p := ⟨b, off + k * 3 + 2, none⟩) hb).trans c2
      have ok := HO.out its[k] (List.getElem_mem hkl)
      have HS := Lib.hid (encs_snoc (l := its) hkl)
      have hln := HBD.out (k + 1) (by omega)
      rw [HS.out] at hln
      simp only [List.length_append] at hln
      clear hat hit
      generalize its[k] = x at *
      obtain ⟨kd, n, bs⟩ := x
      obtain ⟨hn, hbl, hby, hkw⟩ := ok
      simp only at c0 c1 c2 hbt hn hbl hby hkw
      have hbl2 := hbt.1
      have HBT := Lib.hid hbt
      have HNIL := Lib.hid hnil2
      have hke := bounds_i64 hkw
      clear hbt hnil2 hkw hby
      by_cases h0 : kd = 0
      · subst h0
        rw [enc0 rfl] at hln
        have HE := Lib.hid (enc0 (x := ⟨0, n, bs⟩) rfl)
        go_wp2_with fail
        refine (wuint_any w.heap.size w.heap.size _ n wr hw hn (by omega)).mono ?_
        rintro e w1 ⟨rfl, hw1, hb1, -⟩
        go_wp2
        go_roundw
        case rel => exact ⟨k + 1, by omega, by omega, by go_num, by rw [HS.out, HE.out]; exact hw1, ⟨kk.1.trans hb1, hw1.hs⟩⟩
        case measure => simp [intOf]; omega
      · by_cases h1 : kd = 1
        · subst h1
          rw [enc1 (by show ¬ (1 : Int) = 0; decide) rfl] at hln
          have HE := Lib.hid (enc1 (x := ⟨1, n, bs⟩) (by show ¬ (1 : Int) = 0; decide) rfl)
          have hsw := sgn_wrap hn
          have hsr := sgn_range hn
          go_wp2_with fail
          refine (wint_any w.heap.size w.heap.size _ (sgn n) hsr.1 hsr.2 wr hw (by omega)).mono ?_
          rintro e w1 ⟨rfl, hw1, hb1, -⟩
          go_wp2
          go_roundw
          case rel => exact ⟨k + 1, by omega, by omega, by go_num, by rw [HS.out, HE.out]; exact hw1, ⟨kk.1.trans hb1, hw1.hs⟩⟩
          case measure => simp [intOf]; omega
        · rw [enc2 h0 h1] at hln
          have HE := Lib.hid (enc2 (x := ⟨kd, n, bs⟩) h0 h1)
          have hfar : ∀ a, A2 = some a → 0 < m → a.block ≠ w.heap.size ∧ rowOf wr w.heap.size ≠ some a.block := by
            intro a ha hm
            obtain ⟨b', off', e', hlt', _⟩ := HBT.out.2.2.2 hm
            rw [ha] at e'
            injection e' with e'
            subst e'
            exact ⟨by simp only; omega, fun h => by have := (hw.row_lt _ h).1; simp only at this; omega⟩
          simp only [List.length_append] at hln
          have hle := HBD.out k (by omega)
          go_wp2_with fail
          refine (wbytes_any w.heap.size w.heap.size _ bs A2 m cc wr hw ((HBT.out.below kk.1).more kk.2) hfar HNIL.out (by omega)).mono ?_
          rintro e w1 ⟨rfl, hw1, hb1, -⟩
          go_wp2
          go_roundw
          case rel => exact ⟨k + 1, by omega, by omega, by go_num, by rw [HS.out, HE.out, hbl2]; exact hw1, ⟨kk.1.trans hb1, hw1.hs⟩⟩
          case measure => simp [intOf]; omega
    · have hall : its.take k = its.take 100 := by
        by_cases h : k = 100
        · rw [h]
        · rw [List.take_of_length_le (by omega), List.take_of_length_le (by omega)]
      rw [hall] at hw
      have HA := Lib.hid hall
      have hle := HBD.out 100 (by omega)
      clear hall hat
      by_cases hkl : k < len
      · obtain rfl : k = 100 := by omega
        go_wp2_with fail
        refine (told_any _ _ _ wr hw (by omega)).mono ?_
        rintro e w1 ⟨v, rfl, own, hb1⟩
        go_wp2
        go_ret
        exact ⟨v, rfl, own_base own kk.2, (kk.call hb1).1⟩
      · obtain rfl : k = len := by omega
        go_wp2_with fail
        refine (told_any _ _ _ wr hw (by omega)).mono ?_
        rintro e w1 ⟨v, rfl, own, hb1⟩
        go_wp2
        go_ret
        exact ⟨v, rfl, own_base own kk.2, (kk.call hb1).1⟩
end Go.Proofs.YtmmmajlfndibnaaDoor
