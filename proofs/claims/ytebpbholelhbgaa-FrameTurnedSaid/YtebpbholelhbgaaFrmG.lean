/- Frames one behind the other, and where each ends: 'row' and 'whole' of the statements. -/
import Derived.Test.YtebpbholelhbgaaFrmK
import Derived.Test.YtebpbholelhbgaaInts
namespace Go.Proofs.Ytebpbholelhbgaa
open Go.RowKit

/-- where each frame ends -/
def endsOf (l : List (List Nat)) : List Nat := (List.range l.length).map fun i => (flat (l.take (i + 1))).length
theorem endsOf_len (l : List (List Nat)) : (endsOf l).length = l.length := by simp [endsOf]
theorem endsOf_at {l : List (List Nat)} {i : Nat} (h : i < l.length) : (endsOf l).getD i 0 = (flat (l.take (i + 1))).length := by simp [endsOf, h]
theorem endsOf_snoc (l : List (List Nat)) (x : List Nat) : endsOf (l ++ [x]) = endsOf l ++ [(flat (l ++ [x])).length] := by
  unfold endsOf
  rw [List.length_append, List.length_singleton, List.range_succ, List.map_append, List.map_singleton, List.take_of_length_le (by simp)]
  congr 1
  refine List.map_congr_left fun i hi => ?_
  have : i < l.length := by simpa using hi
  rw [List.take_append_of_le_length (by omega)]
theorem take_snoc {xs : List (List Nat)} {k : Nat} (h : k < xs.length) : xs.take (k + 1) = xs.take k ++ [xs[k]] := List.take_succ_eq_append_getElem h
theorem flat_le : ∀ {l : List (List Nat)}, (∀ x ∈ l, x.length ≤ 4096) → (flat l).length ≤ 4104 * l.length
  | [], _ => by simp [flat]
  | x :: l, h => by
    have := flat_le (l := l) (fun z hz => h z (by simp [hz]))
    have := h x (by simp)
    rw [flat_cons, List.length_append, frm_len, List.length_cons]
    omega
theorem flat_byte : ∀ {l : List (List Nat)}, (∀ x ∈ l, ∀ c ∈ x, c < 256) → ∀ c ∈ flat l, c < 256
  | [], _ => by simp [flat]
  | x :: l, h => by
    intro c hc
    rw [flat_cons] at hc
    rcases List.mem_append.1 hc with h1 | h1
    · exact frm_byte (h x (by simp)) c h1
    · exact flat_byte (l := l) (fun z hz => h z (by simp [hz])) c h1

set_option maxHeartbeats 4000000 in
/-- the frames of the first 30 rows; or nothing, where one of these is too long -/
theorem row_any {w : World} {A : Option Addr} {n cap : Nat} {xs : List (List Nat)} (h : Rws w A n xs) (hn : n ≤ 140737488355328) :
    Calls Try.prog 17 #[.slice A n cap] w fun e w' => Below w.heap.size w w' ∧
      (e = .returned (.tuple #[.slice none 0 0, .slice none 0 0]) ∨
       ∃ m v1 v2, e = .returned (.tuple #[v1, v2]) ∧ m ≤ n ∧ m ≤ 30 ∧ (∀ x ∈ xs.take m, x.length ≤ 4096) ∧ (∀ x ∈ xs.take m, ∀ c ∈ x, c < 256) ∧ Own w' w.heap.size v1 (flat (xs.take m)) ∧ OwnI w' w.heap.size v2 (endsOf (xs.take m)) ∧ Apart v1 v2) := by
  have HX := Lib.hid h
  have HL := Lib.hid h.1
  clear h
  go_enter Try.func17, Try.ntmps17
  go_wp2
  go_loopw [4, 5, 6] (fun o p i wr => ∃ (k : Nat), i = .int .i64 k ∧ k ≤ n ∧ k ≤ 30 ∧ Kept w wr ∧ (∀ x ∈ xs.take k, x.length ≤ 4096) ∧ (∀ x ∈ xs.take k, ∀ c ∈ x, c < 256) ∧ Own wr w.heap.size o (flat (xs.take k)) ∧ OwnI wr w.heap.size p (endsOf (xs.take k)) ∧ Apart o p) (fun _ _ i _ => 30 - (intOf i).toNat)
  case atStart => exact ⟨0, rfl, by omega, by omega, Kept.refl w, by simp, by simp, by simpa [flat] using Own.nil _ _, by simpa [endsOf] using OwnI.nil _ _, Apart.nil _⟩
  case round =>
    obtain ⟨k, rfl, hkn, hk30, kk, hx4, hxb, own, owi, hap⟩ := hrel
    have HO := Lib.hid own
    have HI := Lib.hid owi
    have HAP := Lib.hid hap
    have HX4 := Lib.hid hx4
    have HXB := Lib.hid hxb
    clear own owi hap hx4 hxb
    by_cases hlt : k < n
    · by_cases h30 : k < 30
      · have hkl : k < xs.length := by rw [HL.out]; exact hlt
        have hx : xs[k]? = some xs[k] := List.getElem?_eq_getElem hkl
        obtain ⟨bb, off, v, rfl, hbb, hc, Aa, na, ca, rfl, ha1, ha2, -⟩ := HX.out.2 k _ hx
        have hc' := (kk.cell (p := ⟨bb, off + k, none⟩) hbb).trans hc
        have HA1 := Lib.hid ((ha1.below kk.1).more kk.2)
        have HTS := Lib.hid (take_snoc hkl)
        generalize xs[k] = y at *
        have hcn : Aa = none → ca = 0 := fun h => (ha2 h).2
        have HYB := Lib.hid ha1.2.2.1
        have HYL := Lib.hid ha1.1
        clear hc hx hkl ha1 ha2
        go_wp2_with fail
        by_cases hna : na ≤ 4096
        · refine (put_any (bs := y) HA1.out hcn hna).mono ?_
          rintro e v3 ⟨x, rfl, o3, h3⟩
          have k3 := kk.call h3
          have HO3 := Lib.hid (Own.below HO.out h3)
          have HI3 := Lib.hid (OwnI.below HI.out h3)
          have hap3 : Apart (.slice none 0 0) x := Apart.nil _
          obtain ⟨A3, c3, rfl, r3⟩ := o3.row (by rw [frm_len, HYL.out]; omega) (frm_byte HYB.out)
          have R3 := Lib.hid r3
          have hfl3 : 8 ≤ (frm y).length ∧ (frm y).length ≤ 4104 := by rw [frm_len, HYL.out]; omega
          have HFE := Lib.hid (show flat (xs.take (k + 1)) = flat (xs.take k) ++ frm y by rw [HTS.out, flat_append, show flat [y] = frm y by simp [flat]])
          have hfk : (flat (xs.take k)).length ≤ 4104 * 30 := by
            have := flat_le HX4.out
            rw [List.length_take] at this
            omega
          have HFK := Lib.hid hfk
          obtain ⟨hf8, hf41⟩ := hfl3
          generalize frm y = F at *
          generalize hflE : F.length = fl at *
          have HFLE := Lib.hid hflE
          clear o3 h3 r3 hflE hap3 hfk
          have hx4' : ∀ x ∈ xs.take (k + 1), x.length ≤ 4096 := fun z hz => by
            rw [HTS.out] at hz
            rcases List.mem_append.1 hz with h | h
            · exact HX4.out z h
            · simp at h; subst h; rw [HYL.out]; exact hna
          have hxb' : ∀ x ∈ xs.take (k + 1), ∀ c ∈ x, c < 256 := fun z hz => by
            rw [HTS.out] at hz
            rcases List.mem_append.1 hz with h | h
            · exact HXB.out z h
            · simp at h; subst h; exact HYB.out
          have HX4' := Lib.hid hx4'
          have HXB' := Lib.hid hxb'
          have HEN := Lib.hid (show endsOf (xs.take (k + 1)) = endsOf (xs.take k) ++ [(flat (xs.take (k + 1))).length] by rw [HTS.out, endsOf_snoc])
          have HL1 := Lib.hid (show (flat (xs.take (k + 1))).length ≤ 1048576 by have := flat_le hx4'; rw [List.length_take] at this; omega)
          have HEL := Lib.hid (show (endsOf (xs.take k)).length ≤ 30 by rw [endsOf_len, List.length_take]; omega)
          clear hx4' hxb'
          generalize hW : (flat (xs.take (k + 1))).length = L1 at *
          have HW := Lib.hid hW
          clear hW
          go_wp2_with (first
            | (at_builtin
               refine wpList_append_bts rfl (.tmp 34) (.tmp 35) rfl (v := u4) (base := w.heap.size) (ds := flat (xs.take k)) (bs := F) (n := fl) rfl rfl HO3.out R3.out.bts R3.out.nil (by have := HFK.out; omega) k3.2 ?_
               intro y4 v4 own4 gr4 at4
               have k4 := k3.append HO3.out gr4
               have HAP4 := Lib.hid (row_apart_new HI3.out HAP.out.symm at4)
               have HI4 := Lib.hid (row_other HI3.out HAP.out.symm gr4)
               rw [← HFE.out] at own4
               have hrow := own4.row (by rw [HW.out]; have := HL1.out; omega) (flat_byte HXB'.out)
               rw [HW.out] at hrow
               obtain ⟨A4, c4, rfl, -⟩ := hrow
               have HO4 := Lib.hid own4
               clear own4 gr4 at4)
            | (at_builtin
               refine wpList_append_int rfl (.tmp 37) (.tmp 40) rfl (v := u5) (base := w.heap.size) (ds := endsOf (xs.take k)) (k := L1) rfl rfl (World.ownsRow.alloc HI4.out _) (by rw [World.cell?_alloc_at _ _ _ _ rfl]; rfl) (by have := HEL.out; omega) (k4.alloc _).2 ?_
               intro y5 v5 own5 gr5 at5
               have k5 : Kept w v5 := (k4.alloc _).grow (World.ownsRow.alloc HI4.out _) (Nat.le_refl _) gr5
               have HAP5 := Lib.hid (row_apart_new (World.ownsRow.alloc HO4.out _) HAP4.out.symm at5)
               have HO5 := Lib.hid (row_other (World.ownsRow.alloc HO4.out _) HAP4.out.symm gr5)
               have HI5 := Lib.hid own5
               clear own5 gr5 at5)
            | fail)
          go_roundw
          case rel => exact ⟨k + 1, by go_num, by omega, by omega, k5, HX4'.out, HXB'.out, HO5.out, by rw [HEN.out]; exact HI5.out, HAP5.out⟩
          case measure => simp [intOf]; omega
        · refine (put_many (by omega)).mono ?_
          rintro e v3 ⟨rfl, rfl⟩
          go_wp2
          go_ret2
          exact ⟨kk.1, .inl rfl⟩
      · have hk3 : k = 30 := by omega
        subst hk3
        go_wp2
        go_ret2
        exact ⟨kk.1, .inr ⟨30, _, _, rfl, hkn, hk30, HX4.out, HXB.out, HO.out, HI.out, HAP.out⟩⟩
    · go_wp2
      go_ret2
      exact ⟨kk.1, .inr ⟨k, _, _, rfl, hkn, hk30, HX4.out, HXB.out, HO.out, HI.out, HAP.out⟩⟩

set_option maxHeartbeats 2000000 in
/-- how many of these are no more than at, from the first on -/
theorem whole_any {w : World} {A : Option Addr} {cap k : Nat} {ns : List Nat} (hn : ns.length ≤ 30)
    (hc : 0 < ns.length → ∃ g, A = some ⟨g, 0, none⟩ ∧ ∀ j, j < ns.length → w.cell? ⟨g, j, none⟩ = some (.int .i64 (ns.getD j 0 : Nat))) :
    Calls Try.prog 18 #[.slice A ns.length cap, .int .i64 k] w fun e w' => w' = w ∧ ∃ q, e = .returned (.int .i64 (q : Nat)) ∧ q ≤ ns.length ∧ (∀ j, j < q → ns.getD j 0 ≤ k) ∧ (q < ns.length → k < ns.getD q 0) := by
  have HC := Lib.hid hc
  clear hc
  generalize hm : ns.length = m at *
  have HM := Lib.hid hm
  clear hm
  go_enter Try.func18, Try.ntmps18
  go_wp2
  go_loopw [5] (fun i wr => ∃ (q : Nat), i = .int .i64 q ∧ q ≤ m ∧ wr = w ∧ ∀ j, j < q → ns.getD j 0 ≤ k) (fun i _ => m - (intOf i).toNat)
  case atStart => exact ⟨0, rfl, by omega, rfl, fun j h => by omega⟩
  case round =>
    obtain ⟨q, rfl, hq, rfl, hle⟩ := hrel
    have HLE := Lib.hid hle
    clear hle
    by_cases hlt : q < m
    · obtain ⟨g, rfl, hcs⟩ := HC.out (by omega)
      have hcq := hcs q hlt
      clear hcs
      generalize hy : ns.getD q 0 = y at *
      have HY := Lib.hid hy
      clear hy
      by_cases hyk : y ≤ k
      · go_wp2
        go_roundw
        case rel =>
          refine ⟨q + 1, by go_num, by omega, trivial, fun j hj => ?_⟩
          rcases Nat.lt_or_ge j q with h | h
          · exact HLE.out j h
          · obtain rfl : j = q := by omega
            rw [HY.out]; exact hyk
        case measure => simp [intOf]; omega
      · go_wp2
        go_ret
        exact ⟨rfl, q, rfl, hq, HLE.out, fun _ => by rw [HY.out]; omega⟩
    · go_wp2
      go_ret
      exact ⟨rfl, q, rfl, hq, HLE.out, fun h => absurd h hlt⟩
end Go.Proofs.Ytebpbholelhbgaa
