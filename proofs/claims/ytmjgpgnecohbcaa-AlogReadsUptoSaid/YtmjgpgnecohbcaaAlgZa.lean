/- The document's Last. -/
import Derived.Test.YtmjgpgnecohbcaaAlgV
import Derived.Test.YtmjgpgnecohbcaaMgB
namespace Go.Proofs.Ytmjgpgnecohbcaa
open Go.RowKit

set_option maxRecDepth 100000 in
set_option maxHeartbeats 4000000 in
theorem reflast_any {w : World} {A : Option Addr} {n cap : Nat} {l : List Rc} (kind slot : Int) (hl : l.length = n) (hR : Rcs w A l) (hn : n ≤ 1099511627776) :
    Calls Try.prog 28 #[.slice A n cap, .int .i64 kind, .int .i64 slot] w fun e w' => Below w.heap.size w w' ∧
      ∃ (o : Bool) (r : Rc) (A' : Option Addr) (c' : Nat), Said kind slot l o r ∧ e = .returned (.tuple #[rcv r A' r.val.length c', .bool o]) ∧ Row w' A' r.val.length c' r.val := by
  have HR := Lib.hid hR
  have HL := Lib.hid hl
  clear hR hl
  go_enter Try.func28, Try.ntmps28
  go_wp2
  go_loopw [8] (fun i wr => ∃ k : Nat, k ≤ n ∧ i = .int .i64 ((k : Int) - 1) ∧ wr = w.alloc (.cells #[.int .i64 0, .int .i64 0, .int .i64 0, .int .i64 0, .slice none 0 0] 55) ∧ ∀ j (hj : j < l.length), k ≤ j → ¬ l[j].is kind slot) (fun i _ => (intOf i + 1).toNat)
  case atStart => exact ⟨n, Nat.le_refl _, by go_num, rfl, fun j hj h => absurd hj (by rw [HL.out]; omega)⟩
  case round =>
    obtain ⟨k, hk, rfl, hw, hno⟩ := hrel
    subst hw
    have HNO := Lib.hid hno
    clear hno
    cases k with
    | zero =>
      go_wp2_with fail
      have hnone : lastOf kind slot l = none := lastOf_none fun i hi => HNO.out i hi (by omega)
      refine bodyPost_ret (results_row_tmp (p := 6) (u := 7) (ty := 55) rfl _ _ _ w.heap.size 55 zrec (0, 0) _ (.bool false) rfl rfl (push_new w _) Try.underlying55 rfl (by kernel_rfl)) rfl ?_
      exact ⟨(Below.refl _ _).alloc (Nat.le_refl _) _, false, Rc.zero, none, 0, .inr ⟨rfl, rfl, hnone⟩, rfl, Row.none⟩
    | succ k =>
      have hkl : k < l.length := by rw [HL.out]; omega
      obtain ⟨b, off, rfl, hb, c0, c1, c2, c3, A2, cc, c4, hrow⟩ := HR.out.2 k hkl
      have hit := @lastOf_hit kind slot l k hkl
      have HIT := Lib.hid hit
      have hno2 : ¬ l[k].is kind slot → ∀ j (hj : j < l.length), k ≤ j → ¬ l[j].is kind slot := fun h j hj hk => by
        by_cases e : j = k
        · subst e; exact h
        · exact HNO.out j hj (by omega)
      have HNO2 := Lib.hid hno2
      have HLA : Hid (l[k].is kind slot → lastOf kind slot l = some l[k]) := Lib.hid fun h => hit h fun i hi hki => HNO.out i hi (by omega)
      clear hit HIT hno2
      generalize l[k] = r at *
      have HROW := Lib.hid hrow
      clear hrow
      have he : ((k + 1 : Nat) : Int) - 1 = (k : Int) := by omega
      rw [he]
      by_cases hm1 : r.kind = kind
      · have t1 : (r.kind == kind) = true := by simpa using hm1
        by_cases hm2 : r.slot = slot
        · have t2 : (r.slot == slot) = true := by simpa using hm2
          have hla := HLA.out ⟨hm1, hm2⟩
          have HLA2 := Lib.hid hla
          clear hm1 hm2 hla
          go_wp2_with fail
          refine bodyPost_ret (results_row_tmp (p := 6) (u := 7) (ty := 55) rfl _ _ _ w.heap.size 55 #[.int .i64 r.kind, .int .i64 r.slot, .int .i64 r.round, .int .i64 r.site, .slice A2 r.val.length cc] (0, 0) _ (.bool true) rfl rfl (push_new w _) Try.underlying55 rfl (by kernel_rfl)) rfl ?_
          exact ⟨(Below.refl _ _).alloc (Nat.le_refl _) _, true, r, A2, cc, .inl ⟨rfl, HLA2.out⟩, rfl, HROW.out.below ((Below.refl _ _).alloc (Nat.le_refl _) _)⟩
        · have t2 : (r.slot == slot) = false := by simpa using hm2
          have hn3 := HNO2.out (fun h => hm2 h.2)
          have HN3 := Lib.hid hn3
          clear hm1 hm2 hn3
          go_wp2_with fail
          exact ⟨⟨k, by omega, rfl, trivial, HN3.out⟩, by simp [intOf]⟩
      · have t1 : (r.kind == kind) = false := by simpa using hm1
        have hn3 := HNO2.out (fun h => hm1 h.1)
        have HN3 := Lib.hid hn3
        clear hm1 hn3
        go_wp2_with fail
        exact ⟨⟨k, by omega, rfl, trivial, HN3.out⟩, by simp [intOf]⟩
end Go.Proofs.Ytmjgpgnecohbcaa
