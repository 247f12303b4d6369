/- A command's numbers as bytes: the program's answer. -/
import Derived.Test.YtegjlcmeaelbnaaDoorCmdP
namespace Go.Proofs.YtegjlcmeaelbnaaDoor
open Go.RowKit

theorem encN_drop {ns : List Int} {k : Nat} (h : k < ns.length) : encN k (ns.drop k) = enc k (ns.getD k 0) ++ encN (k + 1) (ns.drop (k + 1)) := by
  rw [List.drop_eq_getElem_cons h, encN, List.getD_eq_getElem?_getD, List.getElem?_eq_getElem h]
  rfl

set_option maxRecDepth 100000 in
set_option maxHeartbeats 2000000 in
theorem laid9 (ns : List Int) (hl : ns.length = 9) (hok : Ok ns) (w : World) :
    Calls Tryd.prog 22 #[nums ns] w fun e w' => ∃ v, e = .returned v ∧ Own w' w.heap.size v (encN 0 ns) ∧ Below w.heap.size w w' := by
  have hnum := fun k hk W => run_num ns hl k hk W
  have hgood := ok_good hok
  have hsix := encN_six ns 0 (ok_goods hl hok)
  have hby := encN_byte ns 0
  rw [hl] at hsix
  obtain ⟨n0, n1, n2, n3, n4, n5, n6, n7, n8, hns⟩ := nine hl
  have hcs : nums ns = .agg #[.int .i64 n0, .int .i64 n1, .int .i64 n2, .int .i64 n3, .int .i64 n4, .int .i64 n5, .int .i64 n6, .int .i64 n7, .int .i64 n8] := by rw [hns]; rfl
  rw [hcs] at hnum ⊢
  have HN := Lib.hid hnum
  have HNS := Lib.hid hns
  clear hcs hnum hns
  go_enter Tryd.func22, Tryd.ntmps22
  go_wp2_with fail
  have hw0 : Wr ((w.alloc (.cells #[.int .i64 n0, .int .i64 n1, .int .i64 n2, .int .i64 n3, .int .i64 n4, .int .i64 n5, .int .i64 n6, .int .i64 n7, .int .i64 n8] 50)).alloc (.cells #[.slice none 0 0] 84)) w.heap.size (w.heap.size + 1) [] := by
    have := Wr.new (w.alloc (.cells #[.int .i64 n0, .int .i64 n1, .int .i64 n2, .int .i64 n3, .int .i64 n4, .int .i64 n5, .int .i64 n6, .int .i64 n7, .int .i64 n8] 50)) w.heap.size (by simp)
    simpa only [World.size_alloc] using this
  have hk0 : Kept w ((w.alloc (.cells #[.int .i64 n0, .int .i64 n1, .int .i64 n2, .int .i64 n3, .int .i64 n4, .int .i64 n5, .int .i64 n6, .int .i64 n7, .int .i64 n8] 50)).alloc (.cells #[.slice none 0 0] 84)) := ((Kept.refl w).alloc _).alloc _
  have HW0 := Lib.hid hw0
  have HK0 := Lib.hid hk0
  clear hw0 hk0
  go_loopw [7] (fun i wr => ∃ (k : Nat) (ds : List Nat), i = .int .i64 k ∧ k ≤ 9 ∧ Wr wr w.heap.size (w.heap.size + 1) ds ∧ ds ++ encN k (ns.drop k) = encN 0 ns ∧ Kept w wr) (fun i _ => 9 - (intOf i).toNat)
  case atStart => exact ⟨0, [], rfl, by omega, HW0.out, rfl, HK0.out⟩
  case round =>
    obtain ⟨k, ds, rfl, hk9, hwr, hds, kk⟩ := hrel
    rename_i wr
    have hll : ds.length + (encN k (ns.drop k)).length = (encN 0 ns).length := by rw [← hds, List.length_append]
    by_cases hk : k < 9
    · have hx := HN.out k hk
      have hg := hgood k hk
      rw [encN_drop (by omega)] at hds hll
      rw [List.length_append] at hll
      have HDS := Lib.hid hds
      have HG := Lib.hid hg
      have HWR := Lib.hid hwr
      have KK := Lib.hid kk
      clear hds hg hgood hwr kk
      generalize ns.getD k 0 = x at *
      by_cases h1 : 1 < k
      · have hkb : decide ((1 : Int) < (k : Int)) = true := by simp; omega
        have he : enc k x = put (zig x) := if_pos h1
        rw [he] at hll
        have HE := Lib.hid he
        clear he
        go_wp2_with (first
          | (go_at_call 37; refine (signed_cmd _ _).mono ?_; rintro e w2 ⟨rfl, rfl⟩)
          | (go_at_call 38; refine (wint_any w.heap.size (w.heap.size + 1) ds x (by have := HG.out.1; omega) (by have := HG.out.2.1; omega) _ HWR.out (by omega)).mono ?_; rintro e w3 ⟨rfl, hw3, b3, -⟩
             have HW3 := Lib.hid hw3
             have K3 := Lib.hid (show Kept w w3 from ⟨KK.out.1.trans b3, hw3.hs⟩)
             clear hw3 b3)
          | fail)
        exact ⟨⟨k + 1, ds ++ put (zig x), by go_num, by omega, HW3.out, by rw [List.append_assoc, ← HE.out]; exact HDS.out, K3.out⟩, by simp [intOf]; omega⟩
      · have hkb : decide ((1 : Int) < (k : Int)) = false := by simp; omega
        have hxr := HG.out.2.2 (by omega)
        obtain ⟨m, rfl⟩ : ∃ m : Nat, x = (m : Int) := ⟨x.toNat, by omega⟩
        have he : enc k (m : Int) = put m := by unfold enc; rw [if_neg h1, Int.toNat_natCast]
        have hm : m ≤ 1000 := by omega
        have hwm : IntKind.u64.wrap (m : Int) = (m : Int) := by rw [IntKind.wrap_u64]; omega
        rw [he] at hll
        have HE := Lib.hid he
        clear he hxr
        go_wp2_with (first
          | (go_at_call 37; refine (signed_cmd _ _).mono ?_; rintro e w2 ⟨rfl, rfl⟩)
          | (go_at_call 39; refine (wuint_any w.heap.size (w.heap.size + 1) ds m _ HWR.out (by omega) (by omega)).mono ?_; rintro e w3 ⟨rfl, hw3, b3, -⟩
             have HW3 := Lib.hid hw3
             have K3 := Lib.hid (show Kept w w3 from ⟨KK.out.1.trans b3, hw3.hs⟩)
             clear hw3 b3)
          | fail)
        exact ⟨⟨k + 1, ds ++ put m, by go_num, by omega, HW3.out, by rw [List.append_assoc, ← HE.out]; exact HDS.out, K3.out⟩, by simp [intOf]; omega⟩
    · have hk' : k = 9 := by omega
      subst hk'
      rw [List.drop_eq_nil_of_le (by omega), encN, List.append_nil] at hds
      subst hds
      have KK := Lib.hid kk
      clear kk
      go_wp2_with (first
        | (go_at_call 40; refine (told_any _ _ _ _ hwr (by omega)).mono ?_; rintro e w3 ⟨v, rfl, own, b3⟩)
        | fail)
      go_ret
      exact ⟨_, rfl, own_base own KK.out.2, (KK.out.call b3).1⟩
end Go.Proofs.YtegjlcmeaelbnaaDoor
