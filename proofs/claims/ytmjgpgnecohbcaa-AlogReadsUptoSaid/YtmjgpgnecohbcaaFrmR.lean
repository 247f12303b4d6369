/- The program's frame: Put. -/
import Derived.Test.YtmjgpgnecohbcaaFrmQ
namespace Go.Proofs.Ytmjgpgnecohbcaa
open Go.RowKit CrcM CrcW

theorem Own.base {w : World} {a b : Nat} {v : Value} {bs : List Nat} (h : Own w b v bs) (hab : a ≤ b) : Own w a v bs := by
  obtain ⟨h1, h2 | ⟨g, cap, cur, e, hg, h3⟩⟩ := h
  · exact ⟨h1, .inl h2⟩
  · exact ⟨h1, .inr ⟨g, cap, cur, e, Nat.le_trans hab hg, h3⟩⟩
theorem four_is (n : Nat) : ∃ a b c d, four n = [a, b, c, d] := ⟨_, _, _, _, rfl⟩
theorem quad_is {n a b c d : Nat} (h : four n = [a, b, c, d]) : quad (four n) = .agg #[.int .u8 (a : Int), .int .u8 (b : Int), .int .u8 (c : Int), .int .u8 (d : Int)] := by rw [h]; rfl

set_option maxHeartbeats 2000000 in
theorem put_many {w : World} {A : Option Addr} {n cap : Nat} (hn : 4096 < n) :
    Calls Try.prog 54 #[.slice A n cap] w fun e w' => e = .returned (.tuple #[.slice none 0 0, .int .i64 5]) ∧ w' = w := by
  go_enter Try.func54, Try.ntmps54
  go_wp2
  go_ret2
  exact ⟨rfl, rfl⟩

theorem concat_frame {w u : World} {g : Nat} {A : Option Addr} {n cap : Nat} {bs F1 F2 : List Nat} {q1 q2 : Array Value} (k : Kept w u) (hg : g < u.heap.size) (hq : u.heap[g]? = some (.cells q1 120 (0, 0)))
    (h1 : ∀ (u : World) (g : Nat), u.heap[g]? = some (.cells q1 120 (0, 0)) → Bts u u.heap.size (some ⟨g, 0, none⟩) 4 F1) (h2 : ∀ (u : World) (g : Nat), u.heap[g]? = some (.cells q2 120 (0, 0)) → Bts u u.heap.size (some ⟨g, 0, none⟩) 4 F2)
    (hb : Bts w w.heap.size A n bs) (hnil : A = none → cap = 0) (hn : n ≤ 4096) :
    Calls Try.prog 75 #[.slice (some ⟨u.heap.size + 1, 0, none⟩) 3 3] ((u.alloc (.cells q2 120)).alloc (.cells #[.slice (some ⟨g, 0, none⟩) 4 4, .slice (some ⟨u.heap.size, 0, none⟩) 4 4, .slice A n cap] 37)).drew
      fun e w' => ∃ v, e = .returned v ∧ Own w' w.heap.size v (F1 ++ F2 ++ bs) ∧ Kept w w' := by
  have kk : Kept w ((u.alloc (.cells q2 120)).alloc (.cells #[.slice (some ⟨g, 0, none⟩) 4 4, .slice (some ⟨u.heap.size, 0, none⟩) 4 4, .slice A n cap] 37)).drew := ((k.alloc _).alloc _).drew
  have e1 : ((u.alloc (.cells q2 120)).alloc (.cells #[.slice (some ⟨g, 0, none⟩) 4 4, .slice (some ⟨u.heap.size, 0, none⟩) 4 4, .slice A n cap] 37)).drew.heap[g]? = some (.cells q1 120 (0, 0)) :=
    ((push_old (u.alloc (.cells q2 120)) _ (by simp; omega)).trans (push_old u _ hg)).trans hq
  refine (concat_three (h1 _ _ e1) (h2 _ _ (push_two_old u _ _)) ((hb.below kk.1).more kk.2) hnil (by simp) (by simp) (by omega) (by omega) (push_two_new u _ _)).mono ?_
  rintro e w' ⟨v, rfl, own, hb'⟩
  exact ⟨v, rfl, own.base kk.2, kk.call hb'⟩

set_option maxHeartbeats 2000000 in
theorem put_any {w : World} {A : Option Addr} {n cap : Nat} {bs : List Nat} (hb : Bts w w.heap.size A n bs) (hnil : A = none → cap = 0) (hn : n ≤ 4096) :
    Calls Try.prog 54 #[.slice A n cap] w fun e w' => ∃ v, e = .returned (.tuple #[v, .int .i64 0]) ∧ Own w' w.heap.size v (frm bs) ∧ Below w.heap.size w w' := by
  have hl := hb.1
  have HF : Hid (frm bs = four n ++ four (CrcM.more (CrcM.sum (four n)) bs) ++ bs) := Lib.hid (by unfold frm fsum; rw [hl, List.append_assoc])
  have HB := Lib.hid hb
  have hfb := four_byte n
  have hR := more_lt bs (sum_lt (four n) hfb) hb.2.2.1
  have hsm := fun (u : World) (h : Kept w u) => summed_any (four n) rfl hfb A n cap bs u ((hb.below h.1).more h.2)
  have hrb := four_byte (CrcM.more (CrcM.sum (four n)) bs)
  have hlaid := fun u => laid_any n (by omega) u
  obtain ⟨a, b, c, d, hab⟩ := four_is n
  obtain ⟨f0, f1, f2, f3, hff⟩ := four_is (CrcM.more (CrcM.sum (four n)) bs)
  rw [quad_is hab] at hsm hlaid
  rw [quad_is hff] at hsm
  have HC : Hid (∀ (u : World) (g : Nat), u.heap[g]? = some (.cells #[.int .u8 (a : Int), .int .u8 (b : Int), .int .u8 (c : Int), .int .u8 (d : Int)] 120 (0, 0)) → Bts u u.heap.size (some ⟨g, 0, none⟩) 4 (four n)) :=
    Lib.hid fun u g h => bts_block (bs := four n) (by rw [hab]; exact h) (by rw [four_len]; omega) hfb
  have HD : Hid (∀ (u : World) (g : Nat), u.heap[g]? = some (.cells #[.int .u8 (f0 : Int), .int .u8 (f1 : Int), .int .u8 (f2 : Int), .int .u8 (f3 : Int)] 120 (0, 0)) → Bts u u.heap.size (some ⟨g, 0, none⟩) 4 (four (CrcM.more (CrcM.sum (four n)) bs))) :=
    Lib.hid fun u g h => bts_block (bs := four _) (by rw [hff]; exact h) (by rw [four_len]; omega) hrb
  have HSM := Lib.hid hsm
  have HL := Lib.hid hlaid
  generalize four n = F1 at *
  generalize four (CrcM.more (CrcM.sum F1) bs) = F2 at *
  generalize frm bs = out at *
  clear hb hfb hR hsm hrb hlaid hab hff
  go_enter Try.func54, Try.ntmps54
  go_wp2_with fail
  refine (HL.out _).mono ?_
  rintro e u1 ⟨rfl, h1⟩
  have k1 := (Kept.refl w).call h1
  clear h1
  go_wp2_with fail
  have k2 := k1.alloc (.cells #[.int .u8 (a : Int), .int .u8 (b : Int), .int .u8 (c : Int), .int .u8 (d : Int)] 120)
  refine (HSM.out _ k2).mono ?_
  rintro e u2 ⟨rfl, h2⟩
  have k3 := k2.call h2
  have g1 := (h2.block u1.heap.size (by simp)).trans (push_new u1 _)
  have hgl := heap_lt g1
  have G1 := Lib.hid g1
  clear g1 h2
  generalize hG : u1.heap.size = g at *
  go_wp2_with fail
  go_region_with (first
    | (go_at_call 75
       refine (concat_frame k3 hgl G1.out HC.out HD.out HB.out hnil hn).mono ?_
       rintro e u3 ⟨v, rfl, own, K3⟩
       have HO := Lib.hid own
       clear own))
  obtain ⟨A3, n3, c3, rfl⟩ := HO.out.slice
  go_wp2
  go_ret2
  exact ⟨_, rfl, by rw [HF.out]; exact HO.out, K3.1⟩
end Go.Proofs.Ytmjgpgnecohbcaa
