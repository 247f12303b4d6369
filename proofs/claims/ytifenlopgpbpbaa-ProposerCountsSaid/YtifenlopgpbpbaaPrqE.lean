/- Decided, of the program and of the document. -/
import Derived.Test.YtifenlopgpbpbaaPrqD
import Derived.Test.YtifenlopgpbpbaaBalR
namespace Go.Proofs.Ytifenlopgpbpbaa
open Go.RowKit

def atB (r s : Int) (v : Vt) : Bool := decide (v.r = r ∧ v.s = s)
theorem decided_def (l : List Vt) (r s n : Int) : decidedV l r s n = mostB n ((l.filter (atB r s)).map Vt.who) := rfl
theorem at_ways (r s : Int) (x : Vt) : (x.r = r ∧ x.s = s ∧ atB r s x = true) ∨ ((¬ x.r = r ∨ (x.r = r ∧ ¬ x.s = s)) ∧ atB r s x = false) := by
  unfold atB
  by_cases h1 : x.r = r
  · by_cases h2 : x.s = s
    · exact .inl ⟨h1, h2, by simp [h1, h2]⟩
    · exact .inr ⟨.inr ⟨h1, h2⟩, by simp [h2]⟩
  · exact .inr ⟨.inl h1, by simp [h1]⟩

set_option maxRecDepth 100000 in
set_option maxHeartbeats 4000000 in
theorem decided_any {w : World} {A : Option Addr} {N cap : Nat} {l : List Vt} {n : Int} (r s : Int) (hl : l.length = N) (hR : EV.Reads w A l) (hW : ∀ x ∈ l, -9223372036854775808 ≤ x.who ∧ x.who ≤ 9223372036854775807)
    (hN : N ≤ 1099511627775) (hn : n ≤ 9223372036854775807) :
    Calls Try.prog 16 #[.slice A N cap, .agg #[.int .i64 r, .int .i64 s], .int .i64 n] w fun e w' => e = .returned (.bool (decidedV l r s n)) ∧ Kept w w' := by
  rw [decided_def]
  obtain ⟨mo, hmo⟩ : ∃ mo, mostB n ((l.filter (atB r s)).map Vt.who) = mo := ⟨_, rfl⟩
  rw [hmo]
  have HMM := Lib.hid hmo
  clear hmo
  have HL := Lib.hid hl
  have HR := Lib.hid (hR.kept ((Kept.refl w).alloc (.cells #[.int .i64 r, .int .i64 s] 33)))
  have HW := Lib.hid hW
  have HN := Lib.hid hn
  have HT : Hid (l.take l.length = l) := Lib.hid (by rw [List.take_length])
  have KV := Lib.hid ((Kept.refl w).alloc (.cells #[.int .i64 r, .int .i64 s] 33))
  have PV : Hid (Bx (w.alloc (.cells #[.int .i64 r, .int .i64 s] 33)) w.heap.size r s) := Lib.hid (push_new w _)
  clear hl hR hW hn
  go_enter Try.func16, Try.ntmps16
  go_wp2_with fail
  generalize w.alloc (.cells #[.int .i64 r, .int .i64 s] 33) = v at *
  generalize w.heap.size = g at *
  go_loopw [7, 12] (fun f i wr => ∃ k : Nat, k ≤ N ∧ i = .int .i64 k ∧ Kept v wr ∧ OwnZ wr v.heap.size f (((l.take k).filter (atB r s)).map Vt.who)) (fun _ i _ => N - (intOf i).toNat)
  case atStart => exact ⟨0, Nat.zero_le _, rfl, Kept.refl _, OwnZ.nil _ _⟩
  case round =>
    obtain ⟨k, hk, rfl, kk, ownf⟩ := hrel
    have KK := Lib.hid kk
    have HF := Lib.hid ownf
    by_cases hlt : k < N
    · have hkl : k < l.length := by rw [HL.out]; exact hlt
      obtain ⟨b, off, rfl, hb, c0, c1, c2⟩ := EV_three (HR.out.kept kk) hkl
      have HSF : Hid (((l.take (k + 1)).filter (atB r s)).map Vt.who = ((l.take k).filter (atB r s)).map Vt.who ++ if atB r s l[k] = true then [l[k].who] else []) := Lib.hid (by
        rw [List.take_succ_eq_append_getElem hkl, List.filter_append, List.filter_cons, List.filter_nil, List.map_append]
        split <;> rfl)
      have HL1 : Hid ((((l.take k).filter (atB r s)).map Vt.who).length ≤ 1099511627775) := Lib.hid (by have := List.length_filter_le (atB r s) (l.take k); rw [List.length_take] at this; rw [List.length_map]; omega)
      have HWA := Lib.hid (at_ways r s l[k])
      generalize l[k] = x at *
      obtain ⟨who, xr, xs⟩ := x
      simp only at c0 c1 c2 HWA
      generalize ((l.take k).filter (atB r s)).map Vt.who = L at *
      have KA := Lib.hid (KK.out.alloc (.cells #[.int .i64 who, .int .i64 xr, .int .i64 xs] 60))
      have OA := Lib.hid (HF.out.below ((Kept.refl wr).alloc (.cells #[.int .i64 who, .int .i64 xr, .int .i64 xs] 60)).1)
      have hbx := PV.out.kept KA.out
      have b0 := hbx.c0
      have b1 := hbx.c1
      have hgl : g < wr.heap.size := Nat.lt_of_lt_of_le (heap_lt PV.out) KK.out.2
      clear hbx kk ownf hb
      rcases HWA.out with ⟨rfl, rfl, ho⟩ | ⟨h1 | ⟨rfl, h1⟩, ho⟩
      all_goals
        rw [ho] at HSF
        clear ho HWA
      case inl =>
        rw [if_pos rfl] at HSF
        go_wp2_with (first
          | (at_builtin
             refine wpList_append_ints rfl (.tmp 20) (.tmp 23) rfl (v := u7) (base := v.heap.size) (ds := L) (xs := [who]) (off := 0) (n := 1) (c := 1) rfl rfl (World.ownsRow.alloc OA.out _) rfl (fun i hi => ?_) (by have := HL1.out; omega) (KA.out.alloc _).2 ?_
             · obtain rfl : i = 0 := by simpa using hi
               exact cell_of_heap (push_two_new wr _ _) 0
             intro y4 v4 own4 gr4 at4
             have k4 := Lib.hid (Kept.grow (KA.out.alloc _) (World.ownsRow.alloc OA.out _) (Nat.le_refl _) gr4)
             have own4 := Lib.hid own4
             clear gr4 at4)
          | fail)
        go_roundw
        case rel => exact ⟨k + 1, by omega, by go_num, k4.out, by rw [HSF.out]; exact own4.out⟩
        case measure => simp [intOf]; omega
      all_goals
        rw [if_neg (by decide), List.append_nil] at HSF
        go_wp2
        go_roundw
        case rel => exact ⟨k + 1, by omega, by go_num, KA.out, by rw [HSF.out]; exact OA.out⟩
        case measure => simp [intOf]; omega
    · obtain rfl : k = N := by omega
      have e : l.take k = l := by rw [← HL.out, HT.out]
      rw [e] at HF
      obtain ⟨Af, cf, rfl, -, -, -, -⟩ := HF.out.slice
      have HI : Hid (IntsAt wr Af ((l.filter (atB r s)).map Vt.who)) := Lib.hid (ownz_ints HF.out (fun i hi => by
        obtain ⟨x, hx, rfl⟩ := List.mem_map.1 hi
        exact HW.out x (List.mem_filter.1 hx).1))
      have hlm : (((l.filter (atB r s)).map Vt.who).length : Nat) ≤ 1099511627776 := by have := List.length_filter_le (atB r s) l; have := HL.out; rw [List.length_map]; omega
      have HMO := Lib.hid (most_any (n := n) (cap := cf) rfl HI.out hlm HN.out)
      rw [HMM.out] at HMO
      clear ownf kk HI e hlm HMM
      generalize (l.filter (atB r s)).map Vt.who = L at *
      clear HF
      generalize L.length = M at *
      go_wp2_with fail
      refine HMO.out.mono ?_
      rintro e u1 ⟨rfl, b1⟩
      have K1 := Lib.hid (KV.out.trans (KK.out.call b1))
      clear b1
      go_wp2
      go_ret
      exact ⟨rfl, K1.out⟩

set_option maxRecDepth 100000 in
set_option maxHeartbeats 4000000 in
theorem refdecided_any {w : World} {A : Option Addr} {N cap : Nat} {l : List Vt} {n : Int} (r s : Int) (hl : l.length = N) (hR : EVr.Reads w A l) (hW : ∀ x ∈ l, -9223372036854775808 ≤ x.who ∧ x.who ≤ 9223372036854775807)
    (hN : N ≤ 1099511627775) (hn : n ≤ 9223372036854775807) :
    Calls Try.prog 17 #[.slice A N cap, .agg #[.int .i64 r, .int .i64 s], .int .i64 n] w fun e w' => e = .returned (.bool (decidedV l r s n)) ∧ Kept w w' := by
  rw [decided_def]
  obtain ⟨mo, hmo⟩ : ∃ mo, mostB n ((l.filter (atB r s)).map Vt.who) = mo := ⟨_, rfl⟩
  rw [hmo]
  have HMM := Lib.hid hmo
  clear hmo
  have HL := Lib.hid hl
  have HR := Lib.hid (show EV.Reads (w.alloc (.cells #[.int .i64 r, .int .i64 s] 33)) A l from (hR.kept ((Kept.refl w).alloc (.cells #[.int .i64 r, .int .i64 s] 33))).as (fun _ => rfl) rfl)
  have HW := Lib.hid hW
  have HN := Lib.hid hn
  have HT : Hid (l.take l.length = l) := Lib.hid (by rw [List.take_length])
  have KV := Lib.hid ((Kept.refl w).alloc (.cells #[.int .i64 r, .int .i64 s] 33))
  have PV : Hid (Bx (w.alloc (.cells #[.int .i64 r, .int .i64 s] 33)) w.heap.size r s) := Lib.hid (push_new w _)
  clear hl hR hW hn
  go_enter Try.func17, Try.ntmps17
  go_wp2_with fail
  generalize w.alloc (.cells #[.int .i64 r, .int .i64 s] 33) = v at *
  generalize w.heap.size = g at *
  go_loopw [7, 8] (fun f i wr => ∃ k : Nat, k ≤ N ∧ i = .int .i64 k ∧ Kept v wr ∧ OwnZ wr v.heap.size f (((l.take k).filter (atB r s)).map Vt.who)) (fun _ i _ => N - (intOf i).toNat)
  case atStart => exact ⟨0, Nat.zero_le _, rfl, Kept.refl _, OwnZ.nil _ _⟩
  case round =>
    obtain ⟨k, hk, rfl, kk, ownf⟩ := hrel
    have KK := Lib.hid kk
    have HF := Lib.hid ownf
    by_cases hlt : k < N
    · have hkl : k < l.length := by rw [HL.out]; exact hlt
      obtain ⟨b, off, rfl, hb, c0, c1, c2⟩ := EV_three (HR.out.kept kk) hkl
      have HSF : Hid (((l.take (k + 1)).filter (atB r s)).map Vt.who = ((l.take k).filter (atB r s)).map Vt.who ++ if atB r s l[k] = true then [l[k].who] else []) := Lib.hid (by
        rw [List.take_succ_eq_append_getElem hkl, List.filter_append, List.filter_cons, List.filter_nil, List.map_append]
        split <;> rfl)
      have HL1 : Hid ((((l.take k).filter (atB r s)).map Vt.who).length ≤ 1099511627775) := Lib.hid (by have := List.length_filter_le (atB r s) (l.take k); rw [List.length_take] at this; rw [List.length_map]; omega)
      have HWA := Lib.hid (at_ways r s l[k])
      generalize l[k] = x at *
      obtain ⟨who, xr, xs⟩ := x
      simp only at c0 c1 c2 HWA
      generalize ((l.take k).filter (atB r s)).map Vt.who = L at *
      have hbx := PV.out.kept kk
      have b0 := hbx.c0
      have b1 := hbx.c1
      clear hbx kk ownf hb
      rcases HWA.out with ⟨rfl, rfl, ho⟩ | ⟨h1 | ⟨rfl, h1⟩, ho⟩
      all_goals
        rw [ho] at HSF
        clear ho HWA
      case inl =>
        rw [if_pos rfl] at HSF
        go_wp2_with fail
        go_region
        go_wp2_with (first
          | (at_builtin
             refine wpList_append_ints rfl (.tmp 22) (.tmp 28) rfl (v := u7) (base := v.heap.size) (ds := L) (xs := [who]) (off := 0) (n := 1) (c := 1) rfl rfl (World.ownsRow.alloc (HF.out.below (Kept.refl wr).drew.1) _) rfl (fun i hi => ?_) (by have := HL1.out; omega) (KK.out.drew.alloc _).2 ?_
             · obtain rfl : i = 0 := by simpa using hi
               exact cell_of_heap (push_new wr.drew _) 0
             intro y4 v4 own4 gr4 at4
             have k4 := Lib.hid (Kept.grow (KK.out.drew.alloc _) (World.ownsRow.alloc (HF.out.below (Kept.refl wr).drew.1) _) (Nat.le_refl _) gr4)
             have own4 := Lib.hid own4
             clear gr4 at4)
          | fail)
        go_roundw
        case rel => exact ⟨k + 1, by omega, by go_num, k4.out, by rw [HSF.out]; exact own4.out⟩
        case measure => simp [intOf]; omega
      all_goals
        rw [if_neg (by decide), List.append_nil] at HSF
        go_wp2_with fail
        go_region
        go_wp2
        go_roundw
        case rel => exact ⟨k + 1, by omega, by go_num, KK.out.drew, by rw [HSF.out]; exact HF.out.below (Kept.refl wr).drew.1⟩
        case measure => simp [intOf]; omega
    · obtain rfl : k = N := by omega
      have e : l.take k = l := by rw [← HL.out, HT.out]
      rw [e] at HF
      obtain ⟨Af, cf, rfl, -, -, -, -⟩ := HF.out.slice
      have HI : Hid (IntsAt wr Af ((l.filter (atB r s)).map Vt.who)) := Lib.hid (ownz_ints HF.out (fun i hi => by
        obtain ⟨x, hx, rfl⟩ := List.mem_map.1 hi
        exact HW.out x (List.mem_filter.1 hx).1))
      have hlm : (((l.filter (atB r s)).map Vt.who).length : Nat) ≤ 1099511627776 := by have := List.length_filter_le (atB r s) l; have := HL.out; rw [List.length_map]; omega
      have HMO := Lib.hid (refmost_any (n := n) (cap := cf) rfl HI.out hlm HN.out)
      rw [HMM.out] at HMO
      clear ownf kk HI e hlm HMM
      generalize (l.filter (atB r s)).map Vt.who = L at *
      clear HF
      generalize L.length = M at *
      go_wp2_with fail
      refine HMO.out.mono ?_
      rintro e u1 ⟨rfl, b1⟩
      have K1 := Lib.hid (KV.out.trans (KK.out.call b1))
      clear b1
      go_wp2
      go_ret
      exact ⟨rfl, K1.out⟩
end Go.Proofs.Ytifenlopgpbpbaa
