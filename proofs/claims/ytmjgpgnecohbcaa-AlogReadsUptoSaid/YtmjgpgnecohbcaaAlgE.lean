/- The program's records: Encode, framed. -/
import Derived.Test.YtmjgpgnecohbcaaAlgP
import Derived.Test.YtmjgpgnecohbcaaMgJ
import Derived.Test.YtmjgpgnecohbcaaFrmR
namespace Go.Proofs.Ytmjgpgnecohbcaa
open Go.RowKit

theorem puts_len : ∀ {l : List Nat}, (∀ x ∈ l, x ≤ 1099511627776) → (puts l).length ≤ 10 * l.length
  | [], _ => by simp [puts]
  | x :: l, h => by
    have h1 := put_ten (n := x) (by have := h x (by simp); omega)
    have h2 := puts_len (l := l) (fun y hy => h y (by simp [hy]))
    rw [puts_cons, List.length_append, List.length_cons]
    omega
theorem puts_snoc {l : List Nat} {k : Nat} (h : k < l.length) : puts (l.take (k + 1)) = puts (l.take k) ++ put l[k] := by
  rw [List.take_succ_eq_append_getElem h, puts_append]
  simp [puts]

set_option maxRecDepth 100000 in
set_option maxHeartbeats 1000000 in
theorem alay_any (base g b : Nat) (bs ns : List Nat) (cap : Nat) (W : World) (hw : Wr W base g bs) (hns : ∀ x ∈ ns, x ≤ 1099511627776) (hb : ∀ (j x : Nat), ns[j]? = some x → W.cell? ⟨b, j, none⟩ = some (.int .i64 (x : Nat))) (hbg : b ≠ g) (hbr : rowOf W g ≠ some b)
    (hl : bs.length ≤ 1048576) (hn : ns.length ≤ 1000) :
    Calls Try.prog 51 #[.pointer (some ⟨g, 0, none⟩), .slice (some ⟨b, 0, none⟩) ns.length cap] W fun e W' => e = .returned (.tuple #[]) ∧ Wr W' base g (bs ++ puts ns) ∧ Below base W W' ∧ OffW g W W' := by
  have hbound : ∀ k, k ≤ ns.length → (puts (ns.take k)).length ≤ 10000 := fun k hk => by
    have h1 := puts_len (l := ns.take k) (fun x hx => hns x (List.mem_of_mem_take hx))
    rw [List.length_take] at h1
    omega
  have HN := Lib.hid hns
  have HB := Lib.hid hb
  have HBD := Lib.hid hbound
  clear hns hb hbound
  generalize hlen : ns.length = n at *
  have HL := Lib.hid hlen
  clear hlen
  go_enter Try.func51, Try.ntmps51
  go_wp2
  go_loopw [8] (fun i wr => ∃ k : Nat, k ≤ n ∧ i = .int .i64 k ∧ Wr wr base g (bs ++ puts (ns.take k)) ∧ Below base W wr ∧ OffW g W wr) (fun i _ => n - (intOf i).toNat)
  case atStart => exact ⟨0, Nat.zero_le _, rfl, by simpa [puts] using hw, Below.refl _ _, OffW.refl _ _⟩
  case round =>
    obtain ⟨k, hk, rfl, hwr, hbel, hof⟩ := hrel
    clear hw
    by_cases hlt : k < n
    · have hkl : k < ns.length := by rw [HL.out]; exact hlt
      have hc := HB.out k _ (List.getElem?_eq_getElem hkl)
      have hbw := cell_lt hc
      have hc := (World.cell?_of_block (a := ⟨b, k, none⟩) (hof.rest b hbw hbg hbr)).trans hc
      have hx := HN.out ns[k] (List.getElem_mem hkl)
      have HS := Lib.hid (puts_snoc hkl)
      have hln := HBD.out k (by omega)
      generalize ns[k] = x at *
      have hw64 : IntKind.u64.wrap (x : Int) = x := by rw [IntKind.wrap_u64]; omega
      have hp := put_ten (n := x) (by omega)
      have HW := Lib.hid hwr
      have HBEL := Lib.hid hbel
      have HOF := Lib.hid hof
      clear hwr hbel hof
      go_wp2_with fail
      refine (wuint_any base g _ x wr HW.out (by omega) (by rw [List.length_append]; omega)).mono ?_
      rintro e w1 ⟨rfl, hw1, hb1, ho1⟩
      go_wp2
      go_roundw
      case rel => exact ⟨k + 1, by omega, by go_num, by rw [HS.out, ← List.append_assoc]; exact hw1, HBEL.out.trans hb1, HOF.out.trans ho1⟩
      case measure => simp [intOf]; omega
    · have hkn : k = n := by omega
      subst hkn
      have e : ns.take k = ns := List.take_of_length_le (by rw [HL.out]; exact Nat.le_refl _)
      rw [e] at hwr
      clear e
      go_wp2
      go_end0
      exact ⟨rfl, hwr, hbel, hof⟩

theorem Rc.enc_eq (r : Rc) : r.enc = puts r.nums ++ (put r.val.length ++ r.val) := rfl
set_option maxRecDepth 100000 in
set_option maxHeartbeats 2000000 in
theorem encode_ok {w : World} {r : Rc} {A : Option Addr} {n c : Nat} (hr : r.may) (hv : Row w A n c r.val) :
    Calls Try.prog 37 #[rcv r A n c] w fun e w' => ∃ v, e = .returned (.tuple #[v, .int .i64 0]) ∧ Own w' w.heap.size v r.enc ∧ Below w.heap.size w w' := by
  have hb := r.mayB_yes hr
  have HM := Lib.hid (amay_any r A n c hv.len)
  rw [hb] at HM
  have HE := Lib.hid r.enc_eq
  have hel := enc_len hr
  have hnm := nums_may hr
  have hnl := puts_len hnm
  have h8 := hr.2.2.2.2.2.2.2.1
  have hk0 : 0 ≤ r.kind := by have := hr.1; omega
  have hs0 := hr.2.1
  have hr0 := hr.2.2.2.1
  have ht0 := hr.2.2.2.2.2.1
  have HV := Lib.hid hv
  have hvl := hv.len
  have hnil := hv.nil
  clear hb hv hr
  obtain ⟨kind, slot, round, site, val⟩ := r
  simp only [rcv, Rc.nums] at *
  obtain ⟨k, rfl⟩ := Int.eq_ofNat_of_zero_le hk0
  obtain ⟨s, rfl⟩ := Int.eq_ofNat_of_zero_le hs0
  obtain ⟨q, rfl⟩ := Int.eq_ofNat_of_zero_le hr0
  obtain ⟨t, rfl⟩ := Int.eq_ofNat_of_zero_le ht0
  simp only [Int.toNat_natCast] at *
  clear hk0 hs0 hr0 ht0
  have HNM := Lib.hid hnm
  have hpl : (puts [k, s, q, t]).length ≤ 40 := hnl
  generalize hP : puts [k, s, q, t] = P at *
  have HP := Lib.hid hP
  generalize Rc.enc { kind := (k : Int), slot := (s : Int), round := (q : Int), site := (t : Int), val := val } = E at *
  clear hnm hnl hP
  go_enter Try.func37, Try.ntmps37
  go_wp2_with fail
  refine (HM.out _).mono ?_
  rintro e w1 ⟨rfl, h1⟩
  have hs1 : w.heap.size < w1.heap.size := by have := h1.size; simp only [World.size_alloc] at this; omega
  have c0 := h1.cell (p := ⟨w.heap.size, 0, none⟩) (by simp)
  have c1 := h1.cell (p := ⟨w.heap.size, 1, none⟩) (by simp)
  have c2 := h1.cell (p := ⟨w.heap.size, 2, none⟩) (by simp)
  have c3 := h1.cell (p := ⟨w.heap.size, 3, none⟩) (by simp)
  have c4 := h1.cell (p := ⟨w.heap.size, 4, none⟩) (by simp)
  simp at c0 c1 c2 c3 c4
  have k1 : Kept w w1 := ((Kept.refl w).alloc _).call h1
  have HV1 := Lib.hid (HV.out.below k1.1)
  clear h1
  have hW : Wr ((w1.alloc (.cells #[.slice none 0 0] 91)).alloc (.cells #[.int .i64 k, .int .i64 s, .int .i64 q, .int .i64 t] 3)) w.heap.size w1.heap.size [] :=
    (Wr.new w1 w.heap.size k1.2).below ((Below.refl _ _).alloc (Nat.le_refl _) _)
  have hcs : ∀ (j x : Nat), [k, s, q, t][j]? = some x → ((w1.alloc (.cells #[.slice none 0 0] 91)).alloc (.cells #[.int .i64 k, .int .i64 s, .int .i64 q, .int .i64 t] 3)).cell? ⟨w1.heap.size + 1, j, none⟩ = some (.int .i64 (x : Nat)) := by
    intro j x hj
    rw [World.cell?_alloc_at _ _ _ _ (by simp)]
    match j, hj with
    | 0, hj => simp at hj; subst hj; rfl
    | 1, hj => simp at hj; subst hj; rfl
    | 2, hj => simp at hj; subst hj; rfl
    | 3, hj => simp at hj; subst hj; rfl
    | j + 4, hj => simp at hj
  have hrow : rowOf ((w1.alloc (.cells #[.slice none 0 0] 91)).alloc (.cells #[.int .i64 k, .int .i64 s, .int .i64 q, .int .i64 t] 3)) w1.heap.size = none :=
    rowOf_is (v := .slice none 0 0) (t := 91) (m := (0, 0)) (push_two_old _ _ _)
  have c4' : ((w1.alloc (.cells #[.slice none 0 0] 91)).alloc (.cells #[.int .i64 k, .int .i64 s, .int .i64 q, .int .i64 t] 3)).cell? ⟨w.heap.size, 4, none⟩ = some (.slice A n c) := by
    rw [World.cell?_alloc_past _ _ _ (by simp; omega), World.cell?_alloc_past _ _ _ (by omega)]; exact c4
  have HL := Lib.hid (alay_any w.heap.size w1.heap.size (w1.heap.size + 1) [] [k, s, q, t] 4 _ hW HNM.out hcs (by omega) (by rw [hrow]; simp) (by simp) (by simp))
  have k2 : Kept w ((w1.alloc (.cells #[.slice none 0 0] 91)).alloc (.cells #[.int .i64 k, .int .i64 s, .int .i64 q, .int .i64 t] 3)) := (k1.alloc _).alloc _
  have HROW := Lib.hid hrow
  have HC4 := Lib.hid c4'
  clear hW hcs hrow c4'
  go_wp2_with fail
  refine HL.out.mono ?_
  rintro e w3 ⟨rfl, hw3, hb3, ho3⟩
  have k3 : Kept w w3 := ⟨k2.1.trans hb3, Nat.le_trans k2.2 ho3.size⟩
  have c4 := (World.cell?_of_block (a := ⟨w.heap.size, 4, none⟩) (ho3.rest w.heap.size (by simp; omega) (by omega) (by rw [HROW.out]; simp))).trans HC4.out
  have hfar : ∀ a, A = some a → 0 < n → a.block ≠ w1.heap.size ∧ rowOf w3 w1.heap.size ≠ some a.block := by
    intro a ha hp
    obtain ⟨b', off', e', hlt', _⟩ := HV.out.bts.2.2.2 hp
    rw [ha] at e'
    injection e' with e'
    subst e'
    exact ⟨by simp only; omega, fun h => by have := (hw3.row_lt _ h).1; simp only at this; omega⟩
  rw [List.nil_append, HP.out] at hw3
  have HW3 := Lib.hid hw3
  have HR3 := Lib.hid (HV.out.below k3.1)
  clear hb3 ho3 HL HC4 HROW k2 hw3 c0 c1 c2 c3
  go_wp2_with fail
  refine (wbytes_any w.heap.size w1.heap.size P val A n c w3 HW3.out HR3.out.bts hfar hnil (by omega)).mono ?_
  rintro e w4 ⟨rfl, hw4, hb4, ho4⟩
  have k4 : Kept w w4 := ⟨k3.1.trans hb4, Nat.le_trans k3.2 ho4.size⟩
  rw [← hvl, ← HE.out] at hw4
  have HW4 := Lib.hid hw4
  clear hw4 hfar hb4 ho4
  go_wp2_with fail
  refine (told_any w.heap.size w1.heap.size E w4 HW4.out (by omega)).mono ?_
  rintro e w5 ⟨v, rfl, own, hb5⟩
  go_wp2
  go_ret2
  exact ⟨v, rfl, own_base own k4.2, (k4.call hb5).1⟩
set_option maxRecDepth 100000 in
theorem encode_bad {w : World} {r : Rc} {A : Option Addr} {n c : Nat} (hr : ¬ r.may) (hv : r.val.length = n) :
    Calls Try.prog 37 #[rcv r A n c] w fun e w' => e = .returned (.tuple #[.slice none 0 0, .int .i64 1]) ∧ Below w.heap.size w w' := by
  have hb := r.mayB_no hr
  have HM := Lib.hid (amay_any r A n c hv)
  rw [hb] at HM
  clear hb hr hv
  simp only [rcv] at *
  go_enter Try.func37, Try.ntmps37
  go_wp2_with fail
  refine (HM.out _).mono ?_
  rintro e w1 ⟨rfl, h1⟩
  go_wp2
  go_ret2
  exact ⟨rfl, ((Below.refl _ _).alloc (Nat.le_refl _) _).trans (h1.mono (by simp))⟩

set_option maxRecDepth 100000 in
set_option maxHeartbeats 1000000 in
theorem framed_ok {w : World} {r : Rc} {A : Option Addr} {n c : Nat} (hr : r.may) (hv : Row w A n c r.val) :
    Calls Try.prog 39 #[rcv r A n c] w fun e w' => ∃ v, e = .returned (.tuple #[v, .int .i64 0]) ∧ Own w' w.heap.size v (frm r.enc) ∧ Below w.heap.size w w' := by
  have hel := enc_len hr
  have hby := enc_byte (r := r) hv.bts.2.2.1
  have HE := Lib.hid (encode_ok (w := w.alloc (.cells #[.int .i64 r.kind, .int .i64 r.slot, .int .i64 r.round, .int .i64 r.site, .slice A n c] 52)) hr (hv.below ((Below.refl _ _).alloc (Nat.le_refl _) _)))
  clear hv hr
  generalize r.enc = E at *
  simp only [rcv] at *
  go_enter Try.func39, Try.ntmps39
  go_wp2_with fail
  refine HE.out.mono ?_
  rintro e w1 ⟨v, rfl, own, h1⟩
  have k1 : Kept w w1 := ((Kept.refl w).alloc _).call h1
  obtain ⟨A1, c1, rfl, r1⟩ := own.row (by omega) hby
  clear own h1 HE
  go_wp2_with fail
  refine (put_any (w := w1) r1.bts r1.nil (by omega)).mono ?_
  rintro e w2 ⟨v, rfl, own, h2⟩
  go_wp2
  go_ret2
  exact ⟨v, rfl, own_base own k1.2, (k1.call h2).1⟩
set_option maxRecDepth 100000 in
theorem framed_bad {w : World} {r : Rc} {A : Option Addr} {n c : Nat} (hr : ¬ r.may) (hv : r.val.length = n) :
    Calls Try.prog 39 #[rcv r A n c] w fun e w' => e = .returned (.tuple #[.slice none 0 0, .int .i64 1]) ∧ Below w.heap.size w w' := by
  have HE := Lib.hid fun w => encode_bad (w := w) (A := A) (c := c) hr hv
  clear hv hr
  simp only [rcv] at *
  go_enter Try.func39, Try.ntmps39
  go_wp2_with fail
  refine (HE.out _).mono ?_
  rintro e w1 ⟨rfl, h1⟩
  have k1 : Kept w w1 := ((Kept.refl w).alloc _).call h1
  go_wp2
  go_ret2
  exact ⟨rfl, k1.1⟩
end Go.Proofs.Ytmjgpgnecohbcaa
