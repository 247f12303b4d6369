/- The walk of ProposerChooses. -/
import Derived.Test.YtifenlopgpbpbaaPrqG
import Derived.Test.YtifenlopgpbpbaaPrqH
import Derived.Test.YtifenlopgpbpbaaPrqI
namespace Go.Proofs.Ytifenlopgpbpbaa
open Go.RowKit

/-- both tell the same -/
theorem cho_same {o : Option (List Nat)} {v : Value} {b b' : Bool} {bs : List Nat} {w : World} (h : ChoT o v b w) (k : RCho o b' bs) : b = b' ∧ ∃ A c, v = .slice A bs.length c ∧ Row w A bs.length c bs := by
  cases o with
  | none =>
    obtain ⟨rfl, rfl⟩ := h
    obtain ⟨rfl, rfl⟩ := k
    exact ⟨rfl, none, 0, rfl, Row.none⟩
  | some cs =>
    obtain ⟨rfl, A, c, rfl, hr⟩ := h
    obtain ⟨rfl, rfl⟩ := k
    exact ⟨rfl, A, c, rfl, hr.row⟩

set_option maxRecDepth 100000 in
set_option maxHeartbeats 4000000 in
theorem ProposerChooses_walk (a0 : Option Addr) (len0 cap0 : Nat) (a1 : Int) (w : World) (w0 : SliceAt 5 56 (fun w cs => cs.length = 5 ∧ IsStruct [(0, 1, (IsInt .i64)), (1, 1, IsBool), (2, 2, (fun w cs => cs.length = 2 ∧ IsStruct [(0, 1, (IsInt .i64)), (1, 1, (IsInt .i64))] w cs)), (4, 1, (IsSlice 1 1 (IsInt .u8)))] w cs) w a0 len0 cap0) (w1 : (Lit.int .i64 a1).wf = true) :
    Calls Try.prog 3 #[.slice a0 len0 cap0, .int .i64 a1] w fun e w' => e = .returned (.bool true) ∧ Below w.heap.size w w' := by
  obtain ⟨l, hl, hR, hV, hW⟩ := pms_of w0
  have hn := in64 w1
  by_cases hs : len0 ≤ 200
  · have hs' : ¬ (200 : Int) < (len0 : Int) := by omega
    have H1 : Hid (∀ W, Kept w W → Calls Try.prog 10 #[.slice a0 len0 cap0, .int .i64 a1] W fun e w' => ∃ v b, e = .returned (.tuple #[v, .bool b]) ∧ Kept W w' ∧ ChoT (chooseP (l.map It.r) a1) v b w') :=
      Lib.hid (fun W k => choose_any hl (hR.kept k) (fun x hx => (hV x hx).below k.1) hW (by omega) hn.2)
    have H2 : Hid (∀ W, Kept w W → Calls Try.prog 12 #[.slice a0 len0 cap0] W fun e w' => ∃ v, e = .returned v ∧ EPr.Own w' W.heap.size v l ∧ Kept W w') :=
      Lib.hid (fun W k => real_any hl (hR.kept k) (by omega))
    have H3 : Hid (∀ W A c, Kept w W → EPr.Reads W A l → Calls Try.prog 11 #[.slice A len0 c, .int .i64 a1] W fun e w' => ∃ v b bs B c, e = .returned (.tuple #[v, .bool b]) ∧ Kept W w' ∧ v = .slice B bs.length c ∧ Row w' B bs.length c bs ∧ RCho (chooseP (l.map It.r) a1) b bs) :=
      Lib.hid (fun W A c k hr => refchoose_any hl hr (fun x hx => (hV x hx).below k.1) hW (by omega) hn.2)
    have HL := Lib.hid hl
    clear w0 w1 hl hR hV hW hn
    go_enter Try.func3, Try.ntmps3
    go_wp2_with fail
    refine (prawake_any _).mono ?_
    rintro e u1 ⟨rfl, k1⟩
    have K1 := Lib.hid k1
    clear k1
    go_wp2_with fail
    refine (H1.out _ K1.out).mono ?_
    rintro e u2 ⟨v, b, rfl, k2, ht⟩
    have K2 := Lib.hid (K1.out.trans k2)
    have HT := Lib.hid ht
    clear k2 ht
    go_wp2_with fail
    refine (H2.out _ K2.out).mono ?_
    rintro e u3 ⟨v3, rfl, own, k3⟩
    have K3 := Lib.hid (K2.out.trans k3)
    have HT3 := Lib.hid (HT.out.kept k3)
    obtain ⟨A3, c3, rfl, -, -, -⟩ := own.slice
    have HR3 := Lib.hid own.reads
    rw [HL.out]
    clear k3 own
    go_wp2_with fail
    refine (H3.out _ _ _ K3.out HR3.out).mono ?_
    rintro e u4 ⟨v4, b4, bs, B4, c4, rfl, k4, rfl, hr4, hc4⟩
    have K4 := Lib.hid (K3.out.trans k4)
    obtain ⟨rfl, A5, c5, rfl, hr5⟩ := cho_same (HT3.out.kept k4) hc4
    have hs4 := hr4.str
    have hs5 := hr5.str
    generalize txt bs = tx at *
    clear k4 hr4 hr5 hc4 HT3 HT
    go_wp2
    go_ret
    exact ⟨by go_simp, K4.out.1⟩
  · have hs' : (200 : Int) < (len0 : Int) := by omega
    clear w0 w1 hl hR hV hW hn
    go_enter Try.func3, Try.ntmps3
    go_wp2_with fail
    refine (prawake_any _).mono ?_
    rintro e u1 ⟨rfl, k1⟩
    go_wp2
    go_ret
    exact ⟨rfl, k1.1⟩
end Go.Proofs.Ytifenlopgpbpbaa
