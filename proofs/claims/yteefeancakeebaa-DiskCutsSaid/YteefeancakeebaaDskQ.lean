/- The program's Disk: Sync, leave, Crash, Cut, Install; a Disk that is nil. -/
import Derived.Test.YteefeancakeebaaDskP
namespace Go.Proofs.Yteefeancakeebaa
open Go.RowKit

theorem sync_any {base g s : Nat} {bs : List Nat} {W : World} (hd : Dk W base g bs s) :
    Calls Try.prog 20 #[.pointer (some ⟨g, 0, none⟩)] W fun e W' => e = .returned (.tuple #[]) ∧ Did base g bs bs.length W W' := by
  obtain ⟨v, hv, own, hne⟩ := hd.cell
  obtain ⟨A0, c0, rfl, -⟩ := own.slice
  have q0 := cell_of_heap hv 0
  have q1 := cell_of_heap hv 1
  have f1 := frozen_of_heap hv 1
  simp only [List.getElem?_toArray, List.getElem?_cons_zero, List.getElem?_cons_succ] at q0 q1
  have HD := Lib.hid (hd.put1 bs.length)
  clear hv own hne hd
  generalize bs.length = L at *
  go_enter Try.func20, Try.ntmps20
  go_wp2
  go_end0
  exact ⟨rfl, HD.out⟩

theorem leave_any {base g s : Nat} {bs : List Nat} {W : World} (hd : Dk W base g bs s) (k : Nat) (hk : k ≤ bs.length) :
    Calls Try.prog 25 #[.pointer (some ⟨g, 0, none⟩), .int .i64 (k : Int)] W fun e W' => e = .returned (.tuple #[]) ∧ Did base g (bs.take k) (min s k) W W' := by
  obtain ⟨v, hv, own, hne⟩ := hd.cell
  obtain ⟨A0, c0, rfl, -, hl, -⟩ := own.slice
  have q0 := cell_of_heap hv 0
  have q1 := cell_of_heap hv 1
  have f0 := frozen_of_heap hv 0
  have f1 := frozen_of_heap hv 1
  simp only [List.getElem?_toArray, List.getElem?_cons_zero, List.getElem?_cons_succ] at q0 q1
  have hlk : (bs.take k).length = k := by simp; omega
  obtain ⟨-, d1, d2, d3⟩ := hd.put0 (v1 := .slice A0 k k) (cs := bs.take k) hv own hne (World.grownBy.refl W _) (own.leave hk) (fun j hj _ => by cases A0 <;> exact hj) (fun x hx => hd.byte x (List.mem_of_mem_take hx)) (by have := hd.most; omega)
  have hrun := run_leave A0 bs.length c0 k (k : Int) rfl (by omega)
  have H2 := Lib.hid (Did.then ⟨d1, d2, d3⟩ (d1.put1 (min s k)))
  clear hv own hne hd d1 d2 d3 hlk
  generalize bs.length = L at *
  rcases Nat.lt_trichotomy s k with h | h | h
  · rw [Nat.min_eq_left (by omega)] at *
    go_enter Try.func25, Try.ntmps25
    go_wp2
    go_end0
    exact ⟨rfl, H2.out⟩
  · subst h
    rw [Nat.min_self] at *
    go_enter Try.func25, Try.ntmps25
    go_wp2
    go_end0
    exact ⟨rfl, H2.out⟩
  · rw [Nat.min_eq_right (by omega)] at *
    go_enter Try.func25, Try.ntmps25
    go_wp2
    go_end0
    exact ⟨rfl, H2.out⟩

/-- so many of n more a crash keeps -/
def kept (keep : Int) (n : Nat) : Nat := min keep.toNat n

set_option maxHeartbeats 1000000 in
theorem crash_any {base g s : Nat} {bs : List Nat} {W : World} (hd : Dk W base g bs s) (hs : s ≤ bs.length) (keep : Int) :
    Calls Try.prog 21 #[.pointer (some ⟨g, 0, none⟩), .int .i64 keep] W
      fun e W' => e = .returned (.tuple #[]) ∧ Did base g (bs.take (s + kept keep (bs.length - s))) (s + kept keep (bs.length - s)) W W' := by
  obtain ⟨v, hv, own, hne⟩ := hd.cell
  obtain ⟨A0, c0, rfl, -⟩ := own.slice
  have hmost := hd.most
  have hdr : Below W.heap.size W W.drew := (Below.refl _ _).drew
  have hd' := hd.below hdr
  have q0 := cell_of_heap hv 0
  have q1 := cell_of_heap hv 1
  simp only [List.getElem?_toArray, List.getElem?_cons_zero, List.getElem?_cons_succ] at q0 q1
  obtain ⟨m, hm⟩ : ∃ m, m = kept keep (bs.length - s) := ⟨_, rfl⟩
  have hmle : m ≤ bs.length - s := by rw [hm]; exact Nat.min_le_right _ _
  rw [← hm]
  have hlv := leave_any hd' (s + m) (by omega)
  rw [Nat.min_eq_left (by omega)] at hlv
  have hlen : (bs.take (s + m)).length = s + m := by simp; omega
  have HS := Lib.hid fun (W : World) (k : Dk W base g (bs.take (s + m)) s) => sync_any k
  rw [hlen] at HS
  have HL : Hid (∀ z : Int, z = ((s + m : Nat) : Int) → Calls Try.prog 25 #[.pointer (some ⟨g, 0, none⟩), .int .i64 z] W.drew fun e W' => e = .returned (.tuple #[]) ∧ Did base g (bs.take (s + m)) s W.drew W') := Lib.hid (fun z hz => by subst hz; exact hlv)
  have HB : Hid (Did base g bs s W W.drew) := ⟨hd', hdr.mono hd.hs, OffO.of_below hdr hd.lt⟩
  clear hlv hlen hv own hne hd hd' hdr
  generalize bs.length = L at *
  have hw0 : IntKind.i64.wrap ((s : Int) + (m : Int)) = (s : Int) + (m : Int) := IntWalk.i64_in _ (by omega)
  have hw1 : IntKind.i64.wrap ((L : Int) - (s : Int)) = (L : Int) - (s : Int) := IntWalk.i64_in _ (by omega)
  unfold kept at hm
  rcases Int.lt_trichotomy keep 0 with hk | hk | hk
  · have h0 : m = 0 := by omega
    have h3 : ¬ ((L : Int) - (s : Int) < 0) := by omega
    have H0 := Lib.hid h0
    clear hm h0
    go_enter Try.func21, Try.ntmps21
    go_wp2
    go_region
    go_wp2_with fail
    refine (HL.out _ (by have := H0.out; omega)).mono ?_
    rintro e u ⟨rfl, h1⟩
    have H1 := Lib.hid (Did.then HB.out h1)
    clear h1
    go_wp2_with fail
    refine (HS.out _ H1.out.1).mono ?_
    rintro e u2 ⟨rfl, h2⟩
    have H2 := Lib.hid (Did.then H1.out h2)
    clear h2
    go_wp2
    go_end0
    exact ⟨rfl, H2.out⟩
  · subst hk
    have h0 : m = 0 := by omega
    have h3 : ¬ ((L : Int) - (s : Int) < 0) := by omega
    have H0 := Lib.hid h0
    clear hm h0
    go_enter Try.func21, Try.ntmps21
    go_wp2
    go_region
    go_wp2_with fail
    refine (HL.out _ (by have := H0.out; omega)).mono ?_
    rintro e u ⟨rfl, h1⟩
    have H1 := Lib.hid (Did.then HB.out h1)
    clear h1
    go_wp2_with fail
    refine (HS.out _ H1.out.1).mono ?_
    rintro e u2 ⟨rfl, h2⟩
    have H2 := Lib.hid (Did.then H1.out h2)
    clear h2
    go_wp2
    go_end0
    exact ⟨rfl, H2.out⟩
  · have hk' : ¬ (keep < 0) := by omega
    rcases Int.lt_or_le ((L : Int) - (s : Int)) keep with h3 | h3
    · have H0 : Hid (s + m = L) := Lib.hid (by omega)
      clear hm
      go_enter Try.func21, Try.ntmps21
      go_wp2
      go_region
      go_wp2_with fail
      refine (HL.out _ (by have := H0.out; omega)).mono ?_
      rintro e u ⟨rfl, h1⟩
      have H1 := Lib.hid (Did.then HB.out h1)
      clear h1
      go_wp2_with fail
      refine (HS.out _ H1.out.1).mono ?_
      rintro e u2 ⟨rfl, h2⟩
      have H2 := Lib.hid (Did.then H1.out h2)
      clear h2
      go_wp2
      go_end0
      exact ⟨rfl, H2.out⟩
    · have H0 : Hid ((m : Int) = keep) := Lib.hid (by omega)
      have h4 : ¬ ((L : Int) - (s : Int) < keep) := by omega
      clear hm
      go_enter Try.func21, Try.ntmps21
      go_wp2
      go_region
      go_wp2_with fail
      refine (HL.out _ (by have := H0.out; omega)).mono ?_
      rintro e u ⟨rfl, h1⟩
      have H1 := Lib.hid (Did.then HB.out h1)
      clear h1
      go_wp2_with fail
      refine (HS.out _ H1.out.1).mono ?_
      rintro e u2 ⟨rfl, h2⟩
      have H2 := Lib.hid (Did.then H1.out h2)
      clear h2
      go_wp2
      go_end0
      exact ⟨rfl, H2.out⟩

theorem cut_bad {base g s : Nat} {bs : List Nat} {W : World} (hd : Dk W base g bs s) (n : Int) (hn : n < 0 ∨ (bs.length : Int) < n) :
    Calls Try.prog 22 #[.pointer (some ⟨g, 0, none⟩), .int .i64 n] W fun e W' => e = .returned (.int .i64 1) ∧ W' = W := by
  obtain ⟨v, hv, own, hne⟩ := hd.cell
  obtain ⟨A0, c0, rfl, -⟩ := own.slice
  have q0 := cell_of_heap hv 0
  simp only [List.getElem?_toArray, List.getElem?_cons_zero] at q0
  clear hv own hne hd
  generalize bs.length = L at *
  by_cases h0 : n < 0
  · clear hn
    go_enter Try.func22, Try.ntmps22
    go_wp2
    go_ret
    exact ⟨rfl, rfl⟩
  · have h1 : (L : Int) < n := by omega
    clear hn
    go_enter Try.func22, Try.ntmps22
    go_wp2
    go_ret
    exact ⟨rfl, rfl⟩
theorem cut_ok {base g s : Nat} {bs : List Nat} {W : World} (hd : Dk W base g bs s) (k : Nat) (hk : k ≤ bs.length) :
    Calls Try.prog 22 #[.pointer (some ⟨g, 0, none⟩), .int .i64 (k : Int)] W fun e W' => e = .returned (.int .i64 0) ∧ Did base g (bs.take k) (min s k) W W' := by
  obtain ⟨v, hv, own, hne⟩ := hd.cell
  obtain ⟨A0, c0, rfl, -⟩ := own.slice
  have q0 := cell_of_heap hv 0
  simp only [List.getElem?_toArray, List.getElem?_cons_zero] at q0
  have HL := Lib.hid (leave_any hd k hk)
  clear hv own hne hd
  generalize bs.length = L at *
  have h0 : ¬ ((k : Int) < 0) := by omega
  have h1 : ¬ ((L : Int) < (k : Int)) := by omega
  go_enter Try.func22, Try.ntmps22
  go_wp2_with fail
  refine HL.out.mono ?_
  rintro e u ⟨rfl, h2⟩
  have H2 := Lib.hid h2
  clear h2
  go_wp2
  go_ret
  exact ⟨rfl, H2.out⟩
theorem install_full {base g s : Nat} {bs : List Nat} {W : World} (_ : Dk W base g bs s) (A : Option Addr) (n c : Nat) (hn : 1048576 < n) :
    Calls Try.prog 23 #[.pointer (some ⟨g, 0, none⟩), .slice A n c] W fun e W' => e = .returned (.int .i64 5) ∧ W' = W := by
  go_enter Try.func23, Try.ntmps23
  go_wp2
  go_ret
  exact ⟨rfl, rfl⟩
theorem install_ok {base g s : Nat} {bs cs : List Nat} {W : World} (hd : Dk W base g bs s) {A : Option Addr} {n c : Nat} (hr : Row W A n c cs) (hn : n ≤ 1048576) :
    Calls Try.prog 23 #[.pointer (some ⟨g, 0, none⟩), .slice A n c] W fun e W' => e = .returned (.int .i64 0) ∧ Did base g cs cs.length W W' := by
  have hcl : cs.length ≤ 1048576 := by rw [hr.len]; exact hn
  have HC := Lib.hid (clone_any hr)
  have HR := Lib.hid hr
  have HD := Lib.hid hd
  have h1 : ¬ ((1048576 : Int) < (n : Int)) := by omega
  clear hr hd
  go_enter Try.func23, Try.ntmps23
  go_wp2_with fail
  refine HC.out.mono ?_
  rintro e u ⟨v1, rfl, own1, h2⟩
  have hd1 := HD.out.below h2
  obtain ⟨v, hv, own, hne⟩ := HD.out.cell
  obtain ⟨v', hv', own', hne'⟩ := hd1.cell
  have hvv : v' = v := by
    have := hv'.symm.trans ((h2.block g (heap_lt hv)).trans hv)
    simpa using this
  subst hvv
  have hne1 : ∀ j, v1.ownBlock = some j → W.heap.size ≤ j := fun j hj => (own1.have.lt j hj).1
  have q0 := cell_of_heap hv' 0
  have f0 := frozen_of_heap hv' 0
  simp only [List.getElem?_toArray, List.getElem?_cons_zero] at q0
  have hput : Did base g cs s W (u.setCell ⟨g, 0, none⟩ v1) := by
    have gr : W.grownBy u v'.ownBlock := ⟨h2.os, h2.tape, h2.output, h2.size, fun k hk _ => h2.block k hk⟩
    obtain ⟨-, d1, d2, d3⟩ := HD.out.put0 (W1 := u) (v1 := v1) (cs := cs) hv own hne gr (own1.have.base HD.out.hs) (fun j hj hlt => by have := hne1 j hj; omega) HR.out.bts.2.2.1 hcl
    exact ⟨d1, d2, d3⟩
  have HP := Lib.hid hput
  have HS := Lib.hid (sync_any hput.1)
  obtain ⟨A1, n1, c1, rfl⟩ := own1.slice
  obtain ⟨A2, n2, c2, rfl⟩ := own'.form
  clear hv' hv own' own hne hne' hd1 own1 h2 hne1 hput
  go_wp2_with fail
  refine HS.out.mono ?_
  rintro e u2 ⟨rfl, h3⟩
  have H3 := Lib.hid (HP.out.then h3)
  clear h3
  go_wp2
  go_ret
  exact ⟨rfl, H3.out⟩

/-! ### a Disk that is nil -/
theorem append_nil (A : Option Addr) (n c : Nat) (W : World) : Calls Try.prog 19 #[.pointer none, .slice A n c] W fun e W' => e = .returned (.int .i64 6) ∧ W' = W := by
  go_enter Try.func19, Try.ntmps19
  go_wp2
  go_ret
  exact ⟨rfl, rfl⟩
theorem cut_nil (n : Int) (W : World) : Calls Try.prog 22 #[.pointer none, .int .i64 n] W fun e W' => e = .returned (.int .i64 6) ∧ W' = W := by
  go_enter Try.func22, Try.ntmps22
  go_wp2
  go_ret
  exact ⟨rfl, rfl⟩
theorem install_nil (A : Option Addr) (n c : Nat) (W : World) : Calls Try.prog 23 #[.pointer none, .slice A n c] W fun e W' => e = .returned (.int .i64 6) ∧ W' = W := by
  go_enter Try.func23, Try.ntmps23
  go_wp2
  go_ret
  exact ⟨rfl, rfl⟩
theorem bytes_nil (W : World) : Calls Try.prog 17 #[.pointer none] W fun e W' => e = .returned (.slice none 0 0) ∧ W' = W := by
  go_enter Try.func17, Try.ntmps17
  go_wp2
  go_ret
  exact ⟨rfl, rfl⟩
theorem synced_nil (W : World) : Calls Try.prog 18 #[.pointer none] W fun e W' => e = .returned (.int .i64 0) ∧ W' = W := by
  go_enter Try.func18, Try.ntmps18
  go_wp2
  go_ret
  exact ⟨rfl, rfl⟩
theorem sync_nil (W : World) : Calls Try.prog 20 #[.pointer none] W fun e W' => e = .returned (.tuple #[]) ∧ W' = W := by
  go_enter Try.func20, Try.ntmps20
  go_wp2
  go_end0
  exact ⟨rfl, rfl⟩
theorem crash_nil (n : Int) (W : World) : Calls Try.prog 21 #[.pointer none, .int .i64 n] W fun e W' => e = .returned (.tuple #[]) ∧ W' = W := by
  go_enter Try.func21, Try.ntmps21
  go_wp2
  exact bodyPost_ret (results_none rfl _ _ _) rfl ⟨rfl, rfl⟩
end Go.Proofs.Yteefeancakeebaa
