/- The document's May; the records of a list that may be. -/
import Derived.Test.YtmjgpgnecohbcaaAlgO
namespace Go.Proofs.Ytmjgpgnecohbcaa
open Go.RowKit

set_option maxRecDepth 100000 in
set_option maxHeartbeats 4000000 in
theorem refmay_any (r : Rc) (A : Option Addr) (n c : Nat) (hn : r.val.length = n) (w : World) : Calls Try.prog 55 #[rcv r A n c] w fun e w' => e = .returned (.bool r.mayB) ∧ Below w.heap.size w w' := by
  obtain ⟨kind, slot, round, site, val⟩ := r
  simp only [rcv] at *
  by_cases k1 : kind = 1
  · subst k1
    by_cases s1 : slot < 0
    · rw [Rc.mayB_no (fun h => by obtain ⟨h1, h2, h3, h4, h5, h6, h7, h8, h9⟩ := h; simp only at h1 h2 h3 h4 h5 h6 h7 h8 h9; omega)]
      go_enter Try.func55, Try.ntmps55
      go_wp2
      go_ret
      exact ⟨rfl, ((Below.refl _ _).alloc (Nat.le_refl _) _).alloc (by simp) _⟩
    · have ns1 : ¬ (slot < 0) := s1
      clear s1
      by_cases s2 : 4095 < slot
      · rw [Rc.mayB_no (fun h => by obtain ⟨h1, h2, h3, h4, h5, h6, h7, h8, h9⟩ := h; simp only at h1 h2 h3 h4 h5 h6 h7 h8 h9; omega)]
        go_enter Try.func55, Try.ntmps55
        go_wp2
        go_ret
        exact ⟨rfl, ((Below.refl _ _).alloc (Nat.le_refl _) _).alloc (by simp) _⟩
      · have ns2 : ¬ (4095 < slot) := s2
        clear s2
        by_cases s3 : round < 0
        · rw [Rc.mayB_no (fun h => by obtain ⟨h1, h2, h3, h4, h5, h6, h7, h8, h9⟩ := h; simp only at h1 h2 h3 h4 h5 h6 h7 h8 h9; omega)]
          go_enter Try.func55, Try.ntmps55
          go_wp2
          go_ret
          exact ⟨rfl, ((Below.refl _ _).alloc (Nat.le_refl _) _).alloc (by simp) _⟩
        · have ns3 : ¬ (round < 0) := s3
          clear s3
          by_cases s4 : 1099511627776 < round
          · rw [Rc.mayB_no (fun h => by obtain ⟨h1, h2, h3, h4, h5, h6, h7, h8, h9⟩ := h; simp only at h1 h2 h3 h4 h5 h6 h7 h8 h9; omega)]
            go_enter Try.func55, Try.ntmps55
            go_wp2
            go_ret
            exact ⟨rfl, ((Below.refl _ _).alloc (Nat.le_refl _) _).alloc (by simp) _⟩
          · have ns4 : ¬ (1099511627776 < round) := s4
            clear s4
            by_cases s5 : site < 0
            · rw [Rc.mayB_no (fun h => by obtain ⟨h1, h2, h3, h4, h5, h6, h7, h8, h9⟩ := h; simp only at h1 h2 h3 h4 h5 h6 h7 h8 h9; omega)]
              go_enter Try.func55, Try.ntmps55
              go_wp2
              go_ret
              exact ⟨rfl, ((Below.refl _ _).alloc (Nat.le_refl _) _).alloc (by simp) _⟩
            · have ns5 : ¬ (site < 0) := s5
              clear s5
              by_cases s6 : 6 < site
              · rw [Rc.mayB_no (fun h => by obtain ⟨h1, h2, h3, h4, h5, h6, h7, h8, h9⟩ := h; simp only at h1 h2 h3 h4 h5 h6 h7 h8 h9; omega)]
                go_enter Try.func55, Try.ntmps55
                go_wp2
                go_ret
                exact ⟨rfl, ((Below.refl _ _).alloc (Nat.le_refl _) _).alloc (by simp) _⟩
              · have ns6 : ¬ (6 < site) := s6
                clear s6
                by_cases z : n = 0
                · subst z
                  rw [Rc.mayB_yes (by refine ⟨?_, ?_, ?_, ?_, ?_, ?_, ?_, ?_, ?_⟩ <;> first | (simp only; omega) | (simp; done) | (simp; omega))]
                  go_enter Try.func55, Try.ntmps55
                  go_wp2
                  go_ret
                  exact ⟨rfl, ((Below.refl _ _).alloc (Nat.le_refl _) _).alloc (by simp) _⟩
                · have hz : ((n : Int) == 0) = false := by simp; omega
                  by_cases z2 : n ≤ 2048
                  · have hd : decide ((n : Int) ≤ 2048) = true := by simp; omega
                    rw [Rc.mayB_no (fun h => by obtain ⟨h1, h2, h3, h4, h5, h6, h7, h8, h9⟩ := h; simp only at h1 h2 h3 h4 h5 h6 h7 h8 h9; omega)]
                    go_enter Try.func55, Try.ntmps55
                    go_wp2
                    go_ret
                    exact ⟨rfl, ((Below.refl _ _).alloc (Nat.le_refl _) _).alloc (by simp) _⟩
                  · have hd : decide ((n : Int) ≤ 2048) = false := by simp; omega
                    rw [Rc.mayB_no (fun h => by obtain ⟨h1, h2, h3, h4, h5, h6, h7, h8, h9⟩ := h; simp only at h1 h2 h3 h4 h5 h6 h7 h8 h9; omega)]
                    go_enter Try.func55, Try.ntmps55
                    go_wp2
                    go_ret
                    exact ⟨rfl, ((Below.refl _ _).alloc (Nat.le_refl _) _).alloc (by simp) _⟩
  · by_cases k2 : kind = 2
    · subst k2
      by_cases s1 : slot < 0
      · rw [Rc.mayB_no (fun h => by obtain ⟨h1, h2, h3, h4, h5, h6, h7, h8, h9⟩ := h; simp only at h1 h2 h3 h4 h5 h6 h7 h8 h9; omega)]
        go_enter Try.func55, Try.ntmps55
        go_wp2
        go_ret
        exact ⟨rfl, ((Below.refl _ _).alloc (Nat.le_refl _) _).alloc (by simp) _⟩
      · have ns1 : ¬ (slot < 0) := s1
        clear s1
        by_cases s2 : 4095 < slot
        · rw [Rc.mayB_no (fun h => by obtain ⟨h1, h2, h3, h4, h5, h6, h7, h8, h9⟩ := h; simp only at h1 h2 h3 h4 h5 h6 h7 h8 h9; omega)]
          go_enter Try.func55, Try.ntmps55
          go_wp2
          go_ret
          exact ⟨rfl, ((Below.refl _ _).alloc (Nat.le_refl _) _).alloc (by simp) _⟩
        · have ns2 : ¬ (4095 < slot) := s2
          clear s2
          by_cases s3 : round < 0
          · rw [Rc.mayB_no (fun h => by obtain ⟨h1, h2, h3, h4, h5, h6, h7, h8, h9⟩ := h; simp only at h1 h2 h3 h4 h5 h6 h7 h8 h9; omega)]
            go_enter Try.func55, Try.ntmps55
            go_wp2
            go_ret
            exact ⟨rfl, ((Below.refl _ _).alloc (Nat.le_refl _) _).alloc (by simp) _⟩
          · have ns3 : ¬ (round < 0) := s3
            clear s3
            by_cases s4 : 1099511627776 < round
            · rw [Rc.mayB_no (fun h => by obtain ⟨h1, h2, h3, h4, h5, h6, h7, h8, h9⟩ := h; simp only at h1 h2 h3 h4 h5 h6 h7 h8 h9; omega)]
              go_enter Try.func55, Try.ntmps55
              go_wp2
              go_ret
              exact ⟨rfl, ((Below.refl _ _).alloc (Nat.le_refl _) _).alloc (by simp) _⟩
            · have ns4 : ¬ (1099511627776 < round) := s4
              clear s4
              by_cases s5 : site < 0
              · rw [Rc.mayB_no (fun h => by obtain ⟨h1, h2, h3, h4, h5, h6, h7, h8, h9⟩ := h; simp only at h1 h2 h3 h4 h5 h6 h7 h8 h9; omega)]
                go_enter Try.func55, Try.ntmps55
                go_wp2
                go_ret
                exact ⟨rfl, ((Below.refl _ _).alloc (Nat.le_refl _) _).alloc (by simp) _⟩
              · have ns5 : ¬ (site < 0) := s5
                clear s5
                by_cases s6 : 6 < site
                · rw [Rc.mayB_no (fun h => by obtain ⟨h1, h2, h3, h4, h5, h6, h7, h8, h9⟩ := h; simp only at h1 h2 h3 h4 h5 h6 h7 h8 h9; omega)]
                  go_enter Try.func55, Try.ntmps55
                  go_wp2
                  go_ret
                  exact ⟨rfl, ((Below.refl _ _).alloc (Nat.le_refl _) _).alloc (by simp) _⟩
                · have ns6 : ¬ (6 < site) := s6
                  clear s6
                  by_cases z2 : n ≤ 2048
                  · have hd : decide ((n : Int) ≤ 2048) = true := by simp; omega
                    rw [Rc.mayB_yes (by refine ⟨?_, ?_, ?_, ?_, ?_, ?_, ?_, ?_, ?_⟩ <;> first | (simp only; omega) | (simp; done) | (simp; omega))]
                    go_enter Try.func55, Try.ntmps55
                    go_wp2
                    go_ret
                    exact ⟨rfl, ((Below.refl _ _).alloc (Nat.le_refl _) _).alloc (by simp) _⟩
                  · have hd : decide ((n : Int) ≤ 2048) = false := by simp; omega
                    rw [Rc.mayB_no (fun h => by obtain ⟨h1, h2, h3, h4, h5, h6, h7, h8, h9⟩ := h; simp only at h1 h2 h3 h4 h5 h6 h7 h8 h9; omega)]
                    go_enter Try.func55, Try.ntmps55
                    go_wp2
                    go_ret
                    exact ⟨rfl, ((Below.refl _ _).alloc (Nat.le_refl _) _).alloc (by simp) _⟩
    · have hk1 : (kind == 1) = false := by simpa using k1
      have hk2 : (kind == 2) = false := by simpa using k2
      rw [Rc.mayB_no (fun h => by obtain ⟨h1, h2, h3, h4, h5, h6, h7, h8, h9⟩ := h; simp only at h1 h2 h3 h4 h5 h6 h7 h8 h9; omega)]
      go_enter Try.func55, Try.ntmps55
      go_wp2
      go_ret
      exact ⟨rfl, ((Below.refl _ _).alloc (Nat.le_refl _) _).alloc (by simp) _⟩
end Go.Proofs.Ytmjgpgnecohbcaa
