/- The document's own crc (the reference), function by function. -/
import Derived.Test.YtmjgpgnecohbcaaCrcW
import Derived.Lib.SlBytesConst
namespace Go.Proofs.Ytmjgpgnecohbcaa.CrcR
open Go.RowKit CrcM CrcW

theorem odd_rem (y : Nat) (h : y % 2 = 1) : (((y : Int) % 2 == 1) = true) := by simp; omega
theorem even_rem (y : Nat) (h : y % 2 = 0) : (((y : Int) % 2 == 1) = false) := by simp; omega
theorem odd_xor (y : Nat) (hy : y < 4294967296) (h : y % 2 = 1) : bits BinOp.xor IntKind.u32 ((y : Int) / 2) 3988292384 = ((bit1 y : Nat) : Int) := odd_step y hy h

set_option maxHeartbeats 400000 in
theorem step_any (x c : Nat) (hx : x < 4294967296) (hc : c < 256) (w : World) :
    Calls Try.prog 76 #[.int .u32 x, .int .u8 c] w fun e w' => e = .returned (.int .u32 (byteStep x c : Nat)) ∧ w = w' := by
  have hx1 := xor_byte x c hx hc
  have hxl : x ^^^ c < 4294967296 := Nat.xor_lt_two_pow (n := 32) hx (by omega)
  have HZ : Hid (byteStep x c = bitN 8 (x ^^^ c)) := Lib.hid rfl
  generalize byteStep x c = z at *
  generalize x ^^^ c = x1 at *
  go_enter Try.func76, Try.ntmps76
  go_wp2
  go_loop [0, 5] (fun a i => ∃ k : Nat, k ≤ 8 ∧ i = .int .i64 k ∧ a = .int .u32 (bitN k x1 : Nat)) (fun _ i => 8 - (intOf i).toNat)
  case atStart => exact ⟨0, by omega, rfl, rfl⟩
  case round =>
    obtain ⟨k, hk, rfl, rfl⟩ := hrel
    have hl := bitN_lt k hxl
    have HS := Lib.hid (bitN_snoc k x1)
    generalize hy : bitN k x1 = y at *
    have HY := Lib.hid hy
    clear hy hx1
    by_cases hlt : k < 8
    · rcases Nat.mod_two_eq_zero_or_one y with h | h
      · have ht := even_rem y h
        have HE := Lib.hid (even_step y h)
        clear h
        go_wp2
        go_round
        case rel => exact ⟨k + 1, by omega, by go_num, by rw [HS.out, ← HE.out]⟩
        case measure => simp [intOf]; omega
      · have ht := odd_rem y h
        have HE := Lib.hid (odd_step y hl h)
        clear h
        go_wp2
        go_round
        case rel => exact ⟨k + 1, by omega, by go_num, by rw [HS.out, ← HE.out]⟩
        case measure => simp [intOf]; omega
    · have hk8 : k = 8 := by omega
      subst hk8
      go_wp2
      go_ret
      exact ⟨ret_u32 (by rw [HZ.out, HY.out]), rfl⟩

theorem xor_ones (y : Nat) (hy : y < 4294967296) : bits BinOp.xor IntKind.u32 (y : Int) 4294967295 = ((big ^^^ y : Nat) : Int) := by
  have := u32_xor_nat y big hy big_lt
  rw [Nat.xor_comm big y]; exact this

set_option maxHeartbeats 1000000 in
theorem more_any (s : Nat) (hs : s < 4294967296) (A : Option Addr) (n cap : Nat) (bs : List Nat) (B : Nat) (w : World) (hb : Bts w B A n bs) :
    Calls Try.prog 59 #[.int .u32 s, .slice A n cap] w fun e w' => e = .returned (.int .u32 (CrcM.more s bs : Nat)) ∧ w = w' := by
  obtain ⟨hlen, hmax, hby, hcell⟩ := hb
  have hN := xor_ones s hs
  have hx : big ^^^ s < 4294967296 := big_xor_lt hs
  have HM : Hid (CrcM.more s bs = big ^^^ CrcM.word (big ^^^ s) bs) := Lib.hid rfl
  generalize CrcM.more s bs = r at *
  generalize big ^^^ s = x at *
  go_enter Try.func59, Try.ntmps59
  go_wp2
  go_loop [5, 6] (fun a i => ∃ k : Nat, k ≤ n ∧ i = .int .i64 k ∧ a = .int .u32 (CrcM.word x (bs.take k) : Nat)) (fun _ i => n - (intOf i).toNat)
  case atStart => exact ⟨0, Nat.zero_le _, rfl, rfl⟩
  case round =>
    obtain ⟨k, hk, rfl, rfl⟩ := hrel
    have hyl := word_lt (bs.take k) (fun c hc => hby c (List.mem_of_mem_take hc)) hx
    by_cases hlt : k < n
    · obtain ⟨b, off, rfl, hbg, hcs⟩ := hcell (by omega)
      have hcx : w.cell? ⟨b, off + k, none⟩ = some (.int .u8 (bs.getD k 0 : Nat)) := hcs k hlt
      have hc256 : bs.getD k 0 < 256 := by
        rw [List.getD_eq_getElem?_getD, List.getElem?_eq_getElem (by omega)]; exact hby _ (List.getElem_mem _)
      have HS := Lib.hid (word_snoc bs k (by omega) x)
      clear hcs
      generalize hwy : CrcM.word x (bs.take k) = y at *
      have HY := Lib.hid hwy
      clear hwy
      generalize hcc : bs.getD k 0 = c at *
      have HC := Lib.hid hcc
      clear hcc hby hcell hN
      go_wp2_with fail
      refine (step_any _ _ hyl hc256 _).mono ?_
      rintro e w1 ⟨rfl, rfl⟩
      go_wp2
      go_round
      case rel => exact ⟨k + 1, by omega, by go_num, by rw [HS.out]⟩
      case measure => simp [intOf]; omega
    · have hkn : k = n := by omega
      have hfull : CrcM.word x (bs.take k) = CrcM.word x bs := by rw [List.take_of_length_le (by omega)]
      rw [hfull] at hyl ⊢
      have hN := xor_ones _ hyl
      clear hfull hcell hby
      generalize hwy : CrcM.word x bs = y at *
      have HY := Lib.hid hwy
      clear hwy
      subst hkn
      go_wp2
      go_ret
      exact ⟨ret_u32 (by rw [HM.out]), rfl⟩

set_option maxHeartbeats 400000 in
theorem sum_any (A : Option Addr) (n cap : Nat) (bs : List Nat) (B : Nat) (w : World) (hb : Bts w B A n bs) :
    Calls Try.prog 60 #[.slice A n cap] w fun e w' => e = .returned (.int .u32 (CrcM.sum bs : Nat)) ∧ w = w' := by
  have HM := Lib.hid (CrcM.sum_eq bs)
  generalize CrcM.sum bs = r at *
  go_enter Try.func60, Try.ntmps60
  go_wp2_with fail
  refine (more_any 0 (by omega) A n cap bs B _ hb).mono ?_
  rintro e w1 ⟨rfl, rfl⟩
  go_wp2
  go_ret
  exact ⟨ret_u32 (by rw [HM.out]), rfl⟩

/-- a new block, and a call behind it that changes nothing below -/
theorem below_step {B : Nat} {a w w1 : World} {o : Obj} (h : Below B a w ∧ B ≤ w.heap.size) (hb : Below (w.alloc o).heap.size (w.alloc o) w1) : Below B a w1 ∧ B ≤ w1.heap.size := by
  have hs : B ≤ (w.alloc o).heap.size := by simp; omega
  exact ⟨(h.1.alloc h.2 o).trans (hb.mono hs), Nat.le_trans hs hb.size⟩
/-- a call that changes nothing below -/
theorem below_call {B : Nat} {a w w1 : World} (h : Below B a w ∧ B ≤ w.heap.size) (hb : Below w.heap.size w w1) : Below B a w1 ∧ B ≤ w1.heap.size :=
  ⟨h.1.trans (hb.mono h.2), Nat.le_trans h.2 hb.size⟩

end Go.Proofs.Ytmjgpgnecohbcaa.CrcR
