/- The program's crc, function by function: what each call returns, and that it changes no memory that was there before. -/
import Derived.Test.YtmjgpgnecohbcaaRows
import Derived.Test.YtmjgpgnecohbcaaCrcM
import Derived.Test.YtmjgpgnecohbcaaMgA
import Derived.WalkKit
import Derived.Below
import Derived.Lib.Hide
import Derived.WalkSmall
namespace Go.Proofs.Ytmjgpgnecohbcaa.CrcW
open Go.RowKit CrcM

theorem ret_u32 {a b : Int} (h : a = b) : Ending.returned (.int .u32 a) = .returned (.int .u32 b) := by rw [h]

/-- bit tests in the walk's spelling -/
theorem odd_test (y : Nat) (hy : y < 4294967296) (h : y % 2 = 1) : (bits BinOp.and IntKind.u32 (y : Int) 1 == 1) = true := by
  have := u32_and_nat y 1 hy (by omega)
  rw [show ((1 : Nat) : Int) = 1 from rfl] at this
  rw [this, Nat.and_one_is_mod, h]; rfl
theorem even_test (y : Nat) (hy : y < 4294967296) (h : y % 2 = 0) : (bits BinOp.and IntKind.u32 (y : Int) 1 == 1) = false := by
  have := u32_and_nat y 1 hy (by omega)
  rw [show ((1 : Nat) : Int) = 1 from rfl] at this
  rw [this, Nat.and_one_is_mod, h]; rfl
theorem odd_step (y : Nat) (hy : y < 4294967296) (h : y % 2 = 1) : bits BinOp.xor IntKind.u32 ((y : Int) / 2) 3988292384 = ((bit1 y : Nat) : Int) := by
  have := u32_xor_nat (y / 2) 3988292384 (by omega) (by omega)
  rw [show ((y : Int) / 2) = ((y / 2 : Nat) : Int) by omega, show (3988292384 : Int) = ((3988292384 : Nat) : Int) from rfl, this]
  unfold bit1; rw [if_pos h]
theorem even_step (y : Nat) (h : y % 2 = 0) : ((y : Int) / 2) = ((bit1 y : Nat) : Int) := by
  unfold bit1; rw [if_neg (by omega), Nat.xor_zero]; omega
theorem bitN_snoc (k x : Nat) : bitN (k + 1) x = bit1 (bitN k x) := by rw [bitN_add k 1]; rfl

set_option maxHeartbeats 400000 in
theorem through_any (x : Nat) (hx : x < 4294967296) (w : World) :
    Calls Try.prog 116 #[.int .u32 x] w fun e w' => e = .returned (.int .u32 (bitN 8 x : Nat)) ∧ w = w' := by
  go_enter Try.func116, Try.ntmps116
  go_wp2
  go_loop [0, 4] (fun a i => ∃ k : Nat, k ≤ 8 ∧ i = .int .i64 k ∧ a = .int .u32 (bitN k x : Nat)) (fun _ i => 8 - (intOf i).toNat)
  case atStart => exact ⟨0, by omega, rfl, rfl⟩
  case round =>
    obtain ⟨k, hk, rfl, rfl⟩ := hrel
    have hl := bitN_lt k hx
    have HS := Lib.hid (bitN_snoc k x)
    generalize hy : bitN k x = y at *
    have HY := Lib.hid hy
    clear hy
    by_cases hlt : k < 8
    · rcases Nat.mod_two_eq_zero_or_one y with h | h
      · have ht := even_test y hl h
        have HE := Lib.hid (even_step y h)
        clear h
        go_wp2
        go_round
        case rel => exact ⟨k + 1, by omega, by go_num, by rw [HS.out, ← HE.out]⟩
        case measure => simp [intOf]; omega
      · have ht := odd_test y hl h
        have HE := Lib.hid (odd_step y hl h)
        clear h
        go_wp2
        go_round
        case rel => exact ⟨k + 1, by omega, by go_num, by rw [HS.out, ← HE.out]⟩
        case measure => simp [intOf]; omega
    · have hk8 : k = 8 := by omega
      subst hk8
      go_wp2
      go_ret
      exact ⟨ret_u32 (by rw [HY.out]), rfl⟩

theorem word_snoc (bs : List Nat) (k : Nat) (hk : k < bs.length) (w : Nat) : word w (bs.take (k + 1)) = byteStep (word w (bs.take k)) (bs.getD k 0) := by
  rw [List.take_succ_eq_append_getElem hk, word_append, List.getD_eq_getElem?_getD, List.getElem?_eq_getElem hk]; rfl
theorem xor_byte (y c : Nat) (hy : y < 4294967296) (hc : c < 256) : bits BinOp.xor IntKind.u32 (y : Int) (c : Int) = ((y ^^^ c : Nat) : Int) := u32_xor_nat y c hy (by omega)
theorem not_word (y : Nat) (hy : y < 4294967296) : bits BinOp.xor IntKind.u32 IntKind.u32.max (y : Int) = ((big ^^^ y : Nat) : Int) := u32_xor_nat big y big_lt hy

set_option maxHeartbeats 1000000 in
theorem through_bytes (g x : Nat) (hx : x < 4294967296) (A : Option Addr) (n cap : Nat) (bs : List Nat) (w : World) (hb : Bts w g A n bs) (hc : w.heap[g]? = some (.cells #[.int .u32 x] 101 (0, 0))) :
    Calls Try.prog 115 #[.slice A n cap, .pointer (some ⟨g, 0, none⟩)] w fun e w' => e = .returned (.int .u32 (big ^^^ CrcM.word x bs : Nat)) ∧ Below g w w' := by
  obtain ⟨hlen, hmax, hby, hcell⟩ := hb
  go_enter Try.func115, Try.ntmps115
  go_wp2
  go_loopw [8] (fun i wr => ∃ k : Nat, k ≤ n ∧ i = .int .i64 k ∧ wr.heap[g]? = some (.cells #[.int .u32 (CrcM.word x (bs.take k) : Nat)] 101 (0, 0)) ∧ Below g w wr) (fun i _ => n - (intOf i).toNat)
  case atStart => exact ⟨0, Nat.zero_le _, rfl, by simpa [CrcM.word] using hc, Below.refl _ _⟩
  case round =>
    obtain ⟨k, hk, rfl, hv, hbel⟩ := hrel
    have hcg := cell_of_one hv
    have hfg := free_of_one hv
    have hyl := word_lt (bs.take k) (fun c hc => hby c (List.mem_of_mem_take hc)) hx
    by_cases hlt : k < n
    · obtain ⟨b, off, rfl, hbg, hcs⟩ := hcell (by omega)
      have hcx : wr.cell? ⟨b, off + k, none⟩ = some (.int .u8 (bs.getD k 0 : Nat)) := (hbel.cell (p := ⟨b, off + k, none⟩) hbg).trans (hcs k hlt)
      have hc256 : bs.getD k 0 < 256 := by
        rw [List.getD_eq_getElem?_getD, List.getElem?_eq_getElem (by omega)]; exact hby _ (List.getElem_mem _)
      have HS := Lib.hid (word_snoc bs k (by omega) x)
      have HV := Lib.hid hv
      have hx1 := xor_byte (CrcM.word x (bs.take k)) (bs.getD k 0) hyl hc256
      have hxl : CrcM.word x (bs.take k) ^^^ bs.getD k 0 < 4294967296 := Nat.xor_lt_two_pow (n := 32) hyl (by omega)
      clear hcs hv
      generalize hwy : CrcM.word x (bs.take k) = y at *
      have HY := Lib.hid hwy
      clear hwy
      generalize hcc : bs.getD k 0 = c at *
      have HC := Lib.hid hcc
      clear hcc hby hcell
      go_wp2_with fail
      refine (through_any _ hxl _).mono ?_
      rintro e w1 ⟨rfl, rfl⟩
      go_wp2
      go_roundw
      case rel => exact ⟨k + 1, by omega, by go_num, by rw [HS.out]; exact one_setCell HV.out, hbel.setCell (Nat.le_refl _) _⟩
      case measure => simp [intOf]; omega
    · have hkn : k = n := by omega
      have hfull : CrcM.word x (bs.take k) = CrcM.word x bs := by rw [List.take_of_length_le (by omega)]
      rw [hfull] at hcg hyl
      have hN := not_word _ hyl
      clear hfull hv hcell hby hc
      generalize hwy : CrcM.word x bs = y at *
      have HY := Lib.hid hwy
      clear hwy
      subst hkn
      go_wp2
      go_ret
      exact ⟨ret_u32 (by rw [HY.out]), hbel⟩

theorem new_one (w : World) (t : TypeId) (v : Value) : (w.alloc (.cells #[v] t)).heap[w.heap.size]? = some (.cells #[v] t (0, 0)) := heap_alloc_new w _

set_option maxHeartbeats 400000 in
theorem from_any (x : Int) (w : World) :
    Calls Try.prog 104 #[.int .u32 x] w fun e w' => e = .returned (.func (.func 115) #[] #[.pointer (some ⟨w.heap.size, 0, none⟩)]) ∧ w' = w.alloc (.cells #[.int .u32 x] 101) := by
  go_enter Try.func104, Try.ntmps104
  go_wp2
  go_ret
  exact ⟨rfl, rfl⟩

set_option maxHeartbeats 400000 in
theorem more_any (s : Nat) (hs : s < 4294967296) (A : Option Addr) (n cap : Nat) (bs : List Nat) (w : World) (hb : Bts w w.heap.size A n bs) :
    Calls Try.prog 86 #[.int .u32 s, .slice A n cap] w fun e w' => e = .returned (.int .u32 (CrcM.more s bs : Nat)) ∧ Below w.heap.size w w' := by
  have hN := not_word s hs
  have hxl : big ^^^ s < 4294967296 := big_xor_lt hs
  have HM : Hid (CrcM.more s bs = big ^^^ CrcM.word (big ^^^ s) bs) := Lib.hid rfl
  generalize CrcM.more s bs = r at *
  generalize big ^^^ s = x at *
  go_enter Try.func86, Try.ntmps86
  go_wp2_with fail
  refine (from_any _ _).mono ?_
  rintro e w1 ⟨rfl, rfl⟩
  go_wp2_with fail
  have hbe : Below w.heap.size w (w.alloc (.cells #[.int .u32 x] 101)) := (Below.refl _ _).alloc (Nat.le_refl _) _
  refine (through_bytes w.heap.size x hxl A n cap bs _ (hb.below hbe) (new_one w _ _)).mono ?_
  rintro e w2 ⟨rfl, hbel⟩
  go_wp2
  go_ret
  exact ⟨ret_u32 (by rw [HM.out]), hbe.trans hbel⟩

set_option maxHeartbeats 400000 in
theorem sum_any (A : Option Addr) (n cap : Nat) (bs : List Nat) (w : World) (hb : Bts w w.heap.size A n bs) :
    Calls Try.prog 87 #[.slice A n cap] w fun e w' => e = .returned (.int .u32 (CrcM.sum bs : Nat)) ∧ Below w.heap.size w w' := by
  have HM : Hid (CrcM.sum bs = big ^^^ CrcM.word 4294967295 bs) := Lib.hid rfl
  generalize CrcM.sum bs = r at *
  go_enter Try.func87, Try.ntmps87
  go_wp2_with fail
  refine (from_any _ _).mono ?_
  rintro e w1 ⟨rfl, rfl⟩
  go_wp2_with fail
  have hbe : Below w.heap.size w (w.alloc (.cells #[.int .u32 4294967295] 101)) := (Below.refl _ _).alloc (Nat.le_refl _) _
  refine (through_bytes w.heap.size 4294967295 (by omega) A n cap bs _ (hb.below hbe) (new_one w _ _)).mono ?_
  rintro e w2 ⟨rfl, hbel⟩
  go_wp2
  go_ret
  exact ⟨ret_u32 (by rw [HM.out]), hbe.trans hbel⟩
end Go.Proofs.Ytmjgpgnecohbcaa.CrcW
