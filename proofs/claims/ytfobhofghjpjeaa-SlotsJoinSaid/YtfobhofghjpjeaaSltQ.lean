/- Slots: the function that is ranged over. -/
import Derived.Test.YtfobhofghjpjeaaSltP
import Derived.Test.YtfobhofghjpjeaaRange
import Derived.Shelf.Abstract
import Derived.Shelf.RegionOpen
import Derived.OwnWalkIn
import Derived.TacticsInMore
import Derived.LoopNIn
import Derived.LoopIn
namespace Go.Proofs.Ytfobhofghjpjeaa
open Go.RowKit Go.Shelf
attribute [local go_sem] Oper.semAt_some

theorem own_more {s lo c n d : Int} (h : isSlS s n = true) (h0 : 0 ≤ c) (h1 : c < 4096) (h2 : c % n = s) (h3 : lo ≤ c) (h4 : c < d) (h5 : d ≤ c + n) : ownL s lo c n ++ [c] = ownL s lo d n := by
  have hs : n ≤ 64 ∧ 0 ≤ s ∧ s < n := by simpa [isSlS] using h
  have hc : ownerI c n = s := by rw [owner_in h0 (by omega) (by omega) hs.1]; exact h2
  refine rise_one ?_ (ownL_rise _ _ _ _) fun x => ?_
  · rw [List.pairwise_append]
    refine ⟨ownL_rise _ _ _ _, by simp, fun x hx y hy => ?_⟩
    obtain rfl := List.mem_singleton.1 hy
    exact (ownL_mem.1 hx).2.1
  · rw [List.mem_append, List.mem_singleton, ownL_mem, ownL_mem]
    constructor
    · rintro (⟨g1, g2, g3, g4⟩ | rfl)
      · exact ⟨g1, by omega, g3, g4⟩
      · exact ⟨h3, h4, hs.2.1, hc⟩
    · rintro ⟨g1, g2, g3, g4⟩
      rcases Int.lt_trichotomy x c with g | g | g
      · exact .inl ⟨g1, g, g3, g4⟩
      · exact .inr g
      · exfalso
        have ho := owner_range (s := x) (n := n) (by omega)
        have hx : x % n = s := by rw [← ho.2.2.2.2.2]; exact g4
        have hd : (x - c) % n = 0 := by rw [Int.sub_emod, hx, h2]; simp
        have := Int.emod_eq_of_lt (show 0 ≤ x - c by omega) (show x - c < n by omega)
        omega
theorem own_begin {s lo hi c n : Int} (h : isSlS s n = true) (h0 : 0 ≤ c) (h1 : c < 4096) (h2 : c % n = s) (h3 : lo ≤ c) (h4 : c < hi) : ownL s lo c n ++ [c] <+: ownL s lo hi n := by
  have hs : n ≤ 64 ∧ 0 ≤ s ∧ s < n := by simpa [isSlS] using h
  rw [own_more h h0 h1 h2 h3 (d := c + 1) (by omega) (by omega), ← own_join (k := c + 1) (hi := hi) (by omega) (by omega)]
  exact List.prefix_append _ _
theorem own_exit {s lo hi c n : Int} (h : ∀ x ∈ ownL s lo c n, x < hi) (hc : min hi 4096 ≤ c) : ownL s lo c n = ownL s lo hi n := by
  refine rise_one (ownL_rise _ _ _ _) (ownL_rise _ _ _ _) fun x => ⟨fun hx => ?_, fun hx => ?_⟩
  · have g := ownL_mem.1 hx
    exact ownL_mem.2 ⟨g.1, h x hx, g.2.2⟩
  · have g := ownL_mem.1 hx
    have ho := owner_range (s := x) (n := n) (by omega)
    exact ownL_mem.2 ⟨g.1, by omega, g.2.2⟩

/-- between two rounds: all but the box at B is as it was in W2 -/
structure SI (B : Nat) (W2 W : World) : Prop where
  os : W.os = W2.os
  tape : W.tape = W2.tape
  output : W.output = W2.output
  size : W2.heap.size ≤ W.heap.size
  hB : B + 6 < W2.heap.size
  old : ∀ b, b < W2.heap.size → b ≠ B → W.heap[b]? = W2.heap[b]?
theorem SI.kept {B : Nat} {W2 W W' : World} (h : SI B W2 W) (k : Kept W W') : SI B W2 W' :=
  ⟨k.1.os.trans h.os, k.1.tape.trans h.tape, k.1.output.trans h.output, Nat.le_trans h.size k.2, h.hB, fun b hb hn => (k.1.block b (Nat.lt_of_lt_of_le hb h.size)).trans (h.old b hb hn)⟩
theorem SI.start {B : Nat} {W : World} (h : B + 6 < W.heap.size) : SI B W W := ⟨rfl, rfl, rfl, Nat.le_refl _, h, fun _ _ _ => rfl⟩
/-- what a round is handed: those before it, the slot, the world ahead of all rounds -/
structure Sl where
  L : List Int
  x : Int
  W2 : World
def Sl.args (y : Sl) : Array Value := #[.int .i64 y.x]
def Sl.Pre (I : World → List Int → World → Prop) (w0 : World) (all : List Int) (y : Sl) (W : World) : Prop := I y.W2 y.L W ∧ y.L ++ [y.x] <+: all ∧ Kept w0 y.W2
def Sl.Post (I : World → List Int → World → Prop) (R : Sl → World → Prop) (y : Sl) (_ : World) (e : Ending) (W' : World) : Prop := (e = .returned (.bool true) ∧ I y.W2 (y.L ++ [y.x]) W') ∨ (e = .returned (.bool false) ∧ R y W')

set_option maxRecDepth 100000 in
set_option maxHeartbeats 4000000 in
theorem slots_it {w0 : World} {B : Nat} {s lo hi n : Int} (hs0 : w0.heap.size = B + 5) (h1 : w0.heap[B + 1]? = some (.cells #[.int .i64 s] 3 (0, 0))) (h2 : w0.heap[B + 2]? = some (.cells #[.int .i64 lo] 3 (0, 0)))
    (h3 : w0.heap[B + 3]? = some (.cells #[.int .i64 hi] 3 (0, 0))) (h4 : w0.heap[B + 4]? = some (.cells #[.int .i64 n] 3 (0, 0)))
    (I : World → List Int → World → Prop) (R : Sl → World → Prop) (hIo : ∀ W2 L W, I W2 L W → SI B W2 W) (hI0 : ∀ W2, Kept w0 W2 → B + 6 < W2.heap.size → I W2 [] W2) (rec : LoopState → Option Code → Loop)
    (hY : ∀ (y : Sl) W, y.Pre I w0 (ownL s lo hi n) W → W.heap[B + 6]? = some (.loop (rec .ready none)) → YieldAt Fence.wide 0 Try.prog (B + 6) y.args W (y.Post I R W)) :
    CallsIn Fence.wide 1 Try.prog 19 #[.func (.yield (B + 6)) #[] #[], .pointer (some ⟨B + 1, 0, none⟩), .pointer (some ⟨B + 4, 0, none⟩), .pointer (some ⟨B + 3, 0, none⟩), .pointer (some ⟨B + 2, 0, none⟩)] ((w0.alloc (.deferred (some []))).alloc (.loop (rec .ready none))) fun e W => (∃ v, e = .returned v) ∧
      ((W.heap[B + 6]? = some (.loop (rec .ready none)) ∧ ∃ W2, Kept w0 W2 ∧ W2.heap[B + 5]? = some (.deferred (some [])) ∧ I W2 (ownL s lo hi n) W) ∨
       (∃ y : Sl, y.L ++ [y.x] <+: ownL s lo hi n ∧ Kept w0 y.W2 ∧ y.W2.heap[B + 5]? = some (.deferred (some [])) ∧ R y W)) := by
  have k1 : Kept w0 ((w0.alloc (.deferred (some []))).alloc (.loop (rec .ready none))) := ((Kept.refl w0).alloc _).alloc _
  have hL1 : ((w0.alloc (.deferred (some []))).alloc (.loop (rec .ready none))).heap[B + 6]? = some (.loop (rec .ready none)) := by
    have := push_new (w0.alloc (.deferred (some []))) (.loop (rec .ready none))
    rwa [World.size_alloc, hs0] at this
  have hs1 : ((w0.alloc (.deferred (some []))).alloc (.loop (rec .ready none))).heap.size = B + 7 := by simp [hs0]
  have hD1 : ((w0.alloc (.deferred (some []))).alloc (.loop (rec .ready none))).heap[B + 5]? = some (.deferred (some [])) := by
    have := push_two_old w0 (.deferred (some [])) (.loop (rec .ready none))
    rwa [hs0] at this
  generalize (w0.alloc (.deferred (some []))).alloc (.loop (rec .ready none)) = W1 at *
  have c1 := cell_of_heap ((k1.1.block (B + 1) (by omega)).trans h1) 0
  have c2 := cell_of_heap ((k1.1.block (B + 2) (by omega)).trans h2) 0
  have c3 := cell_of_heap ((k1.1.block (B + 3) (by omega)).trans h3) 0
  have c4 := cell_of_heap ((k1.1.block (B + 4) (by omega)).trans h4) 0
  simp only [List.getElem?_toArray, List.getElem?_cons_zero] at c1 c2 c3 c4
  have HC2 := Lib.hid c2
  have HC4 := Lib.hid c4
  have HI0 := Lib.hid (hI0 W1 k1 (by omega))
  have HIO := Lib.hid hIo
  have HK1 := Lib.hid k1
  have HL1 := Lib.hid hL1
  have HD1 := Lib.hid hD1
  have HY := Lib.hid hY
  have HS1 := Lib.hid hs1
  have HS := Lib.hid (issite_any s n)
  clear k1 hL1 hD1 hY hs1 hI0 hIo h1 h2 h3 h4
  refine callsIn_of_wp Try.func19 rfl trivial ?_ rfl
  simp only [Try.ntmps19, List.size_toArray, List.length_cons, List.length_nil, Nat.reduceAdd, Nat.reduceSub, Array.replicate_succ, Array.replicate_zero, List.push_toArray, List.append_toArray, List.nil_append, List.cons_append]
  gi_wp2_with fail
  refine ⟨trivial, ?_⟩
  refine (callsIn_wide.2 (HS.out _)).mono ?_
  rintro e u ⟨rfl, rfl⟩
  cases hsite : isSlS s n with
  | false =>
    have HE := Lib.hid (own_nosite (lo := lo) (hi := hi) hsite)
    clear hsite
    gi_wp2
    refine bodyPost_ret (results_none rfl _ _ _) rfl ?_
    exact ⟨⟨_, rfl⟩, .inl ⟨HL1.out, _, HK1.out, HD1.out, by rw [HE.out]; exact HI0.out⟩⟩
  | true =>
    have HT := Lib.hid hsite
    have HF := Lib.hid (first_is (lo := lo) hsite)
    have HFA := Lib.hid (first_any (lo := lo) hsite)
    have hs : n ≤ 64 ∧ 0 ≤ s ∧ s < n := by simpa [isSlS] using hsite
    obtain ⟨g1, g2, g3⟩ := hs
    clear hsite
    obtain ⟨E, hE⟩ : ∃ E, E = min hi 4096 := ⟨_, rfl⟩
    have HEM := Lib.hid hE
    have hm : (if 4096 < hi then 4096 else hi) = E := by rw [hE]; split <;> omega
    clear hE
    gi_wp2_with fail
    refine ⟨trivial, ?_⟩
    refine (callsIn_wide.2 (HFA.out _)).mono ?_
    rintro e u ⟨rfl, rfl⟩
    generalize firstI s lo n = f at *
    clear c1 c2 c3 c4 hm
    gi_wp2
    gi_loopw [7] (fun i wr => ∃ (c : Int) (L : List Int), i = .int .i64 c ∧ I u L wr ∧ 0 ≤ c ∧ c < 4096 + n ∧ c % n = s ∧ (c < 4096 → lo ≤ c) ∧ L = ownL s lo c n ∧ ∀ x ∈ L, x < hi) (fun i _ => (4160 - intOf i).toNat)
    case atStart => exact ⟨f, [], rfl, HI0.out, HF.out.1, HF.out.2.1, HF.out.2.2.1, HF.out.2.2.2.1, HF.out.2.2.2.2.symm, by simp⟩
    case round =>
      obtain ⟨c, L, rfl, hI, b1, b2, b3, b4, hL, b5⟩ := hrel
      rename_i wr
      have HI := Lib.hid hI
      have HO := Lib.hid (HIO.out _ _ _ hI)
      have HLL := Lib.hid hL
      have HB := Lib.hid (And.intro b3 (And.intro b4 b5))
      clear hI b3 b4 b5 hL
      have hsz := HS1.out
      by_cases hlt : c < E
      · have hmn := HEM.out
        have hpf := own_begin (hi := hi) HT.out b1 (by omega) HB.out.1 (HB.out.2.1 (by omega)) (by omega)
        have hmo := own_more (d := c + n) HT.out b1 (by omega) HB.out.1 (HB.out.2.1 (by omega)) (by omega) (by omega)
        rw [← HLL.out] at hpf hmo
        have HMO := Lib.hid hmo
        have HLO := Lib.hid (show lo ≤ c from HB.out.2.1 (by omega))
        have hready := (HO.out.old (B + 6) (by omega) (by omega)).trans HL1.out
        have HN : Hid ((c + n) % n = s) := Lib.hid (by rw [Int.add_emod_right]; exact HB.out.1)
        have HH : Hid (∀ x ∈ L ++ [c], x < hi) := Lib.hid (fun x hx => by
          rcases List.mem_append.1 hx with hx | hx
          · exact HB.out.2.2 x hx
          · obtain rfl := List.mem_singleton.1 hx; omega)
        obtain ⟨fn, tmps, assign, body, hy, hR⟩ := HY.out ⟨L, c, u⟩ wr ⟨HI.out, hpf, HK1.out⟩ hready
        have HPF := Lib.hid hpf
        clear hready hpf hmo hmn
        have hc1 : c ≤ 4095 := by have := HEM.out; omega
        have hw : IntKind.i64.wrap (c + n) = c + n := by rw [IntKind.wrap_i64]; omega
        simp only [Sl.args] at *
        gi_wp2
        refine hR.mono ?_
        rintro e5 w6 (⟨rfl, hI6⟩ | ⟨rfl, hRR⟩)
        · clear hy hR
          have c4 := (World.cell?_of_block ((HIO.out u (L ++ [c]) _ hI6).old (B + 4) (by omega) (by omega))).trans HC4.out
          gi_wp2
          go_roundw
          case rel => exact ⟨c + n, L ++ [c], by go_num, hI6, by omega, by omega, HN.out, fun _ => by have := HLO.out; omega, HMO.out, HH.out⟩
          case measure => simp [intOf]; omega
        · clear hy hR
          gi_wp2
          refine bodyPost_ret (results_none rfl _ _ _) rfl ?_
          exact ⟨⟨_, rfl⟩, .inr ⟨⟨L, c, u⟩, HPF.out, HK1.out, HD1.out, hRR⟩⟩
      · have HX := Lib.hid (own_exit (hi := hi) (by rw [← HLL.out]; exact HB.out.2.2) (by have := HEM.out; omega))
        gi_wp2
        go_end0
        exact ⟨⟨_, rfl⟩, .inl ⟨(HO.out.old (B + 6) (by omega) (by omega)).trans HL1.out, u, HK1.out, HD1.out, by rw [← HX.out, ← HLL.out]; exact HI.out⟩⟩
end Go.Proofs.Ytfobhofghjpjeaa
