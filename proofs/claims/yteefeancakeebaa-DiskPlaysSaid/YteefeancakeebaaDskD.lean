/- What a deed does: the law's own call. -/
import Derived.Test.YteefeancakeebaaDskR
namespace Go.Proofs.Yteefeancakeebaa
open Go.RowKit

/-- what a deed answers and leaves -/
def ply (kind n : Int) (cs bs : List Nat) (s : Nat) : Nat × List Nat × Nat :=
  if kind = 0 then (if 1048576 < bs.length + cs.length then (5, bs, s) else (0, bs ++ cs, s))
  else if kind = 1 then (0, bs, bs.length)
  else if kind = 2 then (0, bs.take (s + kept n (bs.length - s)), s + kept n (bs.length - s))
  else if kind = 3 then (if n < 0 ∨ (bs.length : Int) < n then (1, bs, s) else (0, bs.take n.toNat, min s n.toNat))
  else if 1048576 < cs.length then (5, bs, s) else (0, cs, cs.length)
theorem ply_le {kind n : Int} {cs bs : List Nat} {s : Nat} (hs : s ≤ bs.length) : (ply kind n cs bs s).2.2 ≤ (ply kind n cs bs s).2.1.length := by
  have := kept_le' n (bs.length - s)
  unfold ply
  split
  · split <;> simp <;> omega
  · split
    · simp
    · split
      · simp; omega
      · split
        · split
          · exact hs
          · simp; omega
        · split
          · exact hs
          · simp
theorem Did.refl {W : World} {base g s : Nat} {bs : List Nat} (h : Dk W base g bs s) : Did base g bs s W W := ⟨h, Below.refl _ _, OffO.refl _ _⟩
theorem Did.after {W W1 W2 : World} {base g s t : Nat} {bs cs : List Nat} (hd : Dk W base g bs s) (hb : Below W.heap.size W W1) (h : Did base g cs t W1 W2) : Did base g cs t W W2 :=
  ⟨h.1, (hb.mono hd.hs).trans h.2.1, (OffO.of_below hb hd.lt).trans h.2.2⟩

set_option maxHeartbeats 4000000 in
theorem do_any {base g s : Nat} {bs cs : List Nat} {W : World} {B : Option Addr} {m d : Nat} (kind n : Int) (hd : Dk W base g bs s) (hs : s ≤ bs.length) (hr : Row W B m d cs) :
    Calls Try.prog 11 #[.pointer (some ⟨g, 0, none⟩), .agg #[.int .i64 kind, .int .i64 n, .slice B m d]] W
      fun e W' => e = .returned (.int .i64 ((ply kind n cs bs s).1 : Nat)) ∧ Did base g (ply kind n cs bs s).2.1 (ply kind n cs bs s).2.2 W W' := by
  have hb : Below W.heap.size W (W.alloc (.cells #[.int .i64 kind, .int .i64 n, .slice B m d] 32)) := (Below.refl _ _).alloc (Nat.le_refl _) _
  have h1 := push_new W (.cells #[.int .i64 kind, .int .i64 n, .slice B m d] 32)
  have HD := Lib.hid (hd.below hb)
  have HR := Lib.hid (hr.below hb)
  have HL := Lib.hid hr.len
  have HA := Lib.hid fun cs t W2 (h : Did base g cs t (W.alloc (.cells #[.int .i64 kind, .int .i64 n, .slice B m d] 32)) W2) => Did.after hd hb h
  have c0 := cell_of_heap h1 0
  have c1 := cell_of_heap h1 1
  have c2 := cell_of_heap h1 2
  simp only [List.getElem?_toArray, List.getElem?_cons_zero, List.getElem?_cons_succ] at c0 c1 c2
  clear hb h1 hd hr
  unfold ply
  by_cases k0 : kind = 0
  · subst k0
    by_cases hf : 1048576 < bs.length + cs.length
    · simp only [if_true, if_pos hf]
      have HF := Lib.hid hf
      clear hf
      go_enter Try.func11, Try.ntmps11
      go_wp2_with fail
      refine (append_full HD.out _ _ _ (by have := HF.out; rwa [HL.out] at this)).mono ?_
      rintro e u ⟨rfl, rfl⟩
      go_wp2
      go_ret
      exact ⟨rfl, HA.out _ _ _ (Did.refl HD.out)⟩
    · simp only [if_true, if_neg hf]
      have HF := Lib.hid hf
      clear hf
      go_enter Try.func11, Try.ntmps11
      go_wp2_with fail
      refine (append_ok HD.out HR.out.bts HR.out.nil (by have := HF.out; rw [HL.out] at this; omega)).mono ?_
      rintro e u ⟨rfl, h⟩
      have H := Lib.hid (HA.out _ _ _ h)
      clear h
      go_wp2
      go_ret
      exact ⟨rfl, H.out⟩
  · by_cases k1 : kind = 1
    · subst k1
      simp only [if_neg k0, if_true]
      go_enter Try.func11, Try.ntmps11
      go_wp2_with fail
      refine (sync_any HD.out).mono ?_
      rintro e u ⟨rfl, h⟩
      have H := Lib.hid (HA.out _ _ _ h)
      clear h
      go_wp2
      go_ret
      exact ⟨rfl, H.out⟩
    · by_cases k2 : kind = 2
      · subst k2
        simp only [if_neg k0, if_neg k1, if_true]
        go_enter Try.func11, Try.ntmps11
        go_wp2_with fail
        refine (crash_any HD.out hs n).mono ?_
        rintro e u ⟨rfl, h⟩
        have H := Lib.hid (HA.out _ _ _ h)
        clear h
        go_wp2
        go_ret
        exact ⟨rfl, H.out⟩
      · by_cases k3 : kind = 3
        · subst k3
          simp only [if_neg k0, if_neg k1, if_neg k2, if_true]
          by_cases hn : n < 0 ∨ (bs.length : Int) < n
          · simp only [if_pos hn]
            have HN := Lib.hid hn
            clear hn
            go_enter Try.func11, Try.ntmps11
            go_wp2_with fail
            refine (cut_bad HD.out n HN.out).mono ?_
            rintro e u ⟨rfl, rfl⟩
            go_wp2
            go_ret
            exact ⟨rfl, HA.out _ _ _ (Did.refl HD.out)⟩
          · simp only [if_neg hn]
            obtain ⟨k, rfl⟩ := Int.eq_ofNat_of_zero_le (show 0 ≤ n by omega)
            have hk : k ≤ bs.length := by omega
            have e : ((k : Int)).toNat = k := by omega
            rw [e]
            have HK := Lib.hid hk
            clear hn e hk
            go_enter Try.func11, Try.ntmps11
            go_wp2_with fail
            refine (cut_ok HD.out k HK.out).mono ?_
            rintro e u ⟨rfl, h⟩
            have H := Lib.hid (HA.out _ _ _ h)
            clear h
            go_wp2
            go_ret
            exact ⟨rfl, H.out⟩
        · simp only [if_neg k0, if_neg k1, if_neg k2, if_neg k3]
          by_cases hf : 1048576 < cs.length
          · simp only [if_pos hf]
            have HF := Lib.hid hf
            clear hf
            go_enter Try.func11, Try.ntmps11
            go_wp2_with fail
            refine (install_full HD.out _ _ _ (by have := HF.out; rwa [HL.out] at this)).mono ?_
            rintro e u ⟨rfl, rfl⟩
            go_wp2
            go_ret
            exact ⟨rfl, HA.out _ _ _ (Did.refl HD.out)⟩
          · simp only [if_neg hf]
            have HF := Lib.hid hf
            clear hf
            go_enter Try.func11, Try.ntmps11
            go_wp2_with fail
            refine (install_ok HD.out HR.out (by have := HF.out; rw [HL.out] at this; omega)).mono ?_
            rintro e u ⟨rfl, h⟩
            have H := Lib.hid (HA.out _ _ _ h)
            clear h
            go_wp2
            go_ret
            exact ⟨rfl, H.out⟩
/-- a deed of the argument's -/
theorem deed_at {w : World} {a0 : Option Addr} {len0 cap0 : Nat} (w0 : SliceAt 3 40 (fun w cs => cs.length = 3 ∧ IsStruct [(0, 1, (IsInt .i64)), (1, 1, (IsInt .i64)), (2, 1, (IsSlice 1 1 (IsInt .u8)))] w cs) w a0 len0 cap0) {k : Nat} (hk : k < len0) :
    ∃ b off kind n B m d cs, a0 = some ⟨b, off, none⟩ ∧ b < w.heap.size ∧ w.cell? ⟨b, off + k * 3, none⟩ = some (.int .i64 kind) ∧ w.cell? ⟨b, off + k * 3 + 1, none⟩ = some (.int .i64 n) ∧ w.cell? ⟨b, off + k * 3 + 2, none⟩ = some (.slice B m d) ∧ Row w B m d cs ∧ m ≤ 140737488351232 := by
  obtain ⟨_, _, _, _, hr⟩ := w0
  obtain ⟨b, off, rfl, hb, hel⟩ := hr (by omega)
  obtain ⟨cs, hl, ⟨_, ⟨kind, h0, _⟩, ⟨n, h1, _⟩, ⟨B, m, d, h2, hs⟩, _⟩, hc⟩ := hel k hk
  obtain ⟨x, y, z, rfl⟩ : ∃ x y z, cs = [x, y, z] := by
    rcases cs with _ | ⟨x, _ | ⟨y, _ | ⟨z, _ | ⟨u, r⟩⟩⟩⟩ <;> simp at hl
    exact ⟨x, y, z, rfl⟩
  simp at h0 h1 h2
  subst h0 h1 h2
  obtain ⟨bs, hrow⟩ := Row.of hs
  have c0 := hc 0 (by omega)
  have c1 := hc 1 (by omega)
  have c2 := hc 2 (by omega)
  simp only [List.getElem?_cons_zero, List.getElem?_cons_succ, Nat.add_zero, ← Nat.add_assoc] at c0 c1 c2
  exact ⟨b, off, kind, n, B, m, d, bs, rfl, hb, c0, c1, c2, hrow, hs.2.2.1 |> fun h => by omega⟩

theorem Row.off {W W' : World} {A : Option Addr} {n c : Nat} {bs : List Nat} (h : Row W A n c bs) (hs : W.heap.size ≤ W'.heap.size) (hk : ∀ a, A = some a → 0 < n → W'.heap[a.block]? = W.heap[a.block]?) : Row W' A n c bs := by
  refine ⟨⟨h.bts.1, h.bts.2.1, h.bts.2.2.1, fun hn => ?_⟩, h.nil, h.room, h.most⟩
  obtain ⟨b, off, e, hlt, hcs⟩ := h.bts.2.2.2 hn
  have h9 : W'.heap[b]? = W.heap[b]? := hk _ e hn
  exact ⟨b, off, e, Nat.lt_of_lt_of_le hlt hs, fun j hj => by rw [← hcs j hj]; exact World.cell?_of_block h9⟩
end Go.Proofs.Yteefeancakeebaa
