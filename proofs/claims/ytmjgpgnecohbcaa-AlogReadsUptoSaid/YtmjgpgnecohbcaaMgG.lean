/- The set of the slots: no key twice; what its keys are. -/
import Derived.Test.YtmjgpgnecohbcaaAlgV
import Derived.Test.YtmjgpgnecohbcaaAlgZi

namespace Go.Proofs.Ytmjgpgnecohbcaa
open Go.RowKit Go.Maps Go.Sort

def keyInt (p : Lit × DataW Unit) : Int := Go.intOf p.1
theorem SD_keys (l : List Rc) (k : Nat) (hk : k ≤ l.length) : ∃ es, SD l k = .map es ∧ (∀ p ∈ es, p.1 = .int .i64 (keyInt p)) ∧ (es.map keyInt).Nodup ∧ ∀ x, x ∈ es.map keyInt ↔ ∃ r ∈ l.take k, r.slot = x := by
  induction k with
  | zero => exact ⟨[], rfl, by simp, by simp, by simp⟩
  | succ k ih =>
    obtain ⟨es, e, h1, h2, h3⟩ := ih (by omega)
    have hkl : k < l.length := by omega
    have hts := List.take_succ_eq_append_getElem hkl
    rw [SD_succ l k hkl, e, hts]
    generalize l[k] = r at *
    have hp := Go.WideShapes.insert_perm (.int .i64 r.slot, (.agg [] : DataW Unit)) (es.filter fun p => !p.1.sameKey (.int .i64 r.slot))
    have hf : ∀ p ∈ es, (p.1.sameKey (.int .i64 r.slot) = true ↔ keyInt p = r.slot) := fun p hp => by
      rw [h1 p hp]
      simp [Lit.sameKey, keyInt, Go.intOf]
    refine ⟨_, rfl, fun p hm => ?_, ?_, fun x => ?_⟩
    · rcases List.mem_cons.1 (hp.mem_iff.1 hm) with rfl | hm
      · rfl
      · exact h1 p (List.mem_filter.1 hm).1
    · refine ((hp.map keyInt).nodup_iff).2 ?_
      rw [List.map_cons, List.nodup_cons]
      refine ⟨fun hm => ?_, (h2.sublist ((List.filter_sublist).map keyInt))⟩
      obtain ⟨p, hm, hx⟩ := List.mem_map.1 hm
      obtain ⟨hm1, hm2⟩ := List.mem_filter.1 hm
      have := (hf p hm1).2 hx
      rw [this] at hm2
      simp at hm2
    · rw [(hp.map keyInt).mem_iff, List.map_cons, List.mem_cons]
      constructor
      · rintro (rfl | hm)
        · exact ⟨r, by simp, rfl⟩
        · obtain ⟨p, hp2, hx2⟩ := List.mem_map.1 hm
          obtain ⟨r', hr', hx⟩ := (h3 (keyInt p)).1 (List.mem_map_of_mem (List.mem_filter.1 hp2).1)
          exact ⟨r', List.mem_append_left _ hr', hx.trans hx2⟩
      · rintro ⟨r', hr', rfl⟩
        rcases List.mem_append.1 hr' with hr' | hr'
        · by_cases hx : r'.slot = r.slot
          · exact .inl hx
          · obtain ⟨p, hm, hx2⟩ := List.mem_map.1 ((h3 r'.slot).2 ⟨r', hr', rfl⟩)
            refine .inr (List.mem_map.2 ⟨p, List.mem_filter.2 ⟨hm, ?_⟩, hx2⟩)
            cases hs : p.1.sameKey (.int .i64 r.slot) with
            | false => rfl
            | true => exact absurd (hx2.symm.trans ((hf p hm).1 hs)) hx
        · obtain rfl := List.mem_singleton.1 hr'
          exact .inl rfl
end Go.Proofs.Ytmjgpgnecohbcaa

/- Slots of the program: rising, each once. -/
namespace Go.Proofs.Ytmjgpgnecohbcaa
open Go.RowKit Go.Sort Go.Maps

theorem slots_rising {w : World} {A : Option Addr} {n cap : Nat} {l : List Rc} (hl : l.length = n) (hR : Rcs w A l) (hn : n ≤ 1099511627776) :
    Calls Try.prog 31 #[.slice A n cap] w fun e w' => ∃ v L, e = .returned v ∧ OwnZ w' w.heap.size v L ∧ Rising L l ∧ Below w.heap.size w w' := by
  refine (slots_any hl hR hn).mono ?_
  rintro e w' ⟨hb, v, ss, rfl, hp, hrow, -⟩
  obtain ⟨es, he, hk, hnd, hmem⟩ := SD_keys l n (by omega)
  rw [he] at hp
  have hkeys : intKeys (.map es : DataW Unit) = es.map keyInt := rfl
  rw [hkeys] at hp
  have hperm := (List.mergeSort_perm ss (fun x y => decide (x ≤ y))).trans hp
  have hsort := List.pairwise_mergeSort (le := fun (x y : Int) => decide (x ≤ y)) (fun a b c h1 h2 => by simp at *; omega) (fun a b => by simp; omega) ss
  have hlen : (ss.mergeSort (fun x y => decide (x ≤ y))).length = ss.length := List.length_mergeSort ss
  refine ⟨v, ss.mergeSort (fun x y => decide (x ≤ y)), rfl, ?_, ⟨?_, fun x => ?_⟩, hb⟩
  · unfold OwnZ
    rw [hlen]
    exact hrow
  · have hnd2 : (ss.mergeSort (fun x y => decide (x ≤ y))).Nodup := (hperm.nodup_iff).2 hnd
    refine (hsort.and hnd2).imp ?_
    rintro a b ⟨h1, h2⟩
    simp at h1
    omega
  · rw [hperm.mem_iff, hmem, List.take_of_length_le (by omega)]
end Go.Proofs.Ytmjgpgnecohbcaa
