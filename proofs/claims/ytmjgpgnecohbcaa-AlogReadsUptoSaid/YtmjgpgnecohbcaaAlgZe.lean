/- Of the document: the number that stands somewhere in bytes (Get), up to a bound (Small), bytes behind their number (Take). -/
import Derived.Test.YtmjgpgnecohbcaaWireG
import Derived.Test.YtmjgpgnecohbcaaMgA
import Derived.BigQuiet
namespace Go.Proofs.Ytmjgpgnecohbcaa
open Go.RowKit

/-- the number of bytes' lower sevens of bits, the first one the least -/
def valF : List Nat → Nat
  | [] => 0
  | c :: cs => c % 128 + 128 * valF cs
theorem valF_take (D : List Nat) : ∀ (k : Nat), k < D.length → valF (D.take (k + 1)) = valF (D.take k) + D.getD k 0 % 128 * 128 ^ k := by
  induction D with
  | nil => intro k h; simp at h
  | cons c cs ih =>
    intro k h
    cases k with
    | zero => simp [valF]
    | succ k =>
      have := ih k (by simpa using h)
      simp only [List.take_succ_cons, valF, List.getD_cons_succ]
      rw [this, Nat.mul_add, Nat.pow_succ, Nat.mul_comm 128 (_ * _), Nat.mul_assoc (cs.getD k 0 % 128)]
      omega
theorem valF_drop {L : List Nat} {i : Nat} (h : i < L.length) : valF (L.drop i) = L.getD i 0 % 128 + 128 * valF (L.drop (i + 1)) := by
  rw [List.drop_eq_getElem_cons h, valF, List.getD_eq_getElem?_getD, List.getElem?_eq_getElem h]
  rfl
theorem valF_le (L : List Nat) (i : Nat) : valF (L.drop i) ≤ valF L := by
  induction L generalizing i with
  | nil => simp
  | cons c cs ih =>
    cases i with
    | zero => simp
    | succ i =>
      have := ih i
      simp only [List.drop_succ_cons, valF]
      omega
theorem getW_run : ∀ (m i acc : Nat) (D : List Nat), m ≤ D.length → i + m ≤ 9 → (∀ j, j < m → 128 ≤ D.getD j 0) → (∀ c ∈ D, c < 256) → getW i acc D = getW (i + m) (acc + valF (D.take m) * 128 ^ i) (D.drop m)
  | 0, i, acc, D, _, _, _, _ => by simp [valF]
  | m + 1, i, acc, [], h, _, _, _ => by simp at h
  | m + 1, i, acc, c :: cs, h, hi, hc, hb => by
    have h0 := hc 0 (by omega)
    rw [List.getD_cons_zero] at h0
    have hlt := hb c (by simp)
    rw [getW, if_neg (by omega), if_neg (by omega), if_neg (by omega), getW_run m (i + 1) _ cs (by simpa using h) (by omega) (fun j hj => by have := hc (j + 1) (by omega); rwa [List.getD_cons_succ] at this) (fun x hx => hb x (by simp [hx]))]
    simp only [List.take_succ_cons, valF, List.drop_succ_cons]
    rw [show i + 1 + m = i + (m + 1) by omega, show c % 128 = c - 128 by omega]
    congr 1
    rw [Nat.add_mul, Nat.pow_succ, Nat.mul_comm (128 ^ i) 128, ← Nat.mul_assoc, Nat.mul_comm (valF _) 128]
    omega
/-- what is read where k bytes from 128 on stand ahead -/
theorem get_end {D : List Nat} {k : Nat} (hk : D.length = k) (h9 : k ≤ 9) (hc : ∀ j, j < k → 128 ≤ D.getD j 0) (hb : ∀ c ∈ D, c < 256) : get D = (0, 0, 3) := by
  unfold get
  rw [getW_run k 0 0 D (by omega) (by omega) hc hb, List.drop_eq_nil_of_le (by omega), getW]
theorem get_at {D : List Nat} {k : Nat} (hk : k < D.length) (h9 : k ≤ 9) (hc : ∀ j, j < k → 128 ≤ D.getD j 0) (hb : ∀ c ∈ D, c < 256) :
    (k = 9 → 1 < D.getD k 0 → get D = (0, 0, 2)) ∧ (¬ (k = 9 ∧ 1 < D.getD k 0) → (0 < k → D.getD k 0 = 0 → get D = (0, 0, 2)) ∧ (¬ (0 < k ∧ D.getD k 0 = 0) → D.getD k 0 < 128 → get D = (valF (D.take (k + 1)), k + 1, 0))) := by
  have hd : D.drop k = D.getD k 0 :: D.drop (k + 1) := by
    rw [List.drop_eq_getElem_cons hk, List.getD_eq_getElem?_getD, List.getElem?_eq_getElem hk]
    rfl
  have e : get D = getW k (valF (D.take k)) (D.getD k 0 :: D.drop (k + 1)) := by
    unfold get
    rw [getW_run k 0 0 D (by omega) (by omega) hc hb, hd]
    simp
  refine ⟨fun h1 h2 => ?_, fun h1 => ⟨fun h2 h3 => ?_, fun h2 h3 => ?_⟩⟩
  · rw [e, getW, if_pos ⟨h1, h2⟩]
  · rw [e, getW, if_neg h1, if_pos ⟨h2, h3⟩]
  · rw [e, getW, if_neg h1, if_neg h2, if_pos h3, valF_take D k hk, Nat.mod_eq_of_lt h3]

set_option maxRecDepth 100000 in
set_option maxHeartbeats 4000000 in
theorem refget_any {B : Nat} {A : Option Addr} {n cap : Nat} {bs : List Nat} {w : World} (hb : Bts w B A n bs) {p : Nat} (hp : p ≤ n) :
    Calls Try.prog 81 #[.slice A n cap, .int .i64 p] w fun e w' => e = .returned (.tuple #[.int .u64 ((get (bs.drop p)).1 : Nat), .int .i64 ((get (bs.drop p)).2.1 : Nat), .int .i64 ((get (bs.drop p)).2.2 : Nat)]) ∧ w' = w := by
  obtain ⟨hlen, hmax, hby, hcell⟩ := hb
  have hD : ∀ j, (bs.drop p).getD j 0 = bs.getD (p + j) 0 := fun j => by simp [List.getD_eq_getElem?_getD, List.getElem?_drop]
  have hDl : (bs.drop p).length = n - p := by rw [List.length_drop, hlen]
  have hDb : ∀ c ∈ bs.drop p, c < 256 := fun c hc => hby c (List.mem_of_mem_drop hc)
  have HC : Hid (∀ j, p + j < n → ∃ b off, A = some ⟨b, off, none⟩ ∧ w.cell? ⟨b, off + (p + j), none⟩ = some (.int .u8 ((bs.drop p).getD j 0 : Nat)) ∧ (bs.drop p).getD j 0 < 256) := Lib.hid (fun j hj => by
    obtain ⟨b, off, e, _, hc⟩ := hcell (by omega)
    refine ⟨b, off, e, by rw [hD]; exact hc (p + j) hj, ?_⟩
    rw [List.getD_eq_getElem?_getD, List.getElem?_eq_getElem (by rw [hDl]; omega)]
    exact hDb _ (List.getElem_mem _))
  clear hby hcell hD hlen
  generalize bs.drop p = D at *
  have HDL := Lib.hid hDl
  have HDB := Lib.hid hDb
  clear hDl hDb
  obtain ⟨G, hG⟩ : ∃ G, get D = G := ⟨_, rfl⟩
  have HG := Lib.hid hG
  rw [hG]
  clear hG
  have hpn : (p : Int) ≤ n := by omega
  go_enter Try.func81, Try.ntmps81
  go_wp2
  go_loop [7] (fun i => ∃ k : Nat, k ≤ 10 ∧ p + k ≤ n ∧ i = .int .i64 k ∧ ∀ j, j < k → 128 ≤ D.getD j 0) (fun i => 10 - (intOf i).toNat)
  case atStart => exact ⟨0, by omega, by omega, rfl, fun j h => absurd h (by omega)⟩
  case round =>
    obtain ⟨k, hk, hkn, rfl, hall⟩ := hrel
    have HALL := Lib.hid hall
    clear hall
    obtain ⟨m, hm⟩ : ∃ m, p + k = m := ⟨_, rfl⟩
    have hw : IntKind.i64.wrap ((p : Int) + (k : Int)) = (m : Int) := by rw [IntKind.wrap_i64]; omega
    have HM := Lib.hid hm
    clear hm
    by_cases h10 : k = 10
    · have hge : get D = (0, 0, 2) := (get_at (k := 9) (by rw [HDL.out]; have := HM.out; omega) (by omega) (fun j hj => HALL.out j (by omega)) HDB.out).1 rfl (by have := HALL.out 9 (by omega); omega)
      rw [HG.out] at hge
      subst hge
      subst h10
      have hw10 : IntKind.i64.wrap ((p : Int) + 10) = (m : Int) := hw
      by_cases hlt : m < n
      · have hlt' : (m : Int) < n := by omega
        obtain ⟨b, off, rfl, hc, hc256⟩ := HC.out 10 (by have := HM.out; omega)
        rw [HM.out] at hc
        generalize D.getD 10 0 = c at *
        go_wp2
        all_goals (go_ret3; exact ⟨rfl, rfl⟩)
      · have hlt' : ¬ (m : Int) < n := by omega
        go_wp2
        all_goals (go_ret3; exact ⟨rfl, rfl⟩)
    · have hk9 : k ≤ 9 := by omega
      have hk10 : (k : Int) < 10 := by omega
      have hne10 : ¬ (k : Int) = 10 := by omega
      have hne10' : ((k : Int) == 10) = false := by simp; omega
      by_cases hlt : m < n
      · obtain ⟨b, off, rfl, hc, hc256⟩ := HC.out k (by have := HM.out; omega)
        rw [HM.out] at hc
        have hat := get_at (show k < D.length by rw [HDL.out]; have := HM.out; omega) hk9 HALL.out HDB.out
        have HAT := Lib.hid hat
        clear hat
        have hlt' : (m : Int) < n := by omega
        generalize hcc : D.getD k 0 = c at *
        have HCC := Lib.hid hcc
        clear hcc
        by_cases h128 : 128 ≤ c
        · have h128' : (128 : Int) ≤ c := by omega
          go_wp2
          all_goals exact ⟨⟨k + 1, by omega, by have := HM.out; omega, by go_num, fun j hj => by
            rcases Nat.lt_succ_iff_lt_or_eq.1 hj with h | rfl
            · exact HALL.out j h
            · rw [HCC.out]; exact h128⟩, by simp [intOf]; omega⟩
        · have h128' : ¬ (128 : Int) ≤ c := by omega
          have h128'' : (c : Int) < 128 := by omega
          by_cases h91 : k = 9 ∧ 1 < c
          · obtain ⟨rfl, h1⟩ := h91
            have hw9 : IntKind.i64.wrap ((p : Int) + 9) = (m : Int) := hw
            have hge := HAT.out.1 rfl h1
            rw [HG.out] at hge
            subst hge
            have h1' : (1 : Int) < c := by omega
            go_wp2
            all_goals (go_ret3; exact ⟨rfl, rfl⟩)
          · obtain ⟨hz, hv⟩ := HAT.out.2 h91
            by_cases h0 : 0 < k ∧ c = 0
            · obtain ⟨hk0, rfl⟩ := h0
              have hge := hz hk0 rfl
              rw [HG.out] at hge
              subst hge
              have hk0' : (0 : Int) < k := by omega
              by_cases h9 : k = 9
              · subst h9
                have hw9 : IntKind.i64.wrap ((p : Int) + 9) = (m : Int) := hw
                go_wp2
                all_goals (go_ret3; exact ⟨rfl, rfl⟩)
              · have hne9 : ¬ (k : Int) = 9 := by omega
                go_wp2
                all_goals (go_ret3; exact ⟨rfl, rfl⟩)
            · have hge := hv h0 (by omega)
              have hbd : valF (D.take (k + 1)) < 18446744073709551616 := (get_back HDB.out hge).2.2.1
              rw [HG.out] at hge
              subst hge
              have LST : Hid (∀ q, q < k + 1 → valF ((D.take (k + 1)).drop q) = D.getD q 0 % 128 + 128 * valF ((D.take (k + 1)).drop (q + 1))) := Lib.hid (fun q hq => by
                rw [valF_drop (by rw [List.length_take, HDL.out]; have := HM.out; omega)]
                congr 2
                simp [List.getD_eq_getElem?_getD, hq])
              have LBD : Hid (∀ q, valF ((D.take (k + 1)).drop q) < 18446744073709551616) := Lib.hid (fun q => Nat.lt_of_le_of_lt (valF_le _ q) hbd)
              have LD0 : Hid ((D.take (k + 1)).drop (k + 1) = []) := Lib.hid (List.drop_eq_nil_of_le (by rw [List.length_take]; omega))
              generalize hLT : D.take (k + 1) = L at *
              have HLT := Lib.hid hLT
              clear hLT
              clear hz hv HAT hbd
              by_cases h9 : k = 9
              · subst h9
                have hw9 : IntKind.i64.wrap ((p : Int) + 9) = (m : Int) := hw
                have hc1 : ¬ (1 : Int) < c := by omega
                have hc0 : ¬ (c : Int) = 0 := by omega
                go_wp2
                go_loop [8, 9] (fun v i => ∃ q : Nat, q ≤ 9 + 1 ∧ i = .int .i64 ((q : Int) - 1) ∧ v = .int .u64 (valF (L.drop q) : Nat)) (fun _ i => (intOf i + 1).toNat)
                case atStart => exact ⟨9 + 1, by omega, by go_num, by rw [LD0.out]; rfl⟩
                case round =>
                  obtain ⟨q, hq, rfl, rfl⟩ := hrel
                  cases q with
                  | zero =>
                    rw [List.drop_zero]
                    have hk1 : IntKind.i64.wrap ((9 : Int) + 1) = ((9 + 1 : Nat) : Int) := by rw [IntKind.wrap_i64]; omega
                    go_wp2
                    go_ret3
                    obtain rfl := HLT.out
                    exact ⟨rfl, rfl⟩
                  | succ q =>
                    obtain ⟨b', off', he, hcq, hcq256⟩ := HC.out q (by have := HM.out; omega)
                    obtain ⟨rfl, rfl⟩ : b = b' ∧ off = off' := by injection he with he; injection he with h1 h2; exact ⟨h1, h2⟩
                    have hst := LST.out q (by omega)
                    have hb1 := LBD.out q
                    rw [hst] at hb1
                    have HST := Lib.hid hst
                    clear hst he
                    have hb2 := hb1
                    generalize valF (L.drop (q + 1)) = V at *
                    generalize D.getD q 0 = cq at *
                    have e1 : ((q + 1 : Nat) : Int) - 1 = (q : Int) := by omega
                    rw [e1]
                    have e2 : IntKind.i64.wrap ((p : Int) + (q : Int)) = ((p + q : Nat) : Int) := by rw [IntKind.wrap_i64]; omega
                    have e3 : IntKind.i64.wrap ((q : Int) - 1) = (q : Int) - 1 := by rw [IntKind.wrap_i64]; omega
                    have e4 : IntKind.u64.wrap ((V : Int) * 128) = (V : Int) * 128 := by rw [IntKind.wrap_u64]; omega
                    have e5 : IntKind.u64.wrap ((V : Int) * 128 + ((cq : Int) % 128)) = (V : Int) * 128 + ((cq : Int) % 128) := by rw [IntKind.wrap_u64]; omega
                    obtain ⟨mq, hmq, hmqn⟩ : ∃ mq, p + q = mq ∧ mq < n := ⟨_, rfl, by have := HM.out; omega⟩
                    rw [hmq] at e2 hcq
                    clear hmq e1
                    go_wp2
                    exact ⟨⟨q, by omega, rfl, by rw [HST.out]; congr 1; omega⟩, by simp [intOf]⟩
              · have hne9 : ¬ (k : Int) = 9 := by omega
                by_cases hk0 : k = 0
                · subst hk0
                  have hw0 : IntKind.i64.wrap (p : Int) = (m : Int) := by simpa using hw
                  go_wp2
                  go_loop [8, 9] (fun v i => ∃ q : Nat, q ≤ 0 + 1 ∧ i = .int .i64 ((q : Int) - 1) ∧ v = .int .u64 (valF (L.drop q) : Nat)) (fun _ i => (intOf i + 1).toNat)
                  case atStart => exact ⟨0 + 1, by omega, by go_num, by rw [LD0.out]; rfl⟩
                  case round =>
                    obtain ⟨q, hq, rfl, rfl⟩ := hrel
                    cases q with
                    | zero =>
                      rw [List.drop_zero]
                      have hk1 : IntKind.i64.wrap ((0 : Int) + 1) = ((0 + 1 : Nat) : Int) := by rw [IntKind.wrap_i64]; omega
                      go_wp2
                      go_ret3
                      obtain rfl := HLT.out
                      exact ⟨rfl, rfl⟩
                    | succ q =>
                      obtain ⟨b', off', he, hcq, hcq256⟩ := HC.out q (by have := HM.out; omega)
                      obtain ⟨rfl, rfl⟩ : b = b' ∧ off = off' := by injection he with he; injection he with h1 h2; exact ⟨h1, h2⟩
                      have hst := LST.out q (by omega)
                      have hb1 := LBD.out q
                      rw [hst] at hb1
                      have HST := Lib.hid hst
                      clear hst he
                      have hb2 := hb1
                      generalize valF (L.drop (q + 1)) = V at *
                      generalize D.getD q 0 = cq at *
                      have e1 : ((q + 1 : Nat) : Int) - 1 = (q : Int) := by omega
                      rw [e1]
                      have e2 : IntKind.i64.wrap ((p : Int) + (q : Int)) = ((p + q : Nat) : Int) := by rw [IntKind.wrap_i64]; omega
                      have e3 : IntKind.i64.wrap ((q : Int) - 1) = (q : Int) - 1 := by rw [IntKind.wrap_i64]; omega
                      have e4 : IntKind.u64.wrap ((V : Int) * 128) = (V : Int) * 128 := by rw [IntKind.wrap_u64]; omega
                      have e5 : IntKind.u64.wrap ((V : Int) * 128 + ((cq : Int) % 128)) = (V : Int) * 128 + ((cq : Int) % 128) := by rw [IntKind.wrap_u64]; omega
                      obtain ⟨mq, hmq, hmqn⟩ : ∃ mq, p + q = mq ∧ mq < n := ⟨_, rfl, by have := HM.out; omega⟩
                      rw [hmq] at e2 hcq
                      clear hmq e1
                      go_wp2
                      exact ⟨⟨q, by omega, rfl, by rw [HST.out]; congr 1; omega⟩, by simp [intOf]⟩
                · have hk0' : (0 : Int) < k := by omega
                  have hc0 : ¬ (c : Int) = 0 := by omega
                  go_wp2
                  go_loop [8, 9] (fun v i => ∃ q : Nat, q ≤ k + 1 ∧ i = .int .i64 ((q : Int) - 1) ∧ v = .int .u64 (valF (L.drop q) : Nat)) (fun _ i => (intOf i + 1).toNat)
                  case atStart => exact ⟨k + 1, by omega, by go_num, by rw [LD0.out]; rfl⟩
                  case round =>
                    obtain ⟨q, hq, rfl, rfl⟩ := hrel
                    cases q with
                    | zero =>
                      rw [List.drop_zero]
                      have hk1 : IntKind.i64.wrap ((k : Int) + 1) = ((k + 1 : Nat) : Int) := by rw [IntKind.wrap_i64]; omega
                      go_wp2
                      go_ret3
                      obtain rfl := HLT.out
                      exact ⟨rfl, rfl⟩
                    | succ q =>
                      obtain ⟨b', off', he, hcq, hcq256⟩ := HC.out q (by have := HM.out; omega)
                      obtain ⟨rfl, rfl⟩ : b = b' ∧ off = off' := by injection he with he; injection he with h1 h2; exact ⟨h1, h2⟩
                      have hst := LST.out q (by omega)
                      have hb1 := LBD.out q
                      rw [hst] at hb1
                      have HST := Lib.hid hst
                      clear hst he
                      have hb2 := hb1
                      generalize valF (L.drop (q + 1)) = V at *
                      generalize D.getD q 0 = cq at *
                      have e1 : ((q + 1 : Nat) : Int) - 1 = (q : Int) := by omega
                      rw [e1]
                      have e2 : IntKind.i64.wrap ((p : Int) + (q : Int)) = ((p + q : Nat) : Int) := by rw [IntKind.wrap_i64]; omega
                      have e3 : IntKind.i64.wrap ((q : Int) - 1) = (q : Int) - 1 := by rw [IntKind.wrap_i64]; omega
                      have e4 : IntKind.u64.wrap ((V : Int) * 128) = (V : Int) * 128 := by rw [IntKind.wrap_u64]; omega
                      have e5 : IntKind.u64.wrap ((V : Int) * 128 + ((cq : Int) % 128)) = (V : Int) * 128 + ((cq : Int) % 128) := by rw [IntKind.wrap_u64]; omega
                      obtain ⟨mq, hmq, hmqn⟩ : ∃ mq, p + q = mq ∧ mq < n := ⟨_, rfl, by have := HM.out; omega⟩
                      rw [hmq] at e2 hcq
                      clear hmq e1
                      go_wp2
                      exact ⟨⟨q, by omega, rfl, by rw [HST.out]; congr 1; omega⟩, by simp [intOf]⟩
      · have hlt' : ¬ (m : Int) < n := by omega
        have hge : get D = (0, 0, 3) := get_end (by rw [HDL.out]; have := HM.out; omega) hk9 HALL.out HDB.out
        rw [HG.out] at hge
        subst hge
        by_cases h9 : k = 9
        · subst h9
          have hw9 : IntKind.i64.wrap ((p : Int) + 9) = (m : Int) := hw
          go_wp2
          all_goals (go_ret3; exact ⟨rfl, rfl⟩)
        · have hne9 : ¬ (k : Int) = 9 := by omega
          go_wp2
          all_goals (go_ret3; exact ⟨rfl, rfl⟩)
end Go.Proofs.Ytmjgpgnecohbcaa
