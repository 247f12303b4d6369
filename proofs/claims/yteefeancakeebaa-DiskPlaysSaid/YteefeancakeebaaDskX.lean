/- The walk of DiskPlays. -/
import Derived.Test.YteefeancakeebaaDskD
import Derived.Test.YteefeancakeebaaTypedB
import Derived.Deep.CutRange
import Derived.Deep.DeepCutAuto
import Derived.Deep.CutBlock
namespace Go.Proofs.Yteefeancakeebaa
open Go.RowKit

/-- the document's Disk in a variable of the law's -/
def Vr (W : World) (x : Nat) (A : Option Addr) (n c s : Nat) : Prop := W.heap[x]? = some (.cells #[.slice A n c, .int .i64 (s : Int)] 28 (0, 0))
theorem Row.apart {W : World} {A B : Option Addr} {n c m d s z : Nat} {bs : List Nat} (hr : Row W A n c bs) (hz : Vr W z B m d s) : ∀ a, A = some a → 0 < n → a.block ≠ z := by
  intro a ha hn
  obtain ⟨b, off, e, _, hcs⟩ := hr.bts.2.2.2 hn
  rw [ha] at e
  injection e with e
  subst e
  rintro rfl
  have h0 := hcs 0 hn
  rw [Nat.add_zero, cell_of_heap hz] at h0
  rcases off with _ | _ | off <;> simp at h0
/-- two variables, each not the Disk's -/
structure Sep (W : World) (g x y : Nat) : Prop where
  xg : x ≠ g
  yg : y ≠ g
  xy : x ≠ y
  xr : rowOf W g ≠ some x
  yr : rowOf W g ≠ some y
/-- the Disk, and the two variables, ahead of the store of a deed's answer -/
structure Pre (v W : World) (g x y : Nat) (bs : List Nat) (s : Nat) : Prop where
  disk : Dk W g g bs s
  kept : Kept v W
  xv : ∃ A n c t, Vr W x A n c t
  yv : ∃ A n c t, Vr W y A n c t
  sep : Sep W g x y
  vx : v.heap.size ≤ x
  vy : v.heap.size ≤ y
theorem Pre.lt {v W : World} {g x y s : Nat} {bs : List Nat} (h : Pre v W g x y bs s) : x < W.heap.size ∧ y < W.heap.size := by
  obtain ⟨_, _, _, _, h1⟩ := h.xv
  obtain ⟨_, _, _, _, h2⟩ := h.yv
  exact ⟨heap_lt h1, heap_lt h2⟩
theorem Pre.grow {v W W' : World} {g x y s : Nat} {bs : List Nat} (h : Pre v W g x y bs s) (k : Kept W W') : Pre v W' g x y bs s := by
  obtain ⟨A, n, c, t, h1⟩ := h.xv
  obtain ⟨A', n', c', t', h2⟩ := h.yv
  have hr := rowOf_below k.1 h.disk.lt
  exact ⟨h.disk.below k.1, h.kept.trans k, ⟨A, n, c, t, (k.1.block x (heap_lt h1)).trans h1⟩, ⟨A', n', c', t', (k.1.block y (heap_lt h2)).trans h2⟩, ⟨h.sep.xg, h.sep.yg, h.sep.xy, by rw [hr]; exact h.sep.xr, by rw [hr]; exact h.sep.yr⟩, h.vx, h.vy⟩
/-- a variable of two cells, written over -/
def put2 (W : World) (z : Nat) (A : Option Addr) (n c s : Nat) : World := (W.setCell ⟨z, 0, none⟩ (.slice A n c)).setCell ⟨z, 1, none⟩ (.int .i64 (s : Int))
theorem put2_size (W : World) (z : Nat) (A : Option Addr) (n c s : Nat) : (put2 W z A n c s).heap.size = W.heap.size := by simp [put2, World.setCell]
theorem put2_old (W : World) (z : Nat) (A : Option Addr) (n c s : Nat) {k : Nat} (hk : k ≠ z) : (put2 W z A n c s).heap[k]? = W.heap[k]? :=
  (Below.heap_setCell _ ⟨z, 1, none⟩ _ k hk).trans (Below.heap_setCell _ ⟨z, 0, none⟩ _ k hk)
theorem put2_new {W : World} {z : Nat} {B : Option Addr} {m d t : Nat} (h : Vr W z B m d t) (A : Option Addr) (n c s : Nat) : Vr (put2 W z A n c s) z A n c s := by
  unfold put2 Vr
  rw [heap_setCell_same (heap_setCell_same h _) _]
  rfl
theorem put2_below {W : World} {z B : Nat} (A : Option Addr) (n c s : Nat) (h : B ≤ z) : Below B W (put2 W z A n c s) := ((Below.refl _ _).setCell (p := ⟨z, 0, none⟩) h _).setCell (p := ⟨z, 1, none⟩) h _
theorem Dk.put2 {W : World} {base g s z : Nat} {bs : List Nat} (h : Dk W base g bs s) (h1 : z ≠ g) (h2 : rowOf W g ≠ some z) (A : Option Addr) (n c t : Nat) : Dk (put2 W z A n c t) base g bs s ∧ rowOf (Go.Proofs.Yteefeancakeebaa.put2 W z A n c t) g = rowOf W g := by
  obtain ⟨d1, r1⟩ := h.far (p := ⟨z, 0, none⟩) h1 h2 (.slice A n c)
  obtain ⟨d2, r2⟩ := d1.far (p := ⟨z, 1, none⟩) h1 (by rw [r1]; exact h2) (.int .i64 (t : Int))
  exact ⟨d2, r2.trans r1⟩
theorem Pre.put {v W : World} {g x y s z : Nat} {bs : List Nat} (h : Pre v W g x y bs s) (hz : v.heap.size ≤ z) (h1 : z ≠ g) (h2 : rowOf W g ≠ some z) (hx : x ≠ z) (hy : y ≠ z) (A : Option Addr) (n c t : Nat) : Pre v (put2 W z A n c t) g x y bs s := by
  obtain ⟨d, r⟩ := h.disk.put2 h1 h2 A n c t
  obtain ⟨A0, n0, c0, t0, e0⟩ := h.xv
  obtain ⟨A1, n1, c1, t1, e1⟩ := h.yv
  exact ⟨d, ⟨h.kept.1.trans (put2_below A n c t hz), by rw [put2_size]; exact h.kept.2⟩, ⟨A0, n0, c0, t0, (put2_old _ _ _ _ _ _ hx).trans e0⟩, ⟨A1, n1, c1, t1, (put2_old _ _ _ _ _ _ hy).trans e1⟩, ⟨h.sep.xg, h.sep.yg, h.sep.xy, by rw [r]; exact h.sep.xr, by rw [r]; exact h.sep.yr⟩, h.vx, h.vy⟩
theorem Row.put2 {W : World} {A B : Option Addr} {n c m d s z : Nat} {bs : List Nat} (hr : Row W A n c bs) (hz : ∃ A n c t, Vr W z A n c t) : Row (put2 W z B m d s) A n c bs := by
  obtain ⟨_, _, _, _, hz⟩ := hz
  exact hr.off (by rw [put2_size]; exact Nat.le_refl _) fun a ha hn => put2_old _ _ _ _ _ _ (hr.apart hz a ha hn)
theorem Far.put2 {W : World} {A B : Option Addr} {base g n m d t s z : Nat} {bs : List Nat} (hf : Far W g A n) (h : Dk W base g bs s) (h1 : z ≠ g) (h2 : rowOf W g ≠ some z) : Far (put2 W z B m d t) g A n := by
  unfold Far
  rw [(h.put2 h1 h2 B m d t).2]
  exact hf
/-- the deed's answer stands in the second variable -/
structure Mid (v W : World) (g x y : Nat) (bs : List Nat) (s : Nat) : Prop where
  pre : Pre v W g x y bs s
  sync : s ≤ bs.length
  val : ∃ A c, Vr W y A bs.length c s ∧ Row W A bs.length c bs ∧ Far W g A bs.length
theorem Pre.mid {v W : World} {g x y s c n : Nat} {bs : List Nat} {A : Option Addr} (h : Pre v W g x y bs s) (hs : s ≤ bs.length) (hn : bs.length = n) (hr : Row W A n c bs) (hf : Far W g A n) : Mid v (put2 W y A n c s) g x y bs s := by
  subst hn
  obtain ⟨d, r⟩ := h.disk.put2 h.sep.yg h.sep.yr A bs.length c s
  obtain ⟨A0, n0, c0, t0, e0⟩ := h.xv
  have hv := h.yv
  obtain ⟨A1, n1, c1, t1, e1⟩ := h.yv
  have e2 := put2_new e1 A bs.length c s
  have hy := h.vy
  exact ⟨⟨d, ⟨h.kept.1.trans (put2_below _ _ _ _ hy), by rw [put2_size]; exact h.kept.2⟩, ⟨A0, n0, c0, t0, (put2_old _ _ _ _ _ _ h.sep.xy).trans e0⟩, ⟨A, _, c, s, e2⟩, ⟨h.sep.xg, h.sep.yg, h.sep.xy, by rw [r]; exact h.sep.xr, by rw [r]; exact h.sep.yr⟩, h.vx, h.vy⟩, hs, A, c, e2, hr.put2 hv, hf.put2 h.disk h.sep.yg h.sep.yr⟩
theorem Pre.end_ {v w2 wz : World} {g x y s c n z m d t : Nat} {bs : List Nat} {A B : Option Addr} (hp : Pre v w2 g x y bs s) (k : Kept w2 wz) (hz : w2.heap.size ≤ z) (hv : Vr wz z B m d t) (hs : s ≤ bs.length) (hn : bs.length = n) (hr : Row wz A n c bs) (hf : Far wz g A n) :
    Mid v (put2 (put2 wz z A n c s) y A n c s) g x y bs s := by
  have pz := hp.grow k
  have h1 := hp.disk.lt
  have h2 := hp.lt
  have h3 : rowOf wz g ≠ some z := fun e => by rw [rowOf_below k.1 h1] at e; have := (hp.disk.row_lt z e).2; omega
  have hzg : z ≠ g := by omega
  exact (pz.put (by have := hp.kept.2; omega) hzg h3 (by omega) (by omega) A n c s).mid hs hn (hr.put2 ⟨_, _, _, _, hv⟩) (hf.put2 pz.disk hzg h3)
/-- the document's Disk beside the program's, at a round's head -/
structure Both (v W : World) (g x : Nat) (bs : List Nat) (s : Nat) : Prop where
  disk : Dk W g g bs s
  sync : s ≤ bs.length
  kept : Kept v W
  var : ∃ A c, Vr W x A bs.length c s ∧ Row W A bs.length c bs ∧ Far W g A bs.length
  xg : x ≠ g ∧ rowOf W g ≠ some x
  vx : v.heap.size ≤ x
theorem Both.grow {v W W' : World} {g x s : Nat} {bs : List Nat} (h : Both v W g x bs s) (k : Kept W W') : Both v W' g x bs s := by
  obtain ⟨A, c, hv, hr, hf⟩ := h.var
  exact ⟨h.disk.below k.1, h.sync, h.kept.trans k, ⟨A, c, (k.1.block x (heap_lt hv)).trans hv, hr.below k.1, hf.below k.1 h.disk.lt⟩, ⟨h.xg.1, by rw [rowOf_below k.1 h.disk.lt]; exact h.xg.2⟩, h.vx⟩
theorem Mid.both {v W : World} {g x y s c : Nat} {bs : List Nat} {A : Option Addr} (h : Mid v W g x y bs s) (hv : Vr W y A bs.length c s) : Both v (put2 W x A bs.length c s) g x bs s := by
  obtain ⟨d, r⟩ := h.pre.disk.put2 h.pre.sep.xg h.pre.sep.xr A bs.length c s
  obtain ⟨A', c', hv', hr, hf⟩ := h.val
  have e : A' = A ∧ c' = c := by
    have := hv'.symm.trans hv
    simp at this
    exact this
  obtain ⟨rfl, rfl⟩ := e
  have hx := h.pre.xv
  obtain ⟨A1, n1, c1, t1, e1⟩ := h.pre.xv
  exact ⟨d, h.sync, ⟨h.pre.kept.1.trans (put2_below _ _ _ _ h.pre.vx), by rw [put2_size]; exact h.pre.kept.2⟩, ⟨A', c', put2_new e1 _ _ _ _, hr.put2 hx, hf.put2 h.pre.disk h.pre.sep.xg h.pre.sep.xr⟩, ⟨h.pre.sep.xg, by rw [r]; exact h.pre.sep.xr⟩, h.pre.vx⟩
theorem vr_cells {W : World} {x n c s : Nat} {A : Option Addr} (h : Vr W x A n c s) : W.cell? ⟨x, 0, none⟩ = some (.slice A n c) ∧ W.cell? ⟨x, 1, none⟩ = some (.int .i64 (s : Int)) ∧ W.frozen? ⟨x, 0, none⟩ = false ∧ W.frozen? ⟨x, 1, none⟩ = false := by
  have c0 := cell_of_heap h 0
  have c1 := cell_of_heap h 1
  simp only [List.getElem?_toArray, List.getElem?_cons_zero, List.getElem?_cons_succ] at c0 c1
  exact ⟨c0, c1, frozen_of_heap h 0, frozen_of_heap h 1⟩
/-- what a call of the document's tells: a Disk in new memory, and an error -/
def RefT (B n s e : Nat) (bs : List Nat) (u : Value) (w : World) : Prop := ∃ A c, u = .tuple #[.agg #[.slice A n c, .int .i64 (s : Int)], .int .i64 (e : Int)] ∧ Row w A n c bs ∧ ∀ a, A = some a → 0 < n → B ≤ a.block
def RefA (B n s : Nat) (bs : List Nat) (u : Value) (w : World) : Prop := ∃ A c, u = .agg #[.slice A n c, .int .i64 (s : Int)] ∧ Row w A n c bs ∧ ∀ a, A = some a → 0 < n → B ≤ a.block
def PtrT (B : Nat) (u : Value) (w : World) : Prop := ∃ z, u = .pointer (some ⟨z, 0, none⟩) ∧ B ≤ z ∧ Vr w z none 0 0 0
theorem RefT.mono (B n s e : Nat) (bs : List Nat) : (Slot.has (RefT B n s e bs)).Mono := fun _ _ _ hk ⟨A, c, h1, h2, h3⟩ => ⟨A, c, h1, h2.below hk.1, h3⟩
theorem RefA.mono (B n s : Nat) (bs : List Nat) : (Slot.has (RefA B n s bs)).Mono := fun _ _ _ hk ⟨A, c, h1, h2, h3⟩ => ⟨A, c, h1, h2.below hk.1, h3⟩
theorem PtrT.mono (B : Nat) : (Slot.has (PtrT B)).Mono := fun _ _ _ hk ⟨z, h1, h2, h3⟩ => ⟨z, h1, h2, (hk.1.block z (heap_lt h3)).trans h3⟩

set_option maxRecDepth 100000 in
set_option maxHeartbeats 4000000 in
theorem DiskPlays_walk (a0 : Option Addr) (len0 cap0 : Nat) (w : World) (w0 : SliceAt 3 40 (fun w cs => cs.length = 3 ∧ IsStruct [(0, 1, (IsInt .i64)), (1, 1, (IsInt .i64)), (2, 1, (IsSlice 1 1 (IsInt .u8)))] w cs) w a0 len0 cap0) :
    Calls Try.prog 3 #[.slice a0 len0 cap0] w fun e w' => e = .returned (.bool true) ∧ Below w.heap.size w w' := by
  have hl0 : len0 ≤ 140737488351232 := by have := w0.2.2.1; omega
  have HDEED := Lib.hid (fun k (hk : k < len0) => deed_at w0 hk)
  clear w0
  go_enter Try.func3, Try.ntmps3
  go_wp2_with fail
  refine (awake_any _).mono ?_
  rintro e v ⟨rfl, h1⟩
  have k1 : Kept w v := (Kept.refl w).call h1
  have K1 := Lib.hid k1
  clear h1 k1
  go_wp2_with fail
  refine (new_any _).mono ?_
  rintro e u ⟨rfl, rfl⟩
  have d2 := Dk.new v v.heap.size (Nat.le_refl _)
  have k2 : Kept v _ := (Kept.refl v).alloc (.cells #[.slice none 0 0, .int .i64 0] 50)
  have hr2 : rowOf (v.alloc (.cells #[.slice none 0 0, .int .i64 0] 50)) v.heap.size = none := rowOf_two (push_new v _)
  obtain ⟨u, hu⟩ : ∃ u, v.alloc (.cells #[.slice none 0 0, .int .i64 0] 50) = u := ⟨_, rfl⟩
  rw [hu] at d2 k2 hr2 ⊢
  have hsz : u.heap.size = v.heap.size + 1 := by rw [← hu]; simp
  clear hu
  have b3 : Below u.heap.size u (u.alloc (.cells #[.slice none 0 0, .int .i64 0] 28)) := (Below.refl _ _).alloc (Nat.le_refl _) _
  have hboth : Both v (u.alloc (.cells #[.slice none 0 0, .int .i64 0] 28)) v.heap.size u.heap.size [] 0 :=
    ⟨d2.below b3, Nat.zero_le _, k2.alloc _, ⟨none, 0, push_new u _, Row.none, (fun a e => by cases e)⟩, ⟨by omega, by rw [rowOf_below b3 d2.lt, hr2]; simp⟩, by omega⟩
  have HB := Lib.hid hboth
  clear d2 k2 hr2 b3 hboth hsz
  go_wp2
  generalize u.heap.size = x at *
  generalize u.alloc (.cells #[.slice none 0 0, .int .i64 0] 28) = u1 at *
  go_loopw [6] (fun i wr => ∃ (k : Nat) (bs : List Nat) (s : Nat), k ≤ len0 ∧ k ≤ 100 ∧ i = .int .i64 k ∧ Both v wr v.heap.size x bs s) (fun i _ => 100 - (intOf i).toNat)
  case atStart => exact ⟨0, [], 0, Nat.zero_le _, Nat.zero_le _, rfl, HB.out⟩
  case round =>
    obtain ⟨k, bs, s, hk, hk1, rfl, hb⟩ := hrel
    clear HB
    by_cases hgo : k < len0 ∧ k < 100
    · obtain ⟨hg1, hg2⟩ := hgo
      obtain ⟨b, off, kind, n, B, m, d, cs, rfl, hbl, c0, c1, c2, hrow, hm⟩ := HDEED.out k hg1
      have kk := K1.out.trans hb.kept
      have c0 := (kk.cell (p := ⟨b, off + k * 3, none⟩) hbl).trans c0
      have c1 := (kk.cell (p := ⟨b, off + k * 3 + 1, none⟩) hbl).trans c1
      have c2 := (kk.cell (p := ⟨b, off + k * 3 + 2, none⟩) hbl).trans c2
      go_wp2_with fail
      refine (do_any kind n hb.disk hb.sync (hrow.below kk.1)).mono ?_
      obtain ⟨pe, pb, ps, hpl⟩ : ∃ pe pb ps, ply kind n cs bs s = (pe, pb, ps) := ⟨_, _, _, rfl⟩
      have hps := ply_le (kind := kind) (n := n) (cs := cs) hb.sync
      rw [hpl] at hps ⊢
      rintro e w1 ⟨rfl, hd1⟩
      simp only at hd1 hps ⊢
      have k1 : Kept v w1 := hd1.kept hb.kept (Nat.le_refl _)
      obtain ⟨A, c, hv, hrA, hfA⟩ := hb.var
      obtain ⟨hrA1, hfA1⟩ := hd1.row hrA hfA
      have hv1 : Vr w1 x A bs.length c s := (hd1.2.2.rest x (heap_lt hv) hb.xg.1 hb.xg.2).trans hv
      have hx1 : rowOf w1 v.heap.size ≠ some x := fun e => hb.xg.2 (hd1.2.2.row x e (heap_lt hv))
      have kk1 := K1.out.trans k1
      have c0 := (kk1.cell (p := ⟨b, off + k * 3, none⟩) hbl).trans ((kk.cell (p := ⟨b, off + k * 3, none⟩) hbl).symm.trans c0)
      have c1 := (kk1.cell (p := ⟨b, off + k * 3 + 1, none⟩) hbl).trans ((kk.cell (p := ⟨b, off + k * 3 + 1, none⟩) hbl).symm.trans c1)
      have c2 := (kk1.cell (p := ⟨b, off + k * 3 + 2, none⟩) hbl).trans ((kk.cell (p := ⟨b, off + k * 3 + 2, none⟩) hbl).symm.trans c2)
      obtain ⟨x0, x1, -⟩ := vr_cells hv1
      have e0 : (w1.alloc (.cells #[.slice A bs.length c, .int .i64 (s : Int)] 28)).cell? ⟨b, off + k * 3, none⟩ = some (.int .i64 kind) := (((Kept.refl w1).alloc _).cell (p := ⟨b, off + k * 3, none⟩) (cell_lt c0)).trans c0
      have e1 : (w1.alloc (.cells #[.slice A bs.length c, .int .i64 (s : Int)] 28)).cell? ⟨b, off + k * 3 + 1, none⟩ = some (.int .i64 n) := (((Kept.refl w1).alloc _).cell (p := ⟨b, off + k * 3 + 1, none⟩) (cell_lt c1)).trans c1
      have e2 : (w1.alloc (.cells #[.slice A bs.length c, .int .i64 (s : Int)] 28)).cell? ⟨b, off + k * 3 + 2, none⟩ = some (.slice B m d) := (((Kept.refl w1).alloc _).cell (p := ⟨b, off + k * 3 + 2, none⟩) (cell_lt c2)).trans c2
      have HPL := Lib.hid hpl
      have HPS := Lib.hid hps
      -- the world behind 'next := x'
      have ka : Kept w1 (w1.alloc (.cells #[.slice A bs.length c, .int .i64 (s : Int)] 28)) := (Kept.refl _).alloc _
      have hy2 : Vr (w1.alloc (.cells #[.slice A bs.length c, .int .i64 (s : Int)] 28)) w1.heap.size A bs.length c s := push_new w1 _
      have hpre : Pre v (w1.alloc (.cells #[.slice A bs.length c, .int .i64 (s : Int)] 28)) v.heap.size x w1.heap.size pb ps := by
        have hxl := heap_lt hv1
        have hgl := hd1.1.lt
        have hr := rowOf_below ka.1 hgl
        exact ⟨hd1.1.below ka.1, k1.trans ka, ⟨A, _, c, s, (ka.1.block x hxl).trans hv1⟩, ⟨A, _, c, s, hy2⟩, ⟨hb.xg.1, by omega, by omega, by rw [hr]; exact hx1, fun e => by rw [hr] at e; have := (hd1.1.row_lt _ e).2; omega⟩, hb.vx, k1.2⟩
      have HV := Lib.hid ((ka.1.block x (heap_lt hv1)).trans hv1)
      have HRA := Lib.hid (hrA1.below ka.1)
      have HFA := Lib.hid (hfA1.below ka.1 hd1.1.lt)
      have HROW := Lib.hid ((hrow.below kk1.1).below ka.1)
      have HP := Lib.hid hpre
      have HY := Lib.hid hy2
      have KW := Lib.hid (kk1.trans ka)
      have hbs := hb.disk.most
      have hss := hb.sync
      clear hd1 hv hv1 hrA hrA1 hfA hfA1 hrow hx1 k1 kk kk1 hb HDEED hpl hps ka hy2 hpre
      go_upto_block 2 with fail
      generalize w1.heap.size = y at *
      generalize w1.alloc (.cells #[.slice A bs.length c, .int .i64 (s : Int)] 28) = w2 at *
      go_cut [9] (fun e9 wx => e9 = .int .i64 (pe : Int) ∧ Mid v wx v.heap.size x y pb ps)
      case first =>
        obtain ⟨f0, f1, -⟩ := vr_cells HV.out
        have TX0 := Lib.hid fun (W : World) (h : Kept w2.drew W) => (((Kept.refl w2).drew.trans h).cell (p := ⟨x, 0, none⟩) (cell_lt f0)).trans f0
        have TX1 := Lib.hid fun (W : World) (h : Kept w2.drew W) => (((Kept.refl w2).drew.trans h).cell (p := ⟨x, 1, none⟩) (cell_lt f1)).trans f1
        have TE1 := Lib.hid fun (W : World) (h : Kept w2.drew W) => (((Kept.refl w2).drew.trans h).cell (p := ⟨b, off + k * 3 + 1, none⟩) (cell_lt e1)).trans e1
        have TE2 := Lib.hid fun (W : World) (h : Kept w2.drew W) => (((Kept.refl w2).drew.trans h).cell (p := ⟨b, off + k * 3 + 2, none⟩) (cell_lt e2)).trans e2
        clear x0 x1 c0 c1 c2
        by_cases k0 : kind = 0
        · subst k0
          by_cases hf : 1048576 < bs.length + m
          ·
            obtain ⟨rfl, rfl, rfl⟩ : 5 = pe ∧ bs = pb ∧ s = ps := by
              have := HPL.out
              unfold ply at this
              rw [if_pos rfl, if_pos (by rw [HROW.out.len]; exact hf)] at this
              simp only [Prod.mk.injEq] at this
              exact this
            go_wp2_with fail
            refine wp_region_typed (N := 11) (fl := [false, false, false, false, false, false, false, false, false, true]) (by kernel_rfl) (by kernel_rfl) ?_
            simp only [List.take_succ_cons, List.take_zero, List.drop_succ_cons, List.drop_zero, List.map_cons, List.map_nil, zipF]
            repeat (first
              | (refine wpT_skip rfl ?_; dsimp only [putS, List.set_cons_succ, List.set_cons_zero])
              | (refine wpT_slot (S := .is _) _ (.inl rfl) rfl (Slot.mono_is _) rfl ?_; dsimp only [putS, List.set_cons_succ, List.set_cons_zero])
              | (refine wpT_slot (S := .is _) _ (.inr rfl) rfl (Slot.mono_is _) rfl ?_; dsimp only [putS, List.set_cons_succ, List.set_cons_zero])
              | (refine wpT_exact1 rfl rfl rfl ?_; apply Exists.intro; refine ⟨fun ρ w hk ⟨c1, c2, c3⟩ h1 => ?_, ?_⟩; (· have t0 := TX0.out w hk; have t1 := TX1.out w hk; have t2 := TE1.out w hk; have t3 := TE2.out w hk; go_simp; exact rfl); dsimp only [putS, List.set_cons_succ, List.set_cons_zero])
              | (refine wpT_exact2 rfl rfl rfl rfl ?_; apply Exists.intro; refine ⟨fun ρ w hk ⟨c1, c2, c3⟩ h1 h2 => ?_, ?_⟩; (· have t0 := TX0.out w hk; have t1 := TX1.out w hk; have t2 := TE1.out w hk; have t3 := TE2.out w hk; go_simp; exact rfl); dsimp only [putS, List.set_cons_succ, List.set_cons_zero])
              | (refine wpT_exact3 rfl rfl rfl rfl rfl ?_; apply Exists.intro; refine ⟨fun ρ w hk ⟨c1, c2, c3⟩ h1 h2 h3 => ?_, ?_⟩; (· have t0 := TX0.out w hk; have t1 := TX1.out w hk; have t2 := TE1.out w hk; have t3 := TE2.out w hk; go_simp; exact rfl); dsimp only [putS, List.set_cons_succ, List.set_cons_zero])
              | (refine wpT_exact0 rfl ?_; apply Exists.intro; refine ⟨fun ρ w hk ⟨c1, c2, c3⟩ => ?_, ?_⟩; (· have t0 := TX0.out w hk; have t1 := TX1.out w hk; have t2 := TE1.out w hk; have t3 := TE2.out w hk; go_simp; exact rfl); dsimp only [putS, List.set_cons_succ, List.set_cons_zero])
              | (refine wpT_has (PtrT.mono w2.heap.size) rfl (fun ρ w hk ⟨c1, c2, c3⟩ _ => upT_made (.pointer (some ⟨w.heap.size, 0, none⟩)) (w' := w.alloc (.cells #[.slice none 0 0, .int .i64 0] 28)) ?_ ((Kept.refl w).alloc _) ⟨_, rfl, hk.2, push_new w _⟩) ?_; (· go_simp); dsimp only [putS, List.set_cons_succ, List.set_cons_zero])
              | (refine wpT_late (v := .int .i64 5) rfl (fun ρ w hk ⟨c1, c2, c3⟩ ⟨h1, _⟩ => ?_) ?_
                 · have h1 : ρ (.tmp 57) = _ := h1
                   intro w'
                   go_simp
                 dsimp only [putS, List.set_cons_succ, List.set_cons_zero])
              | (refine wpT_is (.tuple #[.agg #[.slice A bs.length c, .int .i64 (s : Int)], .int .i64 5]) rfl (fun ρ w hk ⟨c1, c2, c3⟩ ⟨h1, h2, _⟩ => ?_) ?_
                 · have h1 : ρ (.tmp 58) = _ := h1
                   have h2 : ρ (.tmp 63) = _ := h2
                   refine upT_call 12 #[.agg #[.slice A bs.length c, .int .i64 (s : Int)], .slice B m d] ?_ ((refAppend_full (s : Int) w hbs hm hf).mono ?_)
                   · go_simp
                   rintro e u ⟨rfl, hb⟩
                   exact ⟨_, rfl, ⟨hb, hb.size⟩, rfl⟩
                 dsimp only [putS, List.set_cons_succ, List.set_cons_zero]))
            refine wpT_nil ?_
            intro wz kz
            simp only [Fits]
            rintro uz ⟨z, rfl, hz, hvz⟩
            have kz' : Kept w2 wz := ((Kept.refl w2).drew).trans kz
            have HVZ := Lib.hid hvz
            obtain ⟨z0, z1, z2, z3⟩ := vr_cells hvz
            have hy' : Vr wz y A bs.length c s := (kz'.1.block y (heap_lt HY.out)).trans HY.out
            obtain ⟨y0, y1, y2, y3⟩ := vr_cells hy'
            have hzy : z ≠ y := by have := heap_lt HY.out; omega
            have hyz : y ≠ z := Ne.symm hzy
            have HZ := Lib.hid hz
            have KZ := Lib.hid kz'
            clear hz hy' kz kz' hvz
            go_wp2_with fail
            refine only_end ?_
            go_wp2_with fail
            go_meet
            exact ⟨rfl, HP.out.end_ KZ.out HZ.out HVZ.out HPS.out rfl (HRA.out.below KZ.out.1) (HFA.out.below KZ.out.1 HP.out.disk.lt)⟩
          ·
            obtain ⟨rfl, rfl, rfl⟩ : 0 = pe ∧ bs ++ cs = pb ∧ s = ps := by
              have := HPL.out
              unfold ply at this
              rw [if_pos rfl, if_neg (by rw [HROW.out.len]; exact hf)] at this
              simp only [Prod.mk.injEq] at this
              exact this
            go_wp2_with fail
            refine wp_region_typed (N := 11) (fl := [false, false, false, false, false, false, false, false, false, true]) (by kernel_rfl) (by kernel_rfl) ?_
            simp only [List.take_succ_cons, List.take_zero, List.drop_succ_cons, List.drop_zero, List.map_cons, List.map_nil, zipF]
            repeat (first
              | (refine wpT_skip rfl ?_; dsimp only [putS, List.set_cons_succ, List.set_cons_zero])
              | (refine wpT_slot (S := .is _) _ (.inl rfl) rfl (Slot.mono_is _) rfl ?_; dsimp only [putS, List.set_cons_succ, List.set_cons_zero])
              | (refine wpT_slot (S := .is _) _ (.inr rfl) rfl (Slot.mono_is _) rfl ?_; dsimp only [putS, List.set_cons_succ, List.set_cons_zero])
              | (refine wpT_exact1 rfl rfl rfl ?_; apply Exists.intro; refine ⟨fun ρ w hk ⟨c1, c2, c3⟩ h1 => ?_, ?_⟩; (· have t0 := TX0.out w hk; have t1 := TX1.out w hk; have t2 := TE1.out w hk; have t3 := TE2.out w hk; go_simp; exact rfl); dsimp only [putS, List.set_cons_succ, List.set_cons_zero])
              | (refine wpT_exact2 rfl rfl rfl rfl ?_; apply Exists.intro; refine ⟨fun ρ w hk ⟨c1, c2, c3⟩ h1 h2 => ?_, ?_⟩; (· have t0 := TX0.out w hk; have t1 := TX1.out w hk; have t2 := TE1.out w hk; have t3 := TE2.out w hk; go_simp; exact rfl); dsimp only [putS, List.set_cons_succ, List.set_cons_zero])
              | (refine wpT_exact3 rfl rfl rfl rfl rfl ?_; apply Exists.intro; refine ⟨fun ρ w hk ⟨c1, c2, c3⟩ h1 h2 h3 => ?_, ?_⟩; (· have t0 := TX0.out w hk; have t1 := TX1.out w hk; have t2 := TE1.out w hk; have t3 := TE2.out w hk; go_simp; exact rfl); dsimp only [putS, List.set_cons_succ, List.set_cons_zero])
              | (refine wpT_exact0 rfl ?_; apply Exists.intro; refine ⟨fun ρ w hk ⟨c1, c2, c3⟩ => ?_, ?_⟩; (· have t0 := TX0.out w hk; have t1 := TX1.out w hk; have t2 := TE1.out w hk; have t3 := TE2.out w hk; go_simp; exact rfl); dsimp only [putS, List.set_cons_succ, List.set_cons_zero])
              | (refine wpT_has (PtrT.mono w2.heap.size) rfl (fun ρ w hk ⟨c1, c2, c3⟩ _ => upT_made (.pointer (some ⟨w.heap.size, 0, none⟩)) (w' := w.alloc (.cells #[.slice none 0 0, .int .i64 0] 28)) ?_ ((Kept.refl w).alloc _) ⟨_, rfl, hk.2, push_new w _⟩) ?_; (· go_simp); dsimp only [putS, List.set_cons_succ, List.set_cons_zero])
              | (refine wpT_slot (S := .has _) _ (.inl rfl) rfl (RefT.mono _ _ _ _ _) rfl ?_; dsimp only [putS, List.set_cons_succ, List.set_cons_zero])
              | (refine wpT_has (RefT.mono w2.heap.size (bs.length + m) s 0 (bs ++ cs)) rfl (fun ρ w hk ⟨c1, c2, c3⟩ ⟨h1, h2, _⟩ => ?_) ?_
                 · have h1 : ρ (.tmp 58) = _ := h1
                   have h2 : ρ (.tmp 63) = _ := h2
                   have kw : Kept w2 w := ((Kept.refl w2).drew).trans hk
                   refine upT_call 12 #[.agg #[.slice A bs.length c, .int .i64 (s : Int)], .slice B m d] ?_ ((refAppend_ok (s : Int) (HRA.out.below kw.1) (HROW.out.below kw.1) (by omega)).mono ?_)
                   · go_simp
                   rintro e u ⟨A', c', rfl, hr, hge, hb⟩
                   exact ⟨_, rfl, ⟨hb, hb.size⟩, A', c', rfl, hr, fun a ha hn => Nat.le_trans kw.2 (hge a ha hn)⟩
                 dsimp only [putS, List.set_cons_succ, List.set_cons_zero])
              | (refine wpT_has (RefA.mono w2.heap.size (bs.length + m) s (bs ++ cs)) rfl (fun ρ w hk ⟨c1, c2, c3⟩ ⟨h1, _⟩ => ?_) ?_
                 · obtain ⟨A', c', h1, hr, hge⟩ := h1
                   refine upT_made (.agg #[.slice A' (bs.length + m) c', .int .i64 ((s : Nat) : Int)]) ?_ (Kept.refl _) ⟨A', c', rfl, hr, hge⟩
                   go_simp
                 dsimp only [putS, List.set_cons_succ, List.set_cons_zero])
              | (refine wpT_late (v := .int .i64 ((0 : Nat) : Int)) rfl (fun ρ w hk ⟨c1, c2, c3⟩ ⟨h1, _⟩ => ?_) ?_
                 · obtain ⟨A', c', h1, hr, hge⟩ := h1
                   intro w'
                   go_simp
                 dsimp only [putS, List.set_cons_succ, List.set_cons_zero]))
            refine wpT_nil ?_
            intro wz kz
            simp only [Fits]
            rintro uz ⟨z, rfl, hz, hvz⟩ u2 - u3 - u4 ⟨A', c', rfl, hr', hge'⟩
            have kz' : Kept w2 wz := ((Kept.refl w2).drew).trans kz
            have HVZ := Lib.hid hvz
            obtain ⟨z0, z1, z2, z3⟩ := vr_cells hvz
            have hy' : Vr wz y A bs.length c s := (kz'.1.block y (heap_lt HY.out)).trans HY.out
            obtain ⟨y0, y1, y2, y3⟩ := vr_cells hy'
            have hzy : z ≠ y := by have := heap_lt HY.out; omega
            have hyz : y ≠ z := Ne.symm hzy
            have HZ := Lib.hid hz
            have KZ := Lib.hid kz'
            have HR' := Lib.hid hr'
            have HG' := Lib.hid hge'
            clear hz hy' kz kz' hvz hr' hge'
            go_wp2_with fail
            refine only_end ?_
            go_wp2_with fail
            go_meet
            exact ⟨rfl, HP.out.end_ KZ.out HZ.out HVZ.out HPS.out (by rw [List.length_append, HROW.out.len]) HR'.out (Far.new HP.out.disk KZ.out.1 HG'.out)⟩
        · by_cases k1 : kind = 1
          · subst k1
            obtain ⟨rfl, rfl, rfl⟩ : 0 = pe ∧ bs = pb ∧ bs.length = ps := by
              have := HPL.out
              unfold ply at this
              rw [if_neg k0, if_pos rfl] at this
              simp only [Prod.mk.injEq] at this
              exact this
            go_wp2_with (first
              | (go_at_call 13
                 refine (refSync_any (s : Int) _).mono ?_
                 rintro e wz ⟨rfl, hbz⟩
                 have KZ := Lib.hid (⟨hbz, hbz.size⟩ : Kept w2 wz)
                 have hy' : Vr wz y A bs.length c s := (hbz.block y (heap_lt HY.out)).trans HY.out
                 obtain ⟨y0, y1, y2, y3⟩ := vr_cells hy'
                 clear hy' hbz))
            go_meet
            exact ⟨rfl, (HP.out.grow KZ.out).mid HPS.out rfl (HRA.out.below KZ.out.1) (HFA.out.below KZ.out.1 HP.out.disk.lt)⟩
          · by_cases k2 : kind = 2
            · subst k2
              obtain ⟨rfl, hq, rfl⟩ : 0 = pe ∧ s + kept n (bs.length - s) = ps ∧ bs.take ps = pb := by
                have := HPL.out
                unfold ply at this
                rw [if_neg k0, if_neg k1, if_pos rfl] at this
                simp only [Prod.mk.injEq] at this
                exact ⟨this.1, this.2.2, by rw [← this.2.2]; exact this.2.1⟩
              have hpl : ps ≤ bs.length := by have := kept_le' n (bs.length - s); omega
              have HQ := Lib.hid hq
              clear hq
              go_wp2_with fail
              refine wp_region_typed (N := 7) (fl := []) (by kernel_rfl) (by kernel_rfl) ?_
              simp only [List.take_succ_cons, List.take_zero, List.drop_succ_cons, List.drop_zero, List.map_cons, List.map_nil, zipF]
              repeat (first
                | (refine wpT_skip rfl ?_; dsimp only [putS, List.set_cons_succ, List.set_cons_zero])
                | (refine wpT_slot (S := .is _) _ (.inl rfl) rfl (Slot.mono_is _) rfl ?_; dsimp only [putS, List.set_cons_succ, List.set_cons_zero])
                | (refine wpT_slot (S := .is _) _ (.inr rfl) rfl (Slot.mono_is _) rfl ?_; dsimp only [putS, List.set_cons_succ, List.set_cons_zero])
                | (refine wpT_exact1 rfl rfl rfl ?_; apply Exists.intro; refine ⟨fun ρ w hk ⟨c1, c2, c3⟩ h1 => ?_, ?_⟩; (· have t0 := TX0.out w hk; have t1 := TX1.out w hk; have t2 := TE1.out w hk; have t3 := TE2.out w hk; go_simp; exact rfl); dsimp only [putS, List.set_cons_succ, List.set_cons_zero])
                | (refine wpT_exact2 rfl rfl rfl rfl ?_; apply Exists.intro; refine ⟨fun ρ w hk ⟨c1, c2, c3⟩ h1 h2 => ?_, ?_⟩; (· have t0 := TX0.out w hk; have t1 := TX1.out w hk; have t2 := TE1.out w hk; have t3 := TE2.out w hk; go_simp; exact rfl); dsimp only [putS, List.set_cons_succ, List.set_cons_zero])
                | (refine wpT_exact3 rfl rfl rfl rfl rfl ?_; apply Exists.intro; refine ⟨fun ρ w hk ⟨c1, c2, c3⟩ h1 h2 h3 => ?_, ?_⟩; (· have t0 := TX0.out w hk; have t1 := TX1.out w hk; have t2 := TE1.out w hk; have t3 := TE2.out w hk; go_simp; exact rfl); dsimp only [putS, List.set_cons_succ, List.set_cons_zero])
                | (refine wpT_exact0 rfl ?_; apply Exists.intro; refine ⟨fun ρ w hk ⟨c1, c2, c3⟩ => ?_, ?_⟩; (· have t0 := TX0.out w hk; have t1 := TX1.out w hk; have t2 := TE1.out w hk; have t3 := TE2.out w hk; go_simp; exact rfl); dsimp only [putS, List.set_cons_succ, List.set_cons_zero])
                | (refine wpT_is (.agg #[.slice A ps c, .int .i64 (ps : Int)]) rfl (fun ρ w hk ⟨c1, c2, c3⟩ ⟨h1, h2, _⟩ => ?_) ?_
                   · have h1 : ρ (.tmp 75) = _ := h1
                     have h2 : ρ (.tmp 80) = _ := h2
                     have hcr := refCrash_any s n (HRA.out.below ((Kept.refl w2).drew.trans hk).1) hss hbs
                     rw [HQ.out] at hcr
                     refine upT_call 14 #[.agg #[.slice A bs.length c, .int .i64 (s : Int)], .int .i64 n] ?_ (hcr.mono ?_)
                     · go_simp
                     rintro e u ⟨rfl, hb⟩
                     exact ⟨_, rfl, ⟨hb, hb.size⟩, rfl⟩
                   dsimp only [putS, List.set_cons_succ, List.set_cons_zero]))
              refine wpT_nil ?_
              intro wz kz
              simp only [Fits]
              have kz' : Kept w2 wz := ((Kept.refl w2).drew).trans kz
              have hy' : Vr wz y A bs.length c s := (kz'.1.block y (heap_lt HY.out)).trans HY.out
              obtain ⟨y0, y1, y2, y3⟩ := vr_cells hy'
              have KZ := Lib.hid kz'
              clear hy' kz kz'
              go_wp2_with fail
              refine only_end ?_
              go_wp2_with fail
              go_meet
              exact ⟨rfl, (HP.out.grow KZ.out).mid HPS.out (by simp; omega) ((HRA.out.below KZ.out.1).cut hpl) ((HFA.out.below KZ.out.1 HP.out.disk.lt).cut hpl)⟩
            · by_cases k3 : kind = 3
              · subst k3
                by_cases hf : n < 0 ∨ (bs.length : Int) < n
                ·
                  obtain ⟨rfl, rfl, rfl⟩ : 1 = pe ∧ bs = pb ∧ s = ps := by
                    have := HPL.out
                    unfold ply at this
                    rw [if_neg k0, if_neg k1, if_neg k2, if_pos rfl, if_pos hf] at this
                    simp only [Prod.mk.injEq] at this
                    exact this
                  go_wp2_with fail
                  refine wp_region_typed (N := 11) (fl := [false, false, false, false, false, false, false, false, false, true]) (by kernel_rfl) (by kernel_rfl) ?_
                  simp only [List.take_succ_cons, List.take_zero, List.drop_succ_cons, List.drop_zero, List.map_cons, List.map_nil, zipF]
                  repeat (first
                    | (refine wpT_skip rfl ?_; dsimp only [putS, List.set_cons_succ, List.set_cons_zero])
                    | (refine wpT_slot (S := .is _) _ (.inl rfl) rfl (Slot.mono_is _) rfl ?_; dsimp only [putS, List.set_cons_succ, List.set_cons_zero])
                    | (refine wpT_slot (S := .is _) _ (.inr rfl) rfl (Slot.mono_is _) rfl ?_; dsimp only [putS, List.set_cons_succ, List.set_cons_zero])
                    | (refine wpT_exact1 rfl rfl rfl ?_; apply Exists.intro; refine ⟨fun ρ w hk ⟨c1, c2, c3⟩ h1 => ?_, ?_⟩; (· have t0 := TX0.out w hk; have t1 := TX1.out w hk; have t2 := TE1.out w hk; have t3 := TE2.out w hk; go_simp; exact rfl); dsimp only [putS, List.set_cons_succ, List.set_cons_zero])
                    | (refine wpT_exact2 rfl rfl rfl rfl ?_; apply Exists.intro; refine ⟨fun ρ w hk ⟨c1, c2, c3⟩ h1 h2 => ?_, ?_⟩; (· have t0 := TX0.out w hk; have t1 := TX1.out w hk; have t2 := TE1.out w hk; have t3 := TE2.out w hk; go_simp; exact rfl); dsimp only [putS, List.set_cons_succ, List.set_cons_zero])
                    | (refine wpT_exact3 rfl rfl rfl rfl rfl ?_; apply Exists.intro; refine ⟨fun ρ w hk ⟨c1, c2, c3⟩ h1 h2 h3 => ?_, ?_⟩; (· have t0 := TX0.out w hk; have t1 := TX1.out w hk; have t2 := TE1.out w hk; have t3 := TE2.out w hk; go_simp; exact rfl); dsimp only [putS, List.set_cons_succ, List.set_cons_zero])
                    | (refine wpT_exact0 rfl ?_; apply Exists.intro; refine ⟨fun ρ w hk ⟨c1, c2, c3⟩ => ?_, ?_⟩; (· have t0 := TX0.out w hk; have t1 := TX1.out w hk; have t2 := TE1.out w hk; have t3 := TE2.out w hk; go_simp; exact rfl); dsimp only [putS, List.set_cons_succ, List.set_cons_zero])
                    | (refine wpT_has (PtrT.mono w2.heap.size) rfl (fun ρ w hk ⟨c1, c2, c3⟩ _ => upT_made (.pointer (some ⟨w.heap.size, 0, none⟩)) (w' := w.alloc (.cells #[.slice none 0 0, .int .i64 0] 28)) ?_ ((Kept.refl w).alloc _) ⟨_, rfl, hk.2, push_new w _⟩) ?_; (· go_simp); dsimp only [putS, List.set_cons_succ, List.set_cons_zero])
                    | (refine wpT_late (v := .int .i64 1) rfl (fun ρ w hk ⟨c1, c2, c3⟩ ⟨h1, _⟩ => ?_) ?_
                       · have h1 : ρ (.tmp 84) = _ := h1
                         intro w'
                         go_simp
                       dsimp only [putS, List.set_cons_succ, List.set_cons_zero])
                    | (refine wpT_is (.tuple #[.agg #[.slice A bs.length c, .int .i64 (s : Int)], .int .i64 1]) rfl (fun ρ w hk ⟨c1, c2, c3⟩ ⟨h1, h2, _⟩ => ?_) ?_
                       · have h1 : ρ (.tmp 85) = _ := h1
                         have h2 : ρ (.tmp 90) = _ := h2
                         refine upT_call 15 #[.agg #[.slice A bs.length c, .int .i64 (s : Int)], .int .i64 n] ?_ ((refCut_bad (s : Int) n w hf).mono ?_)
                         · go_simp
                         rintro e u ⟨rfl, hb⟩
                         exact ⟨_, rfl, ⟨hb, hb.size⟩, rfl⟩
                       dsimp only [putS, List.set_cons_succ, List.set_cons_zero]))
                  refine wpT_nil ?_
                  intro wz kz
                  simp only [Fits]
                  rintro uz ⟨z, rfl, hz, hvz⟩
                  have kz' : Kept w2 wz := ((Kept.refl w2).drew).trans kz
                  have HVZ := Lib.hid hvz
                  obtain ⟨z0, z1, z2, z3⟩ := vr_cells hvz
                  have hy' : Vr wz y A bs.length c s := (kz'.1.block y (heap_lt HY.out)).trans HY.out
                  obtain ⟨y0, y1, y2, y3⟩ := vr_cells hy'
                  have hzy : z ≠ y := by have := heap_lt HY.out; omega
                  have hyz : y ≠ z := Ne.symm hzy
                  have HZ := Lib.hid hz
                  have KZ := Lib.hid kz'
                  clear hz hy' kz kz' hvz
                  go_wp2_with fail
                  refine only_end ?_
                  go_wp2_with fail
                  go_meet
                  exact ⟨rfl, HP.out.end_ KZ.out HZ.out HVZ.out HPS.out rfl (HRA.out.below KZ.out.1) (HFA.out.below KZ.out.1 HP.out.disk.lt)⟩
                ·
                  obtain ⟨q, rfl⟩ := Int.eq_ofNat_of_zero_le (show 0 ≤ n by omega)
                  have hql : q ≤ bs.length := by omega
                  obtain ⟨rfl, hq, rfl⟩ : 0 = pe ∧ min s q = ps ∧ bs.take q = pb := by
                    have := HPL.out
                    unfold ply at this
                    rw [if_neg k0, if_neg k1, if_neg k2, if_pos rfl, if_neg hf] at this
                    simp only [Prod.mk.injEq] at this
                    exact ⟨this.1, this.2.2, this.2.1⟩
                  have HQ := Lib.hid hq
                  clear hq hf
                  go_wp2_with fail
                  refine wp_region_typed (N := 11) (fl := [false, false, false, false, false, false, false, false, false, true]) (by kernel_rfl) (by kernel_rfl) ?_
                  simp only [List.take_succ_cons, List.take_zero, List.drop_succ_cons, List.drop_zero, List.map_cons, List.map_nil, zipF]
                  repeat (first
                    | (refine wpT_skip rfl ?_; dsimp only [putS, List.set_cons_succ, List.set_cons_zero])
                    | (refine wpT_slot (S := .is _) _ (.inl rfl) rfl (Slot.mono_is _) rfl ?_; dsimp only [putS, List.set_cons_succ, List.set_cons_zero])
                    | (refine wpT_slot (S := .is _) _ (.inr rfl) rfl (Slot.mono_is _) rfl ?_; dsimp only [putS, List.set_cons_succ, List.set_cons_zero])
                    | (refine wpT_exact1 rfl rfl rfl ?_; apply Exists.intro; refine ⟨fun ρ w hk ⟨c1, c2, c3⟩ h1 => ?_, ?_⟩; (· have t0 := TX0.out w hk; have t1 := TX1.out w hk; have t2 := TE1.out w hk; have t3 := TE2.out w hk; go_simp; exact rfl); dsimp only [putS, List.set_cons_succ, List.set_cons_zero])
                    | (refine wpT_exact2 rfl rfl rfl rfl ?_; apply Exists.intro; refine ⟨fun ρ w hk ⟨c1, c2, c3⟩ h1 h2 => ?_, ?_⟩; (· have t0 := TX0.out w hk; have t1 := TX1.out w hk; have t2 := TE1.out w hk; have t3 := TE2.out w hk; go_simp; exact rfl); dsimp only [putS, List.set_cons_succ, List.set_cons_zero])
                    | (refine wpT_exact3 rfl rfl rfl rfl rfl ?_; apply Exists.intro; refine ⟨fun ρ w hk ⟨c1, c2, c3⟩ h1 h2 h3 => ?_, ?_⟩; (· have t0 := TX0.out w hk; have t1 := TX1.out w hk; have t2 := TE1.out w hk; have t3 := TE2.out w hk; go_simp; exact rfl); dsimp only [putS, List.set_cons_succ, List.set_cons_zero])
                    | (refine wpT_exact0 rfl ?_; apply Exists.intro; refine ⟨fun ρ w hk ⟨c1, c2, c3⟩ => ?_, ?_⟩; (· have t0 := TX0.out w hk; have t1 := TX1.out w hk; have t2 := TE1.out w hk; have t3 := TE2.out w hk; go_simp; exact rfl); dsimp only [putS, List.set_cons_succ, List.set_cons_zero])
                    | (refine wpT_has (PtrT.mono w2.heap.size) rfl (fun ρ w hk ⟨c1, c2, c3⟩ _ => upT_made (.pointer (some ⟨w.heap.size, 0, none⟩)) (w' := w.alloc (.cells #[.slice none 0 0, .int .i64 0] 28)) ?_ ((Kept.refl w).alloc _) ⟨_, rfl, hk.2, push_new w _⟩) ?_; (· go_simp); dsimp only [putS, List.set_cons_succ, List.set_cons_zero])
                    | (refine wpT_late (v := .int .i64 0) rfl (fun ρ w hk ⟨c1, c2, c3⟩ ⟨h1, _⟩ => ?_) ?_
                       · have h1 : ρ (.tmp 84) = _ := h1
                         intro w'
                         go_simp
                       dsimp only [putS, List.set_cons_succ, List.set_cons_zero])
                    | (refine wpT_is (.tuple #[.agg #[.slice A q c, .int .i64 (ps : Int)], .int .i64 0]) rfl (fun ρ w hk ⟨c1, c2, c3⟩ ⟨h1, h2, _⟩ => ?_) ?_
                       · have h1 : ρ (.tmp 85) = _ := h1
                         have h2 : ρ (.tmp 90) = _ := h2
                         refine upT_call 15 #[.agg #[.slice A bs.length c, .int .i64 (s : Int)], .int .i64 (q : Int)] ?_ (((HQ.out ▸ refCut_ok s q (HRA.out.below ((Kept.refl w2).drew.trans hk).1) hql)).mono ?_)
                         · go_simp
                         rintro e u ⟨rfl, hb⟩
                         exact ⟨_, rfl, ⟨hb, hb.size⟩, rfl⟩
                       dsimp only [putS, List.set_cons_succ, List.set_cons_zero]))
                  refine wpT_nil ?_
                  intro wz kz
                  simp only [Fits]
                  rintro uz ⟨z, rfl, hz, hvz⟩
                  have kz' : Kept w2 wz := ((Kept.refl w2).drew).trans kz
                  have HVZ := Lib.hid hvz
                  obtain ⟨z0, z1, z2, z3⟩ := vr_cells hvz
                  have hy' : Vr wz y A bs.length c s := (kz'.1.block y (heap_lt HY.out)).trans HY.out
                  obtain ⟨y0, y1, y2, y3⟩ := vr_cells hy'
                  have hzy : z ≠ y := by have := heap_lt HY.out; omega
                  have hyz : y ≠ z := Ne.symm hzy
                  have HZ := Lib.hid hz
                  have KZ := Lib.hid kz'
                  clear hz hy' kz kz' hvz
                  go_wp2_with fail
                  refine only_end ?_
                  go_wp2_with fail
                  go_meet
                  exact ⟨rfl, HP.out.end_ KZ.out HZ.out HVZ.out HPS.out (by simp; omega) ((HRA.out.below KZ.out.1).cut hql) ((HFA.out.below KZ.out.1 HP.out.disk.lt).cut hql)⟩
              · by_cases hf : 1048576 < m
                ·
                  obtain ⟨rfl, rfl, rfl⟩ : 5 = pe ∧ bs = pb ∧ s = ps := by
                    have := HPL.out
                    unfold ply at this
                    rw [if_neg k0, if_neg k1, if_neg k2, if_neg k3, if_pos (by rw [HROW.out.len]; exact hf)] at this
                    simp only [Prod.mk.injEq] at this
                    exact this
                  go_wp2_with fail
                  refine wp_region_typed (N := 11) (fl := [false, false, false, false, false, false, false, false, false, true]) (by kernel_rfl) (by kernel_rfl) ?_
                  simp only [List.take_succ_cons, List.take_zero, List.drop_succ_cons, List.drop_zero, List.map_cons, List.map_nil, zipF]
                  repeat (first
                    | (refine wpT_skip rfl ?_; dsimp only [putS, List.set_cons_succ, List.set_cons_zero])
                    | (refine wpT_slot (S := .is _) _ (.inl rfl) rfl (Slot.mono_is _) rfl ?_; dsimp only [putS, List.set_cons_succ, List.set_cons_zero])
                    | (refine wpT_slot (S := .is _) _ (.inr rfl) rfl (Slot.mono_is _) rfl ?_; dsimp only [putS, List.set_cons_succ, List.set_cons_zero])
                    | (refine wpT_exact1 rfl rfl rfl ?_; apply Exists.intro; refine ⟨fun ρ w hk ⟨c1, c2, c3⟩ h1 => ?_, ?_⟩; (· have t0 := TX0.out w hk; have t1 := TX1.out w hk; have t2 := TE1.out w hk; have t3 := TE2.out w hk; go_simp; exact rfl); dsimp only [putS, List.set_cons_succ, List.set_cons_zero])
                    | (refine wpT_exact2 rfl rfl rfl rfl ?_; apply Exists.intro; refine ⟨fun ρ w hk ⟨c1, c2, c3⟩ h1 h2 => ?_, ?_⟩; (· have t0 := TX0.out w hk; have t1 := TX1.out w hk; have t2 := TE1.out w hk; have t3 := TE2.out w hk; go_simp; exact rfl); dsimp only [putS, List.set_cons_succ, List.set_cons_zero])
                    | (refine wpT_exact3 rfl rfl rfl rfl rfl ?_; apply Exists.intro; refine ⟨fun ρ w hk ⟨c1, c2, c3⟩ h1 h2 h3 => ?_, ?_⟩; (· have t0 := TX0.out w hk; have t1 := TX1.out w hk; have t2 := TE1.out w hk; have t3 := TE2.out w hk; go_simp; exact rfl); dsimp only [putS, List.set_cons_succ, List.set_cons_zero])
                    | (refine wpT_exact0 rfl ?_; apply Exists.intro; refine ⟨fun ρ w hk ⟨c1, c2, c3⟩ => ?_, ?_⟩; (· have t0 := TX0.out w hk; have t1 := TX1.out w hk; have t2 := TE1.out w hk; have t3 := TE2.out w hk; go_simp; exact rfl); dsimp only [putS, List.set_cons_succ, List.set_cons_zero])
                    | (refine wpT_has (PtrT.mono w2.heap.size) rfl (fun ρ w hk ⟨c1, c2, c3⟩ _ => upT_made (.pointer (some ⟨w.heap.size, 0, none⟩)) (w' := w.alloc (.cells #[.slice none 0 0, .int .i64 0] 28)) ?_ ((Kept.refl w).alloc _) ⟨_, rfl, hk.2, push_new w _⟩) ?_; (· go_simp); dsimp only [putS, List.set_cons_succ, List.set_cons_zero])
                    | (refine wpT_late (v := .int .i64 5) rfl (fun ρ w hk ⟨c1, c2, c3⟩ ⟨h1, _⟩ => ?_) ?_
                       · have h1 : ρ (.tmp 43) = _ := h1
                         intro w'
                         go_simp
                       dsimp only [putS, List.set_cons_succ, List.set_cons_zero])
                    | (refine wpT_is (.tuple #[.agg #[.slice A bs.length c, .int .i64 (s : Int)], .int .i64 5]) rfl (fun ρ w hk ⟨c1, c2, c3⟩ ⟨h1, h2, _⟩ => ?_) ?_
                       · have h1 : ρ (.tmp 44) = _ := h1
                         have h2 : ρ (.tmp 49) = _ := h2
                         refine upT_call 16 #[.agg #[.slice A bs.length c, .int .i64 (s : Int)], .slice B m d] ?_ ((refInstall_full (s : Int) w hf).mono ?_)
                         · go_simp
                         rintro e u ⟨rfl, hb⟩
                         exact ⟨_, rfl, ⟨hb, hb.size⟩, rfl⟩
                       dsimp only [putS, List.set_cons_succ, List.set_cons_zero]))
                  refine wpT_nil ?_
                  intro wz kz
                  simp only [Fits]
                  rintro uz ⟨z, rfl, hz, hvz⟩
                  have kz' : Kept w2 wz := ((Kept.refl w2).drew).trans kz
                  have HVZ := Lib.hid hvz
                  obtain ⟨z0, z1, z2, z3⟩ := vr_cells hvz
                  have hy' : Vr wz y A bs.length c s := (kz'.1.block y (heap_lt HY.out)).trans HY.out
                  obtain ⟨y0, y1, y2, y3⟩ := vr_cells hy'
                  have hzy : z ≠ y := by have := heap_lt HY.out; omega
                  have hyz : y ≠ z := Ne.symm hzy
                  have HZ := Lib.hid hz
                  have KZ := Lib.hid kz'
                  clear hz hy' kz kz' hvz
                  go_wp2_with fail
                  refine only_end ?_
                  go_wp2_with fail
                  go_meet
                  exact ⟨rfl, HP.out.end_ KZ.out HZ.out HVZ.out HPS.out rfl (HRA.out.below KZ.out.1) (HFA.out.below KZ.out.1 HP.out.disk.lt)⟩
                ·
                  obtain ⟨rfl, rfl, rfl⟩ : 0 = pe ∧ cs = pb ∧ m = ps := by
                    have := HPL.out
                    unfold ply at this
                    rw [if_neg k0, if_neg k1, if_neg k2, if_neg k3, if_neg (by rw [HROW.out.len]; exact hf), HROW.out.len] at this
                    simp only [Prod.mk.injEq] at this
                    exact this
                  go_wp2_with fail
                  refine wp_region_typed (N := 11) (fl := [false, false, false, false, false, false, false, false, false, true]) (by kernel_rfl) (by kernel_rfl) ?_
                  simp only [List.take_succ_cons, List.take_zero, List.drop_succ_cons, List.drop_zero, List.map_cons, List.map_nil, zipF]
                  repeat (first
                    | (refine wpT_skip rfl ?_; dsimp only [putS, List.set_cons_succ, List.set_cons_zero])
                    | (refine wpT_slot (S := .is _) _ (.inl rfl) rfl (Slot.mono_is _) rfl ?_; dsimp only [putS, List.set_cons_succ, List.set_cons_zero])
                    | (refine wpT_slot (S := .is _) _ (.inr rfl) rfl (Slot.mono_is _) rfl ?_; dsimp only [putS, List.set_cons_succ, List.set_cons_zero])
                    | (refine wpT_exact1 rfl rfl rfl ?_; apply Exists.intro; refine ⟨fun ρ w hk ⟨c1, c2, c3⟩ h1 => ?_, ?_⟩; (· have t0 := TX0.out w hk; have t1 := TX1.out w hk; have t2 := TE1.out w hk; have t3 := TE2.out w hk; go_simp; exact rfl); dsimp only [putS, List.set_cons_succ, List.set_cons_zero])
                    | (refine wpT_exact2 rfl rfl rfl rfl ?_; apply Exists.intro; refine ⟨fun ρ w hk ⟨c1, c2, c3⟩ h1 h2 => ?_, ?_⟩; (· have t0 := TX0.out w hk; have t1 := TX1.out w hk; have t2 := TE1.out w hk; have t3 := TE2.out w hk; go_simp; exact rfl); dsimp only [putS, List.set_cons_succ, List.set_cons_zero])
                    | (refine wpT_exact3 rfl rfl rfl rfl rfl ?_; apply Exists.intro; refine ⟨fun ρ w hk ⟨c1, c2, c3⟩ h1 h2 h3 => ?_, ?_⟩; (· have t0 := TX0.out w hk; have t1 := TX1.out w hk; have t2 := TE1.out w hk; have t3 := TE2.out w hk; go_simp; exact rfl); dsimp only [putS, List.set_cons_succ, List.set_cons_zero])
                    | (refine wpT_exact0 rfl ?_; apply Exists.intro; refine ⟨fun ρ w hk ⟨c1, c2, c3⟩ => ?_, ?_⟩; (· have t0 := TX0.out w hk; have t1 := TX1.out w hk; have t2 := TE1.out w hk; have t3 := TE2.out w hk; go_simp; exact rfl); dsimp only [putS, List.set_cons_succ, List.set_cons_zero])
                    | (refine wpT_has (PtrT.mono w2.heap.size) rfl (fun ρ w hk ⟨c1, c2, c3⟩ _ => upT_made (.pointer (some ⟨w.heap.size, 0, none⟩)) (w' := w.alloc (.cells #[.slice none 0 0, .int .i64 0] 28)) ?_ ((Kept.refl w).alloc _) ⟨_, rfl, hk.2, push_new w _⟩) ?_; (· go_simp); dsimp only [putS, List.set_cons_succ, List.set_cons_zero])
                    | (refine wpT_slot (S := .has _) _ (.inl rfl) rfl (RefT.mono _ _ _ _ _) rfl ?_; dsimp only [putS, List.set_cons_succ, List.set_cons_zero])
                    | (refine wpT_has (RefT.mono w2.heap.size (m) m 0 (cs)) rfl (fun ρ w hk ⟨c1, c2, c3⟩ ⟨h1, h2, _⟩ => ?_) ?_
                       · have h1 : ρ (.tmp 44) = _ := h1
                         have h2 : ρ (.tmp 49) = _ := h2
                         have kw : Kept w2 w := ((Kept.refl w2).drew).trans hk
                         refine upT_call 16 #[.agg #[.slice A bs.length c, .int .i64 (s : Int)], .slice B m d] ?_ ((refInstall_ok (s : Int) (HROW.out.below kw.1) (by omega)).mono ?_)
                         · go_simp
                         rintro e u ⟨A', c', rfl, hr, hge, hb⟩
                         exact ⟨_, rfl, ⟨hb, hb.size⟩, A', c', rfl, hr, fun a ha hn => Nat.le_trans kw.2 (hge a ha hn)⟩
                       dsimp only [putS, List.set_cons_succ, List.set_cons_zero])
                    | (refine wpT_has (RefA.mono w2.heap.size (m) m (cs)) rfl (fun ρ w hk ⟨c1, c2, c3⟩ ⟨h1, _⟩ => ?_) ?_
                       · obtain ⟨A', c', h1, hr, hge⟩ := h1
                         refine upT_made (.agg #[.slice A' (m) c', .int .i64 ((m : Nat) : Int)]) ?_ (Kept.refl _) ⟨A', c', rfl, hr, hge⟩
                         go_simp
                       dsimp only [putS, List.set_cons_succ, List.set_cons_zero])
                    | (refine wpT_late (v := .int .i64 ((0 : Nat) : Int)) rfl (fun ρ w hk ⟨c1, c2, c3⟩ ⟨h1, _⟩ => ?_) ?_
                       · obtain ⟨A', c', h1, hr, hge⟩ := h1
                         intro w'
                         go_simp
                       dsimp only [putS, List.set_cons_succ, List.set_cons_zero]))
                  refine wpT_nil ?_
                  intro wz kz
                  simp only [Fits]
                  rintro uz ⟨z, rfl, hz, hvz⟩ u2 - u3 - u4 ⟨A', c', rfl, hr', hge'⟩
                  have kz' : Kept w2 wz := ((Kept.refl w2).drew).trans kz
                  have HVZ := Lib.hid hvz
                  obtain ⟨z0, z1, z2, z3⟩ := vr_cells hvz
                  have hy' : Vr wz y A bs.length c s := (kz'.1.block y (heap_lt HY.out)).trans HY.out
                  obtain ⟨y0, y1, y2, y3⟩ := vr_cells hy'
                  have hzy : z ≠ y := by have := heap_lt HY.out; omega
                  have hyz : y ≠ z := Ne.symm hzy
                  have HZ := Lib.hid hz
                  have KZ := Lib.hid kz'
                  have HR' := Lib.hid hr'
                  have HG' := Lib.hid hge'
                  clear hz hy' kz kz' hvz hr' hge'
                  go_wp2_with fail
                  refine only_end ?_
                  go_wp2_with fail
                  go_meet
                  exact ⟨rfl, HP.out.end_ KZ.out HZ.out HVZ.out HPS.out HROW.out.len HR'.out (Far.new HP.out.disk KZ.out.1 HG'.out)⟩
      case rest =>
        obtain ⟨rfl, hmid⟩ := hcut
        obtain ⟨A', c', hv, hr, hf⟩ := hmid.val
        obtain ⟨y0, y1, -⟩ := vr_cells hv
        obtain ⟨_, _, _, _, hx⟩ := hmid.pre.xv
        obtain ⟨x2, x3, x4, x5⟩ := vr_cells hx
        have hxy := hmid.pre.sep.xy
        have hyx : y ≠ x := Ne.symm hxy
        have hboth : Both v ((wc.setCell ⟨x, 0, none⟩ (.slice A' pb.length c')).setCell ⟨x, 1, none⟩ (.int .i64 (ps : Int))) v.heap.size x pb ps := hmid.both hv
        have HB := Lib.hid hboth
        clear hboth hmid hv hr hf hx x0 x1 c0 c1 c2 e0 e1 e2 HV HRA HFA HROW HP HY HPL HPS KW
        go_upto_region 29 with fail
        generalize (wc.setCell ⟨x, 0, none⟩ (.slice A' pb.length c')).setCell ⟨x, 1, none⟩ (.int .i64 (ps : Int)) = W2 at *
        clear y0 y1 x2 x3 x4 x5 hxy hyx
        obtain ⟨A2, c2, hv2, hr2, -⟩ := HB.out.var
        obtain ⟨x0, x1, -⟩ := vr_cells hv2
        have hmost := HB.out.disk.most
        have HBY := Lib.hid HB.out.disk.byte
        have HLN : Hid (pb.length = pb.length) := Lib.hid rfl
        have TX0 := Lib.hid fun (W : World) (h : Kept W2.drew W) => (((Kept.refl W2).drew.trans h).cell (p := ⟨x, 0, none⟩) (cell_lt x0)).trans x0
        have TX1 := Lib.hid fun (W : World) (h : Kept W2.drew W) => (((Kept.refl W2).drew.trans h).cell (p := ⟨x, 1, none⟩) (cell_lt x1)).trans x1
        have T1 := Lib.hid fun (W : World) (h : Kept W2.drew W) => (hr2.below ((Kept.refl W2).drew.trans h).1).text
        have TB := Lib.hid fun (W : World) (h : Kept W2.drew W) => bytes_any (HB.out.disk.below ((Kept.refl W2).drew.trans h).1)
        have TS := Lib.hid fun (W : World) (h : Kept W2.drew W) => synced_any (HB.out.disk.below ((Kept.refl W2).drew.trans h).1)
        clear x0 x1 hv2 hr2
        refine wp_region_typed (N := 19) (fl := []) (by kernel_rfl) (by kernel_rfl) ?_
        simp only [List.take_succ_cons, List.take_zero, List.drop_succ_cons, List.drop_zero, List.map_cons, List.map_nil, zipF]
        repeat (first
          | (refine wpT_text rfl rfl rfl ?_; dsimp only [putS, List.set_cons_succ, List.set_cons_zero])
          | (refine wpT_len rfl rfl rfl ?_; dsimp only [putS, List.set_cons_succ, List.set_cons_zero])
          | (refine wpT_slot (S := .has _) _ (.inl rfl) rfl (RowT.mono _ _) rfl ?_; dsimp only [putS, List.set_cons_succ, List.set_cons_zero])
          | (refine wpT_skip rfl ?_; dsimp only [putS, List.set_cons_succ, List.set_cons_zero])
          | (refine wpT_slot (S := .is _) _ (.inl rfl) rfl (Slot.mono_is _) rfl ?_; dsimp only [putS, List.set_cons_succ, List.set_cons_zero])
          | (refine wpT_slot (S := .is _) _ (.inr rfl) rfl (Slot.mono_is _) rfl ?_; dsimp only [putS, List.set_cons_succ, List.set_cons_zero])
          | (refine wpT_exact1 rfl rfl rfl ?_; apply Exists.intro; refine ⟨fun ρ w hk ⟨c1, c2, c3⟩ h1 => ?_, ?_⟩; (· have t0 := TX0.out w hk; have t1 := TX1.out w hk; have t2 := T1.out w hk; go_simp; exact rfl); dsimp only [putS, List.set_cons_succ, List.set_cons_zero])
          | (refine wpT_exact2 rfl rfl rfl rfl ?_; apply Exists.intro; refine ⟨fun ρ w hk ⟨c1, c2, c3⟩ h1 h2 => ?_, ?_⟩; (· have t0 := TX0.out w hk; have t1 := TX1.out w hk; have t2 := T1.out w hk; go_simp; exact rfl); dsimp only [putS, List.set_cons_succ, List.set_cons_zero])
          | (refine wpT_exact3 rfl rfl rfl rfl rfl ?_; apply Exists.intro; refine ⟨fun ρ w hk ⟨c1, c2, c3⟩ h1 h2 h3 => ?_, ?_⟩; (· have t0 := TX0.out w hk; have t1 := TX1.out w hk; have t2 := T1.out w hk; go_simp; exact rfl); dsimp only [putS, List.set_cons_succ, List.set_cons_zero])
          | (refine wpT_exact0 rfl ?_; apply Exists.intro; refine ⟨fun ρ w hk ⟨c1, c2, c3⟩ => ?_, ?_⟩; (· have t0 := TX0.out w hk; have t1 := TX1.out w hk; have t2 := T1.out w hk; go_simp; exact rfl); dsimp only [putS, List.set_cons_succ, List.set_cons_zero])
          | (refine wpT_has (RowT.mono pb.length pb) rfl (fun ρ w hk ⟨c1, c2, c3⟩ ⟨h1, _⟩ => ?_) ?_
             · have h1 : ρ (.tmp 101) = _ := h1
               refine upT_call 17 #[.pointer (some ⟨v.heap.size, 0, none⟩)] ?_ ((TB.out w hk).mono ?_)
               · go_simp
               rintro e u ⟨y, rfl, own, hb⟩
               exact ⟨_, rfl, ⟨hb, hb.size⟩, own.rowT rfl (by omega) HBY.out⟩
             dsimp only [putS, List.set_cons_succ, List.set_cons_zero])
          | (refine wpT_is (.int .i64 (ps : Int)) rfl (fun ρ w hk ⟨c1, c2, c3⟩ ⟨h1, _⟩ => ?_) ?_
             · have h1 : ρ (.tmp 110) = _ := h1
               refine upT_call 18 #[.pointer (some ⟨v.heap.size, 0, none⟩)] ?_ ((TS.out w hk).mono ?_)
               · go_simp
               rintro e u ⟨rfl, rfl⟩
               exact ⟨_, rfl, Kept.refl _, rfl⟩
             dsimp only [putS, List.set_cons_succ, List.set_cons_zero]))
        refine wpT_nil ?_
        intro wz kz
        simp only [Fits]
        intro y _
        refine wpList_end ?_
        have HZ := Lib.hid (HB.out.grow ((Kept.refl W2).drew.trans kz))
        clear HB TX0 TX1 T1 TB TS kz
        go_wp2
        go_roundw
        case rel => exact ⟨k + 1, pb, ps, by omega, by omega, by go_num, HZ.out⟩
        case measure => simp [intOf]; omega
    · by_cases hkl : k < len0
      · obtain rfl : k = 100 := by omega
        go_wp2
        go_ret
        exact ⟨rfl, (K1.out.trans hb.kept).1⟩
      · obtain rfl : k = len0 := by omega
        go_wp2
        go_ret
        exact ⟨rfl, (K1.out.trans hb.kept).1⟩
end Go.Proofs.Yteefeancakeebaa
