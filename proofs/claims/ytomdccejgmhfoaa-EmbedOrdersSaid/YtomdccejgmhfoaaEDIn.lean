/-
  The document's In: a table of which part of the one is in which of the other, from the least on.
-/
import Derived.Test.YtomdccejgmhfoaaEDPar
import Derived.Test.YtomdccejgmhfoaaEEmb
import Derived.Deep.OwnRows
import Derived.Deep.DeepCutAuto
import Derived.Deep.Cut
import Derived.Deep.CutRange
import Derived.Deep.CutBlock
import Derived.Deep.LoopGhost
import Derived.Test.YtomdccejgmhfoaaTmP
namespace Go.Proofs.Ytomdccejgmhfoaa
open Go.RowKit Go.Shelf Go.Maps

theorem Try.infoBool7 : (Try.prog.info? 4).map (fun i => (i.zero, i.size, i.bytes)) = some (some (.bool false), 1, 1) := by kernel_rfl
/-- Both rows of parts, and the table. -/
structure DTab (W0 wr : World) (M1 M2 : List QM) (v1 v2 : Value) (p : Nat) (T : Nat → Bool) : Prop where
  q1 : QAt wr W0.heap.size M1 v1
  q2 : QAt wr W0.heap.size M2 v2
  tab : wr.rowIs W0.heap.size 4 p (fun o => .bool (T o))
  below : Below W0.heap.size W0 wr
theorem DTab.alloc {W0 wr : World} {M1 M2 : List QM} {v1 v2 : Value} {p : Nat} {T : Nat → Bool} (h : DTab W0 wr M1 M2 v1 v2 p T) (o : Obj) : DTab W0 (wr.alloc o) M1 M2 v1 v2 p T :=
  have hb : Below W0.heap.size wr (wr.alloc o) := (Below.refl _ _).alloc h.below.size o
  ⟨h.q1.below hb, h.q2.below hb, h.tab.alloc o, h.below.trans hb⟩
theorem DTab.drew {W0 wr : World} {M1 M2 : List QM} {v1 v2 : Value} {p : Nat} {T : Nat → Bool} (h : DTab W0 wr M1 M2 v1 v2 p T) : DTab W0 wr.drew M1 M2 v1 v2 p T :=
  ⟨h.q1.below (Below.refl _ _).drew, h.q2.below (Below.refl _ _).drew, h.tab, h.below.drew⟩
theorem DTab.set {W0 wr : World} {M1 M2 : List QM} {v1 v2 : Value} {p : Nat} {T : Nat → Bool} (h : DTab W0 wr M1 M2 v1 v2 p T) (o : Nat) (r : Bool) : DTab W0 (wr.setCell ⟨W0.heap.size, o, none⟩ (.bool r)) M1 M2 v1 v2 p (fun j => if j = o then r else T j) :=
  have hb : Below W0.heap.size wr (wr.setCell ⟨W0.heap.size, o, none⟩ (.bool r)) := (Below.refl _ _).setCell (p := ⟨W0.heap.size, o, none⟩) (Nat.le_refl _) _
  ⟨h.q1.below hb, h.q2.below hb, (h.tab.set o (.bool r)).congr fun j _ => by by_cases e : j = o <;> simp [e], h.below.trans hb⟩
theorem allTo_stop {y x : Tm} {j n : Nat} (hj : j ≤ n) (h : allTo y x j = false) : allTo y x n = false := by
  rw [Bool.eq_false_iff] at h ⊢
  intro h2
  refine h ?_
  simp only [allTo, Bool.and_eq_true, decide_eq_true_eq] at h2 ⊢
  exact ⟨h2.1, fun i hi a b => h2.2 i (by omega) a b⟩
theorem tab_at {i k w n : Nat} (hi : i < n) (hk : k < w) : i * w + k < n * w := by
  have h1 : (i + 1) * w ≤ n * w := Nat.mul_le_mul_right w hi
  rw [Nat.add_mul, Nat.one_mul] at h1
  omega
theorem tab_inj {i k i' k' w : Nat} (hk : k < w) (hk' : k' < w) (e : i * w + k = i' * w + k') : i = i' ∧ k = k' := by
  have h0 : 0 < w := by omega
  have h1 : (i * w + k) / w = i := by rw [Nat.add_comm, Nat.add_mul_div_right _ _ h0, Nat.div_eq_of_lt hk, Nat.zero_add]
  have h2 : (i' * w + k') / w = i' := by rw [Nat.add_comm, Nat.add_mul_div_right _ _ h0, Nat.div_eq_of_lt hk', Nat.zero_add]
  have h3 : i = i' := by rw [← h1, ← h2, e]
  subst h3
  exact ⟨rfl, by omega⟩
/-- The columns below k are filled, and those of column k for the first I parts. -/
def DSt (T : Nat → Bool) (La Lb : List Pt) (w k I : Nat) : Prop :=
  ∀ i k' (hi : i < La.length) (hk : k' < Lb.length), (k' < k ∨ k' = k ∧ i < I) → T (i * w + k') = Lb[k'].t.emb La[i].t
theorem DSt.start (La Lb : List Pt) (w : Nat) (T : Nat → Bool) : DSt T La Lb w 0 0 := fun i k' hi hk h => by omega
theorem DSt.set {T : Nat → Bool} {La Lb : List Pt} {w k I : Nat} (hw : w = Lb.length) (hk : k < Lb.length) (hI : I < La.length) (h : DSt T La Lb w k I) {r : Bool} (hr : r = Lb[k].t.emb La[I].t) : DSt (fun j => if j = I * w + k then r else T j) La Lb w k (I + 1) := by
  intro i k' hi hk' hc
  by_cases e : i * w + k' = I * w + k
  · obtain ⟨e1, e2⟩ := tab_inj (by omega) (by omega) e
    subst e1 e2
    simp only [if_true]
    exact hr
  · simp only [e, if_false]
    refine h i k' hi hk' ?_
    rcases hc with hc | ⟨hc1, hc2⟩
    · exact .inl hc
    · subst hc1
      exact .inr ⟨rfl, by
        by_cases e2 : i = I
        · subst e2; exact absurd rfl e
        · omega⟩
theorem DSt.next {T : Nat → Bool} {La Lb : List Pt} {w k I : Nat} (hI : I = La.length) (h : DSt T La Lb w k I) : DSt T La Lb w (k + 1) 0 := by
  intro i k' hi hk' hc
  refine h i k' hi hk' ?_
  omega
theorem row5e {w : World} {b : Nat} {a0 a1 a2 a3 a4 : Value} {t : TypeId} (h : w.heap[b]? = some (Obj.cells #[a0, a1, a2, a3, a4] t (0, 0))) :
    w.cell? ⟨b, 0, none⟩ = some a0 ∧ w.cell? ⟨b, 1, none⟩ = some a1 ∧ w.cell? ⟨b, 2, none⟩ = some a2 ∧ w.cell? ⟨b, 3, none⟩ = some a3 ∧ w.cell? ⟨b, 4, none⟩ = some a4 := by
  simp [World.cell?, h]
/-- A part in a box of its own. -/
def Bx (W : World) (b : Nat) (x : QM) : Prop := W.heap[b]? = some (Obj.cells #[.int .i64 x.p.t.kind, .string x.p.t.name, .int .i64 x.p.t.n, x.ts, x.ks] 79 (0, 0))
/-- .. while the table is filled. -/
def DR1 (W0 wr : World) (M1 M2 : List QM) (v1 v2 : Value) (p m k : Nat) : Prop := ∃ T, DTab W0 wr M1 M2 v1 v2 p T ∧ DSt T (qsOf M1) (qsOf M2) m k 0
def DR2 (W0 wr : World) (M1 M2 : List QM) (v1 v2 : Value) (p m k yb : Nat) (y : QM) (I : Nat) : Prop := ∃ T, DTab W0 wr M1 M2 v1 v2 p T ∧ DSt T (qsOf M1) (qsOf M2) m k I ∧ Bx wr yb y ∧ W0.heap.size < yb
/-- .. and one cell of it is reckoned. -/
structure DR3 (W0 wr : World) (M1 M2 : List QM) (v1 v2 : Value) (p m k yb xb : Nat) (y x : QM) (I : Nat) (T : Nat → Bool) : Prop where
  tab : DTab W0 wr M1 M2 v1 v2 p T
  st : DSt T (qsOf M1) (qsOf M2) m k I
  by' : Bx wr yb y
  bx : Bx wr xb x
  hy : W0.heap.size < yb
  hx : W0.heap.size < xb
theorem DR3.drew {W0 wr : World} {M1 M2 : List QM} {v1 v2 : Value} {p m k yb xb : Nat} {y x : QM} {I : Nat} {T : Nat → Bool} (h : DR3 W0 wr M1 M2 v1 v2 p m k yb xb y x I T) : DR3 W0 wr.drew M1 M2 v1 v2 p m k yb xb y x I T :=
  ⟨h.tab.drew, h.st, h.by', h.bx, h.hy, h.hx⟩
theorem parts_at {M : List QM} (h : PartsOk (qsOf M)) {i : Nat} (hi : i < M.length) {t : Tm} {at' : List Nat} {s z : Value} (e : M[i] = ⟨⟨t, at'⟩, s, z⟩) :
    at'.length = t.args.length ∧ ∀ q (hq : q < at'.length) (hq' : q < t.args.length), at'[q] < i ∧ ∃ u, (qsOf M)[at'[q]]? = some ⟨t.args[q], u⟩ := by
  have h0 := h i (by rw [qsOf_length]; exact hi)
  have e2 : (qsOf M)[i]'(by rw [qsOf_length]; exact hi) = ⟨t, at'⟩ := by rw [qsOf_get hi, e]
  simp only [e2] at h0
  exact h0
theorem parts_t {M : List QM} {i : Nat} (hi : i < M.length) {t : Tm} {at' : List Nat} {s z : Value} (e : M[i] = ⟨⟨t, at'⟩, s, z⟩) : (qsOf M)[i]? = some ⟨t, at'⟩ := by
  rw [List.getElem?_eq_getElem (by rw [qsOf_length]; exact hi), qsOf_get hi, e]
theorem DSt.at {T : Nat → Bool} {La Lb : List Pt} {w k I i k' : Nat} {x y : Tm} {u v : List Nat} (h : DSt T La Lb w k I) (hx : La[i]? = some ⟨x, u⟩) (hy : Lb[k']? = some ⟨y, v⟩) (hk : k' < k) : T (i * w + k') = y.emb x := by
  obtain ⟨h1, e1⟩ := List.getElem?_eq_some_iff.1 hx
  obtain ⟨h2, e2⟩ := List.getElem?_eq_some_iff.1 hy
  rw [h i k' h1 h2 (.inl hk), e1, e2]
def DRes (w : World) (r : Bool) (e : Ending) (w' : World) : Prop := e = .returned (.bool r) ∧ Below w.heap.size w w'

set_option maxRecDepth 100000 in
set_option maxHeartbeats 4000000 in
theorem din_any (a b : Tm) (w : World) (sa sb : Value) (ha : Tm.inn w w.heap.size a sa) (hb : Tm.inn w w.heap.size b sb) (hfa : a.right = true) (hfb : b.right = true) (hsa : a.size ≤ 60) (hsb : b.size ≤ 60) :
    Calls Try.prog 34 #[.agg #[.int .i64 a.kind, .string a.name, .int .i64 a.n, sa], .agg #[.int .i64 b.kind, .string b.name, .int .i64 b.n, sb]] w fun e w' => DRes w (b.emb a) e w' := by
  obtain ⟨ga, ca, rfl⟩ := inn_sl7 ha
  obtain ⟨gb, cb, rfl⟩ := inn_sl7 hb
  obtain ⟨W0, hW0⟩ : ∃ W0, (w.alloc (Obj.cells #[.int .i64 a.kind, .string a.name, .int .i64 a.n, .slice ga a.args.length ca] 27 (0, 0))).alloc (Obj.cells #[.int .i64 b.kind, .string b.name, .int .i64 b.n, .slice gb b.args.length cb] 27 (0, 0)) = W0 := ⟨_, rfl⟩
  have hb0 : Below w.heap.size w W0 := by rw [← hW0]; exact ((Below.refl _ _).alloc (Nat.le_refl _) _).alloc (by simp) _
  have hkb : W0.heap[w.heap.size + 1]? = some (Obj.cells #[.int .i64 b.kind, .string b.name, .int .i64 b.n, .slice gb b.args.length cb] 27 (0, 0)) := by rw [← hW0]; exact newBlk _ _ _ (by simp)
  have hlb : w.heap.size + 1 < W0.heap.size := (Array.getElem?_eq_some_iff.1 hkb).1
  have hp1 := dparts_any a [] W0 (fun _ => True) w.heap.size W0.heap.size (.slice none 0 0) _ (QRow.zero _ hb0.size (Nat.le_refl _)) (fun _ _ => trivial) (Tm.inn_below ha hb0 (Nat.le_refl _)) (by simp; omega)
  have HP1 := Lib.hid hp1
  have HW0 := Lib.hid hW0
  have HB0 := Lib.hid hb0
  have HKB := Lib.hid hkb
  have HBI := Lib.hid hb
  have HFA := Lib.hid hfa
  have HFB := Lib.hid hfb
  clear ha hb hW0 hb0 hkb hp1 hfa hfb
  go_enter Try.func34, Try.ntmps34
  go_wp2_with fail
  rw [HW0.out]
  refine HP1.out.mono ?_
  rintro e W1 ⟨v1, M1, rfl, hr1, hq1, hf1⟩
  have hb1 : Below W0.heap.size W0 W1 := hf1.below (fun _ h => h.elim) (fun q e => by cases e) (Nat.le_refl _)
  have hn1 : M1.length = a.size := by rw [← qsOf_length, hq1]; exact partsT_len a
  have hkb1 := (hb1.block _ hlb).trans HKB.out
  obtain ⟨⟨b0, b1, b2, b3⟩, _⟩ := row4 hkb1
  have hs1 := hb1.size
  have hlb1 : w.heap.size + 1 < W1.heap.size := by omega
  have hp2 := dparts_any b [] W1 (fun _ => True) w.heap.size W1.heap.size (.slice none 0 0) _ (QRow.zero _ (by have := HB0.out.size; omega) (Nat.le_refl _)) (fun _ _ => trivial) (Tm.inn_below HBI.out (HB0.out.trans (hb1.mono HB0.out.size)) (Nat.le_refl _)) (by simp; omega)
  have HP2 := Lib.hid hp2
  have hqa1 := hr1.reads (by have := a.size_pos; omega)
  have HQA1 := Lib.hid hqa1
  have HN1 := Lib.hid hn1
  have HQ1 := Lib.hid hq1
  have HB1 := Lib.hid (HB0.out.trans (hb1.mono HB0.out.size))
  clear hr1 hq1 hf1 hb1 hn1 hkb1 hp2 hqa1 HP1
  go_wp2_with fail
  refine HP2.out.mono ?_
  rintro e W2 ⟨v2, M2, rfl, hr2, hq2, hf2⟩
  have hb2 : Below W1.heap.size W1 W2 := hf2.below (fun _ h => h.elim) (fun q e => by cases e) (Nat.le_refl _)
  have hn2 : M2.length = b.size := by rw [← qsOf_length, hq2]; exact partsT_len b
  have hqa2 := hr2.reads (by have := b.size_pos; omega)
  have hqa1 := (HQA1.out.below hb2).mono hb2.size (Nat.le_refl _)
  obtain ⟨n, hn⟩ : ∃ n, M1.length = n := ⟨_, rfl⟩
  obtain ⟨m, hm⟩ : ∃ m, M2.length = m := ⟨_, rfl⟩
  obtain ⟨g1, c1, hv1, lg1, _⟩ := id hqa1.row
  obtain ⟨g2, c2, hv2, lg2, _⟩ := id hqa2.row
  subst hv1 hv2
  have hn60 : n ≤ 60 := by have := HN1.out; omega
  have hm60 : m ≤ 60 := by omega
  have hn0 : 0 < n := by have := HN1.out; have := a.size_pos; omega
  have hm0 : 0 < m := by have := b.size_pos; omega
  rw [hn] at hqa1 ⊢
  rw [hm] at hqa2 ⊢
  obtain ⟨p, hp⟩ : ∃ p, n * m = p := ⟨_, rfl⟩
  have hp36 : p ≤ 3600 := by rw [← hp]; exact Nat.mul_le_mul hn60 hm60
  have hmul : (n : Int) * (m : Int) = (p : Int) := by rw [← hp]; simp
  have HQA1 := Lib.hid hqa1
  have HQA2 := Lib.hid hqa2
  have HN := Lib.hid hn
  have HM := Lib.hid hm
  have HPP := Lib.hid hp
  have HO1 := Lib.hid (QOk.of HFA.out HQ1.out)
  have HO2 := Lib.hid (QOk.of HFB.out hq2)
  have HQ2 := Lib.hid hq2
  have HB2 := Lib.hid (HB1.out.trans (hb2.mono (by have := HB1.out.size; omega)))
  have hmk := run_make_row' (P := Try.prog) 60 4 (.bool false) 1 Try.underlying60 Try.infoBool7 rfl .i64 .i64 p (by omega) (by omega)
  clear hr2 hq2 hf2 hb2 hn2 hqa1 hqa2 hn hm hp HP2 b0 b1 b2 b3
  go_wp2_with fail
  have hDT : DTab W2 (W2.alloc (.cells (madeCells #[.bool false] p) 4)) M1 M2 (.slice (some ⟨g1, 0, none⟩) n c1) (.slice (some ⟨g2, 0, none⟩) m c2) p (fun _ => false) :=
    have hb : Below W2.heap.size W2 (W2.alloc (.cells (madeCells #[.bool false] p) 4)) := (Below.refl _ _).alloc (Nat.le_refl _) _
    ⟨HQA1.out.below hb, HQA2.out.below hb, World.rowIs_made _ _ _ _, hb⟩
  have HR1 : Hid (DR1 W2 (W2.alloc (.cells (madeCells #[.bool false] p) 4)) M1 M2 (.slice (some ⟨g1, 0, none⟩) n c1) (.slice (some ⟨g2, 0, none⟩) m c2) p m 0) := Lib.hid ⟨_, hDT, DSt.start _ _ _ _⟩
  clear hDT hmk hmul
  go_loopw [9, 11, 13, 14, 15] (fun i _ _ _ _ wr => ∃ k : Nat, k ≤ m ∧ i = .int .i64 k ∧ Hid (DR1 W2 wr M1 M2 (.slice (some ⟨g1, 0, none⟩) n c1) (.slice (some ⟨g2, 0, none⟩) m c2) p m k)) (fun i _ _ _ _ _ => m - (intOf i).toNat)
  case atStart => exact ⟨0, Nat.zero_le _, rfl, HR1⟩
  case round =>
    obtain ⟨wz, rfl⟩ : ∃ x, x = wr := ⟨_, rfl⟩
    obtain ⟨k, hk, rfl, hgl⟩ := hrel
    have HGL := Lib.hid hgl.out
    clear hgl HR1
    by_cases hlt : k < m
    · obtain ⟨T, hT, hst⟩ := HGL.out
      have hk2 : k < M2.length := by rw [HM.out]; exact hlt
      obtain ⟨_, y0, y1, y2, y3, y4⟩ := hT.q2.get k hk2
      have ky := hT.q2.ks M2[k] (List.getElem_mem hk2)
      obtain ⟨y, hy⟩ : ∃ y, M2[k] = y := ⟨_, rfl⟩
      have tsy := hT.q2.ts M2[k] (List.getElem_mem hk2)
      rw [hy] at y0 y1 y2 y3 y4 ky tsy
      obtain ⟨⟨ty, ay⟩, sy, zy⟩ := y
      obtain ⟨gsy, nsy, csy, esy⟩ := tsy
      obtain ⟨gy, cy, ey, _⟩ := id ky
      simp only at y0 y1 y2 y3 y4 esy ey
      subst esy ey
      have hsz := hT.below.size
      have hlt2 := hT.tab.lt
      have lg2' : g2 < wz.heap.size := by omega
      have hyb := hT.alloc (Obj.cells #[.int .i64 ty.kind, .string ty.name, .int .i64 ty.n, .slice gsy nsy csy, .slice gy ay.length cy] 79 (0, 0))
      have HR2 : Hid (DR2 W2 (wz.alloc (Obj.cells #[.int .i64 ty.kind, .string ty.name, .int .i64 ty.n, .slice gsy nsy csy, .slice gy ay.length cy] 79 (0, 0))) M1 M2 (.slice (some ⟨g1, 0, none⟩) n c1) (.slice (some ⟨g2, 0, none⟩) m c2) p m k wz.heap.size ⟨⟨ty, ay⟩, .slice gsy nsy csy, .slice gy ay.length cy⟩ 0) := Lib.hid ⟨T, hyb, hst, newBlk _ _ _ rfl, hlt2⟩
      have HY := Lib.hid hy
      clear hT hst hyb hy ky HGL
      go_wp2_with fail
      go_loopw [11, 13, 14, 15] (fun i _ _ _ wr => ∃ I : Nat, I ≤ n ∧ i = .int .i64 I ∧ Hid (DR2 W2 wr M1 M2 (.slice (some ⟨g1, 0, none⟩) n c1) (.slice (some ⟨g2, 0, none⟩) m c2) p m k wz.heap.size ⟨⟨ty, ay⟩, .slice gsy nsy csy, .slice gy ay.length cy⟩ I)) (fun i _ _ _ _ => n - (intOf i).toNat)
      case atStart => exact ⟨0, Nat.zero_le _, rfl, HR2⟩
      case round =>
        obtain ⟨wy, rfl⟩ : ∃ x, x = wr := ⟨_, rfl⟩
        obtain ⟨I, hI, rfl, hgl⟩ := hrel
        have HGL := Lib.hid hgl.out
        clear hgl HR2 y0 y1 y2 y3 y4
        by_cases hltI : I < n
        · obtain ⟨T, hT, hst, hby, hyb⟩ := HGL.out
          have hI1 : I < M1.length := by rw [HN.out]; exact hltI
          obtain ⟨_, x0, x1, x2, x3, x4⟩ := hT.q1.get I hI1
          have kx := hT.q1.ks M1[I] (List.getElem_mem hI1)
          obtain ⟨x, hx⟩ : ∃ x, M1[I] = x := ⟨_, rfl⟩
          have tsx := hT.q1.ts M1[I] (List.getElem_mem hI1)
          rw [hx] at x0 x1 x2 x3 x4 kx tsx
          obtain ⟨⟨tx, ax⟩, sx, zx⟩ := x
          obtain ⟨gsx, nsx, csx, esx⟩ := tsx
          obtain ⟨gx, cx, ex, _⟩ := id kx
          simp only at x0 x1 x2 x3 x4 esx ex
          subst esx ex
          have hszy := hT.below.size
          have hlty := hT.tab.lt
          have lg1' : g1 < wy.heap.size := by omega
          have hlyb : wz.heap.size < wy.heap.size := (Array.getElem?_eq_some_iff.1 hby).1
          have hxb := hT.alloc (Obj.cells #[.int .i64 tx.kind, .string tx.name, .int .i64 tx.n, .slice gsx nsx csx, .slice gx ax.length cx] 79 (0, 0))
          obtain ⟨W5, hW5⟩ : ∃ W5, wy.alloc (Obj.cells #[.int .i64 tx.kind, .string tx.name, .int .i64 tx.n, .slice gsx nsx csx, .slice gx ax.length cx] 79 (0, 0)) = W5 := ⟨_, rfl⟩
          have h3 : DR3 W2 W5 M1 M2 (.slice (some ⟨g1, 0, none⟩) n c1) (.slice (some ⟨g2, 0, none⟩) m c2) p m k wz.heap.size wy.heap.size ⟨⟨ty, ay⟩, .slice gsy nsy csy, .slice gy ay.length cy⟩ ⟨⟨tx, ax⟩, .slice gsx nsx csx, .slice gx ax.length cx⟩ I T := by
            rw [← hW5]
            exact ⟨hxb, hst, (Below.heap_alloc _ _ _ hlyb).trans hby, newBlk _ _ _ rfl, hyb, hlty⟩
          have HX := Lib.hid hx
          have H3 := Lib.hid h3
          have HW5 := Lib.hid hW5
          clear hT hst hxb hx kx h3 hW5 hby HGL
          go_upto_region 13 with fail
          rw [HW5.out]
          obtain ⟨x0, x1, x2, x3, x4⟩ := row5e H3.out.bx
          obtain ⟨y0, y1, y2, y3, y4⟩ := row5e H3.out.by'
          simp only at x0 x1 x2 x3 x4 y0 y1 y2 y3 y4
          have PX := Lib.hid (parts_at HO1.out.ok hI1 HX.out)
          have PY := Lib.hid (parts_at HO2.out.ok hk2 HY.out)
          have FX : Hid (tx.fair = true) := Lib.hid (by have := HO1.out.fair _ (List.mem_of_getElem? (parts_t hI1 HX.out)); exact this)
          have FY : Hid (ty.fair = true) := Lib.hid (by have := HO2.out.fair _ (List.mem_of_getElem? (parts_t hk2 HY.out)); exact this)
          have lx3 : ax.length ≤ 3000 := by have := HO1.out.few I hI1; rw [HX.out] at this; exact this
          have ly3 : ay.length ≤ 3000 := by have := HO2.out.few k hk2; rw [HY.out] at this; exact this
          obtain ⟨bt, hbt⟩ : ∃ bt, topE tx ty = bt := ⟨_, rfl⟩
          have HBT := Lib.hid hbt
          have lyb : wz.heap.size < W5.heap.size := (Array.getElem?_eq_some_iff.1 H3.out.by').1
          have lxb : wy.heap.size < W5.heap.size := (Array.getElem?_eq_some_iff.1 H3.out.bx).1
          clear hbt
          go_cut [13] from 47 to 77 (fun s wx => s = .bool bt ∧ Hid (wx = W5))
          case first =>
            obtain ⟨kx, hkx⟩ : ∃ kx, tx.kind = kx := ⟨_, rfl⟩
            obtain ⟨ky, hky⟩ : ∃ ky, ty.kind = ky := ⟨_, rfl⟩
            obtain ⟨sx, hsx⟩ : ∃ sx, tx.name = sx := ⟨_, rfl⟩
            obtain ⟨sy, hsy⟩ : ∃ sy, ty.name = sy := ⟨_, rfl⟩
            rw [hkx] at x0
            rw [hky] at y0
            rw [hsx] at x1
            rw [hsy] at y1
            have hb0 := HBT.out
            have hlx := PX.out.1
            have hly := PY.out.1
            obtain ⟨nx, hnx⟩ : ∃ nx, ax.length = nx := ⟨_, rfl⟩
            obtain ⟨ny, hny⟩ : ∃ ny, ay.length = ny := ⟨_, rfl⟩
            rw [hnx] at x4 hlx lx3
            rw [hny] at y4 hly ly3
            have hb1 : bt = decide (kx = ky ∧ (kx ≠ 3 ∨ sx = sy ∧ nx = ny)) := by rw [← hb0]; unfold topE; rw [hkx, hky, hsx, hsy, ← hlx, ← hly]
            clear hkx hky hsx hsy hb0 hlx hly hnx hny
            by_cases h1 : kx = ky
            · subst h1
              by_cases h2 : kx = 3
              · subst h2
                by_cases h3 : sx = sy
                · subst h3
                  by_cases h4 : nx = ny
                  · subst h4
                    have hb2 : bt = true := by rw [hb1]; simp
                    subst hb2
                    clear hb1
                    go_wp2_with fail
                    go_meet
                    exact ⟨rfl, Lib.hid rfl⟩
                  · have hb2 : bt = false := by rw [hb1]; simp [h4]
                    have h5 : ((nx : Int) == (ny : Int)) = false := by rw [beq_eq_false_iff_ne]; omega
                    subst hb2
                    clear hb1 h4
                    go_wp2_with fail
                    go_meet
                    exact ⟨rfl, Lib.hid rfl⟩
                · have hb2 : bt = false := by rw [hb1]; simp [h3]
                  have hn0 := neS h3
                  have hn1 : (sx.toList == sy.toList) = false := by simpa using hn0
                  subst hb2
                  clear hb1 h3
                  go_wp2_with fail
                  go_meet
                  exact ⟨rfl, Lib.hid rfl⟩
              · have hb2 : bt = true := by rw [hb1]; simp [h2]
                have hn1 : (kx == 3) = false := by simpa using h2
                have hn2 : (kx != 3) = true := by simpa using h2
                subst hb2
                clear hb1 h2
                go_wp2_with fail
                go_meet
                exact ⟨rfl, Lib.hid rfl⟩
            · have hb2 : bt = false := by rw [hb1]; simp [h1]
              have hn1 : (kx == ky) = false := by simpa using h1
              subst hb2
              clear hb1 h1
              go_wp2_with fail
              go_meet
              exact ⟨rfl, Lib.hid rfl⟩
          case rest =>
            obtain ⟨rfl, hw⟩ := hcut
            have HWC := Lib.hid hw.out
            have H4 : Hid (DR3 W2 wc M1 M2 (.slice (some ⟨g1, 0, none⟩) n c1) (.slice (some ⟨g2, 0, none⟩) m c2) p m k wz.heap.size wy.heap.size ⟨⟨ty, ay⟩, .slice gsy nsy csy, .slice gy ay.length cy⟩ ⟨⟨tx, ax⟩, .slice gsx nsx csx, .slice gx ax.length cx⟩ I T) := Lib.hid (by rw [HWC.out]; exact H3.out)
            clear hw HWC x0 x1 x2 x3 x4 y0 y1 y2 y3 y4 H3 HW5 lyb lxb
            go_upto_block 4 with fail
            go_cut [13, 14] from 78 to 103 (fun s _ wx => s = .bool (topE tx ty && Tm.embs ty.args tx.args) ∧ Hid (DR3 W2 wx M1 M2 (.slice (some ⟨g1, 0, none⟩) n c1) (.slice (some ⟨g2, 0, none⟩) m c2) p m k wz.heap.size wy.heap.size ⟨⟨ty, ay⟩, .slice gsy nsy csy, .slice gy ay.length cy⟩ ⟨⟨tx, ax⟩, .slice gsx nsx csx, .slice gx ax.length cx⟩ I T))
            case first =>
              go_wp2_with fail
              go_loopw [13, 14] (fun s j wr => ∃ q : Nat, q ≤ ax.length ∧ j = .int .i64 q ∧ s = .bool (allTo ty tx q) ∧ Hid (DR3 W2 wr M1 M2 (.slice (some ⟨g1, 0, none⟩) n c1) (.slice (some ⟨g2, 0, none⟩) m c2) p m k wz.heap.size wy.heap.size ⟨⟨ty, ay⟩, .slice gsy nsy csy, .slice gy ay.length cy⟩ ⟨⟨tx, ax⟩, .slice gsx nsx csx, .slice gx ax.length cx⟩ I T)) (fun _ j _ => ax.length - (intOf j).toNat)
              case atStart => exact ⟨0, Nat.zero_le _, rfl, by rw [allTo_zero, HBT.out], H4⟩
              case round =>
                obtain ⟨wx, rfl⟩ : ∃ x, x = wr := ⟨_, rfl⟩
                obtain ⟨q, hq, rfl, rfl, hgl⟩ := hrel
                have H5 := Lib.hid hgl.out
                clear hgl H4
                obtain ⟨x0, x1, x2, x3, x4⟩ := row5e H5.out.bx
                obtain ⟨y0, y1, y2, y3, y4⟩ := row5e H5.out.by'
                simp only at x0 x1 x2 x3 x4 y0 y1 y2 y3 y4
                have lyb : wz.heap.size < wx.heap.size := (Array.getElem?_eq_some_iff.1 H5.out.by').1
                have lxb : wy.heap.size < wx.heap.size := (Array.getElem?_eq_some_iff.1 H5.out.bx).1
                have hltx : (ax.length : Int) ≤ 3000 := by omega
                cases hok : allTo ty tx q with
                | false =>
                  have hres : (topE tx ty && Tm.embs ty.args tx.args) = false := by
                    rw [← allTo_all FX.out FY.out]
                    exact allTo_stop (by rw [← PX.out.1]; exact hq) hok
                  have HRES := Lib.hid hres
                  clear hok hres
                  by_cases hlt3 : q < ax.length
                  all_goals
                    go_wp2_with fail
                    go_meet
                    exact ⟨by rw [HRES.out], H5⟩
                | true =>
                  by_cases hlt3 : q < ax.length
                  · have htop : topE tx ty = true := by
                      simp only [allTo, Bool.and_eq_true] at hok
                      exact hok.1
                    have hll := Tm.topE_len FX.out FY.out htop
                    have hqy : q < ay.length := by have := PX.out.1; have := PY.out.1; omega
                    have hqtx : q < tx.args.length := by have := PX.out.1; omega
                    have hqty : q < ty.args.length := by have := PY.out.1; omega
                    have hsucc := allTo_succ hqty hqtx
                    rw [hok, Bool.true_and] at hsucc
                    have kx := H5.out.tab.q1.ks M1[I] (List.getElem_mem hI1)
                    have ky := H5.out.tab.q2.ks M2[k] (List.getElem_mem hk2)
                    rw [HX.out] at kx
                    rw [HY.out] at ky
                    obtain ⟨bbx, hgx, _, lbbx, zx⟩ := kx.get hlt3
                    obtain ⟨bby, hgy, _, lbby, zy⟩ := ky.get hqy
                    subst hgx hgy
                    obtain ⟨hxa, ux, eux⟩ := PX.out.2 q hlt3 hqtx
                    obtain ⟨hya, uy, euy⟩ := PY.out.2 q hqy hqty
                    have hat := H5.out.st.at eux euy hya
                    have hxn : ax[q] < n := by omega
                    have hym : ay[q] < m := by omega
                    have hidx := tab_at hxn hym
                    rw [HPP.out] at hidx
                    simp only at zx zy
                    obtain ⟨xa, hxa'⟩ : ∃ xa, ax[q] = xa := ⟨_, rfl⟩
                    obtain ⟨ya, hya'⟩ : ∃ ya, ay[q] = ya := ⟨_, rfl⟩
                    rw [hxa'] at zx hat hidx
                    rw [hya'] at zy hat hidx
                    obtain ⟨xm, hxm⟩ : ∃ xm, xa * m = xm := ⟨_, rfl⟩
                    rw [hxm] at hat hidx
                    obtain ⟨sm, hsm⟩ : ∃ sm, xm + ya = sm := ⟨_, rfl⟩
                    rw [hsm] at hat hidx
                    have hcell := H5.out.tab.tab.cell hidx
                    rw [hat, ← hsucc] at hcell
                    have e1 : (xa : Int) * (m : Int) = (xm : Int) := by rw [← hxm]; simp
                    have e2 : (xm : Int) + (ya : Int) = (sm : Int) := by rw [← hsm]; simp
                    have e3 : IntKind.i64.wrap (xm : Int) = (xm : Int) := by rw [IntKind.wrap_i64]; omega
                    have e4 : IntKind.i64.wrap (sm : Int) = (sm : Int) := by rw [IntKind.wrap_i64]; omega
                    have e5 : (0 : Int) ≤ (sm : Int) := by omega
                    have e6 : (sm : Int) < (p : Int) := by omega
                    have e7 : (q : Int) < (ay.length : Int) := by omega
                    have e8 : (q : Int) < (ax.length : Int) := by omega
                    have lt0 : W2.heap.size < wx.heap.size := H5.out.tab.tab.lt
                    clear hok htop hll hsucc kx ky eux euy hat hxa' hya' hxm hsm hxa hya hxn hym
                    go_wp2_with fail
                    go_region
                    go_wp2_with fail
                    clear e1 e2 e3 e4 e5 e6 e7 e8
                    exact ⟨⟨q + 1, by omega, by go_num, rfl, Lib.hid H5.out.drew⟩, by simp [intOf]; omega⟩
                  · obtain rfl : ax.length = q := by omega
                    have hres : (topE tx ty && Tm.embs ty.args tx.args) = true := by
                      rw [← allTo_all FX.out FY.out, ← PX.out.1]
                      exact hok
                    have HRES := Lib.hid hres
                    clear hok hres
                    go_wp2_with fail
                    go_meet
                    exact ⟨by rw [HRES.out], H5⟩
            case rest =>
              obtain ⟨rfl, h5⟩ := hcut
              have H5 := Lib.hid h5.out
              clear h5 H4
              go_wp2_with fail
              go_loopw [13, 15] (fun s j wr => ∃ q : Nat, q ≤ ay.length ∧ j = .int .i64 q ∧ s = .bool (anyTo ty tx q) ∧ Hid (DR3 W2 wr M1 M2 (.slice (some ⟨g1, 0, none⟩) n c1) (.slice (some ⟨g2, 0, none⟩) m c2) p m k wz.heap.size wy.heap.size ⟨⟨ty, ay⟩, .slice gsy nsy csy, .slice gy ay.length cy⟩ ⟨⟨tx, ax⟩, .slice gsx nsx csx, .slice gx ax.length cx⟩ I T)) (fun _ j _ => ay.length - (intOf j).toNat)
              case atStart => exact ⟨0, Nat.zero_le _, rfl, by rw [anyTo_zero], H5⟩
              case round =>
                obtain ⟨wx, rfl⟩ : ∃ x, x = wr := ⟨_, rfl⟩
                obtain ⟨q, hq, rfl, rfl, hgl⟩ := hrel
                have H6 := Lib.hid hgl.out
                clear hgl H5
                obtain ⟨y0, y1, y2, y3, y4⟩ := row5e H6.out.by'
                simp only at y0 y1 y2 y3 y4
                have lyb : wz.heap.size < wx.heap.size := (Array.getElem?_eq_some_iff.1 H6.out.by').1
                have lt0 : W2.heap.size < wx.heap.size := H6.out.tab.tab.lt
                have hlty : (ay.length : Int) ≤ 3000 := by omega
                by_cases hlt4 : q < ay.length
                · have hqty : q < ty.args.length := by have := PY.out.1; omega
                  have hsucc := anyTo_succ (x := tx) hqty
                  cases hok : anyTo ty tx q with
                  | true =>
                    rw [hok, Bool.true_or] at hsucc
                    have HSU := Lib.hid hsucc
                    clear hok hsucc
                    go_wp2_with fail
                    exact ⟨⟨q + 1, by omega, by go_num, by rw [HSU.out], H6⟩, by simp [intOf]; omega⟩
                  | false =>
                    rw [hok, Bool.false_or] at hsucc
                    have ky := H6.out.tab.q2.ks M2[k] (List.getElem_mem hk2)
                    rw [HY.out] at ky
                    obtain ⟨bby, hgy, _, lbby, zy⟩ := ky.get hlt4
                    subst hgy
                    obtain ⟨hya, uy, euy⟩ := PY.out.2 q hlt4 hqty
                    have hat := H6.out.st.at (parts_t hI1 HX.out) euy hya
                    have hym : ay[q] < m := by omega
                    have hidx := tab_at hltI hym
                    rw [HPP.out] at hidx
                    simp only at zy
                    obtain ⟨ya, hya'⟩ : ∃ ya, ay[q] = ya := ⟨_, rfl⟩
                    rw [hya'] at zy hat hidx
                    obtain ⟨xm, hxm⟩ : ∃ xm, I * m = xm := ⟨_, rfl⟩
                    rw [hxm] at hat hidx
                    obtain ⟨sm, hsm⟩ : ∃ sm, xm + ya = sm := ⟨_, rfl⟩
                    rw [hsm] at hat hidx
                    have hcell := H6.out.tab.tab.cell hidx
                    rw [hat, ← hsucc] at hcell
                    have e1 : (I : Int) * (m : Int) = (xm : Int) := by rw [← hxm]; simp
                    have e2 : (xm : Int) + (ya : Int) = (sm : Int) := by rw [← hsm]; simp
                    have e3 : IntKind.i64.wrap (xm : Int) = (xm : Int) := by rw [IntKind.wrap_i64]; omega
                    have e4 : IntKind.i64.wrap (sm : Int) = (sm : Int) := by rw [IntKind.wrap_i64]; omega
                    have e5 : (0 : Int) ≤ (sm : Int) := by omega
                    have e6 : (sm : Int) < (p : Int) := by omega
                    have e7 : (q : Int) < (ay.length : Int) := by omega
                    clear hok hsucc ky euy hat hya' hxm hsm hya hym
                    go_wp2_with fail
                    clear e1 e2 e3 e4 e5 e6 e7
                    exact ⟨⟨q + 1, by omega, by go_num, rfl, H6⟩, by simp [intOf]; omega⟩
                · obtain rfl : ay.length = q := by omega
                  have hany : anyTo ty tx ay.length = ty.emb tx := by rw [PY.out.1]; exact anyTo_all ty tx
                  have hidx := tab_at hltI hlt
                  rw [HPP.out] at hidx
                  obtain ⟨xm, hxm⟩ : ∃ xm, I * m = xm := ⟨_, rfl⟩
                  rw [hxm] at hidx
                  obtain ⟨sm, hsm⟩ : ∃ sm, xm + k = sm := ⟨_, rfl⟩
                  rw [hsm] at hidx
                  rw [hany]
                  obtain ⟨r, hr⟩ : ∃ r, ty.emb tx = r := ⟨_, rfl⟩
                  rw [hr]
                  have hcell := H6.out.tab.tab.cell hidx
                  have hfz := H6.out.tab.tab.frozen sm
                  have e1 : (I : Int) * (m : Int) = (xm : Int) := by rw [← hxm]; simp
                  have e2 : (xm : Int) + (k : Int) = (sm : Int) := by rw [← hsm]; simp
                  have e3 : IntKind.i64.wrap (xm : Int) = (xm : Int) := by rw [IntKind.wrap_i64]; omega
                  have e4 : IntKind.i64.wrap (sm : Int) = (sm : Int) := by rw [IntKind.wrap_i64]; omega
                  have e5 : (0 : Int) ≤ (sm : Int) := by omega
                  have e6 : (sm : Int) < (p : Int) := by omega
                  have hkl : k < (qsOf M2).length := by rw [qsOf_length]; exact hk2
                  have hIl : I < (qsOf M1).length := by rw [qsOf_length]; exact hI1
                  have hr2 : r = (qsOf M2)[k].t.emb (qsOf M1)[I].t := by
                    have h1 := parts_t hk2 HY.out
                    have h2 := parts_t hI1 HX.out
                    rw [List.getElem?_eq_getElem hkl] at h1
                    rw [List.getElem?_eq_getElem hIl] at h2
                    rw [Option.some.inj h1, Option.some.inj h2, hr]
                  have hst2 := H6.out.st.set (by rw [qsOf_length, HM.out]) hkl hIl hr2
                  rw [hxm, hsm] at hst2
                  have HST2 := Lib.hid hst2
                  clear hany hxm hsm hr hr2 hst2
                  go_wp2_with fail
                  clear e1 e2 e3 e4 e5 e6
                  exact ⟨⟨I + 1, by omega, by go_num, Lib.hid ⟨_, H6.out.tab.set sm r, HST2.out, (Below.heap_setCell _ _ _ _ (by show wz.heap.size ≠ W2.heap.size; have := H6.out.hy; omega)).trans H6.out.by', H6.out.hy⟩⟩, by simp [intOf]; omega⟩
        · obtain rfl : n = I := by omega
          obtain ⟨T, hT, hst, hby, hyb⟩ := HGL.out
          have HR5 : Hid (DR1 W2 wy M1 M2 (.slice (some ⟨g1, 0, none⟩) n c1) (.slice (some ⟨g2, 0, none⟩) m c2) p m (k + 1)) := Lib.hid ⟨T, hT, hst.next (by rw [qsOf_length, HN.out])⟩
          clear hT hst hby hyb HGL
          go_wp2_with fail
          exact ⟨⟨k + 1, by omega, by go_num, HR5⟩, by simp [intOf]; omega⟩
    · obtain rfl : m = k := by omega
      obtain ⟨T, hT, hst⟩ := HGL.out
      have hk1 : m - 1 < m := by omega
      have hn1 : n - 1 < n := by omega
      have hidx := tab_at hn1 hk1
      rw [HPP.out] at hidx
      have hpn : (n - 1) * m + (m - 1) = p - 1 := by
        have h1 := HPP.out
        obtain ⟨n', rfl⟩ : ∃ n', n = n' + 1 := ⟨n - 1, by omega⟩
        rw [Nat.add_mul, Nat.one_mul] at h1
        simp only [Nat.add_sub_cancel]
        omega
      have hlast : T (p - 1) = b.emb a := by
        obtain ⟨q1, e1⟩ := partsTo_last a []
        obtain ⟨q2, e2⟩ := partsTo_last b []
        have f1 : a.partsTo [] = qsOf M1 := HQ1.out.symm
        have f2 : b.partsTo [] = qsOf M2 := HQ2.out.symm
        rw [f1, qsOf_length, HN.out] at e1
        rw [f2, qsOf_length, HM.out] at e2
        rw [← hpn]
        exact hst.at e1 e2 (by omega)
      have hcell := hT.tab.cell (i := p - 1) (by omega)
      rw [hlast] at hcell
      obtain ⟨pp, hpp⟩ : ∃ pp, p - 1 = pp := ⟨_, rfl⟩
      rw [hpp] at hcell
      have e1 : (n : Int) * (m : Int) = (p : Int) := by rw [← HPP.out]; simp
      have e2 : (p : Int) - 1 = (pp : Int) := by omega
      have e3 : IntKind.i64.wrap (p : Int) = (p : Int) := by rw [IntKind.wrap_i64]; omega
      have e4 : IntKind.i64.wrap (pp : Int) = (pp : Int) := by rw [IntKind.wrap_i64]; omega
      have e5 : (0 : Int) ≤ (pp : Int) := by omega
      have e6 : (pp : Int) < (p : Int) := by omega
      have hbf := HB2.out.trans (hT.below.mono (by have := HB2.out.size; omega))
      have lt0 : W2.heap.size < wz.heap.size := hT.tab.lt
      have HBF := Lib.hid hbf
      clear hT hst hlast hpn hpp hbf
      go_wp2_with fail
      go_ret
      exact ⟨rfl, HBF.out⟩
end Go.Proofs.Ytomdccejgmhfoaa
