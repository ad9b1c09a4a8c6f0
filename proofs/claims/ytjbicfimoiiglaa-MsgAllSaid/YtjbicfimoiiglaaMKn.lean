/-
  The walk of the law's 'knows' for least generalisations: the document's example.
-/
import Derived.Test.YtjbicfimoiiglaaMAll
import Derived.Test.YtjbicfimoiiglaaThree
import Derived.Deep.RegionHeld3
namespace Go.Proofs.Ytjbicfimoiiglaa
open Go.RowKit Go.Shelf Go.Maps

theorem sh1 {Goal : Prop} (F G : World → Prop) (main : (∀ W, F W → G W) → Goal) (tail : ∀ W, F W → G W) : Goal := main tail
theorem sh2 {Goal : Prop} (F G : Nat → World → Prop) (main : (∀ a W, F a W → G a W) → Goal) (tail : ∀ a W, F a W → G a W) : Goal := main tail
theorem sh3 {Goal : Prop} (F G : Nat → Nat → World → Prop) (main : (∀ a b W, F a b W → G a b W) → Goal) (tail : ∀ a b W, F a b W → G a b W) : Goal := main tail
theorem sh4 {Goal : Prop} (F G : Nat → Nat → Nat → World → Prop) (main : (∀ a b c W, F a b c W → G a b c W) → Goal) (tail : ∀ a b c W, F a b c W → G a b c W) : Goal := main tail
theorem sh5 {Goal : Prop} (F G : Nat → Nat → Nat → Nat → World → Prop) (main : (∀ a b c d W, F a b c d W → G a b c d W) → Goal) (tail : ∀ a b c d W, F a b c d W → G a b c d W) : Goal := main tail
theorem sh6 {Goal : Prop} (F G : Nat → Nat → Nat → Nat → Nat → World → Prop) (main : (∀ a b c d e W, F a b c d e W → G a b c d e W) → Goal) (tail : ∀ a b c d e W, F a b c d e W → G a b c d e W) : Goal := main tail
theorem shE {Goal : Prop} (F G : Nat → Nat → Nat → Nat → Nat → Option Addr → Nat → World → Prop) (main : (∀ x y z u a b c W, F x y z u a b c W → G x y z u a b c W) → Goal) (tail : ∀ x y z u a b c W, F x y z u a b c W → G x y z u a b c W) : Goal := main tail
theorem lift6_inn {W W' : World} {t : Tm} {sv : Value} (h : Tm.inn W W.heap.size t sv) (hb : Below W.heap.size W W') : Tm.inn W' W'.heap.size t sv := Tm.inn_mono (Tm.inn_below h hb (Nat.le_refl _)) hb.size
theorem lift6 {W W' : World} {l : List Tm} {sv : Value} (h : Tm.sliceIn W W.heap.size l sv) (hb : Below W.heap.size W W') : Tm.sliceIn W' W'.heap.size l sv := Tm.sliceIn_mono (Tm.sliceIn_below h hb (Nat.le_refl _)) hb.size
/-- The law's 'fun': a term built from a name and its arguments. -/
theorem mfun6 (s : ByteArray) (w : World) (g : Option Addr) (n c : Nat) :
    Calls Try.prog 43 #[.string s, .slice g n c] w fun e w' => e = .returned (.agg #[.int .i64 3, .string s, .int .i64 0, .slice g n c]) ∧ Below w.heap.size w w' := by
  go_enter Try.func43, Try.ntmps43
  go_wp2_with fail
  refine bodyPost_ret (v := .agg #[.int .i64 3, .string s, .int .i64 0, .slice g n c]) (by simp [results, Try.results43, go_sem]) rfl ?_
  exact ⟨rfl, (Below.refl w.heap.size w).alloc (Nat.le_refl _) _⟩
theorem fun6_inn {W : World} {B : Nat} {s : ByteArray} {l : List Tm} {sv : Value} (hs : s.size ≤ maxLen) (h : Tm.sliceIn W B l sv) : Tm.inn W B (.mk 3 s 0 l) sv := Tm.inn_mk.2 ⟨⟨by decide, hs, by decide⟩, h⟩
theorem nil6_in {W : World} {B : Nat} : Tm.sliceIn W B [] (.slice none 0 0) := ⟨none, 0, rfl, Nat.le_refl _, Nat.zero_le _, .inl rfl⟩
def k6a : Tm := .mk 3 ⟨#[97]⟩ 0 []
def k6b : Tm := .mk 3 ⟨#[98]⟩ 0 []
def k6c : Tm := .mk 3 ⟨#[99]⟩ 0 []
def k6ga : Tm := .mk 3 ⟨#[103]⟩ 0 [k6a]
def k6gb : Tm := .mk 3 ⟨#[103]⟩ 0 [k6b]
def k6fa : Tm := .mk 3 ⟨#[102]⟩ 0 [k6a, k6ga, k6a]
def k6fb : Tm := .mk 3 ⟨#[102]⟩ 0 [k6b, k6gb, k6c]
def k6v (i : Int) : Tm := .mk 1 ⟨#[]⟩ i []
def k6r : Tm := .mk 3 ⟨#[102]⟩ 0 [k6v 0, .mk 3 ⟨#[103]⟩ 0 [k6v 0], k6v 1]
theorem k6_right : k6a.right = true ∧ k6b.right = true ∧ k6fa.right = true ∧ k6fb.right = true := ⟨by kernel_rfl, by kernel_rfl, by kernel_rfl, by kernel_rfl⟩
theorem k6_msg : msgT k6fa k6fb = k6r := by kernel_rfl
theorem k6_apart : (prsT [] k6a k6b).length = 1 := by kernel_rfl
theorem k6_inn {W : World} {s : ByteArray} (hs : s.size ≤ maxLen) : Tm.inn W W.heap.size (.mk 3 s 0 []) (.slice none 0 0) := fun6_inn hs nil6_in
/-- The three leaves in their boxes. -/
def S12 (m : Nat) (W : World) : Prop :=
  (W.cell? ⟨m, 0, none⟩ = some (.int .i64 3) ∧ W.cell? ⟨m, 1, none⟩ = some (.string ⟨#[97]⟩) ∧ W.cell? ⟨m, 2, none⟩ = some (.int .i64 0) ∧ W.cell? ⟨m, 3, none⟩ = some (.slice none 0 0)) ∧
  (W.cell? ⟨m + 1, 0, none⟩ = some (.int .i64 3) ∧ W.cell? ⟨m + 1, 1, none⟩ = some (.string ⟨#[98]⟩) ∧ W.cell? ⟨m + 1, 2, none⟩ = some (.int .i64 0) ∧ W.cell? ⟨m + 1, 3, none⟩ = some (.slice none 0 0)) ∧
  (W.cell? ⟨m + 1 + 1, 0, none⟩ = some (.int .i64 3) ∧ W.cell? ⟨m + 1 + 1, 1, none⟩ = some (.string ⟨#[99]⟩) ∧ W.cell? ⟨m + 1 + 1, 2, none⟩ = some (.int .i64 0) ∧ W.cell? ⟨m + 1 + 1, 3, none⟩ = some (.slice none 0 0))
theorem S12.nx {m : Nat} {W W' : World} (h : S12 m W) (hb : Below W.heap.size W W') : S12 m W' := by
  have key : ∀ b o v, W.cell? ⟨b, o, none⟩ = some v → W'.cell? ⟨b, o, none⟩ = some v := fun b o v h => (hb.cell (p := ⟨b, o, none⟩) (World.block_lt_of_cell? _ _ h)).trans h
  obtain ⟨⟨a0, a1, a2, a3⟩, ⟨b0, b1, b2, b3⟩, c0, c1, c2, c3⟩ := h
  exact ⟨⟨key _ _ _ a0, key _ _ _ a1, key _ _ _ a2, key _ _ _ a3⟩, ⟨key _ _ _ b0, key _ _ _ b1, key _ _ _ b2, key _ _ _ b3⟩, key _ _ _ c0, key _ _ _ c1, key _ _ _ c2, key _ _ _ c3⟩
/-- A slice of terms, all of whose memory is there. -/
def Sl (b k : Nat) (l : List Tm) (W : World) : Prop := Tm.sliceIn W W.heap.size l (.slice (some ⟨b, 0, none⟩) k k)
theorem Sl.nx {b k : Nat} {l : List Tm} {W W' : World} (h : Sl b k l W) (hb : Below W.heap.size W W') : Sl b k l W' := lift6 h hb
/-- A zero term's box. -/
def ZB (b : Nat) (W : World) : Prop := W.heap[b]? = some (Obj.cells #[.int .i64 0, .string ⟨#[]⟩, .int .i64 0, .slice none 0 0] 24 (0, 0))
theorem ZB.nx {b : Nat} {W W' : World} (h : ZB b W) (hb : Below W.heap.size W W') : ZB b W' := (hb.block _ (Array.getElem?_eq_some_iff.1 h).1).trans h
theorem sl_one {W : World} {a : Tm} {sv : Value} (ha : Tm.inn W W.heap.size a sv) : Sl W.heap.size 1 [a] (W.alloc (Obj.cells #[.int .i64 a.kind, .string a.name, .int .i64 a.n, sv] 24 (0, 0))) :=
  one_slice (newBlk _ _ _ rfl) (lift6_inn ha ((Below.refl _ _).alloc (Nat.le_refl _) _))
theorem sl_three {W : World} {a b c : Tm} {sa sb sc : Value} (ha : Tm.inn W W.heap.size a sa) (hb : Tm.inn W W.heap.size b sb) (hc : Tm.inn W W.heap.size c sc) :
    Sl W.heap.size 3 [a, b, c] (W.alloc (Obj.cells #[.int .i64 a.kind, .string a.name, .int .i64 a.n, sa, .int .i64 b.kind, .string b.name, .int .i64 b.n, sb, .int .i64 c.kind, .string c.name, .int .i64 c.n, sc] 24 (0, 0))) :=
  three_slice (newBlk _ _ _ rfl) (lift6_inn ha ((Below.refl _ _).alloc (Nat.le_refl _) _)) (lift6_inn hb ((Below.refl _ _).alloc (Nat.le_refl _) _)) (lift6_inn hc ((Below.refl _ _).alloc (Nat.le_refl _) _))
theorem S12.keep {m : Nat} {W W' : World} (h : S12 m W) (h0 : W'.heap[m]? = W.heap[m]?) (h1 : W'.heap[m + 1]? = W.heap[m + 1]?) (h2 : W'.heap[m + 1 + 1]? = W.heap[m + 1 + 1]?) : S12 m W' := by
  obtain ⟨⟨a0, a1, a2, a3⟩, ⟨b0, b1, b2, b3⟩, c0, c1, c2, c3⟩ := h
  exact ⟨⟨(World.cell?_of_block (a := ⟨m, 0, none⟩) h0).trans a0, (World.cell?_of_block (a := ⟨m, 1, none⟩) h0).trans a1, (World.cell?_of_block (a := ⟨m, 2, none⟩) h0).trans a2, (World.cell?_of_block (a := ⟨m, 3, none⟩) h0).trans a3⟩,
    ⟨(World.cell?_of_block (a := ⟨m + 1, 0, none⟩) h1).trans b0, (World.cell?_of_block (a := ⟨m + 1, 1, none⟩) h1).trans b1, (World.cell?_of_block (a := ⟨m + 1, 2, none⟩) h1).trans b2, (World.cell?_of_block (a := ⟨m + 1, 3, none⟩) h1).trans b3⟩,
    (World.cell?_of_block (a := ⟨m + 1 + 1, 0, none⟩) h2).trans c0, (World.cell?_of_block (a := ⟨m + 1 + 1, 1, none⟩) h2).trans c1, (World.cell?_of_block (a := ⟨m + 1 + 1, 2, none⟩) h2).trans c2, (World.cell?_of_block (a := ⟨m + 1 + 1, 3, none⟩) h2).trans c3⟩
theorem S12.far {m b : Nat} {W : World} (h : S12 m W) (hz : ZB b W) : m ≠ b ∧ m + 1 ≠ b ∧ m + 1 + 1 ≠ b := by
  have hc := (row4 hz).1.1
  refine ⟨fun e => ?_, fun e => ?_, fun e => ?_⟩
  · subst e; have := h.1.1; rw [hc] at this; cases this
  · subst e; have := h.2.1.1; rw [hc] at this; cases this
  · subst e; have := h.2.2.1; rw [hc] at this; cases this
/-- The cells of the example's answer. -/
theorem k6r_cells {W : World} {g : Option Addr} {n c : Nat} (h : Tm.inn W W.heap.size k6r (.slice g n c)) : ∃ b o b' o' n' c', g = some ⟨b, o, none⟩ ∧ n = 3 ∧ n' = 1 ∧ W.cell? ⟨b, o, none⟩ = some (.int .i64 1) ∧ W.cell? ⟨b, o + 2, none⟩ = some (.int .i64 0) ∧ W.cell? ⟨b, o + 4 + 3, none⟩ = some (.slice (some ⟨b', o', none⟩) n' c') ∧ W.cell? ⟨b', o' + 2, none⟩ = some (.int .i64 0) ∧ W.cell? ⟨b, o + 8 + 2, none⟩ = some (.int .i64 1) := by
  obtain ⟨_, hsl⟩ := Tm.inn_mk.1 h
  obtain ⟨g', cap', he, _⟩ := id hsl
  injection he with e1 e2 e3
  obtain ⟨b, o, s0, hg, _, c0, _, c2, _, _⟩ := Tm.sliceIn_get hsl 0 (by decide)
  obtain ⟨b1, o1, s1, hg1, _, _, _, _, d3, hi⟩ := Tm.sliceIn_get hsl 1 (by decide)
  obtain ⟨b2, o2, s2, hg2, _, _, _, f2, _, _⟩ := Tm.sliceIn_get hsl 2 (by decide)
  rw [hg] at hg1 hg2
  injection hg1 with hg1
  injection hg1 with q1 q2
  injection hg2 with hg2
  injection hg2 with q3 q4
  subst q1 q2 q3 q4
  obtain ⟨_, hsl1⟩ := Tm.inn_mk.1 (show Tm.inn W W.heap.size (.mk 3 ⟨#[103]⟩ 0 [k6v 0]) s1 from hi)
  obtain ⟨g4, c4, rfl, _⟩ := id hsl1
  obtain ⟨b', o', s4, hg4, _, _, _, k2, _, _⟩ := Tm.sliceIn_get hsl1 0 (by decide)
  subst hg4
  exact ⟨b, o, b', o', 1, c4, hg, e2, rfl, by simpa [k6v, Tm.kind] using c0, by simpa [k6v, Tm.n] using c2, by simpa using d3, by simpa [k6v, Tm.n] using k2, by simpa [k6v, Tm.n] using f2⟩
/-- What 'knows' leaves. -/
def K6Post (w : World) (e : Ending) (w' : World) : Prop := e = .returned (.bool true) ∧ Below w.heap.size w w'

set_option maxRecDepth 100000 in
set_option maxHeartbeats 16000000 in
theorem k6_any (w : World) : Calls Try.prog 14 #[] w fun e w' => K6Post w e w' := by
  go_enter Try.func14, Try.ntmps14
  go_wp2_with fail
  refine (mfun6 ⟨#[97]⟩ _ _ _ _).mono ?_
  rintro e va ⟨rfl, ha⟩
  go_wp2_with fail
  refine (mfun6 ⟨#[98]⟩ _ _ _ _).mono ?_
  rintro e vb ⟨rfl, hb⟩
  go_wp2_with fail
  refine (mfun6 ⟨#[99]⟩ _ _ _ _).mono ?_
  rintro e vc ⟨rfl, hc⟩
  have hv : Below w.heap.size w vc := (ha.trans (hb.mono ha.size)).trans (hc.mono (ha.trans (hb.mono ha.size)).size)
  have HV := Lib.hid hv
  clear ha hb hc hv
  go_wp2_with fail
  obtain ⟨W0, hW0⟩ : ∃ W0, ((vc.alloc (Obj.cells #[.int .i64 3, .string ⟨#[97]⟩, .int .i64 0, .slice none 0 0] 24 (0, 0))).alloc (Obj.cells #[.int .i64 3, .string ⟨#[98]⟩, .int .i64 0, .slice none 0 0] 24 (0, 0))).alloc (Obj.cells #[.int .i64 3, .string ⟨#[99]⟩, .int .i64 0, .slice none 0 0] 24 (0, 0)) = W0 := ⟨_, rfl⟩
  obtain ⟨m, hm⟩ : ∃ m, vc.heap.size = m := ⟨_, rfl⟩
  have q0 : S12 m W0.drew ∧ Below w.heap.size w W0 := by
    rw [← hW0, ← hm]
    have ra := row4 ((Below.heap_alloc _ (Obj.cells #[.int .i64 3, .string ⟨#[99]⟩, .int .i64 0, .slice none 0 0] 24 (0, 0)) _ (by simp; omega)).trans ((Below.heap_alloc _ (Obj.cells #[.int .i64 3, .string ⟨#[98]⟩, .int .i64 0, .slice none 0 0] 24 (0, 0)) _ (by simp)).trans (newBlk vc (Obj.cells #[.int .i64 3, .string ⟨#[97]⟩, .int .i64 0, .slice none 0 0] 24 (0, 0)) _ rfl)))
    have rb := row4 ((Below.heap_alloc _ (Obj.cells #[.int .i64 3, .string ⟨#[99]⟩, .int .i64 0, .slice none 0 0] 24 (0, 0)) _ (by simp)).trans (newBlk (vc.alloc (Obj.cells #[.int .i64 3, .string ⟨#[97]⟩, .int .i64 0, .slice none 0 0] 24 (0, 0))) (Obj.cells #[.int .i64 3, .string ⟨#[98]⟩, .int .i64 0, .slice none 0 0] 24 (0, 0)) (vc.heap.size + 1) (by simp)))
    have rc := row4 (newBlk ((vc.alloc (Obj.cells #[.int .i64 3, .string ⟨#[97]⟩, .int .i64 0, .slice none 0 0] 24 (0, 0))).alloc (Obj.cells #[.int .i64 3, .string ⟨#[98]⟩, .int .i64 0, .slice none 0 0] 24 (0, 0))) (Obj.cells #[.int .i64 3, .string ⟨#[99]⟩, .int .i64 0, .slice none 0 0] 24 (0, 0)) (vc.heap.size + 1 + 1) (by simp))
    exact ⟨⟨ra.1, rb.1, rc.1⟩, ((HV.out.alloc HV.out.size _).alloc (by have := HV.out.size; simp; omega) _).alloc (by have := HV.out.size; simp; omega) _⟩
  simp only [hW0, hm]
  obtain ⟨q0, q1⟩ := q0
  clear hW0 hm HV
  refine wp_region_held_drew (S := fun W' => S12 m W') (by kernel_rfl) q0 (fun hHeld => ?_)
  refine wpAnyH_take (i := 0) (oi := _) (v := ?_) rfl (by kernel_rfl) (by kernel_rfl) (by kernel_rfl) (fun _ _ _ h => h) (Or.inl ⟨by rfl, ?_⟩) hHeld ?_
  rotate_left
  · (intro w hSw; obtain ⟨⟨a0, a1, a2, a3⟩, ⟨b0, b1, b2, b3⟩, c0, c1, c2, c3⟩ := hSw; go_simp; try with_reducible rfl)
  try simp only [Act.put, List.setIfInBounds_toArray, List.set_cons_zero, List.set_cons_succ, List.getElem_toArray, List.getElem_cons_zero]
  refine wpAnyH_take (i := 1) (oi := _) (v := ?_) rfl (by kernel_rfl) (by kernel_rfl) (by kernel_rfl) (fun _ _ _ h => h) (Or.inl ⟨by rfl, ?_⟩) hHeld ?_
  rotate_left
  · (intro w hSw; obtain ⟨⟨a0, a1, a2, a3⟩, ⟨b0, b1, b2, b3⟩, c0, c1, c2, c3⟩ := hSw; go_simp; try with_reducible rfl)
  try simp only [Act.put, List.setIfInBounds_toArray, List.set_cons_zero, List.set_cons_succ, List.getElem_toArray, List.getElem_cons_zero, List.getElem_cons_succ]
  refine wpAnyH_take (i := 4) (oi := _) (v := ?_) rfl (by kernel_rfl) (by kernel_rfl) (by kernel_rfl) (fun _ _ _ h => h) (Or.inl ⟨by rfl, ?_⟩) hHeld ?_
  rotate_left
  · (intro w hSw; obtain ⟨⟨a0, a1, a2, a3⟩, ⟨b0, b1, b2, b3⟩, c0, c1, c2, c3⟩ := hSw; go_simp; try with_reducible rfl)
  try simp only [Act.put, List.setIfInBounds_toArray, List.set_cons_zero, List.set_cons_succ, List.getElem_toArray, List.getElem_cons_zero, List.getElem_cons_succ]
  refine wpAnyH_take (i := 7) (oi := _) (v := ?_) rfl (by kernel_rfl) (by kernel_rfl) (by kernel_rfl) (fun _ _ _ h => h) (Or.inl ⟨by rfl, ?_⟩) hHeld ?_
  rotate_left
  · (intro w hSw; obtain ⟨⟨a0, a1, a2, a3⟩, ⟨b0, b1, b2, b3⟩, c0, c1, c2, c3⟩ := hSw; go_simp; try with_reducible rfl)
  try simp only [Act.put, List.setIfInBounds_toArray, List.set_cons_zero, List.set_cons_succ, List.getElem_toArray, List.getElem_cons_zero, List.getElem_cons_succ]
  refine wpAnyH_take (i := 8) (oi := _) (v := ?_) rfl (by kernel_rfl) (by kernel_rfl) (by kernel_rfl) (fun _ _ _ h => h) (Or.inl ⟨by rfl, ?_⟩) hHeld ?_
  rotate_left
  · (intro w hSw; obtain ⟨⟨a0, a1, a2, a3⟩, ⟨b0, b1, b2, b3⟩, c0, c1, c2, c3⟩ := hSw; go_simp; try with_reducible rfl)
  try simp only [Act.put, List.setIfInBounds_toArray, List.set_cons_zero, List.set_cons_succ, List.getElem_toArray, List.getElem_cons_zero, List.getElem_cons_succ]
  refine wpAnyH_take (i := 11) (oi := _) (v := ?_) rfl (by kernel_rfl) (by kernel_rfl) (by kernel_rfl) (fun _ _ _ h => h) (Or.inl ⟨by rfl, ?_⟩) hHeld ?_
  rotate_left
  · (intro w hSw; obtain ⟨⟨a0, a1, a2, a3⟩, ⟨b0, b1, b2, b3⟩, c0, c1, c2, c3⟩ := hSw; go_simp; try with_reducible rfl)
  try simp only [Act.put, List.setIfInBounds_toArray, List.set_cons_zero, List.set_cons_succ, List.getElem_toArray, List.getElem_cons_zero, List.getElem_cons_succ]
  have HF0 := Lib.hid (And.intro q0 q1)
  clear hHeld q0 q1
  apply shE (fun b2 b5 b9 b12 bal g1 c1 X => S12 m X ∧ Below w.heap.size w X ∧ ZB bal X ∧ w.heap.size ≤ bal ∧ Tm.innP X (fun q => q < X.heap.size ∧ q ≠ bal) k6r (.slice g1 k6r.args.length c1))
  case main =>
    intro HE
    apply sh6 (fun b2 b5 b9 b12 bal X => S12 m X ∧ Below w.heap.size w X ∧ Sl b5 3 [k6a, k6ga, k6a] X ∧ Sl b12 3 [k6b, k6gb, k6c] X ∧ ZB bal X ∧ w.heap.size ≤ bal)
    case main =>
      intro H711
      apply sh5 (fun b2 b5 b9 b12 X => S12 m X ∧ Below w.heap.size w X ∧ Sl b5 3 [k6a, k6ga, k6a] X ∧ Sl b12 3 [k6b, k6gb, k6c] X)
      case main =>
        intro H710
        apply sh6 (fun b2 b5 b9 b12 bal X => S12 m X ∧ Below w.heap.size w X ∧ Sl b5 3 [k6a, k6ga, k6a] X ∧ Sl b12 3 [k6b, k6gb, k6c] X ∧ ZB bal X ∧ w.heap.size ≤ bal)
        case main =>
          intro H611
          apply sh5 (fun b2 b5 b9 b12 X => S12 m X ∧ Below w.heap.size w X ∧ Sl b5 3 [k6a, k6ga, k6a] X ∧ Sl b12 3 [k6b, k6gb, k6c] X)
          case main =>
            intro H610
            apply sh5 (fun b2 b5 b9 bal X => S12 m X ∧ Below w.heap.size w X ∧ Sl b5 3 [k6a, k6ga, k6a] X ∧ Sl b9 1 [k6b] X ∧ ZB bal X ∧ w.heap.size ≤ bal)
            case main =>
              intro H511
              apply sh4 (fun b2 b5 b9 X => S12 m X ∧ Below w.heap.size w X ∧ Sl b5 3 [k6a, k6ga, k6a] X ∧ Sl b9 1 [k6b] X)
              case main =>
                intro H510
                apply sh5 (fun b2 b5 b9 bal X => S12 m X ∧ Below w.heap.size w X ∧ Sl b5 3 [k6a, k6ga, k6a] X ∧ Sl b9 1 [k6b] X ∧ ZB bal X ∧ w.heap.size ≤ bal)
                case main =>
                  intro H411
                  apply sh4 (fun b2 b5 b9 X => S12 m X ∧ Below w.heap.size w X ∧ Sl b5 3 [k6a, k6ga, k6a] X ∧ Sl b9 1 [k6b] X)
                  case main =>
                    intro H410
                    apply sh4 (fun b2 b5 bal X => S12 m X ∧ Below w.heap.size w X ∧ Sl b5 3 [k6a, k6ga, k6a] X ∧ ZB bal X ∧ w.heap.size ≤ bal)
                    case main =>
                      intro H401
                      apply sh5 (fun b2 b5 b9 bal X => S12 m X ∧ Below w.heap.size w X ∧ Sl b5 3 [k6a, k6ga, k6a] X ∧ Sl b9 1 [k6b] X ∧ ZB bal X ∧ w.heap.size ≤ bal)
                      case main =>
                        intro H311
                        apply sh3 (fun b2 b5 X => S12 m X ∧ Below w.heap.size w X ∧ Sl b5 3 [k6a, k6ga, k6a] X)
                        case main =>
                          intro H400
                          apply sh4 (fun b2 b5 b9 X => S12 m X ∧ Below w.heap.size w X ∧ Sl b5 3 [k6a, k6ga, k6a] X ∧ Sl b9 1 [k6b] X)
                          case main =>
                            intro H310
                            apply sh4 (fun b2 b5 bal X => S12 m X ∧ Below w.heap.size w X ∧ Sl b5 3 [k6a, k6ga, k6a] X ∧ ZB bal X ∧ w.heap.size ≤ bal)
                            case main =>
                              intro H301
                              apply sh4 (fun b2 b9 bal X => S12 m X ∧ Below w.heap.size w X ∧ Sl b2 1 [k6a] X ∧ Sl b9 1 [k6b] X ∧ ZB bal X ∧ w.heap.size ≤ bal)
                              case main =>
                                intro H211
                                apply sh3 (fun b2 b5 X => S12 m X ∧ Below w.heap.size w X ∧ Sl b5 3 [k6a, k6ga, k6a] X)
                                case main =>
                                  intro H300
                                  apply sh3 (fun b2 b9 X => S12 m X ∧ Below w.heap.size w X ∧ Sl b2 1 [k6a] X ∧ Sl b9 1 [k6b] X)
                                  case main =>
                                    intro H210
                                    apply sh3 (fun b2 bal X => S12 m X ∧ Below w.heap.size w X ∧ Sl b2 1 [k6a] X ∧ ZB bal X ∧ w.heap.size ≤ bal)
                                    case main =>
                                      intro H201
                                      apply sh4 (fun b2 b9 bal X => S12 m X ∧ Below w.heap.size w X ∧ Sl b2 1 [k6a] X ∧ Sl b9 1 [k6b] X ∧ ZB bal X ∧ w.heap.size ≤ bal)
                                      case main =>
                                        intro H111
                                        apply sh2 (fun b2 X => S12 m X ∧ Below w.heap.size w X ∧ Sl b2 1 [k6a] X)
                                        case main =>
                                          intro H200
                                          apply sh3 (fun b2 b9 X => S12 m X ∧ Below w.heap.size w X ∧ Sl b2 1 [k6a] X ∧ Sl b9 1 [k6b] X)
                                          case main =>
                                            intro H110
                                            apply sh3 (fun b2 bal X => S12 m X ∧ Below w.heap.size w X ∧ Sl b2 1 [k6a] X ∧ ZB bal X ∧ w.heap.size ≤ bal)
                                            case main =>
                                              intro H101
                                              apply sh3 (fun b9 bal X => S12 m X ∧ Below w.heap.size w X ∧ Sl b9 1 [k6b] X ∧ ZB bal X ∧ w.heap.size ≤ bal)
                                              case main =>
                                                intro H011
                                                apply sh2 (fun b2 X => S12 m X ∧ Below w.heap.size w X ∧ Sl b2 1 [k6a] X)
                                                case main =>
                                                  intro H100
                                                  apply sh2 (fun b9 X => S12 m X ∧ Below w.heap.size w X ∧ Sl b9 1 [k6b] X)
                                                  case main =>
                                                    intro H010
                                                    apply sh2 (fun bal X => S12 m X ∧ Below w.heap.size w X ∧ ZB bal X ∧ w.heap.size ≤ bal)
                                                    case main =>
                                                      intro H001
                                                      have f0 : S12 m W0 := HF0.out.1
                                                      have f1 := HF0.out.2
                                                      have hHeld := HF0.out.1
                                                      refine wpAnyH_ready (rs := [2, 9, 18]) (by kernel_rfl) (by simp) ?_
                                                      refine AllReadyH.cons (o := _) rfl (fun K hK => ?_) (AllReadyH.cons (o := _) rfl (fun K hK => ?_) (AllReadyH.cons (o := _) rfl (fun K hK => ?_) (AllReadyH.nil)))
                                                      · skip
                                                        go_simp
                                                        have hy : Below W0.heap.size W0 (W0.alloc (Obj.cells #[.int .i64 3, .string ⟨#[97]⟩, .int .i64 0, .slice none 0 0] 24 (0, 0))) := (Below.refl _ _).alloc (Nat.le_refl _) _
                                                        have hnew : Sl W0.heap.size 1 [k6a] (W0.alloc (Obj.cells #[.int .i64 3, .string ⟨#[97]⟩, .int .i64 0, .slice none 0 0] 24 (0, 0))) := sl_one (a := k6a) (k6_inn (by decide))
                                                        have hyd : Below W0.heap.size W0 (W0.alloc (Obj.cells #[.int .i64 3, .string ⟨#[97]⟩, .int .i64 0, .slice none 0 0] 24 (0, 0))).drew := hy.drew
                                                        have hnew := hnew.nx ((Below.refl _ _).drew)
                                                        obtain ⟨b2, hb2⟩ : ∃ b, W0.heap.size = b := ⟨_, rfl⟩
                                                        obtain ⟨Y, hY⟩ : ∃ Y, (W0.alloc (Obj.cells #[.int .i64 3, .string ⟨#[97]⟩, .int .i64 0, .slice none 0 0] 24 (0, 0))).drew = Y := ⟨_, rfl⟩
                                                        rw [hY] at hyd hnew
                                                        rw [hb2] at hnew
                                                        have g0 := f0.nx hyd
                                                        simp only [hY, hb2]
                                                        refine hK.out _ _ (g0) (fun hHeld => ?_)
                                                        clear hK K
                                                        try simp only [Act.put, List.setIfInBounds_toArray, List.set_cons_zero, List.set_cons_succ, List.getElem_toArray, List.getElem_cons_zero, List.getElem_cons_succ]
                                                        exact H100 b2 Y ⟨g0, f1.trans (hyd.mono f1.size), hnew⟩
                                                      · skip
                                                        go_simp
                                                        have hy : Below W0.heap.size W0 (W0.alloc (Obj.cells #[.int .i64 3, .string ⟨#[98]⟩, .int .i64 0, .slice none 0 0] 24 (0, 0))) := (Below.refl _ _).alloc (Nat.le_refl _) _
                                                        have hnew : Sl W0.heap.size 1 [k6b] (W0.alloc (Obj.cells #[.int .i64 3, .string ⟨#[98]⟩, .int .i64 0, .slice none 0 0] 24 (0, 0))) := sl_one (a := k6b) (k6_inn (by decide))
                                                        have hyd : Below W0.heap.size W0 (W0.alloc (Obj.cells #[.int .i64 3, .string ⟨#[98]⟩, .int .i64 0, .slice none 0 0] 24 (0, 0))).drew := hy.drew
                                                        have hnew := hnew.nx ((Below.refl _ _).drew)
                                                        obtain ⟨b9, hb9⟩ : ∃ b, W0.heap.size = b := ⟨_, rfl⟩
                                                        obtain ⟨Y, hY⟩ : ∃ Y, (W0.alloc (Obj.cells #[.int .i64 3, .string ⟨#[98]⟩, .int .i64 0, .slice none 0 0] 24 (0, 0))).drew = Y := ⟨_, rfl⟩
                                                        rw [hY] at hyd hnew
                                                        rw [hb9] at hnew
                                                        have g0 := f0.nx hyd
                                                        simp only [hY, hb9]
                                                        refine hK.out _ _ (g0) (fun hHeld => ?_)
                                                        clear hK K
                                                        try simp only [Act.put, List.setIfInBounds_toArray, List.set_cons_zero, List.set_cons_succ, List.getElem_toArray, List.getElem_cons_zero, List.getElem_cons_succ]
                                                        exact H010 b9 Y ⟨g0, f1.trans (hyd.mono f1.size), hnew⟩
                                                      · skip
                                                        go_simp
                                                        have hy : Below W0.heap.size W0 (W0.alloc (Obj.cells #[.int .i64 0, .string ⟨#[]⟩, .int .i64 0, .slice none 0 0] 24 (0, 0))) := (Below.refl _ _).alloc (Nat.le_refl _) _
                                                        have hnew : ZB W0.heap.size (W0.alloc (Obj.cells #[.int .i64 0, .string ⟨#[]⟩, .int .i64 0, .slice none 0 0] 24 (0, 0))) := newBlk _ _ _ rfl
                                                        have hyd : Below W0.heap.size W0 (W0.alloc (Obj.cells #[.int .i64 0, .string ⟨#[]⟩, .int .i64 0, .slice none 0 0] 24 (0, 0))).drew := hy.drew
                                                        have hnew := hnew.nx ((Below.refl _ _).drew)
                                                        obtain ⟨bal, hbal⟩ : ∃ b, W0.heap.size = b := ⟨_, rfl⟩
                                                        obtain ⟨Y, hY⟩ : ∃ Y, (W0.alloc (Obj.cells #[.int .i64 0, .string ⟨#[]⟩, .int .i64 0, .slice none 0 0] 24 (0, 0))).drew = Y := ⟨_, rfl⟩
                                                        rw [hY] at hyd hnew
                                                        rw [hbal] at hnew
                                                        have g0 := f0.nx hyd
                                                        simp only [hY, hbal]
                                                        refine hK.out _ _ (g0) (fun hHeld => ?_)
                                                        clear hK K
                                                        try simp only [Act.put, List.setIfInBounds_toArray, List.set_cons_zero, List.set_cons_succ, List.getElem_toArray, List.getElem_cons_zero, List.getElem_cons_succ]
                                                        exact H001 bal Y ⟨g0, f1.trans (hyd.mono f1.size), hnew, (by rw [← hbal]; exact f1.size)⟩
                                                    case tail =>
                                                      intro bal W hF
                                                      obtain ⟨f0, f1, f2, f3⟩ := hF
                                                      have hHeld := f0
                                                      refine wpAnyH_ready (rs := [2, 9]) (by kernel_rfl) (by simp) ?_
                                                      refine AllReadyH.cons (o := _) rfl (fun K hK => ?_) (AllReadyH.cons (o := _) rfl (fun K hK => ?_) (AllReadyH.nil))
                                                      · skip
                                                        go_simp
                                                        have hy : Below W.heap.size W (W.alloc (Obj.cells #[.int .i64 3, .string ⟨#[97]⟩, .int .i64 0, .slice none 0 0] 24 (0, 0))) := (Below.refl _ _).alloc (Nat.le_refl _) _
                                                        have hnew : Sl W.heap.size 1 [k6a] (W.alloc (Obj.cells #[.int .i64 3, .string ⟨#[97]⟩, .int .i64 0, .slice none 0 0] 24 (0, 0))) := sl_one (a := k6a) (k6_inn (by decide))
                                                        obtain ⟨b2, hb2⟩ : ∃ b, W.heap.size = b := ⟨_, rfl⟩
                                                        obtain ⟨Y, hY⟩ : ∃ Y, (W.alloc (Obj.cells #[.int .i64 3, .string ⟨#[97]⟩, .int .i64 0, .slice none 0 0] 24 (0, 0))) = Y := ⟨_, rfl⟩
                                                        rw [hY] at hy hnew
                                                        rw [hb2] at hnew
                                                        have g0 := f0.nx hy
                                                        simp only [hY, hb2]
                                                        refine hK.out _ _ (g0) (fun hHeld => ?_)
                                                        clear hK K
                                                        try simp only [Act.put, List.setIfInBounds_toArray, List.set_cons_zero, List.set_cons_succ, List.getElem_toArray, List.getElem_cons_zero, List.getElem_cons_succ]
                                                        exact H101 b2 bal Y ⟨g0, f1.trans (hy.mono f1.size), hnew, f2.nx hy, f3⟩
                                                      · skip
                                                        go_simp
                                                        have hy : Below W.heap.size W (W.alloc (Obj.cells #[.int .i64 3, .string ⟨#[98]⟩, .int .i64 0, .slice none 0 0] 24 (0, 0))) := (Below.refl _ _).alloc (Nat.le_refl _) _
                                                        have hnew : Sl W.heap.size 1 [k6b] (W.alloc (Obj.cells #[.int .i64 3, .string ⟨#[98]⟩, .int .i64 0, .slice none 0 0] 24 (0, 0))) := sl_one (a := k6b) (k6_inn (by decide))
                                                        obtain ⟨b9, hb9⟩ : ∃ b, W.heap.size = b := ⟨_, rfl⟩
                                                        obtain ⟨Y, hY⟩ : ∃ Y, (W.alloc (Obj.cells #[.int .i64 3, .string ⟨#[98]⟩, .int .i64 0, .slice none 0 0] 24 (0, 0))) = Y := ⟨_, rfl⟩
                                                        rw [hY] at hy hnew
                                                        rw [hb9] at hnew
                                                        have g0 := f0.nx hy
                                                        simp only [hY, hb9]
                                                        refine hK.out _ _ (g0) (fun hHeld => ?_)
                                                        clear hK K
                                                        try simp only [Act.put, List.setIfInBounds_toArray, List.set_cons_zero, List.set_cons_succ, List.getElem_toArray, List.getElem_cons_zero, List.getElem_cons_succ]
                                                        exact H011 b9 bal Y ⟨g0, f1.trans (hy.mono f1.size), hnew, f2.nx hy, f3⟩
                                                  case tail =>
                                                    intro b9 W hF
                                                    obtain ⟨f0, f1, f2⟩ := hF
                                                    have hHeld := f0
                                                    refine wpAnyH_ready (rs := [2, 18]) (by kernel_rfl) (by simp) ?_
                                                    refine AllReadyH.cons (o := _) rfl (fun K hK => ?_) (AllReadyH.cons (o := _) rfl (fun K hK => ?_) (AllReadyH.nil))
                                                    · skip
                                                      go_simp
                                                      have hy : Below W.heap.size W (W.alloc (Obj.cells #[.int .i64 3, .string ⟨#[97]⟩, .int .i64 0, .slice none 0 0] 24 (0, 0))) := (Below.refl _ _).alloc (Nat.le_refl _) _
                                                      have hnew : Sl W.heap.size 1 [k6a] (W.alloc (Obj.cells #[.int .i64 3, .string ⟨#[97]⟩, .int .i64 0, .slice none 0 0] 24 (0, 0))) := sl_one (a := k6a) (k6_inn (by decide))
                                                      obtain ⟨b2, hb2⟩ : ∃ b, W.heap.size = b := ⟨_, rfl⟩
                                                      obtain ⟨Y, hY⟩ : ∃ Y, (W.alloc (Obj.cells #[.int .i64 3, .string ⟨#[97]⟩, .int .i64 0, .slice none 0 0] 24 (0, 0))) = Y := ⟨_, rfl⟩
                                                      rw [hY] at hy hnew
                                                      rw [hb2] at hnew
                                                      have g0 := f0.nx hy
                                                      simp only [hY, hb2]
                                                      refine hK.out _ _ (g0) (fun hHeld => ?_)
                                                      clear hK K
                                                      try simp only [Act.put, List.setIfInBounds_toArray, List.set_cons_zero, List.set_cons_succ, List.getElem_toArray, List.getElem_cons_zero, List.getElem_cons_succ]
                                                      exact H110 b2 b9 Y ⟨g0, f1.trans (hy.mono f1.size), hnew, f2.nx hy⟩
                                                    · skip
                                                      go_simp
                                                      have hy : Below W.heap.size W (W.alloc (Obj.cells #[.int .i64 0, .string ⟨#[]⟩, .int .i64 0, .slice none 0 0] 24 (0, 0))) := (Below.refl _ _).alloc (Nat.le_refl _) _
                                                      have hnew : ZB W.heap.size (W.alloc (Obj.cells #[.int .i64 0, .string ⟨#[]⟩, .int .i64 0, .slice none 0 0] 24 (0, 0))) := newBlk _ _ _ rfl
                                                      obtain ⟨bal, hbal⟩ : ∃ b, W.heap.size = b := ⟨_, rfl⟩
                                                      obtain ⟨Y, hY⟩ : ∃ Y, (W.alloc (Obj.cells #[.int .i64 0, .string ⟨#[]⟩, .int .i64 0, .slice none 0 0] 24 (0, 0))) = Y := ⟨_, rfl⟩
                                                      rw [hY] at hy hnew
                                                      rw [hbal] at hnew
                                                      have g0 := f0.nx hy
                                                      simp only [hY, hbal]
                                                      refine hK.out _ _ (g0) (fun hHeld => ?_)
                                                      clear hK K
                                                      try simp only [Act.put, List.setIfInBounds_toArray, List.set_cons_zero, List.set_cons_succ, List.getElem_toArray, List.getElem_cons_zero, List.getElem_cons_succ]
                                                      exact H011 b9 bal Y ⟨g0, f1.trans (hy.mono f1.size), f2.nx hy, hnew, (by rw [← hbal]; exact f1.size)⟩
                                                case tail =>
                                                  intro b2 W hF
                                                  obtain ⟨f0, f1, f2⟩ := hF
                                                  have hHeld := f0
                                                  refine wpAnyH_ready (rs := [3, 9, 18]) (by kernel_rfl) (by simp) ?_
                                                  refine AllReadyH.cons (o := _) rfl (fun K hK => ?_) (AllReadyH.cons (o := _) rfl (fun K hK => ?_) (AllReadyH.cons (o := _) rfl (fun K hK => ?_) (AllReadyH.nil)))
                                                  · skip
                                                    go_simp
                                                    refine (mfun6 ⟨#[103]⟩ _ _ _ _).mono ?_
                                                    rintro e Y ⟨rfl, hy⟩
                                                    have g0 := f0.nx hy
                                                    have HG0 := Lib.hid g0
                                                    have HY := Lib.hid hy
                                                    have E0 := Lib.hid f0
                                                    have E1 := Lib.hid f1
                                                    have E2 := Lib.hid f2
                                                    clear hy g0 f0 f1 f2 hHeld
                                                    go_wp2_with fail
                                                    refine hK.out _ _ (HG0.out) (fun hHeld => ?_)
                                                    clear hK K
                                                    try simp only [Act.put, List.setIfInBounds_toArray, List.set_cons_zero, List.set_cons_succ, List.getElem_toArray, List.getElem_cons_zero, List.getElem_cons_succ]
                                                    exact H200 b2 Y ⟨HG0.out, E1.out.trans (HY.out.mono E1.out.size), E2.out.nx HY.out⟩
                                                  · skip
                                                    go_simp
                                                    have hy : Below W.heap.size W (W.alloc (Obj.cells #[.int .i64 3, .string ⟨#[98]⟩, .int .i64 0, .slice none 0 0] 24 (0, 0))) := (Below.refl _ _).alloc (Nat.le_refl _) _
                                                    have hnew : Sl W.heap.size 1 [k6b] (W.alloc (Obj.cells #[.int .i64 3, .string ⟨#[98]⟩, .int .i64 0, .slice none 0 0] 24 (0, 0))) := sl_one (a := k6b) (k6_inn (by decide))
                                                    obtain ⟨b9, hb9⟩ : ∃ b, W.heap.size = b := ⟨_, rfl⟩
                                                    obtain ⟨Y, hY⟩ : ∃ Y, (W.alloc (Obj.cells #[.int .i64 3, .string ⟨#[98]⟩, .int .i64 0, .slice none 0 0] 24 (0, 0))) = Y := ⟨_, rfl⟩
                                                    rw [hY] at hy hnew
                                                    rw [hb9] at hnew
                                                    have g0 := f0.nx hy
                                                    simp only [hY, hb9]
                                                    refine hK.out _ _ (g0) (fun hHeld => ?_)
                                                    clear hK K
                                                    try simp only [Act.put, List.setIfInBounds_toArray, List.set_cons_zero, List.set_cons_succ, List.getElem_toArray, List.getElem_cons_zero, List.getElem_cons_succ]
                                                    exact H110 b2 b9 Y ⟨g0, f1.trans (hy.mono f1.size), f2.nx hy, hnew⟩
                                                  · skip
                                                    go_simp
                                                    have hy : Below W.heap.size W (W.alloc (Obj.cells #[.int .i64 0, .string ⟨#[]⟩, .int .i64 0, .slice none 0 0] 24 (0, 0))) := (Below.refl _ _).alloc (Nat.le_refl _) _
                                                    have hnew : ZB W.heap.size (W.alloc (Obj.cells #[.int .i64 0, .string ⟨#[]⟩, .int .i64 0, .slice none 0 0] 24 (0, 0))) := newBlk _ _ _ rfl
                                                    obtain ⟨bal, hbal⟩ : ∃ b, W.heap.size = b := ⟨_, rfl⟩
                                                    obtain ⟨Y, hY⟩ : ∃ Y, (W.alloc (Obj.cells #[.int .i64 0, .string ⟨#[]⟩, .int .i64 0, .slice none 0 0] 24 (0, 0))) = Y := ⟨_, rfl⟩
                                                    rw [hY] at hy hnew
                                                    rw [hbal] at hnew
                                                    have g0 := f0.nx hy
                                                    simp only [hY, hbal]
                                                    refine hK.out _ _ (g0) (fun hHeld => ?_)
                                                    clear hK K
                                                    try simp only [Act.put, List.setIfInBounds_toArray, List.set_cons_zero, List.set_cons_succ, List.getElem_toArray, List.getElem_cons_zero, List.getElem_cons_succ]
                                                    exact H101 b2 bal Y ⟨g0, f1.trans (hy.mono f1.size), f2.nx hy, hnew, (by rw [← hbal]; exact f1.size)⟩
                                              case tail =>
                                                intro b9 bal W hF
                                                obtain ⟨f0, f1, f2, f3, f4⟩ := hF
                                                have hHeld := f0
                                                refine wpAnyH_ready (rs := [2]) (by kernel_rfl) (by simp) ?_
                                                refine AllReadyH.cons (o := _) rfl (fun K hK => ?_) (AllReadyH.nil)
                                                go_simp
                                                have hy : Below W.heap.size W (W.alloc (Obj.cells #[.int .i64 3, .string ⟨#[97]⟩, .int .i64 0, .slice none 0 0] 24 (0, 0))) := (Below.refl _ _).alloc (Nat.le_refl _) _
                                                have hnew : Sl W.heap.size 1 [k6a] (W.alloc (Obj.cells #[.int .i64 3, .string ⟨#[97]⟩, .int .i64 0, .slice none 0 0] 24 (0, 0))) := sl_one (a := k6a) (k6_inn (by decide))
                                                obtain ⟨b2, hb2⟩ : ∃ b, W.heap.size = b := ⟨_, rfl⟩
                                                obtain ⟨Y, hY⟩ : ∃ Y, (W.alloc (Obj.cells #[.int .i64 3, .string ⟨#[97]⟩, .int .i64 0, .slice none 0 0] 24 (0, 0))) = Y := ⟨_, rfl⟩
                                                rw [hY] at hy hnew
                                                rw [hb2] at hnew
                                                have g0 := f0.nx hy
                                                simp only [hY, hb2]
                                                refine hK.out _ _ (g0) (fun hHeld => ?_)
                                                clear hK K
                                                try simp only [Act.put, List.setIfInBounds_toArray, List.set_cons_zero, List.set_cons_succ, List.getElem_toArray, List.getElem_cons_zero, List.getElem_cons_succ]
                                                exact H111 b2 b9 bal Y ⟨g0, f1.trans (hy.mono f1.size), hnew, f2.nx hy, f3.nx hy, f4⟩
                                            case tail =>
                                              intro b2 bal W hF
                                              obtain ⟨f0, f1, f2, f3, f4⟩ := hF
                                              have hHeld := f0
                                              refine wpAnyH_ready (rs := [3, 9]) (by kernel_rfl) (by simp) ?_
                                              refine AllReadyH.cons (o := _) rfl (fun K hK => ?_) (AllReadyH.cons (o := _) rfl (fun K hK => ?_) (AllReadyH.nil))
                                              · skip
                                                go_simp
                                                refine (mfun6 ⟨#[103]⟩ _ _ _ _).mono ?_
                                                rintro e Y ⟨rfl, hy⟩
                                                have g0 := f0.nx hy
                                                have HG0 := Lib.hid g0
                                                have HY := Lib.hid hy
                                                have E0 := Lib.hid f0
                                                have E1 := Lib.hid f1
                                                have E2 := Lib.hid f2
                                                have E3 := Lib.hid f3
                                                have E4 := Lib.hid f4
                                                clear hy g0 f0 f1 f2 f3 f4 hHeld
                                                go_wp2_with fail
                                                refine hK.out _ _ (HG0.out) (fun hHeld => ?_)
                                                clear hK K
                                                try simp only [Act.put, List.setIfInBounds_toArray, List.set_cons_zero, List.set_cons_succ, List.getElem_toArray, List.getElem_cons_zero, List.getElem_cons_succ]
                                                exact H201 b2 bal Y ⟨HG0.out, E1.out.trans (HY.out.mono E1.out.size), E2.out.nx HY.out, E3.out.nx HY.out, E4.out⟩
                                              · skip
                                                go_simp
                                                have hy : Below W.heap.size W (W.alloc (Obj.cells #[.int .i64 3, .string ⟨#[98]⟩, .int .i64 0, .slice none 0 0] 24 (0, 0))) := (Below.refl _ _).alloc (Nat.le_refl _) _
                                                have hnew : Sl W.heap.size 1 [k6b] (W.alloc (Obj.cells #[.int .i64 3, .string ⟨#[98]⟩, .int .i64 0, .slice none 0 0] 24 (0, 0))) := sl_one (a := k6b) (k6_inn (by decide))
                                                obtain ⟨b9, hb9⟩ : ∃ b, W.heap.size = b := ⟨_, rfl⟩
                                                obtain ⟨Y, hY⟩ : ∃ Y, (W.alloc (Obj.cells #[.int .i64 3, .string ⟨#[98]⟩, .int .i64 0, .slice none 0 0] 24 (0, 0))) = Y := ⟨_, rfl⟩
                                                rw [hY] at hy hnew
                                                rw [hb9] at hnew
                                                have g0 := f0.nx hy
                                                simp only [hY, hb9]
                                                refine hK.out _ _ (g0) (fun hHeld => ?_)
                                                clear hK K
                                                try simp only [Act.put, List.setIfInBounds_toArray, List.set_cons_zero, List.set_cons_succ, List.getElem_toArray, List.getElem_cons_zero, List.getElem_cons_succ]
                                                exact H111 b2 b9 bal Y ⟨g0, f1.trans (hy.mono f1.size), f2.nx hy, hnew, f3.nx hy, f4⟩
                                          case tail =>
                                            intro b2 b9 W hF
                                            obtain ⟨f0, f1, f2, f3⟩ := hF
                                            have hHeld := f0
                                            refine wpAnyH_ready (rs := [3, 18]) (by kernel_rfl) (by simp) ?_
                                            refine AllReadyH.cons (o := _) rfl (fun K hK => ?_) (AllReadyH.cons (o := _) rfl (fun K hK => ?_) (AllReadyH.nil))
                                            · skip
                                              go_simp
                                              refine (mfun6 ⟨#[103]⟩ _ _ _ _).mono ?_
                                              rintro e Y ⟨rfl, hy⟩
                                              have g0 := f0.nx hy
                                              have HG0 := Lib.hid g0
                                              have HY := Lib.hid hy
                                              have E0 := Lib.hid f0
                                              have E1 := Lib.hid f1
                                              have E2 := Lib.hid f2
                                              have E3 := Lib.hid f3
                                              clear hy g0 f0 f1 f2 f3 hHeld
                                              go_wp2_with fail
                                              refine hK.out _ _ (HG0.out) (fun hHeld => ?_)
                                              clear hK K
                                              try simp only [Act.put, List.setIfInBounds_toArray, List.set_cons_zero, List.set_cons_succ, List.getElem_toArray, List.getElem_cons_zero, List.getElem_cons_succ]
                                              exact H210 b2 b9 Y ⟨HG0.out, E1.out.trans (HY.out.mono E1.out.size), E2.out.nx HY.out, E3.out.nx HY.out⟩
                                            · skip
                                              go_simp
                                              have hy : Below W.heap.size W (W.alloc (Obj.cells #[.int .i64 0, .string ⟨#[]⟩, .int .i64 0, .slice none 0 0] 24 (0, 0))) := (Below.refl _ _).alloc (Nat.le_refl _) _
                                              have hnew : ZB W.heap.size (W.alloc (Obj.cells #[.int .i64 0, .string ⟨#[]⟩, .int .i64 0, .slice none 0 0] 24 (0, 0))) := newBlk _ _ _ rfl
                                              obtain ⟨bal, hbal⟩ : ∃ b, W.heap.size = b := ⟨_, rfl⟩
                                              obtain ⟨Y, hY⟩ : ∃ Y, (W.alloc (Obj.cells #[.int .i64 0, .string ⟨#[]⟩, .int .i64 0, .slice none 0 0] 24 (0, 0))) = Y := ⟨_, rfl⟩
                                              rw [hY] at hy hnew
                                              rw [hbal] at hnew
                                              have g0 := f0.nx hy
                                              simp only [hY, hbal]
                                              refine hK.out _ _ (g0) (fun hHeld => ?_)
                                              clear hK K
                                              try simp only [Act.put, List.setIfInBounds_toArray, List.set_cons_zero, List.set_cons_succ, List.getElem_toArray, List.getElem_cons_zero, List.getElem_cons_succ]
                                              exact H111 b2 b9 bal Y ⟨g0, f1.trans (hy.mono f1.size), f2.nx hy, f3.nx hy, hnew, (by rw [← hbal]; exact f1.size)⟩
                                        case tail =>
                                          intro b2 W hF
                                          obtain ⟨f0, f1, f2⟩ := hF
                                          have hHeld := f0
                                          refine wpAnyH_ready (rs := [5, 9, 18]) (by kernel_rfl) (by simp) ?_
                                          refine AllReadyH.cons (o := _) rfl (fun K hK => ?_) (AllReadyH.cons (o := _) rfl (fun K hK => ?_) (AllReadyH.cons (o := _) rfl (fun K hK => ?_) (AllReadyH.nil)))
                                          · skip
                                            go_simp
                                            have hy : Below W.heap.size W (W.alloc (Obj.cells #[.int .i64 3, .string ⟨#[97]⟩, .int .i64 0, .slice none 0 0, .int .i64 3, .string ⟨#[103]⟩, .int .i64 0, .slice (some ⟨b2, 0, none⟩) 1 1, .int .i64 3, .string ⟨#[97]⟩, .int .i64 0, .slice none 0 0] 24 (0, 0))) := (Below.refl _ _).alloc (Nat.le_refl _) _
                                            have hnew : Sl W.heap.size 3 [k6a, k6ga, k6a] (W.alloc (Obj.cells #[.int .i64 3, .string ⟨#[97]⟩, .int .i64 0, .slice none 0 0, .int .i64 3, .string ⟨#[103]⟩, .int .i64 0, .slice (some ⟨b2, 0, none⟩) 1 1, .int .i64 3, .string ⟨#[97]⟩, .int .i64 0, .slice none 0 0] 24 (0, 0))) := sl_three (a := k6a) (b := k6ga) (c := k6a) (k6_inn (by decide)) (fun6_inn (by decide) f2) (k6_inn (by decide))
                                            obtain ⟨b5, hb5⟩ : ∃ b, W.heap.size = b := ⟨_, rfl⟩
                                            obtain ⟨Y, hY⟩ : ∃ Y, (W.alloc (Obj.cells #[.int .i64 3, .string ⟨#[97]⟩, .int .i64 0, .slice none 0 0, .int .i64 3, .string ⟨#[103]⟩, .int .i64 0, .slice (some ⟨b2, 0, none⟩) 1 1, .int .i64 3, .string ⟨#[97]⟩, .int .i64 0, .slice none 0 0] 24 (0, 0))) = Y := ⟨_, rfl⟩
                                            rw [hY] at hy hnew
                                            rw [hb5] at hnew
                                            have g0 := f0.nx hy
                                            simp only [hY, hb5]
                                            refine hK.out _ _ (g0) (fun hHeld => ?_)
                                            clear hK K
                                            try simp only [Act.put, List.setIfInBounds_toArray, List.set_cons_zero, List.set_cons_succ, List.getElem_toArray, List.getElem_cons_zero, List.getElem_cons_succ]
                                            exact H300 b2 b5 Y ⟨g0, f1.trans (hy.mono f1.size), hnew⟩
                                          · skip
                                            go_simp
                                            have hy : Below W.heap.size W (W.alloc (Obj.cells #[.int .i64 3, .string ⟨#[98]⟩, .int .i64 0, .slice none 0 0] 24 (0, 0))) := (Below.refl _ _).alloc (Nat.le_refl _) _
                                            have hnew : Sl W.heap.size 1 [k6b] (W.alloc (Obj.cells #[.int .i64 3, .string ⟨#[98]⟩, .int .i64 0, .slice none 0 0] 24 (0, 0))) := sl_one (a := k6b) (k6_inn (by decide))
                                            obtain ⟨b9, hb9⟩ : ∃ b, W.heap.size = b := ⟨_, rfl⟩
                                            obtain ⟨Y, hY⟩ : ∃ Y, (W.alloc (Obj.cells #[.int .i64 3, .string ⟨#[98]⟩, .int .i64 0, .slice none 0 0] 24 (0, 0))) = Y := ⟨_, rfl⟩
                                            rw [hY] at hy hnew
                                            rw [hb9] at hnew
                                            have g0 := f0.nx hy
                                            simp only [hY, hb9]
                                            refine hK.out _ _ (g0) (fun hHeld => ?_)
                                            clear hK K
                                            try simp only [Act.put, List.setIfInBounds_toArray, List.set_cons_zero, List.set_cons_succ, List.getElem_toArray, List.getElem_cons_zero, List.getElem_cons_succ]
                                            exact H210 b2 b9 Y ⟨g0, f1.trans (hy.mono f1.size), f2.nx hy, hnew⟩
                                          · skip
                                            go_simp
                                            have hy : Below W.heap.size W (W.alloc (Obj.cells #[.int .i64 0, .string ⟨#[]⟩, .int .i64 0, .slice none 0 0] 24 (0, 0))) := (Below.refl _ _).alloc (Nat.le_refl _) _
                                            have hnew : ZB W.heap.size (W.alloc (Obj.cells #[.int .i64 0, .string ⟨#[]⟩, .int .i64 0, .slice none 0 0] 24 (0, 0))) := newBlk _ _ _ rfl
                                            obtain ⟨bal, hbal⟩ : ∃ b, W.heap.size = b := ⟨_, rfl⟩
                                            obtain ⟨Y, hY⟩ : ∃ Y, (W.alloc (Obj.cells #[.int .i64 0, .string ⟨#[]⟩, .int .i64 0, .slice none 0 0] 24 (0, 0))) = Y := ⟨_, rfl⟩
                                            rw [hY] at hy hnew
                                            rw [hbal] at hnew
                                            have g0 := f0.nx hy
                                            simp only [hY, hbal]
                                            refine hK.out _ _ (g0) (fun hHeld => ?_)
                                            clear hK K
                                            try simp only [Act.put, List.setIfInBounds_toArray, List.set_cons_zero, List.set_cons_succ, List.getElem_toArray, List.getElem_cons_zero, List.getElem_cons_succ]
                                            exact H201 b2 bal Y ⟨g0, f1.trans (hy.mono f1.size), f2.nx hy, hnew, (by rw [← hbal]; exact f1.size)⟩
                                      case tail =>
                                        intro b2 b9 bal W hF
                                        obtain ⟨f0, f1, f2, f3, f4, f5⟩ := hF
                                        have hHeld := f0
                                        refine wpAnyH_ready (rs := [3]) (by kernel_rfl) (by simp) ?_
                                        refine AllReadyH.cons (o := _) rfl (fun K hK => ?_) (AllReadyH.nil)
                                        go_simp
                                        refine (mfun6 ⟨#[103]⟩ _ _ _ _).mono ?_
                                        rintro e Y ⟨rfl, hy⟩
                                        have g0 := f0.nx hy
                                        have HG0 := Lib.hid g0
                                        have HY := Lib.hid hy
                                        have E0 := Lib.hid f0
                                        have E1 := Lib.hid f1
                                        have E2 := Lib.hid f2
                                        have E3 := Lib.hid f3
                                        have E4 := Lib.hid f4
                                        have E5 := Lib.hid f5
                                        clear hy g0 f0 f1 f2 f3 f4 f5 hHeld
                                        go_wp2_with fail
                                        refine hK.out _ _ (HG0.out) (fun hHeld => ?_)
                                        clear hK K
                                        try simp only [Act.put, List.setIfInBounds_toArray, List.set_cons_zero, List.set_cons_succ, List.getElem_toArray, List.getElem_cons_zero, List.getElem_cons_succ]
                                        exact H211 b2 b9 bal Y ⟨HG0.out, E1.out.trans (HY.out.mono E1.out.size), E2.out.nx HY.out, E3.out.nx HY.out, E4.out.nx HY.out, E5.out⟩
                                    case tail =>
                                      intro b2 bal W hF
                                      obtain ⟨f0, f1, f2, f3, f4⟩ := hF
                                      have hHeld := f0
                                      refine wpAnyH_ready (rs := [5, 9]) (by kernel_rfl) (by simp) ?_
                                      refine AllReadyH.cons (o := _) rfl (fun K hK => ?_) (AllReadyH.cons (o := _) rfl (fun K hK => ?_) (AllReadyH.nil))
                                      · skip
                                        go_simp
                                        have hy : Below W.heap.size W (W.alloc (Obj.cells #[.int .i64 3, .string ⟨#[97]⟩, .int .i64 0, .slice none 0 0, .int .i64 3, .string ⟨#[103]⟩, .int .i64 0, .slice (some ⟨b2, 0, none⟩) 1 1, .int .i64 3, .string ⟨#[97]⟩, .int .i64 0, .slice none 0 0] 24 (0, 0))) := (Below.refl _ _).alloc (Nat.le_refl _) _
                                        have hnew : Sl W.heap.size 3 [k6a, k6ga, k6a] (W.alloc (Obj.cells #[.int .i64 3, .string ⟨#[97]⟩, .int .i64 0, .slice none 0 0, .int .i64 3, .string ⟨#[103]⟩, .int .i64 0, .slice (some ⟨b2, 0, none⟩) 1 1, .int .i64 3, .string ⟨#[97]⟩, .int .i64 0, .slice none 0 0] 24 (0, 0))) := sl_three (a := k6a) (b := k6ga) (c := k6a) (k6_inn (by decide)) (fun6_inn (by decide) f2) (k6_inn (by decide))
                                        obtain ⟨b5, hb5⟩ : ∃ b, W.heap.size = b := ⟨_, rfl⟩
                                        obtain ⟨Y, hY⟩ : ∃ Y, (W.alloc (Obj.cells #[.int .i64 3, .string ⟨#[97]⟩, .int .i64 0, .slice none 0 0, .int .i64 3, .string ⟨#[103]⟩, .int .i64 0, .slice (some ⟨b2, 0, none⟩) 1 1, .int .i64 3, .string ⟨#[97]⟩, .int .i64 0, .slice none 0 0] 24 (0, 0))) = Y := ⟨_, rfl⟩
                                        rw [hY] at hy hnew
                                        rw [hb5] at hnew
                                        have g0 := f0.nx hy
                                        simp only [hY, hb5]
                                        refine hK.out _ _ (g0) (fun hHeld => ?_)
                                        clear hK K
                                        try simp only [Act.put, List.setIfInBounds_toArray, List.set_cons_zero, List.set_cons_succ, List.getElem_toArray, List.getElem_cons_zero, List.getElem_cons_succ]
                                        exact H301 b2 b5 bal Y ⟨g0, f1.trans (hy.mono f1.size), hnew, f3.nx hy, f4⟩
                                      · skip
                                        go_simp
                                        have hy : Below W.heap.size W (W.alloc (Obj.cells #[.int .i64 3, .string ⟨#[98]⟩, .int .i64 0, .slice none 0 0] 24 (0, 0))) := (Below.refl _ _).alloc (Nat.le_refl _) _
                                        have hnew : Sl W.heap.size 1 [k6b] (W.alloc (Obj.cells #[.int .i64 3, .string ⟨#[98]⟩, .int .i64 0, .slice none 0 0] 24 (0, 0))) := sl_one (a := k6b) (k6_inn (by decide))
                                        obtain ⟨b9, hb9⟩ : ∃ b, W.heap.size = b := ⟨_, rfl⟩
                                        obtain ⟨Y, hY⟩ : ∃ Y, (W.alloc (Obj.cells #[.int .i64 3, .string ⟨#[98]⟩, .int .i64 0, .slice none 0 0] 24 (0, 0))) = Y := ⟨_, rfl⟩
                                        rw [hY] at hy hnew
                                        rw [hb9] at hnew
                                        have g0 := f0.nx hy
                                        simp only [hY, hb9]
                                        refine hK.out _ _ (g0) (fun hHeld => ?_)
                                        clear hK K
                                        try simp only [Act.put, List.setIfInBounds_toArray, List.set_cons_zero, List.set_cons_succ, List.getElem_toArray, List.getElem_cons_zero, List.getElem_cons_succ]
                                        exact H211 b2 b9 bal Y ⟨g0, f1.trans (hy.mono f1.size), f2.nx hy, hnew, f3.nx hy, f4⟩
                                  case tail =>
                                    intro b2 b9 W hF
                                    obtain ⟨f0, f1, f2, f3⟩ := hF
                                    have hHeld := f0
                                    refine wpAnyH_ready (rs := [5, 18]) (by kernel_rfl) (by simp) ?_
                                    refine AllReadyH.cons (o := _) rfl (fun K hK => ?_) (AllReadyH.cons (o := _) rfl (fun K hK => ?_) (AllReadyH.nil))
                                    · skip
                                      go_simp
                                      have hy : Below W.heap.size W (W.alloc (Obj.cells #[.int .i64 3, .string ⟨#[97]⟩, .int .i64 0, .slice none 0 0, .int .i64 3, .string ⟨#[103]⟩, .int .i64 0, .slice (some ⟨b2, 0, none⟩) 1 1, .int .i64 3, .string ⟨#[97]⟩, .int .i64 0, .slice none 0 0] 24 (0, 0))) := (Below.refl _ _).alloc (Nat.le_refl _) _
                                      have hnew : Sl W.heap.size 3 [k6a, k6ga, k6a] (W.alloc (Obj.cells #[.int .i64 3, .string ⟨#[97]⟩, .int .i64 0, .slice none 0 0, .int .i64 3, .string ⟨#[103]⟩, .int .i64 0, .slice (some ⟨b2, 0, none⟩) 1 1, .int .i64 3, .string ⟨#[97]⟩, .int .i64 0, .slice none 0 0] 24 (0, 0))) := sl_three (a := k6a) (b := k6ga) (c := k6a) (k6_inn (by decide)) (fun6_inn (by decide) f2) (k6_inn (by decide))
                                      obtain ⟨b5, hb5⟩ : ∃ b, W.heap.size = b := ⟨_, rfl⟩
                                      obtain ⟨Y, hY⟩ : ∃ Y, (W.alloc (Obj.cells #[.int .i64 3, .string ⟨#[97]⟩, .int .i64 0, .slice none 0 0, .int .i64 3, .string ⟨#[103]⟩, .int .i64 0, .slice (some ⟨b2, 0, none⟩) 1 1, .int .i64 3, .string ⟨#[97]⟩, .int .i64 0, .slice none 0 0] 24 (0, 0))) = Y := ⟨_, rfl⟩
                                      rw [hY] at hy hnew
                                      rw [hb5] at hnew
                                      have g0 := f0.nx hy
                                      simp only [hY, hb5]
                                      refine hK.out _ _ (g0) (fun hHeld => ?_)
                                      clear hK K
                                      try simp only [Act.put, List.setIfInBounds_toArray, List.set_cons_zero, List.set_cons_succ, List.getElem_toArray, List.getElem_cons_zero, List.getElem_cons_succ]
                                      exact H310 b2 b5 b9 Y ⟨g0, f1.trans (hy.mono f1.size), hnew, f3.nx hy⟩
                                    · skip
                                      go_simp
                                      have hy : Below W.heap.size W (W.alloc (Obj.cells #[.int .i64 0, .string ⟨#[]⟩, .int .i64 0, .slice none 0 0] 24 (0, 0))) := (Below.refl _ _).alloc (Nat.le_refl _) _
                                      have hnew : ZB W.heap.size (W.alloc (Obj.cells #[.int .i64 0, .string ⟨#[]⟩, .int .i64 0, .slice none 0 0] 24 (0, 0))) := newBlk _ _ _ rfl
                                      obtain ⟨bal, hbal⟩ : ∃ b, W.heap.size = b := ⟨_, rfl⟩
                                      obtain ⟨Y, hY⟩ : ∃ Y, (W.alloc (Obj.cells #[.int .i64 0, .string ⟨#[]⟩, .int .i64 0, .slice none 0 0] 24 (0, 0))) = Y := ⟨_, rfl⟩
                                      rw [hY] at hy hnew
                                      rw [hbal] at hnew
                                      have g0 := f0.nx hy
                                      simp only [hY, hbal]
                                      refine hK.out _ _ (g0) (fun hHeld => ?_)
                                      clear hK K
                                      try simp only [Act.put, List.setIfInBounds_toArray, List.set_cons_zero, List.set_cons_succ, List.getElem_toArray, List.getElem_cons_zero, List.getElem_cons_succ]
                                      exact H211 b2 b9 bal Y ⟨g0, f1.trans (hy.mono f1.size), f2.nx hy, f3.nx hy, hnew, (by rw [← hbal]; exact f1.size)⟩
                                case tail =>
                                  intro b2 b5 W hF
                                  obtain ⟨f0, f1, f2⟩ := hF
                                  have hHeld := f0
                                  refine wpAnyH_ready (rs := [6, 9, 18]) (by kernel_rfl) (by simp) ?_
                                  refine AllReadyH.cons (o := _) rfl (fun K hK => ?_) (AllReadyH.cons (o := _) rfl (fun K hK => ?_) (AllReadyH.cons (o := _) rfl (fun K hK => ?_) (AllReadyH.nil)))
                                  · skip
                                    go_simp
                                    refine (mfun6 ⟨#[102]⟩ _ _ _ _).mono ?_
                                    rintro e Y ⟨rfl, hy⟩
                                    have g0 := f0.nx hy
                                    have HG0 := Lib.hid g0
                                    have HY := Lib.hid hy
                                    have E0 := Lib.hid f0
                                    have E1 := Lib.hid f1
                                    have E2 := Lib.hid f2
                                    clear hy g0 f0 f1 f2 hHeld
                                    go_wp2_with fail
                                    refine hK.out _ _ (HG0.out) (fun hHeld => ?_)
                                    clear hK K
                                    try simp only [Act.put, List.setIfInBounds_toArray, List.set_cons_zero, List.set_cons_succ, List.getElem_toArray, List.getElem_cons_zero, List.getElem_cons_succ]
                                    exact H400 b2 b5 Y ⟨HG0.out, E1.out.trans (HY.out.mono E1.out.size), E2.out.nx HY.out⟩
                                  · skip
                                    go_simp
                                    have hy : Below W.heap.size W (W.alloc (Obj.cells #[.int .i64 3, .string ⟨#[98]⟩, .int .i64 0, .slice none 0 0] 24 (0, 0))) := (Below.refl _ _).alloc (Nat.le_refl _) _
                                    have hnew : Sl W.heap.size 1 [k6b] (W.alloc (Obj.cells #[.int .i64 3, .string ⟨#[98]⟩, .int .i64 0, .slice none 0 0] 24 (0, 0))) := sl_one (a := k6b) (k6_inn (by decide))
                                    obtain ⟨b9, hb9⟩ : ∃ b, W.heap.size = b := ⟨_, rfl⟩
                                    obtain ⟨Y, hY⟩ : ∃ Y, (W.alloc (Obj.cells #[.int .i64 3, .string ⟨#[98]⟩, .int .i64 0, .slice none 0 0] 24 (0, 0))) = Y := ⟨_, rfl⟩
                                    rw [hY] at hy hnew
                                    rw [hb9] at hnew
                                    have g0 := f0.nx hy
                                    simp only [hY, hb9]
                                    refine hK.out _ _ (g0) (fun hHeld => ?_)
                                    clear hK K
                                    try simp only [Act.put, List.setIfInBounds_toArray, List.set_cons_zero, List.set_cons_succ, List.getElem_toArray, List.getElem_cons_zero, List.getElem_cons_succ]
                                    exact H310 b2 b5 b9 Y ⟨g0, f1.trans (hy.mono f1.size), f2.nx hy, hnew⟩
                                  · skip
                                    go_simp
                                    have hy : Below W.heap.size W (W.alloc (Obj.cells #[.int .i64 0, .string ⟨#[]⟩, .int .i64 0, .slice none 0 0] 24 (0, 0))) := (Below.refl _ _).alloc (Nat.le_refl _) _
                                    have hnew : ZB W.heap.size (W.alloc (Obj.cells #[.int .i64 0, .string ⟨#[]⟩, .int .i64 0, .slice none 0 0] 24 (0, 0))) := newBlk _ _ _ rfl
                                    obtain ⟨bal, hbal⟩ : ∃ b, W.heap.size = b := ⟨_, rfl⟩
                                    obtain ⟨Y, hY⟩ : ∃ Y, (W.alloc (Obj.cells #[.int .i64 0, .string ⟨#[]⟩, .int .i64 0, .slice none 0 0] 24 (0, 0))) = Y := ⟨_, rfl⟩
                                    rw [hY] at hy hnew
                                    rw [hbal] at hnew
                                    have g0 := f0.nx hy
                                    simp only [hY, hbal]
                                    refine hK.out _ _ (g0) (fun hHeld => ?_)
                                    clear hK K
                                    try simp only [Act.put, List.setIfInBounds_toArray, List.set_cons_zero, List.set_cons_succ, List.getElem_toArray, List.getElem_cons_zero, List.getElem_cons_succ]
                                    exact H301 b2 b5 bal Y ⟨g0, f1.trans (hy.mono f1.size), f2.nx hy, hnew, (by rw [← hbal]; exact f1.size)⟩
                              case tail =>
                                intro b2 b9 bal W hF
                                obtain ⟨f0, f1, f2, f3, f4, f5⟩ := hF
                                have hHeld := f0
                                refine wpAnyH_ready (rs := [5]) (by kernel_rfl) (by simp) ?_
                                refine AllReadyH.cons (o := _) rfl (fun K hK => ?_) (AllReadyH.nil)
                                go_simp
                                have hy : Below W.heap.size W (W.alloc (Obj.cells #[.int .i64 3, .string ⟨#[97]⟩, .int .i64 0, .slice none 0 0, .int .i64 3, .string ⟨#[103]⟩, .int .i64 0, .slice (some ⟨b2, 0, none⟩) 1 1, .int .i64 3, .string ⟨#[97]⟩, .int .i64 0, .slice none 0 0] 24 (0, 0))) := (Below.refl _ _).alloc (Nat.le_refl _) _
                                have hnew : Sl W.heap.size 3 [k6a, k6ga, k6a] (W.alloc (Obj.cells #[.int .i64 3, .string ⟨#[97]⟩, .int .i64 0, .slice none 0 0, .int .i64 3, .string ⟨#[103]⟩, .int .i64 0, .slice (some ⟨b2, 0, none⟩) 1 1, .int .i64 3, .string ⟨#[97]⟩, .int .i64 0, .slice none 0 0] 24 (0, 0))) := sl_three (a := k6a) (b := k6ga) (c := k6a) (k6_inn (by decide)) (fun6_inn (by decide) f2) (k6_inn (by decide))
                                obtain ⟨b5, hb5⟩ : ∃ b, W.heap.size = b := ⟨_, rfl⟩
                                obtain ⟨Y, hY⟩ : ∃ Y, (W.alloc (Obj.cells #[.int .i64 3, .string ⟨#[97]⟩, .int .i64 0, .slice none 0 0, .int .i64 3, .string ⟨#[103]⟩, .int .i64 0, .slice (some ⟨b2, 0, none⟩) 1 1, .int .i64 3, .string ⟨#[97]⟩, .int .i64 0, .slice none 0 0] 24 (0, 0))) = Y := ⟨_, rfl⟩
                                rw [hY] at hy hnew
                                rw [hb5] at hnew
                                have g0 := f0.nx hy
                                simp only [hY, hb5]
                                refine hK.out _ _ (g0) (fun hHeld => ?_)
                                clear hK K
                                try simp only [Act.put, List.setIfInBounds_toArray, List.set_cons_zero, List.set_cons_succ, List.getElem_toArray, List.getElem_cons_zero, List.getElem_cons_succ]
                                exact H311 b2 b5 b9 bal Y ⟨g0, f1.trans (hy.mono f1.size), hnew, f3.nx hy, f4.nx hy, f5⟩
                            case tail =>
                              intro b2 b5 bal W hF
                              obtain ⟨f0, f1, f2, f3, f4⟩ := hF
                              have hHeld := f0
                              refine wpAnyH_ready (rs := [6, 9]) (by kernel_rfl) (by simp) ?_
                              refine AllReadyH.cons (o := _) rfl (fun K hK => ?_) (AllReadyH.cons (o := _) rfl (fun K hK => ?_) (AllReadyH.nil))
                              · skip
                                go_simp
                                refine (mfun6 ⟨#[102]⟩ _ _ _ _).mono ?_
                                rintro e Y ⟨rfl, hy⟩
                                have g0 := f0.nx hy
                                have HG0 := Lib.hid g0
                                have HY := Lib.hid hy
                                have E0 := Lib.hid f0
                                have E1 := Lib.hid f1
                                have E2 := Lib.hid f2
                                have E3 := Lib.hid f3
                                have E4 := Lib.hid f4
                                clear hy g0 f0 f1 f2 f3 f4 hHeld
                                go_wp2_with fail
                                refine hK.out _ _ (HG0.out) (fun hHeld => ?_)
                                clear hK K
                                try simp only [Act.put, List.setIfInBounds_toArray, List.set_cons_zero, List.set_cons_succ, List.getElem_toArray, List.getElem_cons_zero, List.getElem_cons_succ]
                                exact H401 b2 b5 bal Y ⟨HG0.out, E1.out.trans (HY.out.mono E1.out.size), E2.out.nx HY.out, E3.out.nx HY.out, E4.out⟩
                              · skip
                                go_simp
                                have hy : Below W.heap.size W (W.alloc (Obj.cells #[.int .i64 3, .string ⟨#[98]⟩, .int .i64 0, .slice none 0 0] 24 (0, 0))) := (Below.refl _ _).alloc (Nat.le_refl _) _
                                have hnew : Sl W.heap.size 1 [k6b] (W.alloc (Obj.cells #[.int .i64 3, .string ⟨#[98]⟩, .int .i64 0, .slice none 0 0] 24 (0, 0))) := sl_one (a := k6b) (k6_inn (by decide))
                                obtain ⟨b9, hb9⟩ : ∃ b, W.heap.size = b := ⟨_, rfl⟩
                                obtain ⟨Y, hY⟩ : ∃ Y, (W.alloc (Obj.cells #[.int .i64 3, .string ⟨#[98]⟩, .int .i64 0, .slice none 0 0] 24 (0, 0))) = Y := ⟨_, rfl⟩
                                rw [hY] at hy hnew
                                rw [hb9] at hnew
                                have g0 := f0.nx hy
                                simp only [hY, hb9]
                                refine hK.out _ _ (g0) (fun hHeld => ?_)
                                clear hK K
                                try simp only [Act.put, List.setIfInBounds_toArray, List.set_cons_zero, List.set_cons_succ, List.getElem_toArray, List.getElem_cons_zero, List.getElem_cons_succ]
                                exact H311 b2 b5 b9 bal Y ⟨g0, f1.trans (hy.mono f1.size), f2.nx hy, hnew, f3.nx hy, f4⟩
                          case tail =>
                            intro b2 b5 b9 W hF
                            obtain ⟨f0, f1, f2, f3⟩ := hF
                            have hHeld := f0
                            refine wpAnyH_ready (rs := [6, 18]) (by kernel_rfl) (by simp) ?_
                            refine AllReadyH.cons (o := _) rfl (fun K hK => ?_) (AllReadyH.cons (o := _) rfl (fun K hK => ?_) (AllReadyH.nil))
                            · skip
                              go_simp
                              refine (mfun6 ⟨#[102]⟩ _ _ _ _).mono ?_
                              rintro e Y ⟨rfl, hy⟩
                              have g0 := f0.nx hy
                              have HG0 := Lib.hid g0
                              have HY := Lib.hid hy
                              have E0 := Lib.hid f0
                              have E1 := Lib.hid f1
                              have E2 := Lib.hid f2
                              have E3 := Lib.hid f3
                              clear hy g0 f0 f1 f2 f3 hHeld
                              go_wp2_with fail
                              refine hK.out _ _ (HG0.out) (fun hHeld => ?_)
                              clear hK K
                              try simp only [Act.put, List.setIfInBounds_toArray, List.set_cons_zero, List.set_cons_succ, List.getElem_toArray, List.getElem_cons_zero, List.getElem_cons_succ]
                              exact H410 b2 b5 b9 Y ⟨HG0.out, E1.out.trans (HY.out.mono E1.out.size), E2.out.nx HY.out, E3.out.nx HY.out⟩
                            · skip
                              go_simp
                              have hy : Below W.heap.size W (W.alloc (Obj.cells #[.int .i64 0, .string ⟨#[]⟩, .int .i64 0, .slice none 0 0] 24 (0, 0))) := (Below.refl _ _).alloc (Nat.le_refl _) _
                              have hnew : ZB W.heap.size (W.alloc (Obj.cells #[.int .i64 0, .string ⟨#[]⟩, .int .i64 0, .slice none 0 0] 24 (0, 0))) := newBlk _ _ _ rfl
                              obtain ⟨bal, hbal⟩ : ∃ b, W.heap.size = b := ⟨_, rfl⟩
                              obtain ⟨Y, hY⟩ : ∃ Y, (W.alloc (Obj.cells #[.int .i64 0, .string ⟨#[]⟩, .int .i64 0, .slice none 0 0] 24 (0, 0))) = Y := ⟨_, rfl⟩
                              rw [hY] at hy hnew
                              rw [hbal] at hnew
                              have g0 := f0.nx hy
                              simp only [hY, hbal]
                              refine hK.out _ _ (g0) (fun hHeld => ?_)
                              clear hK K
                              try simp only [Act.put, List.setIfInBounds_toArray, List.set_cons_zero, List.set_cons_succ, List.getElem_toArray, List.getElem_cons_zero, List.getElem_cons_succ]
                              exact H311 b2 b5 b9 bal Y ⟨g0, f1.trans (hy.mono f1.size), f2.nx hy, f3.nx hy, hnew, (by rw [← hbal]; exact f1.size)⟩
                        case tail =>
                          intro b2 b5 W hF
                          obtain ⟨f0, f1, f2⟩ := hF
                          have hHeld := f0
                          refine wpAnyH_ready (rs := [9, 18]) (by kernel_rfl) (by simp) ?_
                          refine AllReadyH.cons (o := _) rfl (fun K hK => ?_) (AllReadyH.cons (o := _) rfl (fun K hK => ?_) (AllReadyH.nil))
                          · skip
                            go_simp
                            have hy : Below W.heap.size W (W.alloc (Obj.cells #[.int .i64 3, .string ⟨#[98]⟩, .int .i64 0, .slice none 0 0] 24 (0, 0))) := (Below.refl _ _).alloc (Nat.le_refl _) _
                            have hnew : Sl W.heap.size 1 [k6b] (W.alloc (Obj.cells #[.int .i64 3, .string ⟨#[98]⟩, .int .i64 0, .slice none 0 0] 24 (0, 0))) := sl_one (a := k6b) (k6_inn (by decide))
                            obtain ⟨b9, hb9⟩ : ∃ b, W.heap.size = b := ⟨_, rfl⟩
                            obtain ⟨Y, hY⟩ : ∃ Y, (W.alloc (Obj.cells #[.int .i64 3, .string ⟨#[98]⟩, .int .i64 0, .slice none 0 0] 24 (0, 0))) = Y := ⟨_, rfl⟩
                            rw [hY] at hy hnew
                            rw [hb9] at hnew
                            have g0 := f0.nx hy
                            simp only [hY, hb9]
                            refine hK.out _ _ (g0) (fun hHeld => ?_)
                            clear hK K
                            try simp only [Act.put, List.setIfInBounds_toArray, List.set_cons_zero, List.set_cons_succ, List.getElem_toArray, List.getElem_cons_zero, List.getElem_cons_succ]
                            exact H410 b2 b5 b9 Y ⟨g0, f1.trans (hy.mono f1.size), f2.nx hy, hnew⟩
                          · skip
                            go_simp
                            have hy : Below W.heap.size W (W.alloc (Obj.cells #[.int .i64 0, .string ⟨#[]⟩, .int .i64 0, .slice none 0 0] 24 (0, 0))) := (Below.refl _ _).alloc (Nat.le_refl _) _
                            have hnew : ZB W.heap.size (W.alloc (Obj.cells #[.int .i64 0, .string ⟨#[]⟩, .int .i64 0, .slice none 0 0] 24 (0, 0))) := newBlk _ _ _ rfl
                            obtain ⟨bal, hbal⟩ : ∃ b, W.heap.size = b := ⟨_, rfl⟩
                            obtain ⟨Y, hY⟩ : ∃ Y, (W.alloc (Obj.cells #[.int .i64 0, .string ⟨#[]⟩, .int .i64 0, .slice none 0 0] 24 (0, 0))) = Y := ⟨_, rfl⟩
                            rw [hY] at hy hnew
                            rw [hbal] at hnew
                            have g0 := f0.nx hy
                            simp only [hY, hbal]
                            refine hK.out _ _ (g0) (fun hHeld => ?_)
                            clear hK K
                            try simp only [Act.put, List.setIfInBounds_toArray, List.set_cons_zero, List.set_cons_succ, List.getElem_toArray, List.getElem_cons_zero, List.getElem_cons_succ]
                            exact H401 b2 b5 bal Y ⟨g0, f1.trans (hy.mono f1.size), f2.nx hy, hnew, (by rw [← hbal]; exact f1.size)⟩
                      case tail =>
                        intro b2 b5 b9 bal W hF
                        obtain ⟨f0, f1, f2, f3, f4, f5⟩ := hF
                        have hHeld := f0
                        refine wpAnyH_ready (rs := [6]) (by kernel_rfl) (by simp) ?_
                        refine AllReadyH.cons (o := _) rfl (fun K hK => ?_) (AllReadyH.nil)
                        go_simp
                        refine (mfun6 ⟨#[102]⟩ _ _ _ _).mono ?_
                        rintro e Y ⟨rfl, hy⟩
                        have g0 := f0.nx hy
                        have HG0 := Lib.hid g0
                        have HY := Lib.hid hy
                        have E0 := Lib.hid f0
                        have E1 := Lib.hid f1
                        have E2 := Lib.hid f2
                        have E3 := Lib.hid f3
                        have E4 := Lib.hid f4
                        have E5 := Lib.hid f5
                        clear hy g0 f0 f1 f2 f3 f4 f5 hHeld
                        go_wp2_with fail
                        refine hK.out _ _ (HG0.out) (fun hHeld => ?_)
                        clear hK K
                        try simp only [Act.put, List.setIfInBounds_toArray, List.set_cons_zero, List.set_cons_succ, List.getElem_toArray, List.getElem_cons_zero, List.getElem_cons_succ]
                        exact H411 b2 b5 b9 bal Y ⟨HG0.out, E1.out.trans (HY.out.mono E1.out.size), E2.out.nx HY.out, E3.out.nx HY.out, E4.out.nx HY.out, E5.out⟩
                    case tail =>
                      intro b2 b5 bal W hF
                      obtain ⟨f0, f1, f2, f3, f4⟩ := hF
                      have hHeld := f0
                      refine wpAnyH_ready (rs := [9]) (by kernel_rfl) (by simp) ?_
                      refine AllReadyH.cons (o := _) rfl (fun K hK => ?_) (AllReadyH.nil)
                      go_simp
                      have hy : Below W.heap.size W (W.alloc (Obj.cells #[.int .i64 3, .string ⟨#[98]⟩, .int .i64 0, .slice none 0 0] 24 (0, 0))) := (Below.refl _ _).alloc (Nat.le_refl _) _
                      have hnew : Sl W.heap.size 1 [k6b] (W.alloc (Obj.cells #[.int .i64 3, .string ⟨#[98]⟩, .int .i64 0, .slice none 0 0] 24 (0, 0))) := sl_one (a := k6b) (k6_inn (by decide))
                      obtain ⟨b9, hb9⟩ : ∃ b, W.heap.size = b := ⟨_, rfl⟩
                      obtain ⟨Y, hY⟩ : ∃ Y, (W.alloc (Obj.cells #[.int .i64 3, .string ⟨#[98]⟩, .int .i64 0, .slice none 0 0] 24 (0, 0))) = Y := ⟨_, rfl⟩
                      rw [hY] at hy hnew
                      rw [hb9] at hnew
                      have g0 := f0.nx hy
                      simp only [hY, hb9]
                      refine hK.out _ _ (g0) (fun hHeld => ?_)
                      clear hK K
                      try simp only [Act.put, List.setIfInBounds_toArray, List.set_cons_zero, List.set_cons_succ, List.getElem_toArray, List.getElem_cons_zero, List.getElem_cons_succ]
                      exact H411 b2 b5 b9 bal Y ⟨g0, f1.trans (hy.mono f1.size), f2.nx hy, hnew, f3.nx hy, f4⟩
                  case tail =>
                    intro b2 b5 b9 W hF
                    obtain ⟨f0, f1, f2, f3⟩ := hF
                    have hHeld := f0
                    refine wpAnyH_ready (rs := [10, 18]) (by kernel_rfl) (by simp) ?_
                    refine AllReadyH.cons (o := _) rfl (fun K hK => ?_) (AllReadyH.cons (o := _) rfl (fun K hK => ?_) (AllReadyH.nil))
                    · skip
                      go_simp
                      refine (mfun6 ⟨#[103]⟩ _ _ _ _).mono ?_
                      rintro e Y ⟨rfl, hy⟩
                      have g0 := f0.nx hy
                      have HG0 := Lib.hid g0
                      have HY := Lib.hid hy
                      have E0 := Lib.hid f0
                      have E1 := Lib.hid f1
                      have E2 := Lib.hid f2
                      have E3 := Lib.hid f3
                      clear hy g0 f0 f1 f2 f3 hHeld
                      go_wp2_with fail
                      refine hK.out _ _ (HG0.out) (fun hHeld => ?_)
                      clear hK K
                      try simp only [Act.put, List.setIfInBounds_toArray, List.set_cons_zero, List.set_cons_succ, List.getElem_toArray, List.getElem_cons_zero, List.getElem_cons_succ]
                      exact H510 b2 b5 b9 Y ⟨HG0.out, E1.out.trans (HY.out.mono E1.out.size), E2.out.nx HY.out, E3.out.nx HY.out⟩
                    · skip
                      go_simp
                      have hy : Below W.heap.size W (W.alloc (Obj.cells #[.int .i64 0, .string ⟨#[]⟩, .int .i64 0, .slice none 0 0] 24 (0, 0))) := (Below.refl _ _).alloc (Nat.le_refl _) _
                      have hnew : ZB W.heap.size (W.alloc (Obj.cells #[.int .i64 0, .string ⟨#[]⟩, .int .i64 0, .slice none 0 0] 24 (0, 0))) := newBlk _ _ _ rfl
                      obtain ⟨bal, hbal⟩ : ∃ b, W.heap.size = b := ⟨_, rfl⟩
                      obtain ⟨Y, hY⟩ : ∃ Y, (W.alloc (Obj.cells #[.int .i64 0, .string ⟨#[]⟩, .int .i64 0, .slice none 0 0] 24 (0, 0))) = Y := ⟨_, rfl⟩
                      rw [hY] at hy hnew
                      rw [hbal] at hnew
                      have g0 := f0.nx hy
                      simp only [hY, hbal]
                      refine hK.out _ _ (g0) (fun hHeld => ?_)
                      clear hK K
                      try simp only [Act.put, List.setIfInBounds_toArray, List.set_cons_zero, List.set_cons_succ, List.getElem_toArray, List.getElem_cons_zero, List.getElem_cons_succ]
                      exact H411 b2 b5 b9 bal Y ⟨g0, f1.trans (hy.mono f1.size), f2.nx hy, f3.nx hy, hnew, (by rw [← hbal]; exact f1.size)⟩
                case tail =>
                  intro b2 b5 b9 bal W hF
                  obtain ⟨f0, f1, f2, f3, f4, f5⟩ := hF
                  have hHeld := f0
                  refine wpAnyH_ready (rs := [10]) (by kernel_rfl) (by simp) ?_
                  refine AllReadyH.cons (o := _) rfl (fun K hK => ?_) (AllReadyH.nil)
                  go_simp
                  refine (mfun6 ⟨#[103]⟩ _ _ _ _).mono ?_
                  rintro e Y ⟨rfl, hy⟩
                  have g0 := f0.nx hy
                  have HG0 := Lib.hid g0
                  have HY := Lib.hid hy
                  have E0 := Lib.hid f0
                  have E1 := Lib.hid f1
                  have E2 := Lib.hid f2
                  have E3 := Lib.hid f3
                  have E4 := Lib.hid f4
                  have E5 := Lib.hid f5
                  clear hy g0 f0 f1 f2 f3 f4 f5 hHeld
                  go_wp2_with fail
                  refine hK.out _ _ (HG0.out) (fun hHeld => ?_)
                  clear hK K
                  try simp only [Act.put, List.setIfInBounds_toArray, List.set_cons_zero, List.set_cons_succ, List.getElem_toArray, List.getElem_cons_zero, List.getElem_cons_succ]
                  exact H511 b2 b5 b9 bal Y ⟨HG0.out, E1.out.trans (HY.out.mono E1.out.size), E2.out.nx HY.out, E3.out.nx HY.out, E4.out.nx HY.out, E5.out⟩
              case tail =>
                intro b2 b5 b9 W hF
                obtain ⟨f0, f1, f2, f3⟩ := hF
                have hHeld := f0
                refine wpAnyH_ready (rs := [12, 18]) (by kernel_rfl) (by simp) ?_
                refine AllReadyH.cons (o := _) rfl (fun K hK => ?_) (AllReadyH.cons (o := _) rfl (fun K hK => ?_) (AllReadyH.nil))
                · skip
                  go_simp
                  have hy : Below W.heap.size W (W.alloc (Obj.cells #[.int .i64 3, .string ⟨#[98]⟩, .int .i64 0, .slice none 0 0, .int .i64 3, .string ⟨#[103]⟩, .int .i64 0, .slice (some ⟨b9, 0, none⟩) 1 1, .int .i64 3, .string ⟨#[99]⟩, .int .i64 0, .slice none 0 0] 24 (0, 0))) := (Below.refl _ _).alloc (Nat.le_refl _) _
                  have hnew : Sl W.heap.size 3 [k6b, k6gb, k6c] (W.alloc (Obj.cells #[.int .i64 3, .string ⟨#[98]⟩, .int .i64 0, .slice none 0 0, .int .i64 3, .string ⟨#[103]⟩, .int .i64 0, .slice (some ⟨b9, 0, none⟩) 1 1, .int .i64 3, .string ⟨#[99]⟩, .int .i64 0, .slice none 0 0] 24 (0, 0))) := sl_three (a := k6b) (b := k6gb) (c := k6c) (k6_inn (by decide)) (fun6_inn (by decide) f3) (k6_inn (by decide))
                  obtain ⟨b12, hb12⟩ : ∃ b, W.heap.size = b := ⟨_, rfl⟩
                  obtain ⟨Y, hY⟩ : ∃ Y, (W.alloc (Obj.cells #[.int .i64 3, .string ⟨#[98]⟩, .int .i64 0, .slice none 0 0, .int .i64 3, .string ⟨#[103]⟩, .int .i64 0, .slice (some ⟨b9, 0, none⟩) 1 1, .int .i64 3, .string ⟨#[99]⟩, .int .i64 0, .slice none 0 0] 24 (0, 0))) = Y := ⟨_, rfl⟩
                  rw [hY] at hy hnew
                  rw [hb12] at hnew
                  have g0 := f0.nx hy
                  simp only [hY, hb12]
                  refine hK.out _ _ (g0) (fun hHeld => ?_)
                  clear hK K
                  try simp only [Act.put, List.setIfInBounds_toArray, List.set_cons_zero, List.set_cons_succ, List.getElem_toArray, List.getElem_cons_zero, List.getElem_cons_succ]
                  exact H610 b2 b5 b9 b12 Y ⟨g0, f1.trans (hy.mono f1.size), f2.nx hy, hnew⟩
                · skip
                  go_simp
                  have hy : Below W.heap.size W (W.alloc (Obj.cells #[.int .i64 0, .string ⟨#[]⟩, .int .i64 0, .slice none 0 0] 24 (0, 0))) := (Below.refl _ _).alloc (Nat.le_refl _) _
                  have hnew : ZB W.heap.size (W.alloc (Obj.cells #[.int .i64 0, .string ⟨#[]⟩, .int .i64 0, .slice none 0 0] 24 (0, 0))) := newBlk _ _ _ rfl
                  obtain ⟨bal, hbal⟩ : ∃ b, W.heap.size = b := ⟨_, rfl⟩
                  obtain ⟨Y, hY⟩ : ∃ Y, (W.alloc (Obj.cells #[.int .i64 0, .string ⟨#[]⟩, .int .i64 0, .slice none 0 0] 24 (0, 0))) = Y := ⟨_, rfl⟩
                  rw [hY] at hy hnew
                  rw [hbal] at hnew
                  have g0 := f0.nx hy
                  simp only [hY, hbal]
                  refine hK.out _ _ (g0) (fun hHeld => ?_)
                  clear hK K
                  try simp only [Act.put, List.setIfInBounds_toArray, List.set_cons_zero, List.set_cons_succ, List.getElem_toArray, List.getElem_cons_zero, List.getElem_cons_succ]
                  exact H511 b2 b5 b9 bal Y ⟨g0, f1.trans (hy.mono f1.size), f2.nx hy, f3.nx hy, hnew, (by rw [← hbal]; exact f1.size)⟩
            case tail =>
              intro b2 b5 b9 bal W hF
              obtain ⟨f0, f1, f2, f3, f4, f5⟩ := hF
              have hHeld := f0
              refine wpAnyH_ready (rs := [12]) (by kernel_rfl) (by simp) ?_
              refine AllReadyH.cons (o := _) rfl (fun K hK => ?_) (AllReadyH.nil)
              go_simp
              have hy : Below W.heap.size W (W.alloc (Obj.cells #[.int .i64 3, .string ⟨#[98]⟩, .int .i64 0, .slice none 0 0, .int .i64 3, .string ⟨#[103]⟩, .int .i64 0, .slice (some ⟨b9, 0, none⟩) 1 1, .int .i64 3, .string ⟨#[99]⟩, .int .i64 0, .slice none 0 0] 24 (0, 0))) := (Below.refl _ _).alloc (Nat.le_refl _) _
              have hnew : Sl W.heap.size 3 [k6b, k6gb, k6c] (W.alloc (Obj.cells #[.int .i64 3, .string ⟨#[98]⟩, .int .i64 0, .slice none 0 0, .int .i64 3, .string ⟨#[103]⟩, .int .i64 0, .slice (some ⟨b9, 0, none⟩) 1 1, .int .i64 3, .string ⟨#[99]⟩, .int .i64 0, .slice none 0 0] 24 (0, 0))) := sl_three (a := k6b) (b := k6gb) (c := k6c) (k6_inn (by decide)) (fun6_inn (by decide) f3) (k6_inn (by decide))
              obtain ⟨b12, hb12⟩ : ∃ b, W.heap.size = b := ⟨_, rfl⟩
              obtain ⟨Y, hY⟩ : ∃ Y, (W.alloc (Obj.cells #[.int .i64 3, .string ⟨#[98]⟩, .int .i64 0, .slice none 0 0, .int .i64 3, .string ⟨#[103]⟩, .int .i64 0, .slice (some ⟨b9, 0, none⟩) 1 1, .int .i64 3, .string ⟨#[99]⟩, .int .i64 0, .slice none 0 0] 24 (0, 0))) = Y := ⟨_, rfl⟩
              rw [hY] at hy hnew
              rw [hb12] at hnew
              have g0 := f0.nx hy
              simp only [hY, hb12]
              refine hK.out _ _ (g0) (fun hHeld => ?_)
              clear hK K
              try simp only [Act.put, List.setIfInBounds_toArray, List.set_cons_zero, List.set_cons_succ, List.getElem_toArray, List.getElem_cons_zero, List.getElem_cons_succ]
              exact H611 b2 b5 b9 b12 bal Y ⟨g0, f1.trans (hy.mono f1.size), f2.nx hy, hnew, f4.nx hy, f5⟩
          case tail =>
            intro b2 b5 b9 b12 W hF
            obtain ⟨f0, f1, f2, f3⟩ := hF
            have hHeld := f0
            refine wpAnyH_ready (rs := [13, 18]) (by kernel_rfl) (by simp) ?_
            refine AllReadyH.cons (o := _) rfl (fun K hK => ?_) (AllReadyH.cons (o := _) rfl (fun K hK => ?_) (AllReadyH.nil))
            · skip
              go_simp
              refine (mfun6 ⟨#[102]⟩ _ _ _ _).mono ?_
              rintro e Y ⟨rfl, hy⟩
              have g0 := f0.nx hy
              have HG0 := Lib.hid g0
              have HY := Lib.hid hy
              have E0 := Lib.hid f0
              have E1 := Lib.hid f1
              have E2 := Lib.hid f2
              have E3 := Lib.hid f3
              clear hy g0 f0 f1 f2 f3 hHeld
              go_wp2_with fail
              refine hK.out _ _ (HG0.out) (fun hHeld => ?_)
              clear hK K
              try simp only [Act.put, List.setIfInBounds_toArray, List.set_cons_zero, List.set_cons_succ, List.getElem_toArray, List.getElem_cons_zero, List.getElem_cons_succ]
              exact H710 b2 b5 b9 b12 Y ⟨HG0.out, E1.out.trans (HY.out.mono E1.out.size), E2.out.nx HY.out, E3.out.nx HY.out⟩
            · skip
              go_simp
              have hy : Below W.heap.size W (W.alloc (Obj.cells #[.int .i64 0, .string ⟨#[]⟩, .int .i64 0, .slice none 0 0] 24 (0, 0))) := (Below.refl _ _).alloc (Nat.le_refl _) _
              have hnew : ZB W.heap.size (W.alloc (Obj.cells #[.int .i64 0, .string ⟨#[]⟩, .int .i64 0, .slice none 0 0] 24 (0, 0))) := newBlk _ _ _ rfl
              obtain ⟨bal, hbal⟩ : ∃ b, W.heap.size = b := ⟨_, rfl⟩
              obtain ⟨Y, hY⟩ : ∃ Y, (W.alloc (Obj.cells #[.int .i64 0, .string ⟨#[]⟩, .int .i64 0, .slice none 0 0] 24 (0, 0))) = Y := ⟨_, rfl⟩
              rw [hY] at hy hnew
              rw [hbal] at hnew
              have g0 := f0.nx hy
              simp only [hY, hbal]
              refine hK.out _ _ (g0) (fun hHeld => ?_)
              clear hK K
              try simp only [Act.put, List.setIfInBounds_toArray, List.set_cons_zero, List.set_cons_succ, List.getElem_toArray, List.getElem_cons_zero, List.getElem_cons_succ]
              exact H611 b2 b5 b9 b12 bal Y ⟨g0, f1.trans (hy.mono f1.size), f2.nx hy, f3.nx hy, hnew, (by rw [← hbal]; exact f1.size)⟩
        case tail =>
          intro b2 b5 b9 b12 bal W hF
          obtain ⟨f0, f1, f2, f3, f4, f5⟩ := hF
          have hHeld := f0
          refine wpAnyH_ready (rs := [13]) (by kernel_rfl) (by simp) ?_
          refine AllReadyH.cons (o := _) rfl (fun K hK => ?_) (AllReadyH.nil)
          go_simp
          refine (mfun6 ⟨#[102]⟩ _ _ _ _).mono ?_
          rintro e Y ⟨rfl, hy⟩
          have g0 := f0.nx hy
          have HG0 := Lib.hid g0
          have HY := Lib.hid hy
          have E0 := Lib.hid f0
          have E1 := Lib.hid f1
          have E2 := Lib.hid f2
          have E3 := Lib.hid f3
          have E4 := Lib.hid f4
          have E5 := Lib.hid f5
          clear hy g0 f0 f1 f2 f3 f4 f5 hHeld
          go_wp2_with fail
          refine hK.out _ _ (HG0.out) (fun hHeld => ?_)
          clear hK K
          try simp only [Act.put, List.setIfInBounds_toArray, List.set_cons_zero, List.set_cons_succ, List.getElem_toArray, List.getElem_cons_zero, List.getElem_cons_succ]
          exact H711 b2 b5 b9 b12 bal Y ⟨HG0.out, E1.out.trans (HY.out.mono E1.out.size), E2.out.nx HY.out, E3.out.nx HY.out, E4.out.nx HY.out, E5.out⟩
      case tail =>
        intro b2 b5 b9 b12 W hF
        obtain ⟨f0, f1, f2, f3⟩ := hF
        have hHeld := f0
        refine wpAnyH_ready (rs := [14, 18]) (by kernel_rfl) (by simp) ?_
        refine AllReadyH.cons (o := _) rfl (fun K hK => ?_) (AllReadyH.cons (o := _) rfl (fun K hK => ?_) (AllReadyH.nil))
        · skip
          go_simp
          refine (mof_any k6fa k6fb _ _ _ (fun6_inn (by decide) f2) (fun6_inn (by decide) f3) (by decide) (by decide)).mono ?_
          rintro e Y ⟨X1, E1', g1, c1, rfl, hp1, hy, hcase⟩
          have hcase2 : X1 = k6r ∧ E1' = 0 := by
            rcases hcase with ⟨_, h1, h2⟩ | ⟨h0, _⟩
            · exact ⟨h1.trans k6_msg, h2⟩
            · rw [k6_right.2.2.1, k6_right.2.2.2] at h0; cases h0
          obtain ⟨rfl, rfl⟩ := hcase2
          have hb := f1.trans (hy.mono f1.size)
          have g0 := f0.nx hy
          have HP := Lib.hid hp1
          have HBY := Lib.hid hb
          have G0 := Lib.hid g0
          clear hcase hp1 hb g0 hy f0 f1 f2 f3 hHeld
          go_wp2_with fail
          refine hK.out _ _ (G0.out) (fun hHeld => ?_)
          clear hK K
          try simp only [Act.put, List.setIfInBounds_toArray, List.set_cons_zero, List.set_cons_succ, List.getElem_toArray, List.getElem_cons_zero, List.getElem_cons_succ]
          refine wpAnyH_take (i := 15) (oi := _) (v := ?_) rfl (by kernel_rfl) (by kernel_rfl) (by kernel_rfl) (fun _ _ _ h => h) (Or.inl ⟨by rfl, ?_⟩) hHeld ?_
          rotate_left
          · (intro w hSw; (try dsimp only at hSw); go_simp; try with_reducible rfl)
          try simp only [Act.put, List.setIfInBounds_toArray, List.set_cons_zero, List.set_cons_succ, List.getElem_toArray, List.getElem_cons_zero, List.getElem_cons_succ]
          refine wpAnyH_take (i := 16) (oi := _) (v := ?_) rfl (by kernel_rfl) (by kernel_rfl) (by kernel_rfl) (fun _ _ _ h => h) (Or.inl ⟨by rfl, ?_⟩) hHeld ?_
          rotate_left
          · (intro w hSw; (try dsimp only at hSw); go_simp; try with_reducible rfl)
          try simp only [Act.put, List.setIfInBounds_toArray, List.set_cons_zero, List.set_cons_succ, List.getElem_toArray, List.getElem_cons_zero, List.getElem_cons_succ]
          refine wpAnyH_take (i := 17) (oi := _) (v := ?_) rfl (by kernel_rfl) (by kernel_rfl) (by kernel_rfl) (fun _ _ _ h => h) (Or.inl ⟨by rfl, ?_⟩) hHeld ?_
          rotate_left
          · (intro w hSw; (try dsimp only at hSw); go_simp; try with_reducible rfl)
          try simp only [Act.put, List.setIfInBounds_toArray, List.set_cons_zero, List.set_cons_succ, List.getElem_toArray, List.getElem_cons_zero, List.getElem_cons_succ]
          refine wpAnyH_ready (rs := [18]) (by kernel_rfl) (by simp) ?_
          refine AllReadyH.cons (o := _) rfl (fun K hK => ?_) (AllReadyH.nil)
          go_simp
          have hz := (Below.refl Y.heap.size Y).alloc (Nat.le_refl _) (Obj.cells #[.int .i64 0, .string ⟨#[]⟩, .int .i64 0, .slice none 0 0] 24 (0, 0))
          have gz : ZB Y.heap.size (Y.alloc (Obj.cells #[.int .i64 0, .string ⟨#[]⟩, .int .i64 0, .slice none 0 0] 24 (0, 0))) := newBlk _ _ _ rfl
          have hp2 := Tm.innP_same (w' := Y.alloc (Obj.cells #[.int .i64 0, .string ⟨#[]⟩, .int .i64 0, .slice none 0 0] 24 (0, 0))) (ok' := fun q => q < (Y.alloc (Obj.cells #[.int .i64 0, .string ⟨#[]⟩, .int .i64 0, .slice none 0 0] 24 (0, 0))).heap.size ∧ q ≠ Y.heap.size) (fun q hq => ⟨by have := hq.2; simp; omega, by have := hq.2; omega⟩) (fun q o' u hq hc => (World.cell?_alloc_lt Y _ _ hq.2).trans hc) _ _ HP.out
          obtain ⟨bal, hbal⟩ : ∃ b, Y.heap.size = b := ⟨_, rfl⟩
          obtain ⟨Y2, hY2⟩ : ∃ Y2, Y.alloc (Obj.cells #[.int .i64 0, .string ⟨#[]⟩, .int .i64 0, .slice none 0 0] 24 (0, 0)) = Y2 := ⟨_, rfl⟩
          rw [hY2] at hz gz hp2
          have g0 := G0.out.nx hz
          have hb2 := HBY.out.trans (hz.mono HBY.out.size)
          rw [hbal] at gz hp2
          have hle : w.heap.size ≤ bal := by rw [← hbal]; exact HBY.out.size
          simp only [hY2, hbal]
          refine hK.out _ _ (g0) (fun hHeld => ?_)
          clear hK K
          try simp only [Act.put, List.setIfInBounds_toArray, List.set_cons_zero, List.set_cons_succ, List.getElem_toArray, List.getElem_cons_zero, List.getElem_cons_succ]
          exact HE b2 b5 b9 b12 bal g1 c1 Y2 ⟨g0, hb2, gz, hle, hp2⟩
        · skip
          go_simp
          have hy : Below W.heap.size W (W.alloc (Obj.cells #[.int .i64 0, .string ⟨#[]⟩, .int .i64 0, .slice none 0 0] 24 (0, 0))) := (Below.refl _ _).alloc (Nat.le_refl _) _
          have hnew : ZB W.heap.size (W.alloc (Obj.cells #[.int .i64 0, .string ⟨#[]⟩, .int .i64 0, .slice none 0 0] 24 (0, 0))) := newBlk _ _ _ rfl
          obtain ⟨bal, hbal⟩ : ∃ b, W.heap.size = b := ⟨_, rfl⟩
          obtain ⟨Y, hY⟩ : ∃ Y, (W.alloc (Obj.cells #[.int .i64 0, .string ⟨#[]⟩, .int .i64 0, .slice none 0 0] 24 (0, 0))) = Y := ⟨_, rfl⟩
          rw [hY] at hy hnew
          rw [hbal] at hnew
          have g0 := f0.nx hy
          simp only [hY, hbal]
          refine hK.out _ _ (g0) (fun hHeld => ?_)
          clear hK K
          try simp only [Act.put, List.setIfInBounds_toArray, List.set_cons_zero, List.set_cons_succ, List.getElem_toArray, List.getElem_cons_zero, List.getElem_cons_succ]
          exact H711 b2 b5 b9 b12 bal Y ⟨g0, f1.trans (hy.mono f1.size), f2.nx hy, f3.nx hy, hnew, (by rw [← hbal]; exact f1.size)⟩
    case tail =>
      intro b2 b5 b9 b12 bal W hF
      obtain ⟨f0, f1, f2, f3, f4, f5⟩ := hF
      have hHeld := f0
      refine wpAnyH_ready (rs := [14]) (by kernel_rfl) (by simp) ?_
      refine AllReadyH.cons (o := _) rfl (fun K hK => ?_) (AllReadyH.nil)
      go_simp
      refine (mof_any k6fa k6fb _ _ _ (fun6_inn (by decide) f2) (fun6_inn (by decide) f3) (by decide) (by decide)).mono ?_
      rintro e Y ⟨X1, E1', g1, c1, rfl, hp1, hy, hcase⟩
      have hcase2 : X1 = k6r ∧ E1' = 0 := by
        rcases hcase with ⟨_, h1, h2⟩ | ⟨h0, _⟩
        · exact ⟨h1.trans k6_msg, h2⟩
        · rw [k6_right.2.2.1, k6_right.2.2.2] at h0; cases h0
      obtain ⟨rfl, rfl⟩ := hcase2
      have hb := f1.trans (hy.mono f1.size)
      have g0 := f0.nx hy
      have gz := f4.nx hy
      have HP := Lib.hid hp1
      have HBY := Lib.hid hb
      have G0 := Lib.hid g0
      have GZ := Lib.hid gz
      have HLZ := Lib.hid (Array.getElem?_eq_some_iff.1 f4).1
      have HLE := Lib.hid f5
      clear hcase hp1 hb g0 hy gz f0 f1 f2 f3 f4 f5 hHeld
      go_wp2_with fail
      refine hK.out _ _ (G0.out) (fun hHeld => ?_)
      clear hK K
      try simp only [Act.put, List.setIfInBounds_toArray, List.set_cons_zero, List.set_cons_succ, List.getElem_toArray, List.getElem_cons_zero, List.getElem_cons_succ]
      refine wpAnyH_take (i := 15) (oi := _) (v := ?_) rfl (by kernel_rfl) (by kernel_rfl) (by kernel_rfl) (fun _ _ _ h => h) (Or.inl ⟨by rfl, ?_⟩) hHeld ?_
      rotate_left
      · (intro w hSw; (try dsimp only at hSw); go_simp; try with_reducible rfl)
      try simp only [Act.put, List.setIfInBounds_toArray, List.set_cons_zero, List.set_cons_succ, List.getElem_toArray, List.getElem_cons_zero, List.getElem_cons_succ]
      refine wpAnyH_take (i := 16) (oi := _) (v := ?_) rfl (by kernel_rfl) (by kernel_rfl) (by kernel_rfl) (fun _ _ _ h => h) (Or.inl ⟨by rfl, ?_⟩) hHeld ?_
      rotate_left
      · (intro w hSw; (try dsimp only at hSw); go_simp; try with_reducible rfl)
      try simp only [Act.put, List.setIfInBounds_toArray, List.set_cons_zero, List.set_cons_succ, List.getElem_toArray, List.getElem_cons_zero, List.getElem_cons_succ]
      refine wpAnyH_take (i := 17) (oi := _) (v := ?_) rfl (by kernel_rfl) (by kernel_rfl) (by kernel_rfl) (fun _ _ _ h => h) (Or.inl ⟨by rfl, ?_⟩) hHeld ?_
      rotate_left
      · (intro w hSw; (try dsimp only at hSw); go_simp; try with_reducible rfl)
      try simp only [Act.put, List.setIfInBounds_toArray, List.set_cons_zero, List.set_cons_succ, List.getElem_toArray, List.getElem_cons_zero, List.getElem_cons_succ]
      exact HE b2 b5 b9 b12 bal g1 c1 Y ⟨G0.out, HBY.out, GZ.out, HLE.out, Tm.innP_same (fun q hq => ⟨hq.2, by have h1 := hq.1; have h2 := HLZ.out; omega⟩) (fun _ _ _ _ hc => hc) _ _ HP.out⟩
  case tail =>
    intro b2 b5 b9 b12 bal g1 c1 Y hF
    obtain ⟨f0, f1, f2, fle, f3⟩ := hF
    have hHeld := f0
    obtain ⟨⟨z0, z1, z2, z3⟩, zf0, zf1, zf2, zf3⟩ := row4 f2
    have lz : bal < Y.heap.size := (Array.getElem?_eq_some_iff.1 f2).1
    have hfar := f0.far f2
    refine wpAnyH_ready (rs := [19]) (by kernel_rfl) (by simp) ?_
    refine AllReadyH.cons (o := _) rfl (fun K hK => ?_) (AllReadyH.nil)
    go_simp
    generalize hV : World.setCell _ _ _ = V
    obtain ⟨hbV, hrV, hsame, hszV⟩ := set4_fin f1 fle f2 hV
    have gV := f0.keep (hsame _ hfar.1) (hsame _ hfar.2.1) (hsame _ hfar.2.2)
    refine hK.out _ _ (gV) (fun hHeld => ?_)
    clear hK K
    try simp only [Act.put, List.setIfInBounds_toArray, List.set_cons_zero, List.set_cons_succ, List.getElem_toArray, List.getElem_cons_zero, List.getElem_cons_succ]
    refine wpAnyH_ready (rs := [20]) (by kernel_rfl) (by simp) ?_
    refine AllReadyH.cons (o := _) rfl (fun K hK => ?_) AllReadyH.nil
    go_simp
    refine hK.out _ _ (hHeld) (fun hHeld => ?_)
    clear hK K
    try simp only [Act.put, List.setIfInBounds_toArray, List.set_cons_zero, List.set_cons_succ, List.getElem_toArray, List.getElem_cons_zero, List.getElem_cons_succ]
    refine wpAnyH_done (by kernel_rfl) ?_ _
    have hpV : Tm.innP V (fun q => q < V.heap.size ∧ q ≠ bal) k6r (.slice g1 k6r.args.length c1) := Tm.innP_same (fun q hq => ⟨by have := hq.1; omega, hq.2⟩) (fun q o' u hq hc => (World.cell?_of_block (a := ⟨q, o', none⟩) (hsame q hq.2)).trans hc) _ _ f3
    have hbx : TmBox V bal k6r (.slice g1 k6r.args.length c1) := ⟨hrV, Tm.inn_of_P (fun q hq => hq.1) _ _ hpV⟩
    have HBX := Lib.hid hbx
    have HGV := Lib.hid gV
    have HBV := Lib.hid hbV
    obtain ⟨⟨a0, a1, a2, a3⟩, ⟨b0, b1, b2', b3⟩, _⟩ := gV
    clear f0 f1 f2 f3 fle z0 z1 z2 z3 zf0 zf1 zf2 zf3 lz hfar hbV hrV hsame hszV hpV hbx hHeld hV
    have lmV : m < V.heap.size := World.block_lt_of_cell? _ _ a0
    have lmV1 : m + 1 < V.heap.size := World.block_lt_of_cell? _ _ b0
    go_wp2_with fail
    have hap := mapart_any k6a k6b V (.slice none 0 0) (.slice none 0 0) (k6_inn (by decide)) (k6_inn (by decide)) (by decide) (by decide)
    refine hap.mono ?_
    rintro e V1 ⟨N1, E1', rfl, hb1, hcase⟩
    have hcase2 : N1 = 1 ∧ E1' = 0 := by
      rcases hcase with ⟨_, h1, h2⟩ | ⟨h0, _⟩
      · exact ⟨by rw [h1, k6_apart]; rfl, h2⟩
      · rw [k6_right.1, k6_right.2.1] at h0; cases h0
    obtain ⟨rfl, rfl⟩ := hcase2
    have HBX1 := Lib.hid (HBX.out.next hb1)
    have HBV1 := Lib.hid (HBV.out.trans (hb1.mono HBV.out.size))
    clear hb1 hcase hap HBX HBV HGV a0 a1 a2 a3 b0 b1 b2' b3 lmV lmV1
    go_wp2_with fail
    have hal := mall_any [] V1 (.slice none 0 0) nil6_in (by intro t ht; cases ht) (by decide)
    refine hal.mono ?_
    rintro e V2 ⟨X2, E2, g2, c2, rfl, _, hb2, hcase⟩
    have hE2 : E2 = 10 := by
      rcases hcase with ⟨⟨t, ht, _⟩, _⟩ | ⟨_, _, h⟩ | ⟨_, h, _⟩
      · cases ht
      · exact h
      · exact absurd h (by decide)
    subst hE2
    have hbx2 := HBX1.out.next hb2
    have HBV2 := Lib.hid (HBV1.out.trans (hb2.mono HBV1.out.size))
    obtain ⟨d0, d1, d2, d3⟩ := hbx2.cells
    obtain ⟨bb, oo, bb', oo', n', c', rfl, _, rfl, e0, e2, e7, e9, e10⟩ := k6r_cells hbx2.2
    have lb2 := hbx2.lt
    have lbb : bb < V2.heap.size := World.block_lt_of_cell? _ _ e0
    have lbb' : bb' < V2.heap.size := World.block_lt_of_cell? _ _ e9
    clear hb2 hcase hal HBX1 HBV1 hbx2
    have hk : k6r.args.length = 3 := rfl
    rw [hk] at d3
    clear hk
    go_wp2_with fail
    go_ret
    exact ⟨rfl, HBV2.out.alloc HBV2.out.size _⟩
end Go.Proofs.Ytjbicfimoiiglaa
