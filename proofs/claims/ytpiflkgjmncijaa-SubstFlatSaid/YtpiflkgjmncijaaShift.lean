/-
  The program's Shift.
-/
import Derived.Test.YtpiflkgjmncijaaTermC
import Derived.Test.YtpiflkgjmncijaaRen
namespace Go.Proofs.Ytpiflkgjmncijaa
open Go.RowKit Go.Shelf

attribute [local go_sem] Oper.semAt_some

theorem set4_same {W : World} {B : Nat} {a b c d : Value} {t : TypeId} (h : W.heap[B]? = some (Obj.cells #[a, b, c, d] t (0, 0))) (a' b' c' d' : Value) :
    ((((W.setCell ⟨B, 0, none⟩ a').setCell ⟨B, 1, none⟩ b').setCell ⟨B, 2, none⟩ c').setCell ⟨B, 3, none⟩ d').heap[B]? = some (Obj.cells #[a', b', c', d'] t (0, 0)) := by
  have one : ∀ {X : World} {cs : Array Value} (i : Nat) (v : Value), X.heap[B]? = some (Obj.cells cs t (0, 0)) → (X.setCell ⟨B, i, none⟩ v).heap[B]? = some (Obj.cells (cs.setIfInBounds i v) t (0, 0)) := by
    intro X cs i v hX
    obtain ⟨hlt, hk⟩ := Array.getElem?_eq_some_iff.1 hX
    show (X.heap.modify B _)[B]? = _
    rw [Array.getElem?_eq_getElem (by rw [Array.size_modify]; exact hlt), Array.getElem_modify_self, hk]
    rfl
  exact one 3 d' (one 2 c' (one 1 b' (one 0 a' h)))

/-- A whole term and an error's number, stored into their boxes. -/
theorem store5 {W : World} {B : Nat} {a b c d a' b' c' d' x x' : Value} {t u : TypeId} (h : W.heap[B]? = some (Obj.cells #[a, b, c, d] t (0, 0))) (he : Boxed W (B + 1) u x) :
    (((((W.setCell ⟨B, 0, none⟩ a').setCell ⟨B, 1, none⟩ b').setCell ⟨B, 2, none⟩ c').setCell ⟨B, 3, none⟩ d').setCell ⟨B + 1, 0, none⟩ x').heap[B]? = some (Obj.cells #[a', b', c', d'] t (0, 0)) ∧
    Boxed (((((W.setCell ⟨B, 0, none⟩ a').setCell ⟨B, 1, none⟩ b').setCell ⟨B, 2, none⟩ c').setCell ⟨B, 3, none⟩ d').setCell ⟨B + 1, 0, none⟩ x') (B + 1) u x' :=
  ⟨(Below.heap_setCell _ _ _ _ (by simp)).trans (set4_same h a' b' c' d'), Boxed.set (v := x) _ ((set4_other _ _ _ _ _ _ _ (by omega)).trans he)⟩
theorem other5 {W : World} {B : Nat} {a' b' c' d' x' : Value} {k : Nat} (h1 : k ≠ B) (h2 : k ≠ B + 1) :
    (((((W.setCell ⟨B, 0, none⟩ a').setCell ⟨B, 1, none⟩ b').setCell ⟨B, 2, none⟩ c').setCell ⟨B, 3, none⟩ d').setCell ⟨B + 1, 0, none⟩ x').heap[k]? = W.heap[k]? :=
  (Below.heap_setCell _ _ _ _ h2).trans (set4_other _ _ _ _ _ _ _ h1)
theorem size5 {W : World} {B : Nat} {a' b' c' d' x' : Value} :
    (((((W.setCell ⟨B, 0, none⟩ a').setCell ⟨B, 1, none⟩ b').setCell ⟨B, 2, none⟩ c').setCell ⟨B, 3, none⟩ d').setCell ⟨B + 1, 0, none⟩ x').heap.size = W.heap.size := by simp
theorem below5 {W0 W : World} {n₀ B : Nat} {a' b' c' d' x' : Value} (hb : Below n₀ W0 W) (hB : n₀ ≤ B) :
    Below n₀ W0 (((((W.setCell ⟨B, 0, none⟩ a').setCell ⟨B, 1, none⟩ b').setCell ⟨B, 2, none⟩ c').setCell ⟨B, 3, none⟩ d').setCell ⟨B + 1, 0, none⟩ x') :=
  ((((hb.setCell (p := ⟨B, 0, none⟩) hB _).setCell (p := ⟨B, 1, none⟩) hB _).setCell (p := ⟨B, 2, none⟩) hB _).setCell (p := ⟨B, 3, none⟩) hB _).setCell (p := ⟨B + 1, 0, none⟩) (by show n₀ ≤ B + 1; omega) _

theorem shift1_any (v b : Int) (B : Nat) (w : World) (hc : w.cell? ⟨B, 0, none⟩ = some (.int .i64 b)) :
    Calls Try.prog 51 #[.int .i64 v, .pointer (some ⟨B, 0, none⟩)] w fun e w' => e = .returned (.int .i64 (wrap64 (v + b))) ∧ Below w.heap.size w w' := by
  go_enter Try.func51, Try.ntmps51
  go_wp2_with fail
  go_ret
  exact ⟨rfl, Below.refl _ _⟩

/-- A Var whose number would be too great. -/
def badV (b : Int) (x : Key) : Bool := x.k == 1 && decide (wrap64 (1000000 - x.n) ≤ b)
/-- What Shift tells: the error's number. -/
def shiftErr (t : Tm) (b : Int) : Int := if t.right = false then 1 else if b < 0 ∨ (t.nodes 1).any (badV b) = true then 3 else 0
def ShiftPost (t : Tm) (b : Int) (w : World) (e : Ending) (w' : World) : Prop :=
  Below w.heap.size w w' ∧ ((shiftErr t b ≠ 0 ∧ e = .returned (.tuple #[.agg #[.int .i64 0, .string ⟨#[]⟩, .int .i64 0, .slice none 0 0], .int .i64 (shiftErr t b)])) ∨
    (shiftErr t b = 0 ∧ ∃ sv', e = .returned (.tuple #[.agg #[.int .i64 (t.ren fun v => wrap64 (v + b)).kind, .string (t.ren fun v => wrap64 (v + b)).name, .int .i64 (t.ren fun v => wrap64 (v + b)).n, sv'], .int .i64 0]) ∧
      Tm.innP w' (fun x => w.heap.size ≤ x ∧ x < w'.heap.size) (t.ren fun v => wrap64 (v + b)) sv'))

set_option maxRecDepth 100000 in
set_option maxHeartbeats 4000000 in
theorem tshift_any (t : Tm) (b : Int) (w : World) (sv : Value) (hin : Tm.inn w w.heap.size t sv) (hsz : t.size ≤ 1000000) :
    Calls Try.prog 23 #[.agg #[.int .i64 t.kind, .string t.name, .int .i64 t.n, sv], .int .i64 b] w fun e w' => ShiftPost t b w e w' := by
  refine (callsIn_wide (n := 9)).1 ?_
  obtain ⟨_, g, cap, rfl, hcap, hlen, _⟩ := Tm.inn_iff.1 hin
  have HIN := Lib.hid hin
  clear hin
  refine callsIn_of_wp_marks Try.func23 rfl trivial ?_ rfl
  simp only [Try.ntmps23, List.size_toArray, List.length_cons, List.length_nil, Nat.reduceAdd, Nat.reduceSub, Array.replicate_succ, Array.replicate_zero, List.push_toArray, List.append_toArray, List.nil_append, List.cons_append]
  gi_wp2_with fail
  refine ⟨trivial, ?_⟩
  obtain ⟨b0, hb0⟩ : ∃ b0, Obj.cells #[.int .i64 t.kind, .string t.name, .int .i64 t.n, .slice g t.args.length cap] 24 (0, 0) = b0 := ⟨_, rfl⟩
  obtain ⟨z0, hz0⟩ : ∃ z0, Obj.cells #[.int .i64 0, .string ⟨#[]⟩, .int .i64 0, .slice none 0 0] 24 (0, 0) = z0 := ⟨_, rfl⟩
  rw [hb0, hz0]
  have bT : ((((w.alloc b0).alloc (.cells #[.int .i64 b] 3)).alloc z0).alloc (.cells #[.int .i64 0] 27)).heap[w.heap.size]? = some b0 := by
    rw [Below.heap_alloc _ _ _ (by simp; omega), Below.heap_alloc _ _ _ (by simp; omega), Below.heap_alloc _ _ _ (by simp)]; exact newBlk _ _ _ rfl
  have bB : Boxed ((((w.alloc b0).alloc (.cells #[.int .i64 b] 3)).alloc z0).alloc (.cells #[.int .i64 0] 27)) (w.heap.size + 1) 3 (.int .i64 b) := by
    unfold Boxed
    rw [Below.heap_alloc _ _ _ (by simp), Below.heap_alloc _ _ _ (by simp)]; exact newBlk _ _ _ (by simp)
  have bZ : ((((w.alloc b0).alloc (.cells #[.int .i64 b] 3)).alloc z0).alloc (.cells #[.int .i64 0] 27)).heap[w.heap.size + 1 + 1]? = some z0 := by
    rw [Below.heap_alloc _ _ _ (by simp)]; exact newBlk _ _ _ (by simp)
  have bE : Boxed ((((w.alloc b0).alloc (.cells #[.int .i64 b] 3)).alloc z0).alloc (.cells #[.int .i64 0] 27)) (w.heap.size + 1 + 1 + 1) 27 (.int .i64 0) := newBlk _ _ _ (by simp)
  have hB0 : Below w.heap.size w ((((w.alloc b0).alloc (.cells #[.int .i64 b] 3)).alloc z0).alloc (.cells #[.int .i64 0] 27)) := ((((Below.refl _ w).alloc (Nat.le_refl _) _).alloc (by simp) _).alloc (by simp; omega) _).alloc (by simp; omega) _
  have hsz0 : ((((w.alloc b0).alloc (.cells #[.int .i64 b] 3)).alloc z0).alloc (.cells #[.int .i64 0] 27)).heap.size = w.heap.size + 4 := by simp
  obtain ⟨W0, hW0⟩ : ∃ W0, ((((w.alloc b0).alloc (.cells #[.int .i64 b] 3)).alloc z0).alloc (.cells #[.int .i64 0] 27)) = W0 := ⟨_, rfl⟩
  rw [hW0] at bT bB bZ bE hB0 hsz0 ⊢
  clear hW0
  refine (callsIn_wide.2 (tright_any t W0 _ (Tm.inn_mono (Tm.inn_below HIN.out hB0 (Nat.le_refl _)) hB0.size) hsz)).mono ?_
  rintro e W1 ⟨rfl, hb1⟩
  have bT1 := (hb1.block _ (by omega)).trans bT
  have bB1 : Boxed W1 (w.heap.size + 1) 3 (.int .i64 b) := (hb1.block _ (by omega)).trans bB
  have bZ1 := (hb1.block _ (by omega)).trans bZ
  have bE1 : Boxed W1 (w.heap.size + 1 + 1 + 1) 27 (.int .i64 0) := (hb1.block _ (by omega)).trans bE
  have hB1 := hB0.trans (hb1.mono (by omega))
  have hs1 := hb1.size
  clear bT bB bZ bE hB0 hb1
  subst hb0 hz0
  obtain ⟨⟨t0, t1, t2, t3⟩, _⟩ := row4 bT1
  obtain ⟨⟨z0, z1, z2, z3⟩, y0, y1, y2, y3⟩ := row4 bZ1
  have cB := bB1.cell
  have cE := bE1.cell
  have fE := bE1.frozen
  have HT1 := Lib.hid bT1
  have HB1 := Lib.hid bB1
  have HZ1 := Lib.hid bZ1
  have HE1 := Lib.hid bE1
  have HW1 := Lib.hid hB1
  clear bT1 bB1 bZ1 bE1 hB1
  cases hr : t.right with
  | false =>
    have hs : shiftErr t b = 1 := by simp [shiftErr, hr]
    have HS := Lib.hid hs
    clear hs hr
    gi_wp2_with fail
    obtain ⟨hz, hE⟩ := store5 (a' := .int .i64 0) (b' := .string ⟨#[]⟩) (c' := .int .i64 0) (d' := .slice none 0 0) (x' := .int .i64 1) HZ1.out HE1.out
    obtain ⟨⟨d0, d1, d2, d3⟩, _⟩ := row4 hz
    have dE := hE.cell
    refine ⟨.tuple #[.agg #[.int .i64 0, .string ⟨#[]⟩, .int .i64 0, .slice none 0 0], .int .i64 1], ?_, ?_⟩
    · simp [results, Try.f23, go_sem, d0, d1, d2, d3, dE]
    · exact ⟨below5 HW1.out (by omega), .inl ⟨by rw [HS.out]; decide, by rw [HS.out]⟩⟩
  | true =>
    by_cases hneg : b < 0
    · have hs : shiftErr t b = 3 := by simp [shiftErr, hr, hneg]
      have HS := Lib.hid hs
      clear hs hr
      gi_wp2_with fail
      obtain ⟨hz, hE⟩ := store5 (a' := .int .i64 0) (b' := .string ⟨#[]⟩) (c' := .int .i64 0) (d' := .slice none 0 0) (x' := .int .i64 3) HZ1.out HE1.out
      obtain ⟨⟨d0, d1, d2, d3⟩, _⟩ := row4 hz
      have dE := hE.cell
      refine ⟨.tuple #[.agg #[.int .i64 0, .string ⟨#[]⟩, .int .i64 0, .slice none 0 0], .int .i64 3], ?_, ?_⟩
      · simp [results, Try.f23, go_sem, d0, d1, d2, d3, dE]
      · exact ⟨below5 HW1.out (by omega), .inl ⟨by rw [HS.out]; decide, by rw [HS.out]⟩⟩
    · have HR := Lib.hid hr
      clear hr
      have hnn : 0 ≤ b := by omega
      gi_wp2_with fail
      refine ⟨trivial, ?_⟩
      refine (inside_in Fence.wide 8 trivial rfl _ _ _ _ _ _ _).mono ?_
      rintro e w' ⟨rfl, rfl⟩
      gi_wp2_with fail
      have bT := (Below.heap_alloc W1 (.cells #[.int .i64 t.kind, .string t.name, .int .i64 t.n, .slice g t.args.length cap] 24) (w.heap.size) (by omega)).trans HT1.out
      have bB : Boxed (W1.alloc (.cells #[.int .i64 t.kind, .string t.name, .int .i64 t.n, .slice g t.args.length cap] 24)) (w.heap.size + 1) 3 (.int .i64 b) := HB1.out.alloc _
      have bZ := (Below.heap_alloc W1 (.cells #[.int .i64 t.kind, .string t.name, .int .i64 t.n, .slice g t.args.length cap] 24) (w.heap.size + 1 + 1) (by omega)).trans HZ1.out
      have bE : Boxed (W1.alloc (.cells #[.int .i64 t.kind, .string t.name, .int .i64 t.n, .slice g t.args.length cap] 24)) (w.heap.size + 1 + 1 + 1) 27 (.int .i64 0) := HE1.out.alloc _
      have bX := newBlk W1 (.cells #[.int .i64 t.kind, .string t.name, .int .i64 t.n, .slice g t.args.length cap] 24) W1.heap.size rfl
      have hB2 := HW1.out.alloc (by omega) (.cells #[.int .i64 t.kind, .string t.name, .int .i64 t.n, .slice g t.args.length cap] 24)
      have hsz2 : (W1.alloc (.cells #[.int .i64 t.kind, .string t.name, .int .i64 t.n, .slice g t.args.length cap] 24)).heap.size = W1.heap.size + 1 := by simp
      obtain ⟨W2, hW2⟩ : ∃ W2, W1.alloc (.cells #[.int .i64 t.kind, .string t.name, .int .i64 t.n, .slice g t.args.length cap] 24) = W2 := ⟨_, rfl⟩
      rw [hW2] at bT bB bZ bE bX hB2 hsz2 ⊢
      clear hW2 t0 t1 t2 t3 z0 z1 z2 z3 y0 y1 y2 y3 cB cE fE
      have hin2 := Tm.inn_below HIN.out hB2 (Nat.le_refl _)
      refine wpIn_rangeFunc_ownH rfl (by omega) (gf := 66) (lb := #[.pointer (some ⟨W1.heap.size, 0, none⟩)]) rfl trivial (enters_of Try.func66 (by kernel_rfl) rfl)
        (inside_stops Fence.wide rfl (9 - 1) trivial trivial rfl W1.heap.size w.heap.size t g cap W2 (by omega) bX hin2 hsz) Keep.trans (keep_putObj (by omega)) (Below.refl _ _) (fun _ => rfl)
        (fun pre W => (((W.heap[w.heap.size]? = some (Obj.cells #[.int .i64 t.kind, .string t.name, .int .i64 t.n, .slice g t.args.length cap] 24 (0, 0)) ∧ Boxed W (w.heap.size + 1) 3 (.int .i64 b)) ∧ (W.heap[w.heap.size + 1 + 1]? = some (Obj.cells #[.int .i64 0, .string ⟨#[]⟩, .int .i64 0, .slice none 0 0] 24 (0, 0)) ∧ Boxed W (w.heap.size + 1 + 1 + 1) 27 (.int .i64 0))) ∧ (∀ x ∈ pre, badV b x.key = false)) ∧ Below w.heap.size w W)
        (fun c pre W => ((W.heap[w.heap.size + 1 + 1]? = some (Obj.cells #[.int .i64 0, .string ⟨#[]⟩, .int .i64 0, .slice none 0 0] 24 (0, 0)) ∧ Boxed W (w.heap.size + 1 + 1 + 1) 27 (.int .i64 3)) ∧ (c = .ret ∧ ∃ x ∈ pre, badV b x.key = true)) ∧ Below w.heap.size w W)
        (OwnFrom.and (OwnFrom.and (OwnFrom.and (OwnFrom.and (Own.from (blk_own _ _ (fun _ => _)) _) (Own.from (boxed_own _ _ _) _)) (OwnFrom.and (Own.from (blk_own _ _ (fun _ => _)) _) (Own.from (boxed_own _ _ _) _))) (ownFrom_pure _ _)) (ownFrom_below (Nat.le_refl _) (by omega)))
        (fun c => OwnFrom.and (OwnFrom.and (OwnFrom.and (Own.from (blk_own _ _ (fun _ => _)) _) (Own.from (boxed_own _ _ _) _)) (ownFrom_pure _ _)) (ownFrom_below (Nat.le_refl _) (by omega)))
        ⟨⟨⟨⟨bT, bB⟩, bZ, bE⟩, by simp⟩, hB2⟩
        (fun x a' W => ∃ Bx, w.heap.size + 1 + 1 + 1 < Bx ∧ W.heap[Bx]? = some (Obj.cells #[.int .i64 x.key.k, .string x.key.s, .int .i64 x.key.n, .slice x.g x.key.m x.cap] 24 (0, 0)) ∧
          a' = { tmps := #[.agg #[.int .i64 t.kind, .string t.name, .int .i64 t.n, .slice g t.args.length cap], .int .i64 b, .pointer (some ⟨w.heap.size, 0, none⟩), .pointer (some ⟨w.heap.size + 1, 0, none⟩), .pointer (some ⟨w.heap.size + 1 + 1, 0, none⟩), .pointer (some ⟨w.heap.size + 1 + 1 + 1, 0, none⟩),
          .pointer (some ⟨Bx, 0, none⟩), .agg #[.int .i64 t.kind, .string t.name, .int .i64 t.n, .slice g t.args.length cap], .bool true, .bool false, undef, .int .i64 b, .bool (decide (b < 0)), undef, .agg #[.int .i64 t.kind, .string t.name, .int .i64 t.n, .slice g t.args.length cap], .func (.func 66) #[] #[.pointer (some ⟨W1.heap.size, 0, none⟩)],
          .agg #[.int .i64 x.key.k, .string x.key.s, .int .i64 x.key.n, .slice x.g x.key.m x.cap], .int .i64 x.key.d, undef, undef, undef, undef, undef, undef, undef, undef, undef, undef, undef, undef, undef, undef], defers := [] })
        (fun x a' => Own.from (fun _ X Y row hs hg hrow => by obtain ⟨Bx, h1, h2, h3⟩ := hs; exact ⟨Bx, h1, (grownBy_keeps_cells hg hrow h2 rfl).trans h2, h3⟩) _)
        ?assign ?body ?done ?stop
      case assign =>
        rintro l pre x W K ⟨⟨⟨⟨bT, bB⟩, bZ, bE⟩, hp⟩, hb⟩ hK
        simp only [El.encs]
        rw [zip2]
        gi_wp2
        exact hK _ _ ((KeepsOthers.alloc _ _).from _) ((Keep.refl _ _).alloc hb.size _) ⟨⟨⟨⟨(Below.heap_alloc _ _ _ (Array.getElem?_eq_some_iff.1 bT).1).trans bT, bB.alloc _⟩, (Below.heap_alloc _ _ _ (Array.getElem?_eq_some_iff.1 bZ).1).trans bZ, bE.alloc _⟩, hp⟩, hb.alloc hb.size _⟩ ⟨W.heap.size, bE.lt, newBlk W _ _ rfl, rfl⟩
      case body =>
        rintro l pre x a' W hl _ ⟨⟨⟨⟨bT, bB⟩, bZ, bE⟩, hp⟩, hb⟩ ⟨Bx, hBx, hX, rfl⟩ hlen2
        obtain ⟨⟨c0, c1, c2, c3⟩, _⟩ := row4 hX
        obtain ⟨⟨z0, z1, z2, z3⟩, y0, y1, y2, y3⟩ := row4 bZ
        have cB := bB.cell
        have cE := bE.cell
        have fE := bE.frozen
        have BT := Lib.hid bT
        have BB := Lib.hid bB
        have BZ := Lib.hid bZ
        have BE := Lib.hid bE
        have HP := Lib.hid hp
        have HBB := Lib.hid hb
        clear bT bB bZ bE hp hb hX
        by_cases hk : x.key.k = 1
        · by_cases hbad : wrap64 (1000000 - x.key.n) ≤ b
          · have hf : badV b x.key = true := by simp [badV, hk, hbad]
            have HF := Lib.hid hf
            rw [hk] at c0
            clear hf hk
            gi_wp2
            obtain ⟨hz, hE⟩ := store5 (a' := .int .i64 0) (b' := .string ⟨#[]⟩) (c' := .int .i64 0) (d' := .slice none 0 0) (x' := .int .i64 3) BZ.out BE.out
            refine ⟨(((((KeepsOthers.setCell _ _ _).trans (KeepsOthers.setCell _ _ _)).trans (KeepsOthers.setCell _ _ _)).trans (KeepsOthers.setCell _ _ _)).trans (KeepsOthers.setCell _ _ _)).from _, ⟨⟨hz, hE⟩, rfl, ⟨x, by simp, HF.out⟩⟩, below5 HBB.out (by omega)⟩
          · have hf : badV b x.key = false := by simp [badV, hk]; omega
            have HF := Lib.hid hf
            rw [hk] at c0
            clear hf hk
            gi_wp2
            refine ⟨KeepsFrom.refl _ _, Keep.refl _ _, ⟨⟨⟨BT.out, BB.out⟩, BZ.out, BE.out⟩, fun y hy => ?_⟩, HBB.out⟩
            rcases List.mem_append.1 hy with hy | hy
            · exact HP.out y hy
            · obtain rfl : y = x := by simpa using hy
              exact HF.out
        · have hf : badV b x.key = false := by simp [badV, hk]
          have hkb : (x.key.k == 1) = false := by simpa using hk
          have HF := Lib.hid hf
          clear hf hk
          gi_wp2
          refine ⟨KeepsFrom.refl _ _, Keep.refl _ _, ⟨⟨⟨BT.out, BB.out⟩, BZ.out, BE.out⟩, fun y hy => ?_⟩, HBB.out⟩
          rcases List.mem_append.1 hy with hy | hy
          · exact HP.out y hy
          · obtain rfl : y = x := by simpa using hy
            exact HF.out
      case done =>
        rintro D ys W hD hS ⟨⟨⟨⟨bT, bB⟩, bZ, bE⟩, hp⟩, hb⟩ hK
        have hs : shiftErr t b = 0 := by
          have h1 : (t.nodes 1).any (badV b) = false := by
            rw [← hS, Bool.eq_false_iff]
            intro h
            obtain ⟨k, hk, hk2⟩ := List.any_eq_true.1 h
            obtain ⟨x, hx, rfl⟩ := List.mem_map.1 hk
            rw [hp x hx] at hk2
            cases hk2
          simp only [shiftErr, HR.out, h1]
          simp
          omega
        have HS := Lib.hid hs
        obtain ⟨⟨t0, t1, t2, t3⟩, _⟩ := row4 bT
        have cB := Lib.hid bB.cell
        have BZ := Lib.hid bZ
        have BE := Lib.hid bE
        have HBB := Lib.hid hb
        have HK := Lib.hid hK
        have hDW := (Array.getElem?_eq_some_iff.1 hK).1
        have hlt3 := bE.lt
        clear hs hS hp bT bB bZ bE hb hK
        gi_wp2_with fail
        refine ⟨trivial, ?_⟩
        refine (callsIn_wide.2 (rename_shift (fun X => X.cell? ⟨w.heap.size + 1, 0, none⟩ = some (.int .i64 b)) (fun X X' hX hXb => (hXb.cell (p := ⟨w.heap.size + 1, 0, none⟩) (World.block_lt_of_cell? _ _ hX)).trans hX) (.pointer (some ⟨w.heap.size + 1, 0, none⟩)) (fun v => wrap64 (v + b)) (fun v => wrap64_wf _)
          (fun v X hX _ => shift1_any v b _ X hX) t W w.heap.size _ cB.out HBB.out.size (Tm.inn_below HIN.out HBB.out (Nat.le_refl _)))).mono ?_
        rintro e W3 ⟨sv', rfl, hp3, hb3⟩
        have bZ3 := (hb3.block _ (by omega)).trans BZ.out
        have bE3 : Boxed W3 (w.heap.size + 1 + 1 + 1) 27 (.int .i64 0) := (hb3.block _ hlt3).trans BE.out
        have hK3 := (hb3.block D hDW).trans HK.out
        obtain ⟨_, ga, ca, rfl, _, _, _⟩ := Tm.innP_iff.1 hp3
        obtain ⟨⟨z0, z1, z2, z3⟩, y0, y1, y2, y3⟩ := row4 bZ3
        have cE := bE3.cell
        have fE := bE3.frozen
        have HP3 := Lib.hid hp3
        have hs3 := hb3.size
        have HB3 := Lib.hid (HBB.out.trans (hb3.mono HBB.out.size))
        have BZ3 := Lib.hid bZ3
        have BE3 := Lib.hid bE3
        have HK3 := Lib.hid hK3
        clear hp3 bZ3 bE3 hK3 hb3
        gi_wp2_with fail
        obtain ⟨hz, hE⟩ := store5 (a' := .int .i64 (t.ren fun v => wrap64 (v + b)).kind) (b' := .string (t.ren fun v => wrap64 (v + b)).name) (c' := .int .i64 (t.ren fun v => wrap64 (v + b)).n) (d' := .slice ga (t.ren fun v => wrap64 (v + b)).args.length ca) (x' := .int .i64 0) BZ3.out BE3.out
        have hK' := (other5 (W := W3) (B := w.heap.size + 1 + 1) (a' := .int .i64 (t.ren fun v => wrap64 (v + b)).kind) (b' := .string (t.ren fun v => wrap64 (v + b)).name) (c' := .int .i64 (t.ren fun v => wrap64 (v + b)).n) (d' := .slice ga (t.ren fun v => wrap64 (v + b)).args.length ca) (x' := .int .i64 0) (k := D) (by omega) (by omega)).trans HK3.out
        refine ⟨by simp, .inl ⟨_, _, rfl, run_takeDeferred hK', ?_⟩⟩
        obtain ⟨⟨d0, d1, d2, d3⟩, _⟩ := row4 ((World.putObj_heap_other (o := .deferred none) (show w.heap.size + 1 + 1 ≠ D by omega)).trans hz)
        have dE := Boxed.cell ((World.putObj_heap_other (o := .deferred none) (show w.heap.size + 1 + 1 + 1 ≠ D by omega)).trans hE)
        refine ⟨.tuple #[.agg #[.int .i64 (t.ren fun v => wrap64 (v + b)).kind, .string (t.ren fun v => wrap64 (v + b)).name, .int .i64 (t.ren fun v => wrap64 (v + b)).n, .slice ga (t.ren fun v => wrap64 (v + b)).args.length ca], .int .i64 0], ?_, ?_⟩
        · simp [results, Try.f23, go_sem, d0, d1, d2, d3, dE]
        · refine ⟨(below5 HB3.out (by omega)).trans (belowK_b (w := w) (Nat.le_refl _) _ D _ _ (by omega) hK' rfl rfl), .inr ⟨HS.out, _, rfl, ?_⟩⟩
          have hww := HBB.out.size
          refine Tm.innP_same (fun x hx => ⟨by omega, by have := hx.2; simp; omega⟩) (fun x o u hx hc => ?_) _ _ HP3.out
          refine (World.cell?_of_block (a := ⟨x, o, none⟩) ?_).trans hc
          have hx1 := hx.1
          show _ = W3.heap[x]?
          exact (World.putObj_heap_other (show x ≠ D by omega)).trans (other5 (by omega) (by omega))
      case stop =>
        rintro D c pre W hD hpre ⟨⟨⟨bZ, bE⟩, rfl, x, hx, hx2⟩, hb⟩ hK
        have hs : shiftErr t b = 3 := by
          have h1 : (t.nodes 1).any (badV b) = true := List.any_eq_true.2 ⟨x.key, hpre.subset (List.mem_map_of_mem hx), hx2⟩
          simp [shiftErr, HR.out, h1]
        have HS := Lib.hid hs
        have hDW := (Array.getElem?_eq_some_iff.1 hK).1
        clear hs hpre hx hx2
        gi_wp2
        refine ⟨by simp, .inl ⟨_, _, rfl, run_takeDeferred hK, ?_⟩⟩
        obtain ⟨⟨d0, d1, d2, d3⟩, _⟩ := row4 ((World.putObj_heap_other (o := .deferred none) (show w.heap.size + 1 + 1 ≠ D by omega)).trans bZ)
        have dE := Boxed.cell ((World.putObj_heap_other (o := .deferred none) (show w.heap.size + 1 + 1 + 1 ≠ D by omega)).trans bE)
        refine ⟨.tuple #[.agg #[.int .i64 0, .string ⟨#[]⟩, .int .i64 0, .slice none 0 0], .int .i64 3], ?_, ?_⟩
        · simp [results, Try.f23, go_sem, d0, d1, d2, d3, dE]
        · exact ⟨hb.trans (belowK_b (w := w) (Nat.le_refl _) W D _ _ (by omega) hK rfl rfl), .inl ⟨by rw [HS.out]; decide, by rw [HS.out]⟩⟩
end Go.Proofs.Ytpiflkgjmncijaa
