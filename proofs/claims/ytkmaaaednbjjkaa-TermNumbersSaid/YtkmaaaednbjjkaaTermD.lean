/-
  The program's Ground.
-/
import Derived.Test.YtkmaaaednbjjkaaTermC
namespace Go.Proofs.Ytkmaaaednbjjkaa
open Go.RowKit Go.Shelf

attribute [local go_sem] Oper.semAt_some

/-- Is there no Var in a term? -/
def Tm.ground (t : Tm) : Bool := (t.nodes 1).all fun x => !(x.k == 1)

set_option maxRecDepth 100000 in
set_option maxHeartbeats 2000000 in
theorem tground_any (t : Tm) (w : World) (sv : Value) (hin : Tm.inn w w.heap.size t sv) (hsz : t.size ≤ 1000000) :
    Calls Try.prog 17 #[.agg #[.int .i64 t.kind, .string t.name, .int .i64 t.n, sv]] w fun e w' => e = .returned (.bool t.ground) ∧ Below w.heap.size w w' := by
  refine (callsIn_wide (n := 9)).1 ?_
  obtain ⟨_, g, cap, rfl, hcap, hlen, _⟩ := Tm.inn_iff.1 hin
  have HIN := Lib.hid hin
  clear hin
  refine callsIn_of_wp_marks Try.func17 rfl trivial ?_ rfl
  simp only [Try.ntmps17, List.size_toArray, List.length_cons, List.length_nil, Nat.reduceAdd, Nat.reduceSub, Array.replicate_succ, Array.replicate_zero, List.push_toArray, List.append_toArray, List.nil_append, List.cons_append]
  gi_wp2_with fail
  refine ⟨trivial, ?_⟩
  refine (inside_in Fence.wide 8 trivial rfl _ _ _ _ _ _ _).mono ?_
  rintro e w' ⟨rfl, rfl⟩
  gi_wp2_with fail
  obtain ⟨b0, hb0⟩ : ∃ b0, Obj.cells #[.int .i64 t.kind, .string t.name, .int .i64 t.n, .slice g t.args.length cap] 24 (0, 0) = b0 := ⟨_, rfl⟩
  rw [hb0]
  have bR := (Boxed.new (w.alloc b0) 4 (.bool false)).alloc b0
  have bT := World.alloc_heap_new ((w.alloc b0).alloc (.cells #[.bool false] 4)) b0
  have hB0 : Below w.heap.size w (((w.alloc b0).alloc (.cells #[.bool false] 4)).alloc b0) := (((Below.refl _ w).alloc (Nat.le_refl _) _).alloc (by simp) _).alloc (by simp; omega) _
  have hsz0 : (((w.alloc b0).alloc (.cells #[.bool false] 4)).alloc b0).heap.size = w.heap.size + 3 := by simp
  simp only [World.size_alloc] at bR bT
  obtain ⟨W0, hW0⟩ : ∃ W0, (((w.alloc b0).alloc (.cells #[.bool false] 4)).alloc b0) = W0 := ⟨_, rfl⟩
  rw [hW0] at bR bT hB0 hsz0 ⊢
  clear hW0
  subst hb0
  have hin0 := Tm.inn_below HIN.out hB0 (Nat.le_refl _)
  refine wpIn_rangeFunc_ownH rfl (by omega) (gf := 35) (lb := #[.pointer (some ⟨w.heap.size + 1 + 1, 0, none⟩)]) rfl trivial (enters_of Try.func35 (by kernel_rfl) rfl)
    (inside_stops Fence.wide rfl (9 - 1) trivial trivial rfl (w.heap.size + 1 + 1) w.heap.size t g cap W0 (by omega) bT hin0 hsz) Keep.trans (keep_putObj (by omega)) (Below.refl _ _) (fun _ => rfl)
    (fun pre W => (Boxed W (w.heap.size + 1) 4 (.bool false) ∧ (∀ x ∈ pre, (x.key.k == 1) = false)) ∧ Below w.heap.size w W)
    (fun c pre W => (Boxed W (w.heap.size + 1) 4 (.bool false) ∧ (c = .ret ∧ ∃ x ∈ pre, x.key.k = 1)) ∧ Below w.heap.size w W)
    (OwnFrom.and (OwnFrom.and (Own.from (boxed_own _ _ _) _) (ownFrom_pure _ _)) (ownFrom_below (Nat.le_refl _) (by omega)))
    (fun c => OwnFrom.and (OwnFrom.and (Own.from (boxed_own _ _ _) _) (ownFrom_pure _ _)) (ownFrom_below (Nat.le_refl _) (by omega)))
    ⟨⟨bR, by simp⟩, hB0⟩
    (fun x a' W => ∃ Bx, w.heap.size + 1 < Bx ∧ W.heap[Bx]? = some (Obj.cells #[.int .i64 x.key.k, .string x.key.s, .int .i64 x.key.n, .slice x.g x.key.m x.cap] 24 (0, 0)) ∧
      a' = { tmps := #[.agg #[.int .i64 t.kind, .string t.name, .int .i64 t.n, .slice g t.args.length cap], .pointer (some ⟨w.heap.size, 0, none⟩), .pointer (some ⟨w.heap.size + 1, 0, none⟩),
      .pointer (some ⟨Bx, 0, none⟩), .agg #[.int .i64 t.kind, .string t.name, .int .i64 t.n, .slice g t.args.length cap], .func (.func 35) #[] #[.pointer (some ⟨w.heap.size + 1 + 1, 0, none⟩)],
      .agg #[.int .i64 x.key.k, .string x.key.s, .int .i64 x.key.n, .slice x.g x.key.m x.cap], .int .i64 x.key.d, undef, undef, undef], defers := [] })
    (fun x a' => Own.from (fun _ X Y row hs hg hrow => by obtain ⟨Bx, h1, h2, h3⟩ := hs; exact ⟨Bx, h1, (grownBy_keeps_cells hg hrow h2 rfl).trans h2, h3⟩) _)
    ?assign ?body ?done ?stop
  case assign =>
    rintro l pre x W K ⟨⟨bR, hp⟩, hb⟩ hK
    simp only [El.encs]
    rw [zip2]
    gi_wp2
    exact hK _ _ ((KeepsOthers.alloc _ _).from _) ((Keep.refl _ _).alloc hb.size _) ⟨⟨bR.alloc _, hp⟩, hb.alloc hb.size _⟩ ⟨W.heap.size, bR.lt, World.alloc_heap_new W _, rfl⟩
  case body =>
    rintro l pre x a' W hl _ ⟨⟨bR, hp1⟩, hb⟩ ⟨Bx, hBx, hX, rfl⟩ hlen2
    have c0 : W.cell? ⟨Bx, 0, none⟩ = some (.int .i64 x.key.k) := by simp [World.cell?, hX]
    have cR := bR.cell
    have fR := bR.frozen
    have BR := Lib.hid bR
    have HP1 := Lib.hid hp1
    have HBB := Lib.hid hb
    clear bR hX hp1 hb
    by_cases hk : x.key.k = 1
    · have HKK := Lib.hid hk
      rw [hk] at c0
      clear hk
      gi_wp2
      exact ⟨(KeepsOthers.setCell _ _ _).from _, ⟨BR.out.set _, rfl, ⟨x, by simp, HKK.out⟩⟩, HBB.out.setCell (p := ⟨w.heap.size + 1, 0, none⟩) (by simp) _⟩
    · have hkb : (x.key.k == 1) = false := by simpa using hk
      have HKK := Lib.hid hkb
      gi_wp2
      refine ⟨KeepsFrom.refl _ _, Keep.refl _ _, ⟨BR.out, fun y hy => ?_⟩, HBB.out⟩
      rcases List.mem_append.1 hy with hy | hy
      · exact HP1.out y hy
      · obtain rfl : y = x := by simpa using hy
        exact HKK.out
  case done =>
    rintro D ys W hD hS ⟨⟨bR, hp1⟩, hb⟩ hK
    have hr : t.ground = true := by
      simp only [Tm.ground]
      rw [← hS, List.all_eq_true]
      intro k hk
      obtain ⟨x, hx, rfl⟩ := List.mem_map.1 hk
      rw [hp1 x hx]
      rfl
    have HR := Lib.hid hr
    have cR := bR.cell
    have fR := bR.frozen
    have BR := Lib.hid bR
    clear hr bR hS hp1
    gi_wp2
    have hK' := (KeepsOthers.setCell W ⟨w.heap.size + 1, 0, none⟩ (.bool true)).same D _ hK rfl
    refine ⟨by simp, .inl ⟨_, _, rfl, run_takeDeferred hK', ?_⟩⟩
    have hc5 := cell_kept ((BR.out.set (.bool true)).cell) (grownBy_putObj' _ D (.deferred none)) (fun r e => by cases e; exact ⟨_, hK', rfl⟩)
    refine ⟨.bool true, ?_, by rw [HR.out], (hb.setCell (p := ⟨w.heap.size + 1, 0, none⟩) (by simp) _).trans (belowK_b (w := w) (Nat.le_refl _) _ D _ _ (by omega) hK' rfl rfl)⟩
    simp [results, Try.f17, go_sem, hc5]
  case stop =>
    rintro D c pre W hD hpre ⟨⟨bR, rfl, x, hx, hx2⟩, hb⟩ hK
    have hr : t.ground = false := by
      rw [Bool.eq_false_iff]
      intro h
      have := List.all_eq_true.1 h x.key (hpre.subset (List.mem_map_of_mem hx))
      rw [hx2] at this
      cases this
    have HR := Lib.hid hr
    have BR := Lib.hid bR
    clear hr bR hpre
    gi_wp2
    refine ⟨by simp, .inl ⟨_, _, rfl, run_takeDeferred hK, ?_⟩⟩
    have hc5 := cell_kept BR.out.cell (grownBy_putObj' _ D (.deferred none)) (fun r e => by cases e; exact ⟨_, hK, rfl⟩)
    refine ⟨.bool false, ?_, by rw [HR.out], hb.trans (belowK_b (w := w) (Nat.le_refl _) W D _ _ (by omega) hK rfl rfl)⟩
    simp [results, Try.f17, go_sem, hc5]
end Go.Proofs.Ytkmaaaednbjjkaa
