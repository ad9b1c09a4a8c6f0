/-
  The program's Size: how many terms a term consists of.
-/
import Derived.Test.YtomdccejgmhfoaaIter
namespace Go.Proofs.Ytomdccejgmhfoaa
open Go.RowKit Go.Shelf

attribute [local go_sem] Oper.semAt_some

set_option maxRecDepth 100000 in
set_option maxHeartbeats 2000000 in
theorem tsize_in (F : Fence) (hd : F.depth = none) (hF : ∀ f, F.fn f) (hro : F.round = none) (n : Nat) (hn : 3 ≤ n) (t : Tm) (w : World) (sv : Value) (hin : Tm.inn w w.heap.size t sv) (hsz : t.size ≤ 1000000) :
    CallsIn F n Try.prog 37 #[.agg #[.int .i64 t.kind, .string t.name, .int .i64 t.n, sv]] w fun e w' => e = .returned (.int .i64 t.size) ∧ Below w.heap.size w w' := by
  obtain ⟨_, g, cap, rfl, hcap, hlen, _⟩ := Tm.inn_iff.1 hin
  have h1 : 1 ≤ n := by omega
  have HIN := Lib.hid hin
  clear hin
  refine callsIn_of_wp_marks Try.func37 rfl (hF _) ?_ hro
  simp only [Try.ntmps37, List.size_toArray, List.length_cons, List.length_nil, Nat.reduceAdd, Nat.reduceSub, Array.replicate_succ, Array.replicate_zero, List.push_toArray, List.append_toArray, List.nil_append, List.cons_append]
  gi_wp2_with fail
  refine (inside_in F (n - 1) (hF _) hro _ _ _ _ _ _ _).mono ?_
  rintro e w' ⟨rfl, rfl⟩
  gi_wp2_with fail
  have bN := (Boxed.new (w.alloc (.cells #[.int .i64 t.kind, .string t.name, .int .i64 t.n, .slice g t.args.length cap] 27)) 3 (.int .i64 0)).alloc (.cells #[.int .i64 t.kind, .string t.name, .int .i64 t.n, .slice g t.args.length cap] 27)
  have bT := World.alloc_heap_new ((w.alloc (.cells #[.int .i64 t.kind, .string t.name, .int .i64 t.n, .slice g t.args.length cap] 27)).alloc (.cells #[.int .i64 0] 3)) (.cells #[.int .i64 t.kind, .string t.name, .int .i64 t.n, .slice g t.args.length cap] 27)
  have hB0 : Below w.heap.size w (((w.alloc (.cells #[.int .i64 t.kind, .string t.name, .int .i64 t.n, .slice g t.args.length cap] 27)).alloc (.cells #[.int .i64 0] 3)).alloc (.cells #[.int .i64 t.kind, .string t.name, .int .i64 t.n, .slice g t.args.length cap] 27)) := (((Below.refl _ w).alloc (Nat.le_refl _) _).alloc (by simp) _).alloc (by simp; omega) _
  have hsz0 : (((w.alloc (.cells #[.int .i64 t.kind, .string t.name, .int .i64 t.n, .slice g t.args.length cap] 27)).alloc (.cells #[.int .i64 0] 3)).alloc (.cells #[.int .i64 t.kind, .string t.name, .int .i64 t.n, .slice g t.args.length cap] 27)).heap.size = w.heap.size + 3 := by simp
  simp only [World.size_alloc] at bN bT
  obtain ⟨W0, hW0⟩ : ∃ W0, (((w.alloc (.cells #[.int .i64 t.kind, .string t.name, .int .i64 t.n, .slice g t.args.length cap] 27)).alloc (.cells #[.int .i64 0] 3)).alloc (.cells #[.int .i64 t.kind, .string t.name, .int .i64 t.n, .slice g t.args.length cap] 27)) = W0 := ⟨_, rfl⟩
  rw [hW0] at bN bT hB0 hsz0 ⊢
  clear hW0
  have hin0 := Tm.inn_below HIN.out hB0 (Nat.le_refl _)
  refine wpIn_rangeFunc_ownG hro h1 (gf := 65) (lb := #[.pointer (some ⟨w.heap.size + 1 + 1, 0, none⟩)]) rfl (hF _) (enters_of Try.func65 (by kernel_rfl) rfl)
    (inside_stops F hd (n - 1) (hF _) (hF _) hro (w.heap.size + 1 + 1) w.heap.size t g cap W0 (by omega) bT hin0 hsz) Keep.trans (keep_putObj (by omega)) (Below.refl _ _) (fun _ => rfl)
    (fun pre W => Boxed W (w.heap.size + 1) 3 (.int .i64 pre.length) ∧ Below w.heap.size w W)
    (fun _ _ _ => False)
    (OwnFrom.and (Own.from (boxed_own _ _ _) _) (ownFrom_below (Nat.le_refl _) (by omega)))
    (fun _ _ _ _ _ hs _ _ => hs)
    ⟨bN, hB0⟩
    (fun x => { tmps := #[.agg #[.int .i64 t.kind, .string t.name, .int .i64 t.n, .slice g t.args.length cap], .pointer (some ⟨w.heap.size, 0, none⟩), .int .i64 0, .pointer (some ⟨w.heap.size + 1, 0, none⟩),
      .agg #[.int .i64 t.kind, .string t.name, .int .i64 t.n, .slice g t.args.length cap], .func (.func 65) #[] #[.pointer (some ⟨w.heap.size + 1 + 1, 0, none⟩)],
      .agg #[.int .i64 x.key.k, .string x.key.s, .int .i64 x.key.n, .slice x.g x.key.m x.cap], .int .i64 x.key.d, undef, undef, undef], defers := [] }) ?assign ?body ?done ?stop
  case assign =>
    intro l x W K hK
    simp only [El.encs]
    gi_wp2
    rw [zip2]
    exact hK
  case body =>
    rintro l pre x W ⟨bx, hb⟩ hlen
    have hc := bx.cell
    have hf := bx.frozen
    have BX := Lib.hid bx
    clear bx
    gi_wp2
    refine ⟨(KeepsOthers.setCell _ _ _).from _, ⟨by simp [World.setCell], fun k hk => Below.heap_setCell _ _ _ _ (by simp; omega), fun k cs fr hk => ?_⟩, ?_, hb.setCell (p := ⟨w.heap.size + 1, 0, none⟩) (by simp) _⟩
    · refine (Below.heap_setCell _ _ _ _ (fun e => ?_)).trans hk
      simp only at e
      subst e
      have := BX.out
      unfold Boxed at this
      rw [this] at hk
      simp at hk
    · have := BX.out.set (.int .i64 ((pre.length : Int) + 1))
      simpa using this
  case done =>
    rintro D ys W hD hS ⟨bx, hb⟩ hK
    have hc := bx.cell
    have hlen2 : ys.length = t.size := by rw [← nodes_length t 1, ← hS]; simp
    gi_wp2
    refine ⟨by simp, .inl ⟨_, _, rfl, run_takeDeferred hK, ?_⟩⟩
    refine ⟨_, results_tmp rfl _ _ _, rfl, hb.trans (belowK_b (w := w) (Nat.le_refl _) W D _ _ (by omega) hK rfl rfl)⟩
  case stop =>
    rintro D c pre W hD _ h _
    exact h.elim
end Go.Proofs.Ytomdccejgmhfoaa
