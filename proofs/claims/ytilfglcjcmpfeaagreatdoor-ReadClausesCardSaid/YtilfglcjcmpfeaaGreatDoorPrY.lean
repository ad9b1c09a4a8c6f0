/-
  The next token, between two clauses.
-/
import Derived.Test.YtilfglcjcmpfeaaGreatDoorPrM
namespace Go.Proofs.YtilfglcjcmpfeaaGreatDoor
open Go.RowKit

set_option maxRecDepth 100000 in
set_option maxHeartbeats 2000000 in
theorem aheadz_any {X : Nat → Prop} (W : World) (rb z : Nat) (ts : Toks) (n : Nat) (h : PRz X W rb z ts) (hn : n ≤ 1) :
    Calls Tryz.prog 16 #[.pointer (some ⟨rb, 0, none⟩), .int .i64 (n : Nat)] W fun e W' => e = .returned (tkV (tkAt z ts n)) ∧ Below W.heap.size W W' := by
  obtain ⟨tv, nv, mv, d, q, hblk, ⟨ht, g, m, c, rfl, hmc, hc⟩, -⟩ := h.cells
  obtain ⟨⟨c0, c1, c2, c3, c4, c5, c6⟩, f0, f1, f2, f3, f4, f5, f6⟩ := row7 hblk
  have hlt := h.lt
  obtain ⟨g', cap', e', -⟩ := id ht
  injection e' with e1 e2 e3
  subst e1 e2 e3
  by_cases hlen : n < ts.length
  · obtain ⟨b, off, cap, e1, hb, x0, x1, x2, x3, x4⟩ := toksP_at ht n hlen
    injection e1 with e1 _ e3
    subst e1 e3
    have hx : tkAt z ts n = ts[n] := by simp [tkAt, List.getElem?_eq_getElem hlen]
    obtain ⟨x, hx'⟩ : ∃ x, ts[n] = x := ⟨_, rfl⟩
    rw [hx, hx']
    rw [hx'] at x0 x1 x2 x3 x4
    have hbl : b < W.heap.size := hb.2
    have j0 : (0 : Int) ≤ (n : Int) := by omega
    have j1 : (n : Int) < (ts.length : Int) := by omega
    have jw : IntKind.i64.wrap (n : Int) = (n : Int) := by rw [IntKind.wrap_i64]; omega
    clear h hblk ht hb hx hx' f0 f1 f2 f3 f4 f5 f6 c2 c3 c4 c5 c6
    go_enter Tryz.func16, Tryz.ntmps16
    go_wp2_with fail
    have hb := (Below.refl W.heap.size W).alloc (Nat.le_refl _) (.cells #[.int .i64 (x.1.kind : Nat), .string ⟨x.1.text.toArray⟩, .int .i64 (x.1.n : Nat), .int .i64 (x.2 : Nat), .bool x.1.opn] 65)
    have hnw := newBlk W (.cells #[.int .i64 (x.1.kind : Nat), .string ⟨x.1.text.toArray⟩, .int .i64 (x.1.n : Nat), .int .i64 (x.2 : Nat), .bool x.1.opn] 65) W.heap.size rfl
    obtain ⟨V, hV⟩ : ∃ V, W.alloc (.cells #[.int .i64 (x.1.kind : Nat), .string ⟨x.1.text.toArray⟩, .int .i64 (x.1.n : Nat), .int .i64 (x.2 : Nat), .bool x.1.opn] 65) = V := ⟨_, rfl⟩
    rw [hV] at hb hnw ⊢
    obtain ⟨⟨z0, z1, z2, z3, z4⟩, -⟩ := row5t hnw
    clear hV hnw
    refine bodyPost_ret (v := tkV x) (by simp [results, Tryz.results16, go_sem, z0, z1, z2, z3, z4, tkV]) rfl ?_
    exact ⟨rfl, hb⟩
  · have hx : tkAt z ts n = (⟨0, [], 0, false⟩, z) := by simp [tkAt, List.getElem?_eq_none (by omega : ts.length ≤ n)]
    rw [hx]
    have j1 : ((n : Int) < (ts.length : Int)) = False := by simp only [eq_iff_iff, iff_false]; omega
    clear h hblk ht hx f0 f1 f2 f3 f4 f5 f6 c2 c3 c4 c5 c6
    go_enter Tryz.func16, Tryz.ntmps16
    go_wp2_with fail
    have hb := (Below.refl W.heap.size W).alloc (Nat.le_refl _) (.cells #[.int .i64 0, .string ⟨#[]⟩, .int .i64 0, .int .i64 (z : Nat), .bool false] 65)
    have hnw := newBlk W (.cells #[.int .i64 0, .string ⟨#[]⟩, .int .i64 0, .int .i64 (z : Nat), .bool false] 65) W.heap.size rfl
    obtain ⟨V, hV⟩ : ∃ V, W.alloc (.cells #[.int .i64 0, .string ⟨#[]⟩, .int .i64 0, .int .i64 (z : Nat), .bool false] 65) = V := ⟨_, rfl⟩
    rw [hV] at hb hnw ⊢
    obtain ⟨⟨z0, z1, z2, z3, z4⟩, -⟩ := row5t hnw
    clear hV hnw
    refine bodyPost_ret (v := tkV (⟨0, [], 0, false⟩, z)) (by simp [results, Tryz.results16, go_sem, z0, z1, z2, z3, z4, tkV]) rfl ?_
    exact ⟨rfl, hb⟩
theorem aheadz0 {X : Nat → Prop} (W : World) (rb z : Nat) (ts : Toks) (x : Tk × Nat) (hx : tkAt z ts 0 = x) (h : PRz X W rb z ts) :
    Calls Tryz.prog 16 #[.pointer (some ⟨rb, 0, none⟩), .int .i64 0] W fun e W' => e = .returned (.agg #[.int .i64 (x.1.kind : Nat), .string ⟨x.1.text.toArray⟩, .int .i64 (x.1.n : Nat), .int .i64 (x.2 : Nat), .bool x.1.opn]) ∧ Below W.heap.size W W' := by
  subst hx
  exact aheadz_any W rb z ts 0 h (by omega)
end Go.Proofs.YtilfglcjcmpfeaaGreatDoor
