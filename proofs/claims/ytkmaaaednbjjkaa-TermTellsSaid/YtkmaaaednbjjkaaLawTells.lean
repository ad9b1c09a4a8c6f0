/-
  The statement TermTells, walked: for any two terms that lie in memory the call returns true, and nothing that was there has turned.
-/
import Derived.Test.YtkmaaaednbjjkaaKnows
import Derived.Test.YtkmaaaednbjjkaaRefB
import Derived.Test.YtkmaaaednbjjkaaRefE
import Derived.Deep.RegionHeld3
namespace Go.Proofs.Ytkmaaaednbjjkaa
open Go.RowKit

/-- What lies in memory while the statement is asked: the two terms in their boxes. -/
structure TSt (w : World) (a b : Tm) (sva svb : Value) (W : World) : Prop where
  ka : W.heap[w.heap.size]? = some (Obj.cells #[.int .i64 a.kind, .string a.name, .int .i64 a.n, sva] 24 (0, 0))
  kb : W.heap[w.heap.size + 1]? = some (Obj.cells #[.int .i64 b.kind, .string b.name, .int .i64 b.n, svb] 24 (0, 0))
  ia : Tm.inn W W.heap.size a sva
  ib : Tm.inn W W.heap.size b svb
  below : Below w.heap.size w W
theorem TSt.next {w : World} {a b : Tm} {sva svb : Value} {W W' : World} (h : TSt w a b sva svb W) (hb : Below W.heap.size W W') : TSt w a b sva svb W' where
  ka := (hb.block _ (Array.getElem?_eq_some_iff.1 h.ka).1).trans h.ka
  kb := (hb.block _ (Array.getElem?_eq_some_iff.1 h.kb).1).trans h.kb
  ia := Tm.inn_mono (Tm.inn_below h.ia hb (Nat.le_refl _)) hb.size
  ib := Tm.inn_mono (Tm.inn_below h.ib hb (Nat.le_refl _)) hb.size
  below := h.below.trans (hb.mono h.below.size)
/-- .. said of the cells. -/
theorem TSt.cells {w : World} {a b : Tm} {sva svb : Value} {W : World} (h : TSt w a b sva svb W) :
    W.cell? ⟨w.heap.size, 0, none⟩ = some (.int .i64 a.kind) ∧ W.cell? ⟨w.heap.size, 1, none⟩ = some (.string a.name) ∧ W.cell? ⟨w.heap.size, 2, none⟩ = some (.int .i64 a.n) ∧ W.cell? ⟨w.heap.size, 3, none⟩ = some sva ∧
    W.cell? ⟨w.heap.size + 1, 0, none⟩ = some (.int .i64 b.kind) ∧ W.cell? ⟨w.heap.size + 1, 1, none⟩ = some (.string b.name) ∧ W.cell? ⟨w.heap.size + 1, 2, none⟩ = some (.int .i64 b.n) ∧ W.cell? ⟨w.heap.size + 1, 3, none⟩ = some svb ∧ TSt w a b sva svb W := by
  obtain ⟨⟨a0, a1, a2, a3⟩, _⟩ := row4 h.ka
  obtain ⟨⟨b0, b1, b2, b3⟩, _⟩ := row4 h.kb
  exact ⟨a0, a1, a2, a3, b0, b1, b2, b3, h⟩
theorem TSt.step {w : World} {a b : Tm} {sva svb : Value} {W W' : World} {p1 p2 p3 p4 p5 p6 p7 p8 : Prop} (hb : Below W.heap.size W W') (h : p1 ∧ p2 ∧ p3 ∧ p4 ∧ p5 ∧ p6 ∧ p7 ∧ p8 ∧ TSt w a b sva svb W) :
    W'.cell? ⟨w.heap.size, 0, none⟩ = some (.int .i64 a.kind) ∧ W'.cell? ⟨w.heap.size, 1, none⟩ = some (.string a.name) ∧ W'.cell? ⟨w.heap.size, 2, none⟩ = some (.int .i64 a.n) ∧ W'.cell? ⟨w.heap.size, 3, none⟩ = some sva ∧
    W'.cell? ⟨w.heap.size + 1, 0, none⟩ = some (.int .i64 b.kind) ∧ W'.cell? ⟨w.heap.size + 1, 1, none⟩ = some (.string b.name) ∧ W'.cell? ⟨w.heap.size + 1, 2, none⟩ = some (.int .i64 b.n) ∧ W'.cell? ⟨w.heap.size + 1, 3, none⟩ = some svb ∧ TSt w a b sva svb W' := (h.2.2.2.2.2.2.2.2.next hb).cells
theorem TSt.a' {w : World} {a b : Tm} {sva svb : Value} {W : World} {p1 p2 p3 p4 p5 p6 p7 p8 : Prop} (h : p1 ∧ p2 ∧ p3 ∧ p4 ∧ p5 ∧ p6 ∧ p7 ∧ p8 ∧ TSt w a b sva svb W) : Tm.inn W W.heap.size a sva := h.2.2.2.2.2.2.2.2.ia
theorem TSt.b' {w : World} {a b : Tm} {sva svb : Value} {W : World} {p1 p2 p3 p4 p5 p6 p7 p8 : Prop} (h : p1 ∧ p2 ∧ p3 ∧ p4 ∧ p5 ∧ p6 ∧ p7 ∧ p8 ∧ TSt w a b sva svb W) : Tm.inn W W.heap.size b svb := h.2.2.2.2.2.2.2.2.ib

theorem two_slice {W : World} {a b : Tm} {sva svb : Value} {n : Nat} (hb : W.heap[n]? = some (Obj.cells #[.int .i64 a.kind, .string a.name, .int .i64 a.n, sva, .int .i64 b.kind, .string b.name, .int .i64 b.n, svb] 24 (0, 0)))
    (ha : Tm.inn W W.heap.size a sva) (hb' : Tm.inn W W.heap.size b svb) : Tm.sliceIn W W.heap.size [a, b] (.slice (some ⟨n, 0, none⟩) 2 2) := by
  refine ⟨_, 2, rfl, Nat.le_refl _, by simp, .inr ⟨n, 0, rfl, (Array.getElem?_eq_some_iff.1 hb).1, ?_⟩⟩
  simp only [Tm.rowIn]
  refine ⟨⟨sva, ?_, ?_, ?_, ?_, ha⟩, ⟨svb, ?_, ?_, ?_, ?_, hb'⟩, trivial⟩ <;> simp [World.cell?, hb]

theorem tsame_ab (a b : Tm) (w : World) (sv sv' : Value) (h : Tm.inn w w.heap.size a sv) (h' : Tm.inn w w.heap.size b sv') :
    Calls Try.prog 13 #[.agg #[.int .i64 a.kind, .string a.name, .int .i64 a.n, sv], .agg #[.int .i64 b.kind, .string b.name, .int .i64 b.n, sv']] w
      fun e w' => e = .returned (.bool (a.same b)) ∧ Below w.heap.size w w' := tsame_any a b w w.heap.size sv sv' (Nat.le_refl _) h h'
theorem tsame_self (a : Tm) (w : World) (sv : Value) (h : Tm.inn w w.heap.size a sv) :
    Calls Try.prog 13 #[.agg #[.int .i64 a.kind, .string a.name, .int .i64 a.n, sv], .agg #[.int .i64 a.kind, .string a.name, .int .i64 a.n, sv]] w
      fun e w' => e = .returned (.bool true) ∧ Below w.heap.size w w' := by
  have := tsame_any a a w w.heap.size sv sv (Nat.le_refl _) h h
  rwa [(Tm.same_iff a a).2 rfl] at this

set_option maxRecDepth 100000 in
set_option maxHeartbeats 8000000 in
theorem tells_any (a b : Tm) (w : World) (sva svb : Value) (hia : Tm.inn w w.heap.size a sva) (hib : Tm.inn w w.heap.size b svb) :
    Calls Try.prog 3 #[.agg #[.int .i64 a.kind, .string a.name, .int .i64 a.n, sva], .agg #[.int .i64 b.kind, .string b.name, .int .i64 b.n, svb]] w fun e w' => e = .returned (.bool true) ∧ Below w.heap.size w w' := by
  obtain ⟨_, ga, ca, rfl, _, _, _⟩ := Tm.inn_iff.1 hia
  obtain ⟨_, gb, cb, rfl, _, _, _⟩ := Tm.inn_iff.1 hib
  have HIA := Lib.hid hia
  have HIB := Lib.hid hib
  clear hia hib
  go_enter Try.func3, Try.ntmps3
  go_wp2_with fail
  obtain ⟨a0, ha0⟩ : ∃ o, Obj.cells #[.int .i64 a.kind, .string a.name, .int .i64 a.n, .slice ga a.args.length ca] 24 (0, 0) = o := ⟨_, rfl⟩
  obtain ⟨b0, hb0⟩ : ∃ o, Obj.cells #[.int .i64 b.kind, .string b.name, .int .i64 b.n, .slice gb b.args.length cb] 24 (0, 0) = o := ⟨_, rfl⟩
  obtain ⟨c0, hc0⟩ : ∃ o, Obj.cells #[.int .i64 a.kind, .string a.name, .int .i64 a.n, .slice ga a.args.length ca, .int .i64 b.kind, .string b.name, .int .i64 b.n, .slice gb b.args.length cb] 24 (0, 0) = o := ⟨_, rfl⟩
  rw [ha0, hb0, hc0]
  have hB0 : Below w.heap.size w (((w.alloc a0).alloc b0).alloc c0) := (((Below.refl _ w).alloc (Nat.le_refl _) _).alloc (by simp) _).alloc (by simp; omega) _
  have hst : TSt w a b (.slice ga a.args.length ca) (.slice gb b.args.length cb) (((w.alloc a0).alloc b0).alloc c0) := by
    refine ⟨?_, ?_, Tm.inn_mono (Tm.inn_below HIA.out hB0 (Nat.le_refl _)) hB0.size, Tm.inn_mono (Tm.inn_below HIB.out hB0 (Nat.le_refl _)) hB0.size, hB0⟩
    · rw [Below.heap_alloc _ _ _ (by simp; omega), Below.heap_alloc _ _ _ (by simp), ha0]; exact newBlk _ _ _ rfl
    · rw [Below.heap_alloc _ _ _ (by simp), hb0]; exact newBlk _ _ _ (by simp)
  have hsl := two_slice (W := ((w.alloc a0).alloc b0).alloc c0) (n := w.heap.size + 1 + 1) (by rw [hc0]; exact newBlk _ _ _ (by simp)) hst.ia hst.ib
  obtain ⟨W0, hW0⟩ : ∃ W0, ((w.alloc a0).alloc b0).alloc c0 = W0 := ⟨_, rfl⟩
  rw [hW0] at hst hsl ⊢
  clear hW0 hB0
  subst ha0 hb0 hc0
  refine (some_any [a, b] W0 _ _ (Nat.le_refl _) hsl).mono ?_
  rintro e W1 ⟨rfl, hb1⟩
  have hst1 := hst.next hb1
  clear hst hsl hb1
  cases hs : Tm.someB [a, b] with
  | false =>
    clear hs
    go_wp2_with fail
    refine (knows_any W1).mono ?_
    rintro e W2 ⟨rfl, hb2⟩
    go_wp2_with fail
    go_ret
    exact ⟨rfl, (hst1.next hb2).below⟩
  | true =>
    have hsa : a.size ≤ 1000000 := Nat.le_trans (Tm.some_size hs (by simp)) (by omega)
    have hsb : b.size ≤ 1000000 := Nat.le_trans (Tm.some_size hs (by simp)) (by omega)
    clear hs HIA HIB
    go_wp2_with fail
    go_region_held3 (fun W' => W'.cell? ⟨w.heap.size, 0, none⟩ = some (.int .i64 a.kind) ∧ W'.cell? ⟨w.heap.size, 1, none⟩ = some (.string a.name) ∧ W'.cell? ⟨w.heap.size, 2, none⟩ = some (.int .i64 a.n) ∧ W'.cell? ⟨w.heap.size, 3, none⟩ = some (.slice ga a.args.length ca) ∧
      W'.cell? ⟨w.heap.size + 1, 0, none⟩ = some (.int .i64 b.kind) ∧ W'.cell? ⟨w.heap.size + 1, 1, none⟩ = some (.string b.name) ∧ W'.cell? ⟨w.heap.size + 1, 2, none⟩ = some (.int .i64 b.n) ∧ W'.cell? ⟨w.heap.size + 1, 3, none⟩ = some (.slice gb b.args.length cb) ∧ TSt w a b (.slice ga a.args.length ca) (.slice gb b.args.length cb) W')
      (first | exact (hst1.next ((Below.refl _ _).drew)).cells | exact TSt.step (by assumption) (by assumption))
      (first
        | (go_at_call 9; refine (tright_any a _ _ (TSt.a' (w := w) (b := b) (svb := .slice gb b.args.length cb) (by assumption)) hsa).mono ?_; rintro e w' ⟨rfl, hb⟩)
        | (go_at_call 10; refine (rright_any a _ _ _ (Nat.le_refl _) (TSt.a' (w := w) (b := b) (svb := .slice gb b.args.length cb) (by assumption)) hsa).mono ?_; rintro e w' ⟨rfl, hb⟩)
        | (go_at_call 12; refine (rsize_any a _ _ _ (Nat.le_refl _) (TSt.a' (w := w) (b := b) (svb := .slice gb b.args.length cb) (by assumption)) hsa).mono ?_; rintro e w' ⟨rfl, hb⟩)
        | (go_at_call 11; refine (callsIn_wide.1 (tsize_in Fence.wide rfl (fun _ => trivial) rfl 9 (by omega) a _ _ (TSt.a' (w := w) (b := b) (svb := .slice gb b.args.length cb) (by assumption)) hsa)).mono ?_; rintro e w' ⟨rfl, hb⟩)
        | (go_at_call 8; refine (knows_any _).mono ?_; rintro e w' ⟨rfl, hb⟩)
        | (go_at_call 14; refine (rsame_any a b _ _ _ _ (Nat.le_refl _) (TSt.a' (w := w) (b := b) (svb := .slice gb b.args.length cb) (by assumption)) (TSt.b' (w := w) (a := a) (sva := .slice ga a.args.length ca) (by assumption))).mono ?_; rintro e w' ⟨rfl, hb⟩)
        | (go_at_call 13; ((with_reducible refine (tsame_ab a b _ _ _ (TSt.a' (w := w) (b := b) (svb := .slice gb b.args.length cb) (by assumption)) (TSt.b' (w := w) (a := a) (sva := .slice ga a.args.length ca) (by assumption))).mono ?_); rintro e w' ⟨rfl, hb⟩))
        | (go_at_call 13; ((with_reducible refine (tsame_self a _ _ (TSt.a' (w := w) (b := b) (svb := .slice gb b.args.length cb) (by assumption))).mono ?_); rintro e w' ⟨rfl, hb⟩)))
    go_wp2_with fail
    go_ret
    rename_i hst
    exact ⟨rfl, hst.2.2.2.2.2.2.2.2.below⟩
end Go.Proofs.Ytkmaaaednbjjkaa
