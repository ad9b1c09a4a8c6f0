/-
  Terms in boxes of their own, rows of one and of two terms, in memory; whether two terms are alike, by the program's Same.
  Two terms in boxes of their own, the first ones behind a world.
-/
import Derived.Test.YtilfglcjcmpfeaaGreatDoorNumber
import Derived.Test.YtilfglcjcmpfeaaGreatDoorTermB
namespace Go.Proofs.YtilfglcjcmpfeaaGreatDoor
open Go.RowKit

def kZ : Tm := .mk 0 ⟨#[]⟩ 0 []
theorem kZ_right : kZ.right = false := by kernel_rfl
theorem kZ_size : kZ.size = 1 := by kernel_rfl
theorem inn_leaf {w : World} {B : Nat} {n : Int} (hn : (Lit.int .i64 n).wf = true) : Tm.inn w B (.mk 1 ⟨#[]⟩ n []) (.slice none 0 0) :=
  Tm.inn_mk.2 ⟨⟨by decide, Nat.zero_le _, hn⟩, none, 0, rfl, Nat.le_refl _, Nat.zero_le _, .inl rfl⟩
/-- One term in a row of its own. -/
theorem one_slice1 {W : World} {t : Tm} {sv : Value} {b : Nat} (hb : W.heap[b]? = some (Obj.cells #[.int .i64 t.kind, .string t.name, .int .i64 t.n, sv] 33 (0, 0))) (ht : Tm.inn W W.heap.size t sv) : Tm.sliceIn W W.heap.size [t] (.slice (some ⟨b, 0, none⟩) 1 1) := by
  refine ⟨_, 1, rfl, Nat.le_refl _, by simp, .inr ⟨b, 0, rfl, (Array.getElem?_eq_some_iff.1 hb).1, ?_⟩⟩
  simp only [Tm.rowIn]
  refine ⟨⟨sv, ?_, ?_, ?_, ?_, ht⟩, trivial⟩ <;> simp [World.cell?, hb]
theorem some_sizes {l : List Tm} (h : Tm.someB l = true) : Tm.sizes l ≤ 4000 := by
  simp only [Tm.someB, Bool.and_eq_true, decide_eq_true_eq] at h
  have := Tm.fews_says l (fun t _ m d => Tm.few_says t m d) _ _ h.1
  omega
theorem one_sub {W : World} {b off c : Nat} {t : Tm} {sv : Value} (h0 : W.cell? ⟨b, off, none⟩ = some (.int .i64 t.kind)) (h1 : W.cell? ⟨b, off + 1, none⟩ = some (.string t.name)) (h2 : W.cell? ⟨b, off + 2, none⟩ = some (.int .i64 t.n)) (h3 : W.cell? ⟨b, off + 3, none⟩ = some sv)
    (ht : Tm.inn W W.heap.size t sv) (hc : 1 ≤ c) : Tm.sliceIn W W.heap.size [t] (.slice (some ⟨b, off, none⟩) 1 c) := by
  refine ⟨_, c, rfl, hc, by simp, .inr ⟨b, off, rfl, World.block_lt_of_cell? _ _ h0, ?_⟩⟩
  simp only [Tm.rowIn]
  exact ⟨⟨sv, h0, h1, h2, h3, ht⟩, trivial⟩
theorem two_slice {W : World} {a b : Tm} {sva svb : Value} {n : Nat} (hb : W.heap[n]? = some (Obj.cells #[.int .i64 a.kind, .string a.name, .int .i64 a.n, sva, .int .i64 b.kind, .string b.name, .int .i64 b.n, svb] 33 (0, 0)))
    (ha : Tm.inn W W.heap.size a sva) (hb' : Tm.inn W W.heap.size b svb) : Tm.sliceIn W W.heap.size [a, b] (.slice (some ⟨n, 0, none⟩) 2 2) := by
  refine ⟨_, 2, rfl, Nat.le_refl _, by simp, .inr ⟨n, 0, rfl, (Array.getElem?_eq_some_iff.1 hb).1, ?_⟩⟩
  simp only [Tm.rowIn]
  refine ⟨⟨sva, ?_, ?_, ?_, ?_, ha⟩, ⟨svb, ?_, ?_, ?_, ?_, hb'⟩, trivial⟩ <;> simp [World.cell?, hb]
/-- A term in a box of its own. -/
def TmBox (W : World) (B : Nat) (t : Tm) (sv : Value) : Prop := W.heap[B]? = some (Obj.cells #[.int .i64 t.kind, .string t.name, .int .i64 t.n, sv] 33 (0, 0)) ∧ Tm.inn W W.heap.size t sv
theorem TmBox.next {W W' : World} {B : Nat} {t : Tm} {sv : Value} (h : TmBox W B t sv) (hb : Below W.heap.size W W') : TmBox W' B t sv :=
  ⟨(hb.block _ (Array.getElem?_eq_some_iff.1 h.1).1).trans h.1, Tm.inn_mono (Tm.inn_below h.2 hb (Nat.le_refl _)) hb.size⟩
theorem TmBox.alloc {W : World} {B : Nat} {t : Tm} {sv : Value} (h : TmBox W B t sv) (o : Obj) : TmBox (W.alloc o) B t sv := h.next ((Below.refl _ _).alloc (Nat.le_refl _) _)
theorem TmBox.lt {W : World} {B : Nat} {t : Tm} {sv : Value} (h : TmBox W B t sv) : B < W.heap.size := (Array.getElem?_eq_some_iff.1 h.1).1
theorem TmBox.cells {W : World} {B : Nat} {t : Tm} {sv : Value} (h : TmBox W B t sv) : W.cell? ⟨B, 0, none⟩ = some (.int .i64 t.kind) ∧ W.cell? ⟨B, 1, none⟩ = some (.string t.name) ∧ W.cell? ⟨B, 2, none⟩ = some (.int .i64 t.n) ∧ W.cell? ⟨B, 3, none⟩ = some sv := (row4 h.1).1
/-- A term that a call returned, in a new box. -/
theorem TmBox.new {W : World} {t : Tm} {sv : Value} (h : Tm.inn W W.heap.size t sv) : TmBox (W.alloc (Obj.cells #[.int .i64 t.kind, .string t.name, .int .i64 t.n, sv] 33 (0, 0))) W.heap.size t sv :=
  ⟨newBlk _ _ _ rfl, Tm.inn_mono (Tm.inn_below h ((Below.refl _ _).alloc (Nat.le_refl _) _) (Nat.le_refl _)) (by simp)⟩
/-- A term at any place. -/
structure TmAt (W : World) (b o : Nat) (t : Tm) (sv : Value) : Prop where
  c0 : W.cell? ⟨b, o, none⟩ = some (.int .i64 t.kind)
  c1 : W.cell? ⟨b, o + 1, none⟩ = some (.string t.name)
  c2 : W.cell? ⟨b, o + 2, none⟩ = some (.int .i64 t.n)
  c3 : W.cell? ⟨b, o + 3, none⟩ = some sv
  inn : Tm.inn W W.heap.size t sv
theorem TmAt.lt {W : World} {b o : Nat} {t : Tm} {sv : Value} (h : TmAt W b o t sv) : b < W.heap.size := World.block_lt_of_cell? _ _ h.c0
theorem TmAt.next {W W' : World} {b o : Nat} {t : Tm} {sv : Value} (h : TmAt W b o t sv) (hb : Below W.heap.size W W') : TmAt W' b o t sv :=
  ⟨(hb.cell (p := ⟨b, o, none⟩) h.lt).trans h.c0, (hb.cell (p := ⟨b, o + 1, none⟩) h.lt).trans h.c1, (hb.cell (p := ⟨b, o + 2, none⟩) h.lt).trans h.c2, (hb.cell (p := ⟨b, o + 3, none⟩) h.lt).trans h.c3, Tm.inn_mono (Tm.inn_below h.inn hb (Nat.le_refl _)) hb.size⟩
theorem TmAt.of {W : World} {l : List Tm} {g : Option Addr} {n c : Nat} (h : Tm.sliceIn W W.heap.size l (.slice g n c)) (i : Nat) (hi : i < l.length) : ∃ b o sv, g = some ⟨b, o, none⟩ ∧ TmAt W b (o + i * 4) l[i] sv := by
  obtain ⟨b, off, sv, e, _, g0, g1, g2, g3, hin⟩ := Tm.sliceIn_get h i hi
  exact ⟨b, off, sv, e, g0, g1, g2, g3, hin⟩
theorem TmBox.at {W : World} {B : Nat} {t : Tm} {sv : Value} (h : TmBox W B t sv) : TmAt W B 0 t sv := by
  obtain ⟨h0, h1, h2, h3⟩ := h.cells
  exact ⟨h0, h1, h2, h3, h.2⟩
theorem ret_pair {j k : IntKind} {a a' b b' : Int} (h : a = a') (h' : b = b') : Ending.returned (.tuple #[.int j a, .int k b]) = .returned (.tuple #[.int j a', .int k b']) := by rw [h, h']
theorem below_drewN {B : Nat} {a w : World} (h : Below B a w) (n : Nat) : Below B a (w.drewN n) := ⟨h.os, h.tape, h.output, h.size, h.block⟩
end Go.Proofs.YtilfglcjcmpfeaaGreatDoor

namespace Go.Proofs.YtilfglcjcmpfeaaGreatDoor
open Go.RowKit

/-- What lies in memory while the statement is asked: the two terms in their boxes. -/
structure TSt (w : World) (a b : Tm) (sva svb : Value) (W : World) : Prop where
  ka : W.heap[w.heap.size]? = some (Obj.cells #[.int .i64 a.kind, .string a.name, .int .i64 a.n, sva] 33 (0, 0))
  kb : W.heap[w.heap.size + 1]? = some (Obj.cells #[.int .i64 b.kind, .string b.name, .int .i64 b.n, svb] 33 (0, 0))
  ia : Tm.inn W W.heap.size a sva
  ib : Tm.inn W W.heap.size b svb
  below : Below w.heap.size w W
theorem TSt.next {w : World} {a b : Tm} {sva svb : Value} {W W' : World} (h : TSt w a b sva svb W) (hb : Below W.heap.size W W') : TSt w a b sva svb W' where
  ka := (hb.block _ (Array.getElem?_eq_some_iff.1 h.ka).1).trans h.ka
  kb := (hb.block _ (Array.getElem?_eq_some_iff.1 h.kb).1).trans h.kb
  ia := Tm.inn_mono (Tm.inn_below h.ia hb (Nat.le_refl _)) hb.size
  ib := Tm.inn_mono (Tm.inn_below h.ib hb (Nat.le_refl _)) hb.size
  below := h.below.trans (hb.mono h.below.size)
/-- .. said of the cells. -/
theorem TSt.cells {w : World} {a b : Tm} {sva svb : Value} {W : World} (h : TSt w a b sva svb W) :
    W.cell? ⟨w.heap.size, 0, none⟩ = some (.int .i64 a.kind) ∧ W.cell? ⟨w.heap.size, 1, none⟩ = some (.string a.name) ∧ W.cell? ⟨w.heap.size, 2, none⟩ = some (.int .i64 a.n) ∧ W.cell? ⟨w.heap.size, 3, none⟩ = some sva ∧
    W.cell? ⟨w.heap.size + 1, 0, none⟩ = some (.int .i64 b.kind) ∧ W.cell? ⟨w.heap.size + 1, 1, none⟩ = some (.string b.name) ∧ W.cell? ⟨w.heap.size + 1, 2, none⟩ = some (.int .i64 b.n) ∧ W.cell? ⟨w.heap.size + 1, 3, none⟩ = some svb ∧ TSt w a b sva svb W := by
  obtain ⟨⟨a0, a1, a2, a3⟩, _⟩ := row4 h.ka
  obtain ⟨⟨b0, b1, b2, b3⟩, _⟩ := row4 h.kb
  exact ⟨a0, a1, a2, a3, b0, b1, b2, b3, h⟩
theorem TSt.step {w : World} {a b : Tm} {sva svb : Value} {W W' : World} {p1 p2 p3 p4 p5 p6 p7 p8 : Prop} (hb : Below W.heap.size W W') (h : p1 ∧ p2 ∧ p3 ∧ p4 ∧ p5 ∧ p6 ∧ p7 ∧ p8 ∧ TSt w a b sva svb W) :
    W'.cell? ⟨w.heap.size, 0, none⟩ = some (.int .i64 a.kind) ∧ W'.cell? ⟨w.heap.size, 1, none⟩ = some (.string a.name) ∧ W'.cell? ⟨w.heap.size, 2, none⟩ = some (.int .i64 a.n) ∧ W'.cell? ⟨w.heap.size, 3, none⟩ = some sva ∧
    W'.cell? ⟨w.heap.size + 1, 0, none⟩ = some (.int .i64 b.kind) ∧ W'.cell? ⟨w.heap.size + 1, 1, none⟩ = some (.string b.name) ∧ W'.cell? ⟨w.heap.size + 1, 2, none⟩ = some (.int .i64 b.n) ∧ W'.cell? ⟨w.heap.size + 1, 3, none⟩ = some svb ∧ TSt w a b sva svb W' := (h.2.2.2.2.2.2.2.2.next hb).cells
theorem TSt.a' {w : World} {a b : Tm} {sva svb : Value} {W : World} {p1 p2 p3 p4 p5 p6 p7 p8 : Prop} (h : p1 ∧ p2 ∧ p3 ∧ p4 ∧ p5 ∧ p6 ∧ p7 ∧ p8 ∧ TSt w a b sva svb W) : Tm.inn W W.heap.size a sva := h.2.2.2.2.2.2.2.2.ia
theorem TSt.b' {w : World} {a b : Tm} {sva svb : Value} {W : World} {p1 p2 p3 p4 p5 p6 p7 p8 : Prop} (h : p1 ∧ p2 ∧ p3 ∧ p4 ∧ p5 ∧ p6 ∧ p7 ∧ p8 ∧ TSt w a b sva svb W) : Tm.inn W W.heap.size b svb := h.2.2.2.2.2.2.2.2.ib
/-- The start: both terms are put into boxes. -/
theorem TSt.start {w : World} {a b : Tm} {sva svb : Value} (ha : Tm.inn w w.heap.size a sva) (hb : Tm.inn w w.heap.size b svb) :
    TSt w a b sva svb ((w.alloc (Obj.cells #[.int .i64 a.kind, .string a.name, .int .i64 a.n, sva] 33 (0, 0))).alloc (Obj.cells #[.int .i64 b.kind, .string b.name, .int .i64 b.n, svb] 33 (0, 0))) := by
  have hB0 : Below w.heap.size w ((w.alloc (Obj.cells #[.int .i64 a.kind, .string a.name, .int .i64 a.n, sva] 33 (0, 0))).alloc (Obj.cells #[.int .i64 b.kind, .string b.name, .int .i64 b.n, svb] 33 (0, 0))) := ((Below.refl _ w).alloc (Nat.le_refl _) _).alloc (by simp) _
  refine ⟨?_, ?_, Tm.inn_mono (Tm.inn_below ha hB0 (Nat.le_refl _)) hB0.size, Tm.inn_mono (Tm.inn_below hb hB0 (Nat.le_refl _)) hB0.size, hB0⟩
  · rw [Below.heap_alloc _ _ _ (by simp)]; exact newBlk _ _ _ rfl
  · exact newBlk _ _ _ (by simp)
theorem TSt.size {w : World} {a b : Tm} {sva svb : Value} {W : World} (h : TSt w a b sva svb W) : w.heap.size + 1 < W.heap.size := (Array.getElem?_eq_some_iff.1 h.kb).1
end Go.Proofs.YtilfglcjcmpfeaaGreatDoor
