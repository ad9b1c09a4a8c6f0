/-
  A clause at its place in memory; a program in a box of the call's own; how many terms a program has.
  Clauses of a program in memory, in blocks that a predicate names; rows of clauses of a call's own.
  The program's checker: goals in a row; is a clause valid?
  Is a clause valid?
  The predicates of a program, as a map in memory.
-/
import Derived.Test.YtkjnjahmlobjiaaGreatDoorG02
import Derived.Test.YtkjnjahmlobjiaaGreatDoorG11
import Derived.Test.YtkjnjahmlobjiaaGreatDoorG09
import Derived.Test.YtkjnjahmlobjiaaGreatDoorPbD
import Derived.Test.YtkjnjahmlobjiaaGreatDoorG28
import Derived.Maps.OwnSet
import Derived.Maps.Own
import Derived.DeepKeys4
import Derived.Tactics2
namespace Go.Proofs.YtkjnjahmlobjiaaGreatDoor
open Go.RowKit

/-- A clause at its place. -/
structure PA6 (W : World) (b p : Nat) (c : Pc) (sv v : Value) : Prop where
  c0 : W.cell? ⟨b, p, none⟩ = some (.int .i64 c.h.kind)
  c1 : W.cell? ⟨b, p + 1, none⟩ = some (.string c.h.name)
  c2 : W.cell? ⟨b, p + 2, none⟩ = some (.int .i64 c.h.n)
  c3 : W.cell? ⟨b, p + 3, none⟩ = some sv
  c4 : W.cell? ⟨b, p + 4, none⟩ = some v
  c5 : W.cell? ⟨b, p + 5, none⟩ = some (.int .i64 c.n)
  hi : Pc.inn W W.heap.size c sv v
theorem PA6.lt {W : World} {b p : Nat} {c : Pc} {sv v : Value} (h : PA6 W b p c sv v) : b < W.heap.size := World.block_lt_of_cell? _ _ h.c0
theorem Pc.inn_next {W W' : World} {c : Pc} {sv v : Value} (h : Pc.inn W W.heap.size c sv v) (hb : Below W.heap.size W W') : Pc.inn W' W'.heap.size c sv v :=
  Pc.inn_same hb.size (fun bk o u hlt hc => by rw [hb.cell (p := ⟨bk, o, none⟩) hlt]; exact hc) h
theorem PA6.next {W W' : World} {b p : Nat} {c : Pc} {sv v : Value} (h : PA6 W b p c sv v) (hb : Below W.heap.size W W') : PA6 W' b p c sv v :=
  ⟨(hb.cell (p := ⟨b, p, none⟩) h.lt).trans h.c0, (hb.cell (p := ⟨b, p + 1, none⟩) h.lt).trans h.c1, (hb.cell (p := ⟨b, p + 2, none⟩) h.lt).trans h.c2, (hb.cell (p := ⟨b, p + 3, none⟩) h.lt).trans h.c3, (hb.cell (p := ⟨b, p + 4, none⟩) h.lt).trans h.c4, (hb.cell (p := ⟨b, p + 5, none⟩) h.lt).trans h.c5, Pc.inn_next h.hi hb⟩
theorem PA6.of {W : World} {l : List Pc} {u : Value} (h : Pc.sliceIn W W.heap.size l u) (i : Nat) (hi : i < l.length) : ∃ b o cap sv v, u = .slice (some ⟨b, o, none⟩) l.length cap ∧ PA6 W b (o + i * 6) l[i] sv v := by
  obtain ⟨bk, off, cap, sv, v, e, _, g0, g1, g2, g3, g4, g5, hin⟩ := Pc.sliceIn_get h i hi
  exact ⟨bk, off, cap, sv, v, e, g0, g1, g2, g3, g4, g5, hin⟩
/-- A program in a box of the call's own. -/
structure DPg (w0 : World) (p : List Pc) (u : Value) (bx : Nat) (W : World) : Prop where
  low : Below w0.heap.size w0 W
  bk : W.heap[bx]? = some (.cells #[u] 24 (0, 0))
  hp : Pc.sliceIn W W.heap.size p u
section
variable {w0 : World} {p : List Pc} {u : Value} {bx : Nat} {W : World} (h : DPg w0 p u bx W)
include h
theorem DPg.lt : bx < W.heap.size := (Array.getElem?_eq_some_iff.1 h.bk).1
theorem DPg.cell0 : W.cell? ⟨bx, 0, none⟩ = some u := by simp [World.cell?, h.bk]
theorem DPg.next {W' : World} (hb : Below W.heap.size W W') : DPg w0 p u bx W' :=
  ⟨h.low.trans (hb.mono h.low.size), (hb.block _ h.lt).trans h.bk, Pc.sliceIn_next h.hp hb⟩
end
theorem DPg.new {p : List Pc} {u : Value} {w : World} (hp : Pc.sliceIn w w.heap.size p u) : DPg w p u w.heap.size (w.alloc (.cells #[u] 24)) := by
  have hb := (Below.refl w.heap.size w).alloc (Nat.le_refl _) (.cells #[u] 24)
  exact ⟨hb, heap_alloc_new w _, Pc.sliceIn_next hp hb⟩
/-- How many terms a clause has, its head's twice. -/
def Pc.wt (c : Pc) : Nat := 2 * c.h.size + Gl.sizes c.b
def Pc.wts : List Pc → Nat
  | [] => 0
  | c :: r => c.wt + wts r
theorem Pc.wts_snoc (l : List Pc) (k : Nat) (h : k < l.length) : Pc.wts (l.take (k + 1)) = Pc.wts (l.take k) + l[k].wt := by
  rw [List.take_succ_eq_append_getElem h]
  generalize l.take k = x
  induction x with
  | nil => simp [Pc.wts]
  | cons g r ih => simp only [List.cons_append, Pc.wts, ih]; omega
theorem Pc.wt_le {l : List Pc} {c : Pc} (h : c ∈ l) : c.wt ≤ Pc.wts l := by
  induction l with
  | nil => cases h
  | cons u r ih =>
    simp only [Pc.wts]
    rcases List.mem_cons.1 h with rfl | h
    · omega
    · have := ih h; omega
end Go.Proofs.YtkjnjahmlobjiaaGreatDoor

namespace Go.Proofs.YtkjnjahmlobjiaaGreatDoor
open Go.RowKit

namespace Pc
def innP (w : World) (ok : Nat → Prop) (c : Pc) (sv v : Value) : Prop := (Lit.int .i64 c.n).wf = true ∧ Tm.innP w ok c.h sv ∧ Gl.sliceP w ok c.b v
theorem innP_same {w w' : World} {ok ok' : Nat → Prop} (hB : ∀ b, ok b → ok' b) (hc : ∀ b o v, ok b → w.cell? ⟨b, o, none⟩ = some v → w'.cell? ⟨b, o, none⟩ = some v) {c : Pc} {sv v : Value} (h : innP w ok c sv v) : innP w' ok' c sv v :=
  ⟨h.1, Tm.innP_same hB hc _ _ h.2.1, Gl.sliceP_same (fun g _ => Gl.innP_same hB hc g) hB hc h.2.2⟩
theorem inn_of_P {w : World} {ok : Nat → Prop} {B : Nat} (hB : ∀ b, ok b → b < B) {c : Pc} {sv v : Value} (h : innP w ok c sv v) : inn w B c sv v :=
  ⟨h.1, Tm.inn_of_P hB _ _ h.2.1, Gl.sliceIn_of_P hB h.2.2⟩
/-- The cells of a row of clauses. -/
def cellsP (w : World) (ok : Nat → Prop) : List Pc → List Value → Prop
  | [], xs => xs = []
  | c :: r, xs => ∃ sv v ys, xs = .int .i64 c.h.kind :: .string c.h.name :: .int .i64 c.h.n :: sv :: v :: .int .i64 c.n :: ys ∧ innP w ok c sv v ∧ cellsP w ok r ys
theorem cellsP_same {w w' : World} {ok ok' : Nat → Prop} (hB : ∀ b, ok b → ok' b) (hc : ∀ b o v, ok b → w.cell? ⟨b, o, none⟩ = some v → w'.cell? ⟨b, o, none⟩ = some v) : ∀ (l : List Pc) (xs : List Value), cellsP w ok l xs → cellsP w' ok' l xs
  | [], _, h => h
  | _ :: r, _, ⟨sv, v, ys, h1, h2, h3⟩ => ⟨sv, v, ys, h1, innP_same hB hc h2, cellsP_same hB hc r ys h3⟩
theorem cellsP_length {w : World} {ok : Nat → Prop} : ∀ (l : List Pc) (xs : List Value), cellsP w ok l xs → xs.length = l.length * 6
  | [], _, h => by simp only [cellsP] at h; subst h; rfl
  | _ :: r, _, ⟨sv, v, ys, h1, _, h3⟩ => by
    have := cellsP_length r ys h3
    rw [h1]
    simp only [List.length_cons, this]
    omega
theorem innP_one {w : World} {ok : Nat → Prop} {c : Pc} {sv v : Value} (h : innP w ok c sv v) : ∃ g m k g' m' k', sv = .slice g m k ∧ v = .slice g' m' k' := by
  obtain ⟨_, h1, g', k', rfl, _⟩ := h
  obtain ⟨_, g, k, rfl, _⟩ := Tm.innP_iff.1 h1
  exact ⟨g, _, k, g', _, k', rfl, rfl⟩
theorem cellsP_snoc {w : World} {ok : Nat → Prop} {c : Pc} {sv v : Value} (hc : innP w ok c sv v) : ∀ (l : List Pc) (xs : List Value), cellsP w ok l xs → cellsP w ok (l ++ [c]) (xs ++ [.int .i64 c.h.kind, .string c.h.name, .int .i64 c.h.n, sv, v, .int .i64 c.n])
  | [], _, h => by simp only [cellsP] at h; subst h; exact ⟨sv, v, [], rfl, hc, rfl⟩
  | _ :: r, _, ⟨s, u, ys, h1, h2, h3⟩ => ⟨s, u, _, by rw [h1]; rfl, h2, cellsP_snoc hc r ys h3⟩
theorem cellsP_get {w : World} {ok : Nat → Prop} : ∀ {l : List Pc} {xs : List Value}, cellsP w ok l xs → ∀ (i : Nat) (h : i < l.length), ∃ sv v, xs[i * 6]? = some (.int .i64 l[i].h.kind) ∧ xs[i * 6 + 1]? = some (.string l[i].h.name) ∧ xs[i * 6 + 2]? = some (.int .i64 l[i].h.n) ∧ xs[i * 6 + 3]? = some sv ∧ xs[i * 6 + 4]? = some v ∧ xs[i * 6 + 5]? = some (.int .i64 l[i].n) ∧ innP w ok l[i] sv v
  | [], _, _, i, h => absurd h (Nat.not_lt_zero _)
  | c :: r, _, ⟨sv, v, ys, h1, h2, h3⟩, 0, _ => ⟨sv, v, by subst h1; exact ⟨rfl, rfl, rfl, rfl, rfl, rfl, h2⟩⟩
  | c :: r, _, ⟨sv, v, ys, h1, h2, h3⟩, i + 1, h => by
    obtain ⟨s, u, e0, e1, e2, e3, e4, e5, e6⟩ := cellsP_get h3 i (by simpa using h)
    subst h1
    have sk : ∀ k, (.int .i64 c.h.kind :: .string c.h.name :: .int .i64 c.h.n :: sv :: v :: .int .i64 c.n :: ys : List Value)[(i + 1) * 6 + k]? = ys[i * 6 + k]? := fun k => by
      rw [show (i + 1) * 6 + k = (i * 6 + k) + 6 by omega]
      rfl
    have sk0 := sk 0
    simp only [Nat.add_zero] at sk0
    exact ⟨s, u, sk0.trans e0, (sk 1).trans e1, (sk 2).trans e2, (sk 3).trans e3, (sk 4).trans e4, (sk 5).trans e5, e6⟩
end Pc
/-- Where what is in a row of clauses lies: not in the row, not in the box. -/
def okP (lo px : Nat) (W : World) (v : Value) (b : Nat) : Prop := lo ≤ b ∧ b < W.heap.size ∧ v.ownBlock ≠ some b ∧ b ≠ px
/-- A row of clauses that the call owns, behind a box. -/
structure POwn (W : World) (lo px : Nat) (l : List Pc) (v : Value) : Prop where
  rows : ∃ xs, W.ownsRow (px + 1) 37 6 v l.length xs ∧ Pc.cellsP W (okP lo px W v) l xs
theorem POwn.nil (W : World) (lo px : Nat) : POwn W lo px [] (.slice none 0 0) := ⟨⟨[], World.ownsRow_nil _ _ _ _, rfl⟩⟩
theorem POwn.slice {W : World} {lo px : Nat} {l : List Pc} {v : Value} (h : POwn W lo px l v) : ∃ g c, v = .slice g l.length c := by
  obtain ⟨xs, h1, -⟩ := h.rows
  exact owns_slice h1
theorem POwn.reads {W : World} {lo px : Nat} {l : List Pc} {v : Value} (h : POwn W lo px l v) (hl : l.length ≤ 1000000) : Pc.sliceIn W W.heap.size l v := by
  obtain ⟨xs, h1, h2⟩ := h.rows
  have hm : l.length ≤ Pc.most := by show l.length ≤ 1599289640354; omega
  rcases h1.2 with ⟨rfl, h0⟩ | ⟨g, cap, cur, rfl, h3, h4, h5, _⟩
  · exact ⟨none, 0, by rw [h0], by omega, hm, .inl (List.eq_nil_of_length_eq_zero h0)⟩
  · refine ⟨_, cap, rfl, h5, hm, .inr ⟨g, 0, rfl, (Array.getElem?_eq_some_iff.1 h4).1, fun i hi => ?_⟩⟩
    obtain ⟨sv, u, e0, e1, e2, e3, e4, e5, e6⟩ := Pc.cellsP_get h2 i hi
    have hc : ∀ j u, xs[j]? = some u → W.cell? ⟨g, 0 + j, none⟩ = some u := fun j u hj => by
      have := h1.cells (g := g) rfl j u hj
      simpa [Addr.add_lit] using this
    exact ⟨sv, u, hc _ _ e0, hc _ _ e1, hc _ _ e2, hc _ _ e3, hc _ _ e4, hc _ _ e5, Pc.inn_of_P (fun b hb => hb.2.1) e6⟩
/-- It stays where only the box, or what is lower, is written. -/
theorem POwn.keep {P : Nat → Prop} {W W' : World} {lo px : Nat} {l : List Pc} {v : Value} (h : POwn W lo px l v) (hf : FrP P W W') (hP : ∀ b, P b → b < lo ∨ b = px) (hlp : lo ≤ px + 1) : POwn W' lo px l v := by
  obtain ⟨xs, h1, h2⟩ := h.rows
  refine ⟨⟨xs, ownsRow_block h1 (fun b e => hf.block b (h1.lt b e).2 (fun hp => by have := (h1.lt b e).1; have := hP b hp; omega)), Pc.cellsP_same (fun b hb => ⟨hb.1, Nat.lt_of_lt_of_le hb.2.1 hf.size, hb.2.2⟩) (fun b o u hb hc => hf.cell hc (fun hp => by have := hb.1; have := hb.2.2.2; have := hP b hp; omega)) l xs h2⟩⟩
/-- One clause more. -/
theorem POwn.more {W W' : World} {lo px : Nat} {l : List Pc} {v v' : Value} {c : Pc} {sv u : Value} {xs : List Value} (_h1 : W.ownsRow (px + 1) 37 6 v l.length xs) (h2 : Pc.cellsP W (okP lo px W v) l xs)
    (hg : W.grownBy W' v.ownBlock) (hw : v'.ownBlock = v.ownBlock ∨ v'.ownBlock = some W.heap.size) (ho : W'.ownsRow (px + 1) 37 6 v' (l.length + 1) (xs ++ [.int .i64 c.h.kind, .string c.h.name, .int .i64 c.h.n, sv, u, .int .i64 c.n]))
    (hin : Pc.innP W (okP lo px W v) c sv u) : POwn W' lo px (l ++ [c]) v' := by
  have hB : ∀ b, okP lo px W v b → okP lo px W' v' b := fun b hb => by
    refine ⟨hb.1, Nat.lt_of_lt_of_le hb.2.1 hg.size, fun e => ?_, hb.2.2.2⟩
    rcases hw with hw | hw
    · exact hb.2.2.1 (hw ▸ e)
    · rw [hw] at e
      injection e with e
      have := hb.2.1
      omega
  have hc : ∀ b o x, okP lo px W v b → W.cell? ⟨b, o, none⟩ = some x → W'.cell? ⟨b, o, none⟩ = some x := fun b o x hb hx => hg.cell (a := ⟨b, o, none⟩) hx (fun e => hb.2.2.1 e.symm)
  refine ⟨⟨_, by rw [List.length_append]; exact ho, Pc.cellsP_snoc (Pc.innP_same hB hc hin) l xs (Pc.cellsP_same hB hc l xs h2)⟩⟩
theorem clauseInfo : (Tryz.prog.info? 37).map (fun i => (i.zero, i.size, i.bytes)) = some (some (.agg #[.int .i64 0, .string ⟨#[]⟩, .int .i64 0, .slice none 0 0, .slice none 0 0, .int .i64 0]), 6, 88) := by kernel_rfl
end Go.Proofs.YtkjnjahmlobjiaaGreatDoor

namespace Go.Proofs.YtkjnjahmlobjiaaGreatDoor
open Go.RowKit

/-- A checker, and a row of goals. -/
structure CL (w0 : World) (l : List Gl) (v : Value) (bx B : Nat) (b n : Int) (W : World) : Prop where
  fr : FrP (fun x => x = bx) w0 W
  ck : Ck W bx b n
  le : B ≤ bx
  hs : Gl.sliceIn W B l v
  tb : TabsLo W B
section
variable {w0 : World} {l : List Gl} {v : Value} {bx B : Nat} {b n : Int} {W : World} (h : CL w0 l v bx B b n W)
include h
theorem CL.mv {W' : World} {b' : Int} (hf : FrP (fun x => x = bx) W W') (hk : Ck W' bx b' n) : CL w0 l v bx B b' n W' :=
  ⟨h.fr.trans hf (fun _ _ e => e) (fun _ _ e => e), hk, h.le, Gl.sliceIn_fr h.hs hf (fun x e => by have := h.le; omega), h.tb.mv hf (fun x e => by have := h.le; omega)⟩
theorem CL.quiet {W' : World} (hb : Below W.heap.size W W') : CL w0 l v bx B b n W' := h.mv ((FrP.of_below hb).mono (fun _ _ e => e.elim)) (h.ck.next hb)
end
set_option maxRecDepth 100000 in
set_option maxHeartbeats 16000000 in
theorem ckl_of (l : List Gl) (hl : ∀ g ∈ l, CkG g) : CkL l := by
  intro w v bx B b n ins cut hsl hle hck htb hb0 hb1 hi0 hi1
  obtain ⟨g0, cap, rfl, -, hlm, -⟩ := id hsl
  have hlm2 : l.length ≤ 1034834473200 := hlm
  have HL := Lib.hid hl
  have HS := Lib.hid (show CL w l (.slice g0 l.length cap) bx B b n w from ⟨FrP.refl _ _, hck, hle, hsl, htb⟩)
  obtain ⟨m, hm⟩ : ∃ m, l.length = m := ⟨_, rfl⟩
  rw [hm] at HS hlm2 ⊢
  have HM := Lib.hid hm
  clear hm hl hlm hsl hle hck htb
  go_enter Tryz.func24, Tryz.ntmps24
  go_wp2_with fail
  go_loopw [13] (fun i wr => ∃ (k : Nat), k ≤ m ∧ i = .int .i64 k ∧ Hid (k = 0 ∨ ins ≤ 9) ∧ Hid (0 ≤ cntS (l.take k) n (ins + 1) cut ∧ b + cntS (l.take k) n (ins + 1) cut ≤ 20) ∧ Hid (CL w l (.slice g0 m cap) bx B (b + cntS (l.take k) n (ins + 1) cut) n wr)) (fun i _ => m - (intOf i).toNat)
  case atStart =>
    have e0 : cntS (l.take 0) n (ins + 1) cut = 0 := by rw [List.take_zero, cntS]
    exact ⟨0, Nat.zero_le _, rfl, Lib.hid (.inl rfl), Lib.hid (by rw [e0]; omega), Lib.hid (by rw [e0, Int.add_zero]; exact HS.out)⟩
  case round =>
    obtain ⟨k, hk, rfl, hd, hc, hs⟩ := hrel
    have HD := Lib.hid hd.out
    have HC := Lib.hid hc.out
    have HS := Lib.hid hs.out
    clear hd hc hs
    by_cases hlt : k < m
    · have hlt' : k < l.length := by rw [HM.out]; exact hlt
      have HST := Lib.hid (fun hd h => @okC_stop l n (ins + 1) b cut k hlt' hd HC.out.1 h)
      have HMA := Lib.hid (fun hd h => @okC_many l n (ins + 1) b cut k hlt' hd HC.out.1 h)
      have HDE := Lib.hid (fun hd => @okC_deep l n (ins + 1) b cut k hlt' hd)
      have HTK := Lib.hid (fun h => @cntS_take l n (ins + 1) cut k hlt' HC.out.1 h)
      obtain ⟨bk, off, cap2, sv, av, bv, cv, e9, hbl, g1, g2, g3, g4, g5, g6, g7, g8, hig⟩ := Gl.sliceIn_get HS.out.hs k hlt'
      injection e9 with e91 e90 e92
      subst e91 e92
      clear e90
      have hcl := HL.out _ (List.getElem_mem hlt')
      generalize l[k] = g at g1 g2 g3 g4 g5 g6 g7 g8 hig hcl HST HTK
      generalize cntS (l.take k) n (ins + 1) cut = S at HC HS HST HMA HTK
      obtain ⟨gt, mt, ct, rfl⟩ : ∃ g' m c, sv = .slice g' m c := by
        obtain ⟨_, g', c, e, _⟩ := Tm.inn_iff.1 (Gl.inn_iff.1 hig).2.1
        exact ⟨_, _, _, e⟩
      obtain ⟨ga, ma, ca, rfl⟩ : ∃ g m c, av = .slice g m c := by
        obtain ⟨g, c, e, _⟩ := (Gl.inn_iff.1 hig).2.2.1
        exact ⟨_, _, _, e⟩
      obtain ⟨gb, mb, cb, rfl⟩ : ∃ g m c, bv = .slice g m c := by
        obtain ⟨g, c, e, _⟩ := (Gl.inn_iff.1 hig).2.2.2.1
        exact ⟨_, _, _, e⟩
      obtain ⟨gc, mc, cc, rfl⟩ : ∃ g m c, cv = .slice g m c := by
        obtain ⟨g, c, e, _⟩ := (Gl.inn_iff.1 hig).2.2.2.2
        exact ⟨_, _, _, e⟩
      have HIG := Lib.hid hig
      have HCL := Lib.hid hcl
      have hbl2 : bk < wr.heap.size := Nat.lt_of_lt_of_le hbl (Nat.le_trans HS.out.le (Nat.le_of_lt HS.out.ck.lt))
      clear hcl hig hbl
      have j0 : (0 : Int) ≤ (k : Int) := by omega
      have j1 : (k : Int) < (m : Int) := by omega
      have jz : (0 : Int) + (k : Int) = (k : Int) := by omega
      have jw : IntKind.i64.wrap (k : Int) = (k : Int) := by rw [IntKind.wrap_i64]; omega
      go_upto_region 4 with fail
      obtain ⟨u1, hu1⟩ : ∃ u1, wr.alloc (.cells #[.int .i64 g.kind, .int .i64 g.t.kind, .string g.t.name, .int .i64 g.t.n, .slice gt mt ct, .slice ga ma ca, .slice gb mb cb, .slice gc mc cc] 49) = u1 := ⟨_, rfl⟩
      have hb1 : Below wr.heap.size wr u1 := hu1 ▸ (Below.refl _ wr).alloc (Nat.le_refl _) _
      have hn1 : u1.heap[wr.heap.size]? = some (.cells #[.int .i64 g.kind, .int .i64 g.t.kind, .string g.t.name, .int .i64 g.t.n, .slice gt mt ct, .slice ga ma ca, .slice gb mb cb, .slice gc mc cc] 49 (0, 0)) := hu1 ▸ heap_alloc_new wr _
      rw [hu1]
      have HS1 := Lib.hid (HS.out.quiet hb1)
      have hne : wr.heap.size ≠ bx := by have := HS.out.ck.lt; omega
      have HF12 := Lib.hid (FrP.setC u1 bx 0 (.int .i64 (b + S + 1)))
      have HS2 := Lib.hid (HS1.out.mv HF12.out (HS1.out.ck.set (b + S + 1)))
      have HN2 := Lib.hid ((HF12.out.block _ (Array.getElem?_eq_some_iff.1 hn1).1 hne).trans hn1)
      have HI2 := Lib.hid (Gl.inn_fr (Gl.inn_fr HIG.out (FrP.of_below hb1) (fun _ e => e.elim)) HF12.out (fun x e => by have := HS.out.le; omega))
      have HBG := Lib.hid (pbegin_any u1 bx (b + S) ins HS1.out.ck.cell0 HS1.out.ck.frozen (by have := HC.out.1; omega) (by have := HC.out.2; omega))
      clear hu1 g1 g2 g3 g4 g5 g6 g7 g8 hb1 hn1
      by_cases hins : 9 < ins
      · have HF := Lib.hid (HDE.out (by omega))
        have HBG := Lib.hid (HBG.out.mono fun e w' h => (show e = .returned (.bool false) ∧ w' = u1.setCell ⟨bx, 0, none⟩ (.int .i64 (b + S + 1)) from ⟨by rw [h.1, decide_eq_false (show ¬ ins ≤ 9 by omega), Bool.and_false], h.2⟩))
        clear hins
        go_wp2_with (go_at_call 37; (with_reducible refine (HBG.out).mono ?_); rintro e u2 ⟨rfl, rfl⟩)
        go_ret
        exact ⟨_, by rw [HF.out]; rfl, HS2.out.ck, fun h => by (rw [HF.out] at h; exact absurd h Bool.false_ne_true), HS2.out.fr⟩
      by_cases hmany : 20 < b + S + 1
      · have HF := Lib.hid (HMA.out (by omega) hmany)
        have HBG := Lib.hid (HBG.out.mono fun e w' h => (show e = .returned (.bool false) ∧ w' = u1.setCell ⟨bx, 0, none⟩ (.int .i64 (b + S + 1)) from ⟨by rw [h.1, decide_eq_false (show ¬ b + S + 1 ≤ 20 by omega), Bool.false_and], h.2⟩))
        clear hmany hins
        go_wp2_with (go_at_call 37; (with_reducible refine (HBG.out).mono ?_); rintro e u2 ⟨rfl, rfl⟩)
        go_ret
        exact ⟨_, by rw [HF.out]; rfl, HS2.out.ck, fun h => by (rw [HF.out] at h; exact absurd h Bool.false_ne_true), HS2.out.fr⟩
      have HBG := Lib.hid (HBG.out.mono fun e w' h => (show e = .returned (.bool true) ∧ w' = u1.setCell ⟨bx, 0, none⟩ (.int .i64 (b + S + 1)) from ⟨by rw [h.1, decide_eq_true (show b + S + 1 ≤ 20 by omega), decide_eq_true (show ins ≤ 9 by omega)]; rfl, h.2⟩))
      have HG := Lib.hid (HCL.out (u1.setCell ⟨bx, 0, none⟩ (.int .i64 (b + S + 1))) _ _ _ _ bx B (b + S) n ins cut HI2.out HS2.out.le HS2.out.ck HS2.out.tb (by have := HC.out.1; omega) (by omega) hi0 (by omega))
      have hins9 : ins ≤ 9 := by omega
      have HCB := Lib.hid (show b + S + 1 ≤ 20 by omega)
      clear hmany hins
      generalize u1.setCell ⟨bx, 0, none⟩ (.int .i64 (b + S + 1)) = V at HBG HG HS2 HN2
      generalize cntG g n (ins + 1) cut = G at HG HST HTK
      obtain ⟨q, hq⟩ : ∃ q, okC G (b + S) = q := ⟨_, rfl⟩
      have HG := Lib.hid (by have h9 := HG.out; rw [hq] at h9; exact h9)
      have HQ := Lib.hid hq
      clear hq
      have hnV := HN2.out
      have hlV : wr.heap.size < V.heap.size := (Array.getElem?_eq_some_iff.1 hnV).1
      have y0 : V.cell? ⟨wr.heap.size, 0, none⟩ = some (.int .i64 g.kind) := by simp [World.cell?, hnV]
      have y1 : V.cell? ⟨wr.heap.size, 1, none⟩ = some (.int .i64 g.t.kind) := by simp [World.cell?, hnV]
      have y2 : V.cell? ⟨wr.heap.size, 2, none⟩ = some (.string g.t.name) := by simp [World.cell?, hnV]
      have y3 : V.cell? ⟨wr.heap.size, 3, none⟩ = some (.int .i64 g.t.n) := by simp [World.cell?, hnV]
      have y4 : V.cell? ⟨wr.heap.size, 4, none⟩ = some (.slice gt mt ct) := by simp [World.cell?, hnV]
      have y5 : V.cell? ⟨wr.heap.size, 5, none⟩ = some (.slice ga ma ca) := by simp [World.cell?, hnV]
      have y6 : V.cell? ⟨wr.heap.size, 6, none⟩ = some (.slice gb mb cb) := by simp [World.cell?, hnV]
      have y7 : V.cell? ⟨wr.heap.size, 7, none⟩ = some (.slice gc mc cc) := by simp [World.cell?, hnV]
      clear hnV
      cases q with
      | false =>
        have HF := Lib.hid (HST.out (by omega) HQ.out)
        go_wp2_with (first
          | (go_at_call 37; (with_reducible refine (HBG.out).mono ?_); rintro e u2 ⟨rfl, rfl⟩)
          | (go_at_call 38; (with_reducible refine (HG.out).mono ?_); rintro e u3 ⟨b3, rfl, hk3, -, hf3⟩; have HS3 := Lib.hid (HS2.out.mv hf3 hk3); clear hk3 hf3))
        go_ret
        exact ⟨_, by rw [HF.out]; rfl, HS3.out.ck, fun h => by (rw [HF.out] at h; exact absurd h Bool.false_ne_true), HS3.out.fr⟩
      | true =>
        obtain ⟨hG0, hG1⟩ := okC_true.1 HQ.out
        have HT := Lib.hid (HTK.out hG0)
        go_wp2_with (first
          | (go_at_call 37; (with_reducible refine (HBG.out).mono ?_); rintro e u2 ⟨rfl, rfl⟩)
          | (go_at_call 38; (with_reducible refine (HG.out).mono ?_); rintro e u3 ⟨b3, rfl, hk3, he3, hf3⟩; have HS3 := Lib.hid (HS2.out.mv hf3 hk3); have HE3 := Lib.hid he3; clear hk3 he3 hf3))
        have HSF := Lib.hid (show CL w l (.slice (some ⟨bk, off, none⟩) m cap) bx B (b + cntS (l.take (k + 1)) n (ins + 1) cut) n u3 by
          rw [HT.out]
          have h9 : b3 = b + (S + G) := by have := HE3.out trivial; omega
          rw [← h9]
          exact HS3.out)
        have HCF := Lib.hid (show 0 ≤ cntS (l.take (k + 1)) n (ins + 1) cut ∧ b + cntS (l.take (k + 1)) n (ins + 1) cut ≤ 20 by
          rw [HT.out]
          have := HC.out.1
          omega)
        go_roundw
        case rel => exact ⟨k + 1, by omega, by go_num, Lib.hid (.inr hins9), HCF, HSF⟩
        case measure => simp [intOf]; omega
    · obtain rfl : m = k := by omega
      have HL9 := Lib.hid (show cntL l n (ins + 1) cut = cntS (l.take m) n (ins + 1) cut by
        rw [← HM.out, List.take_length]
        refine cntL_is l n (ins + 1) cut ?_
        rcases HD.out with h | h
        · rw [h] at HM
          exact .inl (List.eq_nil_of_length_eq_zero HM.out)
        · exact .inr (by omega))
      have HF := Lib.hid (show okC (cntL l n (ins + 1) cut) b = true by rw [HL9.out]; exact okC_true.2 HC.out)
      go_wp2_with fail
      go_ret
      exact ⟨_, by rw [HF.out]; rfl, HS.out.ck, fun _ => by rw [HL9.out], HS.out.fr⟩
theorem ckg_any : ∀ g : Gl, g.size ≤ 999999 → CkG g := Gl.ind fun k t a b c ha hb hc hsz => by
  simp only [Gl.size] at hsz
  have key : ∀ l : List Gl, (∀ g ∈ l, g.size ≤ 999999 → CkG g) → Gl.sizes l ≤ 999999 → CkL l := fun l hl h => ckl_of l (fun g hg => hl g hg (Nat.le_trans (Gl.size_le hg) h))
  exact ckg_of (.mk k t a b c) (key a ha (by omega)) (key b hb (by omega)) (key c hc (by omega)) (show t.size ≤ 999999 by omega)
theorem ckl_any (l : List Gl) (hsz : Gl.sizes l ≤ 999999) : CkL l := ckl_of l (fun g hg => ckg_any g (Nat.le_trans (Gl.size_le hg) hsz))
end Go.Proofs.YtkjnjahmlobjiaaGreatDoor

namespace Go.Proofs.YtkjnjahmlobjiaaGreatDoor
open Go.RowKit

/-- A clause in a box of the call's own, and its checker. -/
structure CC (w0 : World) (c : Pc) (sv v : Value) (bx kx : Nat) (b : Int) (W : World) : Prop where
  low : Below w0.heap.size w0 W
  bk : W.heap[bx]? = some (.cells #[.int .i64 c.h.kind, .string c.h.name, .int .i64 c.h.n, sv, v, .int .i64 c.n] 37 (0, 0))
  ck : Ck W kx b c.n
  ne : bx ≠ kx
  le : w0.heap.size ≤ kx
  hi : Pc.inn W w0.heap.size c sv v
  tb : TabsLo W w0.heap.size
section
variable {w0 : World} {c : Pc} {sv v : Value} {bx kx : Nat} {b : Int} {W : World} (h : CC w0 c sv v bx kx b W)
include h
theorem CC.lt : bx < W.heap.size := (Array.getElem?_eq_some_iff.1 h.bk).1
theorem CC.c0 : W.cell? ⟨bx, 0, none⟩ = some (.int .i64 c.h.kind) := by simp [World.cell?, h.bk]
theorem CC.c1 : W.cell? ⟨bx, 1, none⟩ = some (.string c.h.name) := by simp [World.cell?, h.bk]
theorem CC.c2 : W.cell? ⟨bx, 2, none⟩ = some (.int .i64 c.h.n) := by simp [World.cell?, h.bk]
theorem CC.c3 : W.cell? ⟨bx, 3, none⟩ = some sv := by simp [World.cell?, h.bk]
theorem CC.c4 : W.cell? ⟨bx, 4, none⟩ = some v := by simp [World.cell?, h.bk]
theorem CC.c5 : W.cell? ⟨bx, 5, none⟩ = some (.int .i64 c.n) := by simp [World.cell?, h.bk]
theorem CC.mv {W' : World} {b' : Int} (hf : FrP (fun x => x = kx) W W') (hk : Ck W' kx b' c.n) : CC w0 c sv v bx kx b' W' := by
  have hle := h.le
  have hb : Below w0.heap.size W W' := (hf.mono (fun x _ e => by show w0.heap.size ≤ x; omega)).to_below h.low.size
  exact ⟨h.low.trans hb, (hf.block _ h.lt h.ne).trans h.bk, hk, h.ne, h.le, Pc.inn_same (Nat.le_refl _) (fr_cell hf (fun x e => by omega)) h.hi, h.tb.mv hf (fun x e => by omega)⟩
theorem CC.quiet {W' : World} (hb : Below W.heap.size W W') : CC w0 c sv v bx kx b W' := h.mv ((FrP.of_below hb).mono (fun _ _ e => e.elim)) (h.ck.next hb)
theorem CC.it : Tm.inn W W.heap.size c.h sv := Tm.inn_mono h.hi.2.1 h.low.size
end
theorem CC.new {w : World} {c : Pc} {sv v : Value} (hi : Pc.inn w w.heap.size c sv v) (ht : Tabs w) :
    CC w c sv v w.heap.size (w.heap.size + 1) 0 ((w.alloc (.cells #[.int .i64 c.h.kind, .string c.h.name, .int .i64 c.h.n, sv, v, .int .i64 c.n] 37)).alloc (.cells #[.int .i64 0, .int .i64 c.n] 58)) := by
  obtain ⟨w1, hw1⟩ : ∃ w1, w.alloc (.cells #[.int .i64 c.h.kind, .string c.h.name, .int .i64 c.h.n, sv, v, .int .i64 c.n] 37) = w1 := ⟨_, rfl⟩
  have hb1 : Below w.heap.size w w1 := hw1 ▸ (Below.refl _ w).alloc (Nat.le_refl _) _
  have hz1 : w1.heap.size = w.heap.size + 1 := hw1 ▸ by simp
  have hn1 : w1.heap[w.heap.size]? = some (.cells #[.int .i64 c.h.kind, .string c.h.name, .int .i64 c.h.n, sv, v, .int .i64 c.n] 37 (0, 0)) := hw1 ▸ heap_alloc_new w _
  rw [hw1, ← hz1]
  have hb2 := (Below.refl w1.heap.size w1).alloc (Nat.le_refl _) (.cells #[.int .i64 0, .int .i64 c.n] 58)
  have hb : Below w.heap.size w _ := hb1.trans (hb2.mono hb1.size)
  have hf : FrP (fun _ => False) w _ := FrP.of_below hb
  exact ⟨hb, (hb2.block _ (by omega)).trans hn1, ⟨heap_alloc_new w1 _⟩, by omega, by omega, Pc.inn_same (Nat.le_refl _) (fr_cell hf (fun x e => e.elim)) hi, (TabsLo.of ht (Nat.le_refl _)).mv hf (fun x e => e.elim)⟩
set_option maxRecDepth 100000 in
set_option maxHeartbeats 16000000 in
theorem pclause_any (c : Pc) (w : World) (sv v : Value) (hin : Pc.inn w w.heap.size c sv v) (ht : Tabs w) (hsh : c.h.size ≤ 999999) (hsz : Gl.sizes c.b ≤ 999999) :
    Calls Tryz.prog 10 #[.agg #[.int .i64 c.h.kind, .string c.h.name, .int .i64 c.h.n, sv, v, .int .i64 c.n]] w fun e w' => e = .returned (.bool (clauseB c)) ∧ Below w.heap.size w w' := by
  obtain ⟨_, gh, ch, rfl, _⟩ := Tm.inn_iff.1 hin.2.1
  obtain ⟨gl, cl, rfl, _⟩ := id hin.2.2
  have HX := Lib.hid (show clauseB c = (decide (0 ≤ c.n) && (decide (c.n ≤ 1000) && (ownB c.h && (varsB c.h c.n && okC (cntL c.b c.n 1 true) 0)))) by
    unfold clauseB okC
    rw [Int.zero_add]
    cases decide (0 ≤ c.n) <;> cases decide (c.n ≤ 1000) <;> cases varsB c.h c.n <;> cases ownB c.h <;> rfl)
  have HS := Lib.hid (CC.new hin ht)
  have HPM := Lib.hid (fun (b9 : Int) W (h : CC w c (.slice gh c.h.args.length ch) (.slice gl c.b.length cl) w.heap.size (w.heap.size + 1) b9 W) => pperm_any c.h W _ h.it h.tb.tabs)
  have HPV := Lib.hid (fun (b9 : Int) W (h : CC w c (.slice gh c.h.args.length ch) (.slice gl c.b.length cl) w.heap.size (w.heap.size + 1) b9 W) => pterm_ck c.h W _ (w.heap.size + 1) b9 c.n h.it h.ck hsh)
  have HG := Lib.hid (fun W (h : CC w c (.slice gh c.h.args.length ch) (.slice gl c.b.length cl) w.heap.size (w.heap.size + 1) 0 W) => ckl_any c.b hsz W _ (w.heap.size + 1) w.heap.size 0 c.n 0 true h.hi.2.2 h.le h.ck h.tb (by omega) (by omega) (by omega) (by omega))
  clear hin ht
  obtain ⟨mh, hmh⟩ : ∃ m, c.h.args.length = m := ⟨_, rfl⟩
  obtain ⟨m, hm⟩ : ∃ m, c.b.length = m := ⟨_, rfl⟩
  rw [hmh, hm] at HS HPM HPV HG
  rw [hmh, hm]
  clear hmh hm
  generalize ownB c.h = xo at HPM HX
  generalize varsB c.h c.n = xv at HPV HX
  obtain ⟨xg, hxg⟩ : ∃ x, okC (cntL c.b c.n 1 true) 0 = x := ⟨_, rfl⟩
  have HG := Lib.hid (fun W h => by have h9 := HG.out W h; rw [Int.zero_add, hxg] at h9; exact h9)
  rw [hxg] at HX
  clear hxg
  go_enter Tryz.func10, Tryz.ntmps10
  go_upto_region 2 with fail
  have HS0 := Lib.hid (show CC w c (.slice gh mh ch) (.slice gl m cl) w.heap.size (w.heap.size + 1) 0 ((w.alloc (.cells #[.int .i64 c.h.kind, .string c.h.name, .int .i64 c.h.n, .slice gh mh ch, .slice gl m cl, .int .i64 c.n] 37)).alloc (.cells #[.int .i64 0, .int .i64 c.n] 58)) from HS.out)
  generalize (w.alloc (.cells #[.int .i64 c.h.kind, .string c.h.name, .int .i64 c.h.n, .slice gh mh ch, .slice gl m cl, .int .i64 c.n] 37)).alloc (.cells #[.int .i64 0, .int .i64 c.n] 58) = u0 at HS0 ⊢
  clear HS
  have x0 : u0.cell? ⟨w.heap.size, 0, none⟩ = some (.int .i64 c.h.kind) := HS0.out.c0; have x1 : u0.cell? ⟨w.heap.size, 1, none⟩ = some (.string c.h.name) := HS0.out.c1; have x2 : u0.cell? ⟨w.heap.size, 2, none⟩ = some (.int .i64 c.h.n) := HS0.out.c2; have x3 : u0.cell? ⟨w.heap.size, 3, none⟩ = some (.slice gh mh ch) := HS0.out.c3; have x4 : u0.cell? ⟨w.heap.size, 4, none⟩ = some (.slice gl m cl) := HS0.out.c4; have x5 : u0.cell? ⟨w.heap.size, 5, none⟩ = some (.int .i64 c.n) := HS0.out.c5; have xl := HS0.out.lt; have xk := HS0.out.ck.lt
  by_cases h0 : 0 ≤ c.n
  case neg =>
    have k0 : (0 ≤ c.n) = False := by simp only [eq_iff_iff, iff_false]; exact h0
    have HF := Lib.hid (show clauseB c = false by rw [HX.out, decide_eq_false h0]; rfl)
    clear h0
    go_wp2_with fail
    go_ret
    exact ⟨by rw [HF.out]; rfl, HS0.out.low⟩
  by_cases h1 : c.n ≤ 1000
  case neg =>
    have k1 : (c.n ≤ 1000) = False := by simp only [eq_iff_iff, iff_false]; exact h1
    have HF := Lib.hid (show clauseB c = false by rw [HX.out, decide_eq_false h1, Bool.false_and, Bool.and_false])
    clear h1
    go_wp2_with fail
    go_ret
    exact ⟨by rw [HF.out]; rfl, HS0.out.low⟩
  have HX := Lib.hid (show clauseB c = (xo && (xv && xg)) by rw [HX.out, decide_eq_true h0, decide_eq_true h1]; rfl)
  cases xo with
  | false =>
    have HF := Lib.hid (show clauseB c = false by rw [HX.out]; rfl)
    go_wp2_with (go_at_call 22; (with_reducible refine (HPM.out _ _ HS0.out).mono ?_); rintro e u1 ⟨rfl, hb⟩; have HS1 := Lib.hid (HS0.out.quiet hb); clear hb; have y10 : u1.cell? ⟨w.heap.size, 0, none⟩ = some (.int .i64 c.h.kind) := HS1.out.c0; have y11 : u1.cell? ⟨w.heap.size, 1, none⟩ = some (.string c.h.name) := HS1.out.c1; have y12 : u1.cell? ⟨w.heap.size, 2, none⟩ = some (.int .i64 c.h.n) := HS1.out.c2; have y13 : u1.cell? ⟨w.heap.size, 3, none⟩ = some (.slice gh mh ch) := HS1.out.c3; have y14 : u1.cell? ⟨w.heap.size, 4, none⟩ = some (.slice gl m cl) := HS1.out.c4; have y15 : u1.cell? ⟨w.heap.size, 5, none⟩ = some (.int .i64 c.n) := HS1.out.c5; have y1l := HS1.out.lt; have y1k := HS1.out.ck.lt)
    go_ret
    exact ⟨by rw [HF.out]; rfl, HS1.out.low⟩
  | true =>
  cases xv with
  | false =>
    have HF := Lib.hid (show clauseB c = false by rw [HX.out]; rfl)
    go_wp2_with (first | (go_at_call 22; (with_reducible refine (HPM.out _ _ HS0.out).mono ?_); rintro e u1 ⟨rfl, hb⟩; have HS1 := Lib.hid (HS0.out.quiet hb); clear hb; have y10 : u1.cell? ⟨w.heap.size, 0, none⟩ = some (.int .i64 c.h.kind) := HS1.out.c0; have y11 : u1.cell? ⟨w.heap.size, 1, none⟩ = some (.string c.h.name) := HS1.out.c1; have y12 : u1.cell? ⟨w.heap.size, 2, none⟩ = some (.int .i64 c.h.n) := HS1.out.c2; have y13 : u1.cell? ⟨w.heap.size, 3, none⟩ = some (.slice gh mh ch) := HS1.out.c3; have y14 : u1.cell? ⟨w.heap.size, 4, none⟩ = some (.slice gl m cl) := HS1.out.c4; have y15 : u1.cell? ⟨w.heap.size, 5, none⟩ = some (.int .i64 c.n) := HS1.out.c5; have y1l := HS1.out.lt; have y1k := HS1.out.ck.lt) | (go_at_call 23; (with_reducible refine (HPV.out _ _ HS1.out).mono ?_); rintro e u2 ⟨rfl, hb⟩; have HS2 := Lib.hid (HS1.out.quiet hb); clear hb; have y20 : u2.cell? ⟨w.heap.size, 0, none⟩ = some (.int .i64 c.h.kind) := HS2.out.c0; have y21 : u2.cell? ⟨w.heap.size, 1, none⟩ = some (.string c.h.name) := HS2.out.c1; have y22 : u2.cell? ⟨w.heap.size, 2, none⟩ = some (.int .i64 c.h.n) := HS2.out.c2; have y23 : u2.cell? ⟨w.heap.size, 3, none⟩ = some (.slice gh mh ch) := HS2.out.c3; have y24 : u2.cell? ⟨w.heap.size, 4, none⟩ = some (.slice gl m cl) := HS2.out.c4; have y25 : u2.cell? ⟨w.heap.size, 5, none⟩ = some (.int .i64 c.n) := HS2.out.c5; have y2l := HS2.out.lt; have y2k := HS2.out.ck.lt))
    go_ret
    exact ⟨by rw [HF.out]; rfl, HS2.out.low⟩
  | true =>
  have HF := Lib.hid (show clauseB c = xg by rw [HX.out]; rfl)
  go_wp2_with (first | (go_at_call 22; (with_reducible refine (HPM.out _ _ HS0.out).mono ?_); rintro e u1 ⟨rfl, hb⟩; have HS1 := Lib.hid (HS0.out.quiet hb); clear hb; have y10 : u1.cell? ⟨w.heap.size, 0, none⟩ = some (.int .i64 c.h.kind) := HS1.out.c0; have y11 : u1.cell? ⟨w.heap.size, 1, none⟩ = some (.string c.h.name) := HS1.out.c1; have y12 : u1.cell? ⟨w.heap.size, 2, none⟩ = some (.int .i64 c.h.n) := HS1.out.c2; have y13 : u1.cell? ⟨w.heap.size, 3, none⟩ = some (.slice gh mh ch) := HS1.out.c3; have y14 : u1.cell? ⟨w.heap.size, 4, none⟩ = some (.slice gl m cl) := HS1.out.c4; have y15 : u1.cell? ⟨w.heap.size, 5, none⟩ = some (.int .i64 c.n) := HS1.out.c5; have y1l := HS1.out.lt; have y1k := HS1.out.ck.lt) | (go_at_call 23; (with_reducible refine (HPV.out _ _ HS1.out).mono ?_); rintro e u2 ⟨rfl, hb⟩; have HS2 := Lib.hid (HS1.out.quiet hb); clear hb; have y20 : u2.cell? ⟨w.heap.size, 0, none⟩ = some (.int .i64 c.h.kind) := HS2.out.c0; have y21 : u2.cell? ⟨w.heap.size, 1, none⟩ = some (.string c.h.name) := HS2.out.c1; have y22 : u2.cell? ⟨w.heap.size, 2, none⟩ = some (.int .i64 c.h.n) := HS2.out.c2; have y23 : u2.cell? ⟨w.heap.size, 3, none⟩ = some (.slice gh mh ch) := HS2.out.c3; have y24 : u2.cell? ⟨w.heap.size, 4, none⟩ = some (.slice gl m cl) := HS2.out.c4; have y25 : u2.cell? ⟨w.heap.size, 5, none⟩ = some (.int .i64 c.n) := HS2.out.c5; have y2l := HS2.out.lt; have y2k := HS2.out.ck.lt) | (go_at_call 24; (with_reducible refine (HG.out _ HS2.out).mono ?_); rintro e u3 ⟨b3, rfl, hk3, -, hf3⟩; have HS3 := Lib.hid (HS2.out.mv hf3 hk3); clear hk3 hf3))
  go_ret
  exact ⟨by rw [HF.out]; rfl, HS3.out.low⟩
end Go.Proofs.YtkjnjahmlobjiaaGreatDoor

namespace Go.Proofs.YtkjnjahmlobjiaaGreatDoor
open Go.RowKit

theorem Tryz.laidOutP : laidOutB Tryz.prog = true := by kernel_rfl
theorem pkeyLaw : WideMaps.KeyLaw Tryz.prog 75 := deep_law_laid Tryz.laidOutP (m := 3) (by omega) (of_decide_eq_true (by kernel_rfl)) (by kernel_rfl) (by kernel_rfl)
theorem pkeyed : Maps.Keyed Tryz.prog 75 := Maps.Keyed.of_law pkeyLaw
/-- A predicate as a value. -/
def pV (s : ByteArray) (n : Nat) : Value := .agg #[.string s, .int .i64 (n : Nat)]
set_option maxRecDepth 100000 in
theorem pkey_mk (s : ByteArray) (n : Nat) (hs : s.size ≤ maxLen) (hn : n ≤ 9000000000000000000) : ∃ kl, keyOf Tryz.prog 75 (pV s n) = some kl := by
  have hi : IntKind.i64.min ≤ (n : Int) ∧ (n : Int) ≤ 9223372036854775807 := ⟨by show (-9223372036854775808 : Int) ≤ n; omega, by omega⟩
  have hw : (Lit.int .i64 (n : Int)).wf = true := by simpa [Lit.wf] using hi
  have hk : Tryz.prog.keyType 75 = true := by kernel_rfl
  have hc : Tryz.prog.cellsOf 75 = 2 := by kernel_rfl
  have hc1 : Tryz.prog.cellsOf 9 = 1 := by kernel_rfl
  have hc2 : Tryz.prog.cellsOf 3 = 1 := by kernel_rfl
  have hf : Value.formed Tryz.prog 75 (pV s n) = true := by simp [Value.formed, Tryz.underlying75, pV, hc]
  obtain ⟨m, hm⟩ : ∃ m, Tryz.prog.types.size + 1 = m + 2 := ⟨Tryz.prog.types.size - 1, by have h9 : 1 ≤ Tryz.prog.types.size := of_decide_eq_true (by kernel_rfl); omega⟩
  unfold keyOf
  rw [Tryz.underlying75]
  simp only []
  rw [if_pos (by rw [hk, hf]; rfl), hm]
  simp only [Program.keyLits, Tryz.underlying75, hc, pV, Value.cells]
  simp [hc1, hc2, Tryz.underlying9, Tryz.underlying3, hs, hw]
theorem head_name {t : Tm} (h : t.headOk) : t.name.size ≤ maxLen := by cases t; exact h.2.1
theorem pV_inj {t u : Tm} (h : pV t.name t.args.length = pV u.name u.args.length) : t.name = u.name ∧ t.args.length = u.args.length := by
  unfold pV at h
  injection h with h
  injection h with h
  injection h with h1 h
  injection h with h2 _
  injection h1 with h1
  injection h2 with _ h2
  exact ⟨h1, by omega⟩
/-- A map of a program's predicates. -/
def PSet (W : World) (mb : Nat) (p : List Pc) : Prop :=
  ∃ n D, W.ownsMap Tryz.prog 75 (unitElem (H := Unit)) mb n D ∧ n ≤ p.length ∧ ∀ (t : Tm) kl, keyOf Tryz.prog 75 (pV t.name t.args.length) = some kl → Maps.has D kl = hasP p t
theorem PSet.same {W W' : World} {mb : Nat} {p : List Pc} (h : PSet W mb p) (e : W'.heap[mb]? = W.heap[mb]?) : PSet W' mb p := by
  obtain ⟨n, D, ⟨es, clock, h1, h2⟩, h3, h4⟩ := h
  exact ⟨n, D, ⟨es, clock, e.trans h1, h2⟩, h3, h4⟩
theorem PSet.lt {W : World} {mb : Nat} {p : List Pc} (h : PSet W mb p) : mb < W.heap.size := by
  obtain ⟨n, D, ⟨es, clock, h1, h2⟩, h3, h4⟩ := h
  exact (Array.getElem?_eq_some_iff.1 h1).1
theorem PSet.next {W W' : World} {mb : Nat} {p : List Pc} (h : PSet W mb p) (hb : Below W.heap.size W W') : PSet W' mb p := h.same (hb.block _ h.lt)
theorem PSet.made (w : World) : PSet (w.alloc (.map #[] 0)) w.heap.size [] :=
  ⟨0, .map [], World.ownsMap_made w Tryz.prog _ _, Nat.le_refl _, fun _ _ _ => rfl⟩
theorem PSet.put {W : World} {mb n : Nat} {D : DataW Unit} {p : List Pc} {c : Pc} {kl : Lit} (hD : Maps.IsMap D) (hkl : keyOf Tryz.prog 75 (pV c.h.name c.h.args.length) = some kl)
    (hh : ∀ (t : Tm) kl, keyOf Tryz.prog 75 (pV t.name t.args.length) = some kl → Maps.has D kl = hasP p t) (hn : n ≤ p.length)
    (hown : W.ownsMap Tryz.prog 75 (unitElem (H := Unit)) mb (n + 1) (D.put kl (.agg []))) : PSet W mb (p ++ [c]) := by
  refine ⟨_, _, hown, by simp; omega, fun t k9 h9 => ?_⟩
  have e : hasP (p ++ [c]) t = (hasP p t || (decide (c.h.name = t.name) && decide (c.h.args.length = t.args.length))) := by
    rw [hasP, List.any_append, hasP]
    simp only [List.any_cons, List.any_nil, Bool.or_false]
  rw [e]
  by_cases hk : k9 = kl
  · subst hk
    obtain ⟨h1, h2⟩ := pV_inj (pkeyed.inj hkl h9)
    rw [Maps.has_put_same hD (pkeyed.key hkl), decide_eq_true h1, decide_eq_true h2]
    simp
  · rw [Maps.has_put_other hk, hh t k9 h9]
    have hne : ¬ (c.h.name = t.name ∧ c.h.args.length = t.args.length) := fun ⟨h1, h2⟩ => by
      rw [← h1, ← h2, hkl] at h9
      injection h9 with h9
      exact hk h9.symm
    cases h1 : decide (c.h.name = t.name) <;> cases h2 : decide (c.h.args.length = t.args.length) <;> simp
    exact absurd ⟨of_decide_eq_true h1, of_decide_eq_true h2⟩ hne
/-- A program in a box of the call's own, and a map's block. -/
structure DPm (w0 : World) (p : List Pc) (u : Value) (bx mb : Nat) (W : World) : Prop where
  low : Below w0.heap.size w0 W
  bk : W.heap[bx]? = some (.cells #[u] 24 (0, 0))
  hp : Pc.sliceIn W w0.heap.size p u
  ne : bx ≠ mb
  le : w0.heap.size ≤ mb
section
variable {w0 : World} {p : List Pc} {u : Value} {bx mb : Nat} {W : World} (h : DPm w0 p u bx mb W)
include h
theorem DPm.lt : bx < W.heap.size := (Array.getElem?_eq_some_iff.1 h.bk).1
theorem DPm.cell0 : W.cell? ⟨bx, 0, none⟩ = some u := by simp [World.cell?, h.bk]
theorem DPm.mv {W' : World} (hf : FrP (fun x => x = mb) W W') : DPm w0 p u bx mb W' := by
  have hle := h.le
  exact ⟨h.low.trans ((hf.mono (fun x _ e => by show w0.heap.size ≤ x; omega)).to_below h.low.size), (hf.block _ h.lt h.ne).trans h.bk, Pc.sliceIn_same (Nat.le_refl _) (fr_cell hf (fun x e => by omega)) h.hp, h.ne, hle⟩
theorem DPm.quiet {W' : World} (hb : Below W.heap.size W W') : DPm w0 p u bx mb W' := h.mv ((FrP.of_below hb).mono (fun _ _ e => e.elim))
theorem DPm.rows : Pc.sliceIn W W.heap.size p u := Pc.sliceIn_mono h.hp h.low.size
end
theorem Tryz.zeroNone (w : World) : (zeroValue 76).run Tryz.prog w = .ok (.agg #[]) w := by kernel_rfl
set_option maxRecDepth 100000 in
set_option maxHeartbeats 8000000 in
/-- The predicates of a program. -/
theorem pdefined_any (p : List Pc) (w : World) (u : Value) (hp : Pc.sliceIn w w.heap.size p u) :
    Calls Tryz.prog 20 #[.agg #[u]] w fun e w' => (∃ mb, e = .returned (.map (some mb)) ∧ PSet w' mb p) ∧ Below w.heap.size w w' := by
  obtain ⟨p0, pcap, rfl, -, hpm, -⟩ := id hp
  have hpm2 : p.length ≤ 1599289640354 := hpm
  have hmm := @run_makeMap Tryz.prog
  obtain ⟨m, hm⟩ : ∃ m, p.length = m := ⟨_, rfl⟩
  rw [hm] at hp hpm2
  rw [hm]
  have HM := Lib.hid hm
  have HK := Lib.hid (DPg.new hp)
  have HPP := Lib.hid hp
  clear hm hpm hp
  go_enter Tryz.func20, Tryz.ntmps20
  go_upto_region 1 with fail
  have HK0 := Lib.hid (show DPg w p (.slice p0 m pcap) w.heap.size (w.alloc (.cells #[.slice p0 m pcap] 24)) from HK.out)
  generalize w.alloc (.cells #[.slice p0 m pcap] 24) = u0 at HK0 ⊢
  clear HK
  go_upto_region 2 with fail
  obtain ⟨u1, hu1⟩ : ∃ u1, u0.alloc (.map #[] 0) = u1 := ⟨_, rfl⟩
  have HB1 := Lib.hid (show Below u0.heap.size u0 u1 from hu1 ▸ (Below.refl _ u0).alloc (Nat.le_refl _) _)
  have HP1 := Lib.hid (show PSet u1 u0.heap.size [] from hu1 ▸ PSet.made u0)
  have HK1 := Lib.hid (show DPm w p (.slice p0 m pcap) w.heap.size u0.heap.size u1 from
    ⟨HK0.out.low.trans (HB1.out.mono HK0.out.low.size), (HB1.out.block _ HK0.out.lt).trans HK0.out.bk, Pc.sliceIn_below (Pc.sliceIn_below HPP.out HK0.out.low (Nat.le_refl _)) HB1.out HK0.out.low.size, by have := HK0.out.lt; omega, HK0.out.low.size⟩)
  rw [hu1]
  clear hu1 HB1 HK0
  generalize u0.heap.size = mb at HP1 HK1 ⊢
  have y0 : u1.cell? ⟨w.heap.size, 0, none⟩ = some (.slice p0 m pcap) := HK1.out.cell0
  have yl := HK1.out.lt
  go_upto_region 3 with fail
  clear y0 yl
  go_loopw [10] (fun i wr => ∃ (k : Nat), k ≤ m ∧ i = .int .i64 k ∧ Hid (PSet wr mb (p.take k)) ∧ Hid (DPm w p (.slice p0 m pcap) w.heap.size mb wr)) (fun i _ => m - (intOf i).toNat)
  case atStart => exact ⟨0, Nat.zero_le _, rfl, Lib.hid (by rw [List.take_zero]; exact HP1.out), Lib.hid HK1.out⟩
  case round =>
    obtain ⟨k, hk, rfl, hs, hd⟩ := hrel
    have HS := Lib.hid hs.out
    have HD := Lib.hid hd.out
    clear hs hd
    by_cases hlt : k < m
    · have hlt' : k < p.length := by rw [HM.out]; exact hlt
      have HTK := Lib.hid (List.take_succ_eq_append_getElem hlt')
      obtain ⟨b', o', cap', sv', v', e9, hga⟩ := PA6.of HD.out.rows k hlt'
      injection e9 with e91 e90 e92
      subst e91 e92
      clear e90
      generalize p[k] = c at hga HTK
      have HG := Lib.hid hga
      have j0 : (0 : Int) ≤ (k : Int) := by omega
      have j1 : (k : Int) < (m : Int) := by omega
      have jz : (0 : Int) + (k : Int) = (k : Int) := by omega
      have jw : IntKind.i64.wrap (k : Int) = (k : Int) := by rw [IntKind.wrap_i64]; omega
      obtain ⟨hho, gh, ch, rfl, -, hml, -⟩ := Tm.inn_iff.1 hga.hi.2.1
      have hsn := head_name hho
      obtain ⟨gb, mb9, cb, rfl⟩ : ∃ g m c, v' = .slice g m c := by
        obtain ⟨g, c, e, _⟩ := hga.hi.2.2
        exact ⟨_, _, _, e⟩
      obtain ⟨x0, x1, x2, x3, x4, x5, _⟩ := id hga
      have hbl := hga.lt
      obtain ⟨kl, hkl⟩ := pkey_mk c.h.name c.h.args.length hsn (by omega)
      have HKL := Lib.hid hkl
      have HPR := Lib.hid (fun W (h : Tm.inn W W.heap.size c.h (.slice gh c.h.args.length ch)) => ppred_any c.h W _ h)
      obtain ⟨mh, hmh⟩ : ∃ m, c.h.args.length = m := ⟨_, rfl⟩
      rw [hmh] at x3 HPR hkl HG
      clear hga hsn hml hho
      go_upto_region 5 with fail
      obtain ⟨u2, hu2⟩ : ∃ u2, wr.alloc (.cells #[.int .i64 c.h.kind, .string c.h.name, .int .i64 c.h.n, .slice gh mh ch, .slice gb mb9 cb, .int .i64 c.n] 37) = u2 := ⟨_, rfl⟩
      have hb1 : Below wr.heap.size wr u2 := hu2 ▸ (Below.refl _ wr).alloc (Nat.le_refl _) _
      have hn1 : u2.heap[wr.heap.size]? = some (.cells #[.int .i64 c.h.kind, .string c.h.name, .int .i64 c.h.n, .slice gh mh ch, .slice gb mb9 cb, .int .i64 c.n] 37 (0, 0)) := hu2 ▸ heap_alloc_new wr _
      rw [hu2]
      have y0 : u2.cell? ⟨wr.heap.size, 0, none⟩ = some (.int .i64 c.h.kind) := by simp [World.cell?, hn1]
      have y1 : u2.cell? ⟨wr.heap.size, 1, none⟩ = some (.string c.h.name) := by simp [World.cell?, hn1]
      have y2 : u2.cell? ⟨wr.heap.size, 2, none⟩ = some (.int .i64 c.h.n) := by simp [World.cell?, hn1]
      have y3 : u2.cell? ⟨wr.heap.size, 3, none⟩ = some (.slice gh mh ch) := by simp [World.cell?, hn1]
      have y4 : u2.cell? ⟨wr.heap.size, 4, none⟩ = some (.slice gb mb9 cb) := by simp [World.cell?, hn1]
      have y5 : u2.cell? ⟨wr.heap.size, 5, none⟩ = some (.int .i64 c.n) := by simp [World.cell?, hn1]
      have yl : wr.heap.size < u2.heap.size := (Array.getElem?_eq_some_iff.1 hn1).1
      have HS2 := Lib.hid (HS.out.next hb1)
      have HD2 := Lib.hid (HD.out.quiet hb1)
      have HG2 := Lib.hid (HG.out.next hb1)
      have HI2 := Lib.hid HG2.out.hi.2.1
      clear hu2 hb1 hn1 x0 x1 x2 x3 x4 x5
      go_wp2_with (first
        | (go_at_call 34; (with_reducible refine (HPR.out _ HI2.out).mono ?_); rintro e u3 ⟨rfl, hb⟩; have HD3 := Lib.hid (HD2.out.quiet hb); obtain ⟨n9, D9, hown, hn9, hh9⟩ := HS2.out.next hb; have HOWN := Lib.hid hown; have HN9 := Lib.hid hn9; have HH9 := Lib.hid hh9; have hnm : n9 < maxLen := (by have := List.length_take_le k p; unfold maxLen; omega); clear hb hown hn9 hh9)
        | (at_mapUpdate; refine wpList_mapUpdate_own _ rfl _ _ _ 52 rfl 75 76 pkeyed Tryz.underlying52 _ mb n9 D9 rfl HOWN.out hnm _ _ kl rfl rfl hkl _ [] unitElem_mk ?_; intro u4 hown4 hgrow4; have HOWN4 := Lib.hid hown4; have HGROW4 := Lib.hid hgrow4; clear hown4 hgrow4))
      have HPS := Lib.hid (show PSet u4 mb (p.take (k + 1)) by
        rw [HTK.out]
        exact PSet.put HOWN.out.isMap HKL.out HH9.out HN9.out HOWN4.out)
      have HDN := Lib.hid (HD3.out.mv ((FrP.of_grown HGROW4.out).mono (fun x _ e => by injection e)))
      go_wp2_with fail
      go_roundw
      case rel => exact ⟨k + 1, by omega, by go_num, HPS, HDN⟩
      case measure => simp [intOf]; omega
    · obtain rfl : m = k := by omega
      have HPS := Lib.hid (show PSet wr mb p by have h9 := HS.out; rwa [← HM.out, List.take_length] at h9)
      go_wp2_with fail
      go_ret
      exact ⟨⟨mb, rfl, HPS.out⟩, HD.out.low⟩
end Go.Proofs.YtkjnjahmlobjiaaGreatDoor
