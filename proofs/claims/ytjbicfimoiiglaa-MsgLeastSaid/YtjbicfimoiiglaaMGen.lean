/-
  The program's least generalisation: its closure, which gathers the pairs that differ while it builds the term.
-/
import Derived.Test.YtjbicfimoiiglaaMAt
import Derived.Test.YtjbicfimoiiglaaBox
import Derived.Deep.RegionHeld3
namespace Go.Proofs.Ytjbicfimoiiglaa
open Go.RowKit Go.Shelf Go.Maps

/-- What calls leave that write only the pairs and their box. -/
structure GFr (W W' : World) (pb : Nat) (v v' : Value) : Prop where
  os : W'.os = W.os
  tape : W'.tape = W.tape
  output : W'.output = W.output
  size : W.heap.size ≤ W'.heap.size
  block : ∀ b, b < W.heap.size → b ≠ pb → v.ownBlock ≠ some b → W'.heap[b]? = W.heap[b]?
  own : ∀ b, v'.ownBlock = some b → v.ownBlock = some b ∨ W.heap.size ≤ b
theorem GFr.trans {W W' W'' : World} {pb : Nat} {v v' v'' : Value} (h : GFr W W' pb v v') (g : GFr W' W'' pb v' v'') : GFr W W'' pb v v'' where
  os := g.os.trans h.os
  tape := g.tape.trans h.tape
  output := g.output.trans h.output
  size := Nat.le_trans h.size g.size
  block := fun b hb hp hv => (g.block b (Nat.lt_of_lt_of_le hb h.size) hp fun e => by
    rcases h.own b e with h1 | h1
    · exact hv h1
    · omega).trans (h.block b hb hp hv)
  own := fun b e => by
    rcases g.own b e with h1 | h1
    · exact h.own b h1
    · exact .inr (Nat.le_trans h.size h1)
theorem GFr.of {W W' : World} (hb : Below W.heap.size W W') (pb : Nat) (v : Value) : GFr W W' pb v v := ⟨hb.os, hb.tape, hb.output, hb.size, fun b hlt _ _ => hb.block b hlt, fun _ e => .inl e⟩
theorem GFr.below {W W' : World} {pb lo : Nat} {v v' : Value} (h : GFr W W' pb v v') (hp : lo ≤ pb) (hv : ∀ b, v.ownBlock = some b → lo ≤ b) (hlo : lo ≤ W.heap.size) : Below lo W W' :=
  ⟨h.os, h.tape, h.output, h.size, fun b hb => h.block b (by omega) (by omega) fun e => by have := hv b e; omega⟩
/-- What the closure has captured: the pairs so far, and itself. -/
structure GCtx (W : World) (B lo pb gb : Nat) (L : List (Tm × Tm)) (v : Value) (xs : List Value) : Prop where
  kp : Boxed W pb 91 v
  kg : Boxed W gb 34 (.func (.func 66) #[] #[.pointer (some ⟨pb, 0, none⟩), .pointer (some ⟨gb, 0, none⟩)])
  row : PRow W B lo 93 L v xs
  hBp : B ≤ pb
  hBg : B ≤ gb
  hpl : pb < lo
  hgl : gb < lo
  hne : gb ≠ pb
  lo' : lo ≤ W.heap.size
theorem GCtx.own {W : World} {B lo pb gb : Nat} {L : List (Tm × Tm)} {v : Value} {xs : List Value} (h : GCtx W B lo pb gb L v xs) : ∀ b, v.ownBlock = some b → lo ≤ b ∧ b < W.heap.size := fun b e => h.row.row.lt b e
/-- Other blocks are written. -/
theorem GCtx.keep {W W' : World} {B lo pb gb : Nat} {L : List (Tm × Tm)} {v : Value} {xs : List Value} (h : GCtx W B lo pb gb L v xs) (hs : W.heap.size ≤ W'.heap.size) (hlow : ∀ b, b < lo → W'.heap[b]? = W.heap[b]?) (hv : ∀ b, v.ownBlock = some b → W'.heap[b]? = W.heap[b]?) : GCtx W' B lo pb gb L v xs :=
  ⟨(hlow pb h.hpl).trans h.kp, (hlow gb h.hgl).trans h.kg, h.row.keep (fun b hb => hlow b (by have := h.hBp; have := h.hpl; omega)) hv, h.hBp, h.hBg, h.hpl, h.hgl, h.hne, Nat.le_trans h.lo' hs⟩
theorem GCtx.next {W W' : World} {B lo pb gb : Nat} {L : List (Tm × Tm)} {v : Value} {xs : List Value} (h : GCtx W B lo pb gb L v xs) (hb : Below W.heap.size W W') : GCtx W' B lo pb gb L v xs :=
  h.keep hb.size (fun b hlt => hb.block b (by have := h.lo'; omega)) (fun b e => hb.block b (h.own b e).2)

def GenPost (W : World) (B lo pb gb : Nat) (L : List (Tm × Tm)) (v : Value) (X : Tm) (e : Ending) (W' : World) : Prop :=
  ∃ v' xs' g c, e = .returned (.agg #[.int .i64 X.kind, .string X.name, .int .i64 X.n, .slice g X.args.length c]) ∧ GCtx W' B lo pb gb L v' xs' ∧ GFr W W' pb v v' ∧ Tm.innP W' (fun q => W.heap.size ≤ q ∧ q < W'.heap.size ∧ v'.ownBlock ≠ some q) X (.slice g X.args.length c)
def GenAt (a : Tm) : Prop := ∀ (b : Tm) (L : List (Tm × Tm)) (W : World) (B lo pb gb : Nat) (v : Value) (xs : List Value) (sa sb : Value), GCtx W B lo pb gb L v xs → Tm.inn W B a sa → Tm.inn W B b sb → L.length + a.size ≤ 1000000 →
  Calls Try.prog 66 #[.agg #[.int .i64 a.kind, .string a.name, .int .i64 a.n, sa], .agg #[.int .i64 b.kind, .string b.name, .int .i64 b.n, sb], .pointer (some ⟨pb, 0, none⟩), .pointer (some ⟨gb, 0, none⟩)] W
    fun e W' => GenPost W B lo pb gb (prsT L a b) v (a.gen (prsT L a b) b) e W'

/-- Which blocks the terms of the row of Args may lie in. -/
def okG (base : Nat) (W : World) (v8 vp : Value) (b : Nat) : Prop := base ≤ b ∧ b < W.heap.size ∧ v8.ownBlock ≠ some b ∧ vp.ownBlock ≠ some b
/-- What the loop over the Args holds. -/
def GL (W1 : World) (B lo pb gb : Nat) (L : List (Tm × Tm)) (l us : List Tm) (v : Value) (k : Nat) (v8 : Value) (wr : World) : Prop :=
  ∃ vp xs ys, GCtx wr B lo pb gb (prsTs L (l.take k) (us.take k)) vp xs ∧ GFr W1 wr pb v vp ∧ wr.ownsRow W1.heap.size 24 4 v8 k ys ∧ Tm.cellsP wr (okG W1.heap.size wr v8 vp) (Tm.gens (prsTs L (l.take k) (us.take k)) (l.take k) (us.take k)) ys ∧ ∀ q, v8.ownBlock = some q → vp.ownBlock ≠ some q
theorem GL.start {W1 : World} {B lo pb gb : Nat} {L : List (Tm × Tm)} {l us : List Tm} {v : Value} {xs : List Value} (h : GCtx W1 B lo pb gb L v xs) : GL W1 B lo pb gb L l us v 0 (.slice none 0 0) W1 :=
  ⟨v, xs, [], by rw [prsTs_zero]; exact h, GFr.of (Below.refl _ _) pb v, World.ownsRow_nil _ _ _ _, by simp [Tm.gens, Tm.cellsP], fun q e => by cases e⟩
/-- One term more. -/
theorem GL.step {W1 wr wa W2 W3 : World} {B lo pb gb : Nat} {L Lj : List (Tm × Tm)} {l us : List Tm} {t u : Tm} {v v8 v8' : Value} {k : Nat} (hk : k < l.length) (hu : l.length = us.length) {vp vp' : Value} {xs' ys : List Value} {g : Option Addr} {c : Nat} {tmp : Obj}
    (ht : l[k] = t) (hut : us[k]'(hu ▸ hk) = u) (hLj : prsTs L (l.take k) (us.take k) = Lj) (hF : GFr W1 wr pb v vp) (hown : wr.ownsRow W1.heap.size 24 4 v8 k ys) (hcells : Tm.cellsP wr (okG W1.heap.size wr v8 vp) (Tm.gens (prsTs L (l.take k) (us.take k)) (l.take k) (us.take k)) ys) (hsep : ∀ q, v8.ownBlock = some q → vp.ownBlock ≠ some q)
    (hlo : lo ≤ W1.heap.size) (hwa : Below wr.heap.size wr wa)
    (hC2 : GCtx W2 B lo pb gb (prsT Lj t u) vp' xs') (hF2 : GFr wa W2 pb vp vp') {X : Tm} (hX : t.gen (prsT Lj t u) u = X) (hi : Tm.innP W2 (fun q => wa.heap.size ≤ q ∧ q < W2.heap.size ∧ vp'.ownBlock ≠ some q) X (.slice g X.args.length c))
    (hown3 : W3.ownsRow W1.heap.size 24 4 v8' (k + 1) (ys ++ [.int .i64 X.kind, .string X.name, .int .i64 X.n, .slice g X.args.length c])) (hg : (W2.alloc tmp).grownBy W3 v8.ownBlock) (hs8 : v8'.ownBlock = v8.ownBlock ∨ ∀ b, v8'.ownBlock = some b → (W2.alloc tmp).heap.size ≤ b) :
    GL W1 B lo pb gb L l us v (k + 1) v8' W3 := by
  subst ht hut hLj
  have hpb := hC2.hpl
  have hs1 := hF.size
  have hs2 := hwa.size
  have hs3 := hF2.size
  have hs4 : W2.heap.size + 1 ≤ W3.heap.size := by simpa using hg.size
  have blk3 : ∀ b, b < W2.heap.size → v8.ownBlock ≠ some b → W3.heap[b]? = W2.heap[b]? := fun b hb hne => (hg.block b (by simp; omega) (fun e => hne e.symm)).trans (Below.heap_alloc _ _ _ hb)
  have o8 : ∀ b, v8.ownBlock = some b → W1.heap.size ≤ b ∧ b < wr.heap.size := fun b e => hown.lt b e
  have n8 : ∀ b, v8.ownBlock = some b → vp'.ownBlock ≠ some b := fun b e e' => by
    rcases hF2.own b e' with h1 | h1
    · exact hsep b e h1
    · have := (o8 b e).2; omega
  have s8 : ∀ b, b < W2.heap.size → v8.ownBlock ≠ some b → v8'.ownBlock ≠ some b := fun b hb hne e => by
    rcases hs8 with h | h
    · exact hne (h ▸ e)
    · have := h b e; simp at this; omega
  have hgs := gens_step L l us k hk hu
  rw [hX] at hgs
  refine ⟨vp', xs', _, ?_, ?_, hown3, ?_, ?_⟩
  · rw [prsTs_succ L l us k hk hu]
    exact hC2.keep (by omega) (fun b hb => blk3 b (by have := hC2.lo'; omega) (fun e => by have := (o8 b e).1; omega)) (fun b e => blk3 b (hC2.own b e).2 (fun e' => n8 b e' e))
  · have h1 := (hF.trans (GFr.of hwa pb vp)).trans hF2
    exact ⟨hg.os.trans h1.os, hg.tape.trans h1.tape, hg.output.trans h1.output, by omega, fun b hb hp hv => (blk3 b (by omega) (fun e => by have := (o8 b e).1; omega)).trans (h1.block b hb hp hv), h1.own⟩
  · rw [hgs]
    refine Tm.cellsP_snoc (Tm.innP_same (fun b hb => ?_) (fun b o u hb hc => ?_) X _ hi) _ _ (Tm.cellsP_same (fun b hb => ?_) (fun b o u hb hc => ?_) _ _ hcells)
    · have hne : v8.ownBlock ≠ some b := fun e => by have := (o8 b e).2; have := hb.1; omega
      exact ⟨by have := hb.1; omega, by have := hb.2.1; omega, s8 b hb.2.1 hne, hb.2.2⟩
    · have hne : v8.ownBlock ≠ some b := fun e => by have := (o8 b e).2; have := hb.1; omega
      exact (World.cell?_of_block (a := ⟨b, o, none⟩) (blk3 b hb.2.1 hne)).trans hc
    · have h2 := hb.2.1
      refine ⟨hb.1, by omega, s8 b (by omega) hb.2.2.1, fun e => ?_⟩
      rcases hF2.own b e with h1 | h1
      · exact hb.2.2.2 h1
      · omega
    · have h2 := hb.2.1
      have h3 : W2.heap[b]? = wr.heap[b]? := (hF2.block b (by omega) (by have := hb.1; omega) hb.2.2.2).trans (hwa.block b h2)
      exact (World.cell?_of_block (a := ⟨b, o, none⟩) ((blk3 b (by omega) hb.2.2.1).trans h3)).trans hc
  · intro q e e'
    rcases hs8 with h | h
    · exact n8 q (h ▸ e) e'
    · have h1 := h q e
      have h2 := (hC2.own q e').2
      simp at h1
      omega
/-- What is handed on, behind the store of the whole term into a box of its own. -/
theorem GL.done {W1 wr wf : World} {B lo pb gb : Nat} {L : List (Tm × Tm)} {l us : List Tm} {v v8 : Value} {n r : Nat} (hl : l.length = n) (hu : us.length = n) (hmax : n ≤ 1000000) (h : GL W1 B lo pb gb L l us v n v8 wr) (hr : r < W1.heap.size) (hlr : lo ≤ r) (hrv : v.ownBlock ≠ some r)
    (hos : wf.os = wr.os) (htape : wf.tape = wr.tape) (hout : wf.output = wr.output) (hsz : wf.heap.size = wr.heap.size) (hsame : ∀ b, b ≠ r → wf.heap[b]? = wr.heap[b]?) (w : World) (hw : w.heap.size ≤ r) (hWF : GFr w W1 pb v v) :
    ∃ v' xs', GCtx wf B lo pb gb (prsTs L l us) v' xs' ∧ GFr w wf pb v v' ∧ Tm.sliceP wf (fun q => w.heap.size ≤ q ∧ q < wf.heap.size ∧ v'.ownBlock ≠ some q) (Tm.gens (prsTs L l us) l us) v8 := by
  obtain ⟨vp, xs, ys, hC, hF, hown, hcells, hsep⟩ := h
  rw [prsTs_all L hl hu] at hC hcells
  rw [List.take_of_length_le (by omega), List.take_of_length_le (by omega)] at hcells
  have hvp : ∀ b, vp.ownBlock = some b → b ≠ r := fun b e e' => by
    subst e'
    rcases hF.own b e with h1 | h1
    · exact hrv h1
    · omega
  have hFf := hWF.trans hF
  have hws := hWF.size
  refine ⟨vp, xs, hC.keep (by omega) (fun b hb => hsame b (by omega)) (fun b e => hsame b (hvp b e)), ⟨hos.trans hFf.os, htape.trans hFf.tape, hout.trans hFf.output, by rw [hsz]; exact hFf.size, fun b hb hp hv => (hsame b (by omega)).trans (hFf.block b hb hp hv), hFf.own⟩, ?_⟩
  have hgl : (Tm.gens (prsTs L l us) l us).length = n := by rw [gens_length _ l us (by omega), hl]
  have hown' : wf.ownsRow W1.heap.size 24 4 v8 (Tm.gens (prsTs L l us) l us).length ys := by
    rw [hgl]
    exact ownsRow_block hown (fun b e => hsame b (by have := (hown.lt b e).1; omega))
  have hcells' := Tm.cellsP_same (w' := wf) (ok' := okG W1.heap.size wf v8 vp) (fun b hb => ⟨hb.1, by have := hb.2.1; omega, hb.2.2⟩) (fun b o u hb hc => (World.cell?_of_block (a := ⟨b, o, none⟩) (hsame b (by have := hb.1; omega))).trans hc) _ _ hcells
  exact Tm.sliceP_of_owns hown' hcells' (by omega) (fun b hb => ⟨by have := hb.1; omega, hb.2.1, hb.2.2.2⟩) (fun b e => ⟨by have := (hown'.lt b e).1; omega, (hown'.lt b e).2, hsep b e⟩)

/-- The boxes that the closure makes first. -/
structure GBox (W : World) (a b : Tm) (sa sb : Value) (W1 : World) : Prop where
  size : W.heap.size + 3 ≤ W1.heap.size
  ba : W1.heap[W.heap.size]? = some (Obj.cells #[.int .i64 a.kind, .string a.name, .int .i64 a.n, sa] 24 (0, 0))
  bb : W1.heap[W.heap.size + 1]? = some (Obj.cells #[.int .i64 b.kind, .string b.name, .int .i64 b.n, sb] 24 (0, 0))
  br : W1.heap[W.heap.size + 2]? = some (Obj.cells #[.int .i64 0, .string ⟨#[]⟩, .int .i64 0, .slice none 0 0] 24 (0, 0))
theorem GBox.start (W : World) (a b : Tm) (sa sb : Value) : GBox W a b sa sb (((W.alloc (Obj.cells #[.int .i64 a.kind, .string a.name, .int .i64 a.n, sa] 24 (0, 0))).alloc (Obj.cells #[.int .i64 b.kind, .string b.name, .int .i64 b.n, sb] 24 (0, 0))).alloc (Obj.cells #[.int .i64 0, .string ⟨#[]⟩, .int .i64 0, .slice none 0 0] 24 (0, 0))) :=
  ⟨by simp, (Below.heap_alloc _ _ _ (by simp; omega)).trans ((Below.heap_alloc _ _ _ (by simp)).trans (newBlk _ _ _ rfl)), (Below.heap_alloc _ _ _ (by simp)).trans (newBlk _ _ _ (by simp)), newBlk _ _ _ (by simp)⟩
theorem GBox.fr {W : World} {a b : Tm} {sa sb : Value} {W1 W2 : World} {pb : Nat} {v v' : Value} (h : GBox W a b sa sb W1) (hf : GFr W1 W2 pb v v') (hp : pb < W.heap.size) (hv : ∀ q, v.ownBlock = some q → q < W.heap.size) : GBox W a b sa sb W2 :=
  have hs := h.size
  have k : ∀ q, W.heap.size ≤ q → q < W1.heap.size → W2.heap[q]? = W1.heap[q]? := fun q h1 h2 => hf.block q h2 (by omega) (fun e => by have := hv q e; omega)
  ⟨by have := hf.size; omega, (k _ (by omega) (by omega)).trans h.ba, (k _ (by omega) (by omega)).trans h.bb, (k _ (by omega) (by omega)).trans h.br⟩
theorem al3b (w : World) (o1 o2 o3 : Obj) : Below w.heap.size w (((w.alloc o1).alloc o2).alloc o3) := (((Below.refl _ _).alloc (Nat.le_refl _) _).alloc (by simp) _).alloc (by simp; omega) _
theorem srcPrs_new {X : World} {B : Nat} {x : Tm × Tm} {sa sb : Value} {n : Nat} {T : TypeId} (hn : n = X.heap.size) (hB : B ≤ X.heap.size) (ha : Tm.inn X B x.1 sa) (hb : Tm.inn X B x.2 sb) :
    srcPrs (X.alloc (.cells #[.int .i64 x.1.kind, .string x.1.name, .int .i64 x.1.n, sa, .int .i64 x.2.kind, .string x.2.name, .int .i64 x.2.n, sb] T)) B [x] (some ⟨n, 0, none⟩) := by
  have h2 := (Below.refl X.heap.size X).alloc (Nat.le_refl _) (.cells #[.int .i64 x.1.kind, .string x.1.name, .int .i64 x.1.n, sa, .int .i64 x.2.kind, .string x.2.name, .int .i64 x.2.n, sb] T)
  exact ⟨[.int .i64 x.1.kind, .string x.1.name, .int .i64 x.1.n, sa, .int .i64 x.2.kind, .string x.2.name, .int .i64 x.2.n, sb], ⟨sa, sb, [], rfl, Tm.inn_below ha h2 hB, Tm.inn_below hb h2 hB, by simp [cellsQ]⟩, .inr ⟨_, rfl, news8 _ hn⟩⟩
/-- A pair more. -/
theorem GCtx.push {W2 W3 : World} {B lo pb gb : Nat} {L : List (Tm × Tm)} {v v' : Value} {xs zs : List Value} {x : Tm × Tm} {tmp : Obj} (h : GCtx W2 B lo pb gb L v xs) (hr : PRow W3 B lo 93 (L ++ [x]) v' zs) (hg : (W2.alloc tmp).grownBy W3 v.ownBlock) (hs : v'.ownBlock = v.ownBlock ∨ v'.ownBlock = some (W2.alloc tmp).heap.size) :
    GCtx (W3.setCell ⟨pb, 0, none⟩ v') B lo pb gb (L ++ [x]) v' zs ∧ GFr W2 (W3.setCell ⟨pb, 0, none⟩ v') pb v v' := by
  have hlo := h.lo'
  have hpl := h.hpl
  have hgl := h.hgl
  have hBp := h.hBp
  have hne := h.hne
  have hs4 : W2.heap.size + 1 ≤ W3.heap.size := by simpa using hg.size
  have blk : ∀ b, b < W2.heap.size → v.ownBlock ≠ some b → W3.heap[b]? = W2.heap[b]? := fun b hb hv => (hg.block b (by simp; omega) (fun e => hv e.symm)).trans (Below.heap_alloc _ _ _ hb)
  have nv : ∀ b, b < lo → v.ownBlock ≠ some b := fun b hb e => by have := (h.own b e).1; omega
  have hkp : Boxed W3 pb 91 v := (blk pb (by omega) (nv pb hpl)).trans h.kp
  refine ⟨⟨hkp.set v', (Below.heap_setCell _ _ _ _ (by show gb ≠ pb; exact hne)).trans ((blk gb (by omega) (nv gb hgl)).trans h.kg), ?_, hBp, h.hBg, hpl, hgl, hne, by simp; omega⟩, ⟨hg.os, hg.tape, hg.output, by simp; omega, fun b hb hp hv => (Below.heap_setCell _ _ _ _ (by show b ≠ pb; exact hp)).trans (blk b hb hv), fun b e => ?_⟩⟩
  · exact hr.keep (fun b hb => Below.heap_setCell _ _ _ _ (by show b ≠ pb; omega)) (fun b e => Below.heap_setCell _ _ _ _ (by show b ≠ pb; have := (hr.row.lt b e).1; omega))
  · rcases hs with h1 | h1
    · exact .inl (h1 ▸ e)
    · rw [h1] at e
      injection e with e
      simp at e
      exact .inr (by omega)
/-- The cells that the call of the closure reads. -/
theorem s10_keep {W W' : World} {A Y D G o : Nat} {a0 a1 a2 a3 y3 d0 d1 d2 d3 g0 : Value} (hA : W'.heap[A]? = W.heap[A]?) (hY : W'.heap[Y]? = W.heap[Y]?) (hD : W'.heap[D]? = W.heap[D]?) (hG : W'.heap[G]? = W.heap[G]?)
    (h : W.cell? ⟨A, 0, none⟩ = some a0 ∧ W.cell? ⟨A, 1, none⟩ = some a1 ∧ W.cell? ⟨A, 2, none⟩ = some a2 ∧ W.cell? ⟨A, 3, none⟩ = some a3 ∧ W.cell? ⟨Y, 3, none⟩ = some y3 ∧ W.cell? ⟨D, o, none⟩ = some d0 ∧ W.cell? ⟨D, o + 1, none⟩ = some d1 ∧ W.cell? ⟨D, o + 2, none⟩ = some d2 ∧ W.cell? ⟨D, o + 3, none⟩ = some d3 ∧ W.cell? ⟨G, 0, none⟩ = some g0) :
    W'.cell? ⟨A, 0, none⟩ = some a0 ∧ W'.cell? ⟨A, 1, none⟩ = some a1 ∧ W'.cell? ⟨A, 2, none⟩ = some a2 ∧ W'.cell? ⟨A, 3, none⟩ = some a3 ∧ W'.cell? ⟨Y, 3, none⟩ = some y3 ∧ W'.cell? ⟨D, o, none⟩ = some d0 ∧ W'.cell? ⟨D, o + 1, none⟩ = some d1 ∧ W'.cell? ⟨D, o + 2, none⟩ = some d2 ∧ W'.cell? ⟨D, o + 3, none⟩ = some d3 ∧ W'.cell? ⟨G, 0, none⟩ = some g0 := by
  obtain ⟨h0, h1, h2, h3, h4, h5, h6, h7, h8, h9⟩ := h
  exact ⟨(World.cell?_of_block (a := ⟨A, 0, none⟩) hA).trans h0, (World.cell?_of_block (a := ⟨A, 1, none⟩) hA).trans h1, (World.cell?_of_block (a := ⟨A, 2, none⟩) hA).trans h2, (World.cell?_of_block (a := ⟨A, 3, none⟩) hA).trans h3, (World.cell?_of_block (a := ⟨Y, 3, none⟩) hY).trans h4,
    (World.cell?_of_block (a := ⟨D, o, none⟩) hD).trans h5, (World.cell?_of_block (a := ⟨D, o + 1, none⟩) hD).trans h6, (World.cell?_of_block (a := ⟨D, o + 2, none⟩) hD).trans h7, (World.cell?_of_block (a := ⟨D, o + 3, none⟩) hD).trans h8, (World.cell?_of_block (a := ⟨G, 0, none⟩) hG).trans h9⟩
theorem mk_kind (k : Int) (s : ByteArray) (n : Int) (l : List Tm) : (Tm.mk k s n l).kind = k := rfl
theorem mk_name (k : Int) (s : ByteArray) (n : Int) (l : List Tm) : (Tm.mk k s n l).name = s := rfl
theorem mk_n (k : Int) (s : ByteArray) (n : Int) (l : List Tm) : (Tm.mk k s n l).n = n := rfl
theorem mk_args (k : Int) (s : ByteArray) (n : Int) (l : List Tm) : (Tm.mk k s n l).args = l := rfl
theorem GCtx.box3 {W2 W3 : World} {B lo pb gb : Nat} {L : List (Tm × Tm)} {v : Value} {xs : List Value} {tmp : Obj} (h : GCtx W2 B lo pb gb L v xs) (hg : (W2.alloc tmp).grownBy W3 v.ownBlock) : Boxed W3 pb 91 v := by
  have hlo := h.lo'
  have hpl := h.hpl
  exact ((hg.block pb (by simp; omega) (fun e => by have := (h.own pb e.symm).1; omega)).trans (Below.heap_alloc _ _ _ (by omega))).trans h.kp
/-- A variable is handed on. -/
theorem GenPost.var {W W2 wf : World} {B lo pb gb : Nat} {L : List (Tm × Tm)} {v v' : Value} {xs : List Value} {i : Nat} (hi : i ≤ 1000000) (hlo : lo ≤ W.heap.size) (hC : GCtx W2 B lo pb gb L v' xs) (hF : GFr W W2 pb v v') (hv : v'.ownBlock ≠ some (W.heap.size + 2)) (hsz : wf.heap.size = W2.heap.size) (hsame : ∀ q, q ≠ W.heap.size + 2 → wf.heap[q]? = W2.heap[q]?) (hos : wf.os = W2.os) (ht : wf.tape = W2.tape) (ho : wf.output = W2.output) :
    GenPost W B lo pb gb L v (vTm (i : Nat)) (.returned (.agg #[.int .i64 1, .string ⟨#[]⟩, .int .i64 (i : Nat), .slice none 0 0])) wf := by
  refine ⟨v', xs, none, 0, rfl, hC.keep (by omega) (fun b hb => hsame b (by omega)) (fun b e => hsame b (fun e' => hv (e' ▸ e))), ⟨hos.trans hF.os, ht.trans hF.tape, ho.trans hF.output, by rw [hsz]; exact hF.size, fun b hb hp hv' => (hsame b (by omega)).trans (hF.block b hb hp hv'), hF.own⟩, ?_⟩
  exact Tm.innP_mk.2 ⟨⟨by decide, Nat.zero_le _, WalkArith.wf_i64 (by omega)⟩, none, 0, rfl, Nat.le_refl _, by simp, .inl rfl⟩
theorem set4_heap (W : World) (B : Nat) (a b c d : Value) : ((((W.setCell ⟨B, 0, none⟩ a).setCell ⟨B, 1, none⟩ b).setCell ⟨B, 2, none⟩ c).setCell ⟨B, 3, none⟩ d).heap.size = W.heap.size := by simp

set_option maxRecDepth 100000 in
set_option maxHeartbeats 8000000 in
theorem mgen_any : ∀ a : Tm, GenAt a := by
  refine Tm.ind fun k s n l ih b L W B lo pb gb v xs sa sb hC hia hib hmax => ?_
  obtain ⟨gp, cp, rfl⟩ := hC.row.slice
  obtain ⟨_, ga, ca, rfl, hca, hla, _⟩ := Tm.inn_mk.1 hia
  obtain ⟨hhb, gb', cb, rfl, hcb, hlb, _⟩ := Tm.inn_iff.1 hib
  have hhead := (Tm.inn_mk.1 hia).1
  have HHEAD := Lib.hid hhead
  have hBX := GBox.start W (.mk k s n l) b (.slice ga l.length ca) (.slice gb' b.args.length cb)
  have hal := al3b W (Obj.cells #[.int .i64 k, .string s, .int .i64 n, .slice ga l.length ca] 24 (0, 0)) (Obj.cells #[.int .i64 b.kind, .string b.name, .int .i64 b.n, .slice gb' b.args.length cb] 24 (0, 0)) (Obj.cells #[.int .i64 0, .string ⟨#[]⟩, .int .i64 0, .slice none 0 0] 24 (0, 0))
  have hpW : pb < W.heap.size := Nat.lt_of_lt_of_le hC.hpl hC.lo'
  have hgW : gb < W.heap.size := Nat.lt_of_lt_of_le hC.hgl hC.lo'
  have hBW : B ≤ W.heap.size := by have := hC.hBp; omega
  have hvW : ∀ q, (Value.slice gp L.length cp).ownBlock = some q → q < W.heap.size := fun q e => (hC.own q e).2
  have HV := Lib.hid hvW
  have HIA := Lib.hid hia
  have HIB := Lib.hid hib
  have HC := Lib.hid hC
  have HBX := Lib.hid hBX
  have HAL := Lib.hid hal
  have HIH := Lib.hid ih
  have hLl : L.length ≤ 1000000 := by omega
  have cpW := hC.kp.cell
  have lpW1 : pb < W.heap.size + 1 := by omega
  have lpW2 : pb < W.heap.size + 1 + 1 := by omega
  simp only [mk_kind, mk_name, mk_n] at HBX ⊢
  obtain ⟨W0, hW0⟩ : ∃ W0, (((W.alloc (Obj.cells #[.int .i64 k, .string s, .int .i64 n, .slice ga l.length ca] 24 (0, 0))).alloc (Obj.cells #[.int .i64 b.kind, .string b.name, .int .i64 b.n, .slice gb' b.args.length cb] 24 (0, 0))).alloc (Obj.cells #[.int .i64 0, .string ⟨#[]⟩, .int .i64 0, .slice none 0 0] 24 (0, 0))) = W0 := ⟨_, rfl⟩
  rw [hW0] at HBX HAL
  have HW := Lib.hid hW0
  clear hC hia hib hBX hal ih hW0 hvW hhead hhb
  cases hl : likeB (.mk k s n l) b with
  | false =>
    rw [prs_unlike hl, gen_unlike hl]
    by_cases hk1 : k = 1
    · subst hk1
      have HB1 := HAL
      have HX1 := HBX
      go_enter Try.func66, Try.ntmps66
      go_wp2_with fail
      rw [HW.out]
      have C1 := Lib.hid (HC.out.next HB1.out)
      have hs1 := HB1.out.size
      have hpl := mplace_any L (.mk 1 s n l) b W0 W0.heap.size _ _ _ (Nat.le_refl _) (C1.out.row.reads (by omega) (by omega)) (Tm.inn_mono (Tm.inn_below HIA.out HB1.out hBW) (by omega)) (Tm.inn_mono (Tm.inn_below HIB.out HB1.out hBW) (by omega))
      simp only [mk_kind, mk_name, mk_n] at hpl
      have HPL := Lib.hid hpl
      have cp0 := C1.out.kp.cell
      obtain ⟨⟨a0, a1, a2, a3⟩, _⟩ := row4 HX1.out.ba
      obtain ⟨⟨b0, b1, b2, b3⟩, _⟩ := row4 HX1.out.bb
      simp only [mk_kind, mk_name, mk_n] at a0 a1 a2 a3
      have lp1 : pb < W0.heap.size := by omega
      have la1 : W.heap.size + 1 < W0.heap.size := by have := HX1.out.size; omega
      clear hpl
      refine HPL.out.mono ?_
      rintro e W2 ⟨rfl, hb2⟩
      obtain ⟨i, hi⟩ : ∃ i, L.idxOf (Tm.mk 1 s n l, b) = i := ⟨_, rfl⟩
      rw [hi]
      have HB2 := Lib.hid hb2
      have hs2 := hb2.size
      have C2 := Lib.hid (C1.out.next hb2)
      have X2 := Lib.hid (HX1.out.fr (GFr.of hb2 pb (.slice gp L.length cp)) hpW HV.out)
      have F2 := Lib.hid ((GFr.of HB1.out pb (.slice gp L.length cp)).trans (GFr.of hb2 pb (.slice gp L.length cp)))
      have dp0 := C2.out.kp.cell
      have fp0 := C2.out.kp.frozen
      obtain ⟨⟨r0, r1, r2, r3⟩, f0, f1, f2, f3⟩ := row4 X2.out.br
      obtain ⟨⟨a0, a1, a2, a3⟩, _⟩ := row4 X2.out.ba
      obtain ⟨⟨b0, b1, b2, b3⟩, _⟩ := row4 X2.out.bb
      simp only [mk_kind, mk_name, mk_n] at a0 a1 a2 a3
      have lr2 : W.heap.size + 2 < W2.heap.size := by have := X2.out.size; omega
      have lp2 : pb < W2.heap.size := by omega
      clear hb2 HPL C1 HX1 cp0
      have hile : i ≤ L.length := by rw [← hi]; exact List.idxOf_le_length
      by_cases hlt : i < L.length
      · have hm : (Tm.mk 1 s n l, b) ∈ L := List.idxOf_lt_length_iff.1 (by rw [hi]; exact hlt)
        have hadd : addP L (Tm.mk 1 s n l, b) = L := by unfold addP; rw [if_pos hm]
        have hne : ((i : Int) == (L.length : Int)) = false := by rw [beq_eq_false_iff_ne]; omega
        have HADD := Lib.hid hadd
        have HI := Lib.hid hi
        clear hm hadd hi
        go_wp2_with fail
        refine bodyPost_ret (v := .agg #[.int .i64 1, .string ⟨#[]⟩, .int .i64 (i : Nat), .slice none 0 0]) (by simp [results, Try.results66, go_sem, r0, r1, r2, r3]) rfl ?_
        have hsame : ∀ q, q ≠ W.heap.size + 2 → ((((W2.setCell ⟨W.heap.size + 2, 0, none⟩ (.int .i64 1)).setCell ⟨W.heap.size + 2, 1, none⟩ (.string ⟨#[]⟩)).setCell ⟨W.heap.size + 2, 2, none⟩ (.int .i64 (i : Nat))).setCell ⟨W.heap.size + 2, 3, none⟩ (.slice none 0 0)).heap[q]? = W2.heap[q]? := fun q hq => set4_other _ _ _ _ _ _ q hq
        rw [HADD.out, HI.out]
        exact GenPost.var (by omega) HC.out.lo' C2.out F2.out (fun e => by have := HV.out _ e; omega) (by simp) hsame rfl rfl rfl
      · have hm : (Tm.mk 1 s n l, b) ∉ L := fun hm => hlt (by rw [← hi]; exact List.idxOf_lt_length_iff.2 hm)
        obtain rfl : L.length = i := by omega
        have hadd : addP L (Tm.mk 1 s n l, b) = L ++ [(Tm.mk 1 s n l, b)] := by unfold addP; rw [if_neg hm]
        have hi2 : (L ++ [(Tm.mk 1 s n l, b)]).idxOf (Tm.mk 1 s n l, b) = L.length := by rw [List.idxOf_append, if_neg hm]; simp
        have HADD := Lib.hid hadd
        have HI := Lib.hid hi2
        have hsrc := srcPrs_new (X := W2) (B := B) (x := (Tm.mk 1 s n l, b)) (T := 93) (n := W2.heap.size) rfl (by omega) (Tm.inn_below (Tm.inn_below HIA.out HB1.out hBW) HB2.out (by omega)) (Tm.inn_below (Tm.inn_below HIB.out HB1.out hBW) HB2.out (by omega))
        have HSRC := Lib.hid hsrc
        clear hm hadd hi hi2 hlt hile hsrc
        go_wp2_with (at_builtin; refine wpList_append_prs rfl prTyP _ _ rfl B lo (.slice gp L.length cp) L xs rfl (C2.out.row.next ((Below.refl _ _).alloc (Nat.le_refl _) _) (by omega)) [(Tm.mk 1 s n l, b)] (some ⟨W2.heap.size, 0, none⟩) 1 1 rfl rfl HSRC.out (by simp; omega) (by have := C2.out.lo'; simp; omega) (by have := C2.out.hBp; have := C2.out.hpl; omega) ?_; intro v' w3 zs hrow3 hgrow3 hsep3; have hkp3 : w3.cell? ⟨pb, 0, none⟩ = some (.slice gp L.length cp) ∧ w3.frozen? ⟨pb, 0, none⟩ = false := ⟨GCtx.box3 C2.out hgrow3 |>.cell, GCtx.box3 C2.out hgrow3 |>.frozen⟩; obtain ⟨kp3, kf3⟩ := hkp3; have hr3 := row4 ((hgrow3.block (W.heap.size + 2) (by simp; omega) (fun e => by have := HV.out _ e.symm; omega)).trans ((Below.heap_alloc _ _ _ lr2).trans X2.out.br)); obtain ⟨⟨t0, t1, t2, t3⟩, tf0, tf1, tf2, tf3⟩ := hr3; have hsl3 := hrow3.slice; simp only [List.length_append, List.length_cons, List.length_nil, Nat.zero_add] at hsl3; obtain ⟨g3, c3, rfl⟩ := hsl3)
        obtain ⟨C3, F3⟩ := GCtx.push C2.out hrow3 hgrow3 hsep3
        refine bodyPost_ret (v := .agg #[.int .i64 1, .string ⟨#[]⟩, .int .i64 (L.length : Nat), .slice none 0 0]) (by simp [results, Try.results66, go_sem, t0, t1, t2, t3]) rfl ?_
        have hsame : ∀ q, q ≠ W.heap.size + 2 → (((((w3.setCell ⟨pb, 0, none⟩ (.slice g3 (L.length + 1) c3)).setCell ⟨W.heap.size + 2, 0, none⟩ (.int .i64 1)).setCell ⟨W.heap.size + 2, 1, none⟩ (.string ⟨#[]⟩)).setCell ⟨W.heap.size + 2, 2, none⟩ (.int .i64 (L.length : Nat))).setCell ⟨W.heap.size + 2, 3, none⟩ (.slice none 0 0)).heap[q]? = (w3.setCell ⟨pb, 0, none⟩ (.slice g3 (L.length + 1) c3)).heap[q]? := fun q hq => set4_other _ _ _ _ _ _ q hq
        have hv3 : (Value.slice g3 (L.length + 1) c3).ownBlock ≠ some (W.heap.size + 2) := fun e => by
          rcases hsep3 with h1 | h1
          · have := HV.out _ (h1 ▸ e); omega
          · rw [h1] at e; injection e with e; simp at e; omega
        rw [HADD.out, HI.out]
        exact GenPost.var (by omega) HC.out.lo' C3 (F2.out.trans F3) hv3 (by simp) hsame rfl rfl rfl
    · have hk1b : (k == 1) = false := by simpa using hk1
      have htop : topB (.mk k s n l) b = false := by
        rw [likeB_top] at hl
        simpa [mk_kind, hk1] using hl
      have hto := top_any (.mk k s n l) b W0 W0.heap.size _ _ (Tm.inn_mono (Tm.inn_below HIA.out HAL.out hBW) (by have := HAL.out.size; omega)) (Tm.inn_mono (Tm.inn_below HIB.out HAL.out hBW) (by have := HAL.out.size; omega))
      rw [htop] at hto
      simp only [mk_kind, mk_name, mk_n] at hto
      have HTO := Lib.hid hto
      clear hto htop
      go_enter Try.func66, Try.ntmps66
      go_wp2_with fail
      rw [HW.out]
      refine HTO.out.mono ?_
      rintro e W1 ⟨rfl, hb1⟩
      have hs01 := HAL.out.size
      have HB1 := Lib.hid (HAL.out.trans (hb1.mono hs01))
      have HX1 := Lib.hid (HBX.out.fr (GFr.of hb1 pb (.slice gp L.length cp)) hpW HV.out)
      have hs1' := hb1.size
      clear HTO cpW hb1
      have C1 := Lib.hid (HC.out.next HB1.out)
      have hs1 := HB1.out.size
      have hpl := mplace_any L (.mk k s n l) b W1 W1.heap.size _ _ _ (Nat.le_refl _) (C1.out.row.reads (by omega) (by omega)) (Tm.inn_mono (Tm.inn_below HIA.out HB1.out hBW) (by omega)) (Tm.inn_mono (Tm.inn_below HIB.out HB1.out hBW) (by omega))
      simp only [mk_kind, mk_name, mk_n] at hpl
      have HPL := Lib.hid hpl
      have cp0 := C1.out.kp.cell
      obtain ⟨⟨a0, a1, a2, a3⟩, _⟩ := row4 HX1.out.ba
      obtain ⟨⟨b0, b1, b2, b3⟩, _⟩ := row4 HX1.out.bb
      simp only [mk_kind, mk_name, mk_n] at a0 a1 a2 a3
      have lp1 : pb < W1.heap.size := by omega
      have la1 : W.heap.size + 1 < W1.heap.size := by have := HX1.out.size; omega
      clear hpl
      go_wp2_with fail
      refine HPL.out.mono ?_
      rintro e W2 ⟨rfl, hb2⟩
      obtain ⟨i, hi⟩ : ∃ i, L.idxOf (Tm.mk k s n l, b) = i := ⟨_, rfl⟩
      rw [hi]
      have HB2 := Lib.hid hb2
      have hs2 := hb2.size
      have C2 := Lib.hid (C1.out.next hb2)
      have X2 := Lib.hid (HX1.out.fr (GFr.of hb2 pb (.slice gp L.length cp)) hpW HV.out)
      have F2 := Lib.hid ((GFr.of HB1.out pb (.slice gp L.length cp)).trans (GFr.of hb2 pb (.slice gp L.length cp)))
      have dp0 := C2.out.kp.cell
      have fp0 := C2.out.kp.frozen
      obtain ⟨⟨r0, r1, r2, r3⟩, f0, f1, f2, f3⟩ := row4 X2.out.br
      obtain ⟨⟨a0, a1, a2, a3⟩, _⟩ := row4 X2.out.ba
      obtain ⟨⟨b0, b1, b2, b3⟩, _⟩ := row4 X2.out.bb
      simp only [mk_kind, mk_name, mk_n] at a0 a1 a2 a3
      have lr2 : W.heap.size + 2 < W2.heap.size := by have := X2.out.size; omega
      have lp2 : pb < W2.heap.size := by omega
      clear hb2 HPL C1 HX1 cp0
      have hile : i ≤ L.length := by rw [← hi]; exact List.idxOf_le_length
      by_cases hlt : i < L.length
      · have hm : (Tm.mk k s n l, b) ∈ L := List.idxOf_lt_length_iff.1 (by rw [hi]; exact hlt)
        have hadd : addP L (Tm.mk k s n l, b) = L := by unfold addP; rw [if_pos hm]
        have hne : ((i : Int) == (L.length : Int)) = false := by rw [beq_eq_false_iff_ne]; omega
        have HADD := Lib.hid hadd
        have HI := Lib.hid hi
        clear hm hadd hi
        go_wp2_with fail
        refine bodyPost_ret (v := .agg #[.int .i64 1, .string ⟨#[]⟩, .int .i64 (i : Nat), .slice none 0 0]) (by simp [results, Try.results66, go_sem, r0, r1, r2, r3]) rfl ?_
        have hsame : ∀ q, q ≠ W.heap.size + 2 → ((((W2.setCell ⟨W.heap.size + 2, 0, none⟩ (.int .i64 1)).setCell ⟨W.heap.size + 2, 1, none⟩ (.string ⟨#[]⟩)).setCell ⟨W.heap.size + 2, 2, none⟩ (.int .i64 (i : Nat))).setCell ⟨W.heap.size + 2, 3, none⟩ (.slice none 0 0)).heap[q]? = W2.heap[q]? := fun q hq => set4_other _ _ _ _ _ _ q hq
        rw [HADD.out, HI.out]
        exact GenPost.var (by omega) HC.out.lo' C2.out F2.out (fun e => by have := HV.out _ e; omega) (by simp) hsame rfl rfl rfl
      · have hm : (Tm.mk k s n l, b) ∉ L := fun hm => hlt (by rw [← hi]; exact List.idxOf_lt_length_iff.2 hm)
        obtain rfl : L.length = i := by omega
        have hadd : addP L (Tm.mk k s n l, b) = L ++ [(Tm.mk k s n l, b)] := by unfold addP; rw [if_neg hm]
        have hi2 : (L ++ [(Tm.mk k s n l, b)]).idxOf (Tm.mk k s n l, b) = L.length := by rw [List.idxOf_append, if_neg hm]; simp
        have HADD := Lib.hid hadd
        have HI := Lib.hid hi2
        have hsrc := srcPrs_new (X := W2) (B := B) (x := (Tm.mk k s n l, b)) (T := 93) (n := W2.heap.size) rfl (by omega) (Tm.inn_below (Tm.inn_below HIA.out HB1.out hBW) HB2.out (by omega)) (Tm.inn_below (Tm.inn_below HIB.out HB1.out hBW) HB2.out (by omega))
        have HSRC := Lib.hid hsrc
        clear hm hadd hi hi2 hlt hile hsrc
        go_wp2_with (at_builtin; refine wpList_append_prs rfl prTyP _ _ rfl B lo (.slice gp L.length cp) L xs rfl (C2.out.row.next ((Below.refl _ _).alloc (Nat.le_refl _) _) (by omega)) [(Tm.mk k s n l, b)] (some ⟨W2.heap.size, 0, none⟩) 1 1 rfl rfl HSRC.out (by simp; omega) (by have := C2.out.lo'; simp; omega) (by have := C2.out.hBp; have := C2.out.hpl; omega) ?_; intro v' w3 zs hrow3 hgrow3 hsep3; have hkp3 : w3.cell? ⟨pb, 0, none⟩ = some (.slice gp L.length cp) ∧ w3.frozen? ⟨pb, 0, none⟩ = false := ⟨GCtx.box3 C2.out hgrow3 |>.cell, GCtx.box3 C2.out hgrow3 |>.frozen⟩; obtain ⟨kp3, kf3⟩ := hkp3; have hr3 := row4 ((hgrow3.block (W.heap.size + 2) (by simp; omega) (fun e => by have := HV.out _ e.symm; omega)).trans ((Below.heap_alloc _ _ _ lr2).trans X2.out.br)); obtain ⟨⟨t0, t1, t2, t3⟩, tf0, tf1, tf2, tf3⟩ := hr3; have hsl3 := hrow3.slice; simp only [List.length_append, List.length_cons, List.length_nil, Nat.zero_add] at hsl3; obtain ⟨g3, c3, rfl⟩ := hsl3)
        obtain ⟨C3, F3⟩ := GCtx.push C2.out hrow3 hgrow3 hsep3
        refine bodyPost_ret (v := .agg #[.int .i64 1, .string ⟨#[]⟩, .int .i64 (L.length : Nat), .slice none 0 0]) (by simp [results, Try.results66, go_sem, t0, t1, t2, t3]) rfl ?_
        have hsame : ∀ q, q ≠ W.heap.size + 2 → (((((w3.setCell ⟨pb, 0, none⟩ (.slice g3 (L.length + 1) c3)).setCell ⟨W.heap.size + 2, 0, none⟩ (.int .i64 1)).setCell ⟨W.heap.size + 2, 1, none⟩ (.string ⟨#[]⟩)).setCell ⟨W.heap.size + 2, 2, none⟩ (.int .i64 (L.length : Nat))).setCell ⟨W.heap.size + 2, 3, none⟩ (.slice none 0 0)).heap[q]? = (w3.setCell ⟨pb, 0, none⟩ (.slice g3 (L.length + 1) c3)).heap[q]? := fun q hq => set4_other _ _ _ _ _ _ q hq
        have hv3 : (Value.slice g3 (L.length + 1) c3).ownBlock ≠ some (W.heap.size + 2) := fun e => by
          rcases hsep3 with h1 | h1
          · have := HV.out _ (h1 ▸ e); omega
          · rw [h1] at e; injection e with e; simp at e; omega
        rw [HADD.out, HI.out]
        exact GenPost.var (by omega) HC.out.lo' C3 (F2.out.trans F3) hv3 (by simp) hsame rfl rfl rfl
  | true =>
    obtain ⟨k', s', n', us⟩ := b
    have hk1 := (likeB_iff.1 hl).1
    have hll := (likeB_iff.1 hl).2.2.2.2
    rw [prs_like hl, gen_like hl]
    have htop : topB (.mk k s n l) (.mk k' s' n' us) = true := by
      rw [likeB_top, Bool.and_eq_true] at hl
      exact hl.2
    have hto := top_any (.mk k s n l) (.mk k' s' n' us) W0 W0.heap.size _ _ (Tm.inn_mono (Tm.inn_below HIA.out HAL.out hBW) (by have := HAL.out.size; omega)) (Tm.inn_mono (Tm.inn_below HIB.out HAL.out hBW) (by have := HAL.out.size; omega))
    rw [htop] at hto
    simp only [mk_kind, mk_name, mk_n, mk_args] at HBX HW HAL HIB hcb hlb hk1 hll hto ⊢
    have hk1b : (k == 1) = false := by simpa using hk1
    obtain ⟨m, hm1, hm2⟩ : ∃ m, l.length = m ∧ us.length = m := ⟨_, rfl, hll.symm⟩
    rw [hm1] at HBX HW HIA hca hla hto ⊢
    rw [hm2] at HBX HW HIB hcb hlb hto ⊢
    have HM1 := Lib.hid hm1
    have HM2 := Lib.hid hm2
    have HTO := Lib.hid hto
    have hm6 : m ≤ 1000000 := by have h1 := Tm.length_le_sizes l; simp only [Tm.size] at hmax; omega
    have HMAX := Lib.hid hmax
    clear hto htop hk1 hl hll hm1 hm2 hmax
    go_enter Try.func66, Try.ntmps66
    go_wp2_with fail
    rw [HW.out]
    refine HTO.out.mono ?_
    rintro e W1 ⟨rfl, hb1⟩
    have hs01 := HAL.out.size
    have HB1 := Lib.hid (HAL.out.trans (hb1.mono hs01))
    have HX1 := Lib.hid (HBX.out.fr (GFr.of hb1 pb (.slice gp L.length cp)) hpW HV.out)
    have C1 := Lib.hid (HC.out.next HB1.out)
    have hs1' := hb1.size
    have hs1 := HB1.out.size
    have hz1 := HX1.out.size
    have la0 : W.heap.size < W1.heap.size := by omega
    have la1 : W.heap.size + 1 < W1.heap.size := by omega
    obtain ⟨⟨a0, a1, a2, a3⟩, _⟩ := row4 HX1.out.ba
    obtain ⟨⟨b0, b1, b2, b3⟩, _⟩ := row4 HX1.out.bb
    simp only [mk_kind, mk_name, mk_n] at a0 a1 a2 a3 b0 b1 b2 b3
    go_wp2_with fail
    go_loopw [8, 9, 10, 39] (fun v8 _ _ i wr => ∃ k' : Nat, k' ≤ m ∧ i = .int .i64 k' ∧ Hid (GL W1 B lo pb gb L l us (.slice gp L.length cp) k' v8 wr)) (fun _ _ _ i _ => m - (intOf i).toNat)
    case atStart => exact ⟨0, Nat.zero_le _, rfl, GL.start C1.out⟩
    case round =>
      obtain ⟨wz, rfl⟩ : ∃ x, x = wr := ⟨_, rfl⟩
      obtain ⟨j, hj, rfl, hgl⟩ := hrel
      have HGL := Lib.hid hgl.out
      clear hgl a0 a1 a2 a3 b0 b1 b2 b3
      by_cases hlt : j < m
      · obtain ⟨vp, xs2, ys, hC2, hF2, hown, hcells, hsep⟩ := HGL.out
        have hju : j < us.length := by rw [HM2.out]; exact hlt
        have hjl : j < l.length := by rw [HM1.out]; exact hlt
        have hbw : Below B W wz := ((GFr.of HB1.out pb (.slice gp L.length cp)).trans hF2).below HC.out.hBp (fun q e => by have := (HC.out.own q e).1; have := HC.out.hBp; have := HC.out.hpl; omega) hBW
        obtain ⟨p, po, sx, hga, hpB, c0, c1, c2, c3, hix⟩ := Tm.sliceIn_get (Tm.sliceIn_below (Tm.inn_mk.1 HIA.out).2 hbw (Nat.le_refl _)) j hjl
        obtain ⟨p', po', sy, hgb, hpB', d0, d1, d2, d3, hiy⟩ := Tm.sliceIn_get (Tm.sliceIn_below (Tm.inn_mk.1 HIB.out).2 hbw (Nat.le_refl _)) j hju
        subst hga hgb
        obtain ⟨gx, cx, rfl⟩ := inn_sl6 hix
        obtain ⟨gy, cy, rfl⟩ := inn_sl6 hiy
        have hX := HX1.out.fr hF2 hpW HV.out
        obtain ⟨⟨_, _, _, y3⟩, _⟩ := row4 hX.bb
        have kg0 := hC2.kg.cell
        obtain ⟨t, ht⟩ : ∃ t, l[j] = t := ⟨_, rfl⟩
        obtain ⟨u, hu⟩ : ∃ u, us[j] = u := ⟨_, rfl⟩
        rw [ht] at c0 c1 c2 c3 hix
        rw [hu] at d0 d1 d2 d3 hiy
        have hih := HIH.out l[j] (List.getElem_mem hjl)
        rw [ht] at hih
        have hszt := Tm.size_mem_le (List.getElem_mem hjl)
        have hpre : (prsTs L (l.take j) (us.take j)).length + t.size ≤ 1000000 := by
          have h1 := prsTs_length L (l.take j) (us.take j)
          have h2 := Tm.sizes_take_succ l j hjl
          have h3 := Tm.sizes_take_le l (j + 1)
          have h4 := HMAX.out
          simp only [Tm.size] at h4
          rw [ht] at h2
          omega
        obtain ⟨Lj, hLj⟩ : ∃ Lj, prsTs L (l.take j) (us.take j) = Lj := ⟨_, rfl⟩
        rw [hLj] at hC2 hpre
        have hwz1 : W1.heap.size ≤ wz.heap.size := hF2.size
        have hal2 := (Below.refl wz.heap.size wz).alloc (Nat.le_refl _) (Obj.cells #[.int .i64 t.kind, .string t.name, .int .i64 t.n, .slice gx t.args.length cx] 24 (0, 0))
        have hcall := hih u Lj (wz.alloc (Obj.cells #[.int .i64 t.kind, .string t.name, .int .i64 t.n, .slice gx t.args.length cx] 24 (0, 0))).drew B lo pb gb vp xs2 _ _ (hC2.next hal2.drew) (Tm.inn_below hix hal2.drew (by omega)) (Tm.inn_below hiy hal2.drew (by omega)) hpre
        have HCALL := Lib.hid hcall
        have HAL2 := Lib.hid hal2.drew
        have HC2 := Lib.hid hC2
        have HF2 := Lib.hid hF2
        have HOWN := Lib.hid hown
        have HCELLS := Lib.hid hcells
        have HSEP := Lib.hid hsep
        have HT := Lib.hid ht
        have HU := Lib.hid hu
        have HLJ := Lib.hid hLj
        have lpz : p < wz.heap.size := by omega
        have lpz' : p' < wz.heap.size := by omega
        have lyz : W.heap.size + 1 < wz.heap.size := by omega
        have lgz : gb < wz.heap.size := by omega
        clear hC2 hF2 hown hcells hsep hih hcall hal2 hX hix hiy ht hu hLj hbw
        go_wp2_with fail
        have hnb := row4 (newBlk wz (Obj.cells #[.int .i64 t.kind, .string t.name, .int .i64 t.n, .slice gx t.args.length cx] 24 (0, 0)) _ rfl)
        have hs0 : (fun W' : World => W'.cell? ⟨wz.heap.size, 0, none⟩ = some (.int .i64 t.kind) ∧ W'.cell? ⟨wz.heap.size, 1, none⟩ = some (.string t.name) ∧ W'.cell? ⟨wz.heap.size, 2, none⟩ = some (.int .i64 t.n) ∧ W'.cell? ⟨wz.heap.size, 3, none⟩ = some (.slice gx t.args.length cx) ∧ W'.cell? ⟨W.heap.size + 1, 3, none⟩ = some (.slice (some ⟨p', po', none⟩) m cb) ∧ W'.cell? ⟨p', po' + j * 4, none⟩ = some (.int .i64 u.kind) ∧ W'.cell? ⟨p', po' + j * 4 + 1, none⟩ = some (.string u.name) ∧ W'.cell? ⟨p', po' + j * 4 + 2, none⟩ = some (.int .i64 u.n) ∧ W'.cell? ⟨p', po' + j * 4 + 3, none⟩ = some (.slice gy u.args.length cy) ∧ W'.cell? ⟨gb, 0, none⟩ = some (.func (.func 66) #[] #[.pointer (some ⟨pb, 0, none⟩), .pointer (some ⟨gb, 0, none⟩)])) (wz.alloc (Obj.cells #[.int .i64 t.kind, .string t.name, .int .i64 t.n, .slice gx t.args.length cx] 24 (0, 0))).drew :=
          s10_keep (W := wz.alloc (Obj.cells #[.int .i64 t.kind, .string t.name, .int .i64 t.n, .slice gx t.args.length cx] 24 (0, 0))) rfl rfl rfl rfl ⟨hnb.1.1, hnb.1.2.1, hnb.1.2.2.1, hnb.1.2.2.2, (World.cell?_alloc_lt _ _ _ lyz).trans y3, (World.cell?_alloc_lt _ _ _ lpz').trans d0, (World.cell?_alloc_lt _ _ _ lpz').trans d1, (World.cell?_alloc_lt _ _ _ lpz').trans d2, (World.cell?_alloc_lt _ _ _ lpz').trans d3, (World.cell?_alloc_lt _ _ _ lgz).trans kg0⟩
        have HS0 := Lib.hid hs0
        obtain ⟨i0, hi, hz0, hz1, hz2⟩ := info_parts Try.infoTm
        clear hs0 hnb c0 c1 c2 c3 d0 d1 d2 d3 y3 kg0
        refine wp_region_held_drew (S := fun W' => W'.cell? ⟨wz.heap.size, 0, none⟩ = some (.int .i64 t.kind) ∧ W'.cell? ⟨wz.heap.size, 1, none⟩ = some (.string t.name) ∧ W'.cell? ⟨wz.heap.size, 2, none⟩ = some (.int .i64 t.n) ∧ W'.cell? ⟨wz.heap.size, 3, none⟩ = some (.slice gx t.args.length cx) ∧ W'.cell? ⟨W.heap.size + 1, 3, none⟩ = some (.slice (some ⟨p', po', none⟩) m cb) ∧ W'.cell? ⟨p', po' + j * 4, none⟩ = some (.int .i64 u.kind) ∧ W'.cell? ⟨p', po' + j * 4 + 1, none⟩ = some (.string u.name) ∧ W'.cell? ⟨p', po' + j * 4 + 2, none⟩ = some (.int .i64 u.n) ∧ W'.cell? ⟨p', po' + j * 4 + 3, none⟩ = some (.slice gy u.args.length cy) ∧ W'.cell? ⟨gb, 0, none⟩ = some (.func (.func 66) #[] #[.pointer (some ⟨pb, 0, none⟩), .pointer (some ⟨gb, 0, none⟩)])) (by kernel_rfl) HS0.out (fun hHeld => ?_)
        clear HS0
        refine wpAnyH_take (i := 0) (oi := _) (v := ?_) rfl (by kernel_rfl) (by kernel_rfl) (by kernel_rfl) (fun _ _ _ h => h) (Or.inl ⟨by rfl, ?_⟩) hHeld ?_
        rotate_left
        · (intro w hSw; (try dsimp only at hSw); go_simp; try with_reducible rfl)
        try simp only [Act.put, List.setIfInBounds_toArray, List.set_cons_zero, List.set_cons_succ, List.getElem_toArray, List.getElem_cons_zero]
        refine wpAnyH_take (i := 1) (oi := _) (v := ?_) rfl (by kernel_rfl) (by kernel_rfl) (by kernel_rfl) (fun _ _ _ h => h) (Or.inl ⟨by rfl, ?_⟩) hHeld ?_
        rotate_left
        · (intro w hSw; (try dsimp only at hSw); go_simp; try with_reducible rfl)
        try simp only [Act.put, List.setIfInBounds_toArray, List.set_cons_zero, List.set_cons_succ, List.getElem_toArray, List.getElem_cons_zero, List.getElem_cons_succ]
        refine wpAnyH_take (i := 2) (oi := _) (v := ?_) rfl (by kernel_rfl) (by kernel_rfl) (by kernel_rfl) (fun _ _ _ h => h) (Or.inl ⟨by rfl, ?_⟩) hHeld ?_
        rotate_left
        · (intro w hSw; (try dsimp only at hSw); go_simp; try with_reducible rfl)
        try simp only [Act.put, List.setIfInBounds_toArray, List.set_cons_zero, List.set_cons_succ, List.getElem_toArray, List.getElem_cons_zero, List.getElem_cons_succ]
        refine wpAnyH_take (i := 3) (oi := _) (v := ?_) rfl (by kernel_rfl) (by kernel_rfl) (by kernel_rfl) (fun _ _ _ h => h) (Or.inl ⟨by rfl, ?_⟩) hHeld ?_
        rotate_left
        · (intro w hSw; (try dsimp only at hSw); go_simp; try with_reducible rfl)
        try simp only [Act.put, List.setIfInBounds_toArray, List.set_cons_zero, List.set_cons_succ, List.getElem_toArray, List.getElem_cons_zero, List.getElem_cons_succ]
        refine wpAnyH_take (i := 4) (oi := _) (v := ?_) rfl (by kernel_rfl) (by kernel_rfl) (by kernel_rfl) (fun _ _ _ h => h) (Or.inl ⟨by rfl, ?_⟩) hHeld ?_
        rotate_left
        · (intro w hSw; (try dsimp only at hSw); go_simp; try with_reducible rfl)
        try simp only [Act.put, List.setIfInBounds_toArray, List.set_cons_zero, List.set_cons_succ, List.getElem_toArray, List.getElem_cons_zero, List.getElem_cons_succ]
        refine wpAnyH_take (i := 5) (oi := _) (v := ?_) rfl (by kernel_rfl) (by kernel_rfl) (by kernel_rfl) (fun _ _ _ h => h) (Or.inl ⟨by rfl, ?_⟩) hHeld ?_
        rotate_left
        · (intro w hSw; (try dsimp only at hSw); go_simp; try with_reducible rfl)
        try simp only [Act.put, List.setIfInBounds_toArray, List.set_cons_zero, List.set_cons_succ, List.getElem_toArray, List.getElem_cons_zero, List.getElem_cons_succ]
        refine wpAnyH_take (i := 6) (oi := _) (v := ?_) rfl (by kernel_rfl) (by kernel_rfl) (by kernel_rfl) (fun _ _ _ h => h) (Or.inl ⟨by rfl, ?_⟩) hHeld ?_
        rotate_left
        · (intro w hSw; (try dsimp only at hSw); go_simp; try with_reducible rfl)
        try simp only [Act.put, List.setIfInBounds_toArray, List.set_cons_zero, List.set_cons_succ, List.getElem_toArray, List.getElem_cons_zero, List.getElem_cons_succ]
        refine wpAnyH_take (i := 7) (oi := _) (v := ?_) rfl (by kernel_rfl) (by kernel_rfl) (by kernel_rfl) (fun _ _ _ h => h) (Or.inl ⟨by rfl, ?_⟩) hHeld ?_
        rotate_left
        · (intro w hSw; (try dsimp only at hSw); go_simp; try with_reducible rfl)
        try simp only [Act.put, List.setIfInBounds_toArray, List.set_cons_zero, List.set_cons_succ, List.getElem_toArray, List.getElem_cons_zero, List.getElem_cons_succ]
        refine wpAnyH_ready (rs := [8]) (by kernel_rfl) (by simp) ?_
        refine AllReadyH.cons (o := _) rfl (fun K hK => ?_) AllReadyH.nil
        go_simp
        refine HCALL.out.mono ?_
        rintro e W2 ⟨v2, xs3, g2, c2, rfl, hC3, hF3, hP3⟩
        obtain ⟨X, hX⟩ : ∃ X, t.gen (prsT Lj t u) u = X := ⟨_, rfl⟩
        rw [hX] at hP3 ⊢
        have hz3 : wz.heap.size + 1 ≤ W2.heap.size := by have := hF3.size; simpa using this
        have hblk : ∀ q, q < wz.heap.size + 1 → q ≠ pb → vp.ownBlock ≠ some q → W2.heap[q]? = (wz.alloc (Obj.cells #[.int .i64 t.kind, .string t.name, .int .i64 t.n, .slice gx t.args.length cx] 24 (0, 0))).drew.heap[q]? := fun q h1 h2 h3 => hF3.block q (by simpa using h1) h2 h3
        have nvp : ∀ q, vp.ownBlock = some q → lo ≤ q ∧ q < wz.heap.size ∧ q ≠ W.heap.size + 1 := fun q e => ⟨(HC2.out.own q e).1, (HC2.out.own q e).2, fun e' => by
          rcases HF2.out.own q e with h1 | h1
          · have := HV.out q h1; omega
          · omega⟩
        have n8 : ∀ q, u8.ownBlock = some q → W1.heap.size ≤ q ∧ q < wz.heap.size := fun q e => HOWN.out.lt q e
        have hlpb := HC.out.hpl
        have hlgb := HC.out.hgl
        have hBpb := HC.out.hBp
        have hgp := HC.out.hne
        have hloW := HC.out.lo'
        have hsA := s10_keep (W := (wz.alloc (Obj.cells #[.int .i64 t.kind, .string t.name, .int .i64 t.n, .slice gx t.args.length cx] 24 (0, 0))).drew) (W' := W2) (hblk _ (by omega) (by omega) (fun e => by have := nvp _ e; omega)) (hblk _ (by omega) (by omega) (fun e => by have := nvp _ e; omega)) (hblk _ (by omega) (by omega) (fun e => by have := nvp _ e; omega)) (hblk _ (by omega) hgp (fun e => by have := nvp _ e; omega)) hHeld
        have HSA := Lib.hid hsA
        have hown2 : W2.ownsRow W1.heap.size 24 4 u8 j ys := ownsRow_block HOWN.out fun q e => (hblk q (by have := n8 q e; omega) (by have := n8 q e; omega) (HSEP.out q e)).trans (by show (wz.alloc _).heap[q]? = _; exact Below.heap_alloc _ _ _ (n8 q e).2)
        have HOWN2 := Lib.hid hown2
        have HC3 := Lib.hid hC3
        have HF3 := Lib.hid hF3
        have HP3 := Lib.hid hP3
        have HX := Lib.hid hX
        clear hblk hsA hown2 hC3 hF3 hP3 hX
        go_wp2_with fail
        refine hK.out _ _ (HSA.out) (fun hHeld => ?_)
        clear hK K HSA
        try simp only [Act.put, List.setIfInBounds_toArray, List.set_cons_zero, List.set_cons_succ, List.getElem_toArray, List.getElem_cons_zero, List.getElem_cons_succ]
        refine wpAnyH_ready (rs := [9]) (by kernel_rfl) (by simp) ?_
        refine AllReadyH.cons (o := _) rfl (fun K hK => ?_) AllReadyH.nil
        go_simp
        refine hK.out _ _ (s10_keep (Below.heap_alloc _ _ _ (by omega)) (Below.heap_alloc _ _ _ (by omega)) (Below.heap_alloc _ _ _ (by omega)) (Below.heap_alloc _ _ _ (by omega)) hHeld) (fun hHeld => ?_)
        clear hK K
        try simp only [Act.put, List.setIfInBounds_toArray, List.set_cons_zero, List.set_cons_succ, List.getElem_toArray, List.getElem_cons_zero, List.getElem_cons_succ]
        refine wpAnyH_ready (rs := [10]) (by kernel_rfl) (by simp) ?_
        refine AllReadyH.cons (o := _) rfl (fun K hK => ?_) AllReadyH.nil
        refine step_append_term (by rfl) _ _ _ (by rfl) W1.heap.size 24 i0 _ 56 Try.underlying22 hi hz0 hz1 hz2 rfl u8 j ys (by rfl) (HOWN2.out.alloc _) _ 1 [.int .i64 X.kind, .string X.name, .int .i64 X.n, .slice g2 X.args.length c2] (by rfl) rfl news4 one4 (by unfold maxLen; omega) (by omega) (by simp; omega) ?_
        intro g3 c3 w3 hown3 hgrow hsep3
        have hb3 : ∀ q, q < W2.heap.size + 1 → u8.ownBlock ≠ some q → w3.heap[q]? = _ := fun q h1 h2 => hgrow.block q (by simpa using h1) (fun e => h2 e.symm)
        refine hK.out _ _ (s10_keep (hb3 _ (by omega) (fun e => by have := n8 _ e; omega)) (hb3 _ (by omega) (fun e => by have := n8 _ e; omega)) (hb3 _ (by omega) (fun e => by have := n8 _ e; omega)) (hb3 _ (by omega) (fun e => by have := n8 _ e; omega)) hHeld) (fun hHeld => ?_)
        clear hK K hb3
        try simp only [Act.put, List.setIfInBounds_toArray, List.set_cons_zero, List.set_cons_succ, List.getElem_toArray, List.getElem_cons_zero, List.getElem_cons_succ]
        refine wpAnyH_ready (rs := [11]) (by kernel_rfl) (by simp) ?_
        refine AllReadyH.cons (o := _) rfl (fun K hK => ?_) AllReadyH.nil
        go_simp
        refine hK.out _ _ (hHeld) (fun hHeld => ?_)
        clear hK K
        try simp only [Act.put, List.setIfInBounds_toArray, List.set_cons_zero, List.set_cons_succ, List.getElem_toArray, List.getElem_cons_zero, List.getElem_cons_succ]
        refine wpAnyH_done (by kernel_rfl) ?_ _
        go_wp2_with fail
        go_roundw
        case rel => exact ⟨j + 1, by omega, by go_num, GL.step hjl (by rw [HM1.out, HM2.out]) HT.out HU.out HLJ.out HF2.out HOWN.out HCELLS.out HSEP.out (by omega) HAL2.out HC3.out HF3.out HX.out HP3.out hown3 hgrow hsep3⟩
        case measure => simp [intOf]; omega
      · obtain rfl : j = m := by omega
        have hX : GBox W (Tm.mk k s n l) (Tm.mk k' s' n' us) (.slice ga j ca) (.slice gb' j cb) wz := by
          obtain ⟨vp, xs2, ys, hC2, hF2, _⟩ := HGL.out
          exact HX1.out.fr hF2 hpW HV.out
        have hsl : ∃ g8 c8, u8 = .slice g8 j c8 := by
          obtain ⟨vp, xs2, ys, hC2, hF2, hown, _⟩ := HGL.out
          rcases hown.2 with ⟨e, h0⟩ | ⟨q, cap, cur, e, _⟩
          · exact ⟨none, 0, by rw [e, h0]⟩
          · exact ⟨_, _, e⟩
        obtain ⟨g8, c8, rfl⟩ := hsl
        obtain ⟨⟨a0, a1, a2, a3⟩, _⟩ := row4 hX.ba
        obtain ⟨⟨r0, r1, r2, r3⟩, f0, f1, f2, f3⟩ := row4 hX.br
        simp only [mk_kind, mk_name, mk_n] at a0 a1 a2 a3
        have lr2 : W.heap.size + 2 < wz.heap.size := by have := hX.size; omega
        have la2 : W.heap.size < wz.heap.size := by omega
        clear hX hlt hj
        go_wp2_with fail
        refine bodyPost_ret (v := .agg #[.int .i64 k, .string s, .int .i64 n, .slice g8 j c8]) (by simp [results, Try.results66, go_sem, r0, r1, r2, r3]) rfl ?_
        obtain ⟨v', xs', h1, h2, h3⟩ := GL.done (wf := ((((wz.setCell ⟨W.heap.size + 2, 0, none⟩ (.int .i64 k)).setCell ⟨W.heap.size + 2, 1, none⟩ (.string s)).setCell ⟨W.heap.size + 2, 2, none⟩ (.int .i64 n)).setCell ⟨W.heap.size + 2, 3, none⟩ (.slice g8 j c8))) (r := W.heap.size + 2) HM1.out HM2.out hm6 HGL.out (by omega) (by have := HC.out.lo'; omega) (fun e => by have := HV.out _ e; omega) rfl rfl rfl (by simp) (fun q hq => set4_other _ _ _ _ _ _ q hq) W (by omega) (GFr.of HB1.out pb (.slice gp L.length cp))
        have hgl : (Tm.gens (prsTs L l us) l us).length = j := by rw [gens_length _ l us (by rw [HM1.out, HM2.out]), HM1.out]
        exact ⟨v', xs', g8, c8, by simp only [mk_kind, mk_name, mk_n, mk_args, hgl], h1, h2, by simp only [mk_args, hgl]; exact Tm.innP_mk.2 ⟨HHEAD.out, h3⟩⟩
end Go.Proofs.Ytjbicfimoiiglaa
