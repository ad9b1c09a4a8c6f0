/-
  The program's reader in memory; what a call of its writes.
  The program's reader: the token ahead, passing tokens; terms without Args.
  The program's operators: looked up in a map that is made once.
  The program's reader: negative numbers, what begins a term, variables.
  The program's variables: the place of a text, or one more text.
-/
import Derived.Test.YtkjnjahmlobjiaaGreatDoorG09
import Derived.Test.YtkjnjahmlobjiaaGreatDoorG14
import Derived.Test.YtkjnjahmlobjiaaGreatDoorOnc
import Derived.Deep.RegionWith
namespace Go.Proofs.YtkjnjahmlobjiaaGreatDoor
open Go.RowKit

theorem FrP.set (W : World) (b o : Nat) (v : Value) : FrP (fun x => x = b) W (W.setCell ⟨b, o, none⟩ v) := (FrP.of_grown (grown_set W b o v)).mono (fun x _ e => by injection e)
theorem FrP.put (W : World) (b : Nat) (k : Int) (nm : ByteArray) (n : Int) (sv : Value) : FrP (fun x => x = b) W (set4 W b k nm n sv) := (FrP.of_grown (set4_grown W b k nm n sv)).mono (fun x _ e => by injection e)
/-- What lies in blocks that are not left alone stays. -/
theorem okN_mv {P X X' : Nat → Prop} {W W' : World} (hf : FrP P W W') (hX : ∀ b, X' b → X b ∨ W.heap.size ≤ b) (b : Nat) (h : okN X W b) : okN X' W' b :=
  ⟨fun hx => by rcases hX b hx with h1 | h1; exact h.1 h1; have := h.2; omega, Nat.lt_of_lt_of_le h.2 hf.size⟩
theorem cell_mv {P X : Nat → Prop} {W W' : World} (hf : FrP P W W') (hP : ∀ b, P b → X b) (b o : Nat) (v : Value) (hb : okN X W b) (h : W.cell? ⟨b, o, none⟩ = some v) : W'.cell? ⟨b, o, none⟩ = some v := hf.cell h (fun hp => hb.1 (hP b hp))
theorem TV.mv {P X X' : Nat → Prop} {W W' : World} {u : Option Tm} {k : Int} {nm : ByteArray} {n : Int} {sv : Value} (h : TV X W u k nm n sv) (hf : FrP P W W') (hP : ∀ b, P b → X b) (hX : ∀ b, X' b → X b ∨ W.heap.size ≤ b) : TV X' W' u k nm n sv := by
  refine ⟨h.1, h.2.1, h.2.2.1, fun t ht => ?_⟩
  obtain ⟨h1, h2, h3, h4⟩ := h.2.2.2 t ht
  exact ⟨h1, h2, h3, Tm.innP_same (okN_mv hf hX) (cell_mv hf hP) t sv h4⟩
theorem slP_mv {P X X' : Nat → Prop} {W W' : World} {l : List Tm} {sv : Value} (h : Tm.sliceP W (okN X W) l sv) (hf : FrP P W W') (hP : ∀ b, P b → X b) (hX : ∀ b, X' b → X b ∨ W.heap.size ≤ b) : Tm.sliceP W' (okN X' W') l sv :=
  Tm.sliceP_same (fun t _ sv' ht => Tm.innP_same (okN_mv hf hX) (cell_mv hf hP) t sv' ht) (okN_mv hf hX) (cell_mv hf hP) h
theorem RowJ.mv {P X X' : Nat → Prop} {W W' : World} {m : Nat} {sv : Value} (h : RowJ X W m sv) (hf : FrP P W W') (hP : ∀ b, P b → X b) (hX : ∀ b, X' b → X b ∨ W.heap.size ≤ b) : RowJ X' W' m sv := by
  obtain ⟨b, off, c, rfl, hc, hb, h⟩ := h
  refine ⟨b, off, c, rfl, hc, okN_mv hf hX b hb, fun i hi => ?_⟩
  obtain ⟨k, nm, n, g', m', c', h0, h1, h2, h3⟩ := h i hi
  exact ⟨k, nm, n, g', m', c', cell_mv hf hP b _ _ hb h0, cell_mv hf hP b _ _ hb h1, cell_mv hf hP b _ _ hb h2, cell_mv hf hP b _ _ hb h3⟩
theorem toksP_mv {P X X' : Nat → Prop} {W W' : World} {l : Toks} {sv : Value} (h : toksP W (okN X W) l sv) (hf : FrP P W W') (hP : ∀ b, P b → X b) (hX : ∀ b, X' b → X b ∨ W.heap.size ≤ b) : toksP W' (okN X' W') l sv := by
  obtain ⟨g, cap, e, h9⟩ := toksP_same (cell_mv hf hP) h
  refine ⟨g, cap, e, ?_⟩
  rcases h9 with h9 | ⟨b, off, e1, hb', h9⟩
  · exact .inl h9
  · exact .inr ⟨b, off, e1, okN_mv hf hX b hb', h9⟩
theorem ownsRow_mv {P : Nat → Prop} {W W' : World} {base : Nat} {e : TypeId} {size : Nat} {v : Value} {n : Nat} {xs : List Value} (h : W.ownsRow base e size v n xs) (hf : FrP P W W') (hv : ∀ b, v.ownBlock = some b → ¬ P b) : W'.ownsRow base e size v n xs := by
  refine ⟨h.1, ?_⟩
  rcases h.2 with h1 | ⟨g, cap, cur, e1, h2, h3, h4⟩
  · exact .inl h1
  · exact .inr ⟨g, cap, cur, e1, h2, (hf.block g (Array.getElem?_eq_some_iff.1 h3).1 (hv g (by rw [e1]; rfl))).trans h3, h4⟩
/-- The tokens' slice, as it lies: from its place in the block to its end. -/
def tokS (W : World) (ok : Nat → Prop) (ts : Toks) (sv : Value) : Prop := toksP W ok ts sv ∧ ∃ g n c, sv = .slice g n c ∧ n ≤ c ∧ c ≤ 9223372036854775807
/-- The program's reader: the tokens to come, the variables' texts; its operators. -/
structure PRd (X : Nat → Prop) (W : World) (rb z : Nat) (ts : Toks) (ns : Names) (nv : Value) : Prop where
  cells : ∃ tv mv, ∃ d q : Int, W.heap[rb]? = some (.cells #[tv, .int .i64 (z : Nat), nv, .int .u32 d, .int .i32 0, .int .u32 q, mv] 101 (0, 0)) ∧ tokS W (okN X W) ts tv ∧
    ((d = 0 ∧ mv = .map none) ∨ (d = 1 ∧ ∃ mb, mv = .map (some mb) ∧ okN X W mb ∧ MapIs W mb opsN))
  nms : W.ownsRow 0 9 1 nv ns.length (ns.map fun x => Value.string ⟨x.toArray⟩)
  nvx : ∀ b, nv.ownBlock = some b → X b ∧ b ≠ rb
  own : X rb
  old : ∀ b, X b → b < W.heap.size
theorem PRd.lt {X : Nat → Prop} {W : World} {rb z : Nat} {ts : Toks} {ns : Names} {nv : Value} (h : PRd X W rb z ts ns nv) : rb < W.heap.size := h.old rb h.own
theorem PRd.mv {P X X' : Nat → Prop} {W W' : World} {rb z : Nat} {ts : Toks} {ns : Names} {nv : Value} (h : PRd X W rb z ts ns nv) (hf : FrP P W W') (hP : ∀ b, P b → X b ∧ b ≠ rb ∧ nv.ownBlock ≠ some b) (hX : ∀ b, X' b → X b ∨ (W.heap.size ≤ b ∧ b < W'.heap.size)) (hr : X' rb) (hn : ∀ b, nv.ownBlock = some b → X' b) : PRd X' W' rb z ts ns nv := by
  have hX1 : ∀ b, X' b → X b ∨ W.heap.size ≤ b := fun b hx => (hX b hx).imp id And.left
  have hP1 : ∀ b, P b → X b := fun b hp => (hP b hp).1
  obtain ⟨tv, mv, d, q, hc, ⟨ht, ht2⟩, hm⟩ := h.cells
  refine ⟨⟨tv, mv, d, q, (hf.block rb h.lt (fun hp => (hP rb hp).2.1 rfl)).trans hc, ⟨toksP_mv ht hf hP1 hX1, ht2⟩, ?_⟩, ownsRow_mv h.nms hf (fun b hb hp => (hP b hp).2.2 hb), fun b hb => ⟨hn b hb, (h.nvx b hb).2⟩, hr, fun b hx => ?_⟩
  · rcases hm with hm | ⟨hd, mb, e, hb, hm⟩
    · exact .inl hm
    · exact .inr ⟨hd, mb, e, okN_mv hf hX1 mb hb, hm.same (hf.block mb hb.2 (fun hp => hb.1 (hP1 mb hp)))⟩
  · rcases hX b hx with h1 | h1
    · exact Nat.lt_of_lt_of_le (h.old b h1) hf.size
    · exact h1.2
theorem PRd.next {X : Nat → Prop} {W W' : World} {rb z : Nat} {ts : Toks} {ns : Names} {nv : Value} (h : PRd X W rb z ts ns nv) (hb : Below W.heap.size W W') : PRd X W' rb z ts ns nv :=
  h.mv (FrP.of_below hb) (fun _ hp => hp.elim) (fun _ hx => .inl hx) h.own (fun b hb => (h.nvx b hb).1)
theorem PRd.dn {X : Nat → Prop} {W : World} {rb z : Nat} {ts : Toks} {ns : Names} {nv : Value} (h : PRd X W rb z ts ns nv) (k : Nat) : PRd X (W.drewN k) rb z ts ns nv :=
  h.mv (FrP.dn W k) (fun _ hp => hp.elim) (fun _ hx => .inl hx) h.own (fun b hb => (h.nvx b hb).1)
/-- A store into a box of a caller's. -/
theorem PRd.other {X : Nat → Prop} {W W' : World} {rb z tb : Nat} {ts : Toks} {ns : Names} {nv : Value} (h : PRd X W rb z ts ns nv) (hf : FrP (fun b => b = tb) W W') (ht : X tb) (hne : tb ≠ rb) (hn : nv.ownBlock ≠ some tb) : PRd X W' rb z ts ns nv :=
  h.mv hf (fun b hp => by subst hp; exact ⟨ht, hne, hn⟩) (fun _ hx => .inl hx) h.own (fun b hb => (h.nvx b hb).1)
/-- More is left alone: what is new. -/
theorem PRd.ext {X X' : Nat → Prop} {W W' : World} {rb z : Nat} {ts : Toks} {ns : Names} {nv : Value} (h : PRd X W rb z ts ns nv) (hb : Below W.heap.size W W') (hX : ∀ b, X' b → X b ∨ (W.heap.size ≤ b ∧ b < W'.heap.size)) (hx : ∀ b, X b → X' b) : PRd X' W' rb z ts ns nv :=
  h.mv (FrP.of_below hb) (fun _ hp => hp.elim) hX (hx rb h.own) (fun b hb => hx b (h.nvx b hb).1)
theorem PRd.less {X X' : Nat → Prop} {W : World} {rb z : Nat} {ts : Toks} {ns : Names} {nv : Value} (h : PRd X' W rb z ts ns nv) (hX : ∀ b, X b → X' b) (hr : X rb) (hn : ∀ b, nv.ownBlock = some b → X b) : PRd X W rb z ts ns nv :=
  h.mv (FrP.refl (fun _ => False) W) (fun _ hp => hp.elim) (fun b hx => .inl (hX b hx)) hr hn
/-- What a call of the reader's writes. -/
def wrt (rb : Nat) (nv : Value) (b : Nat) : Prop := b = rb ∨ nv.ownBlock = some b
/-- What is left alone behind it: the block of the texts, too. -/
def XN (X : Nat → Prop) (nv : Value) (b : Nat) : Prop := X b ∨ nv.ownBlock = some b
def NvN (W : World) (nv nv' : Value) : Prop := ∀ b, nv'.ownBlock = some b → nv.ownBlock = some b ∨ W.heap.size ≤ b
theorem NvN.refl (W : World) (nv : Value) : NvN W nv nv := fun _ h => .inl h
theorem NvN.trans {P : Nat → Prop} {W W1 : World} {nv n1 n2 : Value} (h : NvN W nv n1) (g : NvN W1 n1 n2) (hf : FrP P W W1) : NvN W nv n2 := fun b hb => by
  rcases g b hb with h1 | h1
  · exact h b h1
  · have := hf.size
    exact .inr (by omega)
/-- How a call of the reader's ends: the tokens to come, the error. -/
structure PEnd {α : Type} (X : Nat → Prop) (W : World) (rb z : Nat) (nv : Value) (S : List UInt8) (r : RRes α) (c : Nat) (nv' : Value) (W' : World) : Prop where
  rd : ∃ ts' ns', PRd (XN X nv') W' rb z ts' ns' nv' ∧ (match r with | .ok (_, ts, ns) => c = 0 ∧ ts' = ts ∧ ns' = ns | .error (k, pl) => c = k ∧ (k = 2 ∨ k = 3) ∧ placeT S ts' = pl)
  nvn : NvN W nv nv'
  fr : FrP (wrt rb nv) W W'
/-- The tokens of a text: what the program's reader leans on. -/
structure Fact (S : List UInt8) (x : Tk × Nat) (r : Toks) : Prop where
  kind : 1 ≤ x.1.kind ∧ x.1.kind ≤ 5
  pref : prefP x.1.text ≠ 0 → x.1.kind = 1
  infx : (infixP x.1.text).1 ≠ 0 → x.1.kind = 1 ∨ (x.1.kind = 4 ∧ x.1.text = [44])
  opn : x.1.kind = 1 → x.1.opn = true → seeT 40 r = true
  neg : x.1.text = [45] → numAt (x.2 + 1) r = true → S[x.2]? = some 45
  up : x.1.kind = 2 → x.1.text ≠ []
  len : x.1.text.length ≤ 1000000
  num : x.1.n ≤ 9223372036854775807
  at' : x.2 < 1000000
def Good (S : List UInt8) (ts : Toks) : Prop := ∀ u x r, ts = u ++ x :: r → Fact S x r
theorem Good.tail {S : List UInt8} {x : Tk × Nat} {r : Toks} (h : Good S (x :: r)) : Good S r := fun u y q e => h (x :: u) y q (by rw [e]; rfl)
theorem Good.head {S : List UInt8} {x : Tk × Nat} {r : Toks} (h : Good S (x :: r)) : Fact S x r := h [] x r rfl
theorem Good.suf {S : List UInt8} {ts ts' : Toks} (h : Good S ts) (hs : ∃ u, ts = u ++ ts') : Good S ts' := fun u x r e => by
  obtain ⟨v, hv⟩ := hs
  exact h (v ++ u) x r (by rw [hv, e, List.append_assoc])
/-- No variable is called '_'. -/
def NoUs (ns : Names) : Prop := ([95] : List UInt8) ∉ ns
/-- What stands ahead of a call of the reader's: not too many tokens, enough fuel. -/
structure PIn (S : List UInt8) (z f k : Nat) (ts : Toks) (ns : Names) : Prop where
  good : Good S ts
  us : NoUs ns
  room : 4 * ts.length + k ≤ f
  names : ns.length + ts.length ≤ 2000000
  len : ts.length ≤ 1000000
  zs : z = S.length
  zl : z ≤ 1000000
end Go.Proofs.YtkjnjahmlobjiaaGreatDoor

namespace Go.Proofs.YtkjnjahmlobjiaaGreatDoor
open Go.RowKit

def tkV (x : Tk × Nat) : Value := .agg #[.int .i64 (x.1.kind : Nat), .string ⟨x.1.text.toArray⟩, .int .i64 (x.1.n : Nat), .int .i64 (x.2 : Nat), .bool x.1.opn]
/-- The token that n others precede. -/
def tkAt (z : Nat) (ts : Toks) (n : Nat) : Tk × Nat := (ts[n]?).getD (⟨0, [], 0, false⟩, z)
theorem row7 {w : World} {b : Nat} {a0 a1 a2 a3 a4 a5 a6 : Value} {t : TypeId} (h : w.heap[b]? = some (Obj.cells #[a0, a1, a2, a3, a4, a5, a6] t (0, 0))) :
    (w.cell? ⟨b, 0, none⟩ = some a0 ∧ w.cell? ⟨b, 1, none⟩ = some a1 ∧ w.cell? ⟨b, 2, none⟩ = some a2 ∧ w.cell? ⟨b, 3, none⟩ = some a3 ∧ w.cell? ⟨b, 4, none⟩ = some a4 ∧ w.cell? ⟨b, 5, none⟩ = some a5 ∧ w.cell? ⟨b, 6, none⟩ = some a6) ∧
    (w.frozen? ⟨b, 0, none⟩ = false ∧ w.frozen? ⟨b, 1, none⟩ = false ∧ w.frozen? ⟨b, 2, none⟩ = false ∧ w.frozen? ⟨b, 3, none⟩ = false ∧ w.frozen? ⟨b, 4, none⟩ = false ∧ w.frozen? ⟨b, 5, none⟩ = false ∧ w.frozen? ⟨b, 6, none⟩ = false) := by
  simp [World.cell?, World.frozen?, h]
set_option maxRecDepth 100000 in
set_option maxHeartbeats 2000000 in
theorem ahead_any {X : Nat → Prop} (W : World) (rb z : Nat) (ts : Toks) (ns : Names) (nv : Value) (n : Nat) (h : PRd X W rb z ts ns nv) (hn : n ≤ 1) (hl : ts.length ≤ 1000000) :
    Calls Tryz.prog 45 #[.pointer (some ⟨rb, 0, none⟩), .int .i64 (n : Nat)] W fun e W' => e = .returned (tkV (tkAt z ts n)) ∧ Below W.heap.size W W' := by
  obtain ⟨tv, mv, d, q, hblk, ⟨ht, g, m, c, rfl, hmc, hc⟩, -⟩ := h.cells
  obtain ⟨⟨c0, c1, c2, c3, c4, c5, c6⟩, f0, f1, f2, f3, f4, f5, f6⟩ := row7 hblk
  have hlt := h.lt
  obtain ⟨g', cap', e', -⟩ := id ht
  injection e' with e1 e2 e3
  subst e1 e2 e3
  by_cases hlen : n < ts.length
  · obtain ⟨b, off, cap, e1, hb, x0, x1, x2, x3, x4⟩ := toksP_at ht n hlen
    injection e1 with e1 _ e3
    subst e1 e3
    have hx : tkAt z ts n = ts[n] := by simp [tkAt, List.getElem?_eq_getElem hlen]
    obtain ⟨x, hx'⟩ : ∃ x, ts[n] = x := ⟨_, rfl⟩
    rw [hx, hx']
    rw [hx'] at x0 x1 x2 x3 x4
    have hbl : b < W.heap.size := hb.2
    have j0 : (0 : Int) ≤ (n : Int) := by omega
    have j1 : (n : Int) < (ts.length : Int) := by omega
    have jw : IntKind.i64.wrap (n : Int) = (n : Int) := by rw [IntKind.wrap_i64]; omega
    clear h hblk ht hb hx hx' f0 f1 f2 f3 f4 f5 f6 c2 c3 c4 c5 c6
    go_enter Tryz.func45, Tryz.ntmps45
    go_wp2_with fail
    have hb := (Below.refl W.heap.size W).alloc (Nat.le_refl _) (.cells #[.int .i64 (x.1.kind : Nat), .string ⟨x.1.text.toArray⟩, .int .i64 (x.1.n : Nat), .int .i64 (x.2 : Nat), .bool x.1.opn] 103)
    have hnw := newBlk W (.cells #[.int .i64 (x.1.kind : Nat), .string ⟨x.1.text.toArray⟩, .int .i64 (x.1.n : Nat), .int .i64 (x.2 : Nat), .bool x.1.opn] 103) W.heap.size rfl
    obtain ⟨V, hV⟩ : ∃ V, W.alloc (.cells #[.int .i64 (x.1.kind : Nat), .string ⟨x.1.text.toArray⟩, .int .i64 (x.1.n : Nat), .int .i64 (x.2 : Nat), .bool x.1.opn] 103) = V := ⟨_, rfl⟩
    rw [hV] at hb hnw ⊢
    obtain ⟨⟨z0, z1, z2, z3, z4⟩, -⟩ := row5t hnw
    clear hV hnw
    refine bodyPost_ret (v := tkV x) (by simp [results, Tryz.results45, go_sem, z0, z1, z2, z3, z4, tkV]) rfl ?_
    exact ⟨rfl, hb⟩
  · have hx : tkAt z ts n = (⟨0, [], 0, false⟩, z) := by simp [tkAt, List.getElem?_eq_none (by omega : ts.length ≤ n)]
    rw [hx]
    have j1 : ((n : Int) < (ts.length : Int)) = False := by simp only [eq_iff_iff, iff_false]; omega
    clear h hblk ht hx f0 f1 f2 f3 f4 f5 f6 c2 c3 c4 c5 c6
    go_enter Tryz.func45, Tryz.ntmps45
    go_wp2_with fail
    have hb := (Below.refl W.heap.size W).alloc (Nat.le_refl _) (.cells #[.int .i64 0, .string ⟨#[]⟩, .int .i64 0, .int .i64 (z : Nat), .bool false] 103)
    have hnw := newBlk W (.cells #[.int .i64 0, .string ⟨#[]⟩, .int .i64 0, .int .i64 (z : Nat), .bool false] 103) W.heap.size rfl
    obtain ⟨V, hV⟩ : ∃ V, W.alloc (.cells #[.int .i64 0, .string ⟨#[]⟩, .int .i64 0, .int .i64 (z : Nat), .bool false] 103) = V := ⟨_, rfl⟩
    rw [hV] at hb hnw ⊢
    obtain ⟨⟨z0, z1, z2, z3, z4⟩, -⟩ := row5t hnw
    clear hV hnw
    refine bodyPost_ret (v := tkV (⟨0, [], 0, false⟩, z)) (by simp [results, Tryz.results45, go_sem, z0, z1, z2, z3, z4, tkV]) rfl ?_
    exact ⟨rfl, hb⟩
theorem toksP_drop {W : World} {ok : Nat → Prop} {ts : Toks} {g : Option Addr} {c : Nat} (h : toksP W ok ts (.slice g ts.length c)) (n : Nat) (hn : n ≤ ts.length) (c' : Nat) : toksP W ok (ts.drop n) (.slice (g.map (fun x => x.add (n * 5))) (ts.length - n) c') := by
  refine ⟨g.map (fun x => x.add (n * 5)), c', by rw [List.length_drop], ?_⟩
  by_cases he : n = ts.length
  · exact .inl (List.drop_eq_nil_of_le (by omega))
  · obtain ⟨b, off, c2, e1, hb, _⟩ := toksP_at h n (by omega)
    injection e1 with e1 _ _
    subst e1
    refine .inr ⟨b, off + n * 5, by simp [Addr.add_lit], hb, fun i hi => ?_⟩
    rw [List.length_drop] at hi
    obtain ⟨b', off', c3, e2, _, x0, x1, x2, x3, x4⟩ := toksP_at h (n + i) (by omega)
    injection e2 with e2 _ _
    injection e2 with e2
    injection e2 with e3 e4 _
    subst e3 e4
    have e : (ts.drop n)[i]'(by rw [List.length_drop]; omega) = ts[n + i] := by simp
    have eo : off + n * 5 + i * 5 = off + (n + i) * 5 := by omega
    rw [e, eo]
    exact ⟨x0, x1, x2, x3, x4⟩
theorem toksP_none {W : World} {ok : Nat → Prop} {g : Option Addr} {c : Nat} : toksP W ok [] (.slice g 0 c) := ⟨g, c, rfl, .inl rfl⟩
/-- The reader's tokens are written. -/
theorem PRd.setTok {X : Nat → Prop} {W : World} {rb z : Nat} {ts ts' : Toks} {ns : Names} {nv sv' : Value} (h : PRd X W rb z ts ns nv) (ht : tokS W (okN X W) ts' sv') : PRd X (W.setCell ⟨rb, 0, none⟩ sv') rb z ts' ns nv := by
  obtain ⟨tv, mv, d, q, hc, -, hm⟩ := h.cells
  have hf := FrP.set W rb 0 sv'
  have hP : ∀ b, b = rb → X b := fun b e => by rw [e]; exact h.own
  have hX : ∀ b, X b → X b ∨ W.heap.size ≤ b := fun _ hx => .inl hx
  refine ⟨⟨sv', mv, d, q, set_blk hc, ⟨toksP_mv ht.1 hf hP hX, ht.2⟩, ?_⟩, ownsRow_mv h.nms hf (fun b hb e => (h.nvx b hb).2 e), h.nvx, h.own, fun b hx => Nat.lt_of_lt_of_le (h.old b hx) hf.size⟩
  rcases hm with hm | ⟨hd, mb, e, hb, hm⟩
  · exact .inl hm
  · exact .inr ⟨hd, mb, e, okN_mv hf hX mb hb, hm.same (hf.block mb hb.2 (fun hp => hb.1 (hP mb hp)))⟩
theorem ahead0_any {X : Nat → Prop} (W : World) (rb z : Nat) (ts : Toks) (ns : Names) (nv : Value) (x : Tk × Nat) (hx : tkAt z ts 0 = x) (h : PRd X W rb z ts ns nv) (hl : ts.length ≤ 1000000) :
    Calls Tryz.prog 45 #[.pointer (some ⟨rb, 0, none⟩), .int .i64 0] W fun e W' => e = .returned (.agg #[.int .i64 (x.1.kind : Nat), .string ⟨x.1.text.toArray⟩, .int .i64 (x.1.n : Nat), .int .i64 (x.2 : Nat), .bool x.1.opn]) ∧ Below W.heap.size W W' := by
  subst hx
  exact ahead_any W rb z ts ns nv 0 h (by omega) hl
theorem ahead1_any {X : Nat → Prop} (W : World) (rb z : Nat) (ts : Toks) (ns : Names) (nv : Value) (x : Tk × Nat) (hx : tkAt z ts 1 = x) (h : PRd X W rb z ts ns nv) (hl : ts.length ≤ 1000000) :
    Calls Tryz.prog 45 #[.pointer (some ⟨rb, 0, none⟩), .int .i64 1] W fun e W' => e = .returned (.agg #[.int .i64 (x.1.kind : Nat), .string ⟨x.1.text.toArray⟩, .int .i64 (x.1.n : Nat), .int .i64 (x.2 : Nat), .bool x.1.opn]) ∧ Below W.heap.size W W' := by
  subst hx
  exact ahead_any W rb z ts ns nv 1 h (by omega) hl
/-- Tokens are passed. -/
structure PassPost (X : Nat → Prop) (W : World) (rb z : Nat) (ts : Toks) (ns : Names) (nv : Value) (e : Ending) (W' : World) : Prop where
  ret : e = .returned (.tuple #[])
  rd : PRd X W' rb z ts ns nv
  fr : FrP (fun b => b = rb) W W'
set_option maxRecDepth 100000 in
set_option maxHeartbeats 2000000 in
theorem pass_any {X : Nat → Prop} (W : World) (rb z : Nat) (ts : Toks) (ns : Names) (nv : Value) (n : Nat) (h : PRd X W rb z ts ns nv) (hn : n ≤ ts.length) (hl : ts.length ≤ 1000000) :
    Calls Tryz.prog 62 #[.pointer (some ⟨rb, 0, none⟩), .int .i64 (n : Nat)] W fun e W' => PassPost X W rb z (ts.drop n) ns nv e W' := by
  obtain ⟨tv, mv, d, q, hblk, ⟨ht, g, m, c, rfl, hmc, hc⟩, hm⟩ := h.cells
  obtain ⟨⟨c0, c1, c2, c3, c4, c5, c6⟩, f0, f1, f2, f3, f4, f5, f6⟩ := row7 hblk
  have hlt := h.lt
  obtain ⟨g', cap', e', -⟩ := id ht
  injection e' with e1 e2 e3
  subst e1 e2 e3
  have H := Lib.hid h
  have HBLK := Lib.hid hblk
  have HT := Lib.hid ht
  have HM := Lib.hid hm
  have j0 : (0 : Int) ≤ (n : Int) := by omega
  have j1 : (n : Int) ≤ (ts.length : Int) := by omega
  have j2 : (ts.length : Int) ≤ (c : Int) := by omega
  have jw : IntKind.i64.wrap (n : Int) = (n : Int) := by rw [IntKind.wrap_i64]; omega
  clear h hblk ht hm
  by_cases hcn : c = n
  · go_enter Tryz.func62, Tryz.ntmps62
    go_wp2_with fail
    have hd : ts.drop n = [] := List.drop_eq_nil_of_le (by omega)
    have hz : ts.length - n = 0 := by omega
    rw [hd, hz]
    go_end0
    exact ⟨rfl, H.out.setTok ⟨toksP_none, _, _, _, rfl, Nat.le_refl _, by omega⟩, FrP.set _ _ _ _⟩
  · go_enter Tryz.func62, Tryz.ntmps62
    go_wp2_with fail
    go_end0
    exact ⟨rfl, H.out.setTok ⟨toksP_drop HT.out n hn _, _, _, _, rfl, by omega, by omega⟩, FrP.set _ _ _ _⟩
theorem pass1_any {X : Nat → Prop} (W : World) (rb z : Nat) (ts : Toks) (ns : Names) (nv : Value) (h : PRd X W rb z ts ns nv) (hn : 1 ≤ ts.length) (hl : ts.length ≤ 1000000) :
    Calls Tryz.prog 62 #[.pointer (some ⟨rb, 0, none⟩), .int .i64 1] W fun e W' => PassPost X W rb z ts.tail ns nv e W' := by
  rw [← List.drop_one]
  exact pass_any W rb z ts ns nv 1 h hn hl
theorem pass2_any {X : Nat → Prop} (W : World) (rb z : Nat) (ts : Toks) (ns : Names) (nv : Value) (h : PRd X W rb z ts ns nv) (hn : 2 ≤ ts.length) (hl : ts.length ≤ 1000000) :
    Calls Tryz.prog 62 #[.pointer (some ⟨rb, 0, none⟩), .int .i64 2] W fun e W' => PassPost X W rb z (ts.drop 2) ns nv e W' := pass_any W rb z ts ns nv 2 h hn hl
/-- A mark is passed if it is next. -/
structure MarkPost (X : Nat → Prop) (W : World) (rb z : Nat) (ts : Toks) (ns : Names) (nv : Value) (m : UInt8) (e : Ending) (W' : World) : Prop where
  ret : e = .returned (.bool (seeT m ts))
  rd : PRd X W' rb z (if seeT m ts = true then ts.tail else ts) ns nv
  fr : FrP (fun b => b = rb) W W'
theorem tkAt_see (z : Nat) (ts : Toks) (m : UInt8) : seeT m ts = ((tkAt z ts 0).1.kind == 4 && (tkAt z ts 0).1.text == [m]) := by
  cases ts with
  | nil => rfl
  | cons x r =>
    show decide (x.1.kind = 4 ∧ x.1.text = [m]) = (x.1.kind == 4 && x.1.text == [m])
    rw [Bool.eq_iff_iff]
    simp
theorem tkAt_small {z : Nat} {ts : Toks} {S : List UInt8} (h : Good S ts) (hz : z ≤ 1000000) (n : Nat) : (tkAt z ts n).1.kind ≤ 5 ∧ (tkAt z ts n).1.text.length ≤ 1000000 ∧ (tkAt z ts n).1.n ≤ 9223372036854775807 ∧ (tkAt z ts n).2 ≤ 1000000 := by
  unfold tkAt
  by_cases hn : n < ts.length
  · rw [List.getElem?_eq_getElem hn]
    have hf := h (ts.take n) ts[n] (ts.drop (n + 1)) (by rw [← List.drop_eq_getElem_cons hn, List.take_append_drop])
    exact ⟨hf.kind.2, hf.len, hf.num, by have := hf.at'; simp; omega⟩
  · rw [List.getElem?_eq_none (by omega)]
    exact ⟨Nat.zero_le _, Nat.zero_le _, Nat.zero_le _, hz⟩
set_option maxRecDepth 100000 in
set_option maxHeartbeats 2000000 in
theorem passMark_any {X : Nat → Prop} (W : World) (rb z : Nat) (ts : Toks) (ns : Names) (nv : Value) (m : UInt8) (S : List UInt8) (hg : Good S ts) (hz : z ≤ 1000000) (h : PRd X W rb z ts ns nv) (hl : ts.length ≤ 1000000) :
    Calls Tryz.prog 111 #[.pointer (some ⟨rb, 0, none⟩), .string ⟨#[m]⟩] W fun e W' => MarkPost X W rb z ts ns nv m e W' := by
  have hsee := tkAt_see z ts m
  have hsm := tkAt_small (z := z) hg hz 0
  obtain ⟨x, hx⟩ : ∃ x, tkAt z ts 0 = x := ⟨_, rfl⟩
  have HA := Lib.hid (ahead0_any W rb z ts ns nv x hx h hl)
  rw [hx] at hsee hsm
  have H := Lib.hid h
  have HS := Lib.hid hsee
  have hk : x.1.kind ≤ 5 := hsm.1
  clear h hsee hx hsm
  go_enter Tryz.func111, Tryz.ntmps111
  go_upto_region 2 with (go_at_call 45; (with_reducible refine (HA.out).mono ?_); rintro e W1 ⟨rfl, hb⟩; replace H := Lib.hid (H.out.next hb); have HF := Lib.hid (FrP.of_below hb); clear hb)
  have hb1 := (Below.refl W1.heap.size W1).alloc (Nat.le_refl _) (.cells #[.int .i64 (x.1.kind : Nat), .string ⟨x.1.text.toArray⟩, .int .i64 (x.1.n : Nat), .int .i64 (x.2 : Nat), .bool x.1.opn] 103)
  have hxb := newBlk W1 (.cells #[.int .i64 (x.1.kind : Nat), .string ⟨x.1.text.toArray⟩, .int .i64 (x.1.n : Nat), .int .i64 (x.2 : Nat), .bool x.1.opn] 103) W1.heap.size rfl
  obtain ⟨U, hU⟩ : ∃ U, W1.alloc (.cells #[.int .i64 (x.1.kind : Nat), .string ⟨x.1.text.toArray⟩, .int .i64 (x.1.n : Nat), .int .i64 (x.2 : Nat), .bool x.1.opn] 103) = U := ⟨_, rfl⟩
  obtain ⟨xb, hxe⟩ : ∃ xb, W1.heap.size = xb := ⟨_, rfl⟩
  replace H := Lib.hid (H.out.next hb1)
  replace HF := Lib.hid (HF.out.trans (FrP.of_below hb1) (Q := fun b => b = rb) (fun _ _ h => h.elim) (fun _ _ h => h.elim))
  rw [hU] at hb1 hxb H HF ⊢
  rw [hxe] at hxb ⊢
  clear hU hb1 hxe
  obtain ⟨⟨x0, x1, x2, x3, x4⟩, -⟩ := row5t hxb
  have hs1 : (⟨x.1.text.toArray⟩ : ByteArray).toList = x.1.text := by rw [bs_toList]; simp [bs]
  have hs2 : (⟨#[m]⟩ : ByteArray).toList = [m] := by rw [bs_toList]; rfl
  clear hxb
  by_cases k4 : x.1.kind = 4
  · have q3 : ((x.1.kind : Int) == 4) = true := by rw [beq_iff_eq]; omega
    by_cases htx : x.1.text = [m]
    · have q5 : ((⟨x.1.text.toArray⟩ : ByteArray).toList == (⟨#[m]⟩ : ByteArray).toList) = true := by rw [hs1, hs2, htx]; simp
      have q6 : (x.1.text == [m]) = true := by rw [htx]; simp
      have hS : seeT m ts = true := by rw [HS.out, k4, htx]; simp
      have hne : 1 ≤ ts.length := by
        cases ts with
        | nil => cases hS
        | cons y r => simp
      have HSS := Lib.hid hS
      have HP := Lib.hid (pass1_any U rb z ts ns nv H.out hne hl)
      clear k4 htx hs1 hs2 q5 hS
      go_wp2_with (go_at_call 62; (with_reducible refine (HP.out).mono ?_); rintro e W2 ⟨rfl, hrd, hfr⟩)
      go_ret
      refine ⟨by rw [HSS.out]; rfl, by rw [if_pos HSS.out]; exact hrd, HF.out.trans hfr (fun _ _ h => h) (fun _ _ h => h)⟩
    · have q5 : ((⟨x.1.text.toArray⟩ : ByteArray).toList == (⟨#[m]⟩ : ByteArray).toList) = false := by rw [hs1, hs2, beq_eq_false_iff_ne]; exact htx
      have q6 : (x.1.text == [m]) = false := by rw [beq_eq_false_iff_ne]; exact htx
      have hS : seeT m ts = false := by rw [HS.out, q6]; simp
      have HSS := Lib.hid hS
      clear k4 htx hs1 hs2 q5 hS
      go_wp2_with fail
      go_ret
      exact ⟨by rw [HSS.out]; rfl, by rw [if_neg (by rw [HSS.out]; simp)]; exact H.out, HF.out⟩
  · have q3 : ((x.1.kind : Int) == 4) = false := by rw [beq_eq_false_iff_ne]; omega
    have hS : seeT m ts = false := by rw [HS.out, show (x.1.kind == 4) = false by rw [beq_eq_false_iff_ne]; exact k4]; simp
    have HSS := Lib.hid hS
    clear k4 hs1 hs2 hS
    go_wp2_with fail
    go_ret
    exact ⟨by rw [HSS.out]; rfl, by rw [if_neg (by rw [HSS.out]; simp)]; exact H.out, HF.out⟩
/-- A mark that has to be next. -/
structure NeedQ (X : Nat → Prop) (W : World) (rb z : Nat) (ts : Toks) (ns : Names) (nv : Value) (m : UInt8) (e : Ending) (W' : World) : Prop where
  ret : e = .returned (.int .i64 (if seeT m ts = true then 0 else 2))
  rd : PRd X W' rb z (if seeT m ts = true then ts.tail else ts) ns nv
  fr : FrP (fun b => b = rb) W W'
set_option maxRecDepth 100000 in
set_option maxHeartbeats 2000000 in
theorem need_p {X : Nat → Prop} (W : World) (rb z : Nat) (ts : Toks) (ns : Names) (nv : Value) (m : UInt8) (S : List UInt8) (hg : Good S ts) (hz : z ≤ 1000000) (h : PRd X W rb z ts ns nv) (hl : ts.length ≤ 1000000) :
    Calls Tryz.prog 125 #[.pointer (some ⟨rb, 0, none⟩), .string ⟨#[m]⟩] W fun e W' => NeedQ X W rb z ts ns nv m e W' := by
  have HP := passMark_any W rb z ts ns nv m S hg hz h hl
  cases hs : seeT m ts with
  | true =>
    have HP2 : Hid (Calls Tryz.prog 111 #[.pointer (some ⟨rb, 0, none⟩), .string ⟨#[m]⟩] W fun e W' => e = .returned (.bool true) ∧ PRd X W' rb z ts.tail ns nv ∧ FrP (fun b => b = rb) W W') := Lib.hid (HP.mono fun e W' ⟨h1, h2, h3⟩ => ⟨by rw [h1, hs], by rw [if_pos hs] at h2; exact h2, h3⟩)
    have HS := Lib.hid hs
    clear HP hs h hg
    go_enter Tryz.func125, Tryz.ntmps125
    go_wp2_with (go_at_call 111; (with_reducible refine (HP2.out).mono ?_); rintro e W2 ⟨rfl, hrd, hfr⟩)
    go_ret
    exact ⟨by rw [if_pos HS.out]; rfl, by rw [if_pos HS.out]; exact hrd, hfr⟩
  | false =>
    have HP2 : Hid (Calls Tryz.prog 111 #[.pointer (some ⟨rb, 0, none⟩), .string ⟨#[m]⟩] W fun e W' => e = .returned (.bool false) ∧ PRd X W' rb z ts ns nv ∧ FrP (fun b => b = rb) W W') := Lib.hid (HP.mono fun e W' ⟨h1, h2, h3⟩ => ⟨by rw [h1, hs], by rw [if_neg (by rw [hs]; simp)] at h2; exact h2, h3⟩)
    have HS := Lib.hid (show ¬ seeT m ts = true by rw [hs]; simp)
    clear HP hs h hg
    go_enter Tryz.func125, Tryz.ntmps125
    go_wp2_with (go_at_call 111; (with_reducible refine (HP2.out).mono ?_); rintro e W2 ⟨rfl, hrd, hfr⟩)
    go_ret
    exact ⟨by rw [if_neg HS.out]; rfl, by rw [if_neg HS.out]; exact hrd, hfr⟩
set_option maxRecDepth 100000 in
theorem num_p (n : Int) (W : World) : Calls Tryz.prog 94 #[.int .i64 n] W fun e W' => e = .returned (.agg #[.int .i64 2, .string ⟨#[]⟩, .int .i64 n, .slice none 0 0]) ∧ Below W.heap.size W W' := by
  go_enter Tryz.func94, Tryz.ntmps94
  go_wp2_with fail
  have hb := (Below.refl W.heap.size W).alloc (Nat.le_refl _) (.cells #[.int .i64 2, .string ⟨#[]⟩, .int .i64 n, .slice none 0 0] 34)
  have hnw := newBlk W (.cells #[.int .i64 2, .string ⟨#[]⟩, .int .i64 n, .slice none 0 0] 34) W.heap.size rfl
  obtain ⟨V, hV⟩ : ∃ V, W.alloc (.cells #[.int .i64 2, .string ⟨#[]⟩, .int .i64 n, .slice none 0 0] 34) = V := ⟨_, rfl⟩
  rw [hV] at hb hnw ⊢
  obtain ⟨⟨z0, z1, z2, z3⟩, -⟩ := row4 hnw
  clear hV hnw
  refine bodyPost_ret (v := .agg #[.int .i64 2, .string ⟨#[]⟩, .int .i64 n, .slice none 0 0]) (by simp [results, Tryz.results94, go_sem, z0, z1, z2, z3]) rfl ?_
  exact ⟨rfl, hb⟩
set_option maxRecDepth 100000 in
theorem fun_p (nm : ByteArray) (g : Option Addr) (m c : Nat) (W : World) : Calls Tryz.prog 83 #[.string nm, .slice g m c] W fun e W' => e = .returned (.agg #[.int .i64 3, .string nm, .int .i64 0, .slice g m c]) ∧ Below W.heap.size W W' := by
  go_enter Tryz.func83, Tryz.ntmps83
  go_wp2_with fail
  have hb := (Below.refl W.heap.size W).alloc (Nat.le_refl _) (.cells #[.int .i64 3, .string nm, .int .i64 0, .slice g m c] 34)
  have hnw := newBlk W (.cells #[.int .i64 3, .string nm, .int .i64 0, .slice g m c] 34) W.heap.size rfl
  obtain ⟨V, hV⟩ : ∃ V, W.alloc (.cells #[.int .i64 3, .string nm, .int .i64 0, .slice g m c] 34) = V := ⟨_, rfl⟩
  rw [hV] at hb hnw ⊢
  obtain ⟨⟨z0, z1, z2, z3⟩, -⟩ := row4 hnw
  clear hV hnw
  refine bodyPost_ret (v := .agg #[.int .i64 3, .string nm, .int .i64 0, .slice g m c]) (by simp [results, Tryz.results83, go_sem, z0, z1, z2, z3]) rfl ?_
  exact ⟨rfl, hb⟩
end Go.Proofs.YtkjnjahmlobjiaaGreatDoor

namespace Go.Proofs.YtkjnjahmlobjiaaGreatDoor
open Go.RowKit

/-- What Do leaves when it does something: the lock is as it was, it is done, the map is there. -/
def OnceSt (W : World) (rb : Nat) (tv nv : Value) (z : Int) (q : Int) (W' : World) : Prop :=
  ∃ mb, W'.heap[rb]? = some (.cells #[tv, .int .i64 z, nv, .int .u32 1, .int .i32 0, .int .u32 q, .map (some mb)] 101 (0, 0)) ∧ W.heap.size ≤ mb ∧ MapIs W' mb opsN ∧ FrP (fun b => b = rb) W W'
set_option maxRecDepth 100000 in
set_option maxHeartbeats 1600000 in
theorem lit_any (W : World) (rb pb : Nat) (tv nv : Value) (z q : Int) (d l : Int) (mv : Value) (hblk : W.heap[rb]? = some (.cells #[tv, .int .i64 z, nv, .int .u32 d, .int .i32 l, .int .u32 q, mv] 101 (0, 0))) (hp : W.cell? ⟨pb, 0, none⟩ = some (.pointer (some ⟨rb, 0, none⟩))) (_hne : pb ≠ rb) :
    Calls Tryz.prog 98 #[.pointer (some ⟨pb, 0, none⟩)] W fun e W' => e = .returned (.tuple #[]) ∧ ∃ mb, W'.heap[rb]? = some (.cells #[tv, .int .i64 z, nv, .int .u32 d, .int .i32 l, .int .u32 q, .map (some mb)] 101 (0, 0)) ∧ W.heap.size ≤ mb ∧ MapIs W' mb opsN ∧ FrP (fun b => b = rb) W W' := by
  have hlt : rb < W.heap.size := (Array.getElem?_eq_some_iff.1 hblk).1
  have hplt : pb < W.heap.size := World.block_lt_of_cell? W _ hp
  have HBLK := Lib.hid hblk
  clear hblk
  go_enter Tryz.func98, Tryz.ntmps98
  go_wp2_with fail
  go_region_with (go_at_call 99; (refine (operators_any _).mono ?_); rintro e W2 ⟨mb, rfl, hmb, hb, hm⟩; have hp2 : W2.cell? ⟨pb, 0, none⟩ = some (.pointer (some ⟨rb, 0, none⟩)) := (hb.cell (p := ⟨pb, 0, none⟩) hplt).trans hp; have hlt2 : rb < W2.heap.size := Nat.lt_of_lt_of_le hlt hb.size; have HB := Lib.hid hb; have HMB := Lib.hid hmb; have HM := Lib.hid hm; obtain ⟨⟨c0, c1, c2, c3, c4, c5, c6⟩, f0, f1, f2, f3, f4, f5, f6⟩ := row7 ((hb.block rb hlt).trans HBLK.out); clear hb hmb hm)
  all_goals
    have hmb : W.heap.size ≤ mb := HMB.out
    have hf : FrP (fun _ => False) W W2 := ⟨HB.out.os, HB.out.tape, HB.out.output, HB.out.size, fun b hb _ => HB.out.block b hb⟩
    have hb9 : W2.heap[rb]? = some (.cells #[tv, .int .i64 z, nv, .int .u32 d, .int .i32 l, .int .u32 q, mv] 101 (0, 0)) := (hf.block rb hlt (fun h => h)).trans HBLK.out
    have hfs := FrP.set W2 rb 6 (.map (some mb))
    have HE := Lib.hid (And.intro (set_blk (o := 6) (v := .map (some mb)) hb9) (And.intro (HM.out.same (hfs.block mb HM.out.lt (by omega))) (hf.trans hfs (Q := fun b => b = rb) (fun _ _ h => h.elim) (fun _ _ h => h))))
    clear hf hb9 hfs c0 c1 c2 c3 c4 c5 c6 f0 f1 f2 f3 f4 f5 f6
    go_end0
    exact ⟨rfl, mb, HE.out.1, hmb, HE.out.2.1, HE.out.2.2⟩
set_option maxRecDepth 100000 in
set_option maxHeartbeats 1600000 in
/-- Not yet done, the lock free: the function is called, then it is marked, then the lock is let go. -/
theorem slow_any (W : World) (rb pb : Nat) (tv nv : Value) (z q : Int) (mv : Value) (hblk : W.heap[rb]? = some (.cells #[tv, .int .i64 z, nv, .int .u32 0, .int .i32 0, .int .u32 q, mv] 101 (0, 0))) (hp : W.cell? ⟨pb, 0, none⟩ = some (.pointer (some ⟨rb, 0, none⟩))) (hne : pb ≠ rb) :
    Calls Tryz.prog 115 #[.pointer (some ⟨rb, 3, none⟩), .func (.func 98) #[] #[.pointer (some ⟨pb, 0, none⟩)]] W fun e W' => e = .returned (.tuple #[]) ∧ OnceSt W rb tv nv z q W' := by
  have hlt : rb < W.heap.size := (Array.getElem?_eq_some_iff.1 hblk).1
  have hplt : pb < W.heap.size := World.block_lt_of_cell? W _ hp
  obtain ⟨⟨c0, c1, c2, c3, c4, c5, c6⟩, f0, f1, f2, f3, f4, f5, f6⟩ := row7 hblk
  have hL := lock_free ⟨rb, 4, none⟩ W c4 f4
  have hb1 := set_blk (o := 4) (v := .int .i32 1) hblk
  have hf1 := FrP.set W rb 4 (.int .i32 1)
  obtain ⟨W1, hW1⟩ : ∃ W1, W.setCell ⟨rb, 4, none⟩ (.int .i32 1) = W1 := ⟨_, rfl⟩
  rw [hW1] at hL hb1 hf1
  have hb1' : W1.heap[rb]? = some (.cells #[tv, .int .i64 z, nv, .int .u32 0, .int .i32 1, .int .u32 q, mv] 101 (0, 0)) := hb1
  have hp1 : W1.cell? ⟨pb, 0, none⟩ = some (.pointer (some ⟨rb, 0, none⟩)) := hf1.cell hp hne
  have HLIT := Lib.hid (lit_any W1 rb pb tv nv z q 0 1 mv hb1' hp1 hne)
  have HL := Lib.hid hL
  have HF1 := Lib.hid hf1
  clear hblk hL hb1 hW1 c0 c1 c2 c3 c4 c5 c6 f0 f1 f2 f3 f4 f5 f6
  obtain ⟨⟨c0, c1, c2, c3, c4, c5, c6⟩, f0, f1, f2, f3, f4, f5, f6⟩ := row7 hb1'
  have hl := run_call_load (P := Tryz.prog) Tryz.func127 (by kernel_rfl) (by kernel_rfl) (by kernel_rfl) .u32 (by kernel_rfl) (w := W1) (a := ⟨rb, 3, none⟩) (x := 0) c3
  have hnot : ∀ (x : Bool) (w : World), (Op.unary .not (.bool x)).run Tryz.prog w = .ok (.bool (!x)) w := fun _ _ => rfl
  go_enter_defers Tryz.func115, Tryz.ntmps115
  go_wp2_with (first | (go_at_call 128; (with_reducible refine (HL.out).mono ?_); rintro e w' ⟨rfl, rfl⟩) | (go_at_call 98; (with_reducible refine (HLIT.out).mono ?_); rintro e w' ⟨rfl, mb, hbk, hmb, hm, hf⟩; have HBK := Lib.hid hbk; have HMB := Lib.hid hmb; have HM := Lib.hid hm; have HF := Lib.hid hf; clear hbk hmb hm hf) | (go_at_call 114; go_in))
  obtain ⟨⟨d0, d1, d2, d3, d4, d5, d6⟩, g0, g1, g2, g3, g4, g5, g6⟩ := row7 HBK.out
  have HB3 := Lib.hid (show ((w'.drew.setCell ⟨rb, 3, none⟩ (.int .u32 1)).heap[rb]? = some (.cells #[tv, .int .i64 z, nv, .int .u32 1, .int .i32 1, .int .u32 q, .map (some mb)] 101 (0, 0))) from set_blk (w := w'.drew) (o := 3) (v := .int .u32 1) HBK.out)
  have HF3 := Lib.hid (FrP.set w'.drew rb 3 (.int .u32 1))
  refine leaves_cons (f := 130) (args := #[.pointer (some ⟨rb, 3, none⟩), .bool true]) (by simp) (by simp [go_sem]) ?_
  refine (store_deferred ⟨rb, 3, none⟩ (.int .u32 0) .returning _ d3 g3).mono ?_
  rintro e u' w2 ⟨rfl, rfl, rfl⟩
  refine leaves_cons (f := 129) (args := #[.pointer (some ⟨rb, 4, none⟩)]) (by simp [settle]) (by simp [go_sem]) ?_
  obtain ⟨W3, hW3⟩ : ∃ W3, w'.drew.setCell ⟨rb, 3, none⟩ (.int .u32 1) = W3 := ⟨_, rfl⟩
  rw [hW3] at HB3 HF3 ⊢
  obtain ⟨⟨h0, h1, h2, h3, h4, h5, h6⟩, i0, i1, i2, i3, i4, i5, i6⟩ := row7 HB3.out
  refine (unlock_deferred ⟨rb, 4, none⟩ _ W3 h4 i4).mono ?_
  rintro e u' w2 ⟨rfl, rfl, rfl⟩
  simp [Leaves, settle, results, Tryz.results115]
  have hb5 := set_blk (o := 4) (v := .int .i32 0) HB3.out
  have hf5 := FrP.set W3 rb 4 (.int .i32 0)
  have hmlt := HM.out.lt
  have hmr : mb ≠ rb := by
    have := HMB.out
    have := HF1.out.size
    omega
  refine ⟨mb, hb5, Nat.le_trans HF1.out.size HMB.out, (HM.out.same (HF3.out.block mb hmlt hmr)).same (hf5.block mb (Nat.lt_of_lt_of_le hmlt HF3.out.size) hmr), ((HF1.out.trans HF.out (fun _ _ h => h) (fun _ _ h => h)).trans (FrP.mk HF3.out.os HF3.out.tape HF3.out.output HF3.out.size HF3.out.block : FrP (fun b => b = rb) w' W3) (fun _ _ h => h) (fun _ _ h => h)).trans hf5 (fun _ _ h => h) (fun _ _ h => h)⟩
set_option maxRecDepth 100000 in
set_option maxHeartbeats 1600000 in
/-- Done already: nothing is called. -/
theorem do_done (a : Addr) (fv : Value) (w : World) (h0 : w.cell? a = some (.int .u32 1)) :
    Calls Tryz.prog 97 #[.pointer (some a), fv] w fun e w' => e = .returned (.tuple #[]) ∧ w' = w := by
  have hl := run_call_load (P := Tryz.prog) Tryz.func127 (by kernel_rfl) (by kernel_rfl) (by kernel_rfl) .u32 (by kernel_rfl) h0
  have hnot : ∀ (x : Bool) (w : World), (Op.unary .not (.bool x)).run Tryz.prog w = .ok (.bool (!x)) w := fun _ _ => rfl
  go_enter Tryz.func97, Tryz.ntmps97
  go_wp2
  go_end0
  exact ⟨rfl, rfl⟩
set_option maxRecDepth 100000 in
set_option maxHeartbeats 1600000 in
theorem do_first (W : World) (rb pb : Nat) (tv nv : Value) (z q : Int) (mv : Value) (hblk : W.heap[rb]? = some (.cells #[tv, .int .i64 z, nv, .int .u32 0, .int .i32 0, .int .u32 q, mv] 101 (0, 0))) (hp : W.cell? ⟨pb, 0, none⟩ = some (.pointer (some ⟨rb, 0, none⟩))) (hne : pb ≠ rb) :
    Calls Tryz.prog 97 #[.pointer (some ⟨rb, 3, none⟩), .func (.func 98) #[] #[.pointer (some ⟨pb, 0, none⟩)]] W fun e W' => e = .returned (.tuple #[]) ∧ OnceSt W rb tv nv z q W' := by
  have HSL := Lib.hid (slow_any W rb pb tv nv z q mv hblk hp hne)
  obtain ⟨⟨c0, c1, c2, c3, c4, c5, c6⟩, f0, f1, f2, f3, f4, f5, f6⟩ := row7 hblk
  have hl := run_call_load (P := Tryz.prog) Tryz.func127 (by kernel_rfl) (by kernel_rfl) (by kernel_rfl) .u32 (by kernel_rfl) (w := W) (a := ⟨rb, 3, none⟩) (x := 0) c3
  have hnot : ∀ (x : Bool) (w : World), (Op.unary .not (.bool x)).run Tryz.prog w = .ok (.bool (!x)) w := fun _ _ => rfl
  clear hblk
  go_enter Tryz.func97, Tryz.ntmps97
  go_wp2_with (first | (go_at_call 115; (with_reducible refine (HSL.out).mono ?_); rintro e w' ⟨rfl, hO⟩; have HO := Lib.hid hO; clear hO) | (go_at_call 114; go_in))
  go_end0
  exact ⟨rfl, HO.out⟩
/-- What an operator is, by its text. -/
structure OprPost (X : Nat → Prop) (W : World) (rb z : Nat) (ts : Toks) (ns : Names) (nv : Value) (tx : List UInt8) (e : Ending) (W' : World) : Prop where
  ret : e = .returned (.agg #[.int .i64 ((infixP tx).1 : Nat), .int .i64 ((infixP tx).2.1 : Nat), .int .i64 ((infixP tx).2.2 : Nat), .int .i64 (prefP tx : Nat)])
  rd : PRd X W' rb z ts ns nv
  fr : FrP (fun b => b = rb) W W'
set_option maxRecDepth 100000 in
set_option maxHeartbeats 1600000 in
theorem operator_any {X : Nat → Prop} (W : World) (rb z : Nat) (ts : Toks) (ns : Names) (nv : Value) (h : PRd X W rb z ts ns nv) (k n p : Int) (tx : List UInt8) (o : Bool) (htx : tx.length ≤ 1000000) :
    Calls Tryz.prog 82 #[.pointer (some ⟨rb, 0, none⟩), .agg #[.int .i64 k, .string ⟨tx.toArray⟩, .int .i64 n, .int .i64 p, .bool o]] W fun e W' => OprPost X W rb z ts ns nv tx e W' := by
  have H := Lib.hid h
  have hlt := h.lt
  clear h
  go_enter Tryz.func82, Tryz.ntmps82
  go_upto_region 1 with fail
  have hb := (((Below.refl W.heap.size W).alloc (Nat.le_refl _) (.cells #[.pointer (some ⟨rb, 0, none⟩)] 124)).alloc (by simp) (.cells #[.int .i64 k, .string ⟨tx.toArray⟩, .int .i64 n, .int .i64 p, .bool o] 103)).alloc (by simp; omega) (.cells #[.int .i64 0, .int .i64 0, .int .i64 0, .int .i64 0] 142)
  have hbp : (((W.alloc (.cells #[.pointer (some ⟨rb, 0, none⟩)] 124)).alloc (.cells #[.int .i64 k, .string ⟨tx.toArray⟩, .int .i64 n, .int .i64 p, .bool o] 103)).alloc (.cells #[.int .i64 0, .int .i64 0, .int .i64 0, .int .i64 0] 142)).heap[W.heap.size]? = some (.cells #[.pointer (some ⟨rb, 0, none⟩)] 124 (0, 0)) := by
    rw [Below.heap_alloc _ _ _ (by simp; omega), Below.heap_alloc _ _ _ (by simp)]
    exact newBlk _ _ _ rfl
  have hbt : (((W.alloc (.cells #[.pointer (some ⟨rb, 0, none⟩)] 124)).alloc (.cells #[.int .i64 k, .string ⟨tx.toArray⟩, .int .i64 n, .int .i64 p, .bool o] 103)).alloc (.cells #[.int .i64 0, .int .i64 0, .int .i64 0, .int .i64 0] 142)).heap[W.heap.size + 1]? = some (.cells #[.int .i64 k, .string ⟨tx.toArray⟩, .int .i64 n, .int .i64 p, .bool o] 103 (0, 0)) := by
    rw [Below.heap_alloc _ _ _ (by simp)]
    exact newBlk _ _ _ (by simp)
  have hbo := newBlk ((W.alloc (.cells #[.pointer (some ⟨rb, 0, none⟩)] 124)).alloc (.cells #[.int .i64 k, .string ⟨tx.toArray⟩, .int .i64 n, .int .i64 p, .bool o] 103)) (.cells #[.int .i64 0, .int .i64 0, .int .i64 0, .int .i64 0] 142) (W.heap.size + 1 + 1) (by simp)
  obtain ⟨V, hV⟩ : ∃ V, ((W.alloc (.cells #[.pointer (some ⟨rb, 0, none⟩)] 124)).alloc (.cells #[.int .i64 k, .string ⟨tx.toArray⟩, .int .i64 n, .int .i64 p, .bool o] 103)).alloc (.cells #[.int .i64 0, .int .i64 0, .int .i64 0, .int .i64 0] 142) = V := ⟨_, rfl⟩
  rw [hV] at hb hbp hbt hbo ⊢
  have hsz0 : W.heap.size + 1 + 1 < V.heap.size := (Array.getElem?_eq_some_iff.1 hbo).1
  have H0 := H
  replace H := Lib.hid (H.out.ext (X' := fun b => X b ∨ b = W.heap.size + 1 + 1) hb (fun b hx => hx.imp id (fun e => by subst e; exact ⟨by omega, hsz0⟩)) (fun b hx => .inl hx))
  have HF := Lib.hid (FrP.of_below hb)
  have HBP := Lib.hid hbp
  have HBT := Lib.hid hbt
  have HBO := Lib.hid hbo
  have hsz : W.heap.size + 1 + 1 < V.heap.size := (Array.getElem?_eq_some_iff.1 hbo).1
  have hp0 : V.cell? ⟨W.heap.size, 0, none⟩ = some (.pointer (some ⟨rb, 0, none⟩)) := by simp [World.cell?, hbp]
  clear hV hb hbp hbt hbo
  have hmf : ∀ (fn : Fn) (first cap : Array Value) (w : World), (Instr.makeFunc fn first cap).run Tryz.prog w = .ok (.func fn first cap) w := fun _ _ _ _ => rfl
  -- behind Do: it is done, the map is there
  have HDO : Hid (Calls Tryz.prog 97 #[.pointer (some ⟨rb, 3, none⟩), .func (.func 98) #[] #[.pointer (some ⟨W.heap.size, 0, none⟩)]] V fun e W' => e = .returned (.tuple #[]) ∧ PRd (fun b => X b ∨ b = W.heap.size + 1 + 1) W' rb z ts ns nv ∧ FrP (fun b => b = rb) V W' ∧ ∃ a0 a1 a2 a3 a4 a5 mb, W'.heap[rb]? = some (.cells #[a0, a1, a2, a3, a4, a5, .map (some mb)] 101 (0, 0)) ∧ MapIs W' mb opsN) := by
    refine Lib.hid ?_
    obtain ⟨tv, mv, d, q, hblk, htk, hm⟩ := H.out.cells
    rcases hm with ⟨rfl, rfl⟩ | ⟨rfl, mb, rfl, hok, hm⟩
    · refine (do_first V rb W.heap.size tv nv z q _ hblk hp0 (by omega)).mono fun e W' ⟨he, mb, hb9, hmb, hm9, hf9⟩ => ⟨he, ?_, hf9, _, _, _, _, _, _, mb, hb9, hm9⟩
      have hP : ∀ b, b = rb → (X b ∨ b = W.heap.size + 1 + 1) := fun b e => by rw [e]; exact H.out.own
      have hXX : ∀ b, (X b ∨ b = W.heap.size + 1 + 1) → (X b ∨ b = W.heap.size + 1 + 1) ∨ V.heap.size ≤ b := fun _ hx => .inl hx
      refine ⟨⟨tv, _, 1, q, hb9, ⟨toksP_mv htk.1 hf9 hP hXX, htk.2⟩, .inr ⟨rfl, mb, rfl, ⟨fun hx => ?_, hm9.lt⟩, hm9⟩⟩, ownsRow_mv H.out.nms hf9 (fun b hb e => (H.out.nvx b hb).2 e), H.out.nvx, H.out.own, fun b hx => Nat.lt_of_lt_of_le (H.out.old b hx) hf9.size⟩
      have := H.out.old mb hx
      omega
    · obtain ⟨⟨c0, c1, c2, c3, c4, c5, c6⟩, -⟩ := row7 hblk
      refine (do_done ⟨rb, 3, none⟩ _ V c3).mono fun e W' ⟨he, hw⟩ => ?_
      subst hw
      exact ⟨he, H.out, FrP.refl _ _, _, _, _, _, _, _, mb, hblk, hm⟩
  go_upto_region 2 with (go_at_call 97; (with_reducible refine (HDO.out).mono ?_); rintro e U ⟨rfl, hrd, hfr, a0, a1, a2, a3, a4, a5, mb, hb9, hm9⟩; have HRD := Lib.hid hrd; have HFR := Lib.hid hfr; have HB9 := Lib.hid hb9; have HM9 := Lib.hid hm9; clear hrd hfr hb9 hm9)
  clear hp0
  have hbp := (HFR.out.block W.heap.size (by omega) (by omega)).trans HBP.out
  have hbt := (HFR.out.block (W.heap.size + 1) (by omega) (by omega)).trans HBT.out
  have hbo := (HFR.out.block (W.heap.size + 1 + 1) (by omega) (by omega)).trans HBO.out
  have hsu : W.heap.size + 1 + 1 < U.heap.size := (Array.getElem?_eq_some_iff.1 hbo).1
  have hru : rb < U.heap.size := HRD.out.lt
  have p0 : U.cell? ⟨W.heap.size, 0, none⟩ = some (.pointer (some ⟨rb, 0, none⟩)) := by simp [World.cell?, hbp]
  obtain ⟨⟨t0, t1, t2, t3, t4⟩, -⟩ := row5t hbt
  obtain ⟨⟨o0, o1, o2, o3⟩, of0, of1, of2, of3⟩ := row4 hbo
  obtain ⟨⟨-, -, -, -, -, -, c6⟩, -⟩ := row7 HB9.out
  have hlk := run_look HM9.out tx (by unfold maxLen; omega)
  have hlk1 := run_look (w := U.drew) HM9.out tx (by unfold maxLen; omega)
  unfold opV oV at hlk hlk1
  have HBO2 := Lib.hid hbo
  clear hbp hbt hbo
  go_region
  have hg := set4_grown U (W.heap.size + 1 + 1) 0 ⟨#[]⟩ 0 (.slice none 0 0)
  have hfo : FrP (fun b => b = W.heap.size + 1 + 1) U ((((U.setCell ⟨W.heap.size + 1 + 1, 0, none⟩ (.int .i64 ((infixP tx).1 : Nat))).setCell ⟨W.heap.size + 1 + 1, 1, none⟩ (.int .i64 ((infixP tx).2.1 : Nat))).setCell ⟨W.heap.size + 1 + 1, 2, none⟩ (.int .i64 ((infixP tx).2.2 : Nat))).setCell ⟨W.heap.size + 1 + 1, 3, none⟩ (.int .i64 (prefP tx : Nat))) :=
    (((FrP.set _ _ _ _).trans (FrP.set _ _ _ _) (fun _ _ h => h) (fun _ _ h => h)).trans (FrP.set _ _ _ _) (fun _ _ h => h) (fun _ _ h => h)).trans (FrP.set _ _ _ _) (fun _ _ h => h) (fun _ _ h => h)
  have hz := set_blk (o := 3) (v := .int .i64 (prefP tx : Nat)) (set_blk (o := 2) (v := .int .i64 ((infixP tx).2.2 : Nat)) (set_blk (o := 1) (v := .int .i64 ((infixP tx).2.1 : Nat)) (set_blk (o := 0) (v := .int .i64 ((infixP tx).1 : Nat)) HBO2.out)))
  obtain ⟨U2, hU2⟩ : ∃ U2, (((U.setCell ⟨W.heap.size + 1 + 1, 0, none⟩ (.int .i64 ((infixP tx).1 : Nat))).setCell ⟨W.heap.size + 1 + 1, 1, none⟩ (.int .i64 ((infixP tx).2.1 : Nat))).setCell ⟨W.heap.size + 1 + 1, 2, none⟩ (.int .i64 ((infixP tx).2.2 : Nat))).setCell ⟨W.heap.size + 1 + 1, 3, none⟩ (.int .i64 (prefP tx : Nat)) = U2 := ⟨_, rfl⟩
  rw [hU2] at hfo hz ⊢
  have hz' : U2.heap[W.heap.size + 1 + 1]? = some (.cells #[.int .i64 ((infixP tx).1 : Nat), .int .i64 ((infixP tx).2.1 : Nat), .int .i64 ((infixP tx).2.2 : Nat), .int .i64 (prefP tx : Nat)] 142 (0, 0)) := hz
  obtain ⟨⟨z0, z1, z2, z3⟩, -⟩ := row4 hz'
  have HFO := Lib.hid hfo
  clear hz hz' hfo hg hU2 hlk hlk1 p0 t0 t1 t2 t3 t4 o0 o1 o2 o3 of0 of1 of2 of3 c6
  go_wp2_with fail
  refine bodyPost_ret (v := .agg #[.int .i64 ((infixP tx).1 : Nat), .int .i64 ((infixP tx).2.1 : Nat), .int .i64 ((infixP tx).2.2 : Nat), .int .i64 (prefP tx : Nat)]) (by simp [results, Tryz.results82, go_sem, z0, z1, z2, z3]) rfl ?_
  have hr1 := HRD.out.other HFO.out (.inr rfl) (by omega) (fun e => by
    have h1 := H0.out.old _ ((H0.out.nvx _ e).1)
    omega)
  have hr2 := (hr1.less (X := X) (fun b hx => .inl hx) H0.out.own (fun b hb => (H0.out.nvx b hb).1)).dn 1
  refine ⟨rfl, hr2, ?_⟩
  have hf := ((HF.out.trans HFR.out (Q := fun b => b = rb) (fun _ _ h => h.elim) (fun _ _ h => h)).trans HFO.out (Q := fun b => b = rb) (fun _ _ h => h) (fun b hb e => by omega)).trans (FrP.dn U2 1) (Q := fun b => b = rb) (fun _ _ h => h) (fun _ _ h => h.elim)
  exact hf
end Go.Proofs.YtkjnjahmlobjiaaGreatDoor

namespace Go.Proofs.YtkjnjahmlobjiaaGreatDoor
open Go.RowKit

set_option maxRecDepth 100000 in
theorem Tryz.fieldOp (i l r p : Int) (w : World) : (Instr.field 142 (.agg #[.int .i64 i, .int .i64 l, .int .i64 r, .int .i64 p]) 0).run Tryz.prog w = .ok (.int .i64 i) w := by kernel_rfl
def negB (x y : Tk × Nat) : Bool := decide (x.1.text = [45] ∧ y.1.kind = 3 ∧ y.2 = x.2 + 1)
set_option maxRecDepth 100000 in
set_option maxHeartbeats 2000000 in
theorem isNeg_p (x y : Tk × Nat) (W : World) (hx : x.2 ≤ 1000000) : Calls Tryz.prog 93 #[.agg #[.int .i64 (x.1.kind : Nat), .string ⟨x.1.text.toArray⟩, .int .i64 (x.1.n : Nat), .int .i64 (x.2 : Nat), .bool x.1.opn], .agg #[.int .i64 (y.1.kind : Nat), .string ⟨y.1.text.toArray⟩, .int .i64 (y.1.n : Nat), .int .i64 (y.2 : Nat), .bool y.1.opn]] W
    fun e W' => e = .returned (.bool (negB x y)) ∧ Below W.heap.size W W' := by
  obtain ⟨B, hB⟩ : ∃ B, negB x y = B := ⟨_, rfl⟩
  rw [hB]
  have hs1 : (⟨x.1.text.toArray⟩ : ByteArray).toList = x.1.text := by rw [bs_toList]; simp [bs]
  have hs2 : (⟨#[45]⟩ : ByteArray).toList = [45] := by rw [bs_toList]; rfl
  have jw : IntKind.i64.wrap ((x.2 : Int) + 1) = (x.2 : Int) + 1 := by rw [IntKind.wrap_i64]; omega
  have hb := ((Below.refl W.heap.size W).alloc (Nat.le_refl _) (.cells #[.int .i64 (x.1.kind : Nat), .string ⟨x.1.text.toArray⟩, .int .i64 (x.1.n : Nat), .int .i64 (x.2 : Nat), .bool x.1.opn] 103)).alloc (by simp) (.cells #[.int .i64 (y.1.kind : Nat), .string ⟨y.1.text.toArray⟩, .int .i64 (y.1.n : Nat), .int .i64 (y.2 : Nat), .bool y.1.opn] 103)
  have HB := Lib.hid hb
  clear hb
  by_cases htx : x.1.text = [45]
  · have q1 : ((⟨x.1.text.toArray⟩ : ByteArray).toList == (⟨#[45]⟩ : ByteArray).toList) = true := by rw [hs1, hs2, htx]; rfl
    have q2 : (x.1.text == [45]) = true := by rw [htx]; rfl
    by_cases k3 : y.1.kind = 3
    · have q3 : ((y.1.kind : Int) == 3) = true := by rw [beq_iff_eq]; omega
      by_cases hp : y.2 = x.2 + 1
      · have q4 : ((y.2 : Int) == (x.2 : Int) + 1) = true := by rw [beq_iff_eq]; omega
        obtain rfl : true = B := by rw [← hB]; simp [negB, htx, k3, hp]
        clear hB htx k3 hp hs1 hs2 q1
        go_enter Tryz.func93, Tryz.ntmps93
        go_wp2_with fail
        go_ret
        exact ⟨rfl, HB.out⟩
      · have q4 : ((y.2 : Int) == (x.2 : Int) + 1) = false := by rw [beq_eq_false_iff_ne]; omega
        obtain rfl : false = B := by rw [← hB]; simp [negB, hp]
        clear hB htx k3 hp hs1 hs2 q1
        go_enter Tryz.func93, Tryz.ntmps93
        go_wp2_with fail
        go_ret
        exact ⟨rfl, HB.out⟩
    · have q3 : ((y.1.kind : Int) == 3) = false := by rw [beq_eq_false_iff_ne]; omega
      obtain rfl : false = B := by rw [← hB]; simp [negB, k3]
      clear hB htx k3 hs1 hs2 q1
      go_enter Tryz.func93, Tryz.ntmps93
      go_wp2_with fail
      go_ret
      exact ⟨rfl, HB.out⟩
  · have q1 : ((⟨x.1.text.toArray⟩ : ByteArray).toList == (⟨#[45]⟩ : ByteArray).toList) = false := by rw [hs1, hs2, beq_eq_false_iff_ne]; exact htx
    have q2 : (x.1.text == [45]) = false := by rw [beq_eq_false_iff_ne]; exact htx
    obtain rfl : false = B := by rw [← hB]; simp [negB, htx]
    clear hB htx hs1 hs2 q1
    go_enter Tryz.func93, Tryz.ntmps93
    go_wp2_with fail
    go_ret
    exact ⟨rfl, HB.out⟩
/-- May a token begin the term of an operator ahead of one term? -/
def begB (y : Tk × Nat) : Bool := decide (y.1.kind = 3 ∨ y.1.kind = 2 ∨ (y.1.kind = 1 ∧ (infixP y.1.text).1 = 0) ∨ (y.1.kind = 4 ∧ (y.1.text = [40] ∨ y.1.text = [91])))
structure BegPost (X : Nat → Prop) (W : World) (rb z : Nat) (ts : Toks) (ns : Names) (nv : Value) (y : Tk × Nat) (e : Ending) (W' : World) : Prop where
  ret : e = .returned (.bool (begB y))
  rd : PRd X W' rb z ts ns nv
  fr : FrP (fun b => b = rb) W W'
set_option maxRecDepth 100000 in
set_option maxHeartbeats 4000000 in
theorem begins_p {X : Nat → Prop} (y : Tk × Nat) (W : World) (rb z : Nat) (ts : Toks) (ns : Names) (nv : Value) (h : PRd X W rb z ts ns nv) (hy : y.1.text.length ≤ 1000000) : Calls Tryz.prog 95 #[.pointer (some ⟨rb, 0, none⟩), .agg #[.int .i64 (y.1.kind : Nat), .string ⟨y.1.text.toArray⟩, .int .i64 (y.1.n : Nat), .int .i64 (y.2 : Nat), .bool y.1.opn]] W
    fun e W' => BegPost X W rb z ts ns nv y e W' := by
  obtain ⟨B, hB⟩ : ∃ B, begB y = B := ⟨_, rfl⟩
  have hs1 : (⟨y.1.text.toArray⟩ : ByteArray).toList = y.1.text := by rw [bs_toList]; simp [bs]
  have hs2 : (⟨#[40]⟩ : ByteArray).toList = [40] := by rw [bs_toList]; rfl
  have hs3 : (⟨#[91]⟩ : ByteArray).toList = [91] := by rw [bs_toList]; rfl
  have hb := (Below.refl W.heap.size W).alloc (Nat.le_refl _) (.cells #[.int .i64 (y.1.kind : Nat), .string ⟨y.1.text.toArray⟩, .int .i64 (y.1.n : Nat), .int .i64 (y.2 : Nat), .bool y.1.opn] 103)
  have HB := Lib.hid hb
  have H := Lib.hid (h.next hb)
  have HF := Lib.hid ((FrP.of_below hb).mono (Q := fun b => b = rb) (fun _ _ h => h.elim))
  have HBB := Lib.hid hB
  clear hb h
  by_cases k3 : y.1.kind = 3
  · have q3 : ((y.1.kind : Int) == 3) = true := by rw [beq_iff_eq]; omega
    obtain rfl : true = B := by rw [← hB]; simp [begB, k3]
    clear hB k3 hs1 hs2 hs3
    go_enter Tryz.func95, Tryz.ntmps95
    go_wp2_with fail
    go_ret
    exact ⟨by rw [HBB.out]; rfl, H.out, HF.out⟩
  have q3 : ((y.1.kind : Int) == 3) = false := by rw [beq_eq_false_iff_ne]; omega
  by_cases k2 : y.1.kind = 2
  · have q2 : ((y.1.kind : Int) == 2) = true := by rw [beq_iff_eq]; omega
    obtain rfl : true = B := by rw [← hB]; simp [begB, k2]
    clear hB k3 k2 hs1 hs2 hs3
    go_enter Tryz.func95, Tryz.ntmps95
    go_wp2_with fail
    go_ret
    exact ⟨by rw [HBB.out]; rfl, H.out, HF.out⟩
  have q2 : ((y.1.kind : Int) == 2) = false := by rw [beq_eq_false_iff_ne]; omega
  by_cases k1 : y.1.kind = 1
  · have q1 : ((y.1.kind : Int) == 1) = true := by rw [beq_iff_eq]; omega
    have HO := Lib.hid (operator_any (W.alloc (.cells #[.int .i64 (y.1.kind : Nat), .string ⟨y.1.text.toArray⟩, .int .i64 (y.1.n : Nat), .int .i64 (y.2 : Nat), .bool y.1.opn] 103)) rb z ts ns nv H.out (y.1.kind : Nat) (y.1.n : Nat) (y.2 : Nat) y.1.text y.1.opn hy)
    obtain rfl : decide ((infixP y.1.text).1 = 0) = B := by rw [← hB]; simp [begB, k1]
    have HI := Lib.hid (show (((infixP y.1.text).1 : Int) == 0) = decide ((infixP y.1.text).1 = 0) by rw [Bool.eq_iff_iff]; simp)
    have hfl := fun w => Tryz.fieldOp ((infixP y.1.text).1 : Nat) ((infixP y.1.text).2.1 : Nat) ((infixP y.1.text).2.2 : Nat) (prefP y.1.text : Nat) w
    clear hB k3 k2 k1 hs1 hs2 hs3
    go_enter Tryz.func95, Tryz.ntmps95
    go_wp2_with (go_at_call 82; (with_reducible refine (HO.out).mono ?_); rintro e W2 ⟨rfl, hrd, hfr⟩)
    go_ret
    refine ⟨?_, hrd, HF.out.trans hfr (fun _ _ h => h) (fun _ _ h => h)⟩
    rw [HBB.out, ← HI.out]
    rfl
  have q1 : ((y.1.kind : Int) == 1) = false := by rw [beq_eq_false_iff_ne]; omega
  by_cases k4 : y.1.kind = 4
  · have q4 : ((y.1.kind : Int) == 4) = true := by rw [beq_iff_eq]; omega
    by_cases t1 : y.1.text = [40]
    · have p1 : ((⟨y.1.text.toArray⟩ : ByteArray).toList == (⟨#[40]⟩ : ByteArray).toList) = true := by rw [hs1, hs2, t1]; rfl
      have p2 : (y.1.text == [40]) = true := by rw [t1]; rfl
      obtain rfl : true = B := by rw [← hB]; simp [begB, k4, t1]
      clear hB k3 k2 k1 k4 t1 hs1 hs2 hs3 p1
      go_enter Tryz.func95, Tryz.ntmps95
      go_wp2_with fail
      go_ret
      exact ⟨by rw [HBB.out]; rfl, H.out, HF.out⟩
    · have p1 : ((⟨y.1.text.toArray⟩ : ByteArray).toList == (⟨#[40]⟩ : ByteArray).toList) = false := by rw [hs1, hs2, beq_eq_false_iff_ne]; exact t1
      have p2 : (y.1.text == [40]) = false := by rw [beq_eq_false_iff_ne]; exact t1
      by_cases t2 : y.1.text = [91]
      · have p3 : ((⟨y.1.text.toArray⟩ : ByteArray).toList == (⟨#[91]⟩ : ByteArray).toList) = true := by rw [hs1, hs3, t2]; rfl
        have p4 : (y.1.text == [91]) = true := by rw [t2]; rfl
        obtain rfl : true = B := by rw [← hB]; simp [begB, k4, t2]
        clear hB k3 k2 k1 k4 t1 t2 hs1 hs2 hs3 p1 p3
        go_enter Tryz.func95, Tryz.ntmps95
        go_wp2_with fail
        go_ret
        exact ⟨by rw [HBB.out]; rfl, H.out, HF.out⟩
      · have p3 : ((⟨y.1.text.toArray⟩ : ByteArray).toList == (⟨#[91]⟩ : ByteArray).toList) = false := by rw [hs1, hs3, beq_eq_false_iff_ne]; exact t2
        have p4 : (y.1.text == [91]) = false := by rw [beq_eq_false_iff_ne]; exact t2
        obtain rfl : false = B := by rw [← hB]; simp [begB, k4, t1, t2]
        clear hB k3 k2 k1 k4 t1 t2 hs1 hs2 hs3 p1 p3
        go_enter Tryz.func95, Tryz.ntmps95
        go_wp2_with fail
        go_ret
        exact ⟨by rw [HBB.out]; rfl, H.out, HF.out⟩
  · have q4 : ((y.1.kind : Int) == 4) = false := by rw [beq_eq_false_iff_ne]; omega
    obtain rfl : false = B := by rw [← hB]; simp [begB, k1, k2, k3, k4]
    clear hB k3 k2 k1 k4 hs1 hs2 hs3
    go_enter Tryz.func95, Tryz.ntmps95
    go_wp2_with fail
    go_ret
    exact ⟨by rw [HBB.out]; rfl, H.out, HF.out⟩
end Go.Proofs.YtkjnjahmlobjiaaGreatDoor

namespace Go.Proofs.YtkjnjahmlobjiaaGreatDoor
open Go.RowKit

def idxV (o : Option Nat) : Int := match o with | some i => (i : Int) | none => -1
theorem findN_eq (tx : List UInt8) (ns : Names) (k : Nat) (hk : k < ns.length) (h : ns[k] = tx) (hno : ∀ j (hj : j < ns.length), j < k → ns[j] ≠ tx) : findN tx ns = some k := by
  cases hf : findN tx ns with
  | none => exact absurd h (findN_none hf k hk)
  | some i =>
    obtain ⟨hi, h1, h2⟩ := findN_some hf
    rcases Nat.lt_trichotomy i k with h3 | h3 | h3
    · exact absurd h1 (hno i hi h3)
    · rw [h3]
    · exact absurd h (h2 k hk h3)
theorem findN_no (tx : List UInt8) (ns : Names) (hno : ∀ j (hj : j < ns.length), ns[j] ≠ tx) : findN tx ns = none := by
  cases hf : findN tx ns with
  | none => rfl
  | some i =>
    obtain ⟨hi, h1, h2⟩ := findN_some hf
    exact absurd h1 (hno i hi)
set_option maxRecDepth 100000 in
set_option maxHeartbeats 2000000 in
theorem index_any (tx : List UInt8) (ns : Names) (W : World) (nv : Value) (h : W.ownsRow 0 9 1 nv ns.length (ns.map fun x => Value.string ⟨x.toArray⟩)) (hl : ns.length ≤ 2000000) :
    Calls Tryz.prog 123 #[nv, .string ⟨tx.toArray⟩] W fun e W' => e = .returned (.int .i64 (idxV (findN tx ns))) ∧ W' = W := by
  obtain ⟨R, hR⟩ : ∃ R, idxV (findN tx ns) = R := ⟨_, rfl⟩
  rw [hR]
  have HR := Lib.hid hR
  have HO := Lib.hid h
  obtain ⟨g, c, rfl⟩ : ∃ g c, nv = .slice g ns.length c := by
    rcases h.2 with ⟨rfl, h0⟩ | ⟨g, cap, _, rfl, _⟩
    · exact ⟨none, 0, by rw [h0]⟩
    · exact ⟨_, cap, rfl⟩
  clear h hR
  go_enter Tryz.func123, Tryz.ntmps123
  go_wp2_with fail
  go_loop [8] (fun i => ∃ k : Nat, k ≤ ns.length ∧ i = .int .i64 k ∧ Hid (∀ j (h : j < ns.length), j < k → ns[j] ≠ tx)) (fun i => ns.length - (intOf i).toNat)
  case atStart => exact ⟨0, Nat.zero_le _, rfl, Lib.hid (fun j _ h => absurd h (Nat.not_lt_zero _))⟩
  case round =>
    obtain ⟨k, hk, rfl, hno⟩ := hrel
    have HNO := Lib.hid hno.out
    clear hno
    by_cases hlt : k < ns.length
    · obtain ⟨b, cap, hv⟩ := own_pos HO.out (by omega)
      injection hv with hg _ hc
      subst hg hc
      have hx := HO.out.cells (g := b) rfl k (.string ⟨ns[k].toArray⟩) (by rw [List.getElem?_map, List.getElem?_eq_getElem hlt]; rfl)
      rw [Addr.add_lit] at hx
      simp only [Nat.zero_add] at hx
      have j0 : (0 : Int) ≤ (k : Int) := by omega
      have j1 : (k : Int) < (ns.length : Int) := by omega
      by_cases hxx : tx = ns[k]
      · have hb : (tx == ns[k]) = true := by rw [beq_iff_eq]; exact hxx
        have hr : idxV (findN tx ns) = (k : Int) := by rw [findN_eq tx ns k hlt hxx.symm HNO.out]; rfl
        obtain rfl : (k : Int) = R := by rw [← HR.out, hr]
        clear hxx hr
        go_wp2_with fail
        go_ret
        exact ⟨rfl, rfl⟩
      · have hb : (tx == ns[k]) = false := by rw [beq_eq_false_iff_ne]; exact hxx
        have HX := Lib.hid hxx
        clear hxx
        go_wp2_with fail
        go_round
        case rel =>
          refine ⟨k + 1, by omega, by go_num, Lib.hid fun j hj hjk => ?_⟩
          by_cases e : j < k
          · exact HNO.out j hj e
          · obtain rfl : j = k := by omega
            exact fun e => HX.out e.symm
        case measure => simp [intOf]; omega
    · have hr : idxV (findN tx ns) = -1 := by rw [findN_no tx ns (fun j hj => HNO.out j hj (by omega))]; rfl
      obtain rfl : (-1 : Int) = R := by rw [← HR.out, hr]
      clear hr
      go_wp2_with fail
      go_ret
      exact ⟨rfl, rfl⟩
/-- The reader's texts are written: a row that has grown. -/
theorem PRd.setNames {X : Nat → Prop} {W W' : World} {rb z : Nat} {ts : Toks} {ns ns' : Names} {nv nv' : Value} (h : PRd X W rb z ts ns nv) (hg : W.grownBy W' nv.ownBlock) (ho : W'.ownsRow 0 9 1 nv' ns'.length (ns'.map fun x => Value.string ⟨x.toArray⟩))
    (hs : ∀ b, nv'.ownBlock = some b → nv.ownBlock = some b ∨ W.heap.size ≤ b) : PRd (XN X nv') (W'.setCell ⟨rb, 2, none⟩ nv') rb z ts ns' nv' ∧ FrP (wrt rb nv) W (W'.setCell ⟨rb, 2, none⟩ nv') := by
  obtain ⟨tv, mv, d, q, hc, ht, hm⟩ := h.cells
  have hf1 : FrP (fun b => nv.ownBlock = some b) W W' := (FrP.of_grown hg).mono (fun b _ e => e.symm)
  have hf2 := FrP.set W' rb 2 nv'
  have hf : FrP (wrt rb nv) W (W'.setCell ⟨rb, 2, none⟩ nv') := hf1.trans hf2 (fun b _ e => .inr e) (fun b _ e => .inl e)
  have hne : nv.ownBlock ≠ some rb := fun e => (h.nvx rb e).2 rfl
  have hP : ∀ b, wrt rb nv b → X b := fun b hb => by
    rcases hb with rfl | e
    · exact h.own
    · exact (h.nvx b e).1
  have hX : ∀ b, XN X nv' b → X b ∨ W.heap.size ≤ b := fun b hx => by
    rcases hx with hx | hx
    · exact .inl hx
    · rcases hs b hx with e | e
      · exact .inl (h.nvx b e).1
      · exact .inr e
  have hne2 : ∀ b, nv'.ownBlock = some b → b ≠ rb := fun b e => by
    rcases hs b e with e1 | e1
    · exact (h.nvx b e1).2
    · have := h.lt
      omega
  refine ⟨⟨⟨tv, mv, d, q, set_blk ((hf1.block rb h.lt (fun e => hne e)).trans hc), ⟨toksP_mv ht.1 hf hP hX, ht.2⟩, ?_⟩, ownsRow_mv ho hf2 (fun b e e2 => hne2 b e e2), fun b e => ⟨.inr e, hne2 b e⟩, .inl h.own, fun b hx => ?_⟩, hf⟩
  · rcases hm with hm | ⟨hd, mb, e, hb, hm⟩
    · exact .inl hm
    · exact .inr ⟨hd, mb, e, okN_mv hf hX mb hb, hm.same (hf.block mb hb.2 (fun hp => hb.1 (hP mb hp)))⟩
  · rcases hx with hx | hx
    · exact Nat.lt_of_lt_of_le (h.old b hx) hf.size
    · exact Nat.lt_of_lt_of_le (ho.lt b hx).2 hf2.size
theorem news1 (w : World) (x : Value) (T : TypeId) (b : Nat) (hb : b = w.heap.size) : ∀ j u, ([x] : List Value)[j]? = some u → (w.alloc (.cells #[x] T)).cell? ((⟨b, 0, none⟩ : Addr).add j) = some u := by
  intro j u hj
  have h := newBlk w (.cells #[x] T) b hb
  rw [Addr.add_lit]
  simp only [World.cell?, h, Nat.zero_add]
  simpa using hj
theorem PRd.row {X : Nat → Prop} {W W' : World} {rb z : Nat} {ts : Toks} {ns : Names} {nv : Value} (h : PRd X W rb z ts ns nv) (hg : W.grownBy W' nv.ownBlock) : W'.heap[rb]? = W.heap[rb]? := hg.block rb h.lt (fun e => (h.nvx rb e.symm).2 rfl)
/-- The number of a variable; the texts behind it. -/
structure VarQ (X : Nat → Prop) (W : World) (rb z : Nat) (ts : Toks) (nv : Value) (r : Nat × Names) (e : Ending) (W' : World) : Prop where
  ret : e = .returned (.agg #[.int .i64 1, .string ⟨#[]⟩, .int .i64 (r.1 : Nat), .slice none 0 0])
  rd : ∃ nv', PRd (XN X nv') W' rb z ts r.2 nv' ∧ NvN W nv nv'
  fr : FrP (wrt rb nv) W W'
set_option maxRecDepth 100000 in
set_option maxHeartbeats 2000000 in
theorem variable_p {X : Nat → Prop} (W : World) (rb z : Nat) (ts : Toks) (ns : Names) (nv : Value) (tx : List UInt8) (h : PRd X W rb z ts ns nv) (hu : NoUs ns) (htx : tx ≠ []) (hl : ns.length ≤ 2000000) :
    Calls Tryz.prog 109 #[.pointer (some ⟨rb, 0, none⟩), .string ⟨tx.toArray⟩] W fun e W' => VarQ X W rb z ts nv (varN ns tx) e W' := by
  obtain ⟨R, hR⟩ : ∃ R, varN ns tx = R := ⟨_, rfl⟩
  rw [hR]
  have HR := Lib.hid hR
  clear hR
  obtain ⟨tv, mv, d, q, hblk, -, -⟩ := h.cells
  have hlt := h.lt
  have hb := (Below.refl W.heap.size W).alloc (Nat.le_refl _) (.cells #[.int .i64 0, .string ⟨#[]⟩, .int .i64 0, .slice none 0 0] 34)
  have hnw := newBlk W (.cells #[.int .i64 0, .string ⟨#[]⟩, .int .i64 0, .slice none 0 0] 34) W.heap.size rfl
  have hx1 := h.ext (X' := fun b => X b ∨ b = W.heap.size) hb (fun b hx => hx.imp id (fun e => by subst e; exact ⟨Nat.le_refl _, by simp⟩)) (fun b hx => .inl hx)
  obtain ⟨V, hV⟩ : ∃ V, W.alloc (.cells #[.int .i64 0, .string ⟨#[]⟩, .int .i64 0, .slice none 0 0] 34) = V := ⟨_, rfl⟩
  have hbk := (hb.block rb hlt).trans hblk
  have H := Lib.hid h
  have HX1 : Hid (PRd (fun b => X b ∨ b = W.heap.size) V rb z ts ns nv) := Lib.hid (hV ▸ hx1)
  have HBE : Hid (Below W.heap.size W V) := Lib.hid (hV ▸ hb)
  have HNW : Hid (V.heap[W.heap.size]? = some (.cells #[.int .i64 0, .string ⟨#[]⟩, .int .i64 0, .slice none 0 0] 34 (0, 0))) := Lib.hid (hV ▸ hnw)
  have HBK : Hid (V.heap[rb]? = some (.cells #[tv, .int .i64 (z : Nat), nv, .int .u32 d, .int .i32 0, .int .u32 q, mv] 101 (0, 0))) := Lib.hid (hV ▸ hbk)
  have HIX := Lib.hid (index_any tx ns V nv HX1.out.nms hl)
  have HTX := Lib.hid htx
  have HU := Lib.hid hu
  clear h hb hnw hx1 hblk hbk htx hu
  go_enter Tryz.func109, Tryz.ntmps109
  go_upto_region 1 with fail
  clear hV
  obtain ⟨⟨c0, c1, c2, c3, c4, c5, c6⟩, f0, f1, f2, f3, f4, f5, f6⟩ := row7 HBK.out
  obtain ⟨⟨z0, z1, z2, z3⟩, zf0, zf1, zf2, zf3⟩ := row4 HNW.out
  have hsz : W.heap.size < V.heap.size := (Array.getElem?_eq_some_iff.1 HNW.out).1
  cases hf : findN tx ns with
  | some i =>
    obtain ⟨hi, hix, -⟩ := findN_some hf
    have hvn : varN ns tx = (i, ns) := by
      have hne : ¬ (tx = [95] ∨ tx = []) := by
        rintro (e | e)
        · exact HU.out (by rw [← e, ← hix]; exact List.getElem_mem _)
        · exact HTX.out e
      unfold varN
      rw [if_neg hne, hf]
    obtain rfl : (i, ns) = R := by rw [← HR.out, hvn]
    have HIX2 : Hid (Calls Tryz.prog 123 #[nv, .string ⟨tx.toArray⟩] V fun e W' => e = .returned (.int .i64 (i : Int)) ∧ W' = V) := Lib.hid (by have := HIX.out; rw [hf] at this; exact this)
    have hn0 : ((i : Int) < 0) = False := by simp
    clear HIX hf hvn hix
    go_wp2_with (go_at_call 123; (with_reducible refine (HIX2.out).mono ?_); rintro e W2 ⟨rfl, rfl⟩)
    have hfs := FrP.put W2 W.heap.size 1 ⟨#[]⟩ (i : Int) (.slice none 0 0)
    have hz := set4_blk HNW.out 1 ⟨#[]⟩ (i : Int) (.slice none 0 0)
    change bodyPost _ _ _ _ _ (set4 W2 W.heap.size 1 ⟨#[]⟩ (i : Int) (.slice none 0 0))
    obtain ⟨U, hU⟩ : ∃ U, set4 W2 W.heap.size 1 ⟨#[]⟩ (i : Int) (.slice none 0 0) = U := ⟨_, rfl⟩
    rw [hU] at hfs hz ⊢
    obtain ⟨⟨y0, y1, y2, y3⟩, -⟩ := row4 hz
    have HFS := Lib.hid hfs
    clear hU hz hfs c0 c1 c2 c3 c4 c5 c6 f0 f1 f2 f3 f4 f5 f6 z0 z1 z2 z3 zf0 zf1 zf2 zf3
    refine bodyPost_ret (v := .agg #[.int .i64 1, .string ⟨#[]⟩, .int .i64 (i : Nat), .slice none 0 0]) (by simp [results, Tryz.results109, go_sem, y0, y1, y2, y3]) rfl ?_
    have hr1 := HX1.out.other HFS.out (.inr rfl) (by omega) (fun e => by
      have h1 := H.out.old _ ((H.out.nvx _ e).1)
      omega)
    refine ⟨rfl, ⟨nv, hr1.less (fun b hx => ?_) (.inl H.out.own) (fun b hb => .inr hb), NvN.refl _ _⟩, (FrP.of_below HBE.out).trans HFS.out (fun _ _ h => h.elim) (fun b hb e => by omega)⟩
    rcases hx with hx | hx
    · exact .inl hx
    · exact .inl (H.out.nvx b hx).1
  | none =>
    have HIX2 : Hid (Calls Tryz.prog 123 #[nv, .string ⟨tx.toArray⟩] V fun e W' => e = .returned (.int .i64 (-1)) ∧ W' = V) := Lib.hid (by have := HIX.out; rw [hf] at this; exact this)
    have HF := Lib.hid hf
    obtain ⟨i0, hi, hz0, hz1, hz2⟩ := info_parts Tryz.infoStr
    obtain ⟨g, cap, hnv⟩ : ∃ g cap, nv = .slice g ns.length cap := by
      rcases H.out.nms.2 with ⟨rfl, h0⟩ | ⟨g, cap, _, rfl, _⟩
      · exact ⟨none, 0, by rw [h0]⟩
      · exact ⟨_, cap, rfl⟩
    subst hnv
    have hs1 : (⟨tx.toArray⟩ : ByteArray).toList = tx := by rw [bs_toList]; simp [bs]
    have hs2 : (⟨#[95]⟩ : ByteArray).toList = [95] := by rw [bs_toList]; rfl
    clear HIX hf
    obtain ⟨tn, htn⟩ : ∃ tn : List UInt8, (if tx = [95] then [] else tx) = tn := ⟨_, rfl⟩
    have hvn : R = (ns.length, ns ++ [tn]) := by
      rw [← HR.out]
      unfold varN
      by_cases h9 : tx = [95]
      · rw [if_pos (.inl h9), ← htn, if_pos h9]
      · rw [if_neg (by rintro (e | e); exact h9 e; exact HTX.out e), HF.out, ← htn, if_neg h9]
    subst hvn
    by_cases h9 : tx = [95]
    · have q1 : (tx == [95]) = true := by rw [h9]; rfl
      obtain rfl : [] = tn := by rw [← htn, if_pos h9]
      clear h9 hs1 hs2 htn
      go_wp2_with (first | (go_at_call 123; (with_reducible refine (HIX2.out).mono ?_); rintro e W2 ⟨rfl, rfl⟩) | (at_builtin; refine wpList_append_any rfl _ _ 45 rfl 0 9 i0 _ 1 16 Tryz.underlying45 hi hz0 hz1 hz2 rfl (by decide) _ ns.length (ns.map fun x => Value.string ⟨x.toArray⟩) rfl (HX1.out.nms.alloc _) _ 1 1 [.string ⟨#[]⟩] rfl rfl (.inr ⟨_, rfl, news1 _ _ _ _ rfl⟩) (by intro u hu; simp at hu; subst hu; rfl) (by unfold maxLen; omega) (by omega) (Nat.zero_le _) ?_))
      intro v5 W5 ho5 hg5 hs5
      have hgg := grown_trans (grown_allc W2 (.cells #[.string ⟨#[]⟩] 9) (Value.slice g ns.length cap).ownBlock) hg5 (fun _ e => .inl e)
      have hbb := (HX1.out.row hgg).trans HBK.out
      have hwb := (hgg.block W.heap.size hsz (fun e => by have h1 := H.out.old _ ((H.out.nvx _ e.symm).1); omega)).trans HNW.out
      clear c0 c1 c2 c3 c4 c5 c6 f0 f1 f2 f3 f4 f5 f6 z0 z1 z2 z3 zf0 zf1 zf2 zf3
      obtain ⟨⟨c0, c1, c2, c3, c4, c5, c6⟩, f0, f1, f2, f3, f4, f5, f6⟩ := row7 hbb
      obtain ⟨⟨z0, z1, z2, z3⟩, zf0, zf1, zf2, zf3⟩ := row4 hwb
      have HO5 := Lib.hid ho5
      have HGG := Lib.hid hgg
      have HS5 := Lib.hid hs5
      have HWB := Lib.hid hwb
      have hrb5 : rb < W5.heap.size := (Array.getElem?_eq_some_iff.1 hbb).1
      have hws : W.heap.size < W5.heap.size := (Array.getElem?_eq_some_iff.1 hwb).1
      have hrw : rb ≠ W.heap.size := by omega
      clear ho5 hgg hs5 hbb hwb hg5
      obtain ⟨g5, cap5, hv5⟩ := own_pos HO5.out (by omega)
      subst hv5
      go_wp2_with fail
      have hsn := PRd.setNames (ns' := ns ++ [[]]) HX1.out HGG.out (by simpa using HO5.out) (fun b e => by
        rcases HS5.out with h1 | h1
        · exact .inl (h1.symm.trans e)
        · rw [h1] at e
          injection e with e
          exact .inr (by omega))
      have hz := ((FrP.set W5 rb 2 (.slice (some ⟨g5, 0, none⟩) (ns.length + 1) cap5)).block W.heap.size hws (Ne.symm hrw)).trans HWB.out
      have hnv : NvN W (.slice g ns.length cap) (.slice (some ⟨g5, 0, none⟩) (ns.length + 1) cap5) := fun b e => by
        rcases HS5.out with h1 | h1
        · exact .inl (h1.symm.trans e)
        · rw [h1] at e
          injection e with e
          exact .inr (by omega)
      obtain ⟨W6, hW6⟩ : ∃ W6, W5.setCell ⟨rb, 2, none⟩ (.slice (some ⟨g5, 0, none⟩) (ns.length + 1) cap5) = W6 := ⟨_, rfl⟩
      change bodyPost _ _ _ _ _ (set4 (W5.setCell ⟨rb, 2, none⟩ (.slice (some ⟨g5, 0, none⟩) (ns.length + 1) cap5)) W.heap.size 1 ⟨#[]⟩ (ns.length : Nat) (.slice none 0 0))
      rw [hW6] at hsn hz ⊢
      have hfs := FrP.put W6 W.heap.size 1 ⟨#[]⟩ (ns.length : Int) (.slice none 0 0)
      have hz2 := set4_blk hz 1 ⟨#[]⟩ (ns.length : Int) (.slice none 0 0)
      obtain ⟨U, hU⟩ : ∃ U, set4 W6 W.heap.size 1 ⟨#[]⟩ (ns.length : Int) (.slice none 0 0) = U := ⟨_, rfl⟩
      rw [hU] at hfs hz2 ⊢
      obtain ⟨⟨y0, y1, y2, y3⟩, -⟩ := row4 hz2
      have HFS := Lib.hid hfs
      have HSN := Lib.hid hsn
      have HNV := Lib.hid hnv
      clear hU hz hz2 hfs hsn hW6 hnv c0 c1 c2 c3 c4 c5 c6 f0 f1 f2 f3 f4 f5 f6 z0 z1 z2 z3 zf0 zf1 zf2 zf3
      refine bodyPost_ret (v := .agg #[.int .i64 1, .string ⟨#[]⟩, .int .i64 (ns.length : Nat), .slice none 0 0]) (by simp [results, Tryz.results109, go_sem, y0, y1, y2, y3]) rfl ?_
      have hne : (Value.slice (some ⟨g5, 0, none⟩) (ns.length + 1) cap5).ownBlock ≠ some W.heap.size := fun e => by
        rcases HNV.out _ e with h1 | h1
        · have h2 := H.out.old _ ((H.out.nvx _ h1).1)
          omega
        · rcases HS5.out with h3 | h3
          · have h2 := H.out.old _ ((H.out.nvx _ (h3.symm.trans e)).1)
            omega
          · rw [h3] at e
            injection e with e
            omega
      have hr1 := HSN.out.1.other HFS.out (.inl (.inr rfl)) (Ne.symm hrw) hne
      refine ⟨rfl, ⟨_, hr1.less (fun b hx => ?_) (.inl H.out.own) (fun b hb => .inr hb), HNV.out⟩, ((FrP.of_below HBE.out).trans HSN.out.2 (fun _ _ h => h.elim) (fun _ _ h => h)).trans HFS.out (fun _ _ h => h) (fun b hb e => by omega)⟩
      rcases hx with hx | hx
      · exact .inl (.inl hx)
      · exact .inr hx
    · have q1 : (tx == [95]) = false := by rw [beq_eq_false_iff_ne]; exact h9
      obtain rfl : tx = tn := by rw [← htn, if_neg h9]
      clear h9 hs1 hs2 htn
      go_wp2_with (first | (go_at_call 123; (with_reducible refine (HIX2.out).mono ?_); rintro e W2 ⟨rfl, rfl⟩) | (at_builtin; refine wpList_append_any rfl _ _ 45 rfl 0 9 i0 _ 1 16 Tryz.underlying45 hi hz0 hz1 hz2 rfl (by decide) _ ns.length (ns.map fun x => Value.string ⟨x.toArray⟩) rfl (HX1.out.nms.alloc _) _ 1 1 [.string ⟨tx.toArray⟩] rfl rfl (.inr ⟨_, rfl, news1 _ _ _ _ rfl⟩) (by intro u hu; simp at hu; subst hu; rfl) (by unfold maxLen; omega) (by omega) (Nat.zero_le _) ?_))
      intro v5 W5 ho5 hg5 hs5
      have hgg := grown_trans (grown_allc W2 (.cells #[.string ⟨tx.toArray⟩] 9) (Value.slice g ns.length cap).ownBlock) hg5 (fun _ e => .inl e)
      have hbb := (HX1.out.row hgg).trans HBK.out
      have hwb := (hgg.block W.heap.size hsz (fun e => by have h1 := H.out.old _ ((H.out.nvx _ e.symm).1); omega)).trans HNW.out
      clear c0 c1 c2 c3 c4 c5 c6 f0 f1 f2 f3 f4 f5 f6 z0 z1 z2 z3 zf0 zf1 zf2 zf3
      obtain ⟨⟨c0, c1, c2, c3, c4, c5, c6⟩, f0, f1, f2, f3, f4, f5, f6⟩ := row7 hbb
      obtain ⟨⟨z0, z1, z2, z3⟩, zf0, zf1, zf2, zf3⟩ := row4 hwb
      have HO5 := Lib.hid ho5
      have HGG := Lib.hid hgg
      have HS5 := Lib.hid hs5
      have HWB := Lib.hid hwb
      have hrb5 : rb < W5.heap.size := (Array.getElem?_eq_some_iff.1 hbb).1
      have hws : W.heap.size < W5.heap.size := (Array.getElem?_eq_some_iff.1 hwb).1
      have hrw : rb ≠ W.heap.size := by omega
      clear ho5 hgg hs5 hbb hwb hg5
      obtain ⟨g5, cap5, hv5⟩ := own_pos HO5.out (by omega)
      subst hv5
      go_wp2_with fail
      have hsn := PRd.setNames (ns' := ns ++ [tx]) HX1.out HGG.out (by simpa using HO5.out) (fun b e => by
        rcases HS5.out with h1 | h1
        · exact .inl (h1.symm.trans e)
        · rw [h1] at e
          injection e with e
          exact .inr (by omega))
      have hz := ((FrP.set W5 rb 2 (.slice (some ⟨g5, 0, none⟩) (ns.length + 1) cap5)).block W.heap.size hws (Ne.symm hrw)).trans HWB.out
      have hnv : NvN W (.slice g ns.length cap) (.slice (some ⟨g5, 0, none⟩) (ns.length + 1) cap5) := fun b e => by
        rcases HS5.out with h1 | h1
        · exact .inl (h1.symm.trans e)
        · rw [h1] at e
          injection e with e
          exact .inr (by omega)
      obtain ⟨W6, hW6⟩ : ∃ W6, W5.setCell ⟨rb, 2, none⟩ (.slice (some ⟨g5, 0, none⟩) (ns.length + 1) cap5) = W6 := ⟨_, rfl⟩
      change bodyPost _ _ _ _ _ (set4 (W5.setCell ⟨rb, 2, none⟩ (.slice (some ⟨g5, 0, none⟩) (ns.length + 1) cap5)) W.heap.size 1 ⟨#[]⟩ (ns.length : Nat) (.slice none 0 0))
      rw [hW6] at hsn hz ⊢
      have hfs := FrP.put W6 W.heap.size 1 ⟨#[]⟩ (ns.length : Int) (.slice none 0 0)
      have hz2 := set4_blk hz 1 ⟨#[]⟩ (ns.length : Int) (.slice none 0 0)
      obtain ⟨U, hU⟩ : ∃ U, set4 W6 W.heap.size 1 ⟨#[]⟩ (ns.length : Int) (.slice none 0 0) = U := ⟨_, rfl⟩
      rw [hU] at hfs hz2 ⊢
      obtain ⟨⟨y0, y1, y2, y3⟩, -⟩ := row4 hz2
      have HFS := Lib.hid hfs
      have HSN := Lib.hid hsn
      have HNV := Lib.hid hnv
      clear hU hz hz2 hfs hsn hW6 hnv c0 c1 c2 c3 c4 c5 c6 f0 f1 f2 f3 f4 f5 f6 z0 z1 z2 z3 zf0 zf1 zf2 zf3
      refine bodyPost_ret (v := .agg #[.int .i64 1, .string ⟨#[]⟩, .int .i64 (ns.length : Nat), .slice none 0 0]) (by simp [results, Tryz.results109, go_sem, y0, y1, y2, y3]) rfl ?_
      have hne : (Value.slice (some ⟨g5, 0, none⟩) (ns.length + 1) cap5).ownBlock ≠ some W.heap.size := fun e => by
        rcases HNV.out _ e with h1 | h1
        · have h2 := H.out.old _ ((H.out.nvx _ h1).1)
          omega
        · rcases HS5.out with h3 | h3
          · have h2 := H.out.old _ ((H.out.nvx _ (h3.symm.trans e)).1)
            omega
          · rw [h3] at e
            injection e with e
            omega
      have hr1 := HSN.out.1.other HFS.out (.inl (.inr rfl)) (Ne.symm hrw) hne
      refine ⟨rfl, ⟨_, hr1.less (fun b hx => ?_) (.inl H.out.own) (fun b hb => .inr hb), HNV.out⟩, ((FrP.of_below HBE.out).trans HSN.out.2 (fun _ _ h => h.elim) (fun _ _ h => h)).trans HFS.out (fun _ _ h => h) (fun b hb e => by omega)⟩
      rcases hx with hx | hx
      · exact .inl (.inl hx)
      · exact .inr hx
end Go.Proofs.YtkjnjahmlobjiaaGreatDoor
