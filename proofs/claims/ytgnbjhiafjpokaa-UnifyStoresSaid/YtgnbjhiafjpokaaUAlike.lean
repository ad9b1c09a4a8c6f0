/-
  The document's unify: its walk.
-/
import Derived.Test.YtgnbjhiafjpokaaUMet
import Derived.Test.YtgnbjhiafjpokaaSMem
import Derived.Test.YtgnbjhiafjpokaaRowB
import Derived.BigQuiet
import Derived.Deep.Cut
import Derived.Deep.CutBlock
import Derived.Deep.CutRange
import Derived.Deep.LoopGhost
namespace Go.Proofs.Ytgnbjhiafjpokaa
open Go.RowKit Go.Shelf Go.Maps

/-- Rows of binds that are not the row of pairs. -/
def away (ok : Nat → Prop) (lo : Nat) (w : World) (vm : Value) (k : Nat) : Prop := k < w.heap.size ∧ vm.ownBlock ≠ some k ∧ (ok k ∨ lo ≤ k)
/-- What unify tells. -/
def UPost (ok : Nat → Prop) (l : List Bd) (a b : Tm) (B lo : Nat) (met : List (Int × Int)) (vm : Value) (w : World) (e : Ending) (w' : World) : Prop :=
  ∃ svl' vm' q, e = .returned (.tuple #[svl', vm', .bool q]) ∧ w.grownBy w' vm.ownBlock ∧
    ((q = false ∧ NoMgu l a b) ∨ (q = true ∧ ∃ l' met', MguOf l a b l' ∧ (l' = l ∨ l.length < l'.length) ∧ bdsQ w' B (away ok lo w' vm') l' svl' ∧ ownMet w' lo vm' met' ∧ (vm'.ownBlock = vm.ownBlock ∨ ∀ k, vm'.ownBlock = some k → w.heap.size ≤ k) ∧ MetOut l' met met' ∧ MetBd met'))
/-- What stands behind the first test: the pairs, the boxes. -/
structure UFirst (a b : Tm) (lo : Nat) (met met1 : List (Int × Int)) (vm s : Value) (ga gb : Value) (w wx : World) : Prop where
  own : ownMet wx lo s met1
  bd : MetBd met1
  grown : w.grownBy wx vm.ownBlock
  sep : s.ownBlock = vm.ownBlock ∨ ∀ k, s.ownBlock = some k → w.heap.size + 2 ≤ k
  boxa : wx.heap[w.heap.size]? = some (Obj.cells #[.int .i64 a.kind, .string a.name, .int .i64 a.n, ga] 27 (0, 0))
  boxb : wx.heap[w.heap.size + 1]? = some (Obj.cells #[.int .i64 b.kind, .string b.name, .int .i64 b.n, gb] 27 (0, 0))
  size : w.heap.size + 2 ≤ wx.heap.size
  eq : met1 = met ∨ (a.kind = 1 ∧ b.kind = 1 ∧ met1 = met ++ [(a.n, b.n)])

theorem UFirst.drew {a b : Tm} {lo : Nat} {met met1 : List (Int × Int)} {vm s ga gb : Value} {w wx : World} (h : UFirst a b lo met met1 vm s ga gb w wx) : UFirst a b lo met met1 vm s ga gb w wx.drew :=
  ⟨h.own, h.bd, ⟨h.grown.os, h.grown.tape, h.grown.output, h.grown.size, h.grown.block⟩, h.sep, h.boxa, h.boxb, h.size, h.eq⟩
theorem UFirst.drewN {a b : Tm} {lo : Nat} {met met1 : List (Int × Int)} {vm s ga gb : Value} {w wx : World} (h : UFirst a b lo met met1 vm s ga gb w wx) (n : Nat) : UFirst a b lo met met1 vm s ga gb w (wx.drewN n) :=
  ⟨h.own, h.bd, ⟨h.grown.os, h.grown.tape, h.grown.output, h.grown.size, h.grown.block⟩, h.sep, h.boxa, h.boxb, h.size, h.eq⟩
/-- The binds lie as they lay. -/
theorem grown_bds {ok : Nat → Prop} {B lo : Nat} {l : List Bd} {svl vm s : Value} {w wx : World} (hg : w.grownBy wx vm.ownBlock) (hsep : s.ownBlock = vm.ownBlock ∨ ∀ k, s.ownBlock = some k → w.heap.size ≤ k) (hbl : bdsQ w B (away ok lo w vm) l svl) (hB : B ≤ lo) (hvm : ∀ k, vm.ownBlock = some k → lo ≤ k ∧ k < w.heap.size) : bdsQ wx B (away ok lo wx s) l svl := by
  refine bdsQ_same hbl (fun b hb => ⟨Nat.lt_of_lt_of_le hb.1 hg.size, fun e => ?_, hb.2.2⟩) (fun b o v hlt hc => hg.cell hc (fun e => ?_)) (fun b o v hb hc => hg.cell hc (fun e => hb.2.1 e.symm))
  · rcases hsep with h | h
    · exact hb.2.1 (h ▸ e)
    · have := h b e
      have := hb.1
      omega
  · have := (hvm b e.symm).1
    omega
theorem grown_below {w W W' : World} {r : Option Nat} (h : w.grownBy W r) (g : Below w.heap.size W W') : w.grownBy W' r :=
  ⟨g.os.trans h.os, g.tape.trans h.tape, g.output.trans h.output, Nat.le_trans h.size g.size, fun k hk hne => (g.block k hk).trans (h.block k hk hne)⟩
theorem set4_gr (W : World) (b : Nat) (a0 a1 a2 a3 : Value) : W.grownBy (set4 W b a0 a1 a2 a3) (some b) := by
  have h := set4_from W (Nat.zero_le b) a0 a1 a2 a3
  exact ⟨h.os, h.tape, h.output, h.size, fun k _ hne => set4_blk W a0 a1 a2 a3 (fun e => hne (by rw [e]))⟩
/-- What stands behind the two walks. -/
structure UMid (l : List Bd) (a b a' b' : Tm) (B lo : Nat) (met met1 : List (Int × Int)) (vm s ga gb : Value) (w W : World) : Prop where
  own : ownMet W lo s met1
  bd : MetBd met1
  grown : w.grownBy W vm.ownBlock
  sep : s.ownBlock = vm.ownBlock ∨ ∀ k, s.ownBlock = some k → w.heap.size + 2 ≤ k
  boxa : W.heap[w.heap.size]? = some (Obj.cells #[.int .i64 a'.kind, .string a'.name, .int .i64 a'.n, ga] 27 (0, 0))
  boxb : W.heap[w.heap.size + 1]? = some (Obj.cells #[.int .i64 b'.kind, .string b'.name, .int .i64 b'.n, gb] 27 (0, 0))
  size : w.heap.size + 2 ≤ W.heap.size
  eq : met1 = met ∨ (a.kind = 1 ∧ b.kind = 1 ∧ met1 = met ++ [(a.n, b.n)])
  ina : Tm.inn W B a' ga
  inb : Tm.inn W B b' gb
  wa : Walked l a a'
  wb : Walked l b b'
theorem UFirst.mid {l : List Bd} {a b a' b' : Tm} {B lo : Nat} {met met1 : List (Int × Int)} {vm s ga gb ga' gb' : Value} {w wc w1 w2 : World} (h : UFirst a b lo met met1 vm s ga gb w wc) (hlo : lo ≤ w.heap.size) (hB : B ≤ lo) (hvm : ∀ k, vm.ownBlock = some k → lo ≤ k ∧ k < w.heap.size)
    (hb1 : Below wc.heap.size wc w1) (hina : Tm.inn w1 B a' ga') (hb2 : Below (set4 w1 w.heap.size (.int .i64 a'.kind) (.string a'.name) (.int .i64 a'.n) ga').heap.size (set4 w1 w.heap.size (.int .i64 a'.kind) (.string a'.name) (.int .i64 a'.n) ga') w2) (hinb : Tm.inn w2 B b' gb') (hwa : Walked l a a') (hwb : Walked l b b') :
    UMid l a b a' b' B lo met met1 vm s ga' gb' w (set4 w2 (w.heap.size + 1) (.int .i64 b'.kind) (.string b'.name) (.int .i64 b'.n) gb') := by
  have hsz := h.size
  have hs1 := hb1.size
  have hs2 := hb2.size
  rw [set4_size] at hs2
  have hne0 : s.ownBlock ≠ some w.heap.size := fun e => by
    rcases h.sep with h' | h'
    · have := hvm _ (h' ▸ e); omega
    · have := h' _ e; omega
  have hne1 : s.ownBlock ≠ some (w.heap.size + 1) := fun e => by
    rcases h.sep with h' | h'
    · have := hvm _ (h' ▸ e); omega
    · have := h' _ e; omega
  have g1 := set4_from w1 (Nat.le_refl w.heap.size) (.int .i64 a'.kind) (.string a'.name) (.int .i64 a'.n) ga'
  have g2 := set4_from w2 (Nat.le_succ w.heap.size) (.int .i64 b'.kind) (.string b'.name) (.int .i64 b'.n) gb'
  have hb2' : Below w.heap.size (set4 w1 w.heap.size (.int .i64 a'.kind) (.string a'.name) (.int .i64 a'.n) ga') w2 := hb2.mono (by rw [set4_size]; omega)
  have hBw : B ≤ w.heap.size := by omega
  refine ⟨?_, h.bd, grown_below (grown_below (grown_below (grown_below h.grown (hb1.mono (by omega))) g1) hb2') g2, h.sep, ?_, ?_, by rw [set4_size]; omega, h.eq, ?_, Tm.inn_below hinb g2 hBw, hwa, hwb⟩
  · have o1 := ownMet_below h.own hb1
    have o2 : ownMet _ lo s met1 := World.ownsRow.kept o1 (set4_gr w1 w.heap.size (.int .i64 a'.kind) (.string a'.name) (.int .i64 a'.n) ga') (.inr hne0)
    have o3 := ownMet_below o2 hb2
    exact World.ownsRow.kept o3 (set4_gr w2 (w.heap.size + 1) (.int .i64 b'.kind) (.string b'.name) (.int .i64 b'.n) gb') (.inr hne1)
  · rw [set4_blk w2 _ _ _ _ (by omega), hb2.block _ (by rw [set4_size]; omega)]
    exact set4_self ((hb1.block _ (by omega)).trans h.boxa) _ _ _ _
  · have hx : w2.heap[w.heap.size + 1]? = some (Obj.cells #[.int .i64 b.kind, .string b.name, .int .i64 b.n, gb] 27 (0, 0)) := by
      rw [hb2.block _ (by rw [set4_size]; omega), set4_blk w1 _ _ _ _ (by omega)]
      exact (hb1.block _ (by omega)).trans h.boxb
    exact set4_self hx _ _ _ _
  · exact Tm.inn_below (Tm.inn_below (Tm.inn_below hina g1 hBw) hb2' hBw) g2 hBw
theorem UMid.out {l l' : List Bd} {a b a' b' : Tm} {B lo : Nat} {met met1 : List (Int × Int)} {vm s ga gb : Value} {w W : World} (h : UMid l a b a' b' B lo met met1 vm s ga gb w W) (g : ∀ θ, Solves θ l' → a.bnd θ = b.bnd θ) : MetOut l' met met1 := by
  rcases h.eq with e | ⟨hka, hkb, e⟩
  · rw [e]; exact MetOut.refl _ _
  · rw [e]
    intro x hx
    rcases List.mem_append.1 hx with hx | hx
    · exact .inl hx
    · rw [List.mem_singleton.1 hx]
      refine .inr fun θ hθ => ?_
      have := g θ hθ
      rwa [bnd_var_n θ hka, bnd_var_n θ hkb] at this
theorem UMid.sep2 {l : List Bd} {a b a' b' : Tm} {B lo : Nat} {met met1 : List (Int × Int)} {vm s ga gb : Value} {w W : World} (h : UMid l a b a' b' B lo met met1 vm s ga gb w W) : s.ownBlock = vm.ownBlock ∨ ∀ k, s.ownBlock = some k → w.heap.size ≤ k :=
  h.sep.imp id (fun h k e => by have := h k e; omega)
/-- Nothing is to be done. -/
theorem UMid.stays {ok : Nat → Prop} {l : List Bd} {a b a' b' : Tm} {B lo : Nat} {met met1 : List (Int × Int)} {vm s ga gb svl : Value} {w W : World} (h : UMid l a b a' b' B lo met met1 vm s ga gb w W) (hm : MguOf l a b l) (hbl : bdsQ w B (away ok lo w vm) l svl) (hB : B ≤ lo) (hvm : ∀ k, vm.ownBlock = some k → lo ≤ k ∧ k < w.heap.size) :
    UPost ok l a b B lo met vm w (.returned (.tuple #[svl, s, .bool true])) W :=
  ⟨svl, s, true, rfl, h.grown, .inr ⟨rfl, l, met1, hm, .inl rfl, grown_bds h.grown h.sep2 hbl hB hvm, h.own, h.sep2, h.out fun θ hθ => ((hm.iff θ).1 hθ).2, h.bd⟩⟩
theorem UMid.fails {ok : Nat → Prop} {l : List Bd} {a b a' b' : Tm} {B lo : Nat} {met met1 : List (Int × Int)} {vm s ga gb svl s' : Value} {w W : World} (h : UMid l a b a' b' B lo met met1 vm s ga gb w W) (hm : NoMgu l a b) : UPost ok l a b B lo met vm w (.returned (.tuple #[svl, s', .bool false])) W :=
  ⟨svl, s', false, rfl, h.grown, .inl ⟨rfl, hm⟩⟩
theorem one2 {x y : Int} : ∀ u ∈ [Value.int .i64 x, Value.int .i64 y], u.oneCell' = true := by simp [Value.oneCell']
theorem news2 {w : World} {a b : Value} {t : TypeId} (H : Nat) (hH : w.heap.size = H) : ∀ (j : Nat) (u : Value), [a, b][j]? = some u → (w.alloc (.cells #[a, b] t)).cell? ((⟨H, 0, none⟩ : Addr).add j) = some u := by
  subst hH
  intro j u hu
  obtain ⟨hj, rfl⟩ := List.getElem?_eq_some_iff.1 hu
  rw [Addr.add_lit]
  have : j = 0 ∨ j = 1 := by simp at hj; omega
  rcases this with rfl | rfl <;> simp [World.cell?_alloc_new]
/-- The pair laid behind the others. -/
theorem UFirst.more {a b : Tm} {lo : Nat} {met : List (Int × Int)} {vm ga gb v' : Value} {w wx w5 : World} {o : Obj} (h : UFirst a b lo met met vm vm ga gb w wx) (_hlo : lo ≤ w.heap.size) (hvm : ∀ k, vm.ownBlock = some k → k < w.heap.size) (hka : a.kind = 1) (hkb : b.kind = 1)
    (hra : 0 ≤ a.n ∧ a.n < 1000000) (hrb : 0 ≤ b.n ∧ b.n < 1000000) (hno : ¬ (a.n, b.n) ∈ met) (hown : w5.ownsRow lo 115 2 v' (met.length + 1) (metCells met ++ [.int .i64 a.n, .int .i64 b.n])) (hg : (wx.alloc o).grownBy w5 vm.ownBlock)
    (hs : v'.ownBlock = vm.ownBlock ∨ ∀ k, v'.ownBlock = some k → (wx.alloc o).heap.size ≤ k) : UFirst a b lo met (met ++ [(a.n, b.n)]) vm v' ga gb w w5 := by
  have hsz := h.size
  have hsz5 := hg.size
  simp at hsz5
  have hb : ∀ k, w.heap.size ≤ k → k < wx.heap.size → w5.heap[k]? = wx.heap[k]? := fun k h1 h2 =>
    (hg.block k (by simp; omega) (fun e => by have := hvm k e.symm; omega)).trans (Below.heap_alloc _ _ _ h2)
  refine ⟨?_, h.bd.snoc hno hra hrb, grown_trans h.grown (grown_trans (grown_alloc _ o _) hg (fun k e => .inl e)) (fun k e => .inl e), ?_, (hb _ (Nat.le_refl _) (by omega)).trans h.boxa, (hb _ (by omega) (by omega)).trans h.boxb, by omega, .inr ⟨hka, hkb, rfl⟩⟩
  · unfold ownMet
    rw [List.length_append, metCells_snoc]
    exact hown
  · rcases hs with hs | hs
    · exact .inl hs
    · exact .inr fun k e => by have := hs k e; simp at this; omega
/-- A Bool that tells a fact. -/
def Tells (q : Bool) (p : Prop) : Prop := q = true ↔ p
theorem Tells.yes {p : Prop} (h : p) : Tells true p := ⟨fun _ => h, fun _ => rfl⟩
theorem Tells.no {p : Prop} (h : ¬ p) : Tells false p := ⟨(fun h' => by cases h'), fun h' => absurd h' h⟩

/-- unify, called with a list and two terms. -/
def UAll (ok : Nat → Prop) (B lo : Nat) (l : List Bd) (a b : Tm) : Prop :=
  ∀ (met : List (Int × Int)), MetOK l a met → MetBd met → ∀ (w : World) (svl sva svb vm : Value), lo ≤ w.heap.size → bdsQ w B (away ok lo w vm) l svl → Tm.inn w B a sva → Tm.inn w B b svb → ownMet w lo vm met →
    Calls Try.prog 63 #[svl, .agg #[.int .i64 a.kind, .string a.name, .int .i64 a.n, sva], .agg #[.int .i64 b.kind, .string b.name, .int .i64 b.n, svb], vm] w fun e w' => UPost ok l a b B lo met vm w e w'
/-- What stands in the round of the Args. -/
structure ULoop (ok : Nat → Prop) (l : List Bd) (a' b' : Tm) (B lo k : Nat) (l1 : List Bd) (met1 met2 : List (Int × Int)) (vm svl1 s1 ga gb : Value) (w wr : World) : Prop where
  mgu : MguTo l a' b' k l1
  len : l1 = l ∨ l.length < l1.length
  bds : bdsQ wr B (away ok lo wr s1) l1 svl1
  own : ownMet wr lo s1 met2
  bd : MetBd met2
  grown : w.grownBy wr vm.ownBlock
  sep : s1.ownBlock = vm.ownBlock ∨ ∀ k, s1.ownBlock = some k → w.heap.size + 2 ≤ k
  boxa : wr.heap[w.heap.size]? = some (Obj.cells #[.int .i64 a'.kind, .string a'.name, .int .i64 a'.n, ga] 27 (0, 0))
  boxb : wr.heap[w.heap.size + 1]? = some (Obj.cells #[.int .i64 b'.kind, .string b'.name, .int .i64 b'.n, gb] 27 (0, 0))
  size : w.heap.size + 2 ≤ wr.heap.size
  out : MetOut l1 met1 met2
  ina : Tm.inn wr B a' ga
  inb : Tm.inn wr B b' gb
theorem ULoop.drew {ok : Nat → Prop} {l : List Bd} {a' b' : Tm} {B lo k : Nat} {l1 : List Bd} {met1 met2 : List (Int × Int)} {vm svl1 s1 ga gb : Value} {w wr : World} (h : ULoop ok l a' b' B lo k l1 met1 met2 vm svl1 s1 ga gb w wr) : ULoop ok l a' b' B lo k l1 met1 met2 vm svl1 s1 ga gb w wr.drew :=
  ⟨h.mgu, h.len, bdsQ_same h.bds (fun _ h => h) (fun _ _ _ _ h => h) (fun _ _ _ _ h => h), h.own, h.bd, ⟨h.grown.os, h.grown.tape, h.grown.output, h.grown.size, h.grown.block⟩, h.sep, h.boxa, h.boxb, h.size, h.out, Tm.inn_below h.ina (n₀ := wr.heap.size + B) ((Below.refl _ _).drew) (by omega), Tm.inn_below h.inb (n₀ := wr.heap.size + B) ((Below.refl _ _).drew) (by omega)⟩
/-- One round more. -/
theorem ULoop.next {ok : Nat → Prop} {l : List Bd} {a' b' : Tm} {B lo k : Nat} {l1 l2 : List Bd} {met1 met2 met3 : List (Int × Int)} {vm svl1 svl2 s1 s2 ga gb : Value} {w wr w1 : World} (h : ULoop ok l a' b' B lo k l1 met1 met2 vm svl1 s1 ga gb w wr) (hB : B ≤ lo) (hlo : lo ≤ w.heap.size) (hvm : ∀ k, vm.ownBlock = some k → lo ≤ k ∧ k < w.heap.size)
    (hk : k < a'.args.length) (hk' : k < b'.args.length) (hm : MguOf l1 a'.args[k] b'.args[k] l2) (hlen : l2 = l1 ∨ l1.length < l2.length) (hbds : bdsQ w1 B (away ok lo w1 s2) l2 svl2) (hown : ownMet w1 lo s2 met3) (hbd : MetBd met3) (hg : wr.grownBy w1 s1.ownBlock)
    (hsep : s2.ownBlock = s1.ownBlock ∨ ∀ k, s2.ownBlock = some k → wr.heap.size ≤ k) (hout : MetOut l2 met2 met3) : ULoop ok l a' b' B lo (k + 1) l2 met1 met3 vm svl2 s2 ga gb w w1 := by
  have hsz := h.size
  have hs1 := hg.size
  have hnot : ∀ j, w.heap.size ≤ j → j < w.heap.size + 2 → some j ≠ s1.ownBlock := fun j h1 h2 e => by
    rcases h.sep with h' | h'
    · have := hvm j (by rw [← h', ← e]); omega
    · have := h' j e.symm; omega
  have hrow : ∀ k, s1.ownBlock = some k → B ≤ k := fun k e => by
    rcases h.sep with h' | h'
    · have := hvm k (by rw [← h', e]); omega
    · have := h' k e; omega
  refine ⟨h.mgu.step hk hk' hm, ?_, hbds, hown, hbd, grown_trans h.grown hg (fun k e => ?_), ?_, (hg.block _ (by omega) (hnot _ (by omega) (by omega))).trans h.boxa, (hg.block _ (by omega) (hnot _ (by omega) (by omega))).trans h.boxb, by omega, h.out.trans hout (fun θ hθ => ((hm.iff θ).1 hθ).1), inn_grown h.ina hg hrow, inn_grown h.inb hg hrow⟩
  · rcases hlen with e | e
    · rw [e]; exact h.len
    · rcases h.len with e' | e'
      · rw [e'] at e; exact .inr e
      · exact .inr (by omega)
  · rcases h.sep with h' | h'
    · exact .inl (e.trans h')
    · have := h' k e.symm
      exact .inr (by omega)
  · rcases hsep with e | e
    · rw [e]; exact h.sep
    · exact .inr fun k hk => by have := e k hk; omega

theorem srcBds_row {w : World} {B b : Nat} : ∀ (l : List Bd) (off : Nat), (∀ i (h : i < l.length), bdAt w B b (off + i * 5) l[i]) → ∃ xs, cellsB w (fun b => b < B) l xs ∧ ∀ j u, xs[j]? = some u → w.cell? ((⟨b, off, none⟩ : Addr).add j) = some u
  | [], off, _ => ⟨[], rfl, fun j u h => by simp at h⟩
  | x :: r, off, h => by
    obtain ⟨sv, c0, c1, c2, c3, c4, c5⟩ := h 0 (by simp)
    obtain ⟨xs, h1, h2⟩ := srcBds_row r (off + 5) fun i hi => by
      have := h (i + 1) (by simp; omega)
      rw [show off + (i + 1) * 5 = off + 5 + i * 5 by omega] at this
      simpa using this
    simp only [Nat.zero_mul, Nat.add_zero, List.getElem_cons_zero] at c0 c1 c2 c3 c4 c5
    refine ⟨_, ⟨sv, xs, rfl, innP_of_inn _ _ c5, h1⟩, fun j u hj => ?_⟩
    rw [Addr.add_lit]
    rcases j with _ | _ | _ | _ | _ | j
    · simp at hj; subst hj; exact c0
    · simp at hj; subst hj; exact c1
    · simp at hj; subst hj; exact c2
    · simp at hj; subst hj; exact c3
    · simp at hj; subst hj; exact c4
    · have := h2 j u (by simpa using hj)
      rw [Addr.add_lit] at this
      rw [show off + (j + 1 + 1 + 1 + 1 + 1) = off + 5 + j by omega]
      exact this
theorem bdsQ_src {w : World} {B : Nat} {row : Nat → Prop} {l : List Bd} {g : Option Addr} {n c : Nat} (h : bdsQ w B row l (.slice g n c)) : srcBds w B l g := by
  obtain ⟨g', cap', he, h1, h2, _, h3⟩ := h
  injection he with e1 e2 e3
  subst e1
  rcases h3 with rfl | ⟨b, off, rfl, hb, hr⟩
  · exact ⟨[], rfl, .inl rfl⟩
  · obtain ⟨xs, h4, h5⟩ := srcBds_row l off hr
    exact ⟨xs, h4, .inr ⟨_, rfl, h5⟩⟩
theorem bdsQ_row {W : World} {B lo : Nat} {row : Nat → Prop} {l : List Bd} {v : Value} {xs : List Value} (h : BRow W B lo l v xs) (hr : ∀ b, v.ownBlock = some b → row b) (hlen : l.length ≤ 2199023255552) (hwf : ∀ x ∈ l, (Lit.int .i64 x.v).wf = true) : bdsQ W B row l v := by
  rcases id h.row.2 with ⟨rfl, h0⟩ | ⟨b, cap, cur, rfl, _, hg, hn, _⟩
  · exact ⟨none, 0, by rw [h0], by omega, hlen, hwf, .inl (List.eq_nil_of_length_eq_zero h0)⟩
  · refine ⟨some ⟨b, 0, none⟩, cap, rfl, hn, hlen, hwf, .inr ⟨b, 0, rfl, hr b rfl, fun i hi => ?_⟩⟩
    refine rowB_of_cells (fun _ h => h) l xs 0 h.cells (fun j u hj => ?_) i hi
    have := World.ownsRow.cells h.row (g := b) rfl j u hj
    simpa [Addr.add_lit] using this
theorem bdsQ_far {ok : Nat → Prop} {w W : World} {B lo : Nat} {s sv : Value} {l : List Bd} (h : bdsQ w B (away ok lo w s) l sv) (hb : Below w.heap.size w W) (hB : B ≤ w.heap.size) : bdsQ W B (away ok lo W s) l sv :=
  bdsQ_same h (fun _ h => ⟨Nat.lt_of_lt_of_le h.1 hb.size, h.2⟩) (fun b o v hlt hc => (hb.cell (p := ⟨b, o, none⟩) (by show b < w.heap.size; omega)).trans hc) (fun b o v hlt hc => (hb.cell (p := ⟨b, o, none⟩) hlt.1).trans hc)
theorem step_append_bds {w : World} {ops : Array Oper} {o : Oper} {a : Act} {K : Act → World → Prop} {Q : Exit → Act → World → Prop} {E : Prop} (hgd : o.guard = none) (s x : Operand)
    (ho : o.op = .call { callee := .builtin .append, args := #[s, x], argTypes := #[22, 22] })
    (B base : Nat) (v : Value) (l : List Bd) (xs : List Value) (hs : a.eval s = v) (hown : BRow w B base l v xs) (m : List Bd) (g : Option Addr) (n c : Nat) (hx : a.eval x = .slice g n c) (hnm : n = m.length) (hsrc : srcBds w B m g)
    (hmax : l.length + m.length ≤ 1000000000) (hbase : base ≤ w.heap.size) (hn : B ≤ base)
    (h : ∀ v' w' zs, BRow w' B base (l ++ m) v' zs → w.grownBy w' v.ownBlock → (v'.ownBlock = v.ownBlock ∨ v'.ownBlock = some w.heap.size) → K (a.put o.dst v') w') :
    if Region.wanted o (yielded ops a.tmps) = true then Oper.wp Try.prog o a w K Q else E := by
  have hw : Region.wanted o (yielded ops a.tmps) = true := by simp [Region.wanted, hgd]
  rw [if_pos hw]
  subst hnm
  obtain ⟨v', w', hr, ⟨zs, h2⟩, h3, h4⟩ := run_append_bds (w := w) o.type hown m g c hsrc hmax hbase hn
  unfold Oper.wp execOp
  simp only [ho, resolve, invoke, builtin, Sem.run_bind, Sem.run_pure, Result.andThen_ok, List.map_toArray, List.map_cons, List.map_nil, hs, hx, hr]
  exact h v' w' zs h2 h3 h4
/-- The two boxes, and what lay before. -/
def UB (Wn : World) (b : Nat) (a0 a1 a2 a3 b0 b1 b2 b3 : Value) (W : World) : Prop :=
  W.cell? ⟨b, 0, none⟩ = some a0 ∧ W.cell? ⟨b, 1, none⟩ = some a1 ∧ W.cell? ⟨b, 2, none⟩ = some a2 ∧ W.cell? ⟨b, 3, none⟩ = some a3 ∧ W.cell? ⟨b + 1, 0, none⟩ = some b0 ∧ W.cell? ⟨b + 1, 1, none⟩ = some b1 ∧ W.cell? ⟨b + 1, 2, none⟩ = some b2 ∧ W.cell? ⟨b + 1, 3, none⟩ = some b3 ∧ Below Wn.heap.size Wn W
theorem UB.of {Wn W : World} {b : Nat} {a0 a1 a2 a3 b0 b1 b2 b3 : Value} {ta tb : TypeId} (h1 : Wn.heap[b]? = some (Obj.cells #[a0, a1, a2, a3] ta (0, 0))) (h2 : Wn.heap[b + 1]? = some (Obj.cells #[b0, b1, b2, b3] tb (0, 0))) (hb : Below Wn.heap.size Wn W) : UB Wn b a0 a1 a2 a3 b0 b1 b2 b3 W := by
  have g1 := row4 ((hb.block _ (Array.getElem?_eq_some_iff.1 h1).1).trans h1)
  have g2 := row4 ((hb.block _ (Array.getElem?_eq_some_iff.1 h2).1).trans h2)
  exact ⟨g1.1.1, g1.1.2.1, g1.1.2.2.1, g1.1.2.2.2, g2.1.1, g2.1.2.1, g2.1.2.2.1, g2.1.2.2.2, hb⟩
/-- The slices and the Args that a round of unify reads. -/
def U21 (b p x p' x' : Nat) (v0 v1 a0 a1 a2 a3 b0 b1 b2 b3 : Value) (W : World) : Prop :=
  W.cell? ⟨b, 3, none⟩ = some v0 ∧ W.cell? ⟨b + 1, 3, none⟩ = some v1 ∧ W.cell? ⟨p, x, none⟩ = some a0 ∧ W.cell? ⟨p, x + 1, none⟩ = some a1 ∧ W.cell? ⟨p, x + 2, none⟩ = some a2 ∧ W.cell? ⟨p, x + 3, none⟩ = some a3 ∧
  W.cell? ⟨p', x', none⟩ = some b0 ∧ W.cell? ⟨p', x' + 1, none⟩ = some b1 ∧ W.cell? ⟨p', x' + 2, none⟩ = some b2 ∧ W.cell? ⟨p', x' + 3, none⟩ = some b3
theorem U21.grown {b p x p' x' : Nat} {v0 v1 a0 a1 a2 a3 b0 b1 b2 b3 : Value} {W W' : World} {row : Option Nat} (h : U21 b p x p' x' v0 v1 a0 a1 a2 a3 b0 b1 b2 b3 W) (hg : W.grownBy W' row) (hn : ∀ k, row = some k → k ≠ b ∧ k ≠ b + 1 ∧ k ≠ p ∧ k ≠ p') : U21 b p x p' x' v0 v1 a0 a1 a2 a3 b0 b1 b2 b3 W' := by
  obtain ⟨h0, h1, h2, h3, h4, h5, h6, h7, h8, h9⟩ := h
  have k0 : some b ≠ row := fun e => (hn _ e.symm).1 rfl
  have k1 : some (b + 1) ≠ row := fun e => (hn _ e.symm).2.1 rfl
  have k2 : some p ≠ row := fun e => (hn _ e.symm).2.2.1 rfl
  have k3 : some p' ≠ row := fun e => (hn _ e.symm).2.2.2 rfl
  exact ⟨hg.cell h0 k0, hg.cell h1 k1, hg.cell h2 k2, hg.cell h3 k2, hg.cell h4 k2, hg.cell h5 k2, hg.cell h6 k3, hg.cell h7 k3, hg.cell h8 k3, hg.cell h9 k3⟩

set_option maxRecDepth 100000 in
set_option maxHeartbeats 8000000 in
theorem unify_step (ok : Nat → Prop) (B lo : Nat) (hBlo : B ≤ lo) (l : List Bd) (hl : RightL l) (a b : Tm) (ha : a.right = true) (hb : b.right = true)
    (hih : ∀ (l1 : List Bd) (x y : Tm), RightL l1 → x.right = true → y.right = true → ((l1 = l ∧ ∃ a', Walked l a a' ∧ a'.kind ≠ 1 ∧ x ∈ a'.args) ∨ l.length < l1.length) → UAll ok B lo l1 x y) : UAll ok B lo l a b := by
  intro met hm hbd w svl sva svb vm hlo hbl hina hinb hown
  obtain ⟨ga, ca, rfl⟩ := inn_sl hina
  obtain ⟨gb, cb, rfl⟩ := inn_sl hinb
  obtain ⟨gm, cm, rfl⟩ := owns_slice hown
  obtain ⟨gl, cl, rfl, _, _, _, _⟩ := id hbl
  have hmlen := hbd.len
  have hal := al2 w (.cells #[.int .i64 a.kind, .string a.name, .int .i64 a.n, .slice ga a.args.length ca] 27) (.cells #[.int .i64 b.kind, .string b.name, .int .i64 b.n, .slice gb b.args.length cb] 27)
  have hown2 := ownMet_below hown hal
  have hstart : UFirst a b lo met met (.slice gm met.length cm) (.slice gm met.length cm) (.slice ga a.args.length ca) (.slice gb b.args.length cb) w ((w.alloc (.cells #[.int .i64 a.kind, .string a.name, .int .i64 a.n, .slice ga a.args.length ca] 27)).alloc (.cells #[.int .i64 b.kind, .string b.name, .int .i64 b.n, .slice gb b.args.length cb] 27)) :=
    ⟨hown2, hbd, grownBy_none hal _, .inl rfl, (Below.heap_alloc _ _ _ (by simp)).trans (newBlk _ _ _ rfl), newBlk _ _ _ (by simp), by simp, .inl rfl⟩
  have HSTART := Lib.hid hstart
  have HVM := Lib.hid (ownMet_lt hown)
  have HM := Lib.hid hm
  have HIH := Lib.hid hih
  have HOWN := Lib.hid hown2
  have HBL := Lib.hid hbl
  have HINA := Lib.hid hina
  have HINB := Lib.hid hinb
  have HL := Lib.hid hl
  have HRA := Lib.hid ha
  have HRB := Lib.hid hb
  have HBD := Lib.hid hbd
  clear hih hstart hm hown hown2 hbl hina hinb hl ha hb hbd hal
  go_enter Try.func63, Try.ntmps63
  go_upto_region 1 with fail
  go_cut [23] from 16 to 23 (fun c wx => ∃ q, c = .bool q ∧ Hid (Tells q (a.kind = 1 ∧ b.kind = 1)) ∧ wx = (w.alloc (.cells #[.int .i64 a.kind, .string a.name, .int .i64 a.n, .slice ga a.args.length ca] 27)).alloc (.cells #[.int .i64 b.kind, .string b.name, .int .i64 b.n, .slice gb b.args.length cb] 27))
  case first =>
    by_cases hka : a.kind = 1
    · have hkab : (a.kind == 1) = true := by simp [hka]
      by_cases hkb : b.kind = 1
      · have hkbb : (b.kind == 1) = true := by simp [hkb]
        have HD := Lib.hid (Tells.yes (p := a.kind = 1 ∧ b.kind = 1) ⟨hka, hkb⟩)
        clear hka hkb
        go_wp2_with fail
        go_meet
        case rel => exact ⟨_, rfl, HD, rfl⟩
      · have hkbb : (b.kind == 1) = false := by simp [hkb]
        have HD := Lib.hid (Tells.no (p := a.kind = 1 ∧ b.kind = 1) fun h => hkb h.2)
        clear hka hkb
        go_wp2_with fail
        go_meet
        case rel => exact ⟨_, rfl, HD, rfl⟩
    · have hkab : (a.kind == 1) = false := by simp [hka]
      have HD := Lib.hid (Tells.no (p := a.kind = 1 ∧ b.kind = 1) fun h => hka h.1)
      clear hka
      go_wp2_with fail
      go_meet
      case rel => exact ⟨_, rfl, HD, rfl⟩
  case rest =>
  obtain ⟨q, rfl, HQ, rfl⟩ := hcut
  go_upto_if 23 with fail
  go_cut [3, 11] from 24 to 57 (fun s _ wx => ∃ met1, Hid (UFirst a b lo met met1 (.slice gm met.length cm) s (.slice ga a.args.length ca) (.slice gb b.args.length cb) w wx))
  case first =>
    cases q with
    | false =>
      go_wp2_with fail
      go_meet
      case rel => exact ⟨met, HSTART⟩
    | true =>
      obtain ⟨hka, hkb⟩ := HQ.out.1 rfl
      have hra := (Tm.var_of (right_fair HRA.out) hka).2
      have hrb := (Tm.var_of (right_fair HRB.out) hkb).2
      have HKA := Lib.hid hka
      have HKB := Lib.hid hkb
      have HNA := Lib.hid hra
      have HNB := Lib.hid hrb
      have hvm : ∀ k, (Value.slice gm met.length cm).ownBlock = some k → lo ≤ k ∧ k < w.heap.size := HVM.out
      have HVM2 := Lib.hid hvm
      obtain ⟨i0, hi, hz0, hz1, hz2⟩ := info_parts Try.infoBoth
      clear hka hkb hra hrb hvm
      go_wp2_with fail
      go_loopw [11] (fun i wr => ∃ k : Nat, k ≤ met.length ∧ i = .int .i64 k ∧ Hid (∀ j (h : j < met.length), j < k → met[j] ≠ (a.n, b.n)) ∧ Hid (UFirst a b lo met met (.slice gm met.length cm) (.slice gm met.length cm) (.slice ga a.args.length ca) (.slice gb b.args.length cb) w wr)) (fun i _ => met.length - (intOf i).toNat)
      case atStart => exact ⟨0, Nat.zero_le _, rfl, fun j _ h => by omega, HSTART.out⟩
      case round =>
        obtain ⟨k, hk, rfl, hp, hU⟩ := hrel
        have HU := Lib.hid hU.out
        clear hU
        obtain ⟨⟨_, _, a2, _⟩, _⟩ := row4 HU.out.boxa
        obtain ⟨⟨_, _, b2, _⟩, _⟩ := row4 HU.out.boxb
        have hsz := HU.out.size
        have hl0 : w.heap.size < wr.heap.size := by omega
        have hl1 : w.heap.size + 1 < wr.heap.size := by omega
        by_cases hlt : k < met.length
        · obtain ⟨bm, c, hv, hbm, m0, m1⟩ := ownMet_get HU.out.own k hlt
          injection hv with e1 e2 e3
          subst e1 e3
          by_cases e1 : met[k].1 = a.n
          · have e1b : (met[k].1 == a.n) = true := by simp [e1]
            by_cases e2 : met[k].2 = b.n
            · have e2b : (met[k].2 == b.n) = true := by simp [e2]
              have hmem : (a.n, b.n) ∈ met := by
                have := List.getElem_mem hlt
                rwa [show met[k] = (a.n, b.n) from Prod.ext e1 e2] at this
              have HMEM := Lib.hid hmem
              clear e1 e2 hmem
              go_wp2_with fail
              go_quiet (fail)
              go_wp2_with fail
              go_ret3
              exact ⟨_, _, true, rfl, (HU.out.drewN _).grown, .inr ⟨rfl, l, met, mgu_met HL.out HKA.out HKB.out HM.out HMEM.out, .inl rfl, grown_bds (HU.out.drewN _).grown (.inl rfl) HBL.out hBlo HVM2.out, HU.out.own, .inl rfl, MetOut.refl _ _, HU.out.bd⟩⟩
            · have e2b : (met[k].2 == b.n) = false := by simp [e2]
              have HNE := Lib.hid (show met[k] ≠ (a.n, b.n) from fun e => e2 (congrArg Prod.snd e))
              clear e1 e2
              go_wp2_with fail
              go_quiet (fail)
              go_wp2_with fail
              go_roundw
              case rel =>
                refine ⟨k + 1, by omega, by go_num, fun j hj hjk => ?_, HU.out.drewN _⟩
                by_cases hjj : j < k
                · exact hp.out j hj hjj
                · obtain rfl : j = k := by omega
                  exact HNE.out
              case measure => simp [intOf]; omega
          · have e1b : (met[k].1 == a.n) = false := by simp [e1]
            have HNE := Lib.hid (show met[k] ≠ (a.n, b.n) from fun e => e1 (congrArg Prod.fst e))
            clear e1
            go_wp2_with fail
            go_quiet (fail)
            go_wp2_with fail
            go_roundw
            case rel =>
              refine ⟨k + 1, by omega, by go_num, fun j hj hjk => ?_, HU.out.drewN _⟩
              by_cases hjj : j < k
              · exact hp.out j hj hjj
              · obtain rfl : j = k := by omega
                exact HNE.out
            case measure => simp [intOf]; omega
        · obtain rfl : k = met.length := by omega
          have hno : ¬ (a.n, b.n) ∈ met := fun hm => by
            obtain ⟨j, hj, he⟩ := List.getElem_of_mem hm
            exact hp.out j hj hj he
          have HNO := Lib.hid hno
          clear hno hp
          go_wp2_with (at_builtin; refine wpList_append_sep _ rfl _ _ 96 rfl lo 115 i0 _ 2 16 Try.underlying96 hi hz0 hz1 hz2 rfl (by decide) (.slice gm met.length cm) met.length (metCells met) rfl (World.ownsRow.alloc HU.out.own _) ⟨wr.heap.size, 0, none⟩ 1 1 [.int .i64 a.n, .int .i64 b.n] rfl (by decide) rfl (news2 _ rfl) one2 (by unfold maxLen; omega) (by omega) (by simp; omega) ?_; intro v' w5 hown5 hgrow hsep)
          go_meet
          case rel => exact ⟨_, HU.out.more hlo (fun k e => (HVM2.out k e).2) HKA.out HKB.out HNA.out HNB.out HNO.out hown5 hgrow hsep⟩
  case rest =>
    obtain ⟨met1, hfirst⟩ := hcut
    have HF := Lib.hid hfirst.out
    clear hfirst
    obtain ⟨r, hr⟩ := HL.out.2
    obtain ⟨M, hM⟩ := bound_of r l.length
    have hll := okL_len HL.out.1
    have hvm := HVM.out
    have hbds := grown_bds HF.out.grown (HF.out.sep.imp id (fun h k e => by have := h k e; omega)) HBL.out hBlo hvm
    have hrow : ∀ k, (Value.slice gm met.length cm).ownBlock = some k → B ≤ k := fun k e => Nat.le_trans hBlo (hvm k e).1
    have hina := inn_grown HINA.out HF.out.grown hrow
    have hinb := inn_grown HINB.out HF.out.grown hrow
    have hBw : B ≤ wc.heap.size := by have := HF.out.size; omega
    have hwa := walk_any l hll r hr B M a (fun _ p hp => hM p (place_some hp).1) wc _ _ hBw (bdsQ_same hbds (fun b h => h.1) (fun _ _ _ _ h => h) (fun _ _ _ _ h => h)) hina
    have hwb : ∀ (W : World), Below wc.heap.size wc W ∨ True → B ≤ W.heap.size → bdsQ W B (here W) l (.slice gl l.length cl) → Tm.inn W B b (.slice gb b.args.length cb) → Calls Try.prog 83 #[.slice gl l.length cl, .agg #[.int .i64 b.kind, .string b.name, .int .i64 b.n, .slice gb b.args.length cb]] W fun e w' => WalkPost l b B W e w' := fun W _ h1 h2 h3 =>
      walk_any l hll r hr B M b (fun _ p hp => hM p (place_some hp).1) W _ _ h1 h2 h3
    have HWA := Lib.hid hwa
    have HWB := Lib.hid hwb
    have HBDS := Lib.hid hbds
    have HINB2 := Lib.hid hinb
    obtain ⟨⟨a0, a1, a2, a3⟩, af0, af1, af2, af3⟩ := row4 HF.out.boxa
    obtain ⟨⟨b0, b1, b2, b3⟩, bf0, bf1, bf2, bf3⟩ := row4 HF.out.boxb
    have hsz := HF.out.size
    have hl0 : w.heap.size < wc.heap.size := by omega
    have hl1 : w.heap.size + 1 < wc.heap.size := by omega
    clear hwa hwb hbds hina hinb hrow hM
    go_wp2_with fail
    refine HWA.out.mono ?_
    rintro e w1 ⟨a', ga', ca', rfl, hina1, hb1, hwa1⟩
    have hs1 := hb1.size
    have hboxa1 := (hb1.block _ hl0).trans HF.out.boxa
    have hboxb1 := (hb1.block _ hl1).trans HF.out.boxb
    obtain ⟨⟨c0, c1, c2, c3⟩, cf0, cf1, cf2, cf3⟩ := row4 hboxa1
    obtain ⟨⟨d0, d1, d2, d3⟩, df0, df1, df2, df3⟩ := row4 hboxb1
    have HINA1 := Lib.hid hina1
    have HB1 := Lib.hid hb1
    have HWK := Lib.hid hwa1
    have HBOXB1 := Lib.hid hboxb1
    have hk0 : w.heap.size < w1.heap.size := by omega
    have hk1 : w.heap.size + 1 < w1.heap.size := by omega
    clear a0 a1 a2 a3 af0 af1 af2 af3 b0 b1 b2 b3 bf0 bf1 bf2 bf3 hina1 hb1 hwa1 hboxa1 hboxb1 HWA
    go_wp2_with fail
    have hBw1 : B ≤ w1.heap.size := by omega
    have g1 := set4_from w1 (Nat.le_refl w.heap.size) (.int .i64 a'.kind) (.string a'.name) (.int .i64 a'.n) (.slice ga' a'.args.length ca')
    have hgr1 := grown_below (grown_below HF.out.grown (HB1.out.mono (by omega))) g1
    have hbds1 := grown_bds hgr1 (s := .slice gm met.length cm) (.inl rfl) HBL.out hBlo HVM.out
    have hinb1 : Tm.inn (set4 w1 w.heap.size (.int .i64 a'.kind) (.string a'.name) (.int .i64 a'.n) (.slice ga' a'.args.length ca')) B b (.slice gb b.args.length cb) := Tm.inn_below (Tm.inn_below HINB2.out HB1.out (by omega)) g1 (by omega)
    refine (HWB.out _ (.inr trivial) (by show B ≤ (set4 w1 w.heap.size _ _ _ _).heap.size; rw [set4_size]; exact hBw1) (bdsQ_same hbds1 (fun b h => h.1) (fun _ _ _ _ h => h) (fun _ _ _ _ h => h)) hinb1).mono ?_
    rintro e w2 ⟨b', gb', cb', rfl, hinb2, hb2, hwb2⟩
    have hmid := HF.out.mid hlo hBlo HVM.out HB1.out HINA1.out hb2 hinb2 HWK.out hwb2
    have hs2 : w1.heap.size ≤ w2.heap.size := by have := hb2.size; rw [show (set4 w1 w.heap.size (.int .i64 a'.kind) (.string a'.name) (.int .i64 a'.n) (.slice ga' a'.args.length ca')).heap.size = w1.heap.size from set4_size _ _ _ _ _ _] at this; exact this
    have hboxb2 : w2.heap[w.heap.size + 1]? = some (Obj.cells #[.int .i64 b.kind, .string b.name, .int .i64 b.n, .slice gb b.args.length cb] 27 (0, 0)) := (hb2.block _ (by rw [show (set4 w1 w.heap.size (.int .i64 a'.kind) (.string a'.name) (.int .i64 a'.n) (.slice ga' a'.args.length ca')).heap.size = w1.heap.size from set4_size _ _ _ _ _ _]; omega)).trans ((set4_blk w1 _ _ _ _ (by omega)).trans HBOXB1.out)
    obtain ⟨⟨e0, e1, e2, e3⟩, ef0, ef1, ef2, ef3⟩ := row4 hboxb2
    have hk2 : w.heap.size + 1 < w2.heap.size := by omega
    have HMID := Lib.hid hmid
    clear c0 c1 c2 c3 cf0 cf1 cf2 cf3 d0 d1 d2 d3 df0 df1 df2 df3 hinb2 hb2 hwb2 hmid hboxb2 hinb1 hbds1 hgr1 g1 HWB
    go_upto_region 10 with fail
    obtain ⟨W, hW⟩ : ∃ W, set4 w2 (w.heap.size + 1) (.int .i64 b'.kind) (.string b'.name) (.int .i64 b'.n) (.slice gb' b'.args.length cb') = W := ⟨_, rfl⟩
    rw [hW] at HMID
    unfold set4 at hW
    rw [hW]
    have hszW := HMID.out.size
    have hj0 : w.heap.size < W.heap.size := by omega
    have hj1 : w.heap.size + 1 < W.heap.size := by omega
    obtain ⟨⟨c0, c1, c2, c3⟩, cf0, cf1, cf2, cf3⟩ := row4 HMID.out.boxa
    obtain ⟨⟨d0, d1, d2, d3⟩, df0, df1, df2, df3⟩ := row4 HMID.out.boxb
    clear hW e0 e1 e2 e3 ef0 ef1 ef2 ef3 hk2 hs2 hs1 hk0 hk1 hBw1 HB1 HINA1 HWK HBOXB1 HF HINB2 HBDS hszW
    go_cut [78] from 64 to 78 (fun c wx => ∃ q, c = .bool q ∧ Hid (Tells q (a'.kind = 1 ∧ b'.kind = 1 ∧ a'.n = b'.n)) ∧ wx = W)
    case first =>
      by_cases hka : a'.kind = 1
      · have hkab : (a'.kind == 1) = true := by simp [hka]
        by_cases hkb : b'.kind = 1
        · have hkbb : (b'.kind == 1) = true := by simp [hkb]
          by_cases hn : a'.n = b'.n
          · have hnb : (a'.n == b'.n) = true := by simp [hn]
            have HD := Lib.hid (Tells.yes (p := a'.kind = 1 ∧ b'.kind = 1 ∧ a'.n = b'.n) ⟨hka, hkb, hn⟩)
            clear hka hkb hn
            go_wp2_with fail
            go_meet
            case rel => exact ⟨_, rfl, HD, rfl⟩
          · have hnb : (a'.n == b'.n) = false := by simp [hn]
            have HD := Lib.hid (Tells.no (p := a'.kind = 1 ∧ b'.kind = 1 ∧ a'.n = b'.n) fun h => hn h.2.2)
            clear hka hkb hn
            go_wp2_with fail
            go_meet
            case rel => exact ⟨_, rfl, HD, rfl⟩
        · have hkbb : (b'.kind == 1) = false := by simp [hkb]
          have HD := Lib.hid (Tells.no (p := a'.kind = 1 ∧ b'.kind = 1 ∧ a'.n = b'.n) fun h => hkb h.2.1)
          clear hka hkb
          go_wp2_with fail
          go_meet
          case rel => exact ⟨_, rfl, HD, rfl⟩
      · have hkab : (a'.kind == 1) = false := by simp [hka]
        have HD := Lib.hid (Tells.no (p := a'.kind = 1 ∧ b'.kind = 1 ∧ a'.n = b'.n) fun h => hka h.1)
        clear hka
        go_wp2_with fail
        go_meet
        case rel => exact ⟨_, rfl, HD, rfl⟩
    case rest =>
    obtain ⟨q2, rfl, HQ2, rfl⟩ := hcut
    have hra' := HMID.out.wa.right HL.out HRA.out
    have hrb' := HMID.out.wb.right HL.out HRB.out
    have HRA2 := Lib.hid hra'
    have HRB2 := Lib.hid hrb'
    clear hra' hrb'
    cases q2 with
    | true =>
      go_wp2_with fail
      go_ret3
      obtain ⟨h1, h2, h3⟩ := HQ2.out.1 rfl
      refine HMID.out.stays (mgu_same HL.out HMID.out.wa HMID.out.wb ?_) HBL.out hBlo HVM.out
      rw [(Tm.var_of (right_fair HRA2.out) h1).1, (Tm.var_of (right_fair HRB2.out) h2).1, h3]
    | false =>
      by_cases hkb : b'.kind = 1
      · have hkbb : (b'.kind == 1) = true := by simp [hkb]
        go_wp2_with fail
        have hbox := Lib.hid (fun (W' : World) (h : Below wc.heap.size wc W') => UB.of HMID.out.boxa HMID.out.boxb h)
        have hrng : 0 ≤ b'.n ∧ b'.n < 1000000 := (Tm.var_of (right_fair HRB2.out) hkb).2
        have hwfn : (Lit.int .i64 b'.n).wf = true := WalkArith.wf_i64 (by omega)
        have hBc : B ≤ wc.heap.size := by have := HMID.out.size; omega
        have hlc := okL_len HL.out.1
        have HQC := Lib.hid (grown_bds HMID.out.grown HMID.out.sep2 HBL.out hBlo HVM.out)
        obtain ⟨σ, hσ⟩ := sol_of HL.out
        obtain ⟨rk, hrk⟩ := HL.out.2
        have HSO := Lib.hid hσ
        have HRK := Lib.hid hrk
        have HFR := Lib.hid (HMID.out.wb.free hkb)
        have HK := Lib.hid hkb
        have HNE := Lib.hid (show ¬ (a'.kind = 1 ∧ a'.n = b'.n) from fun h => by cases HQ2.out.2 ⟨h.1, hkb, h.2⟩)
        have hsepu : ∀ k, u3.ownBlock = some k → k < wc.heap.size := fun k e => (ownMet_lt HMID.out.own k e).2
        have HSU := Lib.hid hsepu
        clear hσ hrk hsepu c0 c1 c2 c3 cf0 cf1 cf2 cf3 d0 d1 d2 d3 df0 df1 df2 df3
        refine wp_region_held_drew (S := fun W' => W'.cell? ⟨w.heap.size, 0, none⟩ = some (.int .i64 a'.kind) ∧ W'.cell? ⟨w.heap.size, 1, none⟩ = some (.string a'.name) ∧ W'.cell? ⟨w.heap.size, 2, none⟩ = some (.int .i64 a'.n) ∧ W'.cell? ⟨w.heap.size, 3, none⟩ = some (.slice ga' a'.args.length ca') ∧ W'.cell? ⟨w.heap.size + 1, 0, none⟩ = some (.int .i64 b'.kind) ∧ W'.cell? ⟨w.heap.size + 1, 1, none⟩ = some (.string b'.name) ∧ W'.cell? ⟨w.heap.size + 1, 2, none⟩ = some (.int .i64 b'.n) ∧ W'.cell? ⟨w.heap.size + 1, 3, none⟩ = some (.slice gb' b'.args.length cb') ∧ Below wc.heap.size wc W') (by kernel_rfl) (hbox.out _ ((Below.refl _ _).drew)) (fun hHeld => ?_)
        refine wpAnyH_take (i := 1) (oi := _) (v := ?_) rfl (by kernel_rfl) (by kernel_rfl) (by kernel_rfl) (fun _ _ _ h => h) (Or.inl ⟨by rfl, ?_⟩) hHeld ?_
        rotate_left
        · (intro w hSw; obtain ⟨c0, c1, c2, c3, d0, d1, d2, d3, _⟩ := hSw; go_simp; try with_reducible rfl)
        try simp only [Act.put, List.setIfInBounds_toArray, List.set_cons_zero, List.set_cons_succ, List.getElem_toArray, List.getElem_cons_zero, List.getElem_cons_succ]
        refine wpAnyH_take (i := 3) (oi := _) (v := ?_) rfl (by kernel_rfl) (by kernel_rfl) (by kernel_rfl) (fun _ _ _ h => h) (Or.inl ⟨by rfl, ?_⟩) hHeld ?_
        rotate_left
        · (intro w hSw; obtain ⟨c0, c1, c2, c3, d0, d1, d2, d3, _⟩ := hSw; go_simp; try with_reducible rfl)
        try simp only [Act.put, List.setIfInBounds_toArray, List.set_cons_zero, List.set_cons_succ, List.getElem_toArray, List.getElem_cons_zero, List.getElem_cons_succ]
        refine wpAnyH_take (i := 4) (oi := _) (v := ?_) rfl (by kernel_rfl) (by kernel_rfl) (by kernel_rfl) (fun _ _ _ h => h) (Or.inl ⟨by rfl, ?_⟩) hHeld ?_
        rotate_left
        · (intro w hSw; obtain ⟨c0, c1, c2, c3, d0, d1, d2, d3, _⟩ := hSw; go_simp; try with_reducible rfl)
        try simp only [Act.put, List.setIfInBounds_toArray, List.set_cons_zero, List.set_cons_succ, List.getElem_toArray, List.getElem_cons_zero, List.getElem_cons_succ]
        refine wpAnyH_take (i := 5) (oi := _) (v := ?_) rfl (by kernel_rfl) (by kernel_rfl) (by kernel_rfl) (fun _ _ _ h => h) (Or.inl ⟨by rfl, ?_⟩) hHeld ?_
        rotate_left
        · (intro w hSw; obtain ⟨c0, c1, c2, c3, d0, d1, d2, d3, _⟩ := hSw; go_simp; try with_reducible rfl)
        try simp only [Act.put, List.setIfInBounds_toArray, List.set_cons_zero, List.set_cons_succ, List.getElem_toArray, List.getElem_cons_zero, List.getElem_cons_succ]
        refine wpAnyH_take (i := 6) (oi := _) (v := ?_) rfl (by kernel_rfl) (by kernel_rfl) (by kernel_rfl) (fun _ _ _ h => h) (Or.inl ⟨by rfl, ?_⟩) hHeld ?_
        rotate_left
        · (intro w hSw; obtain ⟨c0, c1, c2, c3, d0, d1, d2, d3, _⟩ := hSw; go_simp; try with_reducible rfl)
        try simp only [Act.put, List.setIfInBounds_toArray, List.set_cons_zero, List.set_cons_succ, List.getElem_toArray, List.getElem_cons_zero, List.getElem_cons_succ]
        refine wpAnyH_take (i := 9) (oi := _) (v := ?_) rfl (by kernel_rfl) (by kernel_rfl) (by kernel_rfl) (fun _ _ _ h => h) (Or.inl ⟨by rfl, ?_⟩) hHeld ?_
        rotate_left
        · (intro w hSw; obtain ⟨c0, c1, c2, c3, d0, d1, d2, d3, _⟩ := hSw; go_simp; try with_reducible rfl)
        try simp only [Act.put, List.setIfInBounds_toArray, List.set_cons_zero, List.set_cons_succ, List.getElem_toArray, List.getElem_cons_zero, List.getElem_cons_succ]
        refine wpAnyH_take (i := 10) (oi := _) (v := ?_) rfl (by kernel_rfl) (by kernel_rfl) (by kernel_rfl) (fun _ _ _ h => h) (Or.inl ⟨by rfl, ?_⟩) hHeld ?_
        rotate_left
        · (intro w hSw; obtain ⟨c0, c1, c2, c3, d0, d1, d2, d3, _⟩ := hSw; go_simp; try with_reducible rfl)
        try simp only [Act.put, List.setIfInBounds_toArray, List.set_cons_zero, List.set_cons_succ, List.getElem_toArray, List.getElem_cons_zero, List.getElem_cons_succ]
        refine wpAnyH_take (i := 11) (oi := _) (v := ?_) rfl (by kernel_rfl) (by kernel_rfl) (by kernel_rfl) (fun _ _ _ h => h) (Or.inl ⟨by rfl, ?_⟩) hHeld ?_
        rotate_left
        · (intro w hSw; obtain ⟨c0, c1, c2, c3, d0, d1, d2, d3, _⟩ := hSw; go_simp; try with_reducible rfl)
        try simp only [Act.put, List.setIfInBounds_toArray, List.set_cons_zero, List.set_cons_succ, List.getElem_toArray, List.getElem_cons_zero, List.getElem_cons_succ]
        refine wpAnyH_take (i := 12) (oi := _) (v := ?_) rfl (by kernel_rfl) (by kernel_rfl) (by kernel_rfl) (fun _ _ _ h => h) (Or.inl ⟨by rfl, ?_⟩) hHeld ?_
        rotate_left
        · (intro w hSw; obtain ⟨c0, c1, c2, c3, d0, d1, d2, d3, _⟩ := hSw; go_simp; try with_reducible rfl)
        try simp only [Act.put, List.setIfInBounds_toArray, List.set_cons_zero, List.set_cons_succ, List.getElem_toArray, List.getElem_cons_zero, List.getElem_cons_succ]
        refine wpAnyH_take (i := 13) (oi := _) (v := ?_) rfl (by kernel_rfl) (by kernel_rfl) (by kernel_rfl) (fun _ _ _ h => h) (Or.inl ⟨by rfl, ?_⟩) hHeld ?_
        rotate_left
        · (intro w hSw; obtain ⟨c0, c1, c2, c3, d0, d1, d2, d3, _⟩ := hSw; go_simp; try with_reducible rfl)
        try simp only [Act.put, List.setIfInBounds_toArray, List.set_cons_zero, List.set_cons_succ, List.getElem_toArray, List.getElem_cons_zero, List.getElem_cons_succ]
        refine wpAnyH_ready (rs := [0, 7]) (by kernel_rfl) (by simp) ?_
        refine AllReadyH.cons (o := _) rfl (fun K hK => ?_) (AllReadyH.cons (o := _) rfl (fun K hK => ?_) (AllReadyH.nil))
        · skip
          go_simp
          have hbn : Below wc.heap.size wc (wc.alloc (.cells #[] 33)).drew := (((Below.refl wc.heap.size wc).alloc (Nat.le_refl _) _).drew)
          refine hK.out _ _ (hbox.out _ hbn) (fun hHeld => ?_)
          clear hK K
          try simp only [Act.put, List.setIfInBounds_toArray, List.set_cons_zero, List.set_cons_succ, List.getElem_toArray, List.getElem_cons_zero, List.getElem_cons_succ]
          have hE : BRow (wc.alloc (.cells #[] 33)).drew B wc.heap.size [] (.slice (some ⟨wc.heap.size, 0, none⟩) 0 0) [] := ⟨World.ownsRow_lit wc #[] 0 (Nat.le_refl _) (by decide) rfl, by simp [cellsB]⟩
          have hsz : (wc.alloc (.cells #[] 33)).drew.heap.size = wc.heap.size + 1 := by simp
          obtain ⟨V1, hV1⟩ : ∃ x, (wc.alloc (.cells #[] 33)).drew = x := ⟨_, rfl⟩
          rw [hV1] at hbn hE hsz
          simp only [hV1] at hHeld ⊢
          clear hV1
          have HB1 := Lib.hid hbn
          have HZ1 := Lib.hid hsz
          have HE1 := Lib.hid hE
          clear hbn hsz hE
          refine wpAnyH_ready (rs := [2, 7]) (by kernel_rfl) (by simp) ?_
          refine AllReadyH.cons (o := _) rfl (fun K hK => ?_) (AllReadyH.cons (o := _) rfl (fun K hK => ?_) (AllReadyH.nil))
          · skip
            refine step_append_bds (by rfl) _ _ (by rfl) B wc.heap.size (.slice (some ⟨wc.heap.size, 0, none⟩) 0 0) [] [] (by rfl) HE1.out l gl l.length cl (by rfl) rfl (bdsQ_src (bdsQ_far HQC.out HB1.out hBc)) (by simp; omega) HB1.out.size hBc ?_
            intro v2 V2 zs2 hrow2 hg2 hs2
            rw [List.nil_append] at hrow2
            have hbn : Below wc.heap.size wc V2 := HB1.out.grown hg2 HB1.out.size (fun k e => (HE1.out.row.lt k e).1)
            have HR2 := Lib.hid hrow2
            refine hK.out _ _ (hbox.out _ hbn) (fun hHeld => ?_)
            clear hK K
            try simp only [Act.put, List.setIfInBounds_toArray, List.set_cons_zero, List.set_cons_succ, List.getElem_toArray, List.getElem_cons_zero, List.getElem_cons_succ]
            have HB2 := Lib.hid hbn
            obtain ⟨g2, e2, rfl⟩ := HR2.out.slice
            clear hbn hrow2 hg2 hs2
            refine wpAnyH_ready (rs := [7]) (by kernel_rfl) (by simp) ?_
            refine AllReadyH.cons (o := _) rfl (fun K hK => ?_) (AllReadyH.nil)
            go_simp
            have hbn : Below wc.heap.size wc (V2.alloc (.cells #[.int .i64 b'.n, .int .i64 a'.kind, .string a'.name, .int .i64 a'.n, (.slice ga' a'.args.length ca')] 33)) := (HB2.out.alloc (by first | exact Nat.le_refl _ | (have := HB2.out.size; omega)) _)
            refine hK.out _ _ (hbox.out _ hbn) (fun hHeld => ?_)
            clear hK K
            try simp only [Act.put, List.setIfInBounds_toArray, List.set_cons_zero, List.set_cons_succ, List.getElem_toArray, List.getElem_cons_zero, List.getElem_cons_succ]
            have hN0 : BRow (V2.alloc (.cells #[.int .i64 b'.n, .int .i64 a'.kind, .string a'.name, .int .i64 a'.n, (.slice ga' a'.args.length ca')] 33)) B V2.heap.size [⟨b'.n, a'⟩] (.slice (some ⟨V2.heap.size, 0, none⟩) 1 1) [.int .i64 b'.n, .int .i64 a'.kind, .string a'.name, .int .i64 a'.n, (.slice ga' a'.args.length ca')] := BRow.one (x := ⟨b'.n, a'⟩) rfl (Nat.le_trans hBc HB2.out.size) (Tm.inn_below HMID.out.ina HB2.out hBc)
            have hN : BRow (V2.alloc (.cells #[.int .i64 b'.n, .int .i64 a'.kind, .string a'.name, .int .i64 a'.n, (.slice ga' a'.args.length ca')] 33)) B V2.heap.size [⟨b'.n, a'⟩] (.slice (some ⟨V2.heap.size, 0, none⟩) 1 1) [.int .i64 b'.n, .int .i64 a'.kind, .string a'.name, .int .i64 a'.n, (.slice ga' a'.args.length ca')] := hN0
            clear hN0
            have hsz : (V2.alloc (.cells #[.int .i64 b'.n, .int .i64 a'.kind, .string a'.name, .int .i64 a'.n, (.slice ga' a'.args.length ca')] 33)).heap.size = V2.heap.size + 1 := by simp
            have hal : Below V2.heap.size V2 (V2.alloc (.cells #[.int .i64 b'.n, .int .i64 a'.kind, .string a'.name, .int .i64 a'.n, (.slice ga' a'.args.length ca')] 33)) := (Below.refl _ _).alloc (Nat.le_refl _) _
            obtain ⟨V3, hV3⟩ : ∃ x, (V2.alloc (.cells #[.int .i64 b'.n, .int .i64 a'.kind, .string a'.name, .int .i64 a'.n, (.slice ga' a'.args.length ca')] 33)) = x := ⟨_, rfl⟩
            rw [hV3] at hbn hN hsz hal
            simp only [hV3] at hHeld ⊢
            clear hV3
            have HB3 := Lib.hid hbn
            have HZ3 := Lib.hid hsz
            have HN3 := Lib.hid hN
            have HR3 := Lib.hid (HR2.out.next hal (Nat.le_trans hBc HB2.out.size))
            clear hbn hsz hN hal
            refine wpAnyH_ready (rs := [8]) (by kernel_rfl) (by simp) ?_
            refine AllReadyH.cons (o := _) rfl (fun K hK => ?_) (AllReadyH.nil)
            refine step_append_bds (by rfl) _ _ (by rfl) B wc.heap.size (.slice g2 l.length e2) l zs2 (by rfl) HR3.out [⟨b'.n, a'⟩] (some ⟨V2.heap.size, 0, none⟩) 1 1 (by rfl) rfl HN3.out.src (by simp; omega) HB3.out.size hBc ?_
            intro v3 V4 zs3 hrow3 hg3 hs3
            have hbn : Below wc.heap.size wc V4 := HB3.out.grown hg3 HB3.out.size (fun k e => (HR3.out.row.lt k e).1)
            have HF := Lib.hid hrow3
            refine hK.out _ _ (hbox.out _ hbn) (fun hHeld => ?_)
            clear hK K
            try simp only [Act.put, List.setIfInBounds_toArray, List.set_cons_zero, List.set_cons_succ, List.getElem_toArray, List.getElem_cons_zero, List.getElem_cons_succ]
            have HB4 := Lib.hid hbn
            clear hbn hrow3 hg3 hs3
            refine wpAnyH_ready (rs := [14]) (by kernel_rfl) (by simp) ?_
            refine AllReadyH.cons (o := _) rfl (fun K hK => ?_) (AllReadyH.nil)
            go_simp
            refine (occ_any l hlc σ HSO.out rk HRK.out b'.n HFR.out a' V4 _ _ (bdsQ_in (bdsQ_far HQC.out HB4.out hBc) (Nat.le_trans hBc HB4.out.size) (fun _ h => h.1)) (Tm.inn_mono (Tm.inn_below HMID.out.ina HB4.out hBc) (Nat.le_trans hBc HB4.out.size))).mono ?_
            rintro e V9 ⟨q, rfl, hq, hb9⟩
            have HB9 := Lib.hid (HB4.out.trans (hb9.mono HB4.out.size))
            have HF9 := Lib.hid (HF.out.next hb9 (Nat.le_trans hBc HB4.out.size))
            have HQ9 := Lib.hid hq
            clear hb9 hq HF
            go_wp2_with fail
            refine hK.out _ _ (hbox.out _ HB9.out) (fun hHeld => ?_)
            clear hK K
            try simp only [Act.put, List.setIfInBounds_toArray, List.set_cons_zero, List.set_cons_succ, List.getElem_toArray, List.getElem_cons_zero, List.getElem_cons_succ]
            refine wpAnyH_take (i := 15) (oi := _) (v := ?_) rfl (by kernel_rfl) (by kernel_rfl) (by kernel_rfl) (fun _ _ _ h => h) (Or.inl ⟨by rfl, ?_⟩) hHeld ?_
            rotate_left
            · (intro w hSw; obtain ⟨c0, c1, c2, c3, d0, d1, d2, d3, _⟩ := hSw; go_simp; try with_reducible rfl)
            try simp only [Act.put, List.setIfInBounds_toArray, List.set_cons_zero, List.set_cons_succ, List.getElem_toArray, List.getElem_cons_zero, List.getElem_cons_succ]
            refine wpAnyH_ready (rs := [16]) (by kernel_rfl) (by simp) ?_
            refine AllReadyH.cons (o := _) rfl (fun K hK => ?_) (AllReadyH.nil)
            go_simp
            refine hK.out _ _ (hHeld) (fun hHeld => ?_)
            clear hK K
            try simp only [Act.put, List.setIfInBounds_toArray, List.set_cons_zero, List.set_cons_succ, List.getElem_toArray, List.getElem_cons_zero, List.getElem_cons_succ]
            refine wpAnyH_ready (rs := [17]) (by kernel_rfl) (by simp) ?_
            refine AllReadyH.cons (o := _) rfl (fun K hK => ?_) (AllReadyH.nil)
            go_simp
            refine hK.out _ _ (hHeld) (fun hHeld => ?_)
            clear hK K
            try simp only [Act.put, List.setIfInBounds_toArray, List.set_cons_zero, List.set_cons_succ, List.getElem_toArray, List.getElem_cons_zero, List.getElem_cons_succ]
            refine wpAnyH_ready (rs := [18]) (by kernel_rfl) (by simp) ?_
            refine AllReadyH.cons (o := _) rfl (fun K hK => ?_) (AllReadyH.nil)
            go_simp
            refine hK.out _ _ (hHeld) (fun hHeld => ?_)
            clear hK K
            try simp only [Act.put, List.setIfInBounds_toArray, List.set_cons_zero, List.set_cons_succ, List.getElem_toArray, List.getElem_cons_zero, List.getElem_cons_succ]
            refine wpAnyH_done (by kernel_rfl) ?_ _
            clear hHeld
            go_wp2_with fail
            go_ret3
            cases q with
            | true => exact ⟨_, _, false, rfl, grown_below HMID.out.grown (HB9.out.mono (by have := HMID.out.size; omega)), .inl ⟨rfl, none_occurs HL.out HSO.out HMID.out.wa HMID.out.wb HRA2.out HRB2.out HK.out HNE.out (HQ9.out.1 rfl)⟩⟩
            | false =>
              have h : ¬ b'.n ∈ (a'.bnd σ).vs := fun h => by cases HQ9.out.2 h
              have hm : MguOf l a b (l ++ [⟨b'.n, a'⟩]) := mgu_bind HL.out HSO.out HMID.out.wa HMID.out.wb HRA2.out HRB2.out HK.out h
              exact ⟨_, _, true, rfl, grown_below HMID.out.grown (HB9.out.mono (by have := HMID.out.size; omega)), .inr ⟨rfl, l ++ [⟨b'.n, a'⟩], met1, hm, .inr (by simp), bdsQ_row HF9.out (fun k e => ⟨(HF9.out.row.lt k e).2, fun e' => by have := HSU.out k e'; have := (HF9.out.row.lt k e).1; omega, .inr (by have := (HF9.out.row.lt k e).1; have := HMID.out.size; omega)⟩) (by simp; omega) (fun x hx => (List.mem_append.1 hx).elim (fun hx => HBL.out.choose_spec.choose_spec.2.2.2.1 x hx) (fun hx => by rw [List.mem_singleton.1 hx]; exact hwfn)), ownMet_below HMID.out.own HB9.out, HMID.out.sep2, HMID.out.out fun θ hθ => ((hm.iff θ).1 hθ).2, HMID.out.bd⟩⟩
          · skip
            go_simp
            have hbn : Below wc.heap.size wc (V1.alloc (.cells #[.int .i64 b'.n, .int .i64 a'.kind, .string a'.name, .int .i64 a'.n, (.slice ga' a'.args.length ca')] 33)) := (HB1.out.alloc (by first | exact Nat.le_refl _ | (have := HB1.out.size; omega)) _)
            refine hK.out _ _ (hbox.out _ hbn) (fun hHeld => ?_)
            clear hK K
            try simp only [Act.put, List.setIfInBounds_toArray, List.set_cons_zero, List.set_cons_succ, List.getElem_toArray, List.getElem_cons_zero, List.getElem_cons_succ]
            have hN0 : BRow (V1.alloc (.cells #[.int .i64 b'.n, .int .i64 a'.kind, .string a'.name, .int .i64 a'.n, (.slice ga' a'.args.length ca')] 33)) B V1.heap.size [⟨b'.n, a'⟩] (.slice (some ⟨V1.heap.size, 0, none⟩) 1 1) [.int .i64 b'.n, .int .i64 a'.kind, .string a'.name, .int .i64 a'.n, (.slice ga' a'.args.length ca')] := BRow.one (x := ⟨b'.n, a'⟩) rfl (Nat.le_trans hBc HB1.out.size) (Tm.inn_below HMID.out.ina HB1.out hBc)
            have hN : BRow (V1.alloc (.cells #[.int .i64 b'.n, .int .i64 a'.kind, .string a'.name, .int .i64 a'.n, (.slice ga' a'.args.length ca')] 33)) B V1.heap.size [⟨b'.n, a'⟩] (.slice (some ⟨V1.heap.size, 0, none⟩) 1 1) [.int .i64 b'.n, .int .i64 a'.kind, .string a'.name, .int .i64 a'.n, (.slice ga' a'.args.length ca')] := hN0
            clear hN0
            have hsz : (V1.alloc (.cells #[.int .i64 b'.n, .int .i64 a'.kind, .string a'.name, .int .i64 a'.n, (.slice ga' a'.args.length ca')] 33)).heap.size = V1.heap.size + 1 := by simp
            have hal : Below V1.heap.size V1 (V1.alloc (.cells #[.int .i64 b'.n, .int .i64 a'.kind, .string a'.name, .int .i64 a'.n, (.slice ga' a'.args.length ca')] 33)) := (Below.refl _ _).alloc (Nat.le_refl _) _
            obtain ⟨V2, hV2⟩ : ∃ x, (V1.alloc (.cells #[.int .i64 b'.n, .int .i64 a'.kind, .string a'.name, .int .i64 a'.n, (.slice ga' a'.args.length ca')] 33)) = x := ⟨_, rfl⟩
            rw [hV2] at hbn hN hsz hal
            simp only [hV2] at hHeld ⊢
            clear hV2
            have HB2 := Lib.hid hbn
            have HZ2 := Lib.hid hsz
            have HN2 := Lib.hid hN
            have HE2 := Lib.hid (HE1.out.next hal (Nat.le_trans hBc HB1.out.size))
            clear hbn hsz hN hal
            refine wpAnyH_ready (rs := [2]) (by kernel_rfl) (by simp) ?_
            refine AllReadyH.cons (o := _) rfl (fun K hK => ?_) (AllReadyH.nil)
            refine step_append_bds (by rfl) _ _ (by rfl) B wc.heap.size (.slice (some ⟨wc.heap.size, 0, none⟩) 0 0) [] [] (by rfl) HE2.out l gl l.length cl (by rfl) rfl (bdsQ_src (bdsQ_far HQC.out HB2.out hBc)) (by simp; omega) HB2.out.size hBc ?_
            intro v2 V3 zs2 hrow2 hg2 hs2
            rw [List.nil_append] at hrow2
            have hbn : Below wc.heap.size wc V3 := HB2.out.grown hg2 HB2.out.size (fun k e => (HE2.out.row.lt k e).1)
            have HR3 := Lib.hid hrow2
            have hne : V1.heap.size ≠ wc.heap.size := by have := HZ1.out; omega
            have HN3 := Lib.hid (HN2.out.keep (fun b hlt => hg2.block b (by have := HB2.out.size; omega) (fun e => by have := (HE2.out.row.lt b e.symm).1; omega)) (fun b e => hg2.block b (HN2.out.row.lt b e).2 (fun e' => by have e1 : V1.heap.size = b := (by injection e); have e2 : b = wc.heap.size := (by injection e'); omega)))
            clear hne
            refine hK.out _ _ (hbox.out _ hbn) (fun hHeld => ?_)
            clear hK K
            try simp only [Act.put, List.setIfInBounds_toArray, List.set_cons_zero, List.set_cons_succ, List.getElem_toArray, List.getElem_cons_zero, List.getElem_cons_succ]
            have HB3 := Lib.hid hbn
            obtain ⟨g2, e2, rfl⟩ := HR3.out.slice
            clear hbn hrow2 hg2 hs2
            refine wpAnyH_ready (rs := [8]) (by kernel_rfl) (by simp) ?_
            refine AllReadyH.cons (o := _) rfl (fun K hK => ?_) (AllReadyH.nil)
            refine step_append_bds (by rfl) _ _ (by rfl) B wc.heap.size (.slice g2 l.length e2) l zs2 (by rfl) HR3.out [⟨b'.n, a'⟩] (some ⟨V1.heap.size, 0, none⟩) 1 1 (by rfl) rfl HN3.out.src (by simp; omega) HB3.out.size hBc ?_
            intro v3 V4 zs3 hrow3 hg3 hs3
            have hbn : Below wc.heap.size wc V4 := HB3.out.grown hg3 HB3.out.size (fun k e => (HR3.out.row.lt k e).1)
            have HF := Lib.hid hrow3
            refine hK.out _ _ (hbox.out _ hbn) (fun hHeld => ?_)
            clear hK K
            try simp only [Act.put, List.setIfInBounds_toArray, List.set_cons_zero, List.set_cons_succ, List.getElem_toArray, List.getElem_cons_zero, List.getElem_cons_succ]
            have HB4 := Lib.hid hbn
            clear hbn hrow3 hg3 hs3
            refine wpAnyH_ready (rs := [14]) (by kernel_rfl) (by simp) ?_
            refine AllReadyH.cons (o := _) rfl (fun K hK => ?_) (AllReadyH.nil)
            go_simp
            refine (occ_any l hlc σ HSO.out rk HRK.out b'.n HFR.out a' V4 _ _ (bdsQ_in (bdsQ_far HQC.out HB4.out hBc) (Nat.le_trans hBc HB4.out.size) (fun _ h => h.1)) (Tm.inn_mono (Tm.inn_below HMID.out.ina HB4.out hBc) (Nat.le_trans hBc HB4.out.size))).mono ?_
            rintro e V9 ⟨q, rfl, hq, hb9⟩
            have HB9 := Lib.hid (HB4.out.trans (hb9.mono HB4.out.size))
            have HF9 := Lib.hid (HF.out.next hb9 (Nat.le_trans hBc HB4.out.size))
            have HQ9 := Lib.hid hq
            clear hb9 hq HF
            go_wp2_with fail
            refine hK.out _ _ (hbox.out _ HB9.out) (fun hHeld => ?_)
            clear hK K
            try simp only [Act.put, List.setIfInBounds_toArray, List.set_cons_zero, List.set_cons_succ, List.getElem_toArray, List.getElem_cons_zero, List.getElem_cons_succ]
            refine wpAnyH_take (i := 15) (oi := _) (v := ?_) rfl (by kernel_rfl) (by kernel_rfl) (by kernel_rfl) (fun _ _ _ h => h) (Or.inl ⟨by rfl, ?_⟩) hHeld ?_
            rotate_left
            · (intro w hSw; obtain ⟨c0, c1, c2, c3, d0, d1, d2, d3, _⟩ := hSw; go_simp; try with_reducible rfl)
            try simp only [Act.put, List.setIfInBounds_toArray, List.set_cons_zero, List.set_cons_succ, List.getElem_toArray, List.getElem_cons_zero, List.getElem_cons_succ]
            refine wpAnyH_ready (rs := [16]) (by kernel_rfl) (by simp) ?_
            refine AllReadyH.cons (o := _) rfl (fun K hK => ?_) (AllReadyH.nil)
            go_simp
            refine hK.out _ _ (hHeld) (fun hHeld => ?_)
            clear hK K
            try simp only [Act.put, List.setIfInBounds_toArray, List.set_cons_zero, List.set_cons_succ, List.getElem_toArray, List.getElem_cons_zero, List.getElem_cons_succ]
            refine wpAnyH_ready (rs := [17]) (by kernel_rfl) (by simp) ?_
            refine AllReadyH.cons (o := _) rfl (fun K hK => ?_) (AllReadyH.nil)
            go_simp
            refine hK.out _ _ (hHeld) (fun hHeld => ?_)
            clear hK K
            try simp only [Act.put, List.setIfInBounds_toArray, List.set_cons_zero, List.set_cons_succ, List.getElem_toArray, List.getElem_cons_zero, List.getElem_cons_succ]
            refine wpAnyH_ready (rs := [18]) (by kernel_rfl) (by simp) ?_
            refine AllReadyH.cons (o := _) rfl (fun K hK => ?_) (AllReadyH.nil)
            go_simp
            refine hK.out _ _ (hHeld) (fun hHeld => ?_)
            clear hK K
            try simp only [Act.put, List.setIfInBounds_toArray, List.set_cons_zero, List.set_cons_succ, List.getElem_toArray, List.getElem_cons_zero, List.getElem_cons_succ]
            refine wpAnyH_done (by kernel_rfl) ?_ _
            clear hHeld
            go_wp2_with fail
            go_ret3
            cases q with
            | true => exact ⟨_, _, false, rfl, grown_below HMID.out.grown (HB9.out.mono (by have := HMID.out.size; omega)), .inl ⟨rfl, none_occurs HL.out HSO.out HMID.out.wa HMID.out.wb HRA2.out HRB2.out HK.out HNE.out (HQ9.out.1 rfl)⟩⟩
            | false =>
              have h : ¬ b'.n ∈ (a'.bnd σ).vs := fun h => by cases HQ9.out.2 h
              have hm : MguOf l a b (l ++ [⟨b'.n, a'⟩]) := mgu_bind HL.out HSO.out HMID.out.wa HMID.out.wb HRA2.out HRB2.out HK.out h
              exact ⟨_, _, true, rfl, grown_below HMID.out.grown (HB9.out.mono (by have := HMID.out.size; omega)), .inr ⟨rfl, l ++ [⟨b'.n, a'⟩], met1, hm, .inr (by simp), bdsQ_row HF9.out (fun k e => ⟨(HF9.out.row.lt k e).2, fun e' => by have := HSU.out k e'; have := (HF9.out.row.lt k e).1; omega, .inr (by have := (HF9.out.row.lt k e).1; have := HMID.out.size; omega)⟩) (by simp; omega) (fun x hx => (List.mem_append.1 hx).elim (fun hx => HBL.out.choose_spec.choose_spec.2.2.2.1 x hx) (fun hx => by rw [List.mem_singleton.1 hx]; exact hwfn)), ownMet_below HMID.out.own HB9.out, HMID.out.sep2, HMID.out.out fun θ hθ => ((hm.iff θ).1 hθ).2, HMID.out.bd⟩⟩
        · skip
          go_simp
          have hbn : Below wc.heap.size wc (wc.alloc (.cells #[.int .i64 b'.n, .int .i64 a'.kind, .string a'.name, .int .i64 a'.n, (.slice ga' a'.args.length ca')] 33)).drew := (((Below.refl wc.heap.size wc).alloc (Nat.le_refl _) _).drew)
          refine hK.out _ _ (hbox.out _ hbn) (fun hHeld => ?_)
          clear hK K
          try simp only [Act.put, List.setIfInBounds_toArray, List.set_cons_zero, List.set_cons_succ, List.getElem_toArray, List.getElem_cons_zero, List.getElem_cons_succ]
          have hN0 : BRow (wc.alloc (.cells #[.int .i64 b'.n, .int .i64 a'.kind, .string a'.name, .int .i64 a'.n, (.slice ga' a'.args.length ca')] 33)) B wc.heap.size [⟨b'.n, a'⟩] (.slice (some ⟨wc.heap.size, 0, none⟩) 1 1) [.int .i64 b'.n, .int .i64 a'.kind, .string a'.name, .int .i64 a'.n, (.slice ga' a'.args.length ca')] := BRow.one (x := ⟨b'.n, a'⟩) rfl hBc HMID.out.ina
          have hN : BRow (wc.alloc (.cells #[.int .i64 b'.n, .int .i64 a'.kind, .string a'.name, .int .i64 a'.n, (.slice ga' a'.args.length ca')] 33)).drew B wc.heap.size [⟨b'.n, a'⟩] (.slice (some ⟨wc.heap.size, 0, none⟩) 1 1) [.int .i64 b'.n, .int .i64 a'.kind, .string a'.name, .int .i64 a'.n, (.slice ga' a'.args.length ca')] := hN0.next ((Below.refl _ _).drew) (by simp; omega)
          clear hN0
          have hsz : (wc.alloc (.cells #[.int .i64 b'.n, .int .i64 a'.kind, .string a'.name, .int .i64 a'.n, (.slice ga' a'.args.length ca')] 33)).drew.heap.size = wc.heap.size + 1 := by simp
          obtain ⟨V1, hV1⟩ : ∃ x, (wc.alloc (.cells #[.int .i64 b'.n, .int .i64 a'.kind, .string a'.name, .int .i64 a'.n, (.slice ga' a'.args.length ca')] 33)).drew = x := ⟨_, rfl⟩
          rw [hV1] at hbn hN hsz
          simp only [hV1] at hHeld ⊢
          clear hV1
          have HB1 := Lib.hid hbn
          have HZ1 := Lib.hid hsz
          have HN1 := Lib.hid hN
          clear hbn hsz hN
          refine wpAnyH_ready (rs := [0]) (by kernel_rfl) (by simp) ?_
          refine AllReadyH.cons (o := _) rfl (fun K hK => ?_) (AllReadyH.nil)
          go_simp
          have hbn : Below wc.heap.size wc (V1.alloc (.cells #[] 33)) := (HB1.out.alloc (by first | exact Nat.le_refl _ | (have := HB1.out.size; omega)) _)
          refine hK.out _ _ (hbox.out _ hbn) (fun hHeld => ?_)
          clear hK K
          try simp only [Act.put, List.setIfInBounds_toArray, List.set_cons_zero, List.set_cons_succ, List.getElem_toArray, List.getElem_cons_zero, List.getElem_cons_succ]
          have hE : BRow (V1.alloc (.cells #[] 33)) B wc.heap.size [] (.slice (some ⟨V1.heap.size, 0, none⟩) 0 0) [] := ⟨World.ownsRow_lit V1 #[] 0 (by first | exact Nat.le_refl _ | (have := HB1.out.size; omega)) (by decide) rfl, by simp [cellsB]⟩
          have hsz : (V1.alloc (.cells #[] 33)).heap.size = V1.heap.size + 1 := by simp
          have hal : Below V1.heap.size V1 (V1.alloc (.cells #[] 33)) := (Below.refl _ _).alloc (Nat.le_refl _) _
          obtain ⟨V2, hV2⟩ : ∃ x, (V1.alloc (.cells #[] 33)) = x := ⟨_, rfl⟩
          rw [hV2] at hbn hE hsz hal
          simp only [hV2] at hHeld ⊢
          clear hV2
          have HB2 := Lib.hid hbn
          have HZ2 := Lib.hid hsz
          have HE2 := Lib.hid hE
          have HN2 := Lib.hid (HN1.out.next hal (Nat.le_trans hBc HB1.out.size))
          clear hbn hsz hE hal
          refine wpAnyH_ready (rs := [2]) (by kernel_rfl) (by simp) ?_
          refine AllReadyH.cons (o := _) rfl (fun K hK => ?_) (AllReadyH.nil)
          refine step_append_bds (by rfl) _ _ (by rfl) B wc.heap.size (.slice (some ⟨V1.heap.size, 0, none⟩) 0 0) [] [] (by rfl) HE2.out l gl l.length cl (by rfl) rfl (bdsQ_src (bdsQ_far HQC.out HB2.out hBc)) (by simp; omega) HB2.out.size hBc ?_
          intro v2 V3 zs2 hrow2 hg2 hs2
          rw [List.nil_append] at hrow2
          have hbn : Below wc.heap.size wc V3 := HB2.out.grown hg2 HB2.out.size (fun k e => (HE2.out.row.lt k e).1)
          have HR3 := Lib.hid hrow2
          have hne : wc.heap.size ≠ V1.heap.size := by have := HZ1.out; omega
          have HN3 := Lib.hid (HN2.out.keep (fun b hlt => hg2.block b (by have := HB2.out.size; omega) (fun e => by have := (HE2.out.row.lt b e.symm).1; omega)) (fun b e => hg2.block b (HN2.out.row.lt b e).2 (fun e' => by have e1 : wc.heap.size = b := (by injection e); have e2 : b = V1.heap.size := (by injection e'); omega)))
          clear hne
          refine hK.out _ _ (hbox.out _ hbn) (fun hHeld => ?_)
          clear hK K
          try simp only [Act.put, List.setIfInBounds_toArray, List.set_cons_zero, List.set_cons_succ, List.getElem_toArray, List.getElem_cons_zero, List.getElem_cons_succ]
          have HB3 := Lib.hid hbn
          obtain ⟨g2, e2, rfl⟩ := HR3.out.slice
          clear hbn hrow2 hg2 hs2
          refine wpAnyH_ready (rs := [8]) (by kernel_rfl) (by simp) ?_
          refine AllReadyH.cons (o := _) rfl (fun K hK => ?_) (AllReadyH.nil)
          refine step_append_bds (by rfl) _ _ (by rfl) B wc.heap.size (.slice g2 l.length e2) l zs2 (by rfl) HR3.out [⟨b'.n, a'⟩] (some ⟨wc.heap.size, 0, none⟩) 1 1 (by rfl) rfl HN3.out.src (by simp; omega) HB3.out.size hBc ?_
          intro v3 V4 zs3 hrow3 hg3 hs3
          have hbn : Below wc.heap.size wc V4 := HB3.out.grown hg3 HB3.out.size (fun k e => (HR3.out.row.lt k e).1)
          have HF := Lib.hid hrow3
          refine hK.out _ _ (hbox.out _ hbn) (fun hHeld => ?_)
          clear hK K
          try simp only [Act.put, List.setIfInBounds_toArray, List.set_cons_zero, List.set_cons_succ, List.getElem_toArray, List.getElem_cons_zero, List.getElem_cons_succ]
          have HB4 := Lib.hid hbn
          clear hbn hrow3 hg3 hs3
          refine wpAnyH_ready (rs := [14]) (by kernel_rfl) (by simp) ?_
          refine AllReadyH.cons (o := _) rfl (fun K hK => ?_) (AllReadyH.nil)
          go_simp
          refine (occ_any l hlc σ HSO.out rk HRK.out b'.n HFR.out a' V4 _ _ (bdsQ_in (bdsQ_far HQC.out HB4.out hBc) (Nat.le_trans hBc HB4.out.size) (fun _ h => h.1)) (Tm.inn_mono (Tm.inn_below HMID.out.ina HB4.out hBc) (Nat.le_trans hBc HB4.out.size))).mono ?_
          rintro e V9 ⟨q, rfl, hq, hb9⟩
          have HB9 := Lib.hid (HB4.out.trans (hb9.mono HB4.out.size))
          have HF9 := Lib.hid (HF.out.next hb9 (Nat.le_trans hBc HB4.out.size))
          have HQ9 := Lib.hid hq
          clear hb9 hq HF
          go_wp2_with fail
          refine hK.out _ _ (hbox.out _ HB9.out) (fun hHeld => ?_)
          clear hK K
          try simp only [Act.put, List.setIfInBounds_toArray, List.set_cons_zero, List.set_cons_succ, List.getElem_toArray, List.getElem_cons_zero, List.getElem_cons_succ]
          refine wpAnyH_take (i := 15) (oi := _) (v := ?_) rfl (by kernel_rfl) (by kernel_rfl) (by kernel_rfl) (fun _ _ _ h => h) (Or.inl ⟨by rfl, ?_⟩) hHeld ?_
          rotate_left
          · (intro w hSw; obtain ⟨c0, c1, c2, c3, d0, d1, d2, d3, _⟩ := hSw; go_simp; try with_reducible rfl)
          try simp only [Act.put, List.setIfInBounds_toArray, List.set_cons_zero, List.set_cons_succ, List.getElem_toArray, List.getElem_cons_zero, List.getElem_cons_succ]
          refine wpAnyH_ready (rs := [16]) (by kernel_rfl) (by simp) ?_
          refine AllReadyH.cons (o := _) rfl (fun K hK => ?_) (AllReadyH.nil)
          go_simp
          refine hK.out _ _ (hHeld) (fun hHeld => ?_)
          clear hK K
          try simp only [Act.put, List.setIfInBounds_toArray, List.set_cons_zero, List.set_cons_succ, List.getElem_toArray, List.getElem_cons_zero, List.getElem_cons_succ]
          refine wpAnyH_ready (rs := [17]) (by kernel_rfl) (by simp) ?_
          refine AllReadyH.cons (o := _) rfl (fun K hK => ?_) (AllReadyH.nil)
          go_simp
          refine hK.out _ _ (hHeld) (fun hHeld => ?_)
          clear hK K
          try simp only [Act.put, List.setIfInBounds_toArray, List.set_cons_zero, List.set_cons_succ, List.getElem_toArray, List.getElem_cons_zero, List.getElem_cons_succ]
          refine wpAnyH_ready (rs := [18]) (by kernel_rfl) (by simp) ?_
          refine AllReadyH.cons (o := _) rfl (fun K hK => ?_) (AllReadyH.nil)
          go_simp
          refine hK.out _ _ (hHeld) (fun hHeld => ?_)
          clear hK K
          try simp only [Act.put, List.setIfInBounds_toArray, List.set_cons_zero, List.set_cons_succ, List.getElem_toArray, List.getElem_cons_zero, List.getElem_cons_succ]
          refine wpAnyH_done (by kernel_rfl) ?_ _
          clear hHeld
          go_wp2_with fail
          go_ret3
          cases q with
          | true => exact ⟨_, _, false, rfl, grown_below HMID.out.grown (HB9.out.mono (by have := HMID.out.size; omega)), .inl ⟨rfl, none_occurs HL.out HSO.out HMID.out.wa HMID.out.wb HRA2.out HRB2.out HK.out HNE.out (HQ9.out.1 rfl)⟩⟩
          | false =>
            have h : ¬ b'.n ∈ (a'.bnd σ).vs := fun h => by cases HQ9.out.2 h
            have hm : MguOf l a b (l ++ [⟨b'.n, a'⟩]) := mgu_bind HL.out HSO.out HMID.out.wa HMID.out.wb HRA2.out HRB2.out HK.out h
            exact ⟨_, _, true, rfl, grown_below HMID.out.grown (HB9.out.mono (by have := HMID.out.size; omega)), .inr ⟨rfl, l ++ [⟨b'.n, a'⟩], met1, hm, .inr (by simp), bdsQ_row HF9.out (fun k e => ⟨(HF9.out.row.lt k e).2, fun e' => by have := HSU.out k e'; have := (HF9.out.row.lt k e).1; omega, .inr (by have := (HF9.out.row.lt k e).1; have := HMID.out.size; omega)⟩) (by simp; omega) (fun x hx => (List.mem_append.1 hx).elim (fun hx => HBL.out.choose_spec.choose_spec.2.2.2.1 x hx) (fun hx => by rw [List.mem_singleton.1 hx]; exact hwfn)), ownMet_below HMID.out.own HB9.out, HMID.out.sep2, HMID.out.out fun θ hθ => ((hm.iff θ).1 hθ).2, HMID.out.bd⟩⟩
      · have hkbb : (b'.kind == 1) = false := by simp [hkb]
        by_cases hka : a'.kind = 1
        · have hkab : (a'.kind == 1) = true := by simp [hka]
          go_wp2_with fail
          have hbox := Lib.hid (fun (W' : World) (h : Below wc.heap.size wc W') => UB.of HMID.out.boxa HMID.out.boxb h)
          have hrng : 0 ≤ a'.n ∧ a'.n < 1000000 := (Tm.var_of (right_fair HRA2.out) hka).2
          have hwfn : (Lit.int .i64 a'.n).wf = true := WalkArith.wf_i64 (by omega)
          have hBc : B ≤ wc.heap.size := by have := HMID.out.size; omega
          have hlc := okL_len HL.out.1
          have HQC := Lib.hid (grown_bds HMID.out.grown HMID.out.sep2 HBL.out hBlo HVM.out)
          obtain ⟨σ, hσ⟩ := sol_of HL.out
          obtain ⟨rk, hrk⟩ := HL.out.2
          have HSO := Lib.hid hσ
          have HRK := Lib.hid hrk
          have HFR := Lib.hid (HMID.out.wa.free hka)
          have HK := Lib.hid hka
          have HNE := Lib.hid (show ¬ (b'.kind = 1 ∧ b'.n = a'.n) from fun h => hkb h.1)
          have hsepu : ∀ k, u3.ownBlock = some k → k < wc.heap.size := fun k e => (ownMet_lt HMID.out.own k e).2
          have HSU := Lib.hid hsepu
          clear hσ hrk hsepu c0 c1 c2 c3 cf0 cf1 cf2 cf3 d0 d1 d2 d3 df0 df1 df2 df3
          refine wp_region_held_drew (S := fun W' => W'.cell? ⟨w.heap.size, 0, none⟩ = some (.int .i64 a'.kind) ∧ W'.cell? ⟨w.heap.size, 1, none⟩ = some (.string a'.name) ∧ W'.cell? ⟨w.heap.size, 2, none⟩ = some (.int .i64 a'.n) ∧ W'.cell? ⟨w.heap.size, 3, none⟩ = some (.slice ga' a'.args.length ca') ∧ W'.cell? ⟨w.heap.size + 1, 0, none⟩ = some (.int .i64 b'.kind) ∧ W'.cell? ⟨w.heap.size + 1, 1, none⟩ = some (.string b'.name) ∧ W'.cell? ⟨w.heap.size + 1, 2, none⟩ = some (.int .i64 b'.n) ∧ W'.cell? ⟨w.heap.size + 1, 3, none⟩ = some (.slice gb' b'.args.length cb') ∧ Below wc.heap.size wc W') (by kernel_rfl) (hbox.out _ ((Below.refl _ _).drew)) (fun hHeld => ?_)
          refine wpAnyH_take (i := 1) (oi := _) (v := ?_) rfl (by kernel_rfl) (by kernel_rfl) (by kernel_rfl) (fun _ _ _ h => h) (Or.inl ⟨by rfl, ?_⟩) hHeld ?_
          rotate_left
          · (intro w hSw; obtain ⟨c0, c1, c2, c3, d0, d1, d2, d3, _⟩ := hSw; go_simp; try with_reducible rfl)
          try simp only [Act.put, List.setIfInBounds_toArray, List.set_cons_zero, List.set_cons_succ, List.getElem_toArray, List.getElem_cons_zero, List.getElem_cons_succ]
          refine wpAnyH_take (i := 3) (oi := _) (v := ?_) rfl (by kernel_rfl) (by kernel_rfl) (by kernel_rfl) (fun _ _ _ h => h) (Or.inl ⟨by rfl, ?_⟩) hHeld ?_
          rotate_left
          · (intro w hSw; obtain ⟨c0, c1, c2, c3, d0, d1, d2, d3, _⟩ := hSw; go_simp; try with_reducible rfl)
          try simp only [Act.put, List.setIfInBounds_toArray, List.set_cons_zero, List.set_cons_succ, List.getElem_toArray, List.getElem_cons_zero, List.getElem_cons_succ]
          refine wpAnyH_take (i := 4) (oi := _) (v := ?_) rfl (by kernel_rfl) (by kernel_rfl) (by kernel_rfl) (fun _ _ _ h => h) (Or.inl ⟨by rfl, ?_⟩) hHeld ?_
          rotate_left
          · (intro w hSw; obtain ⟨c0, c1, c2, c3, d0, d1, d2, d3, _⟩ := hSw; go_simp; try with_reducible rfl)
          try simp only [Act.put, List.setIfInBounds_toArray, List.set_cons_zero, List.set_cons_succ, List.getElem_toArray, List.getElem_cons_zero, List.getElem_cons_succ]
          refine wpAnyH_take (i := 5) (oi := _) (v := ?_) rfl (by kernel_rfl) (by kernel_rfl) (by kernel_rfl) (fun _ _ _ h => h) (Or.inl ⟨by rfl, ?_⟩) hHeld ?_
          rotate_left
          · (intro w hSw; obtain ⟨c0, c1, c2, c3, d0, d1, d2, d3, _⟩ := hSw; go_simp; try with_reducible rfl)
          try simp only [Act.put, List.setIfInBounds_toArray, List.set_cons_zero, List.set_cons_succ, List.getElem_toArray, List.getElem_cons_zero, List.getElem_cons_succ]
          refine wpAnyH_take (i := 6) (oi := _) (v := ?_) rfl (by kernel_rfl) (by kernel_rfl) (by kernel_rfl) (fun _ _ _ h => h) (Or.inl ⟨by rfl, ?_⟩) hHeld ?_
          rotate_left
          · (intro w hSw; obtain ⟨c0, c1, c2, c3, d0, d1, d2, d3, _⟩ := hSw; go_simp; try with_reducible rfl)
          try simp only [Act.put, List.setIfInBounds_toArray, List.set_cons_zero, List.set_cons_succ, List.getElem_toArray, List.getElem_cons_zero, List.getElem_cons_succ]
          refine wpAnyH_take (i := 9) (oi := _) (v := ?_) rfl (by kernel_rfl) (by kernel_rfl) (by kernel_rfl) (fun _ _ _ h => h) (Or.inl ⟨by rfl, ?_⟩) hHeld ?_
          rotate_left
          · (intro w hSw; obtain ⟨c0, c1, c2, c3, d0, d1, d2, d3, _⟩ := hSw; go_simp; try with_reducible rfl)
          try simp only [Act.put, List.setIfInBounds_toArray, List.set_cons_zero, List.set_cons_succ, List.getElem_toArray, List.getElem_cons_zero, List.getElem_cons_succ]
          refine wpAnyH_take (i := 10) (oi := _) (v := ?_) rfl (by kernel_rfl) (by kernel_rfl) (by kernel_rfl) (fun _ _ _ h => h) (Or.inl ⟨by rfl, ?_⟩) hHeld ?_
          rotate_left
          · (intro w hSw; obtain ⟨c0, c1, c2, c3, d0, d1, d2, d3, _⟩ := hSw; go_simp; try with_reducible rfl)
          try simp only [Act.put, List.setIfInBounds_toArray, List.set_cons_zero, List.set_cons_succ, List.getElem_toArray, List.getElem_cons_zero, List.getElem_cons_succ]
          refine wpAnyH_take (i := 11) (oi := _) (v := ?_) rfl (by kernel_rfl) (by kernel_rfl) (by kernel_rfl) (fun _ _ _ h => h) (Or.inl ⟨by rfl, ?_⟩) hHeld ?_
          rotate_left
          · (intro w hSw; obtain ⟨c0, c1, c2, c3, d0, d1, d2, d3, _⟩ := hSw; go_simp; try with_reducible rfl)
          try simp only [Act.put, List.setIfInBounds_toArray, List.set_cons_zero, List.set_cons_succ, List.getElem_toArray, List.getElem_cons_zero, List.getElem_cons_succ]
          refine wpAnyH_take (i := 12) (oi := _) (v := ?_) rfl (by kernel_rfl) (by kernel_rfl) (by kernel_rfl) (fun _ _ _ h => h) (Or.inl ⟨by rfl, ?_⟩) hHeld ?_
          rotate_left
          · (intro w hSw; obtain ⟨c0, c1, c2, c3, d0, d1, d2, d3, _⟩ := hSw; go_simp; try with_reducible rfl)
          try simp only [Act.put, List.setIfInBounds_toArray, List.set_cons_zero, List.set_cons_succ, List.getElem_toArray, List.getElem_cons_zero, List.getElem_cons_succ]
          refine wpAnyH_take (i := 13) (oi := _) (v := ?_) rfl (by kernel_rfl) (by kernel_rfl) (by kernel_rfl) (fun _ _ _ h => h) (Or.inl ⟨by rfl, ?_⟩) hHeld ?_
          rotate_left
          · (intro w hSw; obtain ⟨c0, c1, c2, c3, d0, d1, d2, d3, _⟩ := hSw; go_simp; try with_reducible rfl)
          try simp only [Act.put, List.setIfInBounds_toArray, List.set_cons_zero, List.set_cons_succ, List.getElem_toArray, List.getElem_cons_zero, List.getElem_cons_succ]
          refine wpAnyH_ready (rs := [0, 7]) (by kernel_rfl) (by simp) ?_
          refine AllReadyH.cons (o := _) rfl (fun K hK => ?_) (AllReadyH.cons (o := _) rfl (fun K hK => ?_) (AllReadyH.nil))
          · skip
            go_simp
            have hbn : Below wc.heap.size wc (wc.alloc (.cells #[] 33)).drew := (((Below.refl wc.heap.size wc).alloc (Nat.le_refl _) _).drew)
            refine hK.out _ _ (hbox.out _ hbn) (fun hHeld => ?_)
            clear hK K
            try simp only [Act.put, List.setIfInBounds_toArray, List.set_cons_zero, List.set_cons_succ, List.getElem_toArray, List.getElem_cons_zero, List.getElem_cons_succ]
            have hE : BRow (wc.alloc (.cells #[] 33)).drew B wc.heap.size [] (.slice (some ⟨wc.heap.size, 0, none⟩) 0 0) [] := ⟨World.ownsRow_lit wc #[] 0 (Nat.le_refl _) (by decide) rfl, by simp [cellsB]⟩
            have hsz : (wc.alloc (.cells #[] 33)).drew.heap.size = wc.heap.size + 1 := by simp
            obtain ⟨V1, hV1⟩ : ∃ x, (wc.alloc (.cells #[] 33)).drew = x := ⟨_, rfl⟩
            rw [hV1] at hbn hE hsz
            simp only [hV1] at hHeld ⊢
            clear hV1
            have HB1 := Lib.hid hbn
            have HZ1 := Lib.hid hsz
            have HE1 := Lib.hid hE
            clear hbn hsz hE
            refine wpAnyH_ready (rs := [2, 7]) (by kernel_rfl) (by simp) ?_
            refine AllReadyH.cons (o := _) rfl (fun K hK => ?_) (AllReadyH.cons (o := _) rfl (fun K hK => ?_) (AllReadyH.nil))
            · skip
              refine step_append_bds (by rfl) _ _ (by rfl) B wc.heap.size (.slice (some ⟨wc.heap.size, 0, none⟩) 0 0) [] [] (by rfl) HE1.out l gl l.length cl (by rfl) rfl (bdsQ_src (bdsQ_far HQC.out HB1.out hBc)) (by simp; omega) HB1.out.size hBc ?_
              intro v2 V2 zs2 hrow2 hg2 hs2
              rw [List.nil_append] at hrow2
              have hbn : Below wc.heap.size wc V2 := HB1.out.grown hg2 HB1.out.size (fun k e => (HE1.out.row.lt k e).1)
              have HR2 := Lib.hid hrow2
              refine hK.out _ _ (hbox.out _ hbn) (fun hHeld => ?_)
              clear hK K
              try simp only [Act.put, List.setIfInBounds_toArray, List.set_cons_zero, List.set_cons_succ, List.getElem_toArray, List.getElem_cons_zero, List.getElem_cons_succ]
              have HB2 := Lib.hid hbn
              obtain ⟨g2, e2, rfl⟩ := HR2.out.slice
              clear hbn hrow2 hg2 hs2
              refine wpAnyH_ready (rs := [7]) (by kernel_rfl) (by simp) ?_
              refine AllReadyH.cons (o := _) rfl (fun K hK => ?_) (AllReadyH.nil)
              go_simp
              have hbn : Below wc.heap.size wc (V2.alloc (.cells #[.int .i64 a'.n, .int .i64 b'.kind, .string b'.name, .int .i64 b'.n, (.slice gb' b'.args.length cb')] 33)) := (HB2.out.alloc (by first | exact Nat.le_refl _ | (have := HB2.out.size; omega)) _)
              refine hK.out _ _ (hbox.out _ hbn) (fun hHeld => ?_)
              clear hK K
              try simp only [Act.put, List.setIfInBounds_toArray, List.set_cons_zero, List.set_cons_succ, List.getElem_toArray, List.getElem_cons_zero, List.getElem_cons_succ]
              have hN0 : BRow (V2.alloc (.cells #[.int .i64 a'.n, .int .i64 b'.kind, .string b'.name, .int .i64 b'.n, (.slice gb' b'.args.length cb')] 33)) B V2.heap.size [⟨a'.n, b'⟩] (.slice (some ⟨V2.heap.size, 0, none⟩) 1 1) [.int .i64 a'.n, .int .i64 b'.kind, .string b'.name, .int .i64 b'.n, (.slice gb' b'.args.length cb')] := BRow.one (x := ⟨a'.n, b'⟩) rfl (Nat.le_trans hBc HB2.out.size) (Tm.inn_below HMID.out.inb HB2.out hBc)
              have hN : BRow (V2.alloc (.cells #[.int .i64 a'.n, .int .i64 b'.kind, .string b'.name, .int .i64 b'.n, (.slice gb' b'.args.length cb')] 33)) B V2.heap.size [⟨a'.n, b'⟩] (.slice (some ⟨V2.heap.size, 0, none⟩) 1 1) [.int .i64 a'.n, .int .i64 b'.kind, .string b'.name, .int .i64 b'.n, (.slice gb' b'.args.length cb')] := hN0
              clear hN0
              have hsz : (V2.alloc (.cells #[.int .i64 a'.n, .int .i64 b'.kind, .string b'.name, .int .i64 b'.n, (.slice gb' b'.args.length cb')] 33)).heap.size = V2.heap.size + 1 := by simp
              have hal : Below V2.heap.size V2 (V2.alloc (.cells #[.int .i64 a'.n, .int .i64 b'.kind, .string b'.name, .int .i64 b'.n, (.slice gb' b'.args.length cb')] 33)) := (Below.refl _ _).alloc (Nat.le_refl _) _
              obtain ⟨V3, hV3⟩ : ∃ x, (V2.alloc (.cells #[.int .i64 a'.n, .int .i64 b'.kind, .string b'.name, .int .i64 b'.n, (.slice gb' b'.args.length cb')] 33)) = x := ⟨_, rfl⟩
              rw [hV3] at hbn hN hsz hal
              simp only [hV3] at hHeld ⊢
              clear hV3
              have HB3 := Lib.hid hbn
              have HZ3 := Lib.hid hsz
              have HN3 := Lib.hid hN
              have HR3 := Lib.hid (HR2.out.next hal (Nat.le_trans hBc HB2.out.size))
              clear hbn hsz hN hal
              refine wpAnyH_ready (rs := [8]) (by kernel_rfl) (by simp) ?_
              refine AllReadyH.cons (o := _) rfl (fun K hK => ?_) (AllReadyH.nil)
              refine step_append_bds (by rfl) _ _ (by rfl) B wc.heap.size (.slice g2 l.length e2) l zs2 (by rfl) HR3.out [⟨a'.n, b'⟩] (some ⟨V2.heap.size, 0, none⟩) 1 1 (by rfl) rfl HN3.out.src (by simp; omega) HB3.out.size hBc ?_
              intro v3 V4 zs3 hrow3 hg3 hs3
              have hbn : Below wc.heap.size wc V4 := HB3.out.grown hg3 HB3.out.size (fun k e => (HR3.out.row.lt k e).1)
              have HF := Lib.hid hrow3
              refine hK.out _ _ (hbox.out _ hbn) (fun hHeld => ?_)
              clear hK K
              try simp only [Act.put, List.setIfInBounds_toArray, List.set_cons_zero, List.set_cons_succ, List.getElem_toArray, List.getElem_cons_zero, List.getElem_cons_succ]
              have HB4 := Lib.hid hbn
              clear hbn hrow3 hg3 hs3
              refine wpAnyH_ready (rs := [14]) (by kernel_rfl) (by simp) ?_
              refine AllReadyH.cons (o := _) rfl (fun K hK => ?_) (AllReadyH.nil)
              go_simp
              refine (occ_any l hlc σ HSO.out rk HRK.out a'.n HFR.out b' V4 _ _ (bdsQ_in (bdsQ_far HQC.out HB4.out hBc) (Nat.le_trans hBc HB4.out.size) (fun _ h => h.1)) (Tm.inn_mono (Tm.inn_below HMID.out.inb HB4.out hBc) (Nat.le_trans hBc HB4.out.size))).mono ?_
              rintro e V9 ⟨q, rfl, hq, hb9⟩
              have HB9 := Lib.hid (HB4.out.trans (hb9.mono HB4.out.size))
              have HF9 := Lib.hid (HF.out.next hb9 (Nat.le_trans hBc HB4.out.size))
              have HQ9 := Lib.hid hq
              clear hb9 hq HF
              go_wp2_with fail
              refine hK.out _ _ (hbox.out _ HB9.out) (fun hHeld => ?_)
              clear hK K
              try simp only [Act.put, List.setIfInBounds_toArray, List.set_cons_zero, List.set_cons_succ, List.getElem_toArray, List.getElem_cons_zero, List.getElem_cons_succ]
              refine wpAnyH_take (i := 15) (oi := _) (v := ?_) rfl (by kernel_rfl) (by kernel_rfl) (by kernel_rfl) (fun _ _ _ h => h) (Or.inl ⟨by rfl, ?_⟩) hHeld ?_
              rotate_left
              · (intro w hSw; obtain ⟨c0, c1, c2, c3, d0, d1, d2, d3, _⟩ := hSw; go_simp; try with_reducible rfl)
              try simp only [Act.put, List.setIfInBounds_toArray, List.set_cons_zero, List.set_cons_succ, List.getElem_toArray, List.getElem_cons_zero, List.getElem_cons_succ]
              refine wpAnyH_ready (rs := [16]) (by kernel_rfl) (by simp) ?_
              refine AllReadyH.cons (o := _) rfl (fun K hK => ?_) (AllReadyH.nil)
              go_simp
              refine hK.out _ _ (hHeld) (fun hHeld => ?_)
              clear hK K
              try simp only [Act.put, List.setIfInBounds_toArray, List.set_cons_zero, List.set_cons_succ, List.getElem_toArray, List.getElem_cons_zero, List.getElem_cons_succ]
              refine wpAnyH_ready (rs := [17]) (by kernel_rfl) (by simp) ?_
              refine AllReadyH.cons (o := _) rfl (fun K hK => ?_) (AllReadyH.nil)
              go_simp
              refine hK.out _ _ (hHeld) (fun hHeld => ?_)
              clear hK K
              try simp only [Act.put, List.setIfInBounds_toArray, List.set_cons_zero, List.set_cons_succ, List.getElem_toArray, List.getElem_cons_zero, List.getElem_cons_succ]
              refine wpAnyH_ready (rs := [18]) (by kernel_rfl) (by simp) ?_
              refine AllReadyH.cons (o := _) rfl (fun K hK => ?_) (AllReadyH.nil)
              go_simp
              refine hK.out _ _ (hHeld) (fun hHeld => ?_)
              clear hK K
              try simp only [Act.put, List.setIfInBounds_toArray, List.set_cons_zero, List.set_cons_succ, List.getElem_toArray, List.getElem_cons_zero, List.getElem_cons_succ]
              refine wpAnyH_done (by kernel_rfl) ?_ _
              clear hHeld
              go_wp2_with fail
              go_ret3
              cases q with
              | true => exact ⟨_, _, false, rfl, grown_below HMID.out.grown (HB9.out.mono (by have := HMID.out.size; omega)), .inl ⟨rfl, (none_occurs HL.out HSO.out HMID.out.wb HMID.out.wa HRB2.out HRA2.out HK.out HNE.out (HQ9.out.1 rfl)).comm⟩⟩
              | false =>
                have h : ¬ a'.n ∈ (b'.bnd σ).vs := fun h => by cases HQ9.out.2 h
                have hm : MguOf l a b (l ++ [⟨a'.n, b'⟩]) := (mgu_bind HL.out HSO.out HMID.out.wb HMID.out.wa HRB2.out HRA2.out HK.out h).comm
                exact ⟨_, _, true, rfl, grown_below HMID.out.grown (HB9.out.mono (by have := HMID.out.size; omega)), .inr ⟨rfl, l ++ [⟨a'.n, b'⟩], met1, hm, .inr (by simp), bdsQ_row HF9.out (fun k e => ⟨(HF9.out.row.lt k e).2, fun e' => by have := HSU.out k e'; have := (HF9.out.row.lt k e).1; omega, .inr (by have := (HF9.out.row.lt k e).1; have := HMID.out.size; omega)⟩) (by simp; omega) (fun x hx => (List.mem_append.1 hx).elim (fun hx => HBL.out.choose_spec.choose_spec.2.2.2.1 x hx) (fun hx => by rw [List.mem_singleton.1 hx]; exact hwfn)), ownMet_below HMID.out.own HB9.out, HMID.out.sep2, HMID.out.out fun θ hθ => ((hm.iff θ).1 hθ).2, HMID.out.bd⟩⟩
            · skip
              go_simp
              have hbn : Below wc.heap.size wc (V1.alloc (.cells #[.int .i64 a'.n, .int .i64 b'.kind, .string b'.name, .int .i64 b'.n, (.slice gb' b'.args.length cb')] 33)) := (HB1.out.alloc (by first | exact Nat.le_refl _ | (have := HB1.out.size; omega)) _)
              refine hK.out _ _ (hbox.out _ hbn) (fun hHeld => ?_)
              clear hK K
              try simp only [Act.put, List.setIfInBounds_toArray, List.set_cons_zero, List.set_cons_succ, List.getElem_toArray, List.getElem_cons_zero, List.getElem_cons_succ]
              have hN0 : BRow (V1.alloc (.cells #[.int .i64 a'.n, .int .i64 b'.kind, .string b'.name, .int .i64 b'.n, (.slice gb' b'.args.length cb')] 33)) B V1.heap.size [⟨a'.n, b'⟩] (.slice (some ⟨V1.heap.size, 0, none⟩) 1 1) [.int .i64 a'.n, .int .i64 b'.kind, .string b'.name, .int .i64 b'.n, (.slice gb' b'.args.length cb')] := BRow.one (x := ⟨a'.n, b'⟩) rfl (Nat.le_trans hBc HB1.out.size) (Tm.inn_below HMID.out.inb HB1.out hBc)
              have hN : BRow (V1.alloc (.cells #[.int .i64 a'.n, .int .i64 b'.kind, .string b'.name, .int .i64 b'.n, (.slice gb' b'.args.length cb')] 33)) B V1.heap.size [⟨a'.n, b'⟩] (.slice (some ⟨V1.heap.size, 0, none⟩) 1 1) [.int .i64 a'.n, .int .i64 b'.kind, .string b'.name, .int .i64 b'.n, (.slice gb' b'.args.length cb')] := hN0
              clear hN0
              have hsz : (V1.alloc (.cells #[.int .i64 a'.n, .int .i64 b'.kind, .string b'.name, .int .i64 b'.n, (.slice gb' b'.args.length cb')] 33)).heap.size = V1.heap.size + 1 := by simp
              have hal : Below V1.heap.size V1 (V1.alloc (.cells #[.int .i64 a'.n, .int .i64 b'.kind, .string b'.name, .int .i64 b'.n, (.slice gb' b'.args.length cb')] 33)) := (Below.refl _ _).alloc (Nat.le_refl _) _
              obtain ⟨V2, hV2⟩ : ∃ x, (V1.alloc (.cells #[.int .i64 a'.n, .int .i64 b'.kind, .string b'.name, .int .i64 b'.n, (.slice gb' b'.args.length cb')] 33)) = x := ⟨_, rfl⟩
              rw [hV2] at hbn hN hsz hal
              simp only [hV2] at hHeld ⊢
              clear hV2
              have HB2 := Lib.hid hbn
              have HZ2 := Lib.hid hsz
              have HN2 := Lib.hid hN
              have HE2 := Lib.hid (HE1.out.next hal (Nat.le_trans hBc HB1.out.size))
              clear hbn hsz hN hal
              refine wpAnyH_ready (rs := [2]) (by kernel_rfl) (by simp) ?_
              refine AllReadyH.cons (o := _) rfl (fun K hK => ?_) (AllReadyH.nil)
              refine step_append_bds (by rfl) _ _ (by rfl) B wc.heap.size (.slice (some ⟨wc.heap.size, 0, none⟩) 0 0) [] [] (by rfl) HE2.out l gl l.length cl (by rfl) rfl (bdsQ_src (bdsQ_far HQC.out HB2.out hBc)) (by simp; omega) HB2.out.size hBc ?_
              intro v2 V3 zs2 hrow2 hg2 hs2
              rw [List.nil_append] at hrow2
              have hbn : Below wc.heap.size wc V3 := HB2.out.grown hg2 HB2.out.size (fun k e => (HE2.out.row.lt k e).1)
              have HR3 := Lib.hid hrow2
              have hne : V1.heap.size ≠ wc.heap.size := by have := HZ1.out; omega
              have HN3 := Lib.hid (HN2.out.keep (fun b hlt => hg2.block b (by have := HB2.out.size; omega) (fun e => by have := (HE2.out.row.lt b e.symm).1; omega)) (fun b e => hg2.block b (HN2.out.row.lt b e).2 (fun e' => by have e1 : V1.heap.size = b := (by injection e); have e2 : b = wc.heap.size := (by injection e'); omega)))
              clear hne
              refine hK.out _ _ (hbox.out _ hbn) (fun hHeld => ?_)
              clear hK K
              try simp only [Act.put, List.setIfInBounds_toArray, List.set_cons_zero, List.set_cons_succ, List.getElem_toArray, List.getElem_cons_zero, List.getElem_cons_succ]
              have HB3 := Lib.hid hbn
              obtain ⟨g2, e2, rfl⟩ := HR3.out.slice
              clear hbn hrow2 hg2 hs2
              refine wpAnyH_ready (rs := [8]) (by kernel_rfl) (by simp) ?_
              refine AllReadyH.cons (o := _) rfl (fun K hK => ?_) (AllReadyH.nil)
              refine step_append_bds (by rfl) _ _ (by rfl) B wc.heap.size (.slice g2 l.length e2) l zs2 (by rfl) HR3.out [⟨a'.n, b'⟩] (some ⟨V1.heap.size, 0, none⟩) 1 1 (by rfl) rfl HN3.out.src (by simp; omega) HB3.out.size hBc ?_
              intro v3 V4 zs3 hrow3 hg3 hs3
              have hbn : Below wc.heap.size wc V4 := HB3.out.grown hg3 HB3.out.size (fun k e => (HR3.out.row.lt k e).1)
              have HF := Lib.hid hrow3
              refine hK.out _ _ (hbox.out _ hbn) (fun hHeld => ?_)
              clear hK K
              try simp only [Act.put, List.setIfInBounds_toArray, List.set_cons_zero, List.set_cons_succ, List.getElem_toArray, List.getElem_cons_zero, List.getElem_cons_succ]
              have HB4 := Lib.hid hbn
              clear hbn hrow3 hg3 hs3
              refine wpAnyH_ready (rs := [14]) (by kernel_rfl) (by simp) ?_
              refine AllReadyH.cons (o := _) rfl (fun K hK => ?_) (AllReadyH.nil)
              go_simp
              refine (occ_any l hlc σ HSO.out rk HRK.out a'.n HFR.out b' V4 _ _ (bdsQ_in (bdsQ_far HQC.out HB4.out hBc) (Nat.le_trans hBc HB4.out.size) (fun _ h => h.1)) (Tm.inn_mono (Tm.inn_below HMID.out.inb HB4.out hBc) (Nat.le_trans hBc HB4.out.size))).mono ?_
              rintro e V9 ⟨q, rfl, hq, hb9⟩
              have HB9 := Lib.hid (HB4.out.trans (hb9.mono HB4.out.size))
              have HF9 := Lib.hid (HF.out.next hb9 (Nat.le_trans hBc HB4.out.size))
              have HQ9 := Lib.hid hq
              clear hb9 hq HF
              go_wp2_with fail
              refine hK.out _ _ (hbox.out _ HB9.out) (fun hHeld => ?_)
              clear hK K
              try simp only [Act.put, List.setIfInBounds_toArray, List.set_cons_zero, List.set_cons_succ, List.getElem_toArray, List.getElem_cons_zero, List.getElem_cons_succ]
              refine wpAnyH_take (i := 15) (oi := _) (v := ?_) rfl (by kernel_rfl) (by kernel_rfl) (by kernel_rfl) (fun _ _ _ h => h) (Or.inl ⟨by rfl, ?_⟩) hHeld ?_
              rotate_left
              · (intro w hSw; obtain ⟨c0, c1, c2, c3, d0, d1, d2, d3, _⟩ := hSw; go_simp; try with_reducible rfl)
              try simp only [Act.put, List.setIfInBounds_toArray, List.set_cons_zero, List.set_cons_succ, List.getElem_toArray, List.getElem_cons_zero, List.getElem_cons_succ]
              refine wpAnyH_ready (rs := [16]) (by kernel_rfl) (by simp) ?_
              refine AllReadyH.cons (o := _) rfl (fun K hK => ?_) (AllReadyH.nil)
              go_simp
              refine hK.out _ _ (hHeld) (fun hHeld => ?_)
              clear hK K
              try simp only [Act.put, List.setIfInBounds_toArray, List.set_cons_zero, List.set_cons_succ, List.getElem_toArray, List.getElem_cons_zero, List.getElem_cons_succ]
              refine wpAnyH_ready (rs := [17]) (by kernel_rfl) (by simp) ?_
              refine AllReadyH.cons (o := _) rfl (fun K hK => ?_) (AllReadyH.nil)
              go_simp
              refine hK.out _ _ (hHeld) (fun hHeld => ?_)
              clear hK K
              try simp only [Act.put, List.setIfInBounds_toArray, List.set_cons_zero, List.set_cons_succ, List.getElem_toArray, List.getElem_cons_zero, List.getElem_cons_succ]
              refine wpAnyH_ready (rs := [18]) (by kernel_rfl) (by simp) ?_
              refine AllReadyH.cons (o := _) rfl (fun K hK => ?_) (AllReadyH.nil)
              go_simp
              refine hK.out _ _ (hHeld) (fun hHeld => ?_)
              clear hK K
              try simp only [Act.put, List.setIfInBounds_toArray, List.set_cons_zero, List.set_cons_succ, List.getElem_toArray, List.getElem_cons_zero, List.getElem_cons_succ]
              refine wpAnyH_done (by kernel_rfl) ?_ _
              clear hHeld
              go_wp2_with fail
              go_ret3
              cases q with
              | true => exact ⟨_, _, false, rfl, grown_below HMID.out.grown (HB9.out.mono (by have := HMID.out.size; omega)), .inl ⟨rfl, (none_occurs HL.out HSO.out HMID.out.wb HMID.out.wa HRB2.out HRA2.out HK.out HNE.out (HQ9.out.1 rfl)).comm⟩⟩
              | false =>
                have h : ¬ a'.n ∈ (b'.bnd σ).vs := fun h => by cases HQ9.out.2 h
                have hm : MguOf l a b (l ++ [⟨a'.n, b'⟩]) := (mgu_bind HL.out HSO.out HMID.out.wb HMID.out.wa HRB2.out HRA2.out HK.out h).comm
                exact ⟨_, _, true, rfl, grown_below HMID.out.grown (HB9.out.mono (by have := HMID.out.size; omega)), .inr ⟨rfl, l ++ [⟨a'.n, b'⟩], met1, hm, .inr (by simp), bdsQ_row HF9.out (fun k e => ⟨(HF9.out.row.lt k e).2, fun e' => by have := HSU.out k e'; have := (HF9.out.row.lt k e).1; omega, .inr (by have := (HF9.out.row.lt k e).1; have := HMID.out.size; omega)⟩) (by simp; omega) (fun x hx => (List.mem_append.1 hx).elim (fun hx => HBL.out.choose_spec.choose_spec.2.2.2.1 x hx) (fun hx => by rw [List.mem_singleton.1 hx]; exact hwfn)), ownMet_below HMID.out.own HB9.out, HMID.out.sep2, HMID.out.out fun θ hθ => ((hm.iff θ).1 hθ).2, HMID.out.bd⟩⟩
          · skip
            go_simp
            have hbn : Below wc.heap.size wc (wc.alloc (.cells #[.int .i64 a'.n, .int .i64 b'.kind, .string b'.name, .int .i64 b'.n, (.slice gb' b'.args.length cb')] 33)).drew := (((Below.refl wc.heap.size wc).alloc (Nat.le_refl _) _).drew)
            refine hK.out _ _ (hbox.out _ hbn) (fun hHeld => ?_)
            clear hK K
            try simp only [Act.put, List.setIfInBounds_toArray, List.set_cons_zero, List.set_cons_succ, List.getElem_toArray, List.getElem_cons_zero, List.getElem_cons_succ]
            have hN0 : BRow (wc.alloc (.cells #[.int .i64 a'.n, .int .i64 b'.kind, .string b'.name, .int .i64 b'.n, (.slice gb' b'.args.length cb')] 33)) B wc.heap.size [⟨a'.n, b'⟩] (.slice (some ⟨wc.heap.size, 0, none⟩) 1 1) [.int .i64 a'.n, .int .i64 b'.kind, .string b'.name, .int .i64 b'.n, (.slice gb' b'.args.length cb')] := BRow.one (x := ⟨a'.n, b'⟩) rfl hBc HMID.out.inb
            have hN : BRow (wc.alloc (.cells #[.int .i64 a'.n, .int .i64 b'.kind, .string b'.name, .int .i64 b'.n, (.slice gb' b'.args.length cb')] 33)).drew B wc.heap.size [⟨a'.n, b'⟩] (.slice (some ⟨wc.heap.size, 0, none⟩) 1 1) [.int .i64 a'.n, .int .i64 b'.kind, .string b'.name, .int .i64 b'.n, (.slice gb' b'.args.length cb')] := hN0.next ((Below.refl _ _).drew) (by simp; omega)
            clear hN0
            have hsz : (wc.alloc (.cells #[.int .i64 a'.n, .int .i64 b'.kind, .string b'.name, .int .i64 b'.n, (.slice gb' b'.args.length cb')] 33)).drew.heap.size = wc.heap.size + 1 := by simp
            obtain ⟨V1, hV1⟩ : ∃ x, (wc.alloc (.cells #[.int .i64 a'.n, .int .i64 b'.kind, .string b'.name, .int .i64 b'.n, (.slice gb' b'.args.length cb')] 33)).drew = x := ⟨_, rfl⟩
            rw [hV1] at hbn hN hsz
            simp only [hV1] at hHeld ⊢
            clear hV1
            have HB1 := Lib.hid hbn
            have HZ1 := Lib.hid hsz
            have HN1 := Lib.hid hN
            clear hbn hsz hN
            refine wpAnyH_ready (rs := [0]) (by kernel_rfl) (by simp) ?_
            refine AllReadyH.cons (o := _) rfl (fun K hK => ?_) (AllReadyH.nil)
            go_simp
            have hbn : Below wc.heap.size wc (V1.alloc (.cells #[] 33)) := (HB1.out.alloc (by first | exact Nat.le_refl _ | (have := HB1.out.size; omega)) _)
            refine hK.out _ _ (hbox.out _ hbn) (fun hHeld => ?_)
            clear hK K
            try simp only [Act.put, List.setIfInBounds_toArray, List.set_cons_zero, List.set_cons_succ, List.getElem_toArray, List.getElem_cons_zero, List.getElem_cons_succ]
            have hE : BRow (V1.alloc (.cells #[] 33)) B wc.heap.size [] (.slice (some ⟨V1.heap.size, 0, none⟩) 0 0) [] := ⟨World.ownsRow_lit V1 #[] 0 (by first | exact Nat.le_refl _ | (have := HB1.out.size; omega)) (by decide) rfl, by simp [cellsB]⟩
            have hsz : (V1.alloc (.cells #[] 33)).heap.size = V1.heap.size + 1 := by simp
            have hal : Below V1.heap.size V1 (V1.alloc (.cells #[] 33)) := (Below.refl _ _).alloc (Nat.le_refl _) _
            obtain ⟨V2, hV2⟩ : ∃ x, (V1.alloc (.cells #[] 33)) = x := ⟨_, rfl⟩
            rw [hV2] at hbn hE hsz hal
            simp only [hV2] at hHeld ⊢
            clear hV2
            have HB2 := Lib.hid hbn
            have HZ2 := Lib.hid hsz
            have HE2 := Lib.hid hE
            have HN2 := Lib.hid (HN1.out.next hal (Nat.le_trans hBc HB1.out.size))
            clear hbn hsz hE hal
            refine wpAnyH_ready (rs := [2]) (by kernel_rfl) (by simp) ?_
            refine AllReadyH.cons (o := _) rfl (fun K hK => ?_) (AllReadyH.nil)
            refine step_append_bds (by rfl) _ _ (by rfl) B wc.heap.size (.slice (some ⟨V1.heap.size, 0, none⟩) 0 0) [] [] (by rfl) HE2.out l gl l.length cl (by rfl) rfl (bdsQ_src (bdsQ_far HQC.out HB2.out hBc)) (by simp; omega) HB2.out.size hBc ?_
            intro v2 V3 zs2 hrow2 hg2 hs2
            rw [List.nil_append] at hrow2
            have hbn : Below wc.heap.size wc V3 := HB2.out.grown hg2 HB2.out.size (fun k e => (HE2.out.row.lt k e).1)
            have HR3 := Lib.hid hrow2
            have hne : wc.heap.size ≠ V1.heap.size := by have := HZ1.out; omega
            have HN3 := Lib.hid (HN2.out.keep (fun b hlt => hg2.block b (by have := HB2.out.size; omega) (fun e => by have := (HE2.out.row.lt b e.symm).1; omega)) (fun b e => hg2.block b (HN2.out.row.lt b e).2 (fun e' => by have e1 : wc.heap.size = b := (by injection e); have e2 : b = V1.heap.size := (by injection e'); omega)))
            clear hne
            refine hK.out _ _ (hbox.out _ hbn) (fun hHeld => ?_)
            clear hK K
            try simp only [Act.put, List.setIfInBounds_toArray, List.set_cons_zero, List.set_cons_succ, List.getElem_toArray, List.getElem_cons_zero, List.getElem_cons_succ]
            have HB3 := Lib.hid hbn
            obtain ⟨g2, e2, rfl⟩ := HR3.out.slice
            clear hbn hrow2 hg2 hs2
            refine wpAnyH_ready (rs := [8]) (by kernel_rfl) (by simp) ?_
            refine AllReadyH.cons (o := _) rfl (fun K hK => ?_) (AllReadyH.nil)
            refine step_append_bds (by rfl) _ _ (by rfl) B wc.heap.size (.slice g2 l.length e2) l zs2 (by rfl) HR3.out [⟨a'.n, b'⟩] (some ⟨wc.heap.size, 0, none⟩) 1 1 (by rfl) rfl HN3.out.src (by simp; omega) HB3.out.size hBc ?_
            intro v3 V4 zs3 hrow3 hg3 hs3
            have hbn : Below wc.heap.size wc V4 := HB3.out.grown hg3 HB3.out.size (fun k e => (HR3.out.row.lt k e).1)
            have HF := Lib.hid hrow3
            refine hK.out _ _ (hbox.out _ hbn) (fun hHeld => ?_)
            clear hK K
            try simp only [Act.put, List.setIfInBounds_toArray, List.set_cons_zero, List.set_cons_succ, List.getElem_toArray, List.getElem_cons_zero, List.getElem_cons_succ]
            have HB4 := Lib.hid hbn
            clear hbn hrow3 hg3 hs3
            refine wpAnyH_ready (rs := [14]) (by kernel_rfl) (by simp) ?_
            refine AllReadyH.cons (o := _) rfl (fun K hK => ?_) (AllReadyH.nil)
            go_simp
            refine (occ_any l hlc σ HSO.out rk HRK.out a'.n HFR.out b' V4 _ _ (bdsQ_in (bdsQ_far HQC.out HB4.out hBc) (Nat.le_trans hBc HB4.out.size) (fun _ h => h.1)) (Tm.inn_mono (Tm.inn_below HMID.out.inb HB4.out hBc) (Nat.le_trans hBc HB4.out.size))).mono ?_
            rintro e V9 ⟨q, rfl, hq, hb9⟩
            have HB9 := Lib.hid (HB4.out.trans (hb9.mono HB4.out.size))
            have HF9 := Lib.hid (HF.out.next hb9 (Nat.le_trans hBc HB4.out.size))
            have HQ9 := Lib.hid hq
            clear hb9 hq HF
            go_wp2_with fail
            refine hK.out _ _ (hbox.out _ HB9.out) (fun hHeld => ?_)
            clear hK K
            try simp only [Act.put, List.setIfInBounds_toArray, List.set_cons_zero, List.set_cons_succ, List.getElem_toArray, List.getElem_cons_zero, List.getElem_cons_succ]
            refine wpAnyH_take (i := 15) (oi := _) (v := ?_) rfl (by kernel_rfl) (by kernel_rfl) (by kernel_rfl) (fun _ _ _ h => h) (Or.inl ⟨by rfl, ?_⟩) hHeld ?_
            rotate_left
            · (intro w hSw; obtain ⟨c0, c1, c2, c3, d0, d1, d2, d3, _⟩ := hSw; go_simp; try with_reducible rfl)
            try simp only [Act.put, List.setIfInBounds_toArray, List.set_cons_zero, List.set_cons_succ, List.getElem_toArray, List.getElem_cons_zero, List.getElem_cons_succ]
            refine wpAnyH_ready (rs := [16]) (by kernel_rfl) (by simp) ?_
            refine AllReadyH.cons (o := _) rfl (fun K hK => ?_) (AllReadyH.nil)
            go_simp
            refine hK.out _ _ (hHeld) (fun hHeld => ?_)
            clear hK K
            try simp only [Act.put, List.setIfInBounds_toArray, List.set_cons_zero, List.set_cons_succ, List.getElem_toArray, List.getElem_cons_zero, List.getElem_cons_succ]
            refine wpAnyH_ready (rs := [17]) (by kernel_rfl) (by simp) ?_
            refine AllReadyH.cons (o := _) rfl (fun K hK => ?_) (AllReadyH.nil)
            go_simp
            refine hK.out _ _ (hHeld) (fun hHeld => ?_)
            clear hK K
            try simp only [Act.put, List.setIfInBounds_toArray, List.set_cons_zero, List.set_cons_succ, List.getElem_toArray, List.getElem_cons_zero, List.getElem_cons_succ]
            refine wpAnyH_ready (rs := [18]) (by kernel_rfl) (by simp) ?_
            refine AllReadyH.cons (o := _) rfl (fun K hK => ?_) (AllReadyH.nil)
            go_simp
            refine hK.out _ _ (hHeld) (fun hHeld => ?_)
            clear hK K
            try simp only [Act.put, List.setIfInBounds_toArray, List.set_cons_zero, List.set_cons_succ, List.getElem_toArray, List.getElem_cons_zero, List.getElem_cons_succ]
            refine wpAnyH_done (by kernel_rfl) ?_ _
            clear hHeld
            go_wp2_with fail
            go_ret3
            cases q with
            | true => exact ⟨_, _, false, rfl, grown_below HMID.out.grown (HB9.out.mono (by have := HMID.out.size; omega)), .inl ⟨rfl, (none_occurs HL.out HSO.out HMID.out.wb HMID.out.wa HRB2.out HRA2.out HK.out HNE.out (HQ9.out.1 rfl)).comm⟩⟩
            | false =>
              have h : ¬ a'.n ∈ (b'.bnd σ).vs := fun h => by cases HQ9.out.2 h
              have hm : MguOf l a b (l ++ [⟨a'.n, b'⟩]) := (mgu_bind HL.out HSO.out HMID.out.wb HMID.out.wa HRB2.out HRA2.out HK.out h).comm
              exact ⟨_, _, true, rfl, grown_below HMID.out.grown (HB9.out.mono (by have := HMID.out.size; omega)), .inr ⟨rfl, l ++ [⟨a'.n, b'⟩], met1, hm, .inr (by simp), bdsQ_row HF9.out (fun k e => ⟨(HF9.out.row.lt k e).2, fun e' => by have := HSU.out k e'; have := (HF9.out.row.lt k e).1; omega, .inr (by have := (HF9.out.row.lt k e).1; have := HMID.out.size; omega)⟩) (by simp; omega) (fun x hx => (List.mem_append.1 hx).elim (fun hx => HBL.out.choose_spec.choose_spec.2.2.2.1 x hx) (fun hx => by rw [List.mem_singleton.1 hx]; exact hwfn)), ownMet_below HMID.out.own HB9.out, HMID.out.sep2, HMID.out.out fun θ hθ => ((hm.iff θ).1 hθ).2, HMID.out.bd⟩⟩
        · have hkab : (a'.kind == 1) = false := by simp [hka]
          by_cases h1 : a'.kind = b'.kind
          · by_cases h2 : a'.n = b'.n
            · by_cases h3 : a'.name = b'.name
              · have h3t : a'.name.toList = b'.name.toList := by rw [h3]
                by_cases h4 : a'.args.length = b'.args.length
                · have hstartL : ULoop ok l a' b' B lo 0 l met1 met1 (.slice gm met.length cm) (.slice gl l.length cl) u3 (.slice ga' a'.args.length ca') (.slice gb' b'.args.length cb') w wc :=
                    ⟨MguTo.start HL.out a' b', .inl rfl, grown_bds HMID.out.grown HMID.out.sep2 HBL.out hBlo HVM.out, HMID.out.own, HMID.out.bd, HMID.out.grown, HMID.out.sep, HMID.out.boxa, HMID.out.boxb, HMID.out.size, MetOut.refl _ _, HMID.out.ina, HMID.out.inb⟩
                  have hok : ∀ u ∈ a'.args, MetOK l u met1 := fun u hu => by
                    rcases HMID.out.eq with e | ⟨hka1, _, e⟩
                    · rw [e]; exact HM.out.arg HMID.out.wa hka hu
                    · rw [e]; exact HM.out.add HMID.out.wa hka1 _ hka hu
                  have HSL := Lib.hid hstartL
                  have HOK := Lib.hid hok
                  have HKA := Lib.hid hka
                  have HKB := Lib.hid hkb
                  have HE1 := Lib.hid h1
                  have HE2 := Lib.hid h2
                  have HE3 := Lib.hid h3
                  have hle : a'.args.length ≤ b'.args.length := by omega
                  have hge : b'.args.length ≤ a'.args.length := by omega
                  have HE4 := Lib.hid h4
                  clear hstartL hok
                  go_wp2_with fail
                  clear h1 h2 h3 h3t h4
                  go_loopw [0, 3, 12] (fun sl sm i wr => ∃ (k : Nat) (l1 : List Bd) (met2 : List (Int × Int)), k ≤ a'.args.length ∧ i = .int .i64 k ∧ Hid (ULoop ok l a' b' B lo k l1 met1 met2 (.slice gm met.length cm) sl sm (.slice ga' a'.args.length ca') (.slice gb' b'.args.length cb') w wr)) (fun _ _ i _ => a'.args.length - (intOf i).toNat)
                  case atStart => exact ⟨0, l, met1, Nat.zero_le _, rfl, HSL.out⟩
                  case round =>
                    obtain ⟨k, l1, met2, hk, rfl, hU⟩ := hrel
                    have HU := Lib.hid hU.out
                    clear hU
                    obtain ⟨⟨x0, x1, x2, x3⟩, _⟩ := row4 HU.out.boxa
                    obtain ⟨⟨y0, y1, y2, y3⟩, _⟩ := row4 HU.out.boxb
                    have hszr := HU.out.size
                    have hr0 : w.heap.size < wr.heap.size := by omega
                    have hr1 : w.heap.size + 1 < wr.heap.size := by omega
                    by_cases hlt : k < a'.args.length
                    · have hlt' : k < b'.args.length := by omega
                      obtain ⟨p, o, sva, hga, hpB, p0, p1, p2, p3, hx⟩ := Tm.sliceIn_get (Tm.inn_iff.1 HU.out.ina).2 k hlt
                      obtain ⟨p', o', svb, hgb, hpB', p0', p1', p2', p3', hy⟩ := Tm.sliceIn_get (Tm.inn_iff.1 HU.out.inb).2 k hlt'
                      subst hga hgb
                      obtain ⟨gx, cx, rfl⟩ := inn_sl hx
                      obtain ⟨gy, cy, rfl⟩ := inn_sl hy
                      have hmem := List.getElem_mem hlt
                      have hmem' := List.getElem_mem hlt'
                      have hcond : (l1 = l ∧ ∃ c, Walked l a c ∧ c.kind ≠ 1 ∧ a'.args[k] ∈ c.args) ∨ l.length < l1.length := by
                        rcases HU.out.len with e | e
                        · exact .inl ⟨e, _, HMID.out.wa, HKA.out, hmem⟩
                        · exact .inr e
                      have hc := HIH.out l1 a'.args[k] b'.args[k] HU.out.mgu.1 (right_arg HRA2.out hmem) (right_arg HRB2.out hmem') hcond met2 ((HOK.out _ hmem).next HU.out.out (fun θ hθ => ((HU.out.mgu.2 θ).1 hθ).1)) HU.out.bd wr.drew u0 _ _ u3 (by show lo ≤ wr.heap.size; omega)
                        HU.out.drew.bds (Tm.inn_below hx (n₀ := wr.heap.size + B) ((Below.refl _ _).drew) (by omega)) (Tm.inn_below hy (n₀ := wr.heap.size + B) ((Below.refl _ _).drew) (by omega)) HU.out.drew.own
                      have HC := Lib.hid hc
                      clear hx hy hmem hmem' hcond hc
                      have hu : U21 w.heap.size p (o + k * 4) p' (o' + k * 4) (.slice (some ⟨p, o, none⟩) a'.args.length ca') (.slice (some ⟨p', o', none⟩) b'.args.length cb') (.int .i64 a'.args[k].kind) (.string a'.args[k].name) (.int .i64 a'.args[k].n) (.slice gx a'.args[k].args.length cx) (.int .i64 b'.args[k].kind) (.string b'.args[k].name) (.int .i64 b'.args[k].n) (.slice gy b'.args[k].args.length cy) wr.drew := ⟨x3, y3, p0, p1, p2, p3, p0', p1', p2', p3'⟩
                      have hnb : ∀ j, u3.ownBlock = some j → j ≠ w.heap.size ∧ j ≠ w.heap.size + 1 ∧ j ≠ p ∧ j ≠ p' := fun j e => by
                        rcases HU.out.sep with h' | h'
                        · have := HVM.out j (by rw [← h', e])
                          omega
                        · have := h' j e
                          omega
                      have HNB := Lib.hid hnb
                      have HLT := Lib.hid hlt
                      obtain ⟨_, _, _, _, _, hal9, _⟩ := Tm.inn_iff.1 HU.out.ina
                      have HAL9 := Lib.hid hal9
                      clear hal9
                      have hpl : p < wr.heap.size := by omega
                      have hpl' : p' < wr.heap.size := by omega
                      clear hnb
                      go_wp2_with fail
                      refine wp_region_held_drew (S := fun W' => W'.cell? ⟨w.heap.size, 3, none⟩ = some (.slice (some ⟨p, o, none⟩) a'.args.length ca') ∧ W'.cell? ⟨w.heap.size + 1, 3, none⟩ = some (.slice (some ⟨p', o', none⟩) b'.args.length cb') ∧ W'.cell? ⟨p, o + k * 4, none⟩ = some (.int .i64 a'.args[k].kind) ∧ W'.cell? ⟨p, o + k * 4 + 1, none⟩ = some (.string a'.args[k].name) ∧ W'.cell? ⟨p, o + k * 4 + 2, none⟩ = some (.int .i64 a'.args[k].n) ∧ W'.cell? ⟨p, o + k * 4 + 3, none⟩ = some (.slice gx a'.args[k].args.length cx) ∧ W'.cell? ⟨p', o' + k * 4, none⟩ = some (.int .i64 b'.args[k].kind) ∧ W'.cell? ⟨p', o' + k * 4 + 1, none⟩ = some (.string b'.args[k].name) ∧ W'.cell? ⟨p', o' + k * 4 + 2, none⟩ = some (.int .i64 b'.args[k].n) ∧ W'.cell? ⟨p', o' + k * 4 + 3, none⟩ = some (.slice gy b'.args[k].args.length cy)) (by kernel_rfl) hu (fun hHeld => ?_)
                      clear hu x0 x1 x2 x3 y0 y1 y2 y3 p0 p1 p2 p3 p0' p1' p2' p3'
                      refine wpAnyH_take (i := 0) (oi := _) (v := ?_) rfl (by kernel_rfl) (by kernel_rfl) (by kernel_rfl) (fun _ _ _ h => h) (Or.inl ⟨by rfl, ?_⟩) hHeld ?_
                      rotate_left
                      · (intro w hSw; obtain ⟨c0, c1, d0, d1, d2, d3, e0, e1, e2, e3⟩ := hSw; go_simp; try with_reducible rfl)
                      try simp only [Act.put, List.setIfInBounds_toArray, List.set_cons_zero, List.set_cons_succ, List.getElem_toArray, List.getElem_cons_zero]
                      refine wpAnyH_take (i := 1) (oi := _) (v := ?_) rfl (by kernel_rfl) (by kernel_rfl) (by kernel_rfl) (fun _ _ _ h => h) (Or.inl ⟨by rfl, ?_⟩) hHeld ?_
                      rotate_left
                      · (intro w hSw; obtain ⟨c0, c1, d0, d1, d2, d3, e0, e1, e2, e3⟩ := hSw; go_simp; try with_reducible rfl)
                      try simp only [Act.put, List.setIfInBounds_toArray, List.set_cons_zero, List.set_cons_succ, List.getElem_toArray, List.getElem_cons_zero, List.getElem_cons_succ]
                      refine wpAnyH_take (i := 2) (oi := _) (v := ?_) rfl (by kernel_rfl) (by kernel_rfl) (by kernel_rfl) (fun _ _ _ h => h) (Or.inl ⟨by rfl, ?_⟩) hHeld ?_
                      rotate_left
                      · (intro w hSw; obtain ⟨c0, c1, d0, d1, d2, d3, e0, e1, e2, e3⟩ := hSw; go_simp; try with_reducible rfl)
                      try simp only [Act.put, List.setIfInBounds_toArray, List.set_cons_zero, List.set_cons_succ, List.getElem_toArray, List.getElem_cons_zero, List.getElem_cons_succ]
                      refine wpAnyH_take (i := 3) (oi := _) (v := ?_) rfl (by kernel_rfl) (by kernel_rfl) (by kernel_rfl) (fun _ _ _ h => h) (Or.inl ⟨by rfl, ?_⟩) hHeld ?_
                      rotate_left
                      · (intro w hSw; obtain ⟨c0, c1, d0, d1, d2, d3, e0, e1, e2, e3⟩ := hSw; go_simp; try with_reducible rfl)
                      try simp only [Act.put, List.setIfInBounds_toArray, List.set_cons_zero, List.set_cons_succ, List.getElem_toArray, List.getElem_cons_zero, List.getElem_cons_succ]
                      refine wpAnyH_take (i := 4) (oi := _) (v := ?_) rfl (by kernel_rfl) (by kernel_rfl) (by kernel_rfl) (fun _ _ _ h => h) (Or.inl ⟨by rfl, ?_⟩) hHeld ?_
                      rotate_left
                      · (intro w hSw; obtain ⟨c0, c1, d0, d1, d2, d3, e0, e1, e2, e3⟩ := hSw; go_simp; try with_reducible rfl)
                      try simp only [Act.put, List.setIfInBounds_toArray, List.set_cons_zero, List.set_cons_succ, List.getElem_toArray, List.getElem_cons_zero, List.getElem_cons_succ]
                      refine wpAnyH_take (i := 5) (oi := _) (v := ?_) rfl (by kernel_rfl) (by kernel_rfl) (by kernel_rfl) (fun _ _ _ h => h) (Or.inl ⟨by rfl, ?_⟩) hHeld ?_
                      rotate_left
                      · (intro w hSw; obtain ⟨c0, c1, d0, d1, d2, d3, e0, e1, e2, e3⟩ := hSw; go_simp; try with_reducible rfl)
                      try simp only [Act.put, List.setIfInBounds_toArray, List.set_cons_zero, List.set_cons_succ, List.getElem_toArray, List.getElem_cons_zero, List.getElem_cons_succ]
                      refine wpAnyH_take (i := 6) (oi := _) (v := ?_) rfl (by kernel_rfl) (by kernel_rfl) (by kernel_rfl) (fun _ _ _ h => h) (Or.inl ⟨by rfl, ?_⟩) hHeld ?_
                      rotate_left
                      · (intro w hSw; obtain ⟨c0, c1, d0, d1, d2, d3, e0, e1, e2, e3⟩ := hSw; go_simp; try with_reducible rfl)
                      try simp only [Act.put, List.setIfInBounds_toArray, List.set_cons_zero, List.set_cons_succ, List.getElem_toArray, List.getElem_cons_zero, List.getElem_cons_succ]
                      refine wpAnyH_take (i := 7) (oi := _) (v := ?_) rfl (by kernel_rfl) (by kernel_rfl) (by kernel_rfl) (fun _ _ _ h => h) (Or.inl ⟨by rfl, ?_⟩) hHeld ?_
                      rotate_left
                      · (intro w hSw; obtain ⟨c0, c1, d0, d1, d2, d3, e0, e1, e2, e3⟩ := hSw; go_simp; try with_reducible rfl)
                      try simp only [Act.put, List.setIfInBounds_toArray, List.set_cons_zero, List.set_cons_succ, List.getElem_toArray, List.getElem_cons_zero, List.getElem_cons_succ]
                      refine wpAnyH_take (i := 8) (oi := _) (v := ?_) rfl (by kernel_rfl) (by kernel_rfl) (by kernel_rfl) (fun _ _ _ h => h) (Or.inl ⟨by rfl, ?_⟩) hHeld ?_
                      rotate_left
                      · (intro w hSw; obtain ⟨c0, c1, d0, d1, d2, d3, e0, e1, e2, e3⟩ := hSw; go_simp; try with_reducible rfl)
                      try simp only [Act.put, List.setIfInBounds_toArray, List.set_cons_zero, List.set_cons_succ, List.getElem_toArray, List.getElem_cons_zero, List.getElem_cons_succ]
                      refine wpAnyH_take (i := 9) (oi := _) (v := ?_) rfl (by kernel_rfl) (by kernel_rfl) (by kernel_rfl) (fun _ _ _ h => h) (Or.inl ⟨by rfl, ?_⟩) hHeld ?_
                      rotate_left
                      · (intro w hSw; obtain ⟨c0, c1, d0, d1, d2, d3, e0, e1, e2, e3⟩ := hSw; go_simp; try with_reducible rfl)
                      try simp only [Act.put, List.setIfInBounds_toArray, List.set_cons_zero, List.set_cons_succ, List.getElem_toArray, List.getElem_cons_zero, List.getElem_cons_succ]
                      refine wpAnyH_take (i := 10) (oi := _) (v := ?_) rfl (by kernel_rfl) (by kernel_rfl) (by kernel_rfl) (fun _ _ _ h => h) (Or.inl ⟨by rfl, ?_⟩) hHeld ?_
                      rotate_left
                      · (intro w hSw; obtain ⟨c0, c1, d0, d1, d2, d3, e0, e1, e2, e3⟩ := hSw; go_simp; try with_reducible rfl)
                      try simp only [Act.put, List.setIfInBounds_toArray, List.set_cons_zero, List.set_cons_succ, List.getElem_toArray, List.getElem_cons_zero, List.getElem_cons_succ]
                      refine wpAnyH_take (i := 11) (oi := _) (v := ?_) rfl (by kernel_rfl) (by kernel_rfl) (by kernel_rfl) (fun _ _ _ h => h) (Or.inl ⟨by rfl, ?_⟩) hHeld ?_
                      rotate_left
                      · (intro w hSw; obtain ⟨c0, c1, d0, d1, d2, d3, e0, e1, e2, e3⟩ := hSw; go_simp; try with_reducible rfl)
                      try simp only [Act.put, List.setIfInBounds_toArray, List.set_cons_zero, List.set_cons_succ, List.getElem_toArray, List.getElem_cons_zero, List.getElem_cons_succ]
                      refine wpAnyH_ready (rs := [12]) (by kernel_rfl) (by simp) ?_
                      refine AllReadyH.cons (o := _) rfl (fun K hK => ?_) (AllReadyH.nil)
                      go_simp
                      refine HC.out.mono ?_
                      rintro e w5 ⟨svl5, vm5, ok5, rfl, hg5, hcase⟩
                      have HUU := Lib.hid (U21.grown (show U21 w.heap.size p (o + k * 4) p' (o' + k * 4) (.slice (some ⟨p, o, none⟩) a'.args.length ca') (.slice (some ⟨p', o', none⟩) b'.args.length cb') (.int .i64 a'.args[k].kind) (.string a'.args[k].name) (.int .i64 a'.args[k].n) (.slice gx a'.args[k].args.length cx) (.int .i64 b'.args[k].kind) (.string b'.args[k].name) (.int .i64 b'.args[k].n) (.slice gy b'.args[k].args.length cy) wr.drew from hHeld) hg5 HNB.out)
                      have HG5 := Lib.hid hg5
                      have HCA := Lib.hid hcase
                      clear hg5 hcase hHeld HC
                      go_wp2_with fail
                      refine hK.out _ _ (HUU.out) (fun hHeld => ?_)
                      clear hK K
                      try simp only [Act.put, List.setIfInBounds_toArray, List.set_cons_zero, List.set_cons_succ, List.getElem_toArray, List.getElem_cons_zero, List.getElem_cons_succ]
                      refine wpAnyH_take (i := 13) (oi := _) (v := ?_) rfl (by kernel_rfl) (by kernel_rfl) (by kernel_rfl) (fun _ _ _ h => h) (Or.inl ⟨by rfl, ?_⟩) hHeld ?_
                      rotate_left
                      · (intro w hSw; obtain ⟨c0, c1, d0, d1, d2, d3, e0, e1, e2, e3⟩ := hSw; go_simp; try with_reducible rfl)
                      try simp only [Act.put, List.setIfInBounds_toArray, List.set_cons_zero, List.set_cons_succ, List.getElem_toArray, List.getElem_cons_zero, List.getElem_cons_succ]
                      refine wpAnyH_take (i := 14) (oi := _) (v := ?_) rfl (by kernel_rfl) (by kernel_rfl) (by kernel_rfl) (fun _ _ _ h => h) (Or.inl ⟨by rfl, ?_⟩) hHeld ?_
                      rotate_left
                      · (intro w hSw; obtain ⟨c0, c1, d0, d1, d2, d3, e0, e1, e2, e3⟩ := hSw; go_simp; try with_reducible rfl)
                      try simp only [Act.put, List.setIfInBounds_toArray, List.set_cons_zero, List.set_cons_succ, List.getElem_toArray, List.getElem_cons_zero, List.getElem_cons_succ]
                      refine wpAnyH_take (i := 15) (oi := _) (v := ?_) rfl (by kernel_rfl) (by kernel_rfl) (by kernel_rfl) (fun _ _ _ h => h) (Or.inl ⟨by rfl, ?_⟩) hHeld ?_
                      rotate_left
                      · (intro w hSw; obtain ⟨c0, c1, d0, d1, d2, d3, e0, e1, e2, e3⟩ := hSw; go_simp; try with_reducible rfl)
                      try simp only [Act.put, List.setIfInBounds_toArray, List.set_cons_zero, List.set_cons_succ, List.getElem_toArray, List.getElem_cons_zero, List.getElem_cons_succ]
                      refine wpAnyH_take (i := 16) (oi := _) (v := ?_) rfl (by kernel_rfl) (by kernel_rfl) (by kernel_rfl) (fun _ _ _ h => h) (Or.inl ⟨by rfl, ?_⟩) hHeld ?_
                      rotate_left
                      · (intro w hSw; obtain ⟨c0, c1, d0, d1, d2, d3, e0, e1, e2, e3⟩ := hSw; go_simp; try with_reducible rfl)
                      try simp only [Act.put, List.setIfInBounds_toArray, List.set_cons_zero, List.set_cons_succ, List.getElem_toArray, List.getElem_cons_zero, List.getElem_cons_succ]
                      refine wpAnyH_ready (rs := [17]) (by kernel_rfl) (by simp) ?_
                      refine AllReadyH.cons (o := _) rfl (fun K hK => ?_) (AllReadyH.nil)
                      go_simp
                      refine hK.out _ _ (hHeld) (fun hHeld => ?_)
                      clear hK K
                      try simp only [Act.put, List.setIfInBounds_toArray, List.set_cons_zero, List.set_cons_succ, List.getElem_toArray, List.getElem_cons_zero, List.getElem_cons_succ]
                      refine wpAnyH_ready (rs := [18]) (by kernel_rfl) (by simp) ?_
                      refine AllReadyH.cons (o := _) rfl (fun K hK => ?_) (AllReadyH.nil)
                      go_simp
                      refine hK.out _ _ (hHeld) (fun hHeld => ?_)
                      clear hK K
                      try simp only [Act.put, List.setIfInBounds_toArray, List.set_cons_zero, List.set_cons_succ, List.getElem_toArray, List.getElem_cons_zero, List.getElem_cons_succ]
                      refine wpAnyH_ready (rs := [19]) (by kernel_rfl) (by simp) ?_
                      refine AllReadyH.cons (o := _) rfl (fun K hK => ?_) (AllReadyH.nil)
                      go_simp
                      refine hK.out _ _ (hHeld) (fun hHeld => ?_)
                      clear hK K
                      try simp only [Act.put, List.setIfInBounds_toArray, List.set_cons_zero, List.set_cons_succ, List.getElem_toArray, List.getElem_cons_zero, List.getElem_cons_succ]
                      refine wpAnyH_done (by kernel_rfl) ?_ _
                      clear hHeld HUU
                      have hg5 := HG5.out
                      have hcase := HCA.out
                      clear HG5 HCA
                      cases ok5 with
                        | false =>
                          have hno : NoMgu l1 a'.args[k] b'.args[k] := by
                            rcases hcase with ⟨_, h⟩ | ⟨h, _⟩
                            · exact h
                            · cases h
                          have hgw : w.grownBy w5 (Value.slice gm met.length cm).ownBlock := grown_trans HU.out.drew.grown hg5 (fun k e => by
                            rcases HU.out.sep with h' | h'
                            · exact .inl (e.trans h')
                            · have := h' k e.symm
                              exact .inr (by omega))
                          have HNO := Lib.hid hno
                          have HGW := Lib.hid hgw
                          clear hno hgw hcase hg5
                          go_wp2_with fail
                          go_ret3
                          exact ⟨_, _, false, rfl, HGW.out, .inl ⟨rfl, HU.out.mgu.none HMID.out.wa HMID.out.wb HKA.out HKB.out hlt hlt' HNO.out⟩⟩
                        | true =>
                          obtain ⟨l5, met5, hm5, hlen5, hbds5, hown5, hsep5, hout5, hbd5⟩ : ∃ l' met', MguOf l1 a'.args[k] b'.args[k] l' ∧ (l' = l1 ∨ l1.length < l'.length) ∧ bdsQ w5 B (away ok lo w5 vm5) l' svl5 ∧ ownMet w5 lo vm5 met' ∧ (vm5.ownBlock = u3.ownBlock ∨ ∀ k, vm5.ownBlock = some k → wr.drew.heap.size ≤ k) ∧ MetOut l' met2 met' ∧ MetBd met' := by
                            rcases hcase with ⟨h, _⟩ | ⟨_, h⟩
                            · cases h
                            · exact h
                          have hnext := HU.out.drew.next hBlo hlo HVM.out hlt hlt' hm5 hlen5 hbds5 hown5 hbd5 hg5 hsep5 hout5
                          have HNX := Lib.hid hnext
                          clear hnext hm5 hlen5 hbds5 hown5 hsep5 hout5 hbd5 hcase hg5
                          have hal9 := HAL9.out
                          have hlt9 : k < a'.args.length := HLT.out
                          go_wp2_with fail
                          go_roundw
                          case rel => exact ⟨k + 1, l5, met5, HLT.out, by go_num, HNX.out⟩
                          case measure => have hlt9 : k < a'.args.length := HLT.out; simp [intOf]; omega
                    · obtain rfl : k = a'.args.length := by omega
                      have hmg := HU.out.mgu.done HMID.out.wa HMID.out.wb HKA.out HKB.out HE1.out HE3.out HE2.out HE4.out
                      have hmo : MetOut l1 met met2 := (HMID.out.out (l' := l1) (fun θ hθ => ((hmg.iff θ).1 hθ).2)).trans HU.out.out (fun _ h => h)
                      have HMG := Lib.hid hmg
                      have HMO := Lib.hid hmo
                      clear hmg hmo
                      go_wp2_with fail
                      go_ret3
                      exact ⟨_, _, true, rfl, HU.out.grown, .inr ⟨rfl, l1, met2, HMG.out, HU.out.len, HU.out.bds, HU.out.own, HU.out.sep.imp id (fun h k e => by have := h k e; omega), HMO.out, HU.out.bd⟩⟩
                · have hno := Lib.hid (none_heads HMID.out.wa HMID.out.wb hka hkb fun h => h4 h.2.2.2)
                  have h4i : ¬ ((a'.args.length : Int) = b'.args.length) := by omega
                  go_wp2_with fail
                  go_ret3
                  exact HMID.out.fails hno.out
              · have hno := Lib.hid (none_heads HMID.out.wa HMID.out.wb hka hkb fun h => h3 h.2.1)
                have h3t := neS h3
                go_wp2_with fail
                go_ret3
                exact HMID.out.fails hno.out
            · have hno := Lib.hid (none_heads HMID.out.wa HMID.out.wb hka hkb fun h => h2 h.2.2.1)
              go_wp2_with fail
              go_ret3
              exact HMID.out.fails hno.out
          · have hno := Lib.hid (none_heads HMID.out.wa HMID.out.wb hka hkb fun h => h1 h.1)
            go_wp2_with fail
            go_ret3
            exact HMID.out.fails hno.out
end Go.Proofs.Ytgnbjhiafjpokaa
