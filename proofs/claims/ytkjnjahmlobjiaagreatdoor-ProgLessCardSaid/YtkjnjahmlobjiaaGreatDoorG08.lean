/-
  The document's fair.
  The document's count.
  The program's count of goals against the document's, purely.
  The program's Vars, with one word more: the row that it answers lies in new memory.
  The program's predicateOf, is, isPermitted, isEmpty, isNoTerm; what a checker asks of a term.
-/
import Derived.Test.YtkjnjahmlobjiaaGreatDoorG07
import Derived.Test.YtkjnjahmlobjiaaGreatDoorG02
namespace Go.Proofs.YtkjnjahmlobjiaaGreatDoor
open Go.RowKit

/-- A goal in a box of the call's own. -/
structure DGl (w0 : World) (g : Gl) (sv av bv cv : Value) (bx : Nat) (W : World) : Prop where
  low : Below w0.heap.size w0 W
  bk : W.heap[bx]? = some (.cells #[.int .i64 g.kind, .int .i64 g.t.kind, .string g.t.name, .int .i64 g.t.n, sv, av, bv, cv] 49 (0, 0))
  hi : Gl.inn W W.heap.size g sv av bv cv
theorem DGl.lt {w0 : World} {g : Gl} {sv av bv cv : Value} {bx : Nat} {W : World} (h : DGl w0 g sv av bv cv bx W) : bx < W.heap.size := (Array.getElem?_eq_some_iff.1 h.bk).1
theorem dgl_next {W W' : World} {g : Gl} {sv av bv cv : Value} (h : Gl.inn W W.heap.size g sv av bv cv) (hb : Below W.heap.size W W') : Gl.inn W' W'.heap.size g sv av bv cv := Gl.inn_mono (Gl.inn_below h hb (Nat.le_refl _)) hb.size
theorem DGl.next {w0 : World} {g : Gl} {sv av bv cv : Value} {bx : Nat} {W W' : World} (h : DGl w0 g sv av bv cv bx W) (hb : Below W.heap.size W W') : DGl w0 g sv av bv cv bx W' :=
  ⟨h.low.trans (hb.mono h.low.size), (hb.block _ h.lt).trans h.bk, dgl_next h.hi hb⟩
theorem DGl.new {g : Gl} {sv av bv cv : Value} {w : World} (hi : Gl.inn w w.heap.size g sv av bv cv) : DGl w g sv av bv cv w.heap.size (w.alloc (.cells #[.int .i64 g.kind, .int .i64 g.t.kind, .string g.t.name, .int .i64 g.t.n, sv, av, bv, cv] 49)) := by
  have hb := (Below.refl w.heap.size w).alloc (Nat.le_refl _) (.cells #[.int .i64 g.kind, .int .i64 g.t.kind, .string g.t.name, .int .i64 g.t.n, sv, av, bv, cv] 49)
  exact ⟨hb, heap_alloc_new w _, dgl_next hi hb⟩
section
variable {w0 : World} {g : Gl} {sv av bv cv : Value} {bx : Nat} {W : World} (h : DGl w0 g sv av bv cv bx W)
include h
theorem DGl.cell0 : W.cell? ⟨bx, 0, none⟩ = some (.int .i64 g.kind) := by simp [World.cell?, h.bk]
theorem DGl.cell1 : W.cell? ⟨bx, 1, none⟩ = some (.int .i64 g.t.kind) := by simp [World.cell?, h.bk]
theorem DGl.cell3 : W.cell? ⟨bx, 3, none⟩ = some (.int .i64 g.t.n) := by simp [World.cell?, h.bk]
end
end Go.Proofs.YtkjnjahmlobjiaaGreatDoor

namespace Go.Proofs.YtkjnjahmlobjiaaGreatDoor
open Go.RowKit

theorem cntG_is (g : Gl) (n deep : Int) (cuts : Bool) : cntG g n deep cuts = if fairG g n = false ∨ (g.kind = 3 ∧ cuts = false) then -1 else if cntL g.a n (deep + 1) false < 0 ∨ cntL g.b n (deep + 1) cuts < 0 ∨ cntL g.c n (deep + 1) cuts < 0 then -1 else 1 + cntL g.a n (deep + 1) false + cntL g.b n (deep + 1) cuts + cntL g.c n (deep + 1) cuts := by
  cases g
  rw [cntG]
  rfl
theorem cntL_is (l : List Gl) (n deep : Int) (cuts : Bool) (h : l = [] ∨ deep ≤ 10) : cntL l n deep cuts = cntS l n deep cuts := by
  cases l with
  | nil => rw [cntL, cntS]
  | cons g r =>
    have h2 : ¬ 10 < deep := by
      rcases h with h | h
      · cases h
      · omega
    rw [cntL, cntS, if_neg h2]
theorem cntL_deep {l : List Gl} (n : Int) {deep : Int} (cuts : Bool) (h : l ≠ []) (hd : 10 < deep) : cntL l n deep cuts = -1 := by
  cases l with
  | nil => exact absurd rfl h
  | cons g r => rw [cntL, if_pos hd]
theorem cntS_bad {l : List Gl} {g : Gl} {n deep : Int} {cuts : Bool} (hg : g ∈ l) (h : cntG g n deep cuts < 0) : cntS l n deep cuts = -1 := by
  induction l with
  | nil => cases hg
  | cons u r ih =>
    rw [cntS]
    rcases List.mem_cons.1 hg with rfl | hg
    · rw [if_pos h]
    · have := ih hg
      split
      · rfl
      · rw [if_pos (by omega)]
theorem cntS_snoc (l : List Gl) (g : Gl) (n deep : Int) (cuts : Bool) (h : 0 ≤ cntS l n deep cuts) (hg : 0 ≤ cntG g n deep cuts) : cntS (l ++ [g]) n deep cuts = cntS l n deep cuts + cntG g n deep cuts := by
  induction l with
  | nil =>
    have e : cntS [] n deep cuts = 0 := by rw [cntS]
    have h2 : cntS [g] n deep cuts = if cntG g n deep cuts < 0 then -1 else if cntS [] n deep cuts < 0 then -1 else cntG g n deep cuts + cntS [] n deep cuts := by
      conv => lhs; rw [cntS]
    rw [List.nil_append, h2, if_neg (by omega), if_neg (by omega)]
    omega
  | cons u r ih =>
    rw [cntS] at h
    by_cases h1 : cntG u n deep cuts < 0
    · rw [if_pos h1] at h; omega
    rw [if_neg h1] at h
    by_cases h2 : cntS r n deep cuts < 0
    · rw [if_pos h2] at h; omega
    have h3 := ih (by omega)
    rw [List.cons_append, cntS, if_neg h1, h3, if_neg (by omega), cntS, if_neg h1, if_neg h2]
    omega
mutual
theorem cntG_rng : ∀ (g : Gl) (n deep : Int) (cuts : Bool), -1 ≤ cntG g n deep cuts ∧ cntG g n deep cuts ≤ g.size
  | .mk k t a b c, n, deep, cuts => by
    have h1 := cntL_rng a n (deep + 1) false
    have h2 := cntL_rng b n (deep + 1) cuts
    have h3 := cntL_rng c n (deep + 1) cuts
    rw [cntG, Gl.size]
    split
    · omega
    · split <;> omega
theorem cntL_rng : ∀ (l : List Gl) (n deep : Int) (cuts : Bool), -1 ≤ cntL l n deep cuts ∧ cntL l n deep cuts ≤ Gl.sizes l
  | [], n, deep, cuts => by rw [cntL, Gl.sizes]; omega
  | g :: r, n, deep, cuts => by
    have h1 := cntG_rng g n deep cuts
    have h2 := cntS_rng r n deep cuts
    rw [cntL, Gl.sizes]
    split
    · omega
    · split
      · omega
      · split <;> omega
theorem cntS_rng : ∀ (l : List Gl) (n deep : Int) (cuts : Bool), -1 ≤ cntS l n deep cuts ∧ cntS l n deep cuts ≤ Gl.sizes l
  | [], n, deep, cuts => by rw [cntS, Gl.sizes]; omega
  | g :: r, n, deep, cuts => by
    have h1 := cntG_rng g n deep cuts
    have h2 := cntS_rng r n deep cuts
    rw [cntS, Gl.sizes]
    split
    · omega
    · split <;> omega
end
end Go.Proofs.YtkjnjahmlobjiaaGreatDoor

namespace Go.Proofs.YtkjnjahmlobjiaaGreatDoor

/-- So many goals, behind so many, are not too many. -/
def okC (x b : Int) : Bool := decide (0 ≤ x) && decide (b + x ≤ 20)
theorem okC_true {x b : Int} : okC x b = true ↔ 0 ≤ x ∧ b + x ≤ 20 := by simp [okC]
theorem okC_false {x b : Int} : okC x b = false ↔ ¬ (0 ≤ x ∧ b + x ≤ 20) := by rw [← okC_true]; simp
def noneG (g : Gl) : Bool := [g.a.length, g.b.length, g.c.length].all (fun x => decide (x = 0))
def noneB (g : Gl) : Bool := [g.b.length, g.c.length].all (fun x => decide (x = 0))
theorem isE {α : Type} (l : List α) : l.isEmpty = decide (l.length = 0) := by cases l <;> simp
theorem noneG_is (g : Gl) : (g.a.isEmpty && (g.b.isEmpty && g.c.isEmpty)) = noneG g := by
  rw [isE, isE, isE, noneG]
  simp
theorem noneB_is (g : Gl) : (g.b.isEmpty && g.c.isEmpty) = noneB g := by
  rw [isE, isE, noneB]
  simp
theorem noneG_nil {g : Gl} (h : noneG g = true) : g.a = [] ∧ g.b = [] ∧ g.c = [] := by
  simpa [noneG] using h
theorem noneB_nil {g : Gl} (h : noneB g = true) : g.b = [] ∧ g.c = [] := by
  simpa [noneB] using h
theorem cntL_nil (n deep : Int) (cuts : Bool) : cntL [] n deep cuts = 0 := by rw [cntL]
theorem fairG_is (g : Gl) (n : Int) : fairG g n = if g.kind = 1 then noneG g && (ownB g.t && varsB g.t n) else if g.kind = 2 then noneG g && (decide (g.t.kind = 3) && (bltn (bsN g.t.name) g.t.args.length && varsB g.t n)) else if g.kind = 3 then noneG g && g.t.same zT else g.t.same zT && (decide (g.kind = 4) || (decide (g.kind = 5) && noneB g)) := by
  rw [← noneG_is, ← noneB_is]
  rfl
/-- A goal without goals in it. -/
theorem cntG_one {g : Gl} {n deep : Int} {cuts : Bool} (h : noneG g = true) : cntG g n deep cuts = if fairG g n = false ∨ (g.kind = 3 ∧ cuts = false) then -1 else 1 := by
  obtain ⟨h1, h2, h3⟩ := noneG_nil h
  rw [cntG_is, h1, h2, h3, cntL_nil, cntL_nil]
  split
  · rfl
  · simp
theorem okG_call {g : Gl} {n deep b : Int} {cuts : Bool} (hk : g.kind = 1) (hb : b + 1 ≤ 20) : okC (cntG g n deep cuts) b = ((ownB g.t && varsB g.t n) && noneG g) ∧ (okC (cntG g n deep cuts) b = true → cntG g n deep cuts = 1) := by
  have hf := fairG_is g n
  rw [if_pos hk] at hf
  cases hn : noneG g with
  | false =>
    have : cntG g n deep cuts = -1 := by rw [cntG_is, if_pos (.inl (by rw [hf, hn, Bool.false_and]))]
    rw [this]
    exact ⟨by rw [Bool.and_false]; rfl, fun h => by cases h⟩
  | true =>
    rw [hn, Bool.true_and] at hf
    rw [cntG_one hn, Bool.and_true, ← hf]
    cases fairG g n with
    | false => exact ⟨by rw [if_pos (.inl rfl)]; rfl, fun h => by rw [if_pos (.inl rfl)] at h; cases h⟩
    | true =>
      rw [if_neg (fun e => e.elim (fun e => by cases e) (fun e => by have := e.1; omega))]
      exact ⟨okC_true.2 (by omega), fun _ => rfl⟩
theorem bltn_nil (n : Int) : bltn [] n = false := by
  unfold bltn
  split
  · rfl
  · split
    · rfl
    · split
      · rfl
      · split <;> rfl
theorem blt_fun {t : Tm} (hr : t.right = true) (hb : bltn (bsN t.name) t.args.length = true) : t.kind = 3 := by
  cases t with
  | mk k s n l =>
    simp only [Tm.right, Tm.fair, Bool.and_eq_true] at hr
    have ha := hr.1.1.2
    have hn : ∀ h : s.toList = [], False := fun h => by
      have e : bsN s = [] := by rw [← bsN_toList]; exact h
      have hb : bltn (bsN s) l.length = true := hb
      rw [e, bltn_nil] at hb
      cases hb
    show k = 3
    unfold Tm.alone at ha
    by_cases h1 : k = 1
    · rw [if_pos h1] at ha
      simp only [Bool.and_eq_true, decide_eq_true_eq] at ha
      exact (hn ha.1.2).elim
    · rw [if_neg h1] at ha
      by_cases h2 : k = 2
      · rw [if_pos h2] at ha
        simp only [Bool.and_eq_true, decide_eq_true_eq] at ha
        exact (hn ha.1).elim
      · rw [if_neg h2] at ha
        by_cases h3 : k = 3
        · exact h3
        · rw [if_neg h3] at ha; cases ha
theorem okG_does {g : Gl} {n deep b : Int} {cuts : Bool} (hk : g.kind = 2) (hb : b + 1 ≤ 20) : okC (cntG g n deep cuts) b = ((bltn (bsN g.t.name) g.t.args.length && varsB g.t n) && noneG g) ∧ (okC (cntG g n deep cuts) b = true → cntG g n deep cuts = 1) := by
  have hf := fairG_is g n
  rw [if_neg (by omega), if_pos hk] at hf
  have hx : (decide (g.t.kind = 3) && (bltn (bsN g.t.name) g.t.args.length && varsB g.t n)) = (bltn (bsN g.t.name) g.t.args.length && varsB g.t n) := by
    cases h1 : bltn (bsN g.t.name) g.t.args.length with
    | false => simp
    | true =>
      cases h2 : varsB g.t n with
      | false => simp
      | true =>
        have h3 : g.t.right = true := by
          unfold varsB at h2
          simp only [Bool.and_eq_true] at h2
          exact h2.2
        rw [decide_eq_true (blt_fun h3 h1)]
        rfl
  rw [hx] at hf
  cases hn : noneG g with
  | false =>
    have : cntG g n deep cuts = -1 := by rw [cntG_is, if_pos (.inl (by rw [hf, hn, Bool.false_and]))]
    rw [this]
    exact ⟨by rw [Bool.and_false]; rfl, fun h => by cases h⟩
  | true =>
    rw [hn, Bool.true_and] at hf
    rw [cntG_one hn, Bool.and_true, ← hf]
    cases fairG g n with
    | false => exact ⟨by rw [if_pos (.inl rfl)]; rfl, fun h => by rw [if_pos (.inl rfl)] at h; cases h⟩
    | true =>
      rw [if_neg (fun e => e.elim (fun e => by cases e) (fun e => by have := e.1; omega))]
      exact ⟨okC_true.2 (by omega), fun _ => rfl⟩
theorem okG_cut {g : Gl} {n deep b : Int} {cuts : Bool} (hk : g.kind = 3) (hb : b + 1 ≤ 20) : okC (cntG g n deep cuts) b = ((cuts && g.t.same zT) && noneG g) ∧ (okC (cntG g n deep cuts) b = true → cntG g n deep cuts = 1) := by
  have hf := fairG_is g n
  rw [if_neg (by omega), if_neg (by omega), if_pos hk] at hf
  cases hn : noneG g with
  | false =>
    have : cntG g n deep cuts = -1 := by rw [cntG_is, if_pos (.inl (by rw [hf, hn, Bool.false_and]))]
    rw [this]
    exact ⟨by rw [Bool.and_false]; rfl, fun h => by cases h⟩
  | true =>
    rw [hn, Bool.true_and] at hf
    rw [cntG_one hn, Bool.and_true, ← hf]
    cases cuts with
    | false => exact ⟨by rw [if_pos (.inr ⟨hk, rfl⟩)]; rfl, fun h => by rw [if_pos (.inr ⟨hk, rfl⟩)] at h; cases h⟩
    | true =>
      rw [Bool.true_and]
      cases fairG g n with
      | false => exact ⟨by rw [if_pos (.inl rfl)]; rfl, fun h => by rw [if_pos (.inl rfl)] at h; cases h⟩
      | true =>
        rw [if_neg (by rintro (h | ⟨_, h⟩) <;> cases h)]
        exact ⟨okC_true.2 (by omega), fun _ => rfl⟩
/-- What the program counts of an If, or of a Not: step by step. -/
theorem okG_if {g : Gl} {n deep b : Int} {cuts : Bool} (hk : g.kind = 4) :
    (g.t.same zT = false → okC (cntG g n deep cuts) b = false) ∧
    (okC (cntL g.a n (deep + 1) false) (b + 1) = false → okC (cntG g n deep cuts) b = false) ∧
    (okC (cntL g.b n (deep + 1) cuts) (b + 1 + cntL g.a n (deep + 1) false) = false → 0 ≤ cntL g.a n (deep + 1) false → okC (cntG g n deep cuts) b = false) ∧
    (g.t.same zT = true → 0 ≤ cntL g.a n (deep + 1) false → 0 ≤ cntL g.b n (deep + 1) cuts → okC (cntG g n deep cuts) b = okC (cntL g.c n (deep + 1) cuts) (b + 1 + cntL g.a n (deep + 1) false + cntL g.b n (deep + 1) cuts) ∧
      (0 ≤ cntL g.c n (deep + 1) cuts → cntG g n deep cuts = 1 + cntL g.a n (deep + 1) false + cntL g.b n (deep + 1) cuts + cntL g.c n (deep + 1) cuts)) := by
  have hf := fairG_is g n
  rw [if_neg (by omega), if_neg (by omega), if_neg (by omega), decide_eq_true hk, Bool.true_or, Bool.and_true] at hf
  have h1 := cntL_rng g.a n (deep + 1) false
  have h2 := cntL_rng g.b n (deep + 1) cuts
  have h3 := cntL_rng g.c n (deep + 1) cuts
  rw [cntG_is, hf]
  generalize cntL g.a n (deep + 1) false = x at *
  generalize cntL g.b n (deep + 1) cuts = y at *
  generalize cntL g.c n (deep + 1) cuts = z at *
  refine ⟨fun h => ?_, fun h => ?_, fun h h0 => ?_, fun h h0 h9 => ⟨?_, fun hz => ?_⟩⟩
  · rw [if_pos (.inl h)]; rfl
  · rw [okC_false] at h ⊢
    split
    · omega
    · split <;> omega
  · rw [okC_false] at h ⊢
    split
    · omega
    · split <;> omega
  · rw [if_neg (fun e => e.elim (fun e => by rw [h] at e; cases e) (fun e => by have := e.1; omega))]
    by_cases hz : z < 0
    · rw [if_pos (.inr (.inr hz)), okC_false.2 (by omega), okC_false.2 (by omega)]
    · rw [if_neg (by omega)]
      rw [Bool.eq_iff_iff, okC_true, okC_true]
      omega
  · rw [if_neg (fun e => e.elim (fun e => by rw [h] at e; cases e) (fun e => by have := e.1; omega)), if_neg (by omega)]
theorem okG_not {g : Gl} {n deep b : Int} {cuts : Bool} (hk : g.kind = 5) :
    (g.t.same zT = false → okC (cntG g n deep cuts) b = false) ∧
    (okC (cntL g.a n (deep + 1) false) (b + 1) = false → okC (cntG g n deep cuts) b = false) ∧
    (g.t.same zT = true → okC (cntL g.a n (deep + 1) false) (b + 1) = true → okC (cntG g n deep cuts) b = noneB g ∧ (noneB g = true → cntG g n deep cuts = 1 + cntL g.a n (deep + 1) false)) := by
  have hf := fairG_is g n
  rw [if_neg (by omega), if_neg (by omega), if_neg (by omega), decide_eq_false (by omega : ¬ g.kind = 4), Bool.false_or, decide_eq_true hk, Bool.true_and] at hf
  have h1 := cntL_rng g.a n (deep + 1) false
  have h2 := cntL_rng g.b n (deep + 1) cuts
  have h3 := cntL_rng g.c n (deep + 1) cuts
  rw [cntG_is, hf]
  have hx : noneB g = true → cntL g.b n (deep + 1) cuts = 0 ∧ cntL g.c n (deep + 1) cuts = 0 := fun h => by
    obtain ⟨e1, e2⟩ := noneB_nil h
    rw [e1, e2]
    exact ⟨cntL_nil _ _ _, cntL_nil _ _ _⟩
  generalize cntL g.a n (deep + 1) false = x at *
  generalize cntL g.b n (deep + 1) cuts = y at *
  generalize cntL g.c n (deep + 1) cuts = z at *
  refine ⟨fun h => ?_, fun h => ?_, fun h h0 => ?_⟩
  · rw [if_pos (.inl (by rw [h]; rfl))]; rfl
  · rw [okC_false] at h ⊢
    split
    · omega
    · split <;> omega
  · rw [okC_true] at h0
    cases hn : noneB g with
    | false => exact ⟨by rw [if_pos (.inl (by rw [Bool.and_false]))]; rfl, fun h => by cases h⟩
    | true =>
      obtain ⟨rfl, rfl⟩ := hx hn
      rw [h, if_neg (fun e => e.elim (fun e => by cases e) (fun e => by have := e.1; omega)), if_neg (by omega)]
      exact ⟨okC_true.2 (by omega), fun _ => by omega⟩
theorem okG_other {g : Gl} {n deep b : Int} {cuts : Bool} (h1 : g.kind ≠ 1) (h2 : g.kind ≠ 2) (h3 : g.kind ≠ 3) (h4 : g.kind ≠ 4) (h5 : g.kind ≠ 5) : okC (cntG g n deep cuts) b = false := by
  have hf := fairG_is g n
  rw [if_neg h1, if_neg h2, if_neg h3, decide_eq_false h4, decide_eq_false h5, Bool.false_and, Bool.false_or, Bool.and_false] at hf
  rw [cntG_is, if_pos (.inl hf)]
  rfl
/-! ### a row of goals -/
theorem cntG_pos {g : Gl} {n deep : Int} {cuts : Bool} (h : 0 ≤ cntG g n deep cuts) : 1 ≤ cntG g n deep cuts := by
  rw [cntG_is] at h ⊢
  split at h
  · omega
  · split at h
    · omega
    · rename_i h1 h2
      rw [if_neg h1, if_neg h2]
      omega
theorem cntS_head {l r : List Gl} {n deep : Int} {cuts : Bool} (h : 0 ≤ cntS (l ++ r) n deep cuts) : 0 ≤ cntS l n deep cuts ∧ cntS l n deep cuts ≤ cntS (l ++ r) n deep cuts := by
  induction l with
  | nil =>
    have e : cntS [] n deep cuts = 0 := by rw [cntS]
    rw [e]
    exact ⟨by omega, h⟩
  | cons g l ih =>
    rw [List.cons_append] at h ⊢
    by_cases h1 : cntG g n deep cuts < 0
    · rw [cntS, if_pos h1] at h
      omega
    by_cases h2 : cntS (l ++ r) n deep cuts < 0
    · rw [cntS, if_neg h1, if_pos h2] at h
      omega
    have e1 : cntS (g :: (l ++ r)) n deep cuts = cntG g n deep cuts + cntS (l ++ r) n deep cuts := by rw [cntS, if_neg h1, if_neg h2]
    have h3 := ih (by omega)
    have e2 : cntS (g :: l) n deep cuts = cntG g n deep cuts + cntS l n deep cuts := by rw [cntS, if_neg h1, if_neg (by omega)]
    rw [e1, e2]
    omega
theorem cntS_take {l : List Gl} {n deep : Int} {cuts : Bool} {k : Nat} (hk : k < l.length) (h0 : 0 ≤ cntS (l.take k) n deep cuts) (h : 0 ≤ cntG l[k] n deep cuts) : cntS (l.take (k + 1)) n deep cuts = cntS (l.take k) n deep cuts + cntG l[k] n deep cuts := by
  rw [List.take_succ_eq_append_getElem hk]
  exact cntS_snoc _ _ _ _ _ h0 h
/-- What one goal spoils. -/
theorem okC_stop {l : List Gl} {n deep b : Int} {cuts : Bool} {k : Nat} (hk : k < l.length) (hd : deep ≤ 10) (h0 : 0 ≤ cntS (l.take k) n deep cuts) (hbad : okC (cntG l[k] n deep cuts) (b + cntS (l.take k) n deep cuts) = false) : okC (cntL l n deep cuts) b = false := by
  rw [cntL_is l n deep cuts (.inr hd)]
  rw [okC_false] at hbad ⊢
  rintro ⟨h1, h2⟩
  have h3 : l.take (k + 1) ++ l.drop (k + 1) = l := List.take_append_drop _ _
  have h4 := cntS_head (l := l.take (k + 1)) (r := l.drop (k + 1)) (n := n) (deep := deep) (cuts := cuts) (by rw [h3]; exact h1)
  rw [h3] at h4
  by_cases h5 : 0 ≤ cntG l[k] n deep cuts
  · have h6 := cntS_take hk h0 h5
    omega
  · have h6 := cntS_bad (l := l) (List.getElem_mem hk) (show cntG l[k] n deep cuts < 0 by omega)
    omega
theorem okC_many {l : List Gl} {n deep b : Int} {cuts : Bool} {k : Nat} (hk : k < l.length) (hd : deep ≤ 10) (h0 : 0 ≤ cntS (l.take k) n deep cuts) (hbad : 20 < b + cntS (l.take k) n deep cuts + 1) : okC (cntL l n deep cuts) b = false :=
  okC_stop hk hd h0 (okC_false.2 (by
    rintro ⟨h1, h2⟩
    have := cntG_pos h1
    omega))
theorem okC_deep {l : List Gl} {n deep b : Int} {cuts : Bool} {k : Nat} (hk : k < l.length) (hd : 10 < deep) : okC (cntL l n deep cuts) b = false := by
  rw [cntL_deep n cuts (by intro h; rw [h] at hk; exact absurd hk (Nat.not_lt_zero _)) hd]
  rfl
end Go.Proofs.YtkjnjahmlobjiaaGreatDoor

namespace Go.Proofs.YtkjnjahmlobjiaaGreatDoor
open Go.RowKit Go.Shelf

attribute [local go_sem] Oper.semAt_some

set_option maxRecDepth 100000 in
set_option maxHeartbeats 4000000 in
theorem tvars_new (l : List Tm) (w : World) (sv : Value) (hsl : Tm.sliceIn w w.heap.size l sv) (hsz : Tm.sizes l ≤ 1000000) :
    Calls Tryz.prog 36 #[sv] w fun e w' => ∃ v, e = .returned v ∧ intsIn w' w'.heap.size (varsOf l) v ∧ Below w.heap.size w w' ∧ (∀ x ∈ varsOf l, (Lit.int .i64 x).wf = true) ∧ (∀ b o n c, v = .slice (some ⟨b, o, none⟩) n c → w.heap.size ≤ b) := by
  refine (callsIn_wide (n := 9)).1 ?_
  have hsl0 := hsl
  obtain ⟨g, cap, rfl, hcap, hlen, _⟩ := hsl0
  obtain ⟨i0, hi, hz0, hz1, hz2⟩ := info_parts Tryz.infoInt
  have HSL := Lib.hid hsl
  clear hsl
  have hmm := @run_makeMap Tryz.prog
  refine callsIn_of_wp_marks Tryz.func36 rfl trivial ?_ rfl
  simp only [Tryz.ntmps36, List.size_toArray, List.length_cons, List.length_nil, Nat.reduceAdd, Nat.reduceSub, Array.replicate_succ, Array.replicate_zero, List.push_toArray, List.append_toArray, List.nil_append, List.cons_append]
  gi_wp2_with fail
  refine wpIn_loop (fun a wr => ∃ (k : Nat) (Ds : List Nat) (u6 u14 u15 u16 u17 u18 u42 : Value), k ≤ l.length ∧
      a = { tmps := #[.slice g l.length cap, undef, .slice none 0 0, .pointer (some ⟨w.heap.size, 0, none⟩), .pointer (some ⟨w.heap.size + 1 + 1, 0, none⟩), undef, u6, undef, undef, undef, .map (some (w.heap.size + 1)), .slice g l.length cap, .int .i64 l.length, .int .i64 k,
        u14, u15, u16, u17, u18, undef, undef, undef, undef, undef, undef, undef, undef, undef, undef, undef, undef, undef, undef, undef, undef, undef, undef, undef, undef, undef, undef, undef, u42, undef], defers := Ds.map mark } ∧
      Hid (VInv w.heap.size (varsOf (l.take k)) wr ∧ Below w.heap.size w wr ∧ (∀ D ∈ Ds, w.heap.size + 3 ≤ D ∧ wr.heap[D]? = some (.deferred (some []))) ∧ Ds.Nodup)) (fun a _ => l.length - (intOf (a.tmps.getD 13 undef)).toNat) ?start ?round
  case start =>
    refine ⟨0, [], undef, undef, undef, undef, undef, undef, undef, Nat.zero_le _, rfl, ⟨⟨⟨.slice none 0 0, ?_, World.ownsRow_nil _ _ _ _, trivial⟩, ?_⟩, ?_, by simp [varsOf, Tm.nodesL], by simp [varsOf, Tm.nodesL]⟩, ?_, by simp, by simp⟩
    · exact ((Boxed.new w _ _).alloc _).alloc _
    · exact newBlk _ _ _ (by simp)
    · have := World.ownsMap_made (w.alloc (.cells #[.slice none 0 0] 80)) Tryz.prog 3 (unitElem (H := Unit))
      simp only [World.size_alloc] at this
      exact this.alloc _
    · exact (((Below.refl _ _).alloc (Nat.le_refl _) _).alloc (by simp) _).alloc (by simp; omega) _
  case round =>
    rintro a wr ⟨k, Ds, u6, u14, u15, u16, u17, u18, u42, hk, rfl, hinv⟩
    by_cases hlt : k < l.length
    · obtain ⟨hv, hb, hD, hnd⟩ := hinv.out
      obtain ⟨b, off, sv, rfl, hbB, g0, g1, g2, g3, hin'⟩ := Tm.sliceIn_get (Tm.sliceIn_below HSL.out hb (Nat.le_refl _)) k hlt
      obtain ⟨_, ga, capa, rfl, _, _, _⟩ := Tm.inn_iff.1 hin'
      have HV := Lib.hid hv
      have HB := Lib.hid hb
      have HD := Lib.hid hD
      have HND := Lib.hid hnd
      have HIN := Lib.hid hin'
      clear hv hb hD hnd hin' hinv
      gi_wp2_with fail
      refine ⟨trivial, ?_⟩
      refine (inside_in Fence.wide 8 trivial rfl _ _ _ _ _ _ _).mono ?_
      rintro e w' ⟨rfl, rfl⟩
      gi_wp2_with fail
      have hszk : l[k].size ≤ 1000000 := Nat.le_trans (Tm.size_mem_le (List.getElem_mem hlt)) hsz
      have hws := HB.out.size
      have bX := newBlk (wr.alloc (.cells #[.int .i64 l[k].kind, .string l[k].name, .int .i64 l[k].n, .slice ga l[k].args.length capa] 34)) (.cells #[.int .i64 l[k].kind, .string l[k].name, .int .i64 l[k].n, .slice ga l[k].args.length capa] 34) (wr.heap.size + 1) (by simp)
      have hv1 := (HV.out.alloc (.cells #[.int .i64 l[k].kind, .string l[k].name, .int .i64 l[k].n, .slice ga l[k].args.length capa] 34)).alloc (.cells #[.int .i64 l[k].kind, .string l[k].name, .int .i64 l[k].n, .slice ga l[k].args.length capa] 34)
      have hbr : Below wr.heap.size wr ((wr.alloc (.cells #[.int .i64 l[k].kind, .string l[k].name, .int .i64 l[k].n, .slice ga l[k].args.length capa] 34)).alloc (.cells #[.int .i64 l[k].kind, .string l[k].name, .int .i64 l[k].n, .slice ga l[k].args.length capa] 34)) := ((Below.refl _ _).alloc (Nat.le_refl _) _).alloc (by simp) _
      have hsz1 : ((wr.alloc (.cells #[.int .i64 l[k].kind, .string l[k].name, .int .i64 l[k].n, .slice ga l[k].args.length capa] 34)).alloc (.cells #[.int .i64 l[k].kind, .string l[k].name, .int .i64 l[k].n, .slice ga l[k].args.length capa] 34)).heap.size = wr.heap.size + 2 := by simp
      obtain ⟨W1, hW1⟩ : ∃ W1, (wr.alloc (.cells #[.int .i64 l[k].kind, .string l[k].name, .int .i64 l[k].n, .slice ga l[k].args.length capa] 34)).alloc (.cells #[.int .i64 l[k].kind, .string l[k].name, .int .i64 l[k].n, .slice ga l[k].args.length capa] 34) = W1 := ⟨_, rfl⟩
      rw [hW1] at bX hv1 hbr hsz1 ⊢
      clear hW1
      have hD1 : ∀ D ∈ Ds, W1.heap[D]? = some (.deferred (some [])) := fun D hD => (hbr.block D (Array.getElem?_eq_some_iff.1 (HD.out D hD).2).1).trans (HD.out D hD).2
      have hDlt : ∀ D ∈ Ds, D < wr.heap.size := fun D hD => (Array.getElem?_eq_some_iff.1 (HD.out D hD).2).1
      have hb1 := HB.out.trans (hbr.mono hws)
      have hin1 := Tm.inn_below HIN.out hbr hws
      have hm0 : w.heap.size + 3 ≤ W1.heap.size := by
        obtain ⟨⟨_, hx⟩, _⟩ := hv1
        have := hx.lt
        omega
      have HV1 := Lib.hid hv1
      have HB1 := Lib.hid hb1
      have HD1 := Lib.hid hD1
      have HDLT := Lib.hid hDlt
      clear hbr hv1 hb1 hD1 hDlt
      refine wpIn_rangeFunc_ownH rfl (by omega) (gf := 64) (lb := #[.pointer (some ⟨wr.heap.size + 1, 0, none⟩)]) rfl trivial (enters_of Tryz.func64 (by kernel_rfl) rfl)
        (inside_stops Fence.wide rfl (9 - 1) trivial trivial rfl (wr.heap.size + 1) w.heap.size l[k] ga capa W1 (by omega) bX hin1 hszk) Keep.trans (keep_putObj (by omega)) (Below.refl _ _) (fun _ => rfl)
        (fun pre W => (VInv w.heap.size ((pre.map El.key).foldl addV (varsOf (l.take k))) W ∧ (∀ D ∈ Ds, W.heap[D]? = some (.deferred (some [])))) ∧ Below w.heap.size w W)
        (fun _ _ _ => False)
        (OwnFrom.and (OwnFrom.and (VInv.own _ _ (by omega) (fun pre : List El => (pre.map El.key).foldl addV (varsOf (l.take k)))) (fun s X Y row hs hg hr D hD => (hg.block D (Array.getElem?_eq_some_iff.1 (hs D hD)).1 (fun e => by have := (hr D e.symm).1; have := HDLT.out D hD; omega)).trans (hs D hD))) (ownFrom_below (Nat.le_refl _) (by omega)))
        (fun _ _ _ _ _ hs _ _ => hs)
        ⟨⟨HV1.out, HD1.out⟩, HB1.out⟩
        (fun x a' W => ∃ Bx, w.heap.size + 3 ≤ Bx ∧ W.heap[Bx]? = some (Obj.cells #[.int .i64 x.key.k, .string x.key.s, .int .i64 x.key.n, .slice x.g x.key.m x.cap] 34 (0, 0)) ∧
          a' = { tmps := #[.slice (some ⟨b, off, none⟩) l.length cap, undef, .slice none 0 0, .pointer (some ⟨w.heap.size, 0, none⟩), .pointer (some ⟨w.heap.size + 1 + 1, 0, none⟩), undef, .pointer (some ⟨wr.heap.size, 0, none⟩), .pointer (some ⟨Bx, 0, none⟩), undef, undef, .map (some (w.heap.size + 1)), .slice (some ⟨b, off, none⟩) l.length cap, .int .i64 l.length, .int .i64 k,
            .bool true, .pointer (some ⟨b, off + k * 4, none⟩), .agg #[.int .i64 l[k].kind, .string l[k].name, .int .i64 l[k].n, .slice ga l[k].args.length capa], .agg #[.int .i64 l[k].kind, .string l[k].name, .int .i64 l[k].n, .slice ga l[k].args.length capa], .func (.func 64) #[] #[.pointer (some ⟨wr.heap.size + 1, 0, none⟩)],
            .agg #[.int .i64 x.key.k, .string x.key.s, .int .i64 x.key.n, .slice x.g x.key.m x.cap], .int .i64 x.key.d, undef, undef, undef, undef, undef, undef, undef, undef, undef, undef, undef, undef, undef, undef, undef, undef, undef, undef, undef, undef, undef, u42, undef], defers := [] })
        (fun x a' => Own.from (fun _ X Y row hs hg hrow => by obtain ⟨Bx, h1, h2, h3⟩ := hs; exact ⟨Bx, h1, (grownBy_keeps_cells hg hrow h2 rfl).trans h2, h3⟩) _)
        ?assign ?body ?done ?stop
      case assign =>
        rintro l' pre x W K ⟨⟨hv, hD⟩, hb⟩ hK
        simp only [El.encs]
        rw [zip2]
        gi_wp2
        have hlt3 : w.heap.size + 3 ≤ W.heap.size := by
          obtain ⟨⟨_, hx⟩, _⟩ := hv
          have := hx.lt
          omega
        exact hK _ _ ((KeepsOthers.alloc _ _).from _) ((Keep.refl _ _).alloc hb.size _) ⟨⟨hv.alloc _, fun D hDm => (Below.heap_alloc _ _ _ (Array.getElem?_eq_some_iff.1 (hD D hDm)).1).trans (hD D hDm)⟩, hb.alloc hb.size _⟩ ⟨W.heap.size, hlt3, newBlk W _ _ rfl, rfl⟩
      case body =>
        rintro l' pre x a' W hl _ ⟨⟨hv, hD⟩, hb⟩ ⟨Bx, hBx, hX, rfl⟩ hlen2
        have hvs : ((pre ++ [x]).map El.key).foldl addV (varsOf (l.take k)) = addV ((pre.map El.key).foldl addV (varsOf (l.take k))) x.key := by simp
        obtain ⟨vs, hvs0⟩ : ∃ vs, (pre.map El.key).foldl addV (varsOf (l.take k)) = vs := ⟨_, rfl⟩
        rw [hvs0] at hvs hv
        clear hvs0
        obtain ⟨⟨⟨v, bV, hrow, _⟩, bM⟩, hmap, hwf, hlenv⟩ := id hv
        obtain ⟨⟨c0, c1, c2, c3⟩, _⟩ := row4 hX
        have cV := bV.cell
        have fV := bV.frozen
        have cM := bM.cell
        have HVS := Lib.hid hvs
        have HV := Lib.hid hv
        have HDD := Lib.hid hD
        have HBB := Lib.hid hb
        have hbx := hb.size
        have hXlt := (Array.getElem?_eq_some_iff.1 hX).1
        clear hvs hv hD hb hX
        by_cases hk1 : x.key.k = 1
        · rw [hk1] at c0
          have HK1 := Lib.hid hk1
          have HROW := Lib.hid hrow
          have HMAP := Lib.hid hmap
          have BV := Lib.hid bV
          have BM := Lib.hid bM
          have HWF := Lib.hid hwf
          have hVlt : w.heap.size < W.heap.size := bV.lt
          have hMlt : w.heap.size + 1 + 1 < W.heap.size := bM.lt
          by_cases hmem : x.key.n ∈ vs
          · have hh := Lib.hid ((has_vars vs x.key.n x.ok.2.2.1 hwf).trans (decide_eq_true hmem))
            have hadd : addV vs x.key = vs := by simp [addV, hmem]
            have HADD := Lib.hid hadd
            clear hadd hk1 hrow hmap bV bM hwf hmem
            gi_wp2_with (gi_at_lookup; refine wpListIn_lookup_own_unit _ rfl _ _ 115 rfl 3 76 (Maps.int_keyed Tryz.underlying3) Tryz.underlying115 (Tryz.zeroUnit _) (w.heap.size + 1) vs.length _ rfl HMAP.out _ _ rfl (Maps.keyOf_int_mk Tryz.underlying3 x.ok.2.2.1) ?_; rw [hh.out])
            exact ⟨(KeepsOthers.alloc _ _).from _, (Keep.refl _ _).alloc hbx _, ⟨by rw [HVS.out, HADD.out]; exact HV.out.alloc _, fun D hDm => (Below.heap_alloc _ _ _ (Array.getElem?_eq_some_iff.1 (HDD.out D hDm)).1).trans (HDD.out D hDm)⟩, HBB.out.alloc hbx _⟩
          · have hh := Lib.hid ((has_vars vs x.key.n x.ok.2.2.1 hwf).trans (decide_eq_false hmem))
            have hadd : addV vs x.key = vs ++ [x.key.n] := by simp [addV, hmem, hk1]
            have HADD := Lib.hid hadd
            have hnb : vs.length < maxLen := by unfold maxLen; omega
            clear hadd hk1 hrow hmap bV bM hwf hmem
            gi_wp2_with (first
              | (gi_at_lookup; refine wpListIn_lookup_own_unit _ rfl _ _ 115 rfl 3 76 (Maps.int_keyed Tryz.underlying3) Tryz.underlying115 (Tryz.zeroUnit _) (w.heap.size + 1) vs.length _ rfl HMAP.out _ _ rfl (Maps.keyOf_int_mk Tryz.underlying3 x.ok.2.2.1) ?_; rw [hh.out])
              | (gi_at_mapUpdate; refine wpListIn_mapUpdate_own _ rfl _ _ _ 115 rfl 3 76 (Maps.int_keyed Tryz.underlying3) Tryz.underlying115 _ (w.heap.size + 1) vs.length _ rfl (HMAP.out.alloc _) hnb _ _ _ rfl rfl (Maps.keyOf_int_mk Tryz.underlying3 x.ok.2.2.1) _ [] unitElem_mk ?_; intro w1 hown1 hgrow1
                 have bV1 : Boxed w1 w.heap.size 80 v := (BV.out.alloc _).kept hgrow1 (by simp)
                 have cV1 := bV1.cell
                 have fV1 := bV1.frozen
                 have d2 : w1.cell? ⟨Bx, 2, none⟩ = some (.int .i64 x.key.n) := hgrow1.cell (a := ⟨Bx, 2, none⟩) ((World.cell?_alloc_lt _ _ _ hXlt).trans c2) (by simp; omega)
                 have hrow1 := (HROW.out.alloc (Obj.cells #[] 76)).kept hgrow1 (.inr (fun e => by
                   obtain ⟨es, ck, hm, _⟩ := HMAP.out
                   rcases HROW.out.2 with ⟨rfl, _⟩ | ⟨g', cap', cur, rfl, _, hg', _⟩
                   · simp [Value.ownBlock] at e
                   · simp [Value.ownBlock] at e
                     rw [e, hm] at hg'
                     simp at hg'))
                 have hs1 := hgrow1.size
                 simp only [World.size_alloc] at hs1
                 have HOWN1 := Lib.hid hown1
                 have HGROW1 := Lib.hid hgrow1
                 have BV1 := Lib.hid bV1
                 have HROW1 := Lib.hid hrow1
                 clear hown1 hgrow1 bV1 hrow1)
              | (gi_at_builtin; refine wpListIn_append_own _ rfl _ _ 80 rfl w.heap.size 3 i0 (.int .i64 0) 1 8 Tryz.underlying80 hi hz0 hz1 hz2 rfl (by decide) v vs.length _ rfl (HROW1.out.alloc _) ⟨w1.heap.size, 0, none⟩ 1 1 [.int .i64 x.key.n] rfl rfl (cell_one_new _ _ _) (by simp [Value.oneCell']) (by unfold maxLen; omega) (by omega) (by simp; omega) ?_; intro v' w2 hown' hgrow _; obtain ⟨g', cap', rfl⟩ := ownsRow_succ hown'; obtain ⟨hv1, hv2, hr2, hk2, hb2⟩ := BV1.out.appended (by decide) HROW1.out (by omega) (Nat.le_refl _) hown' hgrow; have hc1 := hv1.cell; have hf1 := hv1.frozen))
            have hne : some (w.heap.size + 1) ≠ v.ownBlock := fun e => by
              obtain ⟨es, ck, hm, _⟩ := HOWN1.out
              rcases HROW1.out.2 with ⟨rfl, _⟩ | ⟨g', cap', cur, rfl, _, hg', _⟩
              · simp [Value.ownBlock] at e
              · simp [Value.ownBlock] at e
                rw [← e, hm] at hg'
                simp at hg'
            have hlenx : (vs ++ [x.key.n]).length ≤ 1000000 := by
              rw [← HADD.out, ← HVS.out]
              have h1 := addV_length ((pre ++ [x]).map El.key) (varsOf (l.take k))
              have h2 := varsOf_length (l.take k)
              have h3 := Tm.sizes_take_succ l k hlt
              have h4 := Tm.sizes_take_le l (k + 1)
              simp only [List.length_map, List.length_append, List.length_cons, List.length_nil] at h1
              omega
            refine ⟨(((KeepsOthers.alloc W _).from _).trans (KeepsFrom.of_grownBy HGROW1.out (fun j e => by cases e; omega))).trans (hk2.from _), ?_, ⟨?_, fun D hDm => ?_⟩, ?_⟩
            · refine (((Keep.refl _ _).alloc hbx _).trans (Keep.of_grown HGROW1.out (by simp; omega) (fun r e => ?_))).trans ((((Keep.refl _ _).alloc (by omega) _).trans (Keep.of_grown hgrow (by simp; omega) (fun r e => ?_))).trans (keep_set hv1 (by decide) (Nat.le_refl _) _))
              · cases e
                refine ⟨by omega, fun cs fr h => ?_⟩
                obtain ⟨es, ck, hm, _⟩ := HMAP.out.alloc (Obj.cells #[] 76)
                rw [hm] at h
                cases h
              · rcases (HROW1.out.alloc (Obj.cells #[.int .i64 x.key.n] 3)).2 with ⟨rfl, _⟩ | ⟨g2, cap2, cur, rfl, hbase, hg2, _⟩
                · simp [Value.ownBlock] at e
                · obtain rfl : g2 = r := by simpa [Value.ownBlock] using e
                  refine ⟨hbase, fun cs fr h => ?_⟩
                  rw [hg2] at h
                  simp at h
            · rw [HVS.out, HADD.out]
              refine ⟨⟨⟨_, hv2, ?_, trivial⟩, ?_⟩, ?_, ?_, hlenx⟩
              · simpa using hr2
              · have b1 : Boxed w1 (w.heap.size + 2) 115 (.map (some (w.heap.size + 1))) := (BM.out.alloc _).kept HGROW1.out (by simp)
                exact ((b1.alloc _).kept hgrow (b1.not_row (by decide) HROW1.out)).other (by omega) _
              · have m1 := ((HOWN1.out.alloc (Obj.cells #[.int .i64 x.key.n] 3)).kept hgrow hne).setCell (a := ⟨w.heap.size, 0, none⟩) (by simp) (.slice (some ⟨g', 0, none⟩) (vs.length + 1) cap')
                rw [List.map_append, List.map_cons, List.map_nil, Maps.setOf_snoc, List.length_append]
                exact m1
              · intro y hy
                rcases List.mem_append.1 hy with hy | hy
                · exact HWF.out y hy
                · obtain rfl : y = x.key.n := by simpa using hy
                  exact x.ok.2.2.1
            · have h0 := HDD.out D hDm
              have hlo := (HD.out D hDm).1
              have h1 := (Below.heap_alloc W (Obj.cells #[] 76) D (Array.getElem?_eq_some_iff.1 h0).1).trans h0
              have h2 := (HGROW1.out.block D (Array.getElem?_eq_some_iff.1 h1).1 (by simp; omega)).trans h1
              exact hk2.same D _ h2 rfl
            · exact ((HBB.out.alloc hbx _).grown HGROW1.out (by simp; omega) (fun j e => by cases e; omega)).trans hb2
        · have hk1b : (x.key.k != 1) = true := by rw [bne_iff_ne]; exact hk1
          have hadd : addV vs x.key = vs := by simp [addV, hk1]
          have HADD := Lib.hid hadd
          clear hadd hrow hmap bV bM hwf
          gi_wp2
          exact ⟨KeepsFrom.refl _ _, Keep.refl _ _, ⟨by rw [HVS.out, HADD.out]; exact HV.out, HDD.out⟩, HBB.out⟩
      case done =>
        rintro D ys W hD hS ⟨⟨hv, hDs⟩, hb⟩ hK
        have hvs : (ys.map El.key).foldl addV (varsOf (l.take k)) = varsOf (l.take (k + 1)) := by
          rw [hS]
          unfold varsOf
          rw [nodesL_take_succ l k hlt, List.foldl_append]
        rw [hvs] at hv
        have hfin : Hid (VInv w.heap.size (varsOf (l.take (k + 1))) W ∧ Below w.heap.size w W ∧ (∀ E ∈ D :: Ds, w.heap.size + 3 ≤ E ∧ W.heap[E]? = some (.deferred (some []))) ∧ (D :: Ds).Nodup) := by
          refine ⟨hv, hb, fun E hE => ?_, List.nodup_cons.2 ⟨fun hm => ?_, HND.out⟩⟩
          · rcases List.mem_cons.1 hE with rfl | hE
            · exact ⟨by omega, hK⟩
            · exact ⟨(HD.out E hE).1, hDs E hE⟩
          · have := HDLT.out D hm
            omega
        clear hv hDs hb hK hS hvs
        gi_wp2
        exact ⟨⟨k + 1, D :: Ds, _, _, _, _, _, _, _, by omega, by push_cast; rfl, hfin⟩, by simp [intOf]; omega⟩
      case stop =>
        rintro D c pre W _ _ h _
        exact h.elim
    · obtain rfl : k = l.length := by omega
      obtain ⟨hv, hb, hD, hnd⟩ := hinv.out
      rw [List.take_length] at hv
      obtain ⟨⟨⟨v, bV, hrow, _⟩, bM⟩, hmap, hwf, hlenv⟩ := hv
      have cV := bV.cell
      have BV := Lib.hid bV
      have HROW := Lib.hid hrow
      have HBB := Lib.hid hb
      have HD := Lib.hid hD
      have HND := Lib.hid hnd
      have HWF := Lib.hid hwf
      have hbz := hb.size
      clear hinv bV hrow bM hmap hwf hb hD hnd
      gi_wp2_with fail
      refine leaves_marks Ds wr (fun D hD => (HD.out D hD).2) HND.out fun W' h1 h2 h3 => ?_
      refine ⟨_, results_tmp rfl _ _ _, _, rfl, ?_, HBB.out.trans (h2 w.heap.size hbz (fun D hD => by have := (HD.out D hD).1; omega)), HWF.out, ?_⟩
      · rcases HROW.out.2 with ⟨rfl, h0⟩ | ⟨gr, cr, cur, rfl, hbase, hg, hn, _⟩
        · refine ⟨none, 0, ?_, by omega, by omega, .inl (List.eq_nil_of_length_eq_zero h0)⟩
          rw [h0]
          rfl
        · refine ⟨_, cr, rfl, hn, by omega, .inr ⟨gr, 0, rfl, ?_, fun i hi => ?_⟩⟩
          · have := (Array.getElem?_eq_some_iff.1 hg).1
            omega
          · have hc := HROW.out.cells (g := gr) rfl i (.int .i64 (varsOf l)[i]) (by simp [hi])
            rw [Addr.add_lit] at hc
            refine (World.cell?_of_block (a := ⟨gr, 0 + i, none⟩) (h1 gr (fun hm => ?_))).trans hc
            have := (HD.out gr hm).2
            rw [hg] at this
            cases this
      · intro b o n c e
        rcases HROW.out.2 with ⟨h0, _⟩ | ⟨gr, cr, cur, h0, hbase, _, _, _⟩
        · rw [h0] at e
          cases e
        · rw [h0] at e
          injection e with e1 e2 e3
          injection e1 with e1
          injection e1 with e1 e4
          omega
end Go.Proofs.YtkjnjahmlobjiaaGreatDoor

namespace Go.Proofs.YtkjnjahmlobjiaaGreatDoor
open Go.RowKit

set_option maxRecDepth 100000 in
set_option maxHeartbeats 4000000 in
theorem ppred_any (t : Tm) (w : World) (sv : Value) (hin : Tm.inn w w.heap.size t sv) : Calls Tryz.prog 34 #[.agg #[.int .i64 t.kind, .string t.name, .int .i64 t.n, sv]] w fun e w' => e = .returned (.agg #[.string t.name, .int .i64 t.args.length]) ∧ Below w.heap.size w w' := by
  obtain ⟨_, g, c, rfl, hc, hl, _⟩ := Tm.inn_iff.1 hin
  clear hin
  obtain ⟨m, hm⟩ : ∃ m, t.args.length = m := ⟨_, rfl⟩
  rw [hm] at hc hl ⊢
  clear hm
  go_enter Tryz.func34, Tryz.ntmps34
  go_wp2_with fail
  obtain ⟨w1, hw1⟩ : ∃ w1, w.alloc (.cells #[.int .i64 t.kind, .string t.name, .int .i64 t.n, .slice g m c] 34) = w1 := ⟨_, rfl⟩
  have hb1 : Below w.heap.size w w1 := hw1 ▸ (Below.refl _ w).alloc (Nat.le_refl _) _
  have hz1 : w1.heap.size = w.heap.size + 1 := hw1 ▸ by simp
  rw [hw1, ← hz1]
  obtain ⟨w2, hw2⟩ : ∃ w2, w1.alloc (.cells #[.string t.name, .int .i64 (m : Nat)] 75) = w2 := ⟨_, rfl⟩
  have hb2 : Below w1.heap.size w1 w2 := hw2 ▸ (Below.refl _ w1).alloc (Nat.le_refl _) _
  have hn2 : w2.heap[w1.heap.size]? = some (.cells #[.string t.name, .int .i64 (m : Nat)] 75 (0, 0)) := hw2 ▸ heap_alloc_new w1 _
  have z0 : w2.cell? ⟨w1.heap.size, 0, none⟩ = some (.string t.name) := by simp [World.cell?, hn2]
  have z1 : w2.cell? ⟨w1.heap.size, 1, none⟩ = some (.int .i64 (m : Nat)) := by simp [World.cell?, hn2]
  rw [hw2]
  refine bodyPost_ret (v := .agg #[.string t.name, .int .i64 (m : Nat)]) (by simp [results, Tryz.results34, go_sem, z0, z1]) rfl ?_
  exact ⟨rfl, hb1.trans (hb2.mono hb1.size)⟩
set_option maxRecDepth 100000 in
set_option maxHeartbeats 4000000 in
/-- May a term be a predicate's? -/
theorem pperm_any (t : Tm) (w : World) (sv : Value) (hin : Tm.inn w w.heap.size t sv) (ht : Tabs w) : Calls Tryz.prog 22 #[.agg #[.int .i64 t.kind, .string t.name, .int .i64 t.n, sv]] w fun e w' => e = .returned (.bool (ownB t)) ∧ Below w.heap.size w w' := by
  obtain ⟨_, g, c, rfl, hc, hl, _⟩ := Tm.inn_iff.1 hin
  have HX := Lib.hid (show ownB t = (decide (t.kind = 3) && (!bltn (bsN t.name) t.args.length && !ctlB (bsN t.name) t.args.length)) from rfl)
  have HP := Lib.hid (fun W (h : Tm.inn W W.heap.size t (.slice g t.args.length c)) => ppred_any t W _ h)
  have HB := Lib.hid (fun W (h : Tabs W) => pblt_any t.name t.args.length W h.blt)
  have HC := Lib.hid (fun W (h : Tabs W) => pctl_any t.name t.args.length W h.ctl)
  have HD := Lib.hid (DB.new hin)
  have HT := Lib.hid (ht.next ((Below.refl _ w).alloc (Nat.le_refl _) (.cells #[.int .i64 t.kind, .string t.name, .int .i64 t.n, .slice g t.args.length c] 34)))
  clear hin ht
  obtain ⟨m, hm⟩ : ∃ m, t.args.length = m := ⟨_, rfl⟩
  rw [hm] at hc hl HX HP HB HC HD HT ⊢
  clear hm
  generalize bltn (bsN t.name) m = xb at HB HX
  generalize ctlB (bsN t.name) m = xc at HC HX
  go_enter Tryz.func22, Tryz.ntmps22
  go_upto_region 1 with fail
  have HD0 := Lib.hid (show DB w t (.slice g m c) w.heap.size (w.alloc (.cells #[.int .i64 t.kind, .string t.name, .int .i64 t.n, .slice g m c] 34)) from HD.out)
  have HT0 := Lib.hid (show Tabs (w.alloc (.cells #[.int .i64 t.kind, .string t.name, .int .i64 t.n, .slice g m c] 34)) from HT.out)
  generalize w.alloc (.cells #[.int .i64 t.kind, .string t.name, .int .i64 t.n, .slice g m c] 34) = u0 at HD0 HT0 ⊢
  clear HD HT
  have x0 : u0.cell? ⟨w.heap.size, 0, none⟩ = some (.int .i64 t.kind) := HD0.out.c0
  have x1 : u0.cell? ⟨w.heap.size, 1, none⟩ = some (.string t.name) := HD0.out.c1
  have x2 : u0.cell? ⟨w.heap.size, 2, none⟩ = some (.int .i64 t.n) := HD0.out.c2
  have x3 : u0.cell? ⟨w.heap.size, 3, none⟩ = some (.slice g m c) := HD0.out.c3
  go_upto_region 2 with (go_at_call 34; (with_reducible refine (HP.out _ HD0.out.hi).mono ?_); rintro e u1 ⟨rfl, hb⟩; have HD1 := Lib.hid (HD0.out.next hb); have HT1 := Lib.hid (HT0.out.next hb); clear hb x0 x1 x2 x3)
  obtain ⟨u2, hu2⟩ : ∃ u2, u1.alloc (.cells #[.string t.name, .int .i64 (m : Nat)] 75) = u2 := ⟨_, rfl⟩
  have hb2 : Below u1.heap.size u1 u2 := hu2 ▸ (Below.refl _ u1).alloc (Nat.le_refl _) _
  have hn2 : u2.heap[u1.heap.size]? = some (.cells #[.string t.name, .int .i64 (m : Nat)] 75 (0, 0)) := hu2 ▸ heap_alloc_new u1 _
  rw [hu2]
  have z0 : u2.cell? ⟨u1.heap.size, 0, none⟩ = some (.string t.name) := by simp [World.cell?, hn2]
  have z1 : u2.cell? ⟨u1.heap.size, 1, none⟩ = some (.int .i64 (m : Nat)) := by simp [World.cell?, hn2]
  have zl : u1.heap.size < u2.heap.size := (Array.getElem?_eq_some_iff.1 hn2).1
  have HD2 := Lib.hid (HD1.out.next hb2)
  have HT2 := Lib.hid (HT1.out.next hb2)
  have x0 : u2.cell? ⟨w.heap.size, 0, none⟩ = some (.int .i64 t.kind) := HD2.out.c0
  clear hu2 hb2 hn2
  by_cases h3 : t.kind = 3
  case neg =>
    have k3 : (t.kind == 3) = false := by rw [beq_eq_false_iff_ne]; exact h3
    have HR := Lib.hid (show ownB t = false by rw [HX.out]; simp [h3])
    clear h3
    go_wp2_with fail
    go_ret
    exact ⟨by rw [HR.out]; rfl, HD2.out.low⟩
  have k3 : (t.kind == 3) = true := by rw [beq_iff_eq]; exact h3
  have HX := Lib.hid (show ownB t = (!xb && !xc) by rw [HX.out]; simp [h3])
  clear h3
  cases xb with
  | true =>
    have HR := Lib.hid (show ownB t = false by rw [HX.out]; rfl)
    go_wp2_with (go_at_call 32; (with_reducible refine (HB.out _ HT2.out).mono ?_); rintro e u3 ⟨rfl, hb⟩; have HD3 := Lib.hid (HD2.out.next hb); clear hb)
    go_ret
    exact ⟨by rw [HR.out]; rfl, HD3.out.low⟩
  | false =>
    have HR := Lib.hid (show ownB t = !xc by rw [HX.out]; rfl)
    go_wp2_with (first
      | (go_at_call 32; (with_reducible refine (HB.out _ HT2.out).mono ?_); rintro e u3 ⟨rfl, hb⟩; have HD3 := Lib.hid (HD2.out.next hb); have HT3 := Lib.hid (HT2.out.next hb); have z0 : u3.cell? ⟨u1.heap.size, 0, none⟩ = some (.string t.name) := (hb.cell (p := ⟨u1.heap.size, 0, none⟩) zl).trans z0; have z1 : u3.cell? ⟨u1.heap.size, 1, none⟩ = some (.int .i64 (m : Nat)) := (hb.cell (p := ⟨u1.heap.size, 1, none⟩) zl).trans z1; have zl3 : u1.heap.size < u3.heap.size := Nat.lt_of_lt_of_le zl hb.size; clear hb)
      | (go_at_call 33; (with_reducible refine (HC.out _ HT3.out).mono ?_); rintro e u4 ⟨rfl, hb⟩; have HD4 := Lib.hid (HD3.out.next hb); clear hb))
    go_ret
    exact ⟨by rw [HR.out]; rfl, HD4.out.low⟩
end Go.Proofs.YtkjnjahmlobjiaaGreatDoor
