/-
  The goals of a term as the program makes them, purely.
  Reading, purely: terms out of tokens, by operators and their priorities; clauses.
-/
import Derived.Test.YtkjnjahmlobjiaaGreatDoorG02
import Derived.Test.YtkjnjahmlobjiaaGreatDoorG00
namespace Go.Proofs.YtkjnjahmlobjiaaGreatDoor

/-- Is a term of this name, with so many Args? -/
def isB (t : Tm) (s : List UInt8) (n : Nat) : Bool := decide (bsN t.name = s) && decide (t.args.length = n)
def argN (t : Tm) (i : Nat) : Tm := t.args.getD i zT
def failT : Tm := .mk 3 ⟨#[102, 97, 105, 108]⟩ 0 []
def trueT : Tm := .mk 3 ⟨#[116, 114, 117, 101]⟩ 0 []
/-- So many goals have begun; what is amiss. -/
abbrev MSt := Nat × Nat
abbrev MRec := Tm → Nat → Bool → MSt → List Gl × MSt
def brE (rec : MRec) (th el : Tm) (ins : Nat) (cut : Bool) (st : MSt) : Gl × MSt :=
  (.mk 4 zT (rec (argN th 0) (ins + 1) false st).1 (rec (argN th 1) (ins + 1) cut (rec (argN th 0) (ins + 1) false st).2).1 (rec el (ins + 1) cut (rec (argN th 1) (ins + 1) cut (rec (argN th 0) (ins + 1) false st).2).2).1,
    (rec el (ins + 1) cut (rec (argN th 1) (ins + 1) cut (rec (argN th 0) (ins + 1) false st).2).2).2)
def noG : Gl := .mk 0 zT [] [] []
/-- The goal that a term is. -/
def mkG (rec : MRec) (t : Tm) (ins : Nat) (cut : Bool) (st : MSt) : Gl × MSt :=
  if (isB t [33] 0 && cut) = true then (.mk 3 zT [] [] [], st)
  else if (isB t [59] 2 && isB (argN t 0) [45, 62] 2) = true then brE rec (argN t 0) (argN t 1) ins cut st
  else if isB t [45, 62] 2 = true then brE rec t failT ins cut st
  else if isB t [92, 43] 1 = true then (.mk 5 zT (rec (argN t 0) (ins + 1) false st).1 [] [], (rec (argN t 0) (ins + 1) false st).2)
  else if ctlB (bsN t.name) t.args.length = true then (noG, (st.1, 5))
  else if bltn (bsN t.name) t.args.length = true then (.mk 2 t [] [] [], st)
  else (.mk 1 t [] [] [], st)
/-- The goals of a term. -/
def mkL : Nat → Tm → Nat → Bool → MSt → List Gl × MSt
  | 0, _, _, _, st => ([], st)
  | f + 1, t, ins, cut, st =>
    if st.2 ≠ 0 ∨ isB t [116, 114, 117, 101] 0 = true then ([], st)
    else if t.kind ≠ 3 then ([], (st.1, 5))
    else if isB t [44] 2 = true then
      ((mkL f (argN t 0) ins cut st).1 ++ (mkL f (argN t 1) ins cut (mkL f (argN t 0) ins cut st).2).1, (mkL f (argN t 1) ins cut (mkL f (argN t 0) ins cut st).2).2)
    else if st.1 + 1 ≤ 20 ∧ ins ≤ 9 then ([(mkG (mkL f) t ins cut (st.1 + 1, st.2)).1], (mkG (mkL f) t ins cut (st.1 + 1, st.2)).2)
    else ([], (st.1 + 1, 3))
def okSt (st : MSt) : Prop := st.1 ≤ 21 ∧ st.2 ≤ 5 ∧ (st.2 = 0 → st.1 ≤ 20)
def okRec (rec : MRec) : Prop := ∀ t ins cut st, okSt st → okSt (rec t ins cut st).2 ∧ (rec t ins cut st).1.length + st.1 ≤ (rec t ins cut st).2.1
theorem brE_ok {rec : MRec} (h : okRec rec) (th el : Tm) (ins : Nat) (cut : Bool) {st : MSt} (hs : okSt st) : okSt (brE rec th el ins cut st).2 ∧ st.1 ≤ (brE rec th el ins cut st).2.1 := by
  obtain ⟨h1, h2⟩ := h (argN th 0) (ins + 1) false st hs
  obtain ⟨h3, h4⟩ := h (argN th 1) (ins + 1) cut _ h1
  obtain ⟨h5, h6⟩ := h el (ins + 1) cut _ h3
  exact ⟨h5, by unfold brE; simp only []; omega⟩
theorem mkG_ok {rec : MRec} (h : okRec rec) (t : Tm) (ins : Nat) (cut : Bool) {st : MSt} (hs : okSt st) : okSt (mkG rec t ins cut st).2 ∧ st.1 ≤ (mkG rec t ins cut st).2.1 := by
  unfold mkG
  split
  · exact ⟨hs, Nat.le_refl _⟩
  split
  · exact brE_ok h _ _ _ _ hs
  split
  · exact brE_ok h _ _ _ _ hs
  split
  · obtain ⟨h1, h2⟩ := h (argN t 0) (ins + 1) false st hs
    exact ⟨h1, by simp only []; omega⟩
  split
  · exact ⟨⟨hs.1, by simp, by simp⟩, Nat.le_refl _⟩
  split
  · exact ⟨hs, Nat.le_refl _⟩
  · exact ⟨hs, Nat.le_refl _⟩
theorem mkL_ok : ∀ f, okRec (mkL f)
  | 0 => fun t ins cut st hs => ⟨hs, by simp [mkL]⟩
  | f + 1 => fun t ins cut st hs => by
    have ih := mkL_ok f
    rw [mkL]
    split
    · exact ⟨hs, by simp⟩
    rename_i h0
    have h9 : st.2 = 0 := by
      by_cases e : st.2 = 0
      · exact e
      · exact absurd (.inl e) h0
    have h8 := hs.2.2 h9
    split
    · exact ⟨⟨hs.1, by simp, by simp⟩, by simp⟩
    split
    · obtain ⟨h1, h2⟩ := ih (argN t 0) ins cut st hs
      obtain ⟨h3, h4⟩ := ih (argN t 1) ins cut _ h1
      exact ⟨h3, by simp only [List.length_append]; omega⟩
    split
    · rename_i h7
      obtain ⟨h1, h2⟩ := mkG_ok ih t ins cut (st := (st.1 + 1, st.2)) ⟨by simp only []; omega, hs.2.1, fun _ => h7.1⟩
      exact ⟨h1, by simp only [List.length_cons, List.length_nil]; simp only [] at h2; omega⟩
    · exact ⟨⟨by simp only []; omega, by simp, by simp⟩, by simp⟩
theorem argN_eq {t : Tm} {i : Nat} (h : i < t.args.length) : argN t i = t.args[i] := by
  unfold argN
  simp [List.getD, List.getElem?_eq_getElem h]
theorem arg_small {t : Tm} {i : Nat} (h : i < t.args.length) : (argN t i).size < t.size := by
  rw [argN_eq h]
  have h1 := Tm.size_mem_le (List.getElem_mem h)
  have h2 : t.size = Tm.sizes t.args + 1 := by
    cases t
    simp only [Tm.size, Tm.args]
  omega
theorem isB_iff {t : Tm} {s : List UInt8} {n : Nat} : isB t s n = true ↔ bsN t.name = s ∧ t.args.length = n := by simp [isB]
theorem isB_other {t : Tm} {s s' : List UInt8} {n n' : Nat} (h : isB t s n = true) (hne : s ≠ s' ∨ n ≠ n') : isB t s' n' = false := by
  obtain ⟨h1, h2⟩ := isB_iff.1 h
  cases h9 : isB t s' n' with
  | false => rfl
  | true =>
    obtain ⟨h3, h4⟩ := isB_iff.1 h9
    rcases hne with h | h
    · exact absurd (h1.symm.trans h3) h
    · exact absurd (h2.symm.trans h4) h
theorem isB_ctl {t : Tm} {s : List UInt8} {n : Nat} (h : isB t s n = true) (hc : ctlB s n = true) : ctlB (bsN t.name) t.args.length = true := by
  obtain ⟨h1, h2⟩ := isB_iff.1 h
  rw [h1, h2]
  exact hc
section
variable (rec : MRec) (t : Tm) (ins : Nat) (cut : Bool) (st : MSt)
theorem mkG_cut (h1 : isB t [33] 0 = true) : mkG rec t ins true st = (.mk 3 zT [] [] [], st) := by simp [mkG, h1]
theorem mkG_if (h1 : isB t [33] 0 = false) (h2 : isB t [59] 2 = true) (h3 : isB (argN t 0) [45, 62] 2 = true) : mkG rec t ins cut st = brE rec (argN t 0) (argN t 1) ins cut st := by simp [mkG, h1, h2, h3]
theorem mkG_then (h1 : isB t [33] 0 = false) (h2 : isB t [59] 2 = false) (h3 : isB t [45, 62] 2 = true) : mkG rec t ins cut st = brE rec t failT ins cut st := by simp [mkG, h1, h2, h3]
theorem mkG_not (h1 : isB t [33] 0 = false) (h2 : isB t [59] 2 = false) (h3 : isB t [45, 62] 2 = false) (h4 : isB t [92, 43] 1 = true) : mkG rec t ins cut st = (.mk 5 zT (rec (argN t 0) (ins + 1) false st).1 [] [], (rec (argN t 0) (ins + 1) false st).2) := by simp [mkG, h1, h2, h3, h4]
theorem mkG_ctl (h1 : (isB t [33] 0 && cut) = false) (h2 : (isB t [59] 2 && isB (argN t 0) [45, 62] 2) = false) (h3 : isB t [45, 62] 2 = false) (h4 : isB t [92, 43] 1 = false) (h5 : ctlB (bsN t.name) t.args.length = true) : mkG rec t ins cut st = (noG, (st.1, 5)) := by
  unfold mkG
  rw [if_neg (by rw [h1]; exact Bool.false_ne_true), if_neg (by rw [h2]; exact Bool.false_ne_true), if_neg (by rw [h3]; exact Bool.false_ne_true), if_neg (by rw [h4]; exact Bool.false_ne_true), if_pos h5]
theorem mkG_does (h1 : isB t [33] 0 = false) (h2 : isB t [59] 2 = false) (h3 : isB t [45, 62] 2 = false) (h4 : isB t [92, 43] 1 = false) (h5 : ctlB (bsN t.name) t.args.length = false) (h6 : bltn (bsN t.name) t.args.length = true) : mkG rec t ins cut st = (.mk 2 t [] [] [], st) := by simp [mkG, h1, h2, h3, h4, h5, h6]
theorem mkG_call (h1 : isB t [33] 0 = false) (h2 : isB t [59] 2 = false) (h3 : isB t [45, 62] 2 = false) (h4 : isB t [92, 43] 1 = false) (h5 : ctlB (bsN t.name) t.args.length = false) (h6 : bltn (bsN t.name) t.args.length = false) : mkG rec t ins cut st = (.mk 1 t [] [] [], st) := by simp [mkG, h1, h2, h3, h4, h5, h6]
end
/-! ### how much is made -/
theorem gl_size (k : Int) (t : Tm) (a b c : List Gl) : (Gl.mk k t a b c).size = t.size + Gl.sizes a + Gl.sizes b + Gl.sizes c + 1 := rfl
theorem sizes_app (a b : List Gl) : Gl.sizes (a ++ b) = Gl.sizes a + Gl.sizes b := by
  induction a with
  | nil => simp [Gl.sizes]
  | cons g r ih => simp only [List.cons_append, Gl.sizes, ih]; omega
theorem sizes_one (g : Gl) : Gl.sizes [g] = g.size := by simp [Gl.sizes]
theorem zT_size : zT.size = 1 := rfl
theorem failT_size : failT.size = 1 := rfl
def fewRec (rec : MRec) : Prop := ∀ t ins cut st, Gl.sizes (rec t ins cut st).1 + 2 ≤ 4 * t.size
theorem args_two {t : Tm} (h : t.args.length = 2) : (argN t 0).size + (argN t 1).size + 1 = t.size := by
  cases t with
  | mk k s n l =>
    match l, h with
    | [a, b], _ => simp [argN, Tm.args, List.getD, Tm.size, Tm.sizes]
theorem args_one {t : Tm} (h : t.args.length = 1) : (argN t 0).size + 1 = t.size := by
  cases t with
  | mk k s n l =>
    match l, h with
    | [a], _ => simp [argN, Tm.args, List.getD, Tm.size, Tm.sizes]
theorem brE_few {rec : MRec} (h : fewRec rec) (th el : Tm) (ins : Nat) (cut : Bool) (st : MSt) : (brE rec th el ins cut st).1.size + 4 ≤ 4 * ((argN th 0).size + (argN th 1).size + el.size) := by
  have h1 := h (argN th 0) (ins + 1) false st
  have h2 := h (argN th 1) (ins + 1) cut (rec (argN th 0) (ins + 1) false st).2
  have h3 := h el (ins + 1) cut (rec (argN th 1) (ins + 1) cut (rec (argN th 0) (ins + 1) false st).2).2
  unfold brE
  simp only [gl_size, zT_size]
  omega
theorem mkG_few {rec : MRec} (h : fewRec rec) (t : Tm) (ins : Nat) (cut : Bool) (st : MSt) : (mkG rec t ins cut st).1.size + 2 ≤ 4 * t.size := by
  have hp := Tm.size_pos t
  unfold mkG
  split
  · simp only [gl_size, zT_size, Gl.sizes]; omega
  split
  · rename_i h1
    rw [Bool.and_eq_true] at h1
    have h2 := brE_few h (argN t 0) (argN t 1) ins cut st
    have h3 := args_two (isB_iff.1 h1.1).2
    have h4 := args_two (isB_iff.1 h1.2).2
    omega
  split
  · rename_i h1
    have h2 := brE_few h t failT ins cut st
    have h3 := args_two (isB_iff.1 h1).2
    rw [failT_size] at h2
    omega
  split
  · rename_i h1
    have h2 := h (argN t 0) (ins + 1) false st
    have h3 := args_one (isB_iff.1 h1).2
    simp only [gl_size, zT_size, Gl.sizes]
    omega
  split
  · simp only [noG, gl_size, zT_size, Gl.sizes]; omega
  split
  · simp only [gl_size, Gl.sizes]; omega
  · simp only [gl_size, Gl.sizes]; omega
theorem mkL_few : ∀ f, fewRec (mkL f)
  | 0 => fun t ins cut st => by have := Tm.size_pos t; simp only [mkL, Gl.sizes]; omega
  | f + 1 => fun t ins cut st => by
    have ih := mkL_few f
    have hp := Tm.size_pos t
    rw [mkL]
    split
    · simp only [Gl.sizes]; omega
    split
    · simp only [Gl.sizes]; omega
    split
    · rename_i h1
      have h2 := ih (argN t 0) ins cut st
      have h3 := ih (argN t 1) ins cut (mkL f (argN t 0) ins cut st).2
      have h4 := args_two (isB_iff.1 h1).2
      simp only [sizes_app]
      omega
    split
    · have h2 := mkG_few ih t ins cut (st.1 + 1, st.2)
      simp only [sizes_one]
      omega
    · simp only [Gl.sizes]; omega
/-- The goals of a term, or the error. -/
def goalsE (t : Tm) : Except Nat (List Gl) :=
  if t.right = false then .error 1
  else if (mkL t.size t 0 true (0, 0)).2.2 = 0 then .ok (mkL t.size t 0 true (0, 0)).1
  else .error (mkL t.size t 0 true (0, 0)).2.2
theorem goalsE_ok {t : Tm} {l : List Gl} (h : goalsE t = .ok l) : t.right = true ∧ Gl.sizes l + 2 ≤ 4 * t.size ∧ l.length ≤ 21 := by
  unfold goalsE at h
  split at h
  · cases h
  · rename_i hr
    split at h
    · injection h with h
      subst h
      have h1 := mkL_ok t.size t 0 true (0, 0) ⟨by simp, by simp, by simp⟩
      have h2 := h1.1.1
      exact ⟨by simpa using hr, mkL_few _ _ _ _ _, by have := h1.2; omega⟩
    · cases h
theorem right_size {t : Tm} (h : t.right = true) : t.size ≤ 3000 := by
  simp only [Tm.right, Bool.and_eq_true, decide_eq_true_eq] at h
  exact h.1.2
end Go.Proofs.YtkjnjahmlobjiaaGreatDoor

namespace Go.Proofs.YtkjnjahmlobjiaaGreatDoor

abbrev Toks := List (Tk × Nat)
abbrev Names := List (List UInt8)
def ops7 : Names := [[61], [92, 61], [61, 61], [92, 61, 61], [64, 60], [64, 62], [64, 61, 60], [64, 62, 61], [105, 115], [61, 58, 61], [61, 92, 61], [60], [62], [61, 60], [62, 61]]
def ops5 : Names := [[43], [45]]
def ops4 : Names := [[42], [47, 47], [109, 111, 100]]
/-- The priority of an operator between two terms, and those of its sides; 0: it is none. -/
def infixP (s : List UInt8) : Nat × Nat × Nat :=
  if s = [58, 45] then (1200, 1199, 1199)
  else if s = [59] then (1100, 1099, 1100)
  else if s = [45, 62] then (1050, 1049, 1050)
  else if s = [44] then (1000, 999, 1000)
  else if s ∈ ops7 then (700, 699, 699)
  else if s ∈ ops5 then (500, 500, 499)
  else if s ∈ ops4 then (400, 400, 399)
  else (0, 0, 0)
def prefP (s : List UInt8) : Nat := if s = [45] then 200 else if s = [92, 43] then 900 else 0
/-- The byte of the next token. -/
def placeT (S : List UInt8) : Toks → Nat
  | [] => S.length
  | x :: _ => x.2
/-- Is the next token a mark? -/
def seeT (m : UInt8) : Toks → Bool
  | [] => false
  | x :: _ => decide (x.1.kind = 4 ∧ x.1.text = [m])
/-- May the next token begin the term of an operator ahead of one term? -/
def begT : Toks → Bool
  | [] => false
  | x :: _ => decide (x.1.kind = 2 ∨ x.1.kind = 3 ∨ (x.1.kind = 1 ∧ (infixP x.1.text).1 = 0) ∨ (x.1.kind = 4 ∧ (x.1.text = [40] ∨ x.1.text = [91])))
/-- Is the next token a Number at a place? -/
def numAt (p : Nat) : Toks → Bool
  | [] => false
  | x :: _ => decide (x.1.kind = 3 ∧ x.2 = p)
def nextN : Toks → Nat
  | [] => 0
  | x :: _ => x.1.n
/-- Which operator between two terms stands next, in a place for one of some priority. -/
def opT (now p : Nat) : Toks → Bool
  | [] => false
  | x :: _ => decide ((x.1.kind = 1 ∨ (x.1.kind = 4 ∧ x.1.text = [44])) ∧ (infixP x.1.text).1 ≠ 0 ∧ (infixP x.1.text).1 ≤ p ∧ now ≤ (infixP x.1.text).2.1)
/-- The place of a text in a row of texts. -/
def findN (tx : List UInt8) : Names → Option Nat
  | [] => none
  | x :: r => if x = tx then some 0 else (findN tx r).map (· + 1)
/-- The number of a variable, and the variables' texts behind it. -/
def varN (ns : Names) (tx : List UInt8) : Nat × Names :=
  if tx = [95] ∨ tx = [] then (ns.length, ns ++ [[]])
  else match findN tx ns with
    | some i => (i, ns)
    | none => (ns.length, ns ++ [tx])
def nmT (x : Tk × Nat) : ByteArray := ⟨x.1.text.toArray⟩
def funT (s : ByteArray) (l : List Tm) : Tm := .mk 3 s 0 l
def numT (n : Int) : Tm := .mk 2 ⟨#[]⟩ n []
def varT (v : Nat) : Tm := .mk 1 ⟨#[]⟩ v []
def listT (l : List Tm) (t : Tm) : Tm := l.foldr (fun x r => funT ⟨#[46]⟩ [x, r]) t
abbrev RRes (α : Type) := Except (Nat × Nat) (α × Toks × Names)
/-- A mark that must stand there. -/
def needT (S : List UInt8) (m : UInt8) (ts : Toks) : Except (Nat × Nat) Toks := if seeT m ts = true then .ok ts.tail else .error (2, placeT S ts)
mutual
/-- What stands behind a term of some priority, up to one. -/
def rdRest (S : List UInt8) : Nat → Tm → Nat → Nat → Nat → Toks → Names → RRes Tm
  | 0, _, _, _, _, _, _ => .error (9, 0)
  | f + 1, t, now, p, deep, ts, ns =>
    match ts with
    | [] => .ok (t, [], ns)
    | x :: r =>
      if opT now p (x :: r) = true then
        match rdTerm S f (infixP x.1.text).2.2 deep r ns with
        | .error e => .error e
        | .ok (u, r', ns') => rdRest S f (funT (nmT x) [t, u]) (infixP x.1.text).1 p deep r' ns'
      else .ok (t, x :: r, ns)
/-- A term up to a priority. -/
def rdTerm (S : List UInt8) : Nat → Nat → Nat → Toks → Names → RRes Tm
  | 0, _, _, _, _ => .error (9, 0)
  | f + 1, p, deep, ts, ns =>
    if 999 < deep then .error (3, placeT S ts)
    else match ts with
    | [] => .error (2, S.length)
    | x :: r =>
      if x.1.kind = 3 then rdRest S f (numT x.1.n) 0 p deep r ns
      else if x.1.kind = 2 then rdRest S f (varT (varN ns x.1.text).1) 0 p deep r (varN ns x.1.text).2
      else if x.1.kind = 1 then
        match rdName S f x p deep r ns with
        | .error e => .error e
        | .ok ((t, q), r', ns') => rdRest S f t q p deep r' ns'
      else if seeT 40 (x :: r) = true then
        match rdTerm S f 1200 (deep + 1) r ns with
        | .error e => .error e
        | .ok (t, r1, ns1) => match needT S 41 r1 with
          | .error e => .error e
          | .ok r2 => rdRest S f t 0 p deep r2 ns1
      else if seeT 91 (x :: r) = true then
        match rdRow S f deep r ns with
        | .error e => .error e
        | .ok (l, r1, ns1) =>
          if seeT 124 r1 = true then
            match rdTerm S f 999 (deep + 1) r1.tail ns1 with
            | .error e => .error e
            | .ok (t, r2, ns2) => match needT S 93 r2 with
              | .error e => .error e
              | .ok r3 => rdRest S f (listT l t) 0 p deep r3 ns2
          else match needT S 93 r1 with
            | .error e => .error e
            | .ok r3 => rdRest S f (listT l (funT ⟨#[91, 93]⟩ [])) 0 p deep r3 ns1
      else .error (2, x.2)
/-- What begins with a name, and its priority. -/
def rdName (S : List UInt8) : Nat → Tk × Nat → Nat → Nat → Toks → Names → RRes (Tm × Nat)
  | 0, _, _, _, _, _ => .error (9, 0)
  | f + 1, x, p, deep, r, ns =>
    if x.1.text = [45] ∧ S[x.2]? = some 45 ∧ numAt (x.2 + 1) r = true then .ok ((numT (-(nextN r : Int)), 0), r.tail, ns)
    else if x.1.opn = true then
      match needT S 40 r with
      | .error e => .error e
      | .ok r1 => match rdRow S f deep r1 ns with
        | .error e => .error e
        | .ok (l, r2, ns2) => match needT S 41 r2 with
          | .error e => .error e
          | .ok r3 => .ok ((funT (nmT x) l, 0), r3, ns2)
    else if prefP x.1.text = 0 ∨ begT r = false then .ok ((funT (nmT x) [], 0), r, ns)
    else if p < prefP x.1.text then .error (2, x.2)
    else match rdTerm S f (prefP x.1.text) (deep + 1) r ns with
      | .error e => .error e
      | .ok (u, r', ns') => .ok ((funT (nmT x) [u], prefP x.1.text), r', ns')
/-- Terms up to 999 with commas between. -/
def rdRow (S : List UInt8) : Nat → Nat → Toks → Names → RRes (List Tm)
  | 0, _, _, _ => .error (9, 0)
  | f + 1, deep, ts, ns =>
    match rdTerm S f 999 (deep + 1) ts ns with
    | .error e => .error e
    | .ok (t, r, ns1) =>
      if seeT 44 r = true then
        match rdRow S f deep r.tail ns1 with
        | .error e => .error e
        | .ok (l, r2, ns2) => .ok (t :: l, r2, ns2)
      else .ok ([t], r, ns1)
end
theorem needT_ok {S : List UInt8} {m : UInt8} {ts r : Toks} (h : needT S m ts = .ok r) : ∃ x, ts = x :: r ∧ x.1.kind = 4 ∧ x.1.text = [m] := by
  unfold needT at h
  split at h
  · rename_i h1
    injection h with h
    cases ts with
    | nil => simp [seeT] at h1
    | cons x q =>
      simp only [seeT, decide_eq_true_eq] at h1
      exact ⟨x, by rw [← h]; rfl, h1.1, h1.2⟩
  · cases h
theorem needT_len {S : List UInt8} {m : UInt8} {ts r : Toks} (h : needT S m ts = .ok r) : r.length < ts.length := by
  obtain ⟨x, rfl, _, _⟩ := needT_ok h
  unfold needT at h
  split at h
  · injection h with h; rw [← h]; simp
  · cases h
theorem varN_len (ns : Names) (tx : List UInt8) : (varN ns tx).2.length ≤ ns.length + 1 := by
  unfold varN
  split
  · simp
  · split <;> simp
/-- Reading goes on, and each variable is a token. -/
structure Went (ts ts' : Toks) (ns ns' : Names) (k : Nat) : Prop where
  len : ts'.length + k ≤ ts.length
  nms : ns'.length + ts'.length ≤ ns.length + ts.length
  suf : ∃ u, ts = u ++ ts'
theorem Went.refl (ts : Toks) (ns : Names) : Went ts ts ns ns 0 := ⟨Nat.le_refl _, Nat.le_refl _, [], rfl⟩
theorem Went.trans {ts t1 t2 : Toks} {ns n1 n2 : Names} {k j : Nat} (h : Went ts t1 ns n1 k) (g : Went t1 t2 n1 n2 j) : Went ts t2 ns n2 (k + j) := by
  obtain ⟨u, hu⟩ := h.suf
  obtain ⟨v, hv⟩ := g.suf
  refine ⟨by have := h.len; have := g.len; omega, by have := h.nms; have := g.nms; omega, u ++ v, by rw [hu, hv, List.append_assoc]⟩
theorem Went.less {ts t1 : Toks} {ns n1 : Names} {k j : Nat} (h : Went ts t1 ns n1 k) (hj : j ≤ k) : Went ts t1 ns n1 j := ⟨by have := h.len; omega, h.nms, h.suf⟩
theorem Went.one (x : Tk × Nat) (r : Toks) (ns : Names) : Went (x :: r) r ns ns 1 := ⟨by simp, by simp, [x], rfl⟩
theorem Went.var (x : Tk × Nat) (r : Toks) (ns : Names) : Went (x :: r) r ns (varN ns x.1.text).2 1 := ⟨by simp, by have := varN_len ns x.1.text; simp; omega, [x], rfl⟩
theorem Went.need {S : List UInt8} {m : UInt8} {ts r : Toks} {ns : Names} (h : needT S m ts = .ok r) : Went ts r ns ns 1 := by
  obtain ⟨x, rfl, _, _⟩ := needT_ok h
  unfold needT at h
  split at h
  · injection h with h; rw [← h]; exact Went.one x _ ns
  · cases h
theorem seeT_tail {m : UInt8} {ts : Toks} (ns : Names) (h : seeT m ts = true) : Went ts ts.tail ns ns 1 := by
  cases ts with
  | nil => cases h
  | cons x r => exact Went.one x r ns
theorem rd_went (S : List UInt8) : ∀ f : Nat,
    (∀ t now p deep ts ns u ts' ns', rdRest S f t now p deep ts ns = .ok (u, ts', ns') → Went ts ts' ns ns' 0) ∧
    (∀ p deep ts ns u ts' ns', rdTerm S f p deep ts ns = .ok (u, ts', ns') → Went ts ts' ns ns' 1) ∧
    (∀ x p deep ts ns u ts' ns', rdName S f x p deep ts ns = .ok (u, ts', ns') → Went ts ts' ns ns' 0) ∧
    (∀ deep ts ns u ts' ns', rdRow S f deep ts ns = .ok (u, ts', ns') → Went ts ts' ns ns' 1)
  | 0 => by
    refine ⟨?_, ?_, ?_, ?_⟩
    · intro t now p deep ts ns u ts' ns' h; rw [rdRest] at h; cases h
    · intro p deep ts ns u ts' ns' h; rw [rdTerm] at h; cases h
    · intro x p deep ts ns u ts' ns' h; rw [rdName] at h; cases h
    · intro deep ts ns u ts' ns' h; rw [rdRow] at h; cases h
  | f + 1 => by
    obtain ⟨ih1, ih2, ih3, ih4⟩ := rd_went S f
    refine ⟨?_, ?_, ?_, ?_⟩
    · intro t now p deep ts ns u ts' ns' h
      rw [rdRest.eq_def] at h
      dsimp only at h
      split at h
      · injection h with h; injection h with _ h; injection h with h1 h2; subst h1 h2; exact Went.refl _ _
      · rename_i x r
        split at h
        · split at h
          · cases h
          · rename_i v r1 ns1 hv
            exact ((Went.one x r ns).trans ((ih2 _ _ _ _ _ _ _ hv).trans (ih1 _ _ _ _ _ _ _ _ _ h))).less (Nat.zero_le _)
        · injection h with h; injection h with _ h; injection h with h1 h2; subst h1 h2; exact Went.refl _ _
    · intro p deep ts ns u ts' ns' h
      rw [rdTerm.eq_def] at h
      dsimp only at h
      split at h
      · cases h
      split at h
      · cases h
      rename_i x r
      split at h
      · exact (Went.one x r ns).trans (ih1 _ _ _ _ _ _ _ _ _ h)
      split at h
      · exact (Went.var x r ns).trans (ih1 _ _ _ _ _ _ _ _ _ h)
      split at h
      · split at h
        · cases h
        · rename_i t q r1 ns1 hv
          exact (((Went.one x r ns).trans (ih3 _ _ _ _ _ _ _ _ hv)).trans (ih1 _ _ _ _ _ _ _ _ _ h)).less (by omega)
      split at h
      · split at h
        · cases h
        · rename_i t r1 ns1 hv
          split at h
          · cases h
          · rename_i r2 hn
            exact ((((Went.one x r ns).trans (ih2 _ _ _ _ _ _ _ hv)).trans (Went.need hn)).trans (ih1 _ _ _ _ _ _ _ _ _ h)).less (by omega)
      split at h
      · split at h
        · cases h
        · rename_i l r1 ns1 hv
          split at h
          · rename_i hs
            split at h
            · cases h
            · rename_i t r2 ns2 ht
              split at h
              · cases h
              · rename_i r3 hn
                exact ((((((Went.one x r ns).trans (ih4 _ _ _ _ _ _ hv)).trans (seeT_tail _ hs)).trans (ih2 _ _ _ _ _ _ _ ht)).trans (Went.need hn)).trans (ih1 _ _ _ _ _ _ _ _ _ h)).less (by omega)
          · split at h
            · cases h
            · rename_i r3 hn
              exact ((((Went.one x r ns).trans (ih4 _ _ _ _ _ _ hv)).trans (Went.need hn)).trans (ih1 _ _ _ _ _ _ _ _ _ h)).less (by omega)
      · cases h
    · intro x p deep ts ns u ts' ns' h
      rw [rdName] at h
      split at h
      · rename_i hc
        injection h with h; injection h with _ h; injection h with h1 h2; subst h1 h2
        cases ts with
        | nil => exact absurd hc.2.2 (by simp [numAt])
        | cons y r => exact (Went.one y r ns).less (Nat.zero_le _)
      split at h
      · split at h
        · cases h
        · rename_i r1 hn
          split at h
          · cases h
          · rename_i l r2 ns2 hv
            split at h
            · cases h
            · rename_i r3 hn2
              injection h with h; injection h with _ h; injection h with h1 h2; subst h1 h2
              exact (((Went.need hn).trans (ih4 _ _ _ _ _ _ hv)).trans (Went.need hn2)).less (Nat.zero_le _)
      split at h
      · injection h with h; injection h with _ h; injection h with h1 h2; subst h1 h2; exact Went.refl _ _
      split at h
      · cases h
      split at h
      · cases h
      · rename_i v r1 ns1 hv
        injection h with h; injection h with _ h; injection h with h1 h2; subst h1 h2
        exact (ih2 _ _ _ _ _ _ _ hv).less (Nat.zero_le _)
    · intro deep ts ns u ts' ns' h
      rw [rdRow] at h
      split at h
      · cases h
      · rename_i t r ns1 hv
        split at h
        · rename_i hs
          split at h
          · cases h
          · rename_i l r2 ns2 hl
            injection h with h; injection h with _ h; injection h with h1 h2; subst h1 h2
            exact (((ih2 _ _ _ _ _ _ _ hv).trans (seeT_tail _ hs)).trans (ih4 _ _ _ _ _ _ hl)).less (by omega)
        · injection h with h; injection h with _ h; injection h with h1 h2; subst h1 h2
          exact ih2 _ _ _ _ _ _ _ hv
end Go.Proofs.YtkjnjahmlobjiaaGreatDoor
