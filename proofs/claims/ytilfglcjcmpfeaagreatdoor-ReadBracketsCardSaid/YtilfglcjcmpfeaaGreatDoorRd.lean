/-
  Reading, purely: terms out of tokens, by operators and their priorities; clauses.
-/
import Derived.Test.YtilfglcjcmpfeaaGreatDoorLex
import Derived.Test.YtilfglcjcmpfeaaGreatDoorTm
namespace Go.Proofs.YtilfglcjcmpfeaaGreatDoor

abbrev Toks := List (Tk × Nat)
abbrev Names := List (List UInt8)
def ops7 : Names := [[61], [92, 61], [61, 61], [92, 61, 61], [64, 60], [64, 62], [64, 61, 60], [64, 62, 61], [105, 115], [61, 58, 61], [61, 92, 61], [60], [62], [61, 60], [62, 61]]
def ops5 : Names := [[43], [45]]
def ops4 : Names := [[42], [47, 47], [109, 111, 100]]
/-- The priority of an operator between two terms, and those of its sides; 0: it is none. -/
def infixP (s : List UInt8) : Nat × Nat × Nat :=
  if s = [58, 45] then (1200, 1199, 1199)
  else if s = [59] then (1100, 1099, 1100)
  else if s = [45, 62] then (1050, 1049, 1050)
  else if s = [44] then (1000, 999, 1000)
  else if s ∈ ops7 then (700, 699, 699)
  else if s ∈ ops5 then (500, 500, 499)
  else if s ∈ ops4 then (400, 400, 399)
  else (0, 0, 0)
def prefP (s : List UInt8) : Nat := if s = [45] then 200 else if s = [92, 43] then 900 else 0
/-- The byte of the next token. -/
def placeT (S : List UInt8) : Toks → Nat
  | [] => S.length
  | x :: _ => x.2
/-- Is the next token a mark? -/
def seeT (m : UInt8) : Toks → Bool
  | [] => false
  | x :: _ => decide (x.1.kind = 4 ∧ x.1.text = [m])
/-- May the next token begin the term of an operator ahead of one term? -/
def begT : Toks → Bool
  | [] => false
  | x :: _ => decide (x.1.kind = 2 ∨ x.1.kind = 3 ∨ (x.1.kind = 1 ∧ (infixP x.1.text).1 = 0) ∨ (x.1.kind = 4 ∧ (x.1.text = [40] ∨ x.1.text = [91])))
/-- Is the next token a Number at a place? -/
def numAt (p : Nat) : Toks → Bool
  | [] => false
  | x :: _ => decide (x.1.kind = 3 ∧ x.2 = p)
def nextN : Toks → Nat
  | [] => 0
  | x :: _ => x.1.n
/-- Which operator between two terms stands next, in a place for one of some priority. -/
def opT (now p : Nat) : Toks → Bool
  | [] => false
  | x :: _ => decide ((x.1.kind = 1 ∨ (x.1.kind = 4 ∧ x.1.text = [44])) ∧ (infixP x.1.text).1 ≠ 0 ∧ (infixP x.1.text).1 ≤ p ∧ now ≤ (infixP x.1.text).2.1)
/-- The place of a text in a row of texts. -/
def findN (tx : List UInt8) : Names → Option Nat
  | [] => none
  | x :: r => if x = tx then some 0 else (findN tx r).map (· + 1)
/-- The number of a variable, and the variables' texts behind it. -/
def varN (ns : Names) (tx : List UInt8) : Nat × Names :=
  if tx = [95] ∨ tx = [] then (ns.length, ns ++ [[]])
  else match findN tx ns with
    | some i => (i, ns)
    | none => (ns.length, ns ++ [tx])
def nmT (x : Tk × Nat) : ByteArray := ⟨x.1.text.toArray⟩
def funT (s : ByteArray) (l : List Tm) : Tm := .mk 3 s 0 l
def numT (n : Int) : Tm := .mk 2 ⟨#[]⟩ n []
def varT (v : Nat) : Tm := .mk 1 ⟨#[]⟩ v []
def listT (l : List Tm) (t : Tm) : Tm := l.foldr (fun x r => funT ⟨#[46]⟩ [x, r]) t
abbrev RRes (α : Type) := Except (Nat × Nat) (α × Toks × Names)
/-- A mark that must stand there. -/
def needT (S : List UInt8) (m : UInt8) (ts : Toks) : Except (Nat × Nat) Toks := if seeT m ts = true then .ok ts.tail else .error (2, placeT S ts)
mutual
/-- What stands behind a term of some priority, up to one. -/
def rdRest (S : List UInt8) : Nat → Tm → Nat → Nat → Nat → Toks → Names → RRes Tm
  | 0, _, _, _, _, _, _ => .error (9, 0)
  | f + 1, t, now, p, deep, ts, ns =>
    match ts with
    | [] => .ok (t, [], ns)
    | x :: r =>
      if opT now p (x :: r) = true then
        match rdTerm S f (infixP x.1.text).2.2 deep r ns with
        | .error e => .error e
        | .ok (u, r', ns') => rdRest S f (funT (nmT x) [t, u]) (infixP x.1.text).1 p deep r' ns'
      else .ok (t, x :: r, ns)
/-- A term up to a priority. -/
def rdTerm (S : List UInt8) : Nat → Nat → Nat → Toks → Names → RRes Tm
  | 0, _, _, _, _ => .error (9, 0)
  | f + 1, p, deep, ts, ns =>
    if 999 < deep then .error (3, placeT S ts)
    else match ts with
    | [] => .error (2, S.length)
    | x :: r =>
      if x.1.kind = 3 then rdRest S f (numT x.1.n) 0 p deep r ns
      else if x.1.kind = 2 then rdRest S f (varT (varN ns x.1.text).1) 0 p deep r (varN ns x.1.text).2
      else if x.1.kind = 1 then
        match rdName S f x p deep r ns with
        | .error e => .error e
        | .ok ((t, q), r', ns') => rdRest S f t q p deep r' ns'
      else if seeT 40 (x :: r) = true then
        match rdTerm S f 1200 (deep + 1) r ns with
        | .error e => .error e
        | .ok (t, r1, ns1) => match needT S 41 r1 with
          | .error e => .error e
          | .ok r2 => rdRest S f t 0 p deep r2 ns1
      else if seeT 91 (x :: r) = true then
        match rdRow S f deep r ns with
        | .error e => .error e
        | .ok (l, r1, ns1) =>
          if seeT 124 r1 = true then
            match rdTerm S f 999 (deep + 1) r1.tail ns1 with
            | .error e => .error e
            | .ok (t, r2, ns2) => match needT S 93 r2 with
              | .error e => .error e
              | .ok r3 => rdRest S f (listT l t) 0 p deep r3 ns2
          else match needT S 93 r1 with
            | .error e => .error e
            | .ok r3 => rdRest S f (listT l (funT ⟨#[91, 93]⟩ [])) 0 p deep r3 ns1
      else .error (2, x.2)
/-- What begins with a name, and its priority. -/
def rdName (S : List UInt8) : Nat → Tk × Nat → Nat → Nat → Toks → Names → RRes (Tm × Nat)
  | 0, _, _, _, _, _ => .error (9, 0)
  | f + 1, x, p, deep, r, ns =>
    if x.1.text = [45] ∧ S[x.2]? = some 45 ∧ numAt (x.2 + 1) r = true then .ok ((numT (-(nextN r : Int)), 0), r.tail, ns)
    else if x.1.opn = true then
      match needT S 40 r with
      | .error e => .error e
      | .ok r1 => match rdRow S f deep r1 ns with
        | .error e => .error e
        | .ok (l, r2, ns2) => match needT S 41 r2 with
          | .error e => .error e
          | .ok r3 => .ok ((funT (nmT x) l, 0), r3, ns2)
    else if prefP x.1.text = 0 ∨ begT r = false then .ok ((funT (nmT x) [], 0), r, ns)
    else if p < prefP x.1.text then .error (2, x.2)
    else match rdTerm S f (prefP x.1.text) (deep + 1) r ns with
      | .error e => .error e
      | .ok (u, r', ns') => .ok ((funT (nmT x) [u], prefP x.1.text), r', ns')
/-- Terms up to 999 with commas between. -/
def rdRow (S : List UInt8) : Nat → Nat → Toks → Names → RRes (List Tm)
  | 0, _, _, _ => .error (9, 0)
  | f + 1, deep, ts, ns =>
    match rdTerm S f 999 (deep + 1) ts ns with
    | .error e => .error e
    | .ok (t, r, ns1) =>
      if seeT 44 r = true then
        match rdRow S f deep r.tail ns1 with
        | .error e => .error e
        | .ok (l, r2, ns2) => .ok (t :: l, r2, ns2)
      else .ok ([t], r, ns1)
end
theorem needT_ok {S : List UInt8} {m : UInt8} {ts r : Toks} (h : needT S m ts = .ok r) : ∃ x, ts = x :: r ∧ x.1.kind = 4 ∧ x.1.text = [m] := by
  unfold needT at h
  split at h
  · rename_i h1
    injection h with h
    cases ts with
    | nil => simp [seeT] at h1
    | cons x q =>
      simp only [seeT, decide_eq_true_eq] at h1
      exact ⟨x, by rw [← h]; rfl, h1.1, h1.2⟩
  · cases h
theorem needT_len {S : List UInt8} {m : UInt8} {ts r : Toks} (h : needT S m ts = .ok r) : r.length < ts.length := by
  obtain ⟨x, rfl, _, _⟩ := needT_ok h
  unfold needT at h
  split at h
  · injection h with h; rw [← h]; simp
  · cases h
theorem varN_len (ns : Names) (tx : List UInt8) : (varN ns tx).2.length ≤ ns.length + 1 := by
  unfold varN
  split
  · simp
  · split <;> simp
/-- Reading goes on, and each variable is a token. -/
structure Went (ts ts' : Toks) (ns ns' : Names) (k : Nat) : Prop where
  len : ts'.length + k ≤ ts.length
  nms : ns'.length + ts'.length ≤ ns.length + ts.length
  suf : ∃ u, ts = u ++ ts'
theorem Went.refl (ts : Toks) (ns : Names) : Went ts ts ns ns 0 := ⟨Nat.le_refl _, Nat.le_refl _, [], rfl⟩
theorem Went.trans {ts t1 t2 : Toks} {ns n1 n2 : Names} {k j : Nat} (h : Went ts t1 ns n1 k) (g : Went t1 t2 n1 n2 j) : Went ts t2 ns n2 (k + j) := by
  obtain ⟨u, hu⟩ := h.suf
  obtain ⟨v, hv⟩ := g.suf
  refine ⟨by have := h.len; have := g.len; omega, by have := h.nms; have := g.nms; omega, u ++ v, by rw [hu, hv, List.append_assoc]⟩
theorem Went.less {ts t1 : Toks} {ns n1 : Names} {k j : Nat} (h : Went ts t1 ns n1 k) (hj : j ≤ k) : Went ts t1 ns n1 j := ⟨by have := h.len; omega, h.nms, h.suf⟩
theorem Went.one (x : Tk × Nat) (r : Toks) (ns : Names) : Went (x :: r) r ns ns 1 := ⟨by simp, by simp, [x], rfl⟩
theorem Went.var (x : Tk × Nat) (r : Toks) (ns : Names) : Went (x :: r) r ns (varN ns x.1.text).2 1 := ⟨by simp, by have := varN_len ns x.1.text; simp; omega, [x], rfl⟩
theorem Went.need {S : List UInt8} {m : UInt8} {ts r : Toks} {ns : Names} (h : needT S m ts = .ok r) : Went ts r ns ns 1 := by
  obtain ⟨x, rfl, _, _⟩ := needT_ok h
  unfold needT at h
  split at h
  · injection h with h; rw [← h]; exact Went.one x _ ns
  · cases h
theorem seeT_tail {m : UInt8} {ts : Toks} (ns : Names) (h : seeT m ts = true) : Went ts ts.tail ns ns 1 := by
  cases ts with
  | nil => cases h
  | cons x r => exact Went.one x r ns
theorem rd_went (S : List UInt8) : ∀ f : Nat,
    (∀ t now p deep ts ns u ts' ns', rdRest S f t now p deep ts ns = .ok (u, ts', ns') → Went ts ts' ns ns' 0) ∧
    (∀ p deep ts ns u ts' ns', rdTerm S f p deep ts ns = .ok (u, ts', ns') → Went ts ts' ns ns' 1) ∧
    (∀ x p deep ts ns u ts' ns', rdName S f x p deep ts ns = .ok (u, ts', ns') → Went ts ts' ns ns' 0) ∧
    (∀ deep ts ns u ts' ns', rdRow S f deep ts ns = .ok (u, ts', ns') → Went ts ts' ns ns' 1)
  | 0 => by
    refine ⟨?_, ?_, ?_, ?_⟩
    · intro t now p deep ts ns u ts' ns' h; rw [rdRest] at h; cases h
    · intro p deep ts ns u ts' ns' h; rw [rdTerm] at h; cases h
    · intro x p deep ts ns u ts' ns' h; rw [rdName] at h; cases h
    · intro deep ts ns u ts' ns' h; rw [rdRow] at h; cases h
  | f + 1 => by
    obtain ⟨ih1, ih2, ih3, ih4⟩ := rd_went S f
    refine ⟨?_, ?_, ?_, ?_⟩
    · intro t now p deep ts ns u ts' ns' h
      rw [rdRest.eq_def] at h
      dsimp only at h
      split at h
      · injection h with h; injection h with _ h; injection h with h1 h2; subst h1 h2; exact Went.refl _ _
      · rename_i x r
        split at h
        · split at h
          · cases h
          · rename_i v r1 ns1 hv
            exact ((Went.one x r ns).trans ((ih2 _ _ _ _ _ _ _ hv).trans (ih1 _ _ _ _ _ _ _ _ _ h))).less (Nat.zero_le _)
        · injection h with h; injection h with _ h; injection h with h1 h2; subst h1 h2; exact Went.refl _ _
    · intro p deep ts ns u ts' ns' h
      rw [rdTerm.eq_def] at h
      dsimp only at h
      split at h
      · cases h
      split at h
      · cases h
      rename_i x r
      split at h
      · exact (Went.one x r ns).trans (ih1 _ _ _ _ _ _ _ _ _ h)
      split at h
      · exact (Went.var x r ns).trans (ih1 _ _ _ _ _ _ _ _ _ h)
      split at h
      · split at h
        · cases h
        · rename_i t q r1 ns1 hv
          exact (((Went.one x r ns).trans (ih3 _ _ _ _ _ _ _ _ hv)).trans (ih1 _ _ _ _ _ _ _ _ _ h)).less (by omega)
      split at h
      · split at h
        · cases h
        · rename_i t r1 ns1 hv
          split at h
          · cases h
          · rename_i r2 hn
            exact ((((Went.one x r ns).trans (ih2 _ _ _ _ _ _ _ hv)).trans (Went.need hn)).trans (ih1 _ _ _ _ _ _ _ _ _ h)).less (by omega)
      split at h
      · split at h
        · cases h
        · rename_i l r1 ns1 hv
          split at h
          · rename_i hs
            split at h
            · cases h
            · rename_i t r2 ns2 ht
              split at h
              · cases h
              · rename_i r3 hn
                exact ((((((Went.one x r ns).trans (ih4 _ _ _ _ _ _ hv)).trans (seeT_tail _ hs)).trans (ih2 _ _ _ _ _ _ _ ht)).trans (Went.need hn)).trans (ih1 _ _ _ _ _ _ _ _ _ h)).less (by omega)
          · split at h
            · cases h
            · rename_i r3 hn
              exact ((((Went.one x r ns).trans (ih4 _ _ _ _ _ _ hv)).trans (Went.need hn)).trans (ih1 _ _ _ _ _ _ _ _ _ h)).less (by omega)
      · cases h
    · intro x p deep ts ns u ts' ns' h
      rw [rdName] at h
      split at h
      · rename_i hc
        injection h with h; injection h with _ h; injection h with h1 h2; subst h1 h2
        cases ts with
        | nil => exact absurd hc.2.2 (by simp [numAt])
        | cons y r => exact (Went.one y r ns).less (Nat.zero_le _)
      split at h
      · split at h
        · cases h
        · rename_i r1 hn
          split at h
          · cases h
          · rename_i l r2 ns2 hv
            split at h
            · cases h
            · rename_i r3 hn2
              injection h with h; injection h with _ h; injection h with h1 h2; subst h1 h2
              exact (((Went.need hn).trans (ih4 _ _ _ _ _ _ hv)).trans (Went.need hn2)).less (Nat.zero_le _)
      split at h
      · injection h with h; injection h with _ h; injection h with h1 h2; subst h1 h2; exact Went.refl _ _
      split at h
      · cases h
      split at h
      · cases h
      · rename_i v r1 ns1 hv
        injection h with h; injection h with _ h; injection h with h1 h2; subst h1 h2
        exact (ih2 _ _ _ _ _ _ _ hv).less (Nat.zero_le _)
    · intro deep ts ns u ts' ns' h
      rw [rdRow] at h
      split at h
      · cases h
      · rename_i t r ns1 hv
        split at h
        · rename_i hs
          split at h
          · cases h
          · rename_i l r2 ns2 hl
            injection h with h; injection h with _ h; injection h with h1 h2; subst h1 h2
            exact (((ih2 _ _ _ _ _ _ _ hv).trans (seeT_tail _ hs)).trans (ih4 _ _ _ _ _ _ hl)).less (by omega)
        · injection h with h; injection h with _ h; injection h with h1 h2; subst h1 h2
          exact ih2 _ _ _ _ _ _ _ hv
end Go.Proofs.YtilfglcjcmpfeaaGreatDoor
