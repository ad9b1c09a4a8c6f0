/-
  Reading, purely: terms out of tokens, by operators and their priorities; clauses.
  The document's sort, word, signs, digits: of which sort a byte is, and where bytes of a sort end.
  The document's number and quoted.
  The document's quoted.
  The document's name: a token of a name, in new memory.
  The document's One: the token at a place.
  The document's One at digits.
  The document's One at a sign of its own, and at brackets.
  The document's One at a sign that is a name, at brackets that are one, at quotes.
  The document's One at signs, and at a byte that begins no token.
  The document's One, at whatever byte.
  The document's Tokens.
  Tokens in memory.
-/
import Derived.Test.YtliapkajonbndaaGreatDoorG00
import Derived.Test.YtliapkajonbndaaGreatDoorG01
import Derived.Test.YtliapkajonbndaaGreatDoorChecked
import Derived.WalkKit
import Derived.Lib.Hide
import Derived.StillTailTactics
import Derived.OwnWalk
import Derived.Deep.RegionHeld3
import Derived.Deep.RegionWith
import Derived.Test.YtliapkajonbndaaGreatDoorTmP
import Derived.Maps.AppendAt
namespace Go.Proofs.YtliapkajonbndaaGreatDoor

abbrev Toks := List (Tk × Nat)
abbrev Names := List (List UInt8)
def ops7 : Names := [[61], [92, 61], [61, 61], [92, 61, 61], [64, 60], [64, 62], [64, 61, 60], [64, 62, 61], [105, 115], [61, 58, 61], [61, 92, 61], [60], [62], [61, 60], [62, 61]]
def ops5 : Names := [[43], [45]]
def ops4 : Names := [[42], [47, 47], [109, 111, 100]]
/-- The priority of an operator between two terms, and those of its sides; 0: it is none. -/
def infixP (s : List UInt8) : Nat × Nat × Nat :=
  if s = [58, 45] then (1200, 1199, 1199)
  else if s = [59] then (1100, 1099, 1100)
  else if s = [45, 62] then (1050, 1049, 1050)
  else if s = [44] then (1000, 999, 1000)
  else if s ∈ ops7 then (700, 699, 699)
  else if s ∈ ops5 then (500, 500, 499)
  else if s ∈ ops4 then (400, 400, 399)
  else (0, 0, 0)
def prefP (s : List UInt8) : Nat := if s = [45] then 200 else if s = [92, 43] then 900 else 0
/-- The byte of the next token. -/
def placeT (S : List UInt8) : Toks → Nat
  | [] => S.length
  | x :: _ => x.2
/-- Is the next token a mark? -/
def seeT (m : UInt8) : Toks → Bool
  | [] => false
  | x :: _ => decide (x.1.kind = 4 ∧ x.1.text = [m])
/-- May the next token begin the term of an operator ahead of one term? -/
def begT : Toks → Bool
  | [] => false
  | x :: _ => decide (x.1.kind = 2 ∨ x.1.kind = 3 ∨ (x.1.kind = 1 ∧ (infixP x.1.text).1 = 0) ∨ (x.1.kind = 4 ∧ (x.1.text = [40] ∨ x.1.text = [91])))
/-- Is the next token a Number at a place? -/
def numAt (p : Nat) : Toks → Bool
  | [] => false
  | x :: _ => decide (x.1.kind = 3 ∧ x.2 = p)
def nextN : Toks → Nat
  | [] => 0
  | x :: _ => x.1.n
/-- Which operator between two terms stands next, in a place for one of some priority. -/
def opT (now p : Nat) : Toks → Bool
  | [] => false
  | x :: _ => decide ((x.1.kind = 1 ∨ (x.1.kind = 4 ∧ x.1.text = [44])) ∧ (infixP x.1.text).1 ≠ 0 ∧ (infixP x.1.text).1 ≤ p ∧ now ≤ (infixP x.1.text).2.1)
/-- The place of a text in a row of texts. -/
def findN (tx : List UInt8) : Names → Option Nat
  | [] => none
  | x :: r => if x = tx then some 0 else (findN tx r).map (· + 1)
/-- The number of a variable, and the variables' texts behind it. -/
def varN (ns : Names) (tx : List UInt8) : Nat × Names :=
  if tx = [95] ∨ tx = [] then (ns.length, ns ++ [[]])
  else match findN tx ns with
    | some i => (i, ns)
    | none => (ns.length, ns ++ [tx])
def nmT (x : Tk × Nat) : ByteArray := ⟨x.1.text.toArray⟩
def funT (s : ByteArray) (l : List Tm) : Tm := .mk 3 s 0 l
def numT (n : Int) : Tm := .mk 2 ⟨#[]⟩ n []
def varT (v : Nat) : Tm := .mk 1 ⟨#[]⟩ v []
def listT (l : List Tm) (t : Tm) : Tm := l.foldr (fun x r => funT ⟨#[46]⟩ [x, r]) t
abbrev RRes (α : Type) := Except (Nat × Nat) (α × Toks × Names)
/-- A mark that must stand there. -/
def needT (S : List UInt8) (m : UInt8) (ts : Toks) : Except (Nat × Nat) Toks := if seeT m ts = true then .ok ts.tail else .error (2, placeT S ts)
mutual
/-- What stands behind a term of some priority, up to one. -/
def rdRest (S : List UInt8) : Nat → Tm → Nat → Nat → Nat → Toks → Names → RRes Tm
  | 0, _, _, _, _, _, _ => .error (9, 0)
  | f + 1, t, now, p, deep, ts, ns =>
    match ts with
    | [] => .ok (t, [], ns)
    | x :: r =>
      if opT now p (x :: r) = true then
        match rdTerm S f (infixP x.1.text).2.2 deep r ns with
        | .error e => .error e
        | .ok (u, r', ns') => rdRest S f (funT (nmT x) [t, u]) (infixP x.1.text).1 p deep r' ns'
      else .ok (t, x :: r, ns)
/-- A term up to a priority. -/
def rdTerm (S : List UInt8) : Nat → Nat → Nat → Toks → Names → RRes Tm
  | 0, _, _, _, _ => .error (9, 0)
  | f + 1, p, deep, ts, ns =>
    if 999 < deep then .error (3, placeT S ts)
    else match ts with
    | [] => .error (2, S.length)
    | x :: r =>
      if x.1.kind = 3 then rdRest S f (numT x.1.n) 0 p deep r ns
      else if x.1.kind = 2 then rdRest S f (varT (varN ns x.1.text).1) 0 p deep r (varN ns x.1.text).2
      else if x.1.kind = 1 then
        match rdName S f x p deep r ns with
        | .error e => .error e
        | .ok ((t, q), r', ns') => rdRest S f t q p deep r' ns'
      else if seeT 40 (x :: r) = true then
        match rdTerm S f 1200 (deep + 1) r ns with
        | .error e => .error e
        | .ok (t, r1, ns1) => match needT S 41 r1 with
          | .error e => .error e
          | .ok r2 => rdRest S f t 0 p deep r2 ns1
      else if seeT 91 (x :: r) = true then
        match rdRow S f deep r ns with
        | .error e => .error e
        | .ok (l, r1, ns1) =>
          if seeT 124 r1 = true then
            match rdTerm S f 999 (deep + 1) r1.tail ns1 with
            | .error e => .error e
            | .ok (t, r2, ns2) => match needT S 93 r2 with
              | .error e => .error e
              | .ok r3 => rdRest S f (listT l t) 0 p deep r3 ns2
          else match needT S 93 r1 with
            | .error e => .error e
            | .ok r3 => rdRest S f (listT l (funT ⟨#[91, 93]⟩ [])) 0 p deep r3 ns1
      else .error (2, x.2)
/-- What begins with a name, and its priority. -/
def rdName (S : List UInt8) : Nat → Tk × Nat → Nat → Nat → Toks → Names → RRes (Tm × Nat)
  | 0, _, _, _, _, _ => .error (9, 0)
  | f + 1, x, p, deep, r, ns =>
    if x.1.text = [45] ∧ S[x.2]? = some 45 ∧ numAt (x.2 + 1) r = true then .ok ((numT (-(nextN r : Int)), 0), r.tail, ns)
    else if x.1.opn = true then
      match needT S 40 r with
      | .error e => .error e
      | .ok r1 => match rdRow S f deep r1 ns with
        | .error e => .error e
        | .ok (l, r2, ns2) => match needT S 41 r2 with
          | .error e => .error e
          | .ok r3 => .ok ((funT (nmT x) l, 0), r3, ns2)
    else if prefP x.1.text = 0 ∨ begT r = false then .ok ((funT (nmT x) [], 0), r, ns)
    else if p < prefP x.1.text then .error (2, x.2)
    else match rdTerm S f (prefP x.1.text) (deep + 1) r ns with
      | .error e => .error e
      | .ok (u, r', ns') => .ok ((funT (nmT x) [u], prefP x.1.text), r', ns')
/-- Terms up to 999 with commas between. -/
def rdRow (S : List UInt8) : Nat → Nat → Toks → Names → RRes (List Tm)
  | 0, _, _, _ => .error (9, 0)
  | f + 1, deep, ts, ns =>
    match rdTerm S f 999 (deep + 1) ts ns with
    | .error e => .error e
    | .ok (t, r, ns1) =>
      if seeT 44 r = true then
        match rdRow S f deep r.tail ns1 with
        | .error e => .error e
        | .ok (l, r2, ns2) => .ok (t :: l, r2, ns2)
      else .ok ([t], r, ns1)
end
theorem needT_ok {S : List UInt8} {m : UInt8} {ts r : Toks} (h : needT S m ts = .ok r) : ∃ x, ts = x :: r ∧ x.1.kind = 4 ∧ x.1.text = [m] := by
  unfold needT at h
  split at h
  · rename_i h1
    injection h with h
    cases ts with
    | nil => simp [seeT] at h1
    | cons x q =>
      simp only [seeT, decide_eq_true_eq] at h1
      exact ⟨x, by rw [← h]; rfl, h1.1, h1.2⟩
  · cases h
theorem needT_len {S : List UInt8} {m : UInt8} {ts r : Toks} (h : needT S m ts = .ok r) : r.length < ts.length := by
  obtain ⟨x, rfl, _, _⟩ := needT_ok h
  unfold needT at h
  split at h
  · injection h with h; rw [← h]; simp
  · cases h
theorem varN_len (ns : Names) (tx : List UInt8) : (varN ns tx).2.length ≤ ns.length + 1 := by
  unfold varN
  split
  · simp
  · split <;> simp
/-- Reading goes on, and each variable is a token. -/
structure Went (ts ts' : Toks) (ns ns' : Names) (k : Nat) : Prop where
  len : ts'.length + k ≤ ts.length
  nms : ns'.length + ts'.length ≤ ns.length + ts.length
  suf : ∃ u, ts = u ++ ts'
theorem Went.refl (ts : Toks) (ns : Names) : Went ts ts ns ns 0 := ⟨Nat.le_refl _, Nat.le_refl _, [], rfl⟩
theorem Went.trans {ts t1 t2 : Toks} {ns n1 n2 : Names} {k j : Nat} (h : Went ts t1 ns n1 k) (g : Went t1 t2 n1 n2 j) : Went ts t2 ns n2 (k + j) := by
  obtain ⟨u, hu⟩ := h.suf
  obtain ⟨v, hv⟩ := g.suf
  refine ⟨by have := h.len; have := g.len; omega, by have := h.nms; have := g.nms; omega, u ++ v, by rw [hu, hv, List.append_assoc]⟩
theorem Went.less {ts t1 : Toks} {ns n1 : Names} {k j : Nat} (h : Went ts t1 ns n1 k) (hj : j ≤ k) : Went ts t1 ns n1 j := ⟨by have := h.len; omega, h.nms, h.suf⟩
theorem Went.one (x : Tk × Nat) (r : Toks) (ns : Names) : Went (x :: r) r ns ns 1 := ⟨by simp, by simp, [x], rfl⟩
theorem Went.var (x : Tk × Nat) (r : Toks) (ns : Names) : Went (x :: r) r ns (varN ns x.1.text).2 1 := ⟨by simp, by have := varN_len ns x.1.text; simp; omega, [x], rfl⟩
theorem Went.need {S : List UInt8} {m : UInt8} {ts r : Toks} {ns : Names} (h : needT S m ts = .ok r) : Went ts r ns ns 1 := by
  obtain ⟨x, rfl, _, _⟩ := needT_ok h
  unfold needT at h
  split at h
  · injection h with h; rw [← h]; exact Went.one x _ ns
  · cases h
theorem seeT_tail {m : UInt8} {ts : Toks} (ns : Names) (h : seeT m ts = true) : Went ts ts.tail ns ns 1 := by
  cases ts with
  | nil => cases h
  | cons x r => exact Went.one x r ns
theorem rd_went (S : List UInt8) : ∀ f : Nat,
    (∀ t now p deep ts ns u ts' ns', rdRest S f t now p deep ts ns = .ok (u, ts', ns') → Went ts ts' ns ns' 0) ∧
    (∀ p deep ts ns u ts' ns', rdTerm S f p deep ts ns = .ok (u, ts', ns') → Went ts ts' ns ns' 1) ∧
    (∀ x p deep ts ns u ts' ns', rdName S f x p deep ts ns = .ok (u, ts', ns') → Went ts ts' ns ns' 0) ∧
    (∀ deep ts ns u ts' ns', rdRow S f deep ts ns = .ok (u, ts', ns') → Went ts ts' ns ns' 1)
  | 0 => by
    refine ⟨?_, ?_, ?_, ?_⟩
    · intro t now p deep ts ns u ts' ns' h; rw [rdRest] at h; cases h
    · intro p deep ts ns u ts' ns' h; rw [rdTerm] at h; cases h
    · intro x p deep ts ns u ts' ns' h; rw [rdName] at h; cases h
    · intro deep ts ns u ts' ns' h; rw [rdRow] at h; cases h
  | f + 1 => by
    obtain ⟨ih1, ih2, ih3, ih4⟩ := rd_went S f
    refine ⟨?_, ?_, ?_, ?_⟩
    · intro t now p deep ts ns u ts' ns' h
      rw [rdRest.eq_def] at h
      dsimp only at h
      split at h
      · injection h with h; injection h with _ h; injection h with h1 h2; subst h1 h2; exact Went.refl _ _
      · rename_i x r
        split at h
        · split at h
          · cases h
          · rename_i v r1 ns1 hv
            exact ((Went.one x r ns).trans ((ih2 _ _ _ _ _ _ _ hv).trans (ih1 _ _ _ _ _ _ _ _ _ h))).less (Nat.zero_le _)
        · injection h with h; injection h with _ h; injection h with h1 h2; subst h1 h2; exact Went.refl _ _
    · intro p deep ts ns u ts' ns' h
      rw [rdTerm.eq_def] at h
      dsimp only at h
      split at h
      · cases h
      split at h
      · cases h
      rename_i x r
      split at h
      · exact (Went.one x r ns).trans (ih1 _ _ _ _ _ _ _ _ _ h)
      split at h
      · exact (Went.var x r ns).trans (ih1 _ _ _ _ _ _ _ _ _ h)
      split at h
      · split at h
        · cases h
        · rename_i t q r1 ns1 hv
          exact (((Went.one x r ns).trans (ih3 _ _ _ _ _ _ _ _ hv)).trans (ih1 _ _ _ _ _ _ _ _ _ h)).less (by omega)
      split at h
      · split at h
        · cases h
        · rename_i t r1 ns1 hv
          split at h
          · cases h
          · rename_i r2 hn
            exact ((((Went.one x r ns).trans (ih2 _ _ _ _ _ _ _ hv)).trans (Went.need hn)).trans (ih1 _ _ _ _ _ _ _ _ _ h)).less (by omega)
      split at h
      · split at h
        · cases h
        · rename_i l r1 ns1 hv
          split at h
          · rename_i hs
            split at h
            · cases h
            · rename_i t r2 ns2 ht
              split at h
              · cases h
              · rename_i r3 hn
                exact ((((((Went.one x r ns).trans (ih4 _ _ _ _ _ _ hv)).trans (seeT_tail _ hs)).trans (ih2 _ _ _ _ _ _ _ ht)).trans (Went.need hn)).trans (ih1 _ _ _ _ _ _ _ _ _ h)).less (by omega)
          · split at h
            · cases h
            · rename_i r3 hn
              exact ((((Went.one x r ns).trans (ih4 _ _ _ _ _ _ hv)).trans (Went.need hn)).trans (ih1 _ _ _ _ _ _ _ _ _ h)).less (by omega)
      · cases h
    · intro x p deep ts ns u ts' ns' h
      rw [rdName] at h
      split at h
      · rename_i hc
        injection h with h; injection h with _ h; injection h with h1 h2; subst h1 h2
        cases ts with
        | nil => exact absurd hc.2.2 (by simp [numAt])
        | cons y r => exact (Went.one y r ns).less (Nat.zero_le _)
      split at h
      · split at h
        · cases h
        · rename_i r1 hn
          split at h
          · cases h
          · rename_i l r2 ns2 hv
            split at h
            · cases h
            · rename_i r3 hn2
              injection h with h; injection h with _ h; injection h with h1 h2; subst h1 h2
              exact (((Went.need hn).trans (ih4 _ _ _ _ _ _ hv)).trans (Went.need hn2)).less (Nat.zero_le _)
      split at h
      · injection h with h; injection h with _ h; injection h with h1 h2; subst h1 h2; exact Went.refl _ _
      split at h
      · cases h
      split at h
      · cases h
      · rename_i v r1 ns1 hv
        injection h with h; injection h with _ h; injection h with h1 h2; subst h1 h2
        exact (ih2 _ _ _ _ _ _ _ hv).less (Nat.zero_le _)
    · intro deep ts ns u ts' ns' h
      rw [rdRow] at h
      split at h
      · cases h
      · rename_i t r ns1 hv
        split at h
        · rename_i hs
          split at h
          · cases h
          · rename_i l r2 ns2 hl
            injection h with h; injection h with _ h; injection h with h1 h2; subst h1 h2
            exact (((ih2 _ _ _ _ _ _ _ hv).trans (seeT_tail _ hs)).trans (ih4 _ _ _ _ _ _ hl)).less (by omega)
        · injection h with h; injection h with _ h; injection h with h1 h2; subst h1 h2
          exact ih2 _ _ _ _ _ _ _ hv
end Go.Proofs.YtliapkajonbndaaGreatDoor

namespace Go.Proofs.YtliapkajonbndaaGreatDoor
open Go.RowKit

theorem ret8 {k : IntKind} {a b : Int} (h : a = b) : Ending.returned (.int k a) = .returned (.int k b) := by rw [h]
def sgns : ByteArray := ⟨#[43, 45, 42, 47, 94, 60, 62, 61, 126, 58, 46, 63, 64, 35, 38, 36]⟩
theorem srt_of {c : UInt8} {n : Nat} (hn : c.toNat = n) : srt c = if 97 ≤ n ∧ n ≤ 122 then 1 else if (65 ≤ n ∧ n ≤ 90) ∨ n = 95 then 2 else if 48 ≤ n ∧ n ≤ 57 then 3 else if n = 32 ∨ n = 9 ∨ n = 10 then 5 else if sgn c = true ∨ n = 92 then 4 else 0 := by
  unfold srt; rw [hn]
theorem sgn_get (c : UInt8) : sgn c = decide (∃ k, ∃ h : k < sgns.size, sgns[k] = c) := by
  rw [Bool.eq_iff_iff, decide_eq_true_eq]
  unfold sgn
  rw [List.contains_iff_mem]
  constructor
  · intro h
    obtain ⟨k, hk, e⟩ := List.getElem_of_mem h
    exact ⟨k, hk, e⟩
  · rintro ⟨k, hk, e⟩
    exact e ▸ List.getElem_mem (l := [43, 45, 42, 47, 94, 60, 62, 61, 126, 58, 46, 63, 64, 35, 38, 36]) hk





def bs (s : ByteArray) : List UInt8 := s.data.toList
theorem bs_length (s : ByteArray) : (bs s).length = s.size := by simp [bs]
theorem bs_get (s : ByteArray) (i : Nat) (h : i < s.size) : (bs s)[i]'(by rw [bs_length]; exact h) = s[i] := by simp [bs]; rfl
theorem tw_at {p : UInt8 → Bool} : ∀ (l : List UInt8) (at' q : Nat), at' ≤ q → q ≤ l.length → (∀ j (h : j < l.length), at' ≤ j → j < q → p l[j] = true) → (∀ h : q < l.length, p l[q] = false) → at' + ((l.drop at').takeWhile p).length = q := by
  intro l at' q h1 h2 h3 h4
  have e : (l.drop at').takeWhile p = (l.drop at').take (q - at') := by
    have h6 : ∀ x ∈ (l.drop at').take (q - at'), p x = true := by
      intro x hx
      obtain ⟨i, hi, rfl⟩ := List.getElem_of_mem hx
      simp only [List.length_take, List.length_drop] at hi
      simp only [List.getElem_take, List.getElem_drop]
      exact h3 _ _ (by omega) (by omega)
    have h9 : List.takeWhile p (List.drop (q - at') (List.drop at' l)) = [] := by
      rw [List.drop_drop, show at' + (q - at') = q by omega]
      by_cases hq : q < l.length
      · rw [List.drop_eq_getElem_cons hq, List.takeWhile_cons, h4 hq]
        rfl
      · rw [List.drop_eq_nil_of_le (by omega)]
        rfl
    have h8 := List.takeWhile_append_of_pos (l₂ := List.drop (q - at') (List.drop at' l)) h6
    rw [List.take_append_drop, h9, List.append_nil] at h8
    exact h8
  rw [e, List.length_take, List.length_drop]
  omega
theorem isWord_of {c : UInt8} {r : Nat} (h : srt c = r) : isWord c = decide (1 ≤ r ∧ r ≤ 3) := by unfold isWord; rw [h]



end Go.Proofs.YtliapkajonbndaaGreatDoor

namespace Go.Proofs.YtliapkajonbndaaGreatDoor
open Go.RowKit

theorem bs_toList (s : ByteArray) : s.toList = bs s := by rw [ByteArray.toList_eq]; rfl
theorem dval_take_le : ∀ (l : List UInt8) (i : Nat), dval (l.take i) ≤ dval l := by
  intro l i
  by_cases h : i < l.length
  · have e : l = l.take i ++ l.drop i := (List.take_append_drop i l).symm
    have h1 : dval l = dfrom (dval (l.take i)) (l.drop i) := by
      unfold dval dfrom
      rw [← List.foldl_append, List.take_append_drop]
    rw [h1, dfrom_eq]
    have : 1 * dval (l.take i) ≤ 10 ^ (l.drop i).length * dval (l.take i) := Nat.mul_le_mul_right _ (Nat.pos_of_ne_zero (by simp))
    rw [Nat.mul_comm (dval (l.take i))]
    omega
  · rw [List.take_of_length_le (by omega)]
    exact Nat.le_refl _
theorem run_gtr_str (P : Program) (t : TypeId) (a b : ByteArray) (w : World) : (binOp BinOp.gtr t (.string a) (.string b)).run P w = .ok (.bool !(Op.bytesLess a.toList b.toList || a.toList == b.toList)) w := rfl
theorem maxD_str : (⟨#[57, 50, 50, 51, 51, 55, 50, 48, 51, 54, 56, 53, 52, 55, 55, 53, 56, 48, 55]⟩ : ByteArray).toList = maxD := by rw [ByteArray.toList_eq]; rfl
theorem wrap_d1 (n : Nat) (c : Nat) (h3 : 10 * n + (c - 48) ≤ 9223372036854775807) : IntKind.i64.wrap (10 * (n : Int)) = 10 * (n : Int) := by
  rw [IntKind.wrap_i64]; omega
theorem wrap_d2 (n : Nat) (c : Nat) (h1 : 48 ≤ c) (h2 : c ≤ 57) (h3 : 10 * n + (c - 48) ≤ 9223372036854775807) : wrap64 (wrap64 (10 * (n : Int) + (c : Int)) - 48) = ((10 * n + (c - 48) : Nat) : Int) := by
  have h4 : ((10 * n + (c - 48) : Nat) : Int) = 10 * (n : Int) + (c : Int) - 48 := by omega
  rw [h4]
  obtain ⟨x, hx⟩ : ∃ x, 10 * (n : Int) + (c : Int) = x := ⟨_, rfl⟩
  rw [hx]
  unfold wrap64
  omega
def NumPost (w : World) (l : List UInt8) (e : Ending) (w' : World) : Prop := ∃ (n : Nat) (b : Bool), e = .returned (.tuple #[.int .i64 (n : Nat), .bool b]) ∧ w = w' ∧ ((numL l = some n ∧ b = true) ∨ (numL l = none ∧ b = false))
end Go.Proofs.YtliapkajonbndaaGreatDoor

namespace Go.Proofs.YtliapkajonbndaaGreatDoor
open Go.RowKit

theorem bs_append (a b : ByteArray) : bs (a ++ b) = bs a ++ bs b := by simp [bs]
theorem run_byte_at {P : Program} {t : TypeId} (h : P.underlying t = some .string) (s : ByteArray) (q : Nat) (hq : q < s.size) (w : World) : (Instr.slice t (.string s) (some (.int .i64 (q : Int))) (some (.int .i64 ((q : Int) + 1))) none).run P w = .ok (.string (s.extract q (q + 1))) w := by
  have := run_slice_string (P := P) w t s .i64 .i64 (q : Int) ((q : Int) + 1) h (by omega) (by omega) (by omega)
  rw [this]
  rfl
theorem run_byte_at1 {P : Program} {t : TypeId} (h : P.underlying t = some .string) (s : ByteArray) (q : Nat) (hq : q + 1 < s.size) (w : World) : (Instr.slice t (.string s) (some (.int .i64 ((q : Int) + 1))) (some (.int .i64 ((q : Int) + 1 + 1))) none).run P w = .ok (.string (s.extract (q + 1) (q + 1 + 1))) w := by
  have := run_slice_string (P := P) w t s .i64 .i64 ((q : Int) + 1) ((q : Int) + 1 + 1) h (by omega) (by omega) (by omega)
  rw [this]
  rfl
theorem bs_extract (s : ByteArray) (a b : Nat) : bs (s.extract a b) = ((bs s).drop a).take (b - a) := by
  simp [bs, List.extract]
theorem bs_byte (s : ByteArray) (q : Nat) (hq : q < s.size) : bs (s.extract q (q + 1)) = [s[q]] := by
  rw [bs_extract, List.drop_eq_getElem_cons (by rw [bs_length]; exact hq), bs_get s q hq]
  simp
def QuoPost (w : World) (l : List UInt8) (at' : Nat) (e : Ending) (w' : World) : Prop := ∃ (o : ByteArray) (to : Nat) (b : Bool), e = .returned (.tuple #[.string o, .int .i64 (to : Nat), .bool b]) ∧ w = w' ∧ ((quoL (l.drop at') = some (bs o, to - at') ∧ at' ≤ to ∧ b = true) ∨ (quoL (l.drop at') = none ∧ b = false))
end Go.Proofs.YtliapkajonbndaaGreatDoor

namespace Go.Proofs.YtliapkajonbndaaGreatDoor
open Go.RowKit

/-- A token as a value. -/
def tokV (kind : Nat) (x : ByteArray) (n at' : Nat) (o : Bool) : Value := .agg #[.int .i64 (kind : Nat), .string x, .int .i64 (n : Nat), .int .i64 (at' : Nat), .bool o]
def noTok : Value := .tuple #[.agg #[.int .i64 0, .string ⟨#[]⟩, .int .i64 0, .int .i64 0, .bool false], .int .i64 (-1)]
def NamePost (w : World) (l : List UInt8) (kind : Nat) (x : ByteArray) (at' to : Nat) (e : Ending) (w' : World) : Prop :=
  Below w.heap.size w w' ∧ ((¬ (1 ≤ x.size ∧ x.size ≤ 20) ∧ e = .returned noTok) ∨ ((1 ≤ x.size ∧ x.size ≤ 20) ∧ e = .returned (.tuple #[tokV kind x 0 at' (opens (l.drop to)), .int .i64 (to : Nat)])))
theorem opens_at (s : ByteArray) (to : Nat) (h : to < s.size) : opens ((bs s).drop to) = ((s[to].toNat : Int) == 40) := by
  rw [List.drop_eq_getElem_cons (by rw [bs_length]; exact h), bs_get s to h]
  unfold opens
  rw [Bool.eq_iff_iff]
  simp only [List.head?_cons, beq_iff_eq, Option.some.injEq]
  constructor
  · intro e; rw [e]; rfl
  · intro e; exact UInt8.toNat_inj.1 (by show s[to].toNat = 40; omega)
theorem opens_no (s : ByteArray) (to : Nat) (h : ¬ to < s.size) : opens ((bs s).drop to) = false := by
  rw [List.drop_eq_nil_of_le (by rw [bs_length]; omega)]
  rfl
end Go.Proofs.YtliapkajonbndaaGreatDoor

namespace Go.Proofs.YtliapkajonbndaaGreatDoor
open Go.RowKit

def OnePost (w : World) (l : List UInt8) (at' : Nat) (e : Ending) (w' : World) : Prop :=
  Below w.heap.size w w' ∧ ((oneL (l.drop at') = none ∧ e = .returned noTok) ∨ ∃ (t : Tk) (x : ByteArray) (k : Nat), oneL (l.drop at') = some (t, k) ∧ bs x = t.text ∧ e = .returned (.tuple #[tokV t.kind x t.n at' t.opn, .int .i64 (at' + k : Nat)]))
theorem run_cut {P : Program} {t : TypeId} (h : P.underlying t = some .string) (s : ByteArray) (a b : Nat) (h1 : a ≤ b) (h2 : b ≤ s.size) (w : World) : (Instr.slice t (.string s) (some (.int .i64 (a : Int))) (some (.int .i64 (b : Int))) none).run P w = .ok (.string (s.extract a b)) w := by
  have := run_slice_string (P := P) w t s .i64 .i64 (a : Int) (b : Int) h (by omega) (by omega) (by omega)
  rw [this]
  rfl
theorem drop_at (s : ByteArray) (q : Nat) (h : q < s.size) : (bs s).drop q = s[q] :: (bs s).drop (q + 1) := by
  rw [List.drop_eq_getElem_cons (by rw [bs_length]; exact h), bs_get s q h]
theorem lnewBlk (w : World) (o : Obj) : (w.alloc o).heap[w.heap.size]? = some o := by
  show (w.heap.push o)[w.heap.size]? = some o
  simp
theorem set5_below {w W : World} (h : Below w.heap.size w W) (a0 a1 a2 a3 a4 : Value) : Below w.heap.size w (((((W.setCell ⟨w.heap.size, 0, none⟩ a0).setCell ⟨w.heap.size, 1, none⟩ a1).setCell ⟨w.heap.size, 2, none⟩ a2).setCell ⟨w.heap.size, 3, none⟩ a3).setCell ⟨w.heap.size, 4, none⟩ a4) :=
  ((((h.setCell (p := ⟨_, 0, none⟩) (Nat.le_refl _) _).setCell (p := ⟨_, 1, none⟩) (Nat.le_refl _) _).setCell (p := ⟨_, 2, none⟩) (Nat.le_refl _) _).setCell (p := ⟨_, 3, none⟩) (Nat.le_refl _) _).setCell (p := ⟨_, 4, none⟩) (Nat.le_refl _) _
theorem cut_tw {p : UInt8 → Bool} (s : ByteArray) (at' to : Nat) (h : at' + (((bs s).drop at').takeWhile p).length = to) : bs (s.extract at' to) = ((bs s).drop at').takeWhile p ∧ (bs s).drop to = ((bs s).drop at').dropWhile p := by
  obtain ⟨l, hl⟩ : ∃ l, (bs s).drop at' = l := ⟨_, rfl⟩
  rw [hl] at h ⊢
  have e : to - at' = (l.takeWhile p).length := by omega
  refine ⟨by rw [bs_extract, hl, e, tw_take], ?_⟩
  have : (bs s).drop to = l.drop (to - at') := by rw [← hl, List.drop_drop]; congr 1; omega
  rw [this, e]
  conv => lhs; arg 2; rw [← List.takeWhile_append_dropWhile (p := p) (l := l)]
  rw [List.drop_left]
theorem one_ok {s : ByteArray} {at' to kind : Nat} {x : ByteArray} {w w' : World} {e : Ending} (hone : oneL ((bs s).drop at') = nameL kind (bs x) ((bs s).drop to) (to - at')) (h1 : at' ≤ to) (hn : 1 ≤ x.size ∧ x.size ≤ 20) (hb : Below w.heap.size w w') (he : e = .returned (.tuple #[tokV kind x 0 at' (opens ((bs s).drop to)), .int .i64 (to : Nat)])) : OnePost w (bs s) at' e w' := by
  refine ⟨hb, .inr ⟨⟨kind, bs x, 0, opens ((bs s).drop to)⟩, x, to - at', ?_, rfl, ?_⟩⟩
  · rw [hone, name_is (by rw [bs_length]; exact hn.1) (by rw [bs_length]; exact hn.2)]
  · rw [he, show at' + (to - at') = to by omega]
theorem one_no {s : ByteArray} {at' to kind : Nat} {x : ByteArray} {w w' : World} {e : Ending} (hone : oneL ((bs s).drop at') = nameL kind (bs x) ((bs s).drop to) (to - at')) (hn : ¬ (1 ≤ x.size ∧ x.size ≤ 20)) (hb : Below w.heap.size w w') (he : e = .returned noTok) : OnePost w (bs s) at' e w' := by
  refine ⟨hb, .inl ⟨?_, he⟩⟩
  rw [hone]
  unfold nameL
  rw [if_neg (by rw [bs_length]; exact hn)]
theorem one_word (s : ByteArray) (at' to kind : Nat) (h : at' < s.size) (hk : srt s[at'] = kind) (h12 : kind = 1 ∨ kind = 2) (hto : at' + (((bs s).drop at').takeWhile isWord).length = to) : oneL ((bs s).drop at') = nameL kind (bs (s.extract at' to)) ((bs s).drop to) (to - at') := by
  obtain ⟨e1, e2⟩ := cut_tw s at' to hto
  have e3 : to - at' = (((bs s).drop at').takeWhile isWord).length := by omega
  rw [e1, e2, e3, drop_at s at' h]
  unfold oneL
  simp only
  rw [if_pos (by rw [hk]; exact h12), hk]
end Go.Proofs.YtliapkajonbndaaGreatDoor

namespace Go.Proofs.YtliapkajonbndaaGreatDoor
open Go.RowKit

theorem one_num (s : ByteArray) (at' to : Nat) (h : at' < s.size) (hk : srt s[at'] = 3) (hto : at' + (((bs s).drop at').takeWhile isDigit).length = to) : oneL ((bs s).drop at') = (numL (bs (s.extract at' to))).map fun n => (⟨3, bs (s.extract at' to), n, false⟩, to - at') := by
  obtain ⟨e1, e2⟩ := cut_tw s at' to hto
  have e3 : to - at' = (((bs s).drop at').takeWhile isDigit).length := by omega
  rw [e1, e3, drop_at s at' h]
  unfold oneL
  simp only
  rw [if_neg (by rw [hk]; decide), if_pos hk]
theorem tw_mem {p : UInt8 → Bool} : ∀ (l : List UInt8), ∀ c ∈ l.takeWhile p, p c = true
  | [], c, h => by simp at h
  | d :: r, c, h => by
    by_cases hd : p d = true
    · rw [tw_cons hd] at h
      rcases List.mem_cons.1 h with rfl | h
      · exact hd
      · exact tw_mem r c h
    · simp [hd] at h
end Go.Proofs.YtliapkajonbndaaGreatDoor

namespace Go.Proofs.YtliapkajonbndaaGreatDoor
open Go.RowKit

theorem ext_one (s : ByteArray) (at' : Nat) (h : at' < s.size) : bs (s.extract at' (at' + 1)) = [s[at']] := bs_byte s at' h
theorem size_one (s : ByteArray) (at' : Nat) (h : at' < s.size) : (s.extract at' (at' + 1)).size = 1 := by rw [ByteArray.size_extract]; omega
end Go.Proofs.YtliapkajonbndaaGreatDoor

namespace Go.Proofs.YtliapkajonbndaaGreatDoor
open Go.RowKit

end Go.Proofs.YtliapkajonbndaaGreatDoor

namespace Go.Proofs.YtliapkajonbndaaGreatDoor
open Go.RowKit

theorem one_sign (s : ByteArray) (at' to : Nat) (h : at' < s.size) (hto : at' + (((bs s).drop at').takeWhile isSign).length = to) (h123 : ¬ (srt s[at'] = 1 ∨ srt s[at'] = 2) ∧ ¬ srt s[at'] = 3) (h39 : s[at'] ≠ 39) (h91 : s[at'] ≠ 91) (hso : ¬ (s[at'] = 33 ∨ s[at'] = 59)) (hpu : ¬ (s[at'] = 40 ∨ s[at'] = 41 ∨ s[at'] = 91 ∨ s[at'] = 93 ∨ s[at'] = 124 ∨ s[at'] = 44)) :
    (s[at'] = 46 ∧ to = at' + 1 ∧ ends ((bs s).drop to) = true → oneL ((bs s).drop at') = some (⟨5, [46], 0, false⟩, 1)) ∧
    (¬ (s[at'] = 46 ∧ to = at' + 1 ∧ ends ((bs s).drop to) = true) → oneL ((bs s).drop at') = nameL 1 (bs (s.extract at' to)) ((bs s).drop to) (to - at')) := by
  obtain ⟨e1, e2⟩ := cut_tw s at' to hto
  have e3 : to - at' = (((bs s).drop at').takeWhile isSign).length := by omega
  have e4 : to = at' + 1 ↔ (((bs s).drop at').takeWhile isSign).length = 1 := by omega
  rw [e1, e2, e3, e4]
  clear e1 e2 e3 e4 hto
  rw [drop_at s at' h]
  constructor
  · intro hc
    unfold oneL
    simp only
    rw [if_neg h123.1, if_neg h123.2, if_neg h39, if_neg (fun h => h91 h.1), if_neg hso, if_neg hpu, if_pos hc]
  · intro hc
    unfold oneL
    simp only
    rw [if_neg h123.1, if_neg h123.2, if_neg h39, if_neg (fun h => h91 h.1), if_neg hso, if_neg hpu, if_neg hc]
theorem ends_at (s : ByteArray) (to : Nat) (h : to < s.size) : ends ((bs s).drop to) = (srt s[to] == 5 || s[to] == 37) := by
  rw [drop_at s to h]
  rfl
theorem ends_no (s : ByteArray) (to : Nat) (h : ¬ to < s.size) : ends ((bs s).drop to) = true := by
  rw [List.drop_eq_nil_of_le (by rw [bs_length]; omega)]
  rfl
theorem eq_byte {c : UInt8} {n : Nat} (hn : n < 256) (h : c ≠ UInt8.ofNat n) : ((c.toNat : Int) == (n : Int)) = false := by
  rw [beq_eq_false_iff_ne]
  intro e
  refine h (UInt8.toNat_inj.1 ?_)
  rw [UInt8.toNat_ofNat_of_lt' hn]
  omega
end Go.Proofs.YtliapkajonbndaaGreatDoor

namespace Go.Proofs.YtliapkajonbndaaGreatDoor
open Go.RowKit

end Go.Proofs.YtliapkajonbndaaGreatDoor

namespace Go.Proofs.YtliapkajonbndaaGreatDoor
open Go.RowKit

/-- A token's cells. -/
def tokC (x : Tk × Nat) : List Value := [.int .i64 (x.1.kind : Nat), .string ⟨x.1.text.toArray⟩, .int .i64 (x.1.n : Nat), .int .i64 (x.2 : Nat), .bool x.1.opn]
theorem lnews {w : World} {L : List Value} {t : TypeId} (H : Nat) (hH : w.heap.size = H) : ∀ (j : Nat) (u : Value), L[j]? = some u → (w.alloc (.cells L.toArray t)).cell? ((⟨H, 0, none⟩ : Addr).add j) = some u := by
  subst hH
  intro j u hu
  rw [Addr.add_lit]
  simp only [Nat.zero_add, World.cell?]
  rw [lnewBlk w (.cells L.toArray t)]
  simpa using hu
theorem bs_mk {x : ByteArray} {l : List UInt8} (h : bs x = l) : x = ⟨l.toArray⟩ := by
  subst h
  cases x
  simp [bs]
end Go.Proofs.YtliapkajonbndaaGreatDoor

namespace Go.Proofs.YtliapkajonbndaaGreatDoor
open Go.RowKit

/-- Tokens in memory. -/
def toksIn (w : World) (B : Nat) (l : List (Tk × Nat)) (sv : Value) : Prop :=
  ∃ g cap, sv = .slice g l.length cap ∧ (l = [] ∨ ∃ b off, g = some ⟨b, off, none⟩ ∧ b < B ∧ ∀ i (h : i < l.length),
    w.cell? ⟨b, off + i * 5, none⟩ = some (.int .i64 (l[i].1.kind : Nat)) ∧ w.cell? ⟨b, off + i * 5 + 1, none⟩ = some (.string ⟨l[i].1.text.toArray⟩) ∧ w.cell? ⟨b, off + i * 5 + 2, none⟩ = some (.int .i64 (l[i].1.n : Nat)) ∧ w.cell? ⟨b, off + i * 5 + 3, none⟩ = some (.int .i64 (l[i].2 : Nat)) ∧ w.cell? ⟨b, off + i * 5 + 4, none⟩ = some (.bool l[i].1.opn))
theorem toksIn_same {w w' : World} {B B' : Nat} {l : List (Tk × Nat)} {sv : Value} (h : toksIn w B l sv) (hB : B ≤ B') (hb : Below B w w') : toksIn w' B' l sv := by
  obtain ⟨g, cap, rfl, h⟩ := h
  refine ⟨g, cap, rfl, ?_⟩
  rcases h with h | ⟨b, off, rfl, hlt, h⟩
  · exact .inl h
  · refine .inr ⟨b, off, rfl, by omega, fun i hi => ?_⟩
    obtain ⟨h0, h1, h2, h3, h4⟩ := h i hi
    have e := hb.block b hlt
    have key : ∀ o v, w.cell? ⟨b, o, none⟩ = some v → w'.cell? ⟨b, o, none⟩ = some v := fun o v hv => (World.cell?_of_block (a := ⟨b, o, none⟩) e).trans hv
    exact ⟨key _ _ h0, key _ _ h1, key _ _ h2, key _ _ h3, key _ _ h4⟩
theorem tok_get (l : List (Tk × Nat)) (i : Nat) (h : i < l.length) (j : Nat) (hj : j < 5) : (l.flatMap tokC)[i * 5 + j]? = (tokC l[i])[j]? := by
  induction l generalizing i with
  | nil => simp at h
  | cons x r ih =>
    rw [List.flatMap_cons]
    have hx : (tokC x).length = 5 := rfl
    cases i with
    | zero => rw [List.getElem?_append_left (by rw [hx]; omega)]; simp
    | succ k =>
      rw [List.getElem?_append_right (by rw [hx]; omega), hx, show (k + 1) * 5 + j - 5 = k * 5 + j by omega, ih k (by simpa using h)]
      rfl
theorem toksIn_of_owns {W : World} {base : Nat} {ty : TypeId} {l : List (Tk × Nat)} {sv : Value} (h : W.ownsRow base ty 5 sv l.length (l.flatMap tokC)) : toksIn W W.heap.size l sv := by
  rcases h.2 with ⟨rfl, h0⟩ | ⟨g, cap, cur, rfl, _⟩
  · have : l = [] := List.eq_nil_of_length_eq_zero h0
    subst this
    exact ⟨none, 0, rfl, .inl rfl⟩
  · refine ⟨_, cap, rfl, .inr ⟨g, 0, rfl, (h.lt g rfl).2, fun i hi => ?_⟩⟩
    have key : ∀ j (hj : j < 5) u, (tokC l[i])[j]? = some u → W.cell? ⟨g, 0 + i * 5 + j, none⟩ = some u := fun j hj u hu => by
      have h1 := h.cells (g := g) rfl (i * 5 + j) u (by rw [tok_get l i hi j hj]; exact hu)
      rw [Addr.add_lit] at h1
      rw [Nat.add_assoc]
      exact h1
    exact ⟨key 0 (by decide) _ rfl, key 1 (by decide) _ rfl, key 2 (by decide) _ rfl, key 3 (by decide) _ rfl, key 4 (by decide) _ rfl⟩
theorem toksIn_at {w : World} {B : Nat} {l : List (Tk × Nat)} {sv : Value} (h : toksIn w B l sv) (i : Nat) (hi : i < l.length) : ∃ b off cap, sv = .slice (some ⟨b, off, none⟩) l.length cap ∧ b < B ∧
    w.cell? ⟨b, off + i * 5, none⟩ = some (.int .i64 (l[i].1.kind : Nat)) ∧ w.cell? ⟨b, off + i * 5 + 1, none⟩ = some (.string ⟨l[i].1.text.toArray⟩) ∧ w.cell? ⟨b, off + i * 5 + 2, none⟩ = some (.int .i64 (l[i].1.n : Nat)) ∧ w.cell? ⟨b, off + i * 5 + 3, none⟩ = some (.int .i64 (l[i].2 : Nat)) ∧ w.cell? ⟨b, off + i * 5 + 4, none⟩ = some (.bool l[i].1.opn) := by
  obtain ⟨g, cap, rfl, h | ⟨b, off, rfl, hb, h⟩⟩ := h
  · subst h; simp at hi
  · exact ⟨b, off, cap, rfl, hb, h i hi⟩
end Go.Proofs.YtliapkajonbndaaGreatDoor
