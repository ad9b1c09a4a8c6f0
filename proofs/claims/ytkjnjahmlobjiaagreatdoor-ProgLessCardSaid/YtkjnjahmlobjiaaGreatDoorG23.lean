/-
  Clauses, purely; how large what is read is; rows of clauses in memory.
  What the program's Tokens is to say; what the document's says; what texts' tokens are.
  What stands in a row of tokens that a text is divided into.
  The next token, between two clauses.
-/
import Derived.Test.YtkjnjahmlobjiaaGreatDoorPrM
import Derived.Test.YtkjnjahmlobjiaaGreatDoorG07
import Derived.Test.YtkjnjahmlobjiaaGreatDoorG00
namespace Go.Proofs.YtkjnjahmlobjiaaGreatDoor
open Go.RowKit

theorem size_fun (s : ByteArray) (l : List Tm) : (funT s l).size = Tm.sizes l + 1 := rfl
theorem size_list (l : List Tm) (t : Tm) : (listT l t).size = Tm.sizes l + l.length + t.size := by
  induction l with
  | nil => simp [listT, Tm.sizes]
  | cons x l ih =>
    have : listT (x :: l) t = funT ⟨#[46]⟩ [x, listT l t] := rfl
    rw [this, size_fun]
    simp only [Tm.sizes, ih, List.length_cons]
    omega
theorem seeT_len {m : UInt8} {ts : Toks} (h : seeT m ts = true) : ts.tail.length + 1 = ts.length := by
  cases ts with
  | nil => cases h
  | cons x r => rfl
theorem rd_size (S : List UInt8) : ∀ f : Nat,
    (∀ t now p deep ts ns u ts' ns', rdRest S f t now p deep ts ns = .ok (u, ts', ns') → u.size + 2 * ts'.length ≤ t.size + 2 * ts.length) ∧
    (∀ p deep ts ns u ts' ns', rdTerm S f p deep ts ns = .ok (u, ts', ns') → u.size + 2 * ts'.length + 1 ≤ 2 * ts.length) ∧
    (∀ x p deep ts ns u ts' ns', rdName S f x p deep ts ns = .ok (u, ts', ns') → u.1.size + 2 * ts'.length ≤ 1 + 2 * ts.length) ∧
    (∀ deep ts ns u ts' ns', rdRow S f deep ts ns = .ok (u, ts', ns') → Tm.sizes u + u.length + 2 * ts'.length ≤ 2 * ts.length)
  | 0 => by
    refine ⟨?_, ?_, ?_, ?_⟩
    · intro t now p deep ts ns u ts' ns' h; rw [rdRest] at h; cases h
    · intro p deep ts ns u ts' ns' h; rw [rdTerm] at h; cases h
    · intro x p deep ts ns u ts' ns' h; rw [rdName] at h; cases h
    · intro deep ts ns u ts' ns' h; rw [rdRow] at h; cases h
  | f + 1 => by
    obtain ⟨ih1, ih2, ih3, ih4⟩ := rd_size S f
    refine ⟨?_, ?_, ?_, ?_⟩
    · intro t now p deep ts ns u ts' ns' h
      rw [rdRest.eq_def] at h
      dsimp only at h
      split at h
      · injection h with h; injection h with h0 h; injection h with h1 h2; subst h0 h1 h2; exact Nat.le_refl _
      · rename_i x r
        split at h
        · split at h
          · cases h
          · rename_i v r1 ns1 hv
            have a1 := ih2 _ _ _ _ _ _ _ hv
            have a2 := ih1 _ _ _ _ _ _ _ _ _ h
            rw [size_fun] at a2
            simp only [Tm.sizes, List.length_cons] at a2 ⊢
            omega
        · injection h with h; injection h with h0 h; injection h with h1 h2; subst h0 h1 h2; exact Nat.le_refl _
    · intro p deep ts ns u ts' ns' h
      rw [rdTerm.eq_def] at h
      dsimp only at h
      split at h
      · cases h
      split at h
      · cases h
      rename_i x r
      simp only [List.length_cons]
      split at h
      · have a1 := ih1 _ _ _ _ _ _ _ _ _ h
        have a2 : (numT (x.1.n : Int)).size = 1 := rfl
        omega
      split at h
      · have a1 := ih1 _ _ _ _ _ _ _ _ _ h
        have a2 : (varT (varN ns x.1.text).1).size = 1 := rfl
        omega
      split at h
      · split at h
        · cases h
        · rename_i t q r1 ns1 hv
          have a1 := ih3 _ _ _ _ _ _ _ _ hv
          have a2 := ih1 _ _ _ _ _ _ _ _ _ h
          dsimp only at a1
          omega
      split at h
      · split at h
        · cases h
        · rename_i t r1 ns1 hv
          split at h
          · cases h
          · rename_i r2 hn
            have a1 := ih2 _ _ _ _ _ _ _ hv
            have a2 := needT_len hn
            have a3 := ih1 _ _ _ _ _ _ _ _ _ h
            omega
      split at h
      · split at h
        · cases h
        · rename_i l r1 ns1 hv
          have a1 := ih4 _ _ _ _ _ _ hv
          split at h
          · rename_i hs
            have a2 := seeT_len hs
            split at h
            · cases h
            · rename_i t r2 ns2 ht
              have a3 := ih2 _ _ _ _ _ _ _ ht
              split at h
              · cases h
              · rename_i r3 hn
                have a4 := needT_len hn
                have a5 := ih1 _ _ _ _ _ _ _ _ _ h
                rw [size_list] at a5
                omega
          · split at h
            · cases h
            · rename_i r3 hn
              have a4 := needT_len hn
              have a5 := ih1 _ _ _ _ _ _ _ _ _ h
              rw [size_list, size_fun] at a5
              simp only [Tm.sizes] at a5
              omega
      · cases h
    · intro x p deep ts ns u ts' ns' h
      rw [rdName] at h
      split at h
      · injection h with h; injection h with h0 h; injection h with h1 h2; subst h0 h1 h2
        have a2 : (numT (-(nextN ts : Int))).size = 1 := rfl
        have a3 : ts.tail.length ≤ ts.length := by simp
        dsimp only
        omega
      split at h
      · split at h
        · cases h
        · rename_i r1 hn
          have a1 := needT_len hn
          split at h
          · cases h
          · rename_i l r2 ns2 hv
            have a2 := ih4 _ _ _ _ _ _ hv
            split at h
            · cases h
            · rename_i r3 hn2
              have a3 := needT_len hn2
              injection h with h; injection h with h0 h; injection h with h1 h2; subst h0 h1 h2
              dsimp only
              rw [size_fun]
              omega
      split at h
      · injection h with h; injection h with h0 h; injection h with h1 h2; subst h0 h1 h2
        dsimp only
        rw [size_fun]
        simp only [Tm.sizes]
        omega
      split at h
      · cases h
      split at h
      · cases h
      · rename_i v r1 ns1 hv
        have a1 := ih2 _ _ _ _ _ _ _ hv
        injection h with h; injection h with h0 h; injection h with h1 h2; subst h0 h1 h2
        dsimp only
        rw [size_fun]
        simp only [Tm.sizes]
        omega
    · intro deep ts ns u ts' ns' h
      rw [rdRow] at h
      split at h
      · cases h
      · rename_i t r ns1 hv
        have a1 := ih2 _ _ _ _ _ _ _ hv
        split at h
        · rename_i hs
          have a2 := seeT_len hs
          split at h
          · cases h
          · rename_i l r2 ns2 hl
            have a3 := ih4 _ _ _ _ _ _ hl
            injection h with h; injection h with h0 h; injection h with h1 h2; subst h0 h1 h2
            simp only [Tm.sizes, List.length_cons]
            omega
        · injection h with h; injection h with h0 h; injection h with h1 h2; subst h0 h1 h2
          simp only [Tm.sizes, List.length_cons, List.length_nil]
          omega
abbrev Cl := Tm × Names
/-- The clauses of a row of tokens. -/
def clsE (S : List UInt8) : Nat → Toks → Except (Nat × Nat) (List Cl)
  | 0, _ => .error (9, 0)
  | _ + 1, [] => .ok []
  | f + 1, x :: r => match clE S (x :: r) with
    | .error e => .error e
    | .ok (t, r', ns) => if t.right = true then (match clsE S f r' with | .error e => .error e | .ok l => .ok ((t, ns) :: l)) else .error (3, x.2)
/-- The clauses of a text. -/
def readE (S : List UInt8) : Except (Nat × Nat) (List Cl) :=
  if 8000 < S.length then .error (3, 0)
  else match lexL false 0 S with
    | .inl b => .error (2, b)
    | .inr ts => clsE S (ts.length + 1) ts
def accC (acc : List Cl) : Except (Nat × Nat) (List Cl) → Except (Nat × Nat) (List Cl)
  | .error e => .error e
  | .ok l => .ok (acc ++ l)
theorem accC_nil (r : Except (Nat × Nat) (List Cl)) : accC [] r = r := by cases r <;> rfl
theorem clsE_nil (S : List UInt8) (f : Nat) (acc : List Cl) : accC acc (clsE S (f + 1) []) = .ok acc := by rw [clsE, accC, List.append_nil]
theorem clsE_err {S : List UInt8} {f : Nat} {acc : List Cl} {x : Tk × Nat} {r : Toks} {e : Nat × Nat} (h : clE S (x :: r) = .error e) : accC acc (clsE S (f + 1) (x :: r)) = .error e := by rw [clsE, h]; rfl
theorem clsE_wrong {S : List UInt8} {f : Nat} {acc : List Cl} {x : Tk × Nat} {r r' : Toks} {t : Tm} {ns : Names} (h : clE S (x :: r) = .ok (t, r', ns)) (hr : t.right = false) : accC acc (clsE S (f + 1) (x :: r)) = .error (3, x.2) := by
  rw [clsE, h]
  dsimp only
  rw [if_neg (by rw [hr]; simp)]
  rfl
theorem clsE_next {S : List UInt8} {f : Nat} {acc : List Cl} {x : Tk × Nat} {r r' : Toks} {t : Tm} {ns : Names} (h : clE S (x :: r) = .ok (t, r', ns)) (hr : t.right = true) : accC acc (clsE S (f + 1) (x :: r)) = accC (acc ++ [(t, ns)]) (clsE S f r') := by
  rw [clsE, h]
  dsimp only
  rw [if_pos hr]
  cases clsE S f r' with
  | error e => rfl
  | ok l => simp [accC]
theorem cl_went {S : List UInt8} {ts r : Toks} {t : Tm} {ns : Names} (h : clE S ts = .ok (t, r, ns)) : r.length + 2 ≤ ts.length ∧ (∃ u, ts = u ++ r) ∧ t.size ≤ 2 * ts.length := by
  unfold clE at h
  cases hr : rdTerm S FF 1200 0 ts [] with
  | error e => rw [hr] at h; cases h
  | ok p =>
    obtain ⟨u, r1, n1⟩ := p
    rw [hr] at h
    dsimp only at h
    by_cases he : endT r1 = true
    · rw [if_pos he] at h
      injection h with h; injection h with h0 h; injection h with h1 h2; subst h0 h1 h2
      have w := (rd_went S FF).2.1 _ _ _ _ _ _ _ hr
      have z := (rd_size S FF).2.1 _ _ _ _ _ _ _ hr
      have w1 := w.len
      obtain ⟨v, hv⟩ := w.suf
      cases r1 with
      | nil => cases he
      | cons y q =>
        simp only [List.length_cons, List.tail_cons] at w1 z ⊢
        exact ⟨by omega, ⟨v ++ [y], by rw [hv, List.append_assoc]; rfl⟩, by omega⟩
    · rw [if_neg he] at h
      cases h
/-! ### in memory -/
def clcP (w : World) (ok : Nat → Prop) : List Cl → List Value → Prop
  | [], xs => xs = []
  | (t, ns) :: l, xs => ∃ sv nv ys, xs = .int .i64 t.kind :: .string t.name :: .int .i64 t.n :: sv :: nv :: ys ∧ Tm.innP w ok t sv ∧ namesP w ok ns nv ∧ clcP w ok l ys
theorem clcP_same {w w' : World} {ok ok' : Nat → Prop} (hB : ∀ b, ok b → ok' b) (hc : ∀ b o v, ok b → w.cell? ⟨b, o, none⟩ = some v → w'.cell? ⟨b, o, none⟩ = some v) : ∀ (l : List Cl) (xs : List Value), clcP w ok l xs → clcP w' ok' l xs
  | [], _, h => h
  | (t, _) :: l, _, ⟨sv, nv, ys, e, h1, h2, h3⟩ => ⟨sv, nv, ys, e, Tm.innP_same hB hc t sv h1, namesP_same hB hc h2, clcP_same hB hc l ys h3⟩
theorem clcP_snoc {w : World} {ok : Nat → Prop} {t : Tm} {ns : Names} {sv nv : Value} (ht : Tm.innP w ok t sv) (hn : namesP w ok ns nv) : ∀ (l : List Cl) (xs : List Value), clcP w ok l xs → clcP w ok (l ++ [(t, ns)]) (xs ++ [.int .i64 t.kind, .string t.name, .int .i64 t.n, sv, nv])
  | [], _, h => by
    have h : _ = [] := h
    subst h
    exact ⟨sv, nv, [], rfl, ht, hn, rfl⟩
  | (u, ms) :: l, _, ⟨sv', nv', ys, e, h1, h2, h3⟩ => by
    subst e
    exact ⟨sv', nv', _, rfl, h1, h2, clcP_snoc ht hn l ys h3⟩
/-- A row of clauses. -/
def clsIn (w : World) (B : Nat) (l : List Cl) (sv : Value) : Prop := ∃ g cap, sv = .slice g l.length cap ∧ (l = [] ∨ ∃ b off xs, g = some ⟨b, off, none⟩ ∧ b < B ∧ clcP w (fun x => x < B) l xs ∧ ∀ j u, xs[j]? = some u → w.cell? ⟨b, off + j, none⟩ = some u)
end Go.Proofs.YtkjnjahmlobjiaaGreatDoor

namespace Go.Proofs.YtkjnjahmlobjiaaGreatDoor
open Go.RowKit

def LexPost (w : World) (s : ByteArray) (e : Ending) (w' : World) : Prop :=
  Below w.heap.size w w' ∧ ∃ (l : List (Tk × Nat)) (sv : Value) (b c : Nat), e = .returned (.tuple #[sv, .int .i64 (b : Nat), .int .i64 (c : Nat)]) ∧ toksIn w' w'.heap.size l sv ∧ l.length ≤ s.size ∧ b ≤ s.size ∧
    ((8000 < s.size ∧ l = [] ∧ b = 0 ∧ c = 3) ∨ (s.size ≤ 8000 ∧ lexL false 0 (bs s) = .inl b ∧ l = [] ∧ c = 2) ∨ (s.size ≤ 8000 ∧ lexL false 0 (bs s) = .inr l ∧ b = 0 ∧ c = 0))
theorem lex_len : ∀ (n : Nat) (l : List UInt8) (cm : Bool) (at' : Nat) (ts : List (Tk × Nat)), l.length ≤ n → lexL cm at' l = .inr ts → ts.length ≤ l.length
  | _, [], cm, at', ts, _, h => by
    rw [lexL_nil] at h
    injection h with h
    subst h
    exact Nat.le_refl _
  | 0, _ :: _, _, _, _, hn, _ => by simp at hn
  | n + 1, c :: r, cm, at', ts, hn, h => by
    simp only [List.length_cons] at hn ⊢
    by_cases h1 : cm = true ∨ c = 37
    · rw [lexL_skip h1] at h
      have := lex_len n r _ _ ts (by omega) h
      omega
    by_cases h5 : srt c = 5
    · rw [lexL_gap h1 h5] at h
      have := lex_len n r _ _ ts (by omega) h
      omega
    cases ho : oneL (c :: r) with
    | none => rw [lexL_bad h1 h5 ho] at h; cases h
    | some x =>
      obtain ⟨t, k⟩ := x
      rw [lexL_tok h1 h5 ho] at h
      obtain ⟨q, h2, rfl⟩ := preL_inr h
      have := lex_len n _ _ _ q (by simp; omega) h2
      simp only [List.length_drop] at this
      simp only [List.length_append, List.length_cons, List.length_nil]
      omega
end Go.Proofs.YtkjnjahmlobjiaaGreatDoor

namespace Go.Proofs.YtkjnjahmlobjiaaGreatDoor
open Go.RowKit

theorem Good.cons {S : List UInt8} {x : Tk × Nat} {r : Toks} (h : Fact S x r) (hr : Good S r) : Good S (x :: r) := fun u y q e => by
  cases u with
  | nil =>
    injection e with e1 e2
    subst e1 e2
    exact h
  | cons a u =>
    injection e with e1 e2
    exact hr u y q e2
theorem pref_text {tx : List UInt8} (h : prefP tx ≠ 0) : tx = [45] ∨ tx = [92, 43] := by
  unfold prefP at h
  by_cases h1 : tx = [45]
  · exact .inl h1
  · by_cases h2 : tx = [92, 43]
    · exact .inr h2
    · rw [if_neg h1, if_neg h2] at h
      exact absurd rfl h
/-- The first bytes of operators. -/
def opHd : List UInt8 := [58, 59, 45, 44, 61, 92, 64, 105, 60, 62, 43, 42, 47, 109]
def hdOk (tx : List UInt8) : Bool := match tx with | [] => false | c :: _ => opHd.contains c
theorem infx_hd {tx : List UInt8} (h : (infixP tx).1 ≠ 0) : hdOk tx = true := by
  unfold infixP at h
  by_cases h1 : tx = [58, 45]
  · subst h1; decide
  rw [if_neg h1] at h
  by_cases h1 : tx = [59]
  · subst h1; decide
  rw [if_neg h1] at h
  by_cases h1 : tx = [45, 62]
  · subst h1; decide
  rw [if_neg h1] at h
  by_cases h1 : tx = [44]
  · subst h1; decide
  rw [if_neg h1] at h
  by_cases h1 : tx ∈ ops7
  · exact (by decide : ∀ o ∈ ops7, hdOk o = true) tx h1
  rw [if_neg h1] at h
  by_cases h1 : tx ∈ ops5
  · exact (by decide : ∀ o ∈ ops5, hdOk o = true) tx h1
  rw [if_neg h1] at h
  by_cases h1 : tx ∈ ops4
  · exact (by decide : ∀ o ∈ ops4, hdOk o = true) tx h1
  rw [if_neg h1] at h
  exact absurd rfl h
/-- What a token is, by itself. -/
structure Face (c : UInt8) (r : List UInt8) (t : Tk) (k : Nat) : Prop where
  kind : 1 ≤ t.kind ∧ t.kind ≤ 5
  pref : prefP t.text ≠ 0 → t.kind = 1
  infx : (infixP t.text).1 ≠ 0 → t.kind = 1 ∨ (t.kind = 4 ∧ t.text = [44])
  opn : t.kind = 1 → t.opn = true → (r.drop (k - 1)).head? = some 40
  neg : t.text = [45] → c = 45 ∨ 2 ≤ k
  up : t.kind = 2 → t.text ≠ []
  len : t.text.length ≤ r.length + 21
  num : t.n ≤ 9223372036854775807
theorem name_face {kind : Nat} {text rest : List UInt8} {k k' : Nat} {t : Tk} (h : nameL kind text rest k = some (t, k')) : t = ⟨kind, text, 0, opens rest⟩ ∧ k' = k ∧ 1 ≤ text.length ∧ text.length ≤ 20 := by
  unfold nameL at h
  split at h
  · rename_i h1
    injection h with h
    injection h with h2 h3
    exact ⟨h2.symm, h3.symm, h1⟩
  · cases h
theorem opens_hd {l : List UInt8} (h : opens l = true) : l.head? = some 40 := by simpa [opens] using h
theorem hd_srt : ∀ c ∈ opHd, srt c ≠ 2 ∧ srt c ≠ 3 := by decide
theorem mark_hd : ∀ c ∈ ([40, 41, 91, 93, 124, 44] : List UInt8), c ∈ opHd → c = 44 := by decide
theorem srt45 : srt 45 = 4 := by decide
theorem srt92 : srt 92 = 4 := by decide
theorem hd_mem {c : UInt8} {r : List UInt8} (h : hdOk (c :: r) = true) : c ∈ opHd := by simpa [hdOk] using h
theorem drop_tw (p : UInt8 → Bool) : ∀ l : List UInt8, l.dropWhile p = l.drop (l.takeWhile p).length
  | [] => rfl
  | c :: r => by
    by_cases h : p c = true
    · simp [h, drop_tw p r]
    · simp [h]
theorem quo_pos : ∀ (n : Nat) (r tx : List UInt8) (k : Nat), r.length ≤ n → quoL r = some (tx, k) → 1 ≤ k := fun n r tx k hn h => ((quo_join [] n r tx k hn h).2).1
theorem tw_hd {p : UInt8 → Bool} {c : UInt8} {r : List UInt8} (h : p c = true) : (c :: r).takeWhile p = c :: r.takeWhile p := by simp [h]
theorem one_face {c : UInt8} {r : List UInt8} {t : Tk} {k : Nat} (h : oneL (c :: r) = some (t, k)) : Face c r t k := by
  unfold oneL at h
  dsimp only at h
  by_cases h12 : srt c = 1 ∨ srt c = 2
  · rw [if_pos h12] at h
    obtain ⟨rfl, rfl, h1, h2⟩ := name_face h
    have hw : isWord c = true := by
      unfold isWord
      rw [decide_eq_true_eq]
      omega
    have htw := tw_hd (r := r) hw
    have hrest : (c :: r).dropWhile isWord = r.drop (((c :: r).takeWhile isWord).length - 1) := by
      rw [drop_tw, htw]
      simp
    rw [hrest] at *
    refine ⟨by dsimp only; omega, fun hp => ?_, fun hi => ?_, fun _ ho => opens_hd ho, fun hn => ?_, fun _ hn => ?_, by dsimp only; omega, by show (0 : Nat) ≤ _; omega⟩
    · rcases pref_text hp with e | e
      · dsimp only at e
        rw [htw] at e
        injection e with e _
        subst e
        rw [srt45] at h12
        omega
      · dsimp only at e
        rw [htw] at e
        injection e with e _
        subst e
        rw [srt92] at h12
        omega
    · have h9 := infx_hd hi
      dsimp only at h9
      rw [htw] at h9
      have := hd_srt c (hd_mem h9)
      dsimp only
      omega
    · dsimp only at hn
      rw [htw] at hn
      injection hn with e _
      exact .inl e
    · dsimp only at hn
      rw [hn] at h1
      simp at h1
  rw [if_neg h12] at h
  by_cases h3 : srt c = 3
  · rw [if_pos h3] at h
    have hw : isDigit c = true := by unfold isDigit; rw [h3]; rfl
    have htw := tw_hd (r := r) hw
    cases hn : numL ((c :: r).takeWhile isDigit) with
    | none => rw [hn] at h; cases h
    | some n =>
      rw [hn] at h
      injection h with h
      injection h with h4 h5
      subst h4 h5
      have hle := tw_len (p := isDigit) (c :: r)
      refine ⟨by dsimp only; omega, fun hp => ?_, fun hi => ?_, fun hk => (by cases hk), fun e => ?_, fun hk => (by cases hk), ?_, ?_⟩
      · rcases pref_text hp with e | e
        · dsimp only at e
          rw [htw] at e
          injection e with e _
          subst e
          rw [srt45] at h3
          omega
        · dsimp only at e
          rw [htw] at e
          injection e with e _
          subst e
          rw [srt92] at h3
          omega
      · have h9 := infx_hd hi
        dsimp only at h9
        rw [htw] at h9
        exact absurd h3 (hd_srt c (hd_mem h9)).2
      · dsimp only at e
        rw [htw] at e
        injection e with e _
        exact .inl e
      · dsimp only
        simp only [List.length_cons] at hle
        omega
      · unfold numL at hn
        split at hn
        · cases hn
        · rename_i h6
          injection hn with hn
          dsimp only
          omega
  rw [if_neg h3] at h
  by_cases h39 : c = 39
  · rw [if_pos h39] at h
    cases hq : quoL r with
    | none => rw [hq] at h; cases h
    | some x =>
      obtain ⟨tx, q⟩ := x
      rw [hq] at h
      obtain ⟨rfl, rfl, h1, h2⟩ := name_face h
      have hq1 := quo_pos _ r tx q (Nat.le_refl _) hq
      exact ⟨by dsimp only; omega, fun _ => rfl, fun _ => .inl rfl, fun _ ho => by rw [Nat.add_sub_cancel]; exact opens_hd ho, fun _ => .inr (by omega), fun hk => (by cases hk), Nat.le_trans h2 (by omega), by show (0 : Nat) ≤ _; omega⟩
  rw [if_neg h39] at h
  by_cases hbr : c = 91 ∧ r.head? = some 93
  · rw [if_pos hbr] at h
    obtain ⟨rfl, rfl, h1, h2⟩ := name_face h
    exact ⟨by dsimp only; omega, fun _ => rfl, fun _ => .inl rfl, fun _ ho => opens_hd ho, fun hn => (by cases hn), fun hk => (by cases hk), Nat.le_trans h2 (by omega), by show (0 : Nat) ≤ _; omega⟩
  rw [if_neg hbr] at h
  by_cases hs : c = 33 ∨ c = 59
  · rw [if_pos hs] at h
    obtain ⟨rfl, rfl, h1, h2⟩ := name_face h
    exact ⟨by dsimp only; omega, fun _ => rfl, fun _ => .inl rfl, fun _ ho => opens_hd ho, fun hn => (by injection hn with e _; exact .inl e), fun hk => (by cases hk), Nat.le_trans h2 (by omega), by show (0 : Nat) ≤ _; omega⟩
  rw [if_neg hs] at h
  by_cases hm : c = 40 ∨ c = 41 ∨ c = 91 ∨ c = 93 ∨ c = 124 ∨ c = 44
  · rw [if_pos hm] at h
    injection h with h
    injection h with h4 h5
    subst h4 h5
    have hmem : c ∈ ([40, 41, 91, 93, 124, 44] : List UInt8) := by
      simp only [List.mem_cons, List.mem_nil_iff, or_false]
      exact hm
    refine ⟨by dsimp only; omega, fun hp => ?_, fun hi => .inr ⟨rfl, ?_⟩, fun hk => (by cases hk), fun hn => ?_, fun hk => (by cases hk), ?_, by show (0 : Nat) ≤ _; omega⟩
    · rcases pref_text hp with e | e
      · injection e with e _
        subst e
        exact absurd hmem (by decide)
      · injection e with _ e
        cases e
    · have := mark_hd c hmem (hd_mem (infx_hd hi))
      rw [this]
    · injection hn with e _
      exact .inl e
    · show 1 ≤ _
      omega
  rw [if_neg hm] at h
  split at h
  · injection h with h
    injection h with h4 h5
    subst h4 h5
    exact ⟨by decide, fun hp => absurd hp (by decide), fun hi => absurd hi (by decide), fun hk => (by cases hk), fun hn => (by cases hn), fun hk => (by cases hk), by show 1 ≤ _; omega, by show (0 : Nat) ≤ _; omega⟩
  · obtain ⟨rfl, rfl, h1, h2⟩ := name_face h
    have hrest : (c :: r).dropWhile isSign = r.drop (((c :: r).takeWhile isSign).length - 1) := by
      rw [drop_tw]
      obtain ⟨q, hq⟩ : ∃ q, ((c :: r).takeWhile isSign).length = q + 1 := ⟨_, (Nat.succ_pred_eq_of_pos (by omega)).symm⟩
      rw [hq]
      simp
    refine ⟨by dsimp only; omega, fun _ => rfl, fun _ => .inl rfl, fun _ ho => by rw [← hrest]; exact opens_hd ho, fun hn => ?_, fun hk => (by cases hk), Nat.le_trans h2 (by omega), by show (0 : Nat) ≤ _; omega⟩
    dsimp only at hn
    by_cases hw : isSign c = true
    · rw [tw_hd hw] at hn
      injection hn with e _
      exact .inl e
    · simp [hw] at hn
theorem lex_ge : ∀ (n : Nat) (l : List UInt8) (cm : Bool) (p : Nat) (ts : Toks), l.length ≤ n → lexL cm p l = .inr ts → ∀ x ∈ ts, p ≤ x.2 ∧ x.2 < p + l.length
  | _, [], cm, p, ts, _, h => by
    rw [lexL_nil] at h
    injection h with h
    subst h
    intro x hx
    cases hx
  | 0, _ :: _, _, _, _, hn, _ => by simp at hn
  | n + 1, c :: r, cm, p, ts, hn, h => by
    simp only [List.length_cons] at hn ⊢
    by_cases h1 : cm = true ∨ c = 37
    · rw [lexL_skip h1] at h
      intro x hx
      have := lex_ge n r _ _ ts (by omega) h x hx
      omega
    by_cases h5 : srt c = 5
    · rw [lexL_gap h1 h5] at h
      intro x hx
      have := lex_ge n r _ _ ts (by omega) h x hx
      omega
    cases ho : oneL (c :: r) with
    | none => rw [lexL_bad h1 h5 ho] at h; cases h
    | some y =>
      obtain ⟨t, k⟩ := y
      rw [lexL_tok h1 h5 ho] at h
      obtain ⟨q, h2, rfl⟩ := preL_inr h
      intro x hx
      have hk := (one_join [] ho).2
      simp only [List.length_cons] at hk
      rcases List.mem_append.1 hx with hx | hx
      · obtain rfl := List.mem_singleton.1 hx
        dsimp only
        omega
      · have := lex_ge n _ _ _ q (by simp; omega) h2 x hx
        simp only [List.length_drop] at this
        omega
theorem lex_see {p : Nat} {l : List UInt8} {ts : Toks} (h : lexL false p l = .inr ts) (hh : l.head? = some 40) : seeT 40 ts = true := by
  cases l with
  | nil => cases hh
  | cons c r =>
    injection hh with hh
    subst hh
    have ho : oneL (40 :: r) = some (⟨4, [40], 0, false⟩, 1) := rfl
    rw [lexL_tok (by decide) (by decide) ho] at h
    obtain ⟨q, h2, rfl⟩ := preL_inr h
    rfl
theorem lex_good {S : List UInt8} (hS : S.length ≤ 8000) : ∀ (n : Nat) (l : List UInt8) (cm : Bool) (p : Nat) (ts : Toks), l.length ≤ n → S.drop p = l → lexL cm p l = .inr ts → Good S ts
  | _, [], cm, p, ts, _, _, h => by
    rw [lexL_nil] at h
    injection h with h
    subst h
    intro u x r e
    cases u <;> cases e
  | 0, _ :: _, _, _, _, hn, _, _ => by simp at hn
  | n + 1, c :: r, cm, p, ts, hn, hl, h => by
    simp only [List.length_cons] at hn
    have hr : S.drop (p + 1) = r := by rw [← List.drop_drop, hl]; rfl
    by_cases h1 : cm = true ∨ c = 37
    · rw [lexL_skip h1] at h
      exact lex_good hS n r _ _ ts (by omega) hr h
    by_cases h5 : srt c = 5
    · rw [lexL_gap h1 h5] at h
      exact lex_good hS n r _ _ ts (by omega) hr h
    cases ho : oneL (c :: r) with
    | none => rw [lexL_bad h1 h5 ho] at h; cases h
    | some y =>
      obtain ⟨t, k⟩ := y
      rw [lexL_tok h1 h5 ho] at h
      obtain ⟨q, h2, rfl⟩ := preL_inr h
      have hf := one_face ho
      have hk := (one_join [] ho).2
      simp only [List.length_cons] at hk
      have hSl : (S.drop p).length = r.length + 1 := by rw [hl]; rfl
      rw [List.length_drop] at hSl
      have hc : S[p]? = some c := by
        have : (S.drop p)[0]? = some c := by rw [hl]; rfl
        simpa using this
      refine Good.cons ⟨hf.kind, hf.pref, hf.infx, fun h1 h2' => lex_see h2 (hf.opn h1 h2'), fun h1 h3 => ?_, hf.up, ?_, hf.num, ?_⟩ (lex_good hS n _ _ _ q (by simp; omega) ?_ h2)
      · rcases hf.neg h1 with e | e
        · rw [← e]; exact hc
        · cases q with
          | nil => cases h3
          | cons z q =>
            have h3 : decide (z.1.kind = 3 ∧ z.2 = p + 1) = true := h3
            rw [decide_eq_true_eq] at h3
            have := (lex_ge _ _ _ _ _ (Nat.le_refl _) h2 z (List.mem_cons_self ..)).1
            have h4 := h3.2
            omega
      · have := hf.len
        dsimp only
        omega
      · dsimp only
        omega
      · rw [← hr, List.drop_drop]
        congr 1
        omega
theorem good_of {s : ByteArray} {ts : Toks} (h : lexL false 0 (bs s) = .inr ts) (hs : s.size ≤ 8000) : Good (bs s) ts :=
  lex_good (by rw [bs_length]; exact hs) _ _ _ _ ts (Nat.le_refl _) rfl h
end Go.Proofs.YtkjnjahmlobjiaaGreatDoor

namespace Go.Proofs.YtkjnjahmlobjiaaGreatDoor
open Go.RowKit

set_option maxRecDepth 100000 in
set_option maxHeartbeats 2000000 in
theorem aheadz_any {X : Nat → Prop} (W : World) (rb z : Nat) (ts : Toks) (n : Nat) (h : PRz X W rb z ts) (hn : n ≤ 1) :
    Calls Tryz.prog 45 #[.pointer (some ⟨rb, 0, none⟩), .int .i64 (n : Nat)] W fun e W' => e = .returned (tkV (tkAt z ts n)) ∧ Below W.heap.size W W' := by
  obtain ⟨tv, nv, mv, d, q, hblk, ⟨ht, g, m, c, rfl, hmc, hc⟩, -⟩ := h.cells
  obtain ⟨⟨c0, c1, c2, c3, c4, c5, c6⟩, f0, f1, f2, f3, f4, f5, f6⟩ := row7 hblk
  have hlt := h.lt
  obtain ⟨g', cap', e', -⟩ := id ht
  injection e' with e1 e2 e3
  subst e1 e2 e3
  by_cases hlen : n < ts.length
  · obtain ⟨b, off, cap, e1, hb, x0, x1, x2, x3, x4⟩ := toksP_at ht n hlen
    injection e1 with e1 _ e3
    subst e1 e3
    have hx : tkAt z ts n = ts[n] := by simp [tkAt, List.getElem?_eq_getElem hlen]
    obtain ⟨x, hx'⟩ : ∃ x, ts[n] = x := ⟨_, rfl⟩
    rw [hx, hx']
    rw [hx'] at x0 x1 x2 x3 x4
    have hbl : b < W.heap.size := hb.2
    have j0 : (0 : Int) ≤ (n : Int) := by omega
    have j1 : (n : Int) < (ts.length : Int) := by omega
    have jw : IntKind.i64.wrap (n : Int) = (n : Int) := by rw [IntKind.wrap_i64]; omega
    clear h hblk ht hb hx hx' f0 f1 f2 f3 f4 f5 f6 c2 c3 c4 c5 c6
    go_enter Tryz.func45, Tryz.ntmps45
    go_wp2_with fail
    have hb := (Below.refl W.heap.size W).alloc (Nat.le_refl _) (.cells #[.int .i64 (x.1.kind : Nat), .string ⟨x.1.text.toArray⟩, .int .i64 (x.1.n : Nat), .int .i64 (x.2 : Nat), .bool x.1.opn] 103)
    have hnw := newBlk W (.cells #[.int .i64 (x.1.kind : Nat), .string ⟨x.1.text.toArray⟩, .int .i64 (x.1.n : Nat), .int .i64 (x.2 : Nat), .bool x.1.opn] 103) W.heap.size rfl
    obtain ⟨V, hV⟩ : ∃ V, W.alloc (.cells #[.int .i64 (x.1.kind : Nat), .string ⟨x.1.text.toArray⟩, .int .i64 (x.1.n : Nat), .int .i64 (x.2 : Nat), .bool x.1.opn] 103) = V := ⟨_, rfl⟩
    rw [hV] at hb hnw ⊢
    obtain ⟨⟨z0, z1, z2, z3, z4⟩, -⟩ := row5t hnw
    clear hV hnw
    refine bodyPost_ret (v := tkV x) (by simp [results, Tryz.results45, go_sem, z0, z1, z2, z3, z4, tkV]) rfl ?_
    exact ⟨rfl, hb⟩
  · have hx : tkAt z ts n = (⟨0, [], 0, false⟩, z) := by simp [tkAt, List.getElem?_eq_none (by omega : ts.length ≤ n)]
    rw [hx]
    have j1 : ((n : Int) < (ts.length : Int)) = False := by simp only [eq_iff_iff, iff_false]; omega
    clear h hblk ht hx f0 f1 f2 f3 f4 f5 f6 c2 c3 c4 c5 c6
    go_enter Tryz.func45, Tryz.ntmps45
    go_wp2_with fail
    have hb := (Below.refl W.heap.size W).alloc (Nat.le_refl _) (.cells #[.int .i64 0, .string ⟨#[]⟩, .int .i64 0, .int .i64 (z : Nat), .bool false] 103)
    have hnw := newBlk W (.cells #[.int .i64 0, .string ⟨#[]⟩, .int .i64 0, .int .i64 (z : Nat), .bool false] 103) W.heap.size rfl
    obtain ⟨V, hV⟩ : ∃ V, W.alloc (.cells #[.int .i64 0, .string ⟨#[]⟩, .int .i64 0, .int .i64 (z : Nat), .bool false] 103) = V := ⟨_, rfl⟩
    rw [hV] at hb hnw ⊢
    obtain ⟨⟨z0, z1, z2, z3, z4⟩, -⟩ := row5t hnw
    clear hV hnw
    refine bodyPost_ret (v := tkV (⟨0, [], 0, false⟩, z)) (by simp [results, Tryz.results45, go_sem, z0, z1, z2, z3, z4, tkV]) rfl ?_
    exact ⟨rfl, hb⟩
theorem aheadz0 {X : Nat → Prop} (W : World) (rb z : Nat) (ts : Toks) (x : Tk × Nat) (hx : tkAt z ts 0 = x) (h : PRz X W rb z ts) :
    Calls Tryz.prog 45 #[.pointer (some ⟨rb, 0, none⟩), .int .i64 0] W fun e W' => e = .returned (.agg #[.int .i64 (x.1.kind : Nat), .string ⟨x.1.text.toArray⟩, .int .i64 (x.1.n : Nat), .int .i64 (x.2 : Nat), .bool x.1.opn]) ∧ Below W.heap.size W W' := by
  subst hx
  exact aheadz_any W rb z ts 0 h (by omega)
end Go.Proofs.YtkjnjahmlobjiaaGreatDoor
