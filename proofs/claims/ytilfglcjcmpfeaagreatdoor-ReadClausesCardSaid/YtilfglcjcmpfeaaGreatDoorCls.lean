/-
  Clauses, purely; how large what is read is; rows of clauses in memory.
-/
import Derived.Test.YtilfglcjcmpfeaaGreatDoorPrM
namespace Go.Proofs.YtilfglcjcmpfeaaGreatDoor
open Go.RowKit

theorem sizes_append (a b : List Tm) : Tm.sizes (a ++ b) = Tm.sizes a + Tm.sizes b := by
  induction a with
  | nil => simp [Tm.sizes]
  | cons t a ih => simp only [List.cons_append, Tm.sizes, ih]; omega
theorem size_fun (s : ByteArray) (l : List Tm) : (funT s l).size = Tm.sizes l + 1 := rfl
theorem size_list (l : List Tm) (t : Tm) : (listT l t).size = Tm.sizes l + l.length + t.size := by
  induction l with
  | nil => simp [listT, Tm.sizes]
  | cons x l ih =>
    have : listT (x :: l) t = funT ⟨#[46]⟩ [x, listT l t] := rfl
    rw [this, size_fun]
    simp only [Tm.sizes, ih, List.length_cons]
    omega
theorem seeT_len {m : UInt8} {ts : Toks} (h : seeT m ts = true) : ts.tail.length + 1 = ts.length := by
  cases ts with
  | nil => cases h
  | cons x r => rfl
theorem rd_size (S : List UInt8) : ∀ f : Nat,
    (∀ t now p deep ts ns u ts' ns', rdRest S f t now p deep ts ns = .ok (u, ts', ns') → u.size + 2 * ts'.length ≤ t.size + 2 * ts.length) ∧
    (∀ p deep ts ns u ts' ns', rdTerm S f p deep ts ns = .ok (u, ts', ns') → u.size + 2 * ts'.length + 1 ≤ 2 * ts.length) ∧
    (∀ x p deep ts ns u ts' ns', rdName S f x p deep ts ns = .ok (u, ts', ns') → u.1.size + 2 * ts'.length ≤ 1 + 2 * ts.length) ∧
    (∀ deep ts ns u ts' ns', rdRow S f deep ts ns = .ok (u, ts', ns') → Tm.sizes u + u.length + 2 * ts'.length ≤ 2 * ts.length)
  | 0 => by
    refine ⟨?_, ?_, ?_, ?_⟩
    · intro t now p deep ts ns u ts' ns' h; rw [rdRest] at h; cases h
    · intro p deep ts ns u ts' ns' h; rw [rdTerm] at h; cases h
    · intro x p deep ts ns u ts' ns' h; rw [rdName] at h; cases h
    · intro deep ts ns u ts' ns' h; rw [rdRow] at h; cases h
  | f + 1 => by
    obtain ⟨ih1, ih2, ih3, ih4⟩ := rd_size S f
    refine ⟨?_, ?_, ?_, ?_⟩
    · intro t now p deep ts ns u ts' ns' h
      rw [rdRest.eq_def] at h
      dsimp only at h
      split at h
      · injection h with h; injection h with h0 h; injection h with h1 h2; subst h0 h1 h2; exact Nat.le_refl _
      · rename_i x r
        split at h
        · split at h
          · cases h
          · rename_i v r1 ns1 hv
            have a1 := ih2 _ _ _ _ _ _ _ hv
            have a2 := ih1 _ _ _ _ _ _ _ _ _ h
            rw [size_fun] at a2
            simp only [Tm.sizes, List.length_cons] at a2 ⊢
            omega
        · injection h with h; injection h with h0 h; injection h with h1 h2; subst h0 h1 h2; exact Nat.le_refl _
    · intro p deep ts ns u ts' ns' h
      rw [rdTerm.eq_def] at h
      dsimp only at h
      split at h
      · cases h
      split at h
      · cases h
      rename_i x r
      simp only [List.length_cons]
      split at h
      · have a1 := ih1 _ _ _ _ _ _ _ _ _ h
        have a2 : (numT (x.1.n : Int)).size = 1 := rfl
        omega
      split at h
      · have a1 := ih1 _ _ _ _ _ _ _ _ _ h
        have a2 : (varT (varN ns x.1.text).1).size = 1 := rfl
        omega
      split at h
      · split at h
        · cases h
        · rename_i t q r1 ns1 hv
          have a1 := ih3 _ _ _ _ _ _ _ _ hv
          have a2 := ih1 _ _ _ _ _ _ _ _ _ h
          dsimp only at a1
          omega
      split at h
      · split at h
        · cases h
        · rename_i t r1 ns1 hv
          split at h
          · cases h
          · rename_i r2 hn
            have a1 := ih2 _ _ _ _ _ _ _ hv
            have a2 := needT_len hn
            have a3 := ih1 _ _ _ _ _ _ _ _ _ h
            omega
      split at h
      · split at h
        · cases h
        · rename_i l r1 ns1 hv
          have a1 := ih4 _ _ _ _ _ _ hv
          split at h
          · rename_i hs
            have a2 := seeT_len hs
            split at h
            · cases h
            · rename_i t r2 ns2 ht
              have a3 := ih2 _ _ _ _ _ _ _ ht
              split at h
              · cases h
              · rename_i r3 hn
                have a4 := needT_len hn
                have a5 := ih1 _ _ _ _ _ _ _ _ _ h
                rw [size_list] at a5
                omega
          · split at h
            · cases h
            · rename_i r3 hn
              have a4 := needT_len hn
              have a5 := ih1 _ _ _ _ _ _ _ _ _ h
              rw [size_list, size_fun] at a5
              simp only [Tm.sizes] at a5
              omega
      · cases h
    · intro x p deep ts ns u ts' ns' h
      rw [rdName] at h
      split at h
      · injection h with h; injection h with h0 h; injection h with h1 h2; subst h0 h1 h2
        have a2 : (numT (-(nextN ts : Int))).size = 1 := rfl
        have a3 : ts.tail.length ≤ ts.length := by simp
        dsimp only
        omega
      split at h
      · split at h
        · cases h
        · rename_i r1 hn
          have a1 := needT_len hn
          split at h
          · cases h
          · rename_i l r2 ns2 hv
            have a2 := ih4 _ _ _ _ _ _ hv
            split at h
            · cases h
            · rename_i r3 hn2
              have a3 := needT_len hn2
              injection h with h; injection h with h0 h; injection h with h1 h2; subst h0 h1 h2
              dsimp only
              rw [size_fun]
              omega
      split at h
      · injection h with h; injection h with h0 h; injection h with h1 h2; subst h0 h1 h2
        dsimp only
        rw [size_fun]
        simp only [Tm.sizes]
        omega
      split at h
      · cases h
      split at h
      · cases h
      · rename_i v r1 ns1 hv
        have a1 := ih2 _ _ _ _ _ _ _ hv
        injection h with h; injection h with h0 h; injection h with h1 h2; subst h0 h1 h2
        dsimp only
        rw [size_fun]
        simp only [Tm.sizes]
        omega
    · intro deep ts ns u ts' ns' h
      rw [rdRow] at h
      split at h
      · cases h
      · rename_i t r ns1 hv
        have a1 := ih2 _ _ _ _ _ _ _ hv
        split at h
        · rename_i hs
          have a2 := seeT_len hs
          split at h
          · cases h
          · rename_i l r2 ns2 hl
            have a3 := ih4 _ _ _ _ _ _ hl
            injection h with h; injection h with h0 h; injection h with h1 h2; subst h0 h1 h2
            simp only [Tm.sizes, List.length_cons]
            omega
        · injection h with h; injection h with h0 h; injection h with h1 h2; subst h0 h1 h2
          simp only [Tm.sizes, List.length_cons, List.length_nil]
          omega
abbrev Cl := Tm × Names
/-- The clauses of a row of tokens. -/
def clsE (S : List UInt8) : Nat → Toks → Except (Nat × Nat) (List Cl)
  | 0, _ => .error (9, 0)
  | _ + 1, [] => .ok []
  | f + 1, x :: r => match clE S (x :: r) with
    | .error e => .error e
    | .ok (t, r', ns) => if t.right = true then (match clsE S f r' with | .error e => .error e | .ok l => .ok ((t, ns) :: l)) else .error (3, x.2)
/-- The clauses of a text. -/
def readE (S : List UInt8) : Except (Nat × Nat) (List Cl) :=
  if 8000 < S.length then .error (3, 0)
  else match lexL false 0 S with
    | .inl b => .error (2, b)
    | .inr ts => clsE S (ts.length + 1) ts
def accC (acc : List Cl) : Except (Nat × Nat) (List Cl) → Except (Nat × Nat) (List Cl)
  | .error e => .error e
  | .ok l => .ok (acc ++ l)
theorem accC_nil (r : Except (Nat × Nat) (List Cl)) : accC [] r = r := by cases r <;> rfl
theorem clsE_nil (S : List UInt8) (f : Nat) (acc : List Cl) : accC acc (clsE S (f + 1) []) = .ok acc := by rw [clsE, accC, List.append_nil]
theorem clsE_err {S : List UInt8} {f : Nat} {acc : List Cl} {x : Tk × Nat} {r : Toks} {e : Nat × Nat} (h : clE S (x :: r) = .error e) : accC acc (clsE S (f + 1) (x :: r)) = .error e := by rw [clsE, h]; rfl
theorem clsE_wrong {S : List UInt8} {f : Nat} {acc : List Cl} {x : Tk × Nat} {r r' : Toks} {t : Tm} {ns : Names} (h : clE S (x :: r) = .ok (t, r', ns)) (hr : t.right = false) : accC acc (clsE S (f + 1) (x :: r)) = .error (3, x.2) := by
  rw [clsE, h]
  dsimp only
  rw [if_neg (by rw [hr]; simp)]
  rfl
theorem clsE_next {S : List UInt8} {f : Nat} {acc : List Cl} {x : Tk × Nat} {r r' : Toks} {t : Tm} {ns : Names} (h : clE S (x :: r) = .ok (t, r', ns)) (hr : t.right = true) : accC acc (clsE S (f + 1) (x :: r)) = accC (acc ++ [(t, ns)]) (clsE S f r') := by
  rw [clsE, h]
  dsimp only
  rw [if_pos hr]
  cases clsE S f r' with
  | error e => rfl
  | ok l => simp [accC]
theorem cl_went {S : List UInt8} {ts r : Toks} {t : Tm} {ns : Names} (h : clE S ts = .ok (t, r, ns)) : r.length + 2 ≤ ts.length ∧ (∃ u, ts = u ++ r) ∧ t.size ≤ 2 * ts.length := by
  unfold clE at h
  cases hr : rdTerm S FF 1200 0 ts [] with
  | error e => rw [hr] at h; cases h
  | ok p =>
    obtain ⟨u, r1, n1⟩ := p
    rw [hr] at h
    dsimp only at h
    by_cases he : endT r1 = true
    · rw [if_pos he] at h
      injection h with h; injection h with h0 h; injection h with h1 h2; subst h0 h1 h2
      have w := (rd_went S FF).2.1 _ _ _ _ _ _ _ hr
      have z := (rd_size S FF).2.1 _ _ _ _ _ _ _ hr
      have w1 := w.len
      obtain ⟨v, hv⟩ := w.suf
      cases r1 with
      | nil => cases he
      | cons y q =>
        simp only [List.length_cons, List.tail_cons] at w1 z ⊢
        exact ⟨by omega, ⟨v ++ [y], by rw [hv, List.append_assoc]; rfl⟩, by omega⟩
    · rw [if_neg he] at h
      cases h
/-! ### in memory -/
def clcP (w : World) (ok : Nat → Prop) : List Cl → List Value → Prop
  | [], xs => xs = []
  | (t, ns) :: l, xs => ∃ sv nv ys, xs = .int .i64 t.kind :: .string t.name :: .int .i64 t.n :: sv :: nv :: ys ∧ Tm.innP w ok t sv ∧ namesP w ok ns nv ∧ clcP w ok l ys
theorem clcP_same {w w' : World} {ok ok' : Nat → Prop} (hB : ∀ b, ok b → ok' b) (hc : ∀ b o v, ok b → w.cell? ⟨b, o, none⟩ = some v → w'.cell? ⟨b, o, none⟩ = some v) : ∀ (l : List Cl) (xs : List Value), clcP w ok l xs → clcP w' ok' l xs
  | [], _, h => h
  | (t, _) :: l, _, ⟨sv, nv, ys, e, h1, h2, h3⟩ => ⟨sv, nv, ys, e, Tm.innP_same hB hc t sv h1, namesP_same hB hc h2, clcP_same hB hc l ys h3⟩
theorem clcP_snoc {w : World} {ok : Nat → Prop} {t : Tm} {ns : Names} {sv nv : Value} (ht : Tm.innP w ok t sv) (hn : namesP w ok ns nv) : ∀ (l : List Cl) (xs : List Value), clcP w ok l xs → clcP w ok (l ++ [(t, ns)]) (xs ++ [.int .i64 t.kind, .string t.name, .int .i64 t.n, sv, nv])
  | [], _, h => by
    have h : _ = [] := h
    subst h
    exact ⟨sv, nv, [], rfl, ht, hn, rfl⟩
  | (u, ms) :: l, _, ⟨sv', nv', ys, e, h1, h2, h3⟩ => by
    subst e
    exact ⟨sv', nv', _, rfl, h1, h2, clcP_snoc ht hn l ys h3⟩
/-- A row of clauses. -/
def clsIn (w : World) (B : Nat) (l : List Cl) (sv : Value) : Prop := ∃ g cap, sv = .slice g l.length cap ∧ (l = [] ∨ ∃ b off xs, g = some ⟨b, off, none⟩ ∧ b < B ∧ clcP w (fun x => x < B) l xs ∧ ∀ j u, xs[j]? = some u → w.cell? ⟨b, off + j, none⟩ = some u)
theorem clsIn_below {w w' : World} {B B' : Nat} {l : List Cl} {sv : Value} (h : clsIn w B l sv) (hB : B ≤ B') (hb : Below B w w') : clsIn w' B' l sv := by
  obtain ⟨g, cap, e, h⟩ := h
  refine ⟨g, cap, e, h.imp id ?_⟩
  rintro ⟨b, off, xs, e, hb', h1, h2⟩
  exact ⟨b, off, xs, e, by omega, clcP_same (fun x hx => by omega) (fun x o v hx hv => (hb.cell (p := ⟨x, o, none⟩) hx).trans hv) _ _ h1, fun j u hj => (hb.cell (p := ⟨b, off + j, none⟩) hb').trans (h2 j u hj)⟩
end Go.Proofs.YtilfglcjcmpfeaaGreatDoor
