/-
  Two texts with a line feed between, purely.
-/
import Derived.Test.YtilfglcjcmpfeaaGreatDoorSim2
import Derived.Test.YtilfglcjcmpfeaaGreatDoorGd
namespace Go.Proofs.YtilfglcjcmpfeaaGreatDoor
open Go.RowKit

theorem sh_zero (ts : Toks) : sh 0 ts = ts := by
  unfold sh
  rw [show shX 0 = id from rfl, List.map_id]
theorem end_split {r : Toks} (h : endT r = true) : EndU r := by
  cases r with
  | nil => cases h
  | cons y q => exact ⟨y, q, rfl, by simpa [endT] using h⟩
/-- A clause with more behind it. -/
theorem clE_app {S S' : List UInt8} {X ts r : Toks} {t : Tm} {ns : Names} {N : Nat} (hm : ∀ i, i < N → S'[i]? = S[i]?) (h : clE S ts = .ok (t, r, ns)) (hN : ∀ x ∈ ts, x.2 < N) (hl : 4 * ts.length + 3 ≤ FF) : clE S' (ts ++ X) = .ok (t, r ++ X, ns) := by
  unfold clE at h
  cases hr : rdTerm S FF 1200 0 ts [] with
  | error e => rw [hr] at h; cases h
  | ok p =>
    obtain ⟨u, r1, n1⟩ := p
    rw [hr] at h
    dsimp only at h
    by_cases he : endT r1 = true
    · rw [if_pos he] at h
      injection h with h; injection h with h3 h; injection h with h4 h5
      subst h3 h4 h5
      obtain ⟨w, hw⟩ := ((rd_went S FF).2.1 _ _ _ _ _ _ _ hr).suf
      subst hw
      have hU := end_split he
      have hU2 : EndU (r1 ++ X) := by
        obtain ⟨y, q, rfl, hk⟩ := hU
        exact ⟨y, q ++ X, rfl, hk⟩
      obtain ⟨r2, e1, _, _, ht⟩ := (rd_ok (d := 0) (N := N) hU hU2.dead (fun i hi => hm i hi) FF).2.1 _ _ _ _ _ _ _ hr (fun x hx => hN x (List.mem_append_left _ hx)) FF 0 (by simp only [List.length_append] at hl; omega) (.inl rfl)
      have hr2 : r2 = [] := by
        have := congrArg List.length e1
        simp only [List.length_append] at this
        exact List.eq_nil_of_length_eq_zero (by omega)
      subst hr2
      rw [sh_zero, sh_nil, List.nil_append] at ht
      unfold clE
      rw [List.append_assoc, ht]
      dsimp only
      obtain ⟨y, q, rfl, hk⟩ := hU
      rw [if_pos (by simpa [endT] using hk)]
      rfl
    · rw [if_neg he] at h
      cases h
theorem clsE_fuel (S : List UInt8) : ∀ (n f f' : Nat) (ts : Toks), ts.length ≤ n → ts.length < f → ts.length < f' → clsE S f ts = clsE S f' ts
  | _, 0, _, _, _, h, _ => absurd h (by omega)
  | _, _, 0, _, _, _, h => absurd h (by omega)
  | _, f + 1, f' + 1, [], _, _, _ => by rw [clsE, clsE]
  | 0, _ + 1, _ + 1, _ :: _, h, _, _ => by simp at h
  | n + 1, f + 1, f' + 1, x :: r, hn, hf, hf' => by
    rw [clsE, clsE]
    cases hc : clE S (x :: r) with
    | error e => rfl
    | ok p =>
      obtain ⟨t, r', ns⟩ := p
      dsimp only
      have hl := (cl_went hc).1
      simp only [List.length_cons] at hn hf hf' hl
      rw [clsE_fuel S n f f' r' (by omega) (by omega) (by omega)]
theorem clsE_app {S S' : List UInt8} {X : Toks} {N : Nat} (hm : ∀ i, i < N → S'[i]? = S[i]?) : ∀ (n f f' : Nat) (ts : Toks) (la : List Cl), ts.length ≤ n → clsE S f ts = .ok la → (∀ x ∈ ts, x.2 < N) → 4 * ts.length + 3 ≤ FF → (ts ++ X).length < f' → clsE S' f' (ts ++ X) = accC la (clsE S' (X.length + 1) X)
  | _, 0, _, _, _, _, h, _, _, _ => by rw [clsE] at h; cases h
  | _, _, 0, _, _, _, _, _, _, h => absurd h (by omega)
  | _, f + 1, f' + 1, [], la, _, h, _, _, hf => by
    rw [clsE] at h
    injection h with h
    subst h
    rw [List.nil_append] at hf ⊢
    rw [accC_nil]
    exact clsE_fuel S' _ _ _ X (Nat.le_refl _) hf (Nat.lt_succ_self _)
  | 0, _ + 1, _ + 1, _ :: _, _, h, _, _, _, _ => by simp at h
  | n + 1, f + 1, f' + 1, x :: r, la, hn, h, hN, hF, hf => by
    rw [clsE] at h
    cases hc : clE S (x :: r) with
    | error e => rw [hc] at h; cases h
    | ok p =>
      obtain ⟨t, r', ns⟩ := p
      rw [hc] at h
      dsimp only at h
      obtain ⟨hl, ⟨w, hw⟩, _⟩ := cl_went hc
      have hcA := clE_app (X := X) hm hc hN hF
      by_cases hr : t.right = true
      · rw [if_pos hr] at h
        cases hq : clsE S f r' with
        | error e => rw [hq] at h; cases h
        | ok l =>
          rw [hq] at h
          injection h with h
          subst h
          have hX : (r' ++ X).length + 2 ≤ (x :: r ++ X).length := by rw [List.length_append, List.length_append]; omega
          have hf2 : (r' ++ X).length < f' := by omega
          simp only [List.length_cons] at hn hl hF
          have ih := clsE_app hm n f f' r' l (by omega) hq (fun y hy => hN y (by rw [hw]; exact List.mem_append_right _ hy)) (by omega) hf2
          rw [List.cons_append] at hcA ⊢
          rw [clsE, hcA]
          dsimp only
          rw [if_pos hr, ih]
          cases clsE S' (X.length + 1) X with
          | error e => rfl
          | ok q => rfl
      · rw [if_neg hr] at h
        cases h
def shC (d : Nat) : Except (Nat × Nat) (List Cl) → Except (Nat × Nat) (List Cl)
  | .error e => .error (shE d e)
  | .ok l => .ok l
theorem clE_shift {S S' : List UInt8} {d : Nat} (hl : S'.length = S.length + d) (hm : ∀ i, S'[i + d]? = S[i]?) (ts : Toks) : clE S' (sh d ts) = shR d (clE S ts) := by
  unfold clE
  rw [(rd_shift hl hm FF).2.1]
  cases rdTerm S FF 1200 0 ts [] with
  | error e => rfl
  | ok p =>
    obtain ⟨t, r, n⟩ := p
    dsimp only [shR]
    rw [show endT (sh d r) = endT r from by cases r <;> rfl, sh_place hl, sh_tail]
    by_cases h : endT r = true
    · rw [if_pos h, if_pos h]
    · rw [if_neg h, if_neg h]
      rfl
theorem clsE_shift {S S' : List UInt8} {d : Nat} (hl : S'.length = S.length + d) (hm : ∀ i, S'[i + d]? = S[i]?) : ∀ (f : Nat) (ts : Toks), clsE S' f (sh d ts) = shC d (clsE S f ts)
  | 0, _ => by rw [clsE, clsE]; rfl
  | f + 1, [] => by rw [sh_nil, clsE, clsE]; rfl
  | f + 1, x :: r => by
    have h := clE_shift hl hm (x :: r)
    rw [sh_cons] at h ⊢
    rw [clsE, clsE, h]
    cases clE S (x :: r) with
    | error e => rfl
    | ok p =>
      obtain ⟨t, r', ns⟩ := p
      dsimp only [shR]
      by_cases hr : t.right = true
      · rw [if_pos hr, if_pos hr, clsE_shift hl hm f r']
        cases clsE S f r' <;> rfl
      · rw [if_neg hr, if_neg hr]
        rfl
theorem bs_app (a b : ByteArray) : bs (a ++ ⟨#[10]⟩ ++ b) = bs a ++ 10 :: bs b := by
  simp [bs, ByteArray.append_assoc]
theorem read_join (a b : ByteArray) (h1 : a.size ≤ 3000) (h2 : b.size ≤ 3000) {la : List Cl} (h : readE (bs a) = .ok la) : readE (bs (a ++ ⟨#[10]⟩ ++ b)) = accC la (shC (a.size + 1) (readE (bs b))) := by
  have hS := bs_app a b
  have hla := bs_length a
  have hlb := bs_length b
  have hlen : (bs (a ++ ⟨#[10]⟩ ++ b)).length = (bs b).length + (a.size + 1) := by rw [hS]; simp [hla]; omega
  unfold readE at h
  rw [if_neg (by omega)] at h
  cases hx : lexL false 0 (bs a) with
  | inl p => rw [hx] at h; cases h
  | inr ta =>
    rw [hx] at h
    dsimp only at h
    have hj := join_lex a b hx
    have hta := lex_len _ _ _ _ ta (Nat.le_refl _) hx
    have hNa : ∀ x ∈ ta, x.2 < a.size := fun x hx' => by
      have := (lex_ge _ _ _ _ ta (Nat.le_refl _) hx x hx').2
      omega
    unfold readE
    rw [if_neg (by omega), if_neg (by omega), hj]
    cases hy : lexL false 0 (bs b) with
    | inl p => rfl
    | inr tb =>
      have hm1 : ∀ i, i < a.size → (bs (a ++ ⟨#[10]⟩ ++ b))[i]? = (bs a)[i]? := fun i hi => by
        rw [hS, List.getElem?_append_left (by omega)]
      have hm2 : ∀ i, (bs (a ++ ⟨#[10]⟩ ++ b))[i + (a.size + 1)]? = (bs b)[i]? := fun i => by
        rw [hS, List.getElem?_append_right (by omega), hla, show i + (a.size + 1) - a.size = i + 1 by omega]
        rfl
      have hc := clsE_app (X := sh (a.size + 1) tb) hm1 _ _ ((ta ++ sh (a.size + 1) tb).length + 1) ta la (Nat.le_refl _) h hNa (by rw [FF_eq]; omega) (Nat.lt_succ_self _)
      show clsE _ ((ta ++ sh (a.size + 1) tb).length + 1) (ta ++ sh (a.size + 1) tb) = _
      rw [hc, clsE_shift hlen hm2, show (sh (a.size + 1) tb).length = tb.length from List.length_map ..]
end Go.Proofs.YtilfglcjcmpfeaaGreatDoor
