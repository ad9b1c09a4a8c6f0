/-
  What is read is numbered already.
-/
import Derived.Test.YtilfglcjcmpfeaaGreatDoorCls
import Derived.Test.YtilfglcjcmpfeaaGreatDoorPureNum
namespace Go.Proofs.YtilfglcjcmpfeaaGreatDoor
open Go.RowKit

mutual
/-- The variables behind those that were met. -/
def vsT : Tm → List Int → List Int
  | .mk k _ n l, vs => vsL l (if k = 1 ∧ n ∉ vs then vs ++ [n] else vs)
def vsL : List Tm → List Int → List Int
  | [], vs => vs
  | t :: r, vs => vsL r (vsT t vs)
end
theorem vsL_fold (l : List Tm) (h : ∀ t ∈ l, ∀ d vs, (t.nodes d).foldl addV vs = vsT t vs) (d : Int) : ∀ vs, (Tm.nodesL l d).foldl addV vs = vsL l vs := by
  induction l with
  | nil => intro vs; simp [Tm.nodesL, vsL]
  | cons t r ih =>
    intro vs
    simp only [Tm.nodesL, vsL, List.foldl_append]
    rw [h t (by simp), ih (fun u hu => h u (by simp [hu]))]
theorem vsT_fold : ∀ (t : Tm) (d : Int) (vs : List Int), (t.nodes d).foldl addV vs = vsT t vs := Tm.ind fun k s n l ih d vs => by
  simp only [Tm.nodes, vsT, List.foldl_cons]
  rw [vsL_fold l ih]
  rfl
theorem vars_vsL (l : List Tm) : varsOf l = vsL l [] := vsL_fold l (fun t _ => vsT_fold t) 1 []
theorem vsT_fun (s : ByteArray) (l : List Tm) (vs : List Int) : vsT (funT s l) vs = vsL l vs := by
  simp [funT, vsT]
theorem vsT_num (n : Int) (vs : List Int) : vsT (numT n) vs = vs := by
  simp [numT, vsT, vsL]
theorem vsT_list (l : List Tm) (t : Tm) : ∀ vs, vsT (listT l t) vs = vsT t (vsL l vs) := by
  induction l with
  | nil => intro vs; simp [listT, vsL]
  | cons x l ih =>
    intro vs
    have : listT (x :: l) t = funT ⟨#[46]⟩ [x, listT l t] := rfl
    rw [this, vsT_fun]
    simp only [vsL, ih]
theorem mem_places {n : Nat} {v : Nat} : ((v : Int) ∈ places n) ↔ v < n := by
  unfold places
  rw [List.mem_map]
  constructor
  · rintro ⟨i, hi, h⟩
    have := List.mem_range.1 hi
    omega
  · intro h
    exact ⟨v, List.mem_range.2 h, rfl⟩
theorem findN_less {tx : List UInt8} : ∀ {ns : Names} {i : Nat}, findN tx ns = some i → i < ns.length
  | [], i, h => by cases h
  | x :: r, i, h => by
    unfold findN at h
    split at h
    · injection h with h; subst h; simp
    · cases hf : findN tx r with
      | none => rw [hf] at h; cases h
      | some j =>
        rw [hf] at h
        injection h with h
        have h3 := findN_less hf
        have h : j + 1 = i := h
        simp only [List.length_cons]
        omega
theorem vsT_var (ns : Names) (tx : List UInt8) : vsT (varT (varN ns tx).1) (places ns.length) = places (varN ns tx).2.length := by
  have hv : ∀ v : Nat, vsT (varT v) (places ns.length) = if v < ns.length then places ns.length else places ns.length ++ [(v : Int)] := fun v => by
    simp only [varT, vsT, vsL, true_and]
    by_cases h : v < ns.length
    · rw [if_pos h, if_neg (fun h2 => h2 (mem_places.2 h))]
    · rw [if_neg h, if_pos (fun h2 => h (mem_places.1 h2))]
  rw [hv]
  unfold varN
  split
  · rw [if_neg (Nat.lt_irrefl _), List.length_append, ← places_succ]; rfl
  · split
    · rename_i i hi
      rw [if_pos (findN_less hi)]
    · rw [if_neg (Nat.lt_irrefl _), List.length_append, ← places_succ]; rfl
theorem rd_num (S : List UInt8) : ∀ f : Nat,
    (∀ t now p deep ts ns u ts' ns' vs, rdRest S f t now p deep ts ns = .ok (u, ts', ns') → vsT t vs = places ns.length → vsT u vs = places ns'.length) ∧
    (∀ p deep ts ns u ts' ns', rdTerm S f p deep ts ns = .ok (u, ts', ns') → vsT u (places ns.length) = places ns'.length) ∧
    (∀ x p deep ts ns u ts' ns', rdName S f x p deep ts ns = .ok (u, ts', ns') → vsT u.1 (places ns.length) = places ns'.length) ∧
    (∀ deep ts ns u ts' ns', rdRow S f deep ts ns = .ok (u, ts', ns') → vsL u (places ns.length) = places ns'.length)
  | 0 => by
    refine ⟨?_, ?_, ?_, ?_⟩
    · intro t now p deep ts ns u ts' ns' vs h; rw [rdRest] at h; cases h
    · intro p deep ts ns u ts' ns' h; rw [rdTerm] at h; cases h
    · intro x p deep ts ns u ts' ns' h; rw [rdName] at h; cases h
    · intro deep ts ns u ts' ns' h; rw [rdRow] at h; cases h
  | f + 1 => by
    obtain ⟨ih1, ih2, ih3, ih4⟩ := rd_num S f
    refine ⟨?_, ?_, ?_, ?_⟩
    · intro t now p deep ts ns u ts' ns' vs h ht
      rw [rdRest.eq_def] at h
      dsimp only at h
      split at h
      · injection h with h; injection h with h0 h; injection h with h1 h2; subst h0 h1 h2; exact ht
      · rename_i x r
        split at h
        · split at h
          · cases h
          · rename_i v r1 ns1 hv
            refine ih1 _ _ _ _ _ _ _ _ _ vs h ?_
            rw [vsT_fun]
            simp only [vsL]
            rw [ht]
            exact ih2 _ _ _ _ _ _ _ hv
        · injection h with h; injection h with h0 h; injection h with h1 h2; subst h0 h1 h2; exact ht
    · intro p deep ts ns u ts' ns' h
      rw [rdTerm.eq_def] at h
      dsimp only at h
      split at h
      · cases h
      split at h
      · cases h
      rename_i x r
      split at h
      · exact ih1 _ _ _ _ _ _ _ _ _ _ h (vsT_num _ _)
      split at h
      · exact ih1 _ _ _ _ _ _ _ _ _ _ h (vsT_var _ _)
      split at h
      · split at h
        · cases h
        · rename_i t q r1 ns1 hv
          exact ih1 _ _ _ _ _ _ _ _ _ _ h (ih3 _ _ _ _ _ _ _ _ hv)
      split at h
      · split at h
        · cases h
        · rename_i t r1 ns1 hv
          split at h
          · cases h
          · rename_i r2 hn
            exact ih1 _ _ _ _ _ _ _ _ _ _ h (ih2 _ _ _ _ _ _ _ hv)
      split at h
      · split at h
        · cases h
        · rename_i l r1 ns1 hv
          have a1 := ih4 _ _ _ _ _ _ hv
          split at h
          · rename_i hs
            split at h
            · cases h
            · rename_i t r2 ns2 ht
              have a3 := ih2 _ _ _ _ _ _ _ ht
              split at h
              · cases h
              · rename_i r3 hn
                refine ih1 _ _ _ _ _ _ _ _ _ _ h ?_
                rw [vsT_list, a1, a3]
          · split at h
            · cases h
            · rename_i r3 hn
              refine ih1 _ _ _ _ _ _ _ _ _ _ h ?_
              rw [vsT_list, a1, vsT_fun, vsL]
      · cases h
    · intro x p deep ts ns u ts' ns' h
      rw [rdName] at h
      split at h
      · injection h with h; injection h with h0 h; injection h with h1 h2; subst h0 h1 h2
        exact vsT_num _ _
      split at h
      · split at h
        · cases h
        · rename_i r1 hn
          split at h
          · cases h
          · rename_i l r2 ns2 hv
            have a2 := ih4 _ _ _ _ _ _ hv
            split at h
            · cases h
            · rename_i r3 hn2
              injection h with h; injection h with h0 h; injection h with h1 h2; subst h0 h1 h2
              dsimp only
              rw [vsT_fun, a2]
      split at h
      · injection h with h; injection h with h0 h; injection h with h1 h2; subst h0 h1 h2
        dsimp only
        rw [vsT_fun, vsL]
      split at h
      · cases h
      split at h
      · cases h
      · rename_i v r1 ns1 hv
        have a1 := ih2 _ _ _ _ _ _ _ hv
        injection h with h; injection h with h0 h; injection h with h1 h2; subst h0 h1 h2
        dsimp only
        rw [vsT_fun]
        simp only [vsL]
        exact a1
    · intro deep ts ns u ts' ns' h
      rw [rdRow] at h
      split at h
      · cases h
      · rename_i t r ns1 hv
        have a1 := ih2 _ _ _ _ _ _ _ hv
        split at h
        · split at h
          · cases h
          · rename_i l r2 ns2 hl
            have a3 := ih4 _ _ _ _ _ _ hl
            injection h with h; injection h with h0 h; injection h with h1 h2; subst h0 h1 h2
            simp only [vsL]
            rw [a1, a3]
        · injection h with h; injection h with h0 h; injection h with h1 h2; subst h0 h1 h2
          simp only [vsL]
          exact a1
theorem cl_num {S : List UInt8} {ts r : Toks} {t : Tm} {ns : Names} (h : clE S ts = .ok (t, r, ns)) : vsT t [] = places ns.length := by
  unfold clE at h
  cases hr : rdTerm S FF 1200 0 ts [] with
  | error e => rw [hr] at h; cases h
  | ok p =>
    obtain ⟨u, r1, n1⟩ := p
    rw [hr] at h
    dsimp only at h
    split at h
    · injection h with h; injection h with h0 h; injection h with h1 h2; subst h0 h1 h2
      exact (rd_num S FF).2.1 _ _ _ _ _ _ _ hr
    · cases h
theorem posOf_places {n : Nat} {v : Int} (h : v ∈ places n) : posOf (places n) v = v := by
  have hl := List.idxOf_lt_length_iff.2 h
  have hg : (places n)[(places n).idxOf v]'hl = v := List.getElem_idxOf _
  rw [posOf_mem h]
  refine Eq.trans ?_ hg
  simp only [places, List.getElem_map, List.getElem_range]
/-- A right term whose variables come in order is numbered to itself. -/
theorem num_self {t : Tm} {n : Nat} (hr : t.right = true) (hv : vsT t [] = places n) : numTms [t] = [t] ∧ numN [t] = n ∧ numErr [t] = 0 := by
  have hall : [t].all Tm.right = true := by simp [hr]
  have hvs : varsOf [t] = places n := by rw [vars_vsL]; simp only [vsL]; exact hv
  refine ⟨?_, ?_, ?_⟩
  · unfold numTms
    rw [if_pos hall, hvs, Tm.rens_map]
    simp only [List.map_cons, List.map_nil]
    congr 1
    refine ren_id _ t (right_fair hr) fun d x hx hk => ?_
    have hm := vars_cover (l := [t]) (by simp) d x hx hk
    rw [hvs] at hm
    exact posOf_places hm
  · unfold numN
    rw [if_pos hall, hvs, places_length]
  · unfold numErr
    rw [if_pos hall]
theorem cls_num {S : List UInt8} : ∀ (f : Nat) (ts : Toks) (l : List Cl), clsE S f ts = .ok l → ∀ c ∈ l, c.1.right = true ∧ vsT c.1 [] = places c.2.length
  | 0, _, _, h => by rw [clsE] at h; cases h
  | _ + 1, [], l, h => by
    rw [clsE] at h
    injection h with h
    subst h
    simp
  | f + 1, x :: r, l, h => by
    rw [clsE] at h
    cases hc : clE S (x :: r) with
    | error e => rw [hc] at h; cases h
    | ok p =>
      obtain ⟨t, r', ns⟩ := p
      rw [hc] at h
      dsimp only at h
      by_cases hr : t.right = true
      · rw [if_pos hr] at h
        cases hq : clsE S f r' with
        | error e => rw [hq] at h; cases h
        | ok q =>
          rw [hq] at h
          injection h with h
          subst h
          intro c hm
          rcases List.mem_cons.1 hm with rfl | hm
          · exact ⟨hr, cl_num hc⟩
          · exact cls_num f r' q hq c hm
      · rw [if_neg hr] at h
        cases h
theorem read_num {S : List UInt8} {l : List Cl} (h : readE S = .ok l) : ∀ c ∈ l, c.1.right = true ∧ vsT c.1 [] = places c.2.length := by
  unfold readE at h
  split at h
  · cases h
  · split at h
    · cases h
    · exact cls_num _ _ _ h
end Go.Proofs.YtilfglcjcmpfeaaGreatDoor
