/-
  What Number makes, in one form; that numbered terms are numbered to themselves, purely.
  What is read is numbered already.
  A term's text, purely; it is read as the term, its variables numbered anew.
  A term's text is read as the term, purely: term by term.
-/
import Derived.Test.YtliapkajonbndaaGreatDoorG26
import Derived.Test.YtliapkajonbndaaGreatDoorG24
import Derived.Test.YtliapkajonbndaaGreatDoorG01
namespace Go.Proofs.YtliapkajonbndaaGreatDoor
open Go.RowKit

def numTms (l : List Tm) : List Tm := if l.all Tm.right = true then Tm.rens (posOf (varsOf l)) l else []
def numN (l : List Tm) : Int := if l.all Tm.right = true then ((varsOf l).length : Int) else 0
def numErr (l : List Tm) : Int := if l.all Tm.right = true then 0 else 1

theorem number_all (l : List Tm) (w : World) (sv : Value) (hsl : Tm.sliceIn w w.heap.size l sv) (hsz : Tm.sizes l ≤ 1000000) :
    Calls Tryz.prog 9 #[sv] w fun e w' =>
      (∃ g c, e = .returned (.tuple #[.slice g (numTms l).length c, .int .i64 (numN l), .int .i64 (numErr l)]) ∧ Tm.sliceIn w' w'.heap.size (numTms l) (.slice g (numTms l).length c)) ∧ Below w.heap.size w w' := by
  refine (tnumber_any l w sv hsl hsz).mono ?_
  rintro e w' ⟨hb, ⟨hr, rfl⟩ | ⟨hr, sv', rfl, hp⟩⟩
  · have h1 : numTms l = [] := by unfold numTms; rw [if_neg (by simp [hr])]
    have h2 : numN l = 0 := by unfold numN; rw [if_neg (by simp [hr])]
    have h3 : numErr l = 1 := by unfold numErr; rw [if_neg (by simp [hr])]
    rw [h1, h2, h3]
    exact ⟨⟨none, 0, rfl, none, 0, rfl, Nat.le_refl _, by simp, .inl rfl⟩, hb⟩
  · have h1 : numTms l = Tm.rens (posOf (varsOf l)) l := by unfold numTms; rw [if_pos hr]
    have h2 : numN l = (varsOf l).length := by unfold numN; rw [if_pos hr]
    have h3 : numErr l = 0 := by unfold numErr; rw [if_pos hr]
    rw [h1, h2, h3]
    have hin := Tm.sliceIn_of_P (B := w'.heap.size) (fun b hb => hb.2) hp
    obtain ⟨g, c, rfl, _⟩ := id hin
    exact ⟨⟨g, c, rfl, hin⟩, hb⟩

theorem addV_map (f : Int → Int) (P : Int → Prop) (hinj : ∀ a b, P a → P b → f a = f b → a = b) : ∀ (ks ks' : List Key) (vs : List Int), ks'.map (fun x => (x.k, x.n)) = ks.map (fun x => (x.k, if x.k = 1 then f x.n else x.n)) →
    (∀ v ∈ vs, P v) → (∀ x ∈ ks, x.k = 1 → P x.n) → ks'.foldl addV (vs.map f) = (ks.foldl addV vs).map f := by
  intro ks
  induction ks with
  | nil =>
    intro ks' vs hm _ _
    cases ks' with
    | nil => rfl
    | cons a r => simp at hm
  | cons x r ih =>
    intro ks' vs hm hv hk
    cases ks' with
    | nil => simp at hm
    | cons x' r' =>
      simp only [List.map_cons, List.cons.injEq, Prod.mk.injEq] at hm
      obtain ⟨⟨h1, h2⟩, h3⟩ := hm
      simp only [List.foldl_cons, addV]
      by_cases hx : x.k = 1
      · rw [if_pos hx] at h2
        have hP := hk x (by simp) hx
        have hmem : x'.n ∈ vs.map f ↔ x.n ∈ vs := by
          rw [h2]
          constructor
          · intro h
            obtain ⟨a, ha, he⟩ := List.mem_map.1 h
            rwa [← hinj a x.n (hv a ha) hP he]
          · intro h
            exact List.mem_map.2 ⟨_, h, rfl⟩
        have hx' : x'.k = 1 := h1.trans hx
        by_cases hm2 : x.n ∈ vs
        · rw [if_neg (fun h => h.2 (hmem.2 hm2)), if_neg (fun h => h.2 hm2)]
          exact ih r' vs h3 hv fun y hy => hk y (by simp [hy])
        · rw [if_pos ⟨hx', fun h => hm2 (hmem.1 h)⟩, if_pos ⟨hx, hm2⟩, h2]
          have := ih r' (vs ++ [x.n]) h3 (fun v hv' => by
            rcases List.mem_append.1 hv' with h | h
            · exact hv v h
            · rw [List.mem_singleton.1 h]; exact hP) fun y hy => hk y (by simp [hy])
          rwa [List.map_append] at this
      · rw [if_neg (fun h => hx (h1.symm.trans h.1)), if_neg (fun h => hx h.1)]
        exact ih r' vs h3 hv fun y hy => hk y (by simp [hy])

theorem nodesL_rens (f : Int → Int) (l : List Tm) (h : ∀ t ∈ l, t.noArgs = true) (d : Int) : (Tm.nodesL (Tm.rens f l) d).map (fun x => (x.k, x.n)) = (Tm.nodesL l d).map (fun x => (x.k, if x.k = 1 then f x.n else x.n)) := by
  induction l with
  | nil => rfl
  | cons t r ih =>
    simp only [Tm.rens, Tm.nodesL, List.map_append]
    rw [nodes_ren f t (h t (by simp)) d, ih fun u hu => h u (by simp [hu])]
theorem vars_rens (f : Int → Int) (l : List Tm) (h : ∀ t ∈ l, t.noArgs = true) (hinj : ∀ a ∈ varsOf l, ∀ b ∈ varsOf l, f a = f b → a = b) : varsOf (Tm.rens f l) = (varsOf l).map f :=
  addV_map f (· ∈ varsOf l) (fun a b ha hb => hinj a ha b hb) (Tm.nodesL l 1) (Tm.nodesL (Tm.rens f l) 1) [] (nodesL_rens f l h 1) (fun v hv => by cases hv) (fun x hx hk => (vars_mem l _).2 ⟨x, hx, hk, rfl⟩)

theorem posOf_mem {vs : List Int} {v : Int} (h : v ∈ vs) : posOf vs v = (vs.idxOf v : Int) := by unfold posOf; rw [if_pos h]
theorem posOf_inj {vs : List Int} : ∀ a ∈ vs, ∀ b ∈ vs, posOf vs a = posOf vs b → a = b := fun a ha b hb h => by
  rw [posOf_mem ha, posOf_mem hb] at h
  have h1 : vs.idxOf a = vs.idxOf b := by omega
  have ga : vs[vs.idxOf a]'(List.idxOf_lt_length_iff.2 ha) = a := List.getElem_idxOf _
  have gb : vs[vs.idxOf b]'(List.idxOf_lt_length_iff.2 hb) = b := List.getElem_idxOf _
  rw [← ga, ← gb]
  congr 1
/-- In another row of the same length, place for place. -/
theorem posOf_map {vs : List Int} (f : Int → Int) (hinj : ∀ a ∈ vs, ∀ b ∈ vs, f a = f b → a = b) {v : Int} (h : v ∈ vs) : posOf (vs.map f) (f v) = posOf vs v := by
  have hm : f v ∈ vs.map f := List.mem_map.2 ⟨v, h, rfl⟩
  rw [posOf_mem hm, posOf_mem h]
  have hlt := List.idxOf_lt_length_iff.2 h
  have hg : vs[vs.idxOf v] = v := List.getElem_idxOf _
  have := idx_first (vs.map f) (f v) (vs.idxOf v) (by simpa using hlt) (by simp [hg]) (fun j hj hjk he => by
    have hj' : j < vs.length := by simpa using hj
    have he' : f vs[j] = f v := by simpa using he
    have h1 := hinj _ (List.getElem_mem hj') _ h he'
    have h2 : vs.idxOf v ≤ j := by
      rcases Nat.lt_or_ge j (vs.idxOf v) with hlt2 | hge
      · have := List.not_of_lt_findIdx (p := (· == v)) (xs := vs) (i := j) (by simpa [List.idxOf] using hlt2)
        simp [h1] at this
      · exact hge
    omega)
  rw [this]
theorem ren_id (f : Int → Int) : ∀ t : Tm, t.fair = true → (∀ d, ∀ x ∈ t.nodes d, x.k = 1 → f x.n = x.n) → t.ren f = t := Tm.ind fun k s n l ih h hf => by
  simp only [Tm.ren]
  split
  · rename_i hk
    have hl := args_nil (fair_noArgs _ h) hk
    have h1 := hf 0 ⟨k, s, n, l.length, 0⟩ (by simp [Tm.nodes]) hk
    simp only at h1
    subst hk hl
    simp only [Tm.fair, Tm.alone, if_true, Bool.and_eq_true, decide_eq_true_eq] at h
    have hs : s = ⟨#[]⟩ := by
      have := h.2.1.2
      rw [← size0] at this
      exact ByteArray.ext (Array.eq_empty_of_size_eq_zero this)
    rw [h1, hs]
  · congr 1
    simp only [Tm.fair, Bool.and_eq_true] at h
    have h12 := h.1.2
    rw [Tm.fairs_all, List.all_eq_true] at h12
    rw [Tm.rens_map]
    conv => rhs; rw [← List.map_id l]
    refine List.map_congr_left fun t ht => ih t ht (h12 t ht) fun d x hx hk => hf (d - 1) x ?_ hk
    simp only [Tm.nodes]
    exact List.mem_cons_of_mem _ (nodesL_to ht (by rw [show d - 1 + 1 = d by omega]; exact hx))

theorem all_right {l : List Tm} (h : l.all Tm.right = true) : ∀ t ∈ l, t.right = true := List.all_eq_true.1 h
theorem numbered_right {l : List Tm} (h : l.all Tm.right = true) (hlen : (varsOf l).length ≤ 1000000) : (Tm.rens (posOf (varsOf l)) l).all Tm.right = true := by
  rw [List.all_eq_true]
  intro u hu
  rw [Tm.rens_map] at hu
  obtain ⟨t, ht, rfl⟩ := List.mem_map.1 hu
  refine right_ren (all_right h t ht) fun d x hx hk => ?_
  have hm := vars_cover ht d x hx hk
  rw [posOf_mem hm]
  have := List.idxOf_lt_length_iff.2 hm
  omega
/-- Numbered, they are numbered to themselves. -/
theorem numbered_again {l : List Tm} (h : l.all Tm.right = true) (hlen : (varsOf l).length ≤ 1000000) : numTms (numTms l) = numTms l ∧ numN (numTms l) = numN l ∧ numErr (numTms l) = 0 := by
  have hr := numbered_right h hlen
  have h1 : numTms l = Tm.rens (posOf (varsOf l)) l := by unfold numTms; rw [if_pos h]
  have hv : varsOf (Tm.rens (posOf (varsOf l)) l) = (varsOf l).map (posOf (varsOf l)) := vars_rens _ l (fun t ht => right_noArgs (all_right h t ht)) posOf_inj
  rw [h1]
  refine ⟨?_, ?_, ?_⟩
  · unfold numTms
    rw [if_pos hr, hv, Tm.rens_map]
    conv => rhs; rw [← List.map_id (Tm.rens (posOf (varsOf l)) l)]
    refine List.map_congr_left fun u hu => ?_
    refine ren_id _ u (right_fair (all_right hr u hu)) fun d x hx hk => ?_
    have hm := vars_cover hu d x hx hk
    rw [hv] at hm
    obtain ⟨v, hv', he⟩ := List.mem_map.1 hm
    rw [← he, posOf_map _ posOf_inj hv']
  · unfold numN
    rw [if_pos hr, if_pos h, hv, List.length_map]
  · unfold numErr
    rw [if_pos hr]
/-- The places, as the statement lays them. -/
def places (n : Nat) : List Int := (List.range n).map fun (i : Nat) => (i : Int)
theorem places_succ (n : Nat) : places (n + 1) = places n ++ [(n : Int)] := by simp [places, List.range_succ]
theorem places_length (n : Nat) : (places n).length = n := by simp [places]
theorem places_wf {n : Nat} (h : n ≤ 1000000) : ∀ x ∈ places n, (Lit.int .i64 x).wf = true := fun x hx => by
  obtain ⟨i, hi, rfl⟩ := List.mem_map.1 hx
  have := List.mem_range.1 hi
  exact WalkArith.wf_i64 (by omega)
theorem turn_places {l : List Tm} (h : l.all Tm.right = true) : l.map (fun t => t.ren (toOf (varsOf l) (places (varsOf l).length))) = numTms l := by
  unfold numTms
  rw [if_pos h, Tm.rens_map]
  refine List.map_congr_left fun t ht => ren_congr _ _ t fun d x hx hk => ?_
  have hm := vars_cover ht d x hx hk
  have hlt := List.idxOf_lt_length_iff.2 hm
  rw [posOf_mem hm]
  unfold toOf
  rw [List.getD_eq_getElem?_getD]
  simp [places, hlt]
end Go.Proofs.YtliapkajonbndaaGreatDoor

namespace Go.Proofs.YtliapkajonbndaaGreatDoor
open Go.RowKit

mutual
/-- The variables behind those that were met. -/
def vsT : Tm → List Int → List Int
  | .mk k _ n l, vs => vsL l (if k = 1 ∧ n ∉ vs then vs ++ [n] else vs)
def vsL : List Tm → List Int → List Int
  | [], vs => vs
  | t :: r, vs => vsL r (vsT t vs)
end
theorem vsL_fold (l : List Tm) (h : ∀ t ∈ l, ∀ d vs, (t.nodes d).foldl addV vs = vsT t vs) (d : Int) : ∀ vs, (Tm.nodesL l d).foldl addV vs = vsL l vs := by
  induction l with
  | nil => intro vs; simp [Tm.nodesL, vsL]
  | cons t r ih =>
    intro vs
    simp only [Tm.nodesL, vsL, List.foldl_append]
    rw [h t (by simp), ih (fun u hu => h u (by simp [hu]))]
theorem vsT_fold : ∀ (t : Tm) (d : Int) (vs : List Int), (t.nodes d).foldl addV vs = vsT t vs := Tm.ind fun k s n l ih d vs => by
  simp only [Tm.nodes, vsT, List.foldl_cons]
  rw [vsL_fold l ih]
  rfl
theorem vars_vsL (l : List Tm) : varsOf l = vsL l [] := vsL_fold l (fun t _ => vsT_fold t) 1 []
theorem vsT_fun (s : ByteArray) (l : List Tm) (vs : List Int) : vsT (funT s l) vs = vsL l vs := by
  simp [funT, vsT]
theorem vsT_num (n : Int) (vs : List Int) : vsT (numT n) vs = vs := by
  simp [numT, vsT, vsL]
theorem vsT_list (l : List Tm) (t : Tm) : ∀ vs, vsT (listT l t) vs = vsT t (vsL l vs) := by
  induction l with
  | nil => intro vs; simp [listT, vsL]
  | cons x l ih =>
    intro vs
    have : listT (x :: l) t = funT ⟨#[46]⟩ [x, listT l t] := rfl
    rw [this, vsT_fun]
    simp only [vsL, ih]
theorem mem_places {n : Nat} {v : Nat} : ((v : Int) ∈ places n) ↔ v < n := by
  unfold places
  rw [List.mem_map]
  constructor
  · rintro ⟨i, hi, h⟩
    have := List.mem_range.1 hi
    omega
  · intro h
    exact ⟨v, List.mem_range.2 h, rfl⟩
theorem findN_less {tx : List UInt8} : ∀ {ns : Names} {i : Nat}, findN tx ns = some i → i < ns.length
  | [], i, h => by cases h
  | x :: r, i, h => by
    unfold findN at h
    split at h
    · injection h with h; subst h; simp
    · cases hf : findN tx r with
      | none => rw [hf] at h; cases h
      | some j =>
        rw [hf] at h
        injection h with h
        have h3 := findN_less hf
        have h : j + 1 = i := h
        simp only [List.length_cons]
        omega
theorem vsT_var (ns : Names) (tx : List UInt8) : vsT (varT (varN ns tx).1) (places ns.length) = places (varN ns tx).2.length := by
  have hv : ∀ v : Nat, vsT (varT v) (places ns.length) = if v < ns.length then places ns.length else places ns.length ++ [(v : Int)] := fun v => by
    simp only [varT, vsT, vsL, true_and]
    by_cases h : v < ns.length
    · rw [if_pos h, if_neg (fun h2 => h2 (mem_places.2 h))]
    · rw [if_neg h, if_pos (fun h2 => h (mem_places.1 h2))]
  rw [hv]
  unfold varN
  split
  · rw [if_neg (Nat.lt_irrefl _), List.length_append, ← places_succ]; rfl
  · split
    · rename_i i hi
      rw [if_pos (findN_less hi)]
    · rw [if_neg (Nat.lt_irrefl _), List.length_append, ← places_succ]; rfl
theorem rd_num (S : List UInt8) : ∀ f : Nat,
    (∀ t now p deep ts ns u ts' ns' vs, rdRest S f t now p deep ts ns = .ok (u, ts', ns') → vsT t vs = places ns.length → vsT u vs = places ns'.length) ∧
    (∀ p deep ts ns u ts' ns', rdTerm S f p deep ts ns = .ok (u, ts', ns') → vsT u (places ns.length) = places ns'.length) ∧
    (∀ x p deep ts ns u ts' ns', rdName S f x p deep ts ns = .ok (u, ts', ns') → vsT u.1 (places ns.length) = places ns'.length) ∧
    (∀ deep ts ns u ts' ns', rdRow S f deep ts ns = .ok (u, ts', ns') → vsL u (places ns.length) = places ns'.length)
  | 0 => by
    refine ⟨?_, ?_, ?_, ?_⟩
    · intro t now p deep ts ns u ts' ns' vs h; rw [rdRest] at h; cases h
    · intro p deep ts ns u ts' ns' h; rw [rdTerm] at h; cases h
    · intro x p deep ts ns u ts' ns' h; rw [rdName] at h; cases h
    · intro deep ts ns u ts' ns' h; rw [rdRow] at h; cases h
  | f + 1 => by
    obtain ⟨ih1, ih2, ih3, ih4⟩ := rd_num S f
    refine ⟨?_, ?_, ?_, ?_⟩
    · intro t now p deep ts ns u ts' ns' vs h ht
      rw [rdRest.eq_def] at h
      dsimp only at h
      split at h
      · injection h with h; injection h with h0 h; injection h with h1 h2; subst h0 h1 h2; exact ht
      · rename_i x r
        split at h
        · split at h
          · cases h
          · rename_i v r1 ns1 hv
            refine ih1 _ _ _ _ _ _ _ _ _ vs h ?_
            rw [vsT_fun]
            simp only [vsL]
            rw [ht]
            exact ih2 _ _ _ _ _ _ _ hv
        · injection h with h; injection h with h0 h; injection h with h1 h2; subst h0 h1 h2; exact ht
    · intro p deep ts ns u ts' ns' h
      rw [rdTerm.eq_def] at h
      dsimp only at h
      split at h
      · cases h
      split at h
      · cases h
      rename_i x r
      split at h
      · exact ih1 _ _ _ _ _ _ _ _ _ _ h (vsT_num _ _)
      split at h
      · exact ih1 _ _ _ _ _ _ _ _ _ _ h (vsT_var _ _)
      split at h
      · split at h
        · cases h
        · rename_i t q r1 ns1 hv
          exact ih1 _ _ _ _ _ _ _ _ _ _ h (ih3 _ _ _ _ _ _ _ _ hv)
      split at h
      · split at h
        · cases h
        · rename_i t r1 ns1 hv
          split at h
          · cases h
          · rename_i r2 hn
            exact ih1 _ _ _ _ _ _ _ _ _ _ h (ih2 _ _ _ _ _ _ _ hv)
      split at h
      · split at h
        · cases h
        · rename_i l r1 ns1 hv
          have a1 := ih4 _ _ _ _ _ _ hv
          split at h
          · rename_i hs
            split at h
            · cases h
            · rename_i t r2 ns2 ht
              have a3 := ih2 _ _ _ _ _ _ _ ht
              split at h
              · cases h
              · rename_i r3 hn
                refine ih1 _ _ _ _ _ _ _ _ _ _ h ?_
                rw [vsT_list, a1, a3]
          · split at h
            · cases h
            · rename_i r3 hn
              refine ih1 _ _ _ _ _ _ _ _ _ _ h ?_
              rw [vsT_list, a1, vsT_fun, vsL]
      · cases h
    · intro x p deep ts ns u ts' ns' h
      rw [rdName] at h
      split at h
      · injection h with h; injection h with h0 h; injection h with h1 h2; subst h0 h1 h2
        exact vsT_num _ _
      split at h
      · split at h
        · cases h
        · rename_i r1 hn
          split at h
          · cases h
          · rename_i l r2 ns2 hv
            have a2 := ih4 _ _ _ _ _ _ hv
            split at h
            · cases h
            · rename_i r3 hn2
              injection h with h; injection h with h0 h; injection h with h1 h2; subst h0 h1 h2
              dsimp only
              rw [vsT_fun, a2]
      split at h
      · injection h with h; injection h with h0 h; injection h with h1 h2; subst h0 h1 h2
        dsimp only
        rw [vsT_fun, vsL]
      split at h
      · cases h
      split at h
      · cases h
      · rename_i v r1 ns1 hv
        have a1 := ih2 _ _ _ _ _ _ _ hv
        injection h with h; injection h with h0 h; injection h with h1 h2; subst h0 h1 h2
        dsimp only
        rw [vsT_fun]
        simp only [vsL]
        exact a1
    · intro deep ts ns u ts' ns' h
      rw [rdRow] at h
      split at h
      · cases h
      · rename_i t r ns1 hv
        have a1 := ih2 _ _ _ _ _ _ _ hv
        split at h
        · split at h
          · cases h
          · rename_i l r2 ns2 hl
            have a3 := ih4 _ _ _ _ _ _ hl
            injection h with h; injection h with h0 h; injection h with h1 h2; subst h0 h1 h2
            simp only [vsL]
            rw [a1, a3]
        · injection h with h; injection h with h0 h; injection h with h1 h2; subst h0 h1 h2
          simp only [vsL]
          exact a1
theorem cl_num {S : List UInt8} {ts r : Toks} {t : Tm} {ns : Names} (h : clE S ts = .ok (t, r, ns)) : vsT t [] = places ns.length := by
  unfold clE at h
  cases hr : rdTerm S FF 1200 0 ts [] with
  | error e => rw [hr] at h; cases h
  | ok p =>
    obtain ⟨u, r1, n1⟩ := p
    rw [hr] at h
    dsimp only at h
    split at h
    · injection h with h; injection h with h0 h; injection h with h1 h2; subst h0 h1 h2
      exact (rd_num S FF).2.1 _ _ _ _ _ _ _ hr
    · cases h
theorem posOf_places {n : Nat} {v : Int} (h : v ∈ places n) : posOf (places n) v = v := by
  have hl := List.idxOf_lt_length_iff.2 h
  have hg : (places n)[(places n).idxOf v]'hl = v := List.getElem_idxOf _
  rw [posOf_mem h]
  refine Eq.trans ?_ hg
  simp only [places, List.getElem_map, List.getElem_range]
/-- A right term whose variables come in order is numbered to itself. -/
theorem num_self {t : Tm} {n : Nat} (hr : t.right = true) (hv : vsT t [] = places n) : numTms [t] = [t] ∧ numN [t] = n ∧ numErr [t] = 0 := by
  have hall : [t].all Tm.right = true := by simp [hr]
  have hvs : varsOf [t] = places n := by rw [vars_vsL]; simp only [vsL]; exact hv
  refine ⟨?_, ?_, ?_⟩
  · unfold numTms
    rw [if_pos hall, hvs, Tm.rens_map]
    simp only [List.map_cons, List.map_nil]
    congr 1
    refine ren_id _ t (right_fair hr) fun d x hx hk => ?_
    have hm := vars_cover (l := [t]) (by simp) d x hx hk
    rw [hvs] at hm
    exact posOf_places hm
  · unfold numN
    rw [if_pos hall, hvs, places_length]
  · unfold numErr
    rw [if_pos hall]
theorem cls_num {S : List UInt8} : ∀ (f : Nat) (ts : Toks) (l : List Cl), clsE S f ts = .ok l → ∀ c ∈ l, c.1.right = true ∧ vsT c.1 [] = places c.2.length
  | 0, _, _, h => by rw [clsE] at h; cases h
  | _ + 1, [], l, h => by
    rw [clsE] at h
    injection h with h
    subst h
    simp
  | f + 1, x :: r, l, h => by
    rw [clsE] at h
    cases hc : clE S (x :: r) with
    | error e => rw [hc] at h; cases h
    | ok p =>
      obtain ⟨t, r', ns⟩ := p
      rw [hc] at h
      dsimp only at h
      by_cases hr : t.right = true
      · rw [if_pos hr] at h
        cases hq : clsE S f r' with
        | error e => rw [hq] at h; cases h
        | ok q =>
          rw [hq] at h
          injection h with h
          subst h
          intro c hm
          rcases List.mem_cons.1 hm with rfl | hm
          · exact ⟨hr, cl_num hc⟩
          · exact cls_num f r' q hq c hm
      · rw [if_neg hr] at h
        cases h
theorem read_num {S : List UInt8} {l : List Cl} (h : readE S = .ok l) : ∀ c ∈ l, c.1.right = true ∧ vsT c.1 [] = places c.2.length := by
  unfold readE at h
  split at h
  · cases h
  · split at h
    · cases h
    · exact cls_num _ _ _ h
end Go.Proofs.YtliapkajonbndaaGreatDoor

namespace Go.Proofs.YtliapkajonbndaaGreatDoor
open Go.RowKit

/-! ### what ends a term -/
def Dull (P : Nat) (u : Toks) : Prop := ∃ y q, u = y :: q ∧ (y.1.kind = 5 ∨ (y.1.kind = 4 ∧ (y.1.text = [41] ∨ y.1.text = [93] ∨ y.1.text = [124] ∨ (y.1.text = [44] ∧ P ≤ 999))))
theorem dull_op {P : Nat} {u : Toks} (h : Dull P u) : opT 0 P u = false := by
  obtain ⟨y, q, rfl, h⟩ := h
  unfold opT
  rw [decide_eq_false_iff_not]
  rintro ⟨h1, h2, h3, _⟩
  rcases h with h | ⟨h4, h | h | h | ⟨h, hP⟩⟩
  · omega
  · rw [h] at h2; exact h2 (by decide)
  · rw [h] at h2; exact h2 (by decide)
  · rw [h] at h2; exact h2 (by decide)
  · rw [h, show (infixP [44]).1 = 1000 by decide] at h3; omega
theorem dull_num {P : Nat} {u : Toks} (h : Dull P u) (p : Nat) : numAt p u = false := by
  obtain ⟨y, q, rfl, h⟩ := h
  unfold numAt
  rw [decide_eq_false_iff_not]
  rintro ⟨h1, _⟩
  rcases h with h | ⟨h, _⟩ <;> omega
theorem dull_beg {P : Nat} {u : Toks} (h : Dull P u) : begT u = false := by
  obtain ⟨y, q, rfl, h⟩ := h
  unfold begT
  rw [decide_eq_false_iff_not]
  rcases h with h | ⟨h4, h | h | h | ⟨h, _⟩⟩
  · omega
  all_goals
    rw [h]
    rintro (e | e | e | ⟨_, e | e⟩)
    · omega
    · omega
    · omega
    · cases e
    · cases e
/-- The name of a variable's number. -/
def vname (v : Int) : List UInt8 := 95 :: dgs v.toNat
theorem vname_inj {a b : Int} (ha : 0 ≤ a) (hb : 0 ≤ b) (h : vname a = vname b) : a = b := by
  injection h with _ h
  have := dgs_inj h
  omega
theorem findN_map {v : Int} (hv : 0 ≤ v) : ∀ {vs : List Int}, (∀ x ∈ vs, 0 ≤ x) → findN (vname v) (vs.map vname) = if v ∈ vs then some (vs.idxOf v) else none
  | [], _ => rfl
  | x :: r, h => by
    have ih := findN_map hv (vs := r) (fun y hy => h y (by simp [hy]))
    rw [List.map_cons, findN]
    by_cases e : x = v
    · subst e
      simp
    · rw [if_neg (fun e2 => e (vname_inj (h x (by simp)) hv e2)), ih]
      by_cases hm : v ∈ r
      · rw [if_pos hm, if_pos (by simp [hm])]
        simp [List.idxOf_cons, show (x == v) = false from beq_false_of_ne e]
      · rw [if_neg hm, if_neg (by simp [hm, Ne.symm e])]
        rfl
theorem idx_pre {vs x : List Int} {v : Int} (h : v ∈ vs) : (vs ++ x).idxOf v = vs.idxOf v := by rw [List.idxOf_append, if_pos h]
theorem idx_new {vs x : List Int} {v : Int} (h : v ∉ vs) : (vs ++ v :: x).idxOf v = vs.length := by
  rw [List.idxOf_append, if_neg h]
  simp
theorem varN_map {v : Int} {vs W : List Int} (hv : 0 ≤ v) (hW : ∀ x ∈ W, 0 ≤ x) (hp : vsT (.mk 1 ⟨#[]⟩ v []) vs <+: W) : varT (varN (vs.map vname) (vname v)).1 = .mk 1 ⟨#[]⟩ (posOf W v) [] ∧ (varN (vs.map vname) (vname v)).2 = (vsT (.mk 1 ⟨#[]⟩ v []) vs).map vname := by
  have hvs : vsT (.mk 1 ⟨#[]⟩ v []) vs = if v ∈ vs then vs else vs ++ [v] := by
    simp only [vsT, vsL, true_and]
    by_cases h : v ∈ vs
    · rw [if_pos h, if_neg (fun e => e h)]
    · rw [if_neg h, if_pos h]
  rw [hvs] at hp ⊢
  have hlen := dgs_pos v.toNat
  have hx : ¬ (vname v = [95] ∨ vname v = []) := by
    rintro (e | e)
    · injection e with _ e
      rw [e] at hlen
      simp at hlen
    · cases e
  unfold varN
  rw [if_neg hx]
  by_cases h : v ∈ vs
  · rw [if_pos h] at hp ⊢
    obtain ⟨x, rfl⟩ := hp
    rw [findN_map hv (fun y hy => hW y (List.mem_append_left _ hy)), if_pos h]
    refine ⟨?_, rfl⟩
    rw [posOf_mem (List.mem_append_left _ h), idx_pre h]
    rfl
  · rw [if_neg h] at hp ⊢
    obtain ⟨x, rfl⟩ := hp
    rw [findN_map hv (fun y hy => hW y (List.mem_append_left _ (List.mem_append_left _ hy))), if_neg h]
    refine ⟨?_, by simp⟩
    rw [posOf_mem (by simp), List.append_assoc, List.cons_append, List.nil_append, idx_new h]
    simp [varT]
mutual
theorem vsT_pre : ∀ (t : Tm) (vs : List Int), vs <+: vsT t vs
  | .mk k s n l, vs => by
    rw [vsT]
    refine List.IsPrefix.trans ?_ (vsL_pre l _)
    split
    · exact List.prefix_append _ _
    · exact List.prefix_rfl
theorem vsL_pre : ∀ (l : List Tm) (vs : List Int), vs <+: vsL l vs
  | [], vs => by rw [vsL]; exact List.prefix_rfl
  | t :: r, vs => by rw [vsL]; exact (vsT_pre t vs).trans (vsL_pre r _)
end
/-! ### what reading is to say -/
/-- A text stands at a place. -/
def AtS (S : List UInt8) (p : Nat) (x : List UInt8) : Prop := ∃ r, S.drop p = x ++ r
theorem AtS.left {S : List UInt8} {p : Nat} {x y : List UInt8} (h : AtS S p (x ++ y)) : AtS S p x := by
  obtain ⟨r, h⟩ := h
  exact ⟨y ++ r, by rw [h, List.append_assoc]⟩
theorem AtS.right {S : List UInt8} {p : Nat} {x y : List UInt8} (h : AtS S p (x ++ y)) : AtS S (p + x.length) y := by
  obtain ⟨r, h⟩ := h
  refine ⟨r, ?_⟩
  rw [← List.drop_drop, h, List.append_assoc, List.drop_left]
theorem AtS.cons {S : List UInt8} {p : Nat} {c : UInt8} {y : List UInt8} (h : AtS S p (c :: y)) : S[p]? = some c ∧ AtS S (p + 1) y := by
  refine ⟨?_, AtS.right (x := [c]) h⟩
  obtain ⟨r, h⟩ := h
  have : (S.drop p)[0]? = some c := by rw [h]; rfl
  simpa using this
def TmP (t : Tm) (ts : Toks) (p : Nat) : Prop := ∀ S, AtS S p (tx t) → ∀ f P deep vs W u, 4 * ts.length + 3 ≤ f → deep + t.deep ≤ 1000 → 999 ≤ P → (∀ x ∈ W, 0 ≤ x) → vsT t vs <+: W → Dull P u → rdTerm S f P deep (ts ++ u) (vs.map vname) = .ok (t.ren (posOf W), u, (vsT t vs).map vname)
/-- What the reader does behind a row's element. -/
def rowC (S : List UInt8) (f deep : Nat) (a : Tm) (r : Toks) (ns : Names) : RRes (List Tm) :=
  if seeT 44 r = true then
    match rdRow S f deep r.tail ns with
    | .error e => .error e
    | .ok (l, r2, ns2) => .ok (a :: l, r2, ns2)
  else .ok ([a], r, ns)
/-- What it does behind a list's row. -/
def endC (S : List UInt8) (f deep : Nat) (l : List Tm) (r1 : Toks) (ns1 : Names) : RRes Tm :=
  if seeT 124 r1 = true then
    match rdTerm S f 999 (deep + 1) r1.tail ns1 with
    | .error e => .error e
    | .ok (t, r2, ns2) => match needT S 93 r2 with
      | .error e => .error e
      | .ok r3 => .ok (listT l t, r3, ns2)
  else match needT S 93 r1 with
    | .error e => .error e
    | .ok r3 => .ok (listT l (funT ⟨#[91, 93]⟩ []), r3, ns1)
theorem row_is (S : List UInt8) (f deep : Nat) (ts : Toks) (ns : Names) : rdRow S (f + 1) deep ts ns = match rdTerm S f 999 (deep + 1) ts ns with
    | .error e => .error e
    | .ok (t, r, ns1) => rowC S f deep t r ns1 := by
  rw [rdRow]
  rfl
def TlP (t : Tm) (ts : Toks) (p : Nat) : Prop := ∀ S, AtS S p (tl t) → ∀ a f g deep vs W u, 4 * ts.length + 4 ≤ f → 4 * ts.length + 4 ≤ g → deep + 1 + t.deep ≤ 1000 → (∀ x ∈ W, 0 ≤ x) → vsT t vs <+: W →
  ∃ l rest ns1, rowC S f deep a (ts ++ u) (vs.map vname) = .ok (a :: l, rest, ns1) ∧ endC S g deep (a :: l) rest ns1 = .ok (funT ⟨#[46]⟩ [a, t.ren (posOf W)], u, (vsT t vs).map vname)
/-- Bytes that end a term. -/
def Stop2 (r : List UInt8) : Prop := ∃ c q, r = c :: q ∧ (c = 41 ∨ c = 44 ∨ c = 93 ∨ c = 124 ∨ c = 32)
theorem Stop2.stops {r : List UInt8} (h : Stop2 r) : Stops r ∧ opens r = false := by
  obtain ⟨c, q, rfl, h⟩ := h
  rcases h with rfl | rfl | rfl | rfl | rfl <;> exact ⟨⟨_, q, rfl, by decide⟩, by simp [opens]⟩
/-- A token that ends a term up to 999. -/
def DullT (ts : Toks) : Prop := ∃ y q, ts = y :: q ∧ y.1.kind = 4 ∧ (y.1.text = [93] ∨ y.1.text = [124] ∨ y.1.text = [44])
theorem DullT.dull {ts : Toks} (h : DullT ts) (u : Toks) : Dull 999 (ts ++ u) := by
  obtain ⟨y, q, rfl, h4, h⟩ := h
  refine ⟨y, q ++ u, rfl, .inr ⟨h4, ?_⟩⟩
  rcases h with h | h | h
  · exact .inr (.inl h)
  · exact .inr (.inr (.inl h))
  · exact .inr (.inr (.inr ⟨h, Nat.le_refl _⟩))
def OkT (t : Tm) : Prop := t.fair = true ∧ nOk t = true
structure Both (t : Tm) : Prop where
  a : ∀ p r, Stop2 r → ∃ ts, lexL false p (tx t ++ r) = preL ts (lexL false (p + (tx t).length) r) ∧ TmP t ts p
  b : ∀ p r, Stop2 r → ∃ ts, DullT ts ∧ lexL false p (tl t ++ r) = preL ts (lexL false (p + (tl t).length) r) ∧ TlP t ts p
  hd : ∃ c q, tx t = c :: q ∧ c ≠ 93
  th : ∃ c q, tl t = c :: q ∧ (c = 93 ∨ c = 44 ∨ c = 124)
end Go.Proofs.YtliapkajonbndaaGreatDoor

namespace Go.Proofs.YtliapkajonbndaaGreatDoor
open Go.RowKit

theorem need_mark {S : List UInt8} {m : UInt8} {x : Tk × Nat} {r : Toks} (h4 : x.1.kind = 4) (ht : x.1.text = [m]) : needT S m (x :: r) = .ok r := by
  unfold needT
  rw [if_pos (by simp [seeT, h4, ht])]
  rfl
theorem see_mark {m m' : UInt8} {x : Tk × Nat} {r : Toks} (h4 : x.1.kind = 4) (ht : x.1.text = [m]) : seeT m' (x :: r) = decide (m = m') := by
  show decide (x.1.kind = 4 ∧ x.1.text = [m']) = _
  rw [h4, ht]
  by_cases h : m = m'
  · subst h; simp
  · simp [h]
theorem endC_cons (S : List UInt8) (g deep : Nat) (a : Tm) (l : List Tm) (r : Toks) (ns : Names) : endC S g deep (a :: l) r ns = match endC S g deep l r ns with
    | .error e => .error e
    | .ok (v, r3, n3) => .ok (funT ⟨#[46]⟩ [a, v], r3, n3) := by
  unfold endC
  by_cases h : seeT 124 r = true
  · rw [if_pos h, if_pos h]
    cases rdTerm S g 999 (deep + 1) r.tail ns with
    | error e => rfl
    | ok x =>
      obtain ⟨t, r2, n2⟩ := x
      dsimp only
      cases needT S 93 r2 with
      | error e => rfl
      | ok r3 => rfl
  · rw [if_neg h, if_neg h]
    cases needT S 93 r with
    | error e => rfl
    | ok r3 => rfl
theorem term_list (S : List UInt8) (f P deep : Nat) (x : Tk × Nat) (r : Toks) (ns : Names) (hd : deep ≤ 999) (h4 : x.1.kind = 4) (ht : x.1.text = [91]) : rdTerm S (f + 1) P deep (x :: r) ns = match rdRow S f deep r ns with
    | .error e => .error e
    | .ok (l, r1, ns1) => match endC S f deep l r1 ns1 with
      | .error e => .error e
      | .ok (t, r3, ns3) => rdRest S f t 0 P deep r3 ns3 := by
  rw [rdTerm.eq_def]
  dsimp only
  rw [if_neg (by omega), if_neg (by omega), if_neg (by omega), if_neg (by omega), if_neg (by rw [see_mark h4 ht]; decide), if_pos (by rw [see_mark h4 ht]; decide)]
  cases rdRow S f deep r ns with
  | error e => rfl
  | ok y =>
    obtain ⟨l, r1, ns1⟩ := y
    dsimp only
    unfold endC
    by_cases h : seeT 124 r1 = true
    · rw [if_pos h, if_pos h]
      cases rdTerm S f 999 (deep + 1) r1.tail ns1 with
      | error e => rfl
      | ok z =>
        obtain ⟨t, r2, n2⟩ := z
        dsimp only
        cases needT S 93 r2 with
        | error e => rfl
        | ok r3 => rfl
    · rw [if_neg h, if_neg h]
      cases needT S 93 r1 with
      | error e => rfl
      | ok r3 => rfl
/-! ### rows behind commas, up to a bracket -/
def CmP (l : List Tm) (ts : Toks) (p : Nat) : Prop := ∀ S, AtS S p (cmX (wrs l)) → ∀ a f deep vs W x u, 4 * ts.length + 4 ≤ f → (∀ t ∈ l, deep + 1 + t.deep ≤ 1000) → (∀ x ∈ W, 0 ≤ x) → vsL l vs <+: W → x.1.kind = 4 → x.1.text = [41] →
  rowC S f deep a (ts ++ x :: u) (vs.map vname) = .ok (a :: Tm.rens (posOf W) l, x :: u, (vsL l vs).map vname)
theorem cm_stop (l : List Tm) (r : List UInt8) : Stop2 (cmX (wrs l) ++ 41 :: r) := by
  cases l with
  | nil => exact ⟨41, r, rfl, .inl rfl⟩
  | cons t l => exact ⟨44, _, rfl, .inr (.inl rfl)⟩
theorem row_cm : ∀ (l : List Tm), (∀ t ∈ l, Both t) → ∀ p r, ∃ ts, lexL false p (cmX (wrs l) ++ 41 :: r) = preL ts (lexL false (p + (cmX (wrs l)).length) (41 :: r)) ∧ (∀ x u, x.1.kind = 4 → x.1.text = [41] → Dull 999 (ts ++ x :: u)) ∧ CmP l ts p
  | [], _, p, r => by
    refine ⟨[], by rw [preL_nil]; rfl, fun x u h4 h1 => ⟨x, u, rfl, .inr ⟨h4, .inl h1⟩⟩, ?_⟩
    intro S _ a f deep vs W x u _ _ _ _ h4 h1
    unfold rowC
    rw [List.nil_append, if_neg (by rw [see_mark h4 h1]; decide)]
    rfl
  | t :: l, h, p, r => by
    obtain ⟨ts2, e2, d2, c2⟩ := row_cm l (fun u hu => h u (by simp [hu])) (p + 1 + (tx t).length) r
    obtain ⟨ts1, e1, c1⟩ := (h t (by simp)).a (p + 1) (cmX (wrs l) ++ 41 :: r) (cm_stop l r)
    have hx : cmX (wrs (t :: l)) = 44 :: (tx t ++ cmX (wrs l)) := rfl
    refine ⟨(⟨4, [44], 0, false⟩, p) :: (ts1 ++ ts2), ?_, fun x u _ _ => ⟨_, _, rfl, .inr ⟨rfl, .inr (.inr (.inr ⟨rfl, Nat.le_refl _⟩))⟩⟩, ?_⟩
    · rw [hx, List.cons_append, lex_mark (by simp), List.append_assoc, e1, e2, preL_pre, preL_pre, List.length_cons, List.length_append, show p + 1 + (tx t).length + (cmX (wrs l)).length = p + ((tx t).length + (cmX (wrs l)).length + 1) by omega]
      rfl
    · intro S hS a f deep vs W x u hf hdeep hW hp h4 h1
      rw [hx] at hS
      have hS1 := (AtS.cons hS).2
      obtain ⟨g, rfl⟩ : ∃ g, f = g + 1 := ⟨f - 1, by omega⟩
      simp only [List.length_cons, List.length_append] at hf
      rw [vsL] at hp
      have hr1 := c1 S hS1.left g 999 (deep + 1) vs W (ts2 ++ x :: u) (by omega) (hdeep t (by simp)) (Nat.le_refl _) hW ((vsL_pre l _).trans hp) (d2 x u h4 h1)
      have hr2 := c2 S hS1.right (t.ren (posOf W)) g deep (vsT t vs) W x u (by omega) (fun v hv => hdeep v (by simp [hv])) hW hp h4 h1
      unfold rowC
      rw [List.cons_append, if_pos (by rw [see_mark rfl rfl]; decide), List.tail_cons, row_is, List.append_assoc, hr1]
      dsimp only
      rw [hr2, vsL]
      rfl
/-! ### the cases -/
theorem rest_dull {S : List UInt8} {f P deep : Nat} {u : Toks} {ns : Names} {t : Tm} (h : Dull P u) : rdRest S (f + 1) t 0 P deep u ns = .ok (t, u, ns) := rest_end (dull_op h)
theorem tail_other {t : Tm} (ha : ∀ p r, Stop2 r → ∃ ts, lexL false p (tx t ++ r) = preL ts (lexL false (p + (tx t).length) r) ∧ TmP t ts p) (ht : tl t = 124 :: (tx t ++ [93])) (p : Nat) (r : List UInt8) (_hr : Stop2 r) : ∃ ts, DullT ts ∧ lexL false p (tl t ++ r) = preL ts (lexL false (p + (tl t).length) r) ∧ TlP t ts p := by
  obtain ⟨ts, e, c⟩ := ha (p + 1) (93 :: r) ⟨93, r, rfl, by simp⟩
  refine ⟨(⟨4, [124], 0, false⟩, p) :: (ts ++ [(⟨4, [93], 0, false⟩, p + 1 + (tx t).length)]), ⟨_, _, rfl, rfl, .inr (.inl rfl)⟩, ?_, ?_⟩
  · rw [ht, List.cons_append, lex_mark (by simp), List.append_assoc, List.cons_append, List.nil_append, e, lex_mark (by simp), preL_pre, preL_pre, List.length_cons, List.length_append, show p + 1 + (tx t).length + 1 = p + ((tx t).length + [(93 : UInt8)].length + 1) by simp; omega]
    rfl
  · intro S hS a f g deep vs W u hf hg hd hW hp
    rw [ht] at hS
    have hS1 := (AtS.cons hS).2.left
    simp only [List.length_cons, List.length_append, List.length_nil] at hf hg
    have hr := c S hS1 g 999 (deep + 1) vs W ((⟨4, [93], 0, false⟩, p + 1 + (tx t).length) :: u) (by omega) hd (Nat.le_refl _) hW hp ⟨_, _, rfl, .inr ⟨rfl, .inr (.inl rfl)⟩⟩
    refine ⟨[], (⟨4, [124], 0, false⟩, p) :: (ts ++ [(⟨4, [93], 0, false⟩, p + 1 + (tx t).length)]) ++ u, vs.map vname, ?_, ?_⟩
    · unfold rowC
      rw [List.cons_append, if_neg (by rw [see_mark rfl rfl]; decide)]
    · unfold endC
      rw [List.cons_append, if_pos (by rw [see_mark rfl rfl]; decide), List.tail_cons, List.append_assoc, List.cons_append, List.nil_append, hr]
      dsimp only
      rw [need_mark rfl rfl]
      rfl
theorem fair_text {s : ByteArray} (h : Tm.nameOk s = true) : ∀ c ∈ bsN s, 32 ≤ c.toNat ∧ c.toNat ≤ 126 := fun c hc => by
  have := (List.all_eq_true.1 h) c hc
  simpa [Tm.byteOk] using this
theorem deep_mem {l : List Tm} {t : Tm} (h : t ∈ l) : t.deep ≤ Tm.deeps l := by
  induction l with
  | nil => cases h
  | cons u r ih =>
    simp only [Tm.deeps]
    rcases List.mem_cons.1 h with rfl | h
    · omega
    · have := ih h; omega
theorem size_nil {s : ByteArray} (h : s.toList = []) : s = ⟨#[]⟩ := ByteArray.ext (Array.eq_empty_of_size_eq_zero (by rw [← size0] at h; exact h))
theorem nmX_hd {x : List UInt8} (h1 : 1 ≤ x.length) (h2 : x.length ≤ 20) (hp : ∀ c ∈ x, 32 ≤ c.toNat ∧ c.toNat ≤ 126) : ∃ c q, nmX x = c :: q ∧ c ≠ 93 := by
  obtain ⟨c, q, e, _, _, ho⟩ := nm_one h1 h2 hp (r := [32]) ⟨32, [], rfl, by decide⟩
  refine ⟨c, q, e, fun h => ?_⟩
  subst h
  have : oneL (93 :: (q ++ [32])) = some (⟨4, [93], 0, false⟩, 1) := by
    unfold oneL
    dsimp only
    rw [if_neg (by decide), if_neg (by decide), if_neg (by decide), if_neg (fun e => absurd e.1 (by decide)), if_neg (by decide), if_pos (by decide)]
  rw [this] at ho
  injection ho with ho
  injection ho with ho _
  injection ho with ho
  cases ho
theorem tm_vrb {n : Int} (h0 : 0 ≤ n) (h1 : n < 1000000) : Both (.mk 1 ⟨#[]⟩ n []) := by
  have hx : tx (.mk 1 ⟨#[]⟩ n []) = 95 :: dgs n.toNat := by simp [tx, wr, txO]
  have ha : ∀ p r, Stop2 r → ∃ ts, lexL false p (tx (.mk 1 ⟨#[]⟩ n []) ++ r) = preL ts (lexL false (p + (tx (.mk 1 ⟨#[]⟩ n [])).length) r) ∧ TmP (.mk 1 ⟨#[]⟩ n []) ts p := fun p r hr => by
    refine ⟨_, by rw [hx]; exact lex_var (by omega) hr.stops.1 p, ?_⟩
    intro S _ f P deep vs W u hf hd hP hW hp hu
    obtain ⟨g, rfl⟩ : ∃ g, f = g + 1 + 1 := ⟨f - 2, by simp at hf; omega⟩
    obtain ⟨e1, e2⟩ := varN_map h0 hW hp
    simp only [Tm.deep, Tm.deeps] at hd
    rw [List.cons_append, List.nil_append, rdTerm.eq_def]
    dsimp only
    rw [if_neg (by omega), if_neg (by decide), if_pos rfl, rest_dull hu]
    have e3 : (95 :: dgs n.toNat) = vname n := rfl
    rw [e3, e1, e2]
    simp [Tm.ren]
  exact ⟨ha, tail_other ha (by simp [tl, wr, tlO, tx]), ⟨95, _, hx, by decide⟩, ⟨124, _, by simp [tl, wr, tlO]; exact rfl, .inr (.inr rfl)⟩⟩
theorem tm_nmb {n : Int} (h0 : -9223372036854775807 ≤ n) (h1 : n ≤ 9223372036854775807) : Both (.mk 2 ⟨#[]⟩ n []) := by
  have hren : ∀ f, (Tm.mk 2 ⟨#[]⟩ n []).ren f = numT n := fun f => by simp [Tm.ren, Tm.rens, numT]
  have hvs : ∀ vs, vsT (.mk 2 ⟨#[]⟩ n []) vs = vs := fun vs => vsT_num n vs
  by_cases hn : n < 0
  · have hx : tx (.mk 2 ⟨#[]⟩ n []) = 45 :: dgs (-n).toNat := by simp [tx, wr, txO, hn]
    have ha : ∀ p r, Stop2 r → ∃ ts, lexL false p (tx (.mk 2 ⟨#[]⟩ n []) ++ r) = preL ts (lexL false (p + (tx (.mk 2 ⟨#[]⟩ n [])).length) r) ∧ TmP (.mk 2 ⟨#[]⟩ n []) ts p := fun p r hr => by
      refine ⟨_, by rw [hx]; exact lex_neg (by omega) hr.stops.1 p, ?_⟩
      intro S hS f P deep vs W u hf hd hP hW hp hu
      obtain ⟨g, rfl⟩ : ∃ g, f = g + 1 + 1 := ⟨f - 2, by simp at hf; omega⟩
      rw [hx] at hS
      have h45 := (AtS.cons hS).1
      simp only [Tm.deep, Tm.deeps] at hd
      rw [List.cons_append, List.cons_append, List.nil_append, rdTerm.eq_def]
      dsimp only
      rw [if_neg (by omega), if_neg (by decide), if_neg (by decide), if_pos rfl, rdName]
      rw [if_pos ⟨rfl, h45, by simp [numAt]⟩]
      dsimp only [List.tail_cons]
      rw [rest_dull hu, hren, hvs]
      have : -(((nextN ((({ kind := 3, text := dgs (-n).toNat, n := (-n).toNat, opn := false } : Tk), p + 1) :: u) : Nat) : Int)) = n := by
        show -(((-n).toNat : Nat) : Int) = n
        omega
      rw [this]
    exact ⟨ha, tail_other ha (by simp [tl, wr, tlO, tx]), ⟨45, _, hx, by decide⟩, ⟨124, _, by simp [tl, wr, tlO]; exact rfl, .inr (.inr rfl)⟩⟩
  · have hx : tx (.mk 2 ⟨#[]⟩ n []) = dgs n.toNat := by simp [tx, wr, txO, hn]
    have ha : ∀ p r, Stop2 r → ∃ ts, lexL false p (tx (.mk 2 ⟨#[]⟩ n []) ++ r) = preL ts (lexL false (p + (tx (.mk 2 ⟨#[]⟩ n [])).length) r) ∧ TmP (.mk 2 ⟨#[]⟩ n []) ts p := fun p r hr => by
      refine ⟨_, by rw [hx]; exact lex_dgs (by omega) hr.stops.1 p, ?_⟩
      intro S hS f P deep vs W u hf hd hP hW hp hu
      obtain ⟨g, rfl⟩ : ∃ g, f = g + 1 + 1 := ⟨f - 2, by simp at hf; omega⟩
      simp only [Tm.deep, Tm.deeps] at hd
      rw [List.cons_append, List.nil_append, rdTerm.eq_def]
      dsimp only
      rw [if_neg (by omega), if_pos rfl, rest_dull hu, hren, hvs]
      have : ((n.toNat : Nat) : Int) = n := by omega
      rw [this]
    obtain ⟨c, q, hc, hd⟩ := dgs_cons n.toNat
    exact ⟨ha, tail_other ha (by simp [tl, wr, tlO, tx]), ⟨c, q, by rw [hx, hc], fun e => by subst e; revert hd; decide⟩, ⟨124, _, by simp [tl, wr, tlO]; exact rfl, .inr (.inr rfl)⟩⟩
theorem tm_atm {s : ByteArray} (hn : Tm.nameOk s = true) (h1 : 1 ≤ (bsN s).length) (h2 : (bsN s).length ≤ 20) : Both (.mk 3 s 0 []) := by
  have hx : tx (.mk 3 s 0 []) = nmX (bsN s) := by simp [tx, wr, txO, wrs]
  have hp := fair_text hn
  have hren : ∀ f, (Tm.mk 3 s 0 []).ren f = .mk 3 s 0 [] := fun f => by simp [Tm.ren, Tm.rens]
  have hvs : ∀ vs, vsT (.mk 3 s 0 []) vs = vs := fun vs => by simp [vsT, vsL]
  have ha : ∀ p r, Stop2 r → ∃ ts, lexL false p (tx (.mk 3 s 0 []) ++ r) = preL ts (lexL false (p + (tx (.mk 3 s 0 [])).length) r) ∧ TmP (.mk 3 s 0 []) ts p := fun p r hr => by
    refine ⟨_, by rw [hx]; exact lex_nm h1 h2 hp hr.stops.1 p, ?_⟩
    rw [hr.stops.2]
    intro S hS f P deep vs W u hf hd hP hW hpre hu
    obtain ⟨g, rfl⟩ : ∃ g, f = g + 1 + 1 := ⟨f - 2, by simp at hf; omega⟩
    simp only [Tm.deep, Tm.deeps] at hd
    rw [List.cons_append, List.nil_append, rdTerm.eq_def]
    dsimp only
    rw [if_neg (by omega), if_neg (by decide), if_neg (by decide), if_pos rfl, rdName]
    rw [if_neg (fun e => by rw [dull_num hu] at e; exact absurd e.2.2 (by simp)), if_neg (by simp), if_pos (.inr (dull_beg hu))]
    dsimp only
    rw [rest_dull hu, hren, hvs]
    show Except.ok (funT ⟨(bsN s).toArray⟩ [], u, _) = _
    rw [bsN_arr]
    rfl
  obtain ⟨c, q, hc, hne⟩ := nmX_hd h1 h2 hp
  by_cases hnil : bsN s = [91, 93]
  · have ht : tl (.mk 3 s 0 []) = [93] := by simp [tl, wr, tlO, wrs, hnil]
    refine ⟨ha, fun p r _ => ⟨[(⟨4, [93], 0, false⟩, p)], ⟨_, [], rfl, rfl, .inl rfl⟩, ?_, ?_⟩, ⟨c, q, by rw [hx, hc], hne⟩, ⟨93, [], ht, .inl rfl⟩⟩
    · rw [ht, List.cons_append, List.nil_append, lex_mark (by simp)]
      rfl
    · intro S hS a f g deep vs W u hf hg hd hW hpre
      refine ⟨[], (⟨4, [93], 0, false⟩, p) :: u, vs.map vname, ?_, ?_⟩
      · unfold rowC
        rw [List.cons_append, List.nil_append, if_neg (by rw [see_mark rfl rfl]; decide)]
      · unfold endC
        rw [if_neg (by rw [see_mark rfl rfl]; decide), need_mark rfl rfl, hren, hvs]
        have : s = ⟨#[91, 93]⟩ := by rw [← bsN_arr s, hnil]
        rw [this]
        rfl
  · exact ⟨ha, tail_other ha (by simp [tl, wr, tlO, tx, wrs, hnil, dotO]), ⟨c, q, by rw [hx, hc], hne⟩, ⟨124, _, by simp [tl, wr, tlO, wrs, hnil, dotO]; exact rfl, .inr (.inr rfl)⟩⟩
end Go.Proofs.YtliapkajonbndaaGreatDoor
