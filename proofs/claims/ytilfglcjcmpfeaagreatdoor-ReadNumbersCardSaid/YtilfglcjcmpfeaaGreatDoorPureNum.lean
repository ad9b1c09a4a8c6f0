/-
  What Number makes, in one form; that numbered terms are numbered to themselves, purely.
-/
import Derived.Test.YtilfglcjcmpfeaaGreatDoorPure
import Derived.Test.YtilfglcjcmpfeaaGreatDoorBox
namespace Go.Proofs.YtilfglcjcmpfeaaGreatDoor
open Go.RowKit

def numTms (l : List Tm) : List Tm := if l.all Tm.right = true then Tm.rens (posOf (varsOf l)) l else []
def numN (l : List Tm) : Int := if l.all Tm.right = true then ((varsOf l).length : Int) else 0
def numErr (l : List Tm) : Int := if l.all Tm.right = true then 0 else 1

theorem number_all (l : List Tm) (w : World) (sv : Value) (hsl : Tm.sliceIn w w.heap.size l sv) (hsz : Tm.sizes l ≤ 1000000) :
    Calls Tryz.prog 13 #[sv] w fun e w' =>
      (∃ g c, e = .returned (.tuple #[.slice g (numTms l).length c, .int .i64 (numN l), .int .i64 (numErr l)]) ∧ Tm.sliceIn w' w'.heap.size (numTms l) (.slice g (numTms l).length c)) ∧ Below w.heap.size w w' := by
  refine (tnumber_any l w sv hsl hsz).mono ?_
  rintro e w' ⟨hb, ⟨hr, rfl⟩ | ⟨hr, sv', rfl, hp⟩⟩
  · have h1 : numTms l = [] := by unfold numTms; rw [if_neg (by simp [hr])]
    have h2 : numN l = 0 := by unfold numN; rw [if_neg (by simp [hr])]
    have h3 : numErr l = 1 := by unfold numErr; rw [if_neg (by simp [hr])]
    rw [h1, h2, h3]
    exact ⟨⟨none, 0, rfl, none, 0, rfl, Nat.le_refl _, by simp, .inl rfl⟩, hb⟩
  · have h1 : numTms l = Tm.rens (posOf (varsOf l)) l := by unfold numTms; rw [if_pos hr]
    have h2 : numN l = (varsOf l).length := by unfold numN; rw [if_pos hr]
    have h3 : numErr l = 0 := by unfold numErr; rw [if_pos hr]
    rw [h1, h2, h3]
    have hin := Tm.sliceIn_of_P (B := w'.heap.size) (fun b hb => hb.2) hp
    obtain ⟨g, c, rfl, _⟩ := id hin
    exact ⟨⟨g, c, rfl, hin⟩, hb⟩

theorem addV_map (f : Int → Int) (P : Int → Prop) (hinj : ∀ a b, P a → P b → f a = f b → a = b) : ∀ (ks ks' : List Key) (vs : List Int), ks'.map (fun x => (x.k, x.n)) = ks.map (fun x => (x.k, if x.k = 1 then f x.n else x.n)) →
    (∀ v ∈ vs, P v) → (∀ x ∈ ks, x.k = 1 → P x.n) → ks'.foldl addV (vs.map f) = (ks.foldl addV vs).map f := by
  intro ks
  induction ks with
  | nil =>
    intro ks' vs hm _ _
    cases ks' with
    | nil => rfl
    | cons a r => simp at hm
  | cons x r ih =>
    intro ks' vs hm hv hk
    cases ks' with
    | nil => simp at hm
    | cons x' r' =>
      simp only [List.map_cons, List.cons.injEq, Prod.mk.injEq] at hm
      obtain ⟨⟨h1, h2⟩, h3⟩ := hm
      simp only [List.foldl_cons, addV]
      by_cases hx : x.k = 1
      · rw [if_pos hx] at h2
        have hP := hk x (by simp) hx
        have hmem : x'.n ∈ vs.map f ↔ x.n ∈ vs := by
          rw [h2]
          constructor
          · intro h
            obtain ⟨a, ha, he⟩ := List.mem_map.1 h
            rwa [← hinj a x.n (hv a ha) hP he]
          · intro h
            exact List.mem_map.2 ⟨_, h, rfl⟩
        have hx' : x'.k = 1 := h1.trans hx
        by_cases hm2 : x.n ∈ vs
        · rw [if_neg (fun h => h.2 (hmem.2 hm2)), if_neg (fun h => h.2 hm2)]
          exact ih r' vs h3 hv fun y hy => hk y (by simp [hy])
        · rw [if_pos ⟨hx', fun h => hm2 (hmem.1 h)⟩, if_pos ⟨hx, hm2⟩, h2]
          have := ih r' (vs ++ [x.n]) h3 (fun v hv' => by
            rcases List.mem_append.1 hv' with h | h
            · exact hv v h
            · rw [List.mem_singleton.1 h]; exact hP) fun y hy => hk y (by simp [hy])
          rwa [List.map_append] at this
      · rw [if_neg (fun h => hx (h1.symm.trans h.1)), if_neg (fun h => hx h.1)]
        exact ih r' vs h3 hv fun y hy => hk y (by simp [hy])

theorem nodesL_rens (f : Int → Int) (l : List Tm) (h : ∀ t ∈ l, t.noArgs = true) (d : Int) : (Tm.nodesL (Tm.rens f l) d).map (fun x => (x.k, x.n)) = (Tm.nodesL l d).map (fun x => (x.k, if x.k = 1 then f x.n else x.n)) := by
  induction l with
  | nil => rfl
  | cons t r ih =>
    simp only [Tm.rens, Tm.nodesL, List.map_append]
    rw [nodes_ren f t (h t (by simp)) d, ih fun u hu => h u (by simp [hu])]
theorem vars_rens (f : Int → Int) (l : List Tm) (h : ∀ t ∈ l, t.noArgs = true) (hinj : ∀ a ∈ varsOf l, ∀ b ∈ varsOf l, f a = f b → a = b) : varsOf (Tm.rens f l) = (varsOf l).map f :=
  addV_map f (· ∈ varsOf l) (fun a b ha hb => hinj a ha b hb) (Tm.nodesL l 1) (Tm.nodesL (Tm.rens f l) 1) [] (nodesL_rens f l h 1) (fun v hv => by cases hv) (fun x hx hk => (vars_mem l _).2 ⟨x, hx, hk, rfl⟩)

theorem posOf_mem {vs : List Int} {v : Int} (h : v ∈ vs) : posOf vs v = (vs.idxOf v : Int) := by unfold posOf; rw [if_pos h]
theorem posOf_inj {vs : List Int} : ∀ a ∈ vs, ∀ b ∈ vs, posOf vs a = posOf vs b → a = b := fun a ha b hb h => by
  rw [posOf_mem ha, posOf_mem hb] at h
  have h1 : vs.idxOf a = vs.idxOf b := by omega
  have ga : vs[vs.idxOf a]'(List.idxOf_lt_length_iff.2 ha) = a := List.getElem_idxOf _
  have gb : vs[vs.idxOf b]'(List.idxOf_lt_length_iff.2 hb) = b := List.getElem_idxOf _
  rw [← ga, ← gb]
  congr 1
/-- In another row of the same length, place for place. -/
theorem posOf_map {vs : List Int} (f : Int → Int) (hinj : ∀ a ∈ vs, ∀ b ∈ vs, f a = f b → a = b) {v : Int} (h : v ∈ vs) : posOf (vs.map f) (f v) = posOf vs v := by
  have hm : f v ∈ vs.map f := List.mem_map.2 ⟨v, h, rfl⟩
  rw [posOf_mem hm, posOf_mem h]
  have hlt := List.idxOf_lt_length_iff.2 h
  have hg : vs[vs.idxOf v] = v := List.getElem_idxOf _
  have := idx_first (vs.map f) (f v) (vs.idxOf v) (by simpa using hlt) (by simp [hg]) (fun j hj hjk he => by
    have hj' : j < vs.length := by simpa using hj
    have he' : f vs[j] = f v := by simpa using he
    have h1 := hinj _ (List.getElem_mem hj') _ h he'
    have h2 : vs.idxOf v ≤ j := by
      rcases Nat.lt_or_ge j (vs.idxOf v) with hlt2 | hge
      · have := List.not_of_lt_findIdx (p := (· == v)) (xs := vs) (i := j) (by simpa [List.idxOf] using hlt2)
        simp [h1] at this
      · exact hge
    omega)
  rw [this]
theorem ren_id (f : Int → Int) : ∀ t : Tm, t.fair = true → (∀ d, ∀ x ∈ t.nodes d, x.k = 1 → f x.n = x.n) → t.ren f = t := Tm.ind fun k s n l ih h hf => by
  simp only [Tm.ren]
  split
  · rename_i hk
    have hl := args_nil (fair_noArgs _ h) hk
    have h1 := hf 0 ⟨k, s, n, l.length, 0⟩ (by simp [Tm.nodes]) hk
    simp only at h1
    subst hk hl
    simp only [Tm.fair, Tm.alone, if_true, Bool.and_eq_true, decide_eq_true_eq] at h
    have hs : s = ⟨#[]⟩ := by
      have := h.2.1.2
      rw [← size0] at this
      exact ByteArray.ext (Array.eq_empty_of_size_eq_zero this)
    rw [h1, hs]
  · congr 1
    simp only [Tm.fair, Bool.and_eq_true] at h
    have h12 := h.1.2
    rw [Tm.fairs_all, List.all_eq_true] at h12
    rw [Tm.rens_map]
    conv => rhs; rw [← List.map_id l]
    refine List.map_congr_left fun t ht => ih t ht (h12 t ht) fun d x hx hk => hf (d - 1) x ?_ hk
    simp only [Tm.nodes]
    exact List.mem_cons_of_mem _ (nodesL_to ht (by rw [show d - 1 + 1 = d by omega]; exact hx))

theorem all_right {l : List Tm} (h : l.all Tm.right = true) : ∀ t ∈ l, t.right = true := List.all_eq_true.1 h
theorem numbered_right {l : List Tm} (h : l.all Tm.right = true) (hlen : (varsOf l).length ≤ 1000000) : (Tm.rens (posOf (varsOf l)) l).all Tm.right = true := by
  rw [List.all_eq_true]
  intro u hu
  rw [Tm.rens_map] at hu
  obtain ⟨t, ht, rfl⟩ := List.mem_map.1 hu
  refine right_ren (all_right h t ht) fun d x hx hk => ?_
  have hm := vars_cover ht d x hx hk
  rw [posOf_mem hm]
  have := List.idxOf_lt_length_iff.2 hm
  omega
/-- Numbered, they are numbered to themselves. -/
theorem numbered_again {l : List Tm} (h : l.all Tm.right = true) (hlen : (varsOf l).length ≤ 1000000) : numTms (numTms l) = numTms l ∧ numN (numTms l) = numN l ∧ numErr (numTms l) = 0 := by
  have hr := numbered_right h hlen
  have h1 : numTms l = Tm.rens (posOf (varsOf l)) l := by unfold numTms; rw [if_pos h]
  have hv : varsOf (Tm.rens (posOf (varsOf l)) l) = (varsOf l).map (posOf (varsOf l)) := vars_rens _ l (fun t ht => right_noArgs (all_right h t ht)) posOf_inj
  rw [h1]
  refine ⟨?_, ?_, ?_⟩
  · unfold numTms
    rw [if_pos hr, hv, Tm.rens_map]
    conv => rhs; rw [← List.map_id (Tm.rens (posOf (varsOf l)) l)]
    refine List.map_congr_left fun u hu => ?_
    refine ren_id _ u (right_fair (all_right hr u hu)) fun d x hx hk => ?_
    have hm := vars_cover hu d x hx hk
    rw [hv] at hm
    obtain ⟨v, hv', he⟩ := List.mem_map.1 hm
    rw [← he, posOf_map _ posOf_inj hv']
  · unfold numN
    rw [if_pos hr, if_pos h, hv, List.length_map]
  · unfold numErr
    rw [if_pos hr]
/-- The places, as the statement lays them. -/
def places (n : Nat) : List Int := (List.range n).map fun (i : Nat) => (i : Int)
theorem places_succ (n : Nat) : places (n + 1) = places n ++ [(n : Int)] := by simp [places, List.range_succ]
theorem places_length (n : Nat) : (places n).length = n := by simp [places]
theorem places_wf {n : Nat} (h : n ≤ 1000000) : ∀ x ∈ places n, (Lit.int .i64 x).wf = true := fun x hx => by
  obtain ⟨i, hi, rfl⟩ := List.mem_map.1 hx
  have := List.mem_range.1 hi
  exact WalkArith.wf_i64 (by omega)
theorem turn_places {l : List Tm} (h : l.all Tm.right = true) : l.map (fun t => t.ren (toOf (varsOf l) (places (varsOf l).length))) = numTms l := by
  unfold numTms
  rw [if_pos h, Tm.rens_map]
  refine List.map_congr_left fun t ht => ren_congr _ _ t fun d x hx hk => ?_
  have hm := vars_cover ht d x hx hk
  have hlt := List.idxOf_lt_length_iff.2 hm
  rw [posOf_mem hm]
  unfold toOf
  rw [List.getD_eq_getElem?_getD]
  simp [places, hlt]
end Go.Proofs.YtilfglcjcmpfeaaGreatDoor
