/-
  Terms in their order, each once, purely: as the document puts them, and by sorted places.
-/
import Derived.Test.YtpiflkgjmncijaaCompactA
import Derived.Test.YtpiflkgjmncijaaPureNum
namespace Go.Proofs.Ytpiflkgjmncijaa
open Go.RowKit Go.Sort

/-- A term is put in its place, if it isn't there. -/
def insT (t : Tm) : List Tm → List Tm
  | [] => [t]
  | u :: r => if u.cmp t < 0 then u :: insT t r else if u.cmp t = 0 then u :: r else t :: u :: r
def sortTm (l : List Tm) : List Tm := l.foldl (fun acc t => insT t acc) []
def Asc (l : List Tm) : Prop := l.Pairwise fun a b => a.cmp b < 0

theorem insT_mem (t : Tm) : ∀ (r : List Tm) (x : Tm), x ∈ insT t r ↔ x = t ∨ x ∈ r
  | [], x => by simp [insT]
  | u :: r, x => by
    simp only [insT]
    split
    · rw [List.mem_cons, insT_mem t r x, List.mem_cons]
      constructor
      · rintro (h | h | h) <;> simp [h]
      · rintro (h | h | h) <;> simp [h]
    · split
      · rename_i h
        obtain rfl := (cmp_eq0 u t).1 h
        simp
      · simp
theorem insT_asc (t : Tm) : ∀ (r : List Tm), Asc r → Asc (insT t r)
  | [], _ => by simp [insT, Asc]
  | u :: r, h => by
    obtain ⟨h1, h2⟩ := List.pairwise_cons.1 h
    simp only [insT]
    split
    · rename_i hlt
      refine List.pairwise_cons.2 ⟨fun x hx => ?_, insT_asc t r h2⟩
      rcases (insT_mem t r x).1 hx with rfl | hx
      · exact hlt
      · exact h1 x hx
    · split
      · exact h
      · rename_i ha hb
        have hn := cmp_neg u t
        refine List.pairwise_cons.2 ⟨fun x hx => ?_, h⟩
        rcases List.mem_cons.1 hx with rfl | hx
        · omega
        · exact cmp_lt_le (u := u) (by omega) (by have := h1 x hx; omega)
theorem sortTm_snoc (l : List Tm) (t : Tm) : sortTm (l ++ [t]) = insT t (sortTm l) := by simp [sortTm]
theorem fold_mem (x : Tm) : ∀ (l acc : List Tm), x ∈ l.foldl (fun acc t => insT t acc) acc ↔ x ∈ acc ∨ x ∈ l
  | [], acc => by simp
  | t :: r, acc => by
    rw [List.foldl_cons, fold_mem x r, insT_mem, List.mem_cons]
    constructor
    · rintro ((h | h) | h) <;> simp [h]
    · rintro (h | h | h) <;> simp [h]
theorem sortTm_mem (l : List Tm) (x : Tm) : x ∈ sortTm l ↔ x ∈ l := by
  rw [sortTm, fold_mem]; simp
theorem fold_asc : ∀ (l acc : List Tm), Asc acc → Asc (l.foldl (fun acc t => insT t acc) acc)
  | [], _, h => h
  | t :: r, acc, h => fold_asc r _ (insT_asc t acc h)
theorem sortTm_asc (l : List Tm) : Asc (sortTm l) := fold_asc l [] (by simp [Asc])
theorem insT_length (t : Tm) : ∀ r : List Tm, (insT t r).length ≤ r.length + 1
  | [] => by simp [insT]
  | u :: r => by
    have := insT_length t r
    simp only [insT]
    split
    · simp; omega
    · split <;> simp
theorem fold_length : ∀ (l acc : List Tm), (l.foldl (fun acc t => insT t acc) acc).length ≤ acc.length + l.length
  | [], acc => by simp
  | t :: r, acc => by
    have h1 := fold_length r (insT t acc)
    have h2 := insT_length t acc
    simp only [List.foldl_cons, List.length_cons]
    omega
theorem sortTm_length (l : List Tm) : (sortTm l).length ≤ l.length := by
  have := fold_length l []
  simpa [sortTm] using this

theorem asc_head_notin {t : Tm} {r : List Tm} (h : Asc (t :: r)) : ∀ x ∈ r, t.cmp x < 0 := (List.pairwise_cons.1 h).1
/-- There is one such row of given terms. -/
theorem asc_unique : ∀ (a b : List Tm), Asc a → Asc b → (∀ x, x ∈ a ↔ x ∈ b) → a = b
  | [], [], _, _, _ => rfl
  | [], t :: r, _, _, h => by have := (h t).2 (by simp); cases this
  | t :: r, [], _, _, h => by have := (h t).1 (by simp); cases this
  | t :: r, u :: q, ha, hb, h => by
    have h1 := asc_head_notin ha
    have h2 := asc_head_notin hb
    have e : t = u := by
      rcases List.mem_cons.1 ((h t).1 (by simp)) with e | hm
      · exact e
      · rcases List.mem_cons.1 ((h u).2 (by simp)) with e | hm2
        · exact e.symm
        · have h3 := h2 t hm
          have h4 := h1 u hm2
          have := cmp_neg t u
          omega
    subst e
    have hirr : ∀ {s : List Tm}, (∀ x ∈ s, t.cmp x < 0) → t ∉ s := fun {s} hs hm => by
      have := hs t hm
      rw [(cmp_eq0 t t).2 rfl] at this
      omega
    have hr : r = q := asc_unique r q (List.pairwise_cons.1 ha).2 (List.pairwise_cons.1 hb).2 fun x => by
      have hx := h x
      rw [List.mem_cons, List.mem_cons] at hx
      constructor
      · intro hm
        rcases hx.1 (.inr hm) with rfl | h'
        · exact absurd hm (hirr h1)
        · exact h'
      · intro hm
        rcases hx.2 (.inr hm) with rfl | h'
        · exact absurd hm (hirr h2)
        · exact h'
    rw [hr]

theorem cmp_le_lt {t u v : Tm} (h : t.cmp u ≤ 0) (h' : u.cmp v < 0) : t.cmp v < 0 := by
  obtain ⟨h1, h2, h3⟩ := cmp_tri t u v
  have r1 := cmp_rng t u
  have r2 := cmp_rng u v
  have r3 := cmp_rng t v
  unfold Rng at r1 r2 r3
  omega
/-- What is kept of sorted places: their terms ascend, and are those of all. -/
theorem keeps_asc {l : List Tm} {d : Array Int} {n : Nat} (hs : SortedIn (tlt l) 0 n d) : ∀ m, m ≤ n →
    Asc ((keepsN l d m).map (keyAt l)) ∧ (∀ x, x ∈ (keepsN l d m).map (keyAt l) ↔ ∃ i, i < m ∧ x = keyAt l d[i]!)
  | 0, _ => by simp [keepsN, Asc]
  | m + 1, hm => by
    have hle : ∀ i j, i < j → j < n → (keyAt l d[i]!).cmp (keyAt l d[j]!) ≤ 0 := fun i j h1 h2 => by
      have h := hs i j (Nat.zero_le _) h1 h2
      rw [tlt, decide_eq_false_iff_not] at h
      have := cmp_neg (keyAt l d[i]!) (keyAt l d[j]!)
      omega
    obtain ⟨h1, h2⟩ := keeps_asc hs m (by omega)
    by_cases hk : m = 0 ∨ eqAt l d[m]! d[m - 1]! = false
    · rw [keepsN_go hk, List.map_append]
      refine ⟨List.pairwise_append.2 ⟨h1, by simp, fun x hx y hy => ?_⟩, fun x => ?_⟩
      · obtain ⟨i, hi, rfl⟩ := (h2 x).1 hx
        simp only [List.map_cons, List.map_nil, List.mem_singleton] at hy
        subst hy
        rcases hk with h0 | he
        · omega
        · have hne : (keyAt l d[m]!).cmp (keyAt l d[m - 1]!) ≠ 0 := by simpa [eqAt] using he
          have hlt : (keyAt l d[m - 1]!).cmp (keyAt l d[m]!) < 0 := by
            have := hle (m - 1) m (by omega) (by omega)
            have := cmp_neg (keyAt l d[m]!) (keyAt l d[m - 1]!)
            omega
          by_cases e : i = m - 1
          · subst e; exact hlt
          · exact cmp_le_lt (hle i (m - 1) (by omega) (by omega)) hlt
      · rw [List.mem_append, h2 x]
        simp only [List.map_cons, List.map_nil, List.mem_singleton]
        constructor
        · rintro (⟨i, hi, e⟩ | e)
          · exact ⟨i, by omega, e⟩
          · exact ⟨m, by omega, e⟩
        · rintro ⟨i, hi, e⟩
          by_cases him : i = m
          · subst him; exact .inr e
          · exact .inl ⟨i, by omega, e⟩
    · have h0 : m ≠ 0 := fun e => hk (.inl e)
      have he : eqAt l d[m]! d[m - 1]! = true := by
        cases h : eqAt l d[m]! d[m - 1]!
        · exact absurd (.inr h) hk
        · rfl
      have hsame : keyAt l d[m]! = keyAt l d[m - 1]! := (cmp_eq0 _ _).1 (by simpa [eqAt] using he)
      rw [keepsN_skip h0 he]
      refine ⟨h1, fun x => ?_⟩
      rw [h2 x]
      constructor
      · rintro ⟨i, hi, e⟩; exact ⟨i, by omega, e⟩
      · rintro ⟨i, hi, e⟩
        by_cases him : i = m
        · subst him; exact ⟨i - 1, by omega, by rw [e, hsame]⟩
        · exact ⟨i, by omega, e⟩

theorem places_mem (n : Nat) (x : Int) : x ∈ places n ↔ ∃ j : Nat, j < n ∧ x = j := by
  simp only [places, List.mem_map, List.mem_range]
  constructor
  · rintro ⟨j, h, rfl⟩; exact ⟨j, h, rfl⟩
  · rintro ⟨j, h, rfl⟩; exact ⟨j, h, rfl⟩
theorem places_rng (n : Nat) : ∀ x ∈ places n, 0 ≤ x ∧ x < n := fun x hx => by
  obtain ⟨j, h, rfl⟩ := (places_mem n x).1 hx
  omega
theorem places_extract (n : Nat) : (places n).toArray.extract 0 n = (places n).toArray := by
  have h := places_length n
  simp
  exact List.take_of_length_le (by omega)
/-- The terms at sorted places, each once, are the terms as the document puts them. -/
theorem sorted_places {l : List Tm} {d : Array Int} (hp : PermIn 0 l.length (places l.length).toArray d) (hs : SortedIn (tlt l) 0 l.length d) : (keepsN l d l.length).map (keyAt l) = sortTm l := by
  obtain ⟨h1, h2⟩ := keeps_asc hs l.length (Nat.le_refl _)
  obtain ⟨hsz, _, hperm⟩ := hp
  have hsz' : d.size = l.length := by simpa [places_length] using hsz
  have hperm' : d.toList.Perm (places l.length) := by
    have e1 : d.extract 0 l.length = d := by rw [← hsz']; simp
    have e2 : (places l.length).toArray.extract 0 l.length = (places l.length).toArray := places_extract _
    rw [e1, e2] at hperm
    simpa using hperm
  refine asc_unique _ _ h1 (sortTm_asc l) fun x => ?_
  rw [h2 x, sortTm_mem]
  constructor
  · rintro ⟨i, hi, rfl⟩
    have hm : d[i]! ∈ d.toList := by
      have hi' : i < d.size := by omega
      have : d[i]! = d[i] := by simp [hi']
      rw [this]
      exact Array.getElem_mem_toList hi'
    obtain ⟨j, hj, e⟩ := (places_mem _ _).1 (hperm'.mem_iff.1 hm)
    rw [e, keyAt_get hj]
    exact List.getElem_mem hj
  · intro hx
    obtain ⟨j, hj, rfl⟩ := List.getElem_of_mem hx
    have hm : (j : Int) ∈ d.toList := hperm'.mem_iff.2 ((places_mem _ _).2 ⟨j, hj, rfl⟩)
    obtain ⟨i, hi, e⟩ := List.getElem_of_mem hm
    have hi' : i < d.size := by simpa using hi
    refine ⟨i, by omega, ?_⟩
    have : d[i]! = (j : Int) := by
      rw [← e]; simp [hi']
    rw [this, keyAt_get hj]
theorem keeps_rng {l : List Tm} {d : Array Int} {N : Nat} : ∀ {n : Nat}, (∀ i, i < n → 0 ≤ d[i]! ∧ d[i]! < N) → ∀ x ∈ keepsN l d n, 0 ≤ x ∧ x < N
  | 0, _, x, hx => by simp [keepsN] at hx
  | n + 1, h, x, hx => by
    rw [keepsN] at hx
    split at hx
    · rcases List.mem_append.1 hx with hx | hx
      · exact keeps_rng (fun i hi => h i (by omega)) x hx
      · simp only [List.mem_singleton] at hx
        subst hx
        exact h n (by omega)
    · exact keeps_rng (fun i hi => h i (by omega)) x hx
theorem perm_rng {n : Nat} {d : Array Int} (hp : PermIn 0 n (places n).toArray d) : ∀ i, i < n → 0 ≤ d[i]! ∧ d[i]! < n := fun i hi => by
  obtain ⟨hsz, _, hperm⟩ := hp
  have hsz' : d.size = n := by simpa [places_length] using hsz
  have e1 : d.extract 0 n = d := by rw [← hsz']; simp
  have e2 : (places n).toArray.extract 0 n = (places n).toArray := places_extract _
  rw [e1, e2] at hperm
  have hi' : i < d.size := by omega
  have hm : d[i]! ∈ d.toList := by
    have : d[i]! = d[i] := by simp [hi']
    rw [this]
    exact Array.getElem_mem_toList hi'
  exact places_rng n _ (by simpa using hperm.mem_iff.1 hm)
theorem places_take (n k : Nat) (hk : k < n) : (places n).take (k + 1) = (places n).take k ++ [(k : Int)] := by
  have h : k < (places n).length := by rw [places_length]; exact hk
  rw [List.take_succ_eq_append_getElem h]
  simp [places]
theorem insT_there {t : Tm} : ∀ (acc : List Tm) (p : Nat) (hp : p < acc.length), (∀ j (h : j < acc.length), j < p → acc[j].cmp t < 0) → acc[p].cmp t = 0 → insT t acc = acc
  | [], p, hp, _, _ => by simp at hp
  | u :: r, 0, _, _, h0 => by
    simp only [List.getElem_cons_zero] at h0
    rw [insT, if_neg (by omega), if_pos h0]
  | u :: r, p + 1, hp, hl, h0 => by
    have h1 := hl 0 (by simp) (by omega)
    simp only [List.getElem_cons_zero] at h1
    rw [insT, if_pos h1, insT_there r p (by simpa using hp) (fun j h hj => hl (j + 1) (by simpa using h) (by omega)) (by simpa using h0)]
theorem insT_put {t : Tm} : ∀ (acc : List Tm) (p : Nat), p ≤ acc.length → (∀ j (h : j < acc.length), j < p → acc[j].cmp t < 0) → (∀ h : p < acc.length, ¬ acc[p].cmp t < 0 ∧ acc[p].cmp t ≠ 0) → insT t acc = acc.take p ++ [t] ++ acc.drop p
  | [], p, _, _, _ => by simp [insT]
  | u :: r, 0, _, _, hs => by
    have := hs (by simp)
    simp only [List.getElem_cons_zero] at this
    rw [insT, if_neg this.1, if_neg this.2]
    rfl
  | u :: r, p + 1, hp, hl, hs => by
    have h1 := hl 0 (by simp) (by omega)
    simp only [List.getElem_cons_zero] at h1
    rw [insT, if_pos h1, insT_put r p (by simpa using hp) (fun j h hj => hl (j + 1) (by simpa using h) (by omega)) (fun h => hs (by simpa using h))]
    rfl
theorem insT_ne (t : Tm) (acc : List Tm) : 0 < (insT t acc).length := List.length_pos_iff.2 (fun e => by have := (insT_mem t acc t).2 (.inl rfl); rw [e] at this; cases this)
theorem sortTm_take {l : List Tm} {k : Nat} (hk : k < l.length) : sortTm (l.take (k + 1)) = insT l[k] (sortTm (l.take k)) := by
  rw [List.take_succ_eq_append_getElem hk, sortTm_snoc]
end Go.Proofs.Ytpiflkgjmncijaa
