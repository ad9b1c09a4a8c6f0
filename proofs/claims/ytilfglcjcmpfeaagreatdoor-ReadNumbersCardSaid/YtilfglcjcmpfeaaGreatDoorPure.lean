/-
  What shifted, numbered and turned terms are, purely: no program here.
-/
import Derived.Test.YtilfglcjcmpfeaaGreatDoorTurnA
import Derived.Test.YtilfglcjcmpfeaaGreatDoorNumber
namespace Go.Proofs.YtilfglcjcmpfeaaGreatDoor
open Go.RowKit

theorem wrap_in {n : Int} (h : -9223372036854775808 ≤ n ∧ n ≤ 9223372036854775807) : wrap64 n = n := by
  rw [← IntWalk.i64_left]; exact IntWalk.i64_in n h

theorem same_self (a : Tm) : a.same a = true := (Tm.same_iff a a).2 rfl
theorem fair_noArgs : ∀ t : Tm, t.fair = true → t.noArgs = true := Tm.ind fun k s n l ih h => by
  simp only [Tm.fair, Bool.and_eq_true] at h
  simp only [Tm.noArgs, Bool.and_eq_true]
  refine ⟨?_, ?_⟩
  · split
    · rename_i hk
      have h2 := h.2
      simp only [Tm.alone, if_pos hk.1, Bool.and_eq_true, beq_iff_eq] at h2
      omega
    · rfl
  · rw [Tm.plain_all, List.all_eq_true]
    intro t ht
    exact ih t ht (by have := h.1.2; rw [Tm.fairs_all, List.all_eq_true] at this; exact this t ht)
theorem right_fair {t : Tm} (h : t.right = true) : t.fair = true := by
  simp only [Tm.right, Bool.and_eq_true] at h
  exact h.1.1
theorem right_noArgs {t : Tm} (h : t.right = true) : t.noArgs = true := fair_noArgs t (right_fair h)

theorem nodesL_of {l : List Tm} {d : Int} {x : Key} (h : x ∈ Tm.nodesL l d) : ∃ t ∈ l, x ∈ t.nodes d := by
  induction l with
  | nil => simp [Tm.nodesL] at h
  | cons t r ih =>
    simp only [Tm.nodesL, List.mem_append] at h
    rcases h with h | h
    · exact ⟨t, by simp, h⟩
    · obtain ⟨u, hu, hx⟩ := ih h
      exact ⟨u, by simp [hu], hx⟩
theorem nodesL_to {l : List Tm} {d : Int} {x : Key} {t : Tm} (ht : t ∈ l) (h : x ∈ t.nodes d) : x ∈ Tm.nodesL l d := by
  obtain ⟨k, hk, rfl⟩ := List.getElem_of_mem ht
  exact nodesL_mem hk h
/-- The depth changes no node's kind and number. -/
theorem nodes_kn : ∀ (t : Tm) (d d' : Int) (x : Key), x ∈ t.nodes d → ∃ y ∈ t.nodes d', y.k = x.k ∧ y.n = x.n := Tm.ind fun k s n l ih d d' x hx => by
  simp only [Tm.nodes, List.mem_cons] at hx ⊢
  rcases hx with rfl | hx
  · exact ⟨_, .inl rfl, rfl, rfl⟩
  · obtain ⟨t, ht, hx⟩ := nodesL_of hx
    obtain ⟨y, hy, h1, h2⟩ := ih t ht (d + 1) (d' + 1) x hx
    exact ⟨y, .inr (nodesL_to ht hy), h1, h2⟩
theorem addV_mem (ks : List Key) : ∀ (vs : List Int) (n : Int), n ∈ ks.foldl addV vs ↔ n ∈ vs ∨ ∃ x ∈ ks, x.k = 1 ∧ x.n = n := by
  induction ks with
  | nil => intro vs n; simp
  | cons x r ih =>
    intro vs n
    simp only [List.foldl_cons, ih, List.mem_cons, exists_eq_or_imp, addV]
    by_cases hk : x.k = 1
    · by_cases hm : x.n ∈ vs
      · simp only [hk, hm, not_true_eq_false, and_false, if_false, true_and]
        constructor
        · rintro (h | h)
          · exact .inl h
          · exact .inr (.inr h)
        · rintro (h | h | h)
          · exact .inl h
          · subst h; exact .inl hm
          · exact .inr h
      · simp only [hk, hm, not_false_eq_true, and_self, if_true, List.mem_append, List.mem_singleton, true_and]
        constructor
        · rintro ((h | h) | h)
          · exact .inl h
          · exact .inr (.inl h.symm)
          · exact .inr (.inr h)
        · rintro (h | h | h)
          · exact .inl (.inl h)
          · exact .inl (.inr h.symm)
          · exact .inr h
    · simp [hk]
theorem vars_mem (l : List Tm) (n : Int) : n ∈ varsOf l ↔ ∃ x ∈ Tm.nodesL l 1, x.k = 1 ∧ x.n = n := by
  rw [varsOf, addV_mem]; simp
/-- Every variable's number is among the variables. -/
theorem vars_cover {l : List Tm} {t : Tm} (ht : t ∈ l) : ∀ d, ∀ x ∈ t.nodes d, x.k = 1 → x.n ∈ varsOf l := fun d x hx hk => by
  obtain ⟨y, hy, h1, h2⟩ := nodes_kn t d 1 x hx
  rw [vars_mem]
  exact ⟨y, nodesL_to ht hy, h1.trans hk, h2⟩
theorem fair_range : ∀ t : Tm, t.fair = true → ∀ d, ∀ x ∈ t.nodes d, x.k = 1 → 0 ≤ x.n ∧ x.n < 1000000 := Tm.ind fun k s n l ih h d x hx hk => by
  simp only [Tm.fair, Bool.and_eq_true] at h
  simp only [Tm.nodes, List.mem_cons] at hx
  rcases hx with rfl | hx
  · have h2 := h.2
    simp only at hk
    subst hk
    simp only [Tm.alone, if_true, Bool.and_eq_true, decide_eq_true_eq] at h2
    exact ⟨h2.1.1.1, h2.1.1.2⟩
  · obtain ⟨t, ht, hx⟩ := nodesL_of hx
    exact ih t ht (by have := h.1.2; rw [Tm.fairs_all, List.all_eq_true] at this; exact this t ht) (d + 1) x hx hk
theorem vars_range {l : List Tm} (h : ∀ t ∈ l, t.right = true) : ∀ n ∈ varsOf l, 0 ≤ n ∧ n < 1000000 := fun n hn => by
  obtain ⟨x, hx, hk, rfl⟩ := (vars_mem l n).1 hn
  obtain ⟨t, ht, hx⟩ := nodesL_of hx
  exact fair_range t (right_fair (h t ht)) 1 x hx hk

theorem ren_congr (f g : Int → Int) : ∀ t : Tm, (∀ d, ∀ x ∈ t.nodes d, x.k = 1 → f x.n = g x.n) → t.ren f = t.ren g := Tm.ind fun k s n l ih h => by
  simp only [Tm.ren]
  split
  · rename_i hk
    rw [h 0 ⟨k, s, n, l.length, 0⟩ (by simp [Tm.nodes]) hk]
  · congr 1
    rw [Tm.rens_map, Tm.rens_map]
    refine List.map_congr_left fun t ht => ih t ht fun d x hx hk => h (d - 1) x ?_ hk
    simp only [Tm.nodes]
    exact List.mem_cons_of_mem _ (nodesL_to ht (by rw [show d - 1 + 1 = d by omega]; exact hx))
theorem ren_ren (f g : Int → Int) : ∀ t : Tm, (t.ren f).ren g = t.ren (fun v => g (f v)) := Tm.ind fun k s n l ih => by
  simp only [Tm.ren]
  split
  · simp [Tm.ren]
  · rename_i hk
    simp only [Tm.ren, if_neg hk]
    congr 1
    rw [Tm.rens_map, Tm.rens_map, Tm.rens_map, List.map_map]
    exact List.map_congr_left fun t ht => ih t ht

theorem sizes_map (l : List Tm) (f : Tm → Tm) (h : ∀ t ∈ l, (f t).size = t.size) : Tm.sizes (l.map f) = Tm.sizes l := by
  induction l with
  | nil => rfl
  | cons t r ih => simp only [List.map_cons, Tm.sizes]; rw [h t (by simp), ih fun u hu => h u (by simp [hu])]
theorem deeps_map (l : List Tm) (f : Tm → Tm) (h : ∀ t ∈ l, (f t).deep = t.deep) : Tm.deeps (l.map f) = Tm.deeps l := by
  induction l with
  | nil => rfl
  | cons t r ih => simp only [List.map_cons, Tm.deeps]; rw [h t (by simp), ih fun u hu => h u (by simp [hu])]
theorem args_nil {k : Int} {s : ByteArray} {n : Int} {l : List Tm} (h : (Tm.mk k s n l).noArgs = true) (hk : k = 1) : l = [] := by
  simp only [Tm.noArgs, Bool.and_eq_true] at h
  cases l with
  | nil => rfl
  | cons a r => simp [hk] at h
theorem args_noArgs {k : Int} {s : ByteArray} {n : Int} {l : List Tm} (h : (Tm.mk k s n l).noArgs = true) : ∀ t ∈ l, t.noArgs = true := by
  simp only [Tm.noArgs, Bool.and_eq_true] at h
  have := h.2
  rw [Tm.plain_all, List.all_eq_true] at this
  exact this
theorem size_ren (f : Int → Int) : ∀ t : Tm, t.noArgs = true → (t.ren f).size = t.size := Tm.ind fun k s n l ih h => by
  simp only [Tm.ren]
  split
  · rename_i hk
    rw [args_nil h hk]
    simp [Tm.size, Tm.sizes]
  · simp only [Tm.size, Tm.rens_map]
    rw [sizes_map l _ fun t ht => ih t ht (args_noArgs h t ht)]
theorem deep_ren (f : Int → Int) : ∀ t : Tm, t.noArgs = true → (t.ren f).deep = t.deep := Tm.ind fun k s n l ih h => by
  simp only [Tm.ren]
  split
  · rename_i hk
    rw [args_nil h hk]
    simp [Tm.deep, Tm.deeps]
  · simp only [Tm.deep, Tm.rens_map]
    rw [deeps_map l _ fun t ht => ih t ht (args_noArgs h t ht)]
theorem fair_ren (f : Int → Int) : ∀ t : Tm, t.fair = true → (∀ d, ∀ x ∈ t.nodes d, x.k = 1 → 0 ≤ f x.n ∧ f x.n < 1000000) → (t.ren f).fair = true := Tm.ind fun k s n l ih h hf => by
  simp only [Tm.ren]
  split
  · rename_i hk
    have := hf 0 ⟨k, s, n, l.length, 0⟩ (by simp [Tm.nodes]) hk
    simp only at this
    have he : (ByteArray.mk #[]).toList = [] := by rw [ByteArray.toList_eq]
    simp [Tm.fair, Tm.nameOk, Tm.fairs, Tm.alone, this.1, this.2, he]
  · rename_i hk
    simp only [Tm.fair, Bool.and_eq_true] at h ⊢
    refine ⟨⟨h.1.1, ?_⟩, by rw [Tm.rens_length]; exact h.2⟩
    have h12 := h.1.2
    rw [Tm.fairs_all, List.all_eq_true] at h12 ⊢
    intro u hu
    rw [Tm.rens_map] at hu
    obtain ⟨t, ht, rfl⟩ := List.mem_map.1 hu
    refine ih t ht (h12 t ht) fun d x hx hk1 => hf (d - 1) x ?_ hk1
    simp only [Tm.nodes]
    exact List.mem_cons_of_mem _ (nodesL_to ht (by rw [show d - 1 + 1 = d by omega]; exact hx))
theorem right_ren {f : Int → Int} {t : Tm} (h : t.right = true) (hf : ∀ d, ∀ x ∈ t.nodes d, x.k = 1 → 0 ≤ f x.n ∧ f x.n < 1000000) : (t.ren f).right = true := by
  have hn := right_noArgs h
  have h0 := right_fair h
  simp only [Tm.right, Bool.and_eq_true] at h ⊢
  rw [size_ren f t hn, deep_ren f t hn]
  exact ⟨⟨fair_ren f t h0 hf, h.1.2⟩, h.2⟩
/-- The variables of a term whose variables got other numbers. -/
theorem nodes_ren (f : Int → Int) : ∀ t : Tm, t.noArgs = true → ∀ d, ((t.ren f).nodes d).map (fun x => (x.k, x.n)) = (t.nodes d).map (fun x => (x.k, if x.k = 1 then f x.n else x.n)) := Tm.ind fun k s n l ih h d => by
  simp only [Tm.ren]
  split
  · rename_i hk
    subst hk
    rw [args_nil h rfl]
    simp [Tm.nodes, Tm.nodesL]
  · rename_i hk
    simp only [Tm.nodes, List.map_cons, if_neg hk, Tm.rens_map]
    congr 1
    have hl := args_noArgs h
    clear h hk
    induction l with
    | nil => rfl
    | cons t r ihr =>
      simp only [List.map_cons, Tm.nodesL, List.map_append]
      rw [ih t (by simp) (hl t (by simp)) (d + 1), ihr (fun u hu => ih u (by simp [hu])) (fun u hu => hl u (by simp [hu]))]
end Go.Proofs.YtilfglcjcmpfeaaGreatDoor
