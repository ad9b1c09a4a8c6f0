/-
  Lists of binds: where a variable is bound, what a term becomes, and when there is such a thing: no program here.
-/
import Derived.Test.YtjbicfimoiiglaaPure
namespace Go.Proofs.Ytjbicfimoiiglaa
open Go.RowKit

/-- A bind. -/
structure Bd where
  v : Int
  t : Tm

/-- A variable's own term. -/
def vTm (v : Int) : Tm := .mk 1 ⟨#[]⟩ v []

/-- Where a variable is bound first. -/
def place (l : List Bd) (v : Int) : Option Nat := l.findIdx? (fun b => b.v == v)
theorem place_some {l : List Bd} {v : Int} {p : Nat} (h : place l v = some p) : ∃ h : p < l.length, l[p].v = v ∧ ∀ j (hj : j < p), l[j].v ≠ v := by
  obtain ⟨hp, h1, h2⟩ := List.findIdx?_eq_some_iff_getElem.1 h
  exact ⟨hp, by simpa using h1, fun j hj => by simpa using h2 j hj⟩
theorem place_none {l : List Bd} {v : Int} : place l v = none ↔ ∀ b ∈ l, b.v ≠ v := by
  unfold place
  rw [List.findIdx?_eq_none_iff]
  simp
theorem place_is {l : List Bd} {v : Int} {p : Nat} (h : p < l.length) (hv : l[p].v = v) (hj : ∀ j (hj : j < p), l[j].v ≠ v) : place l v = some p := by
  unfold place
  rw [List.findIdx?_eq_some_iff_getElem]
  exact ⟨h, by simpa using hv, fun j hjp => by simpa using hj j hjp⟩

/-- The number that the document tells of a place. -/
def placeI (l : List Bd) (v : Int) : Int := match place l v with
  | some p => (p : Int)
  | none => -1

def tAt (l : List Bd) (i : Nat) : Tm := (l.getD i ⟨0, .mk 0 ⟨#[]⟩ 0 []⟩).t
theorem tAt_get {l : List Bd} {i : Nat} (h : i < l.length) : tAt l i = l[i].t := by simp [tAt, List.getD, h]
/-- Which places a place leads to at once. -/
def deps (l : List Bd) (i : Nat) : List Nat := (varsOf [tAt l i]).filterMap (place l)

theorem filterMap_nodup {f : Int → Option Nat} : ∀ {l : List Int}, l.Nodup → (∀ a b q, f a = some q → f b = some q → a = b) → (l.filterMap f).Nodup
  | [], _, _ => by simp
  | x :: r, h, hf => by
    rw [List.nodup_cons] at h
    rw [List.filterMap_cons]
    cases hx : f x with
    | none => exact filterMap_nodup h.2 hf
    | some q =>
      simp only
      rw [List.nodup_cons]
      refine ⟨fun hm => ?_, filterMap_nodup h.2 hf⟩
      obtain ⟨y, hy, hq⟩ := List.mem_filterMap.1 hm
      exact h.1 (hf x y q hx hq ▸ hy)
theorem deps_nodup (l : List Bd) (i : Nat) : (deps l i).Nodup := filterMap_nodup (varsOf_nodup _) fun a b q ha hb => by
  obtain ⟨_, h1, _⟩ := place_some ha
  obtain ⟨_, h2, _⟩ := place_some hb
  rw [← h1, ← h2]
theorem deps_lt {l : List Bd} {i q : Nat} (h : q ∈ deps l i) : q < l.length := by
  obtain ⟨v, _, hv⟩ := List.mem_filterMap.1 h
  exact (place_some hv).1

/-- Is what is in a list, bind by bind, as it may be? -/
def okL (l : List Bd) : Prop := ∀ i (h : i < l.length), 0 ≤ l[i].v ∧ l[i].v < 1000000 ∧ place l l[i].v = some i ∧ l[i].t.right = true
/-- Places in an order in which none leads to itself or to a later one. -/
def Ranked (l : List Bd) (r : Nat → Nat) : Prop := ∀ i, i < l.length → ∀ q ∈ deps l i, r q < r i
def RightL (l : List Bd) : Prop := okL l ∧ ∃ r, Ranked l r

/-! ### what a term becomes -/
namespace Tm
mutual
def vs : Tm → List Int
  | .mk k _ n l => if k = 1 then n :: vss l else vss l
def vss : List Tm → List Int
  | [] => []
  | t :: r => t.vs ++ vss r
end
theorem vss_mem (l : List Tm) (v : Int) : v ∈ vss l ↔ ∃ t ∈ l, v ∈ t.vs := by
  induction l with
  | nil => simp [vss]
  | cons t r ih => simp [vss, ih]
theorem vs_mem_args {k : Int} {s : ByteArray} {n : Int} {l : List Tm} {v : Int} {t : Tm} (ht : t ∈ l) (h : v ∈ t.vs) : v ∈ (Tm.mk k s n l).vs := by
  have := (vss_mem l v).2 ⟨t, ht, h⟩
  simp only [vs]
  split
  · exact List.mem_cons_of_mem _ this
  · exact this
theorem vs_nodes : ∀ (t : Tm) (d : Int) (v : Int), v ∈ t.vs ↔ ∃ x ∈ t.nodes d, x.k = 1 ∧ x.n = v := ind fun k s n l ih d v => by
  have hl : v ∈ vss l ↔ ∃ x ∈ Tm.nodesL l (d + 1), x.k = 1 ∧ x.n = v := by
    rw [vss_mem]
    constructor
    · rintro ⟨t, ht, h⟩
      obtain ⟨x, hx, h1, h2⟩ := (ih t ht (d + 1) v).1 h
      exact ⟨x, nodesL_to ht hx, h1, h2⟩
    · rintro ⟨x, hx, h1, h2⟩
      obtain ⟨t, ht, hx⟩ := nodesL_of hx
      exact ⟨t, ht, (ih t ht (d + 1) v).2 ⟨x, hx, h1, h2⟩⟩
  simp only [vs, Tm.nodes]
  split
  · rename_i hk
    subst hk
    rw [List.mem_cons, hl]
    constructor
    · rintro (rfl | ⟨x, hx, h1, h2⟩)
      · exact ⟨_, List.mem_cons_self, rfl, rfl⟩
      · exact ⟨x, List.mem_cons_of_mem _ hx, h1, h2⟩
    · rintro ⟨x, hx, h1, h2⟩
      rcases List.mem_cons.1 hx with rfl | hx
      · exact .inl h2.symm
      · exact .inr ⟨x, hx, h1, h2⟩
  · rename_i hk
    rw [hl]
    constructor
    · rintro ⟨x, hx, h1, h2⟩
      exact ⟨x, List.mem_cons_of_mem _ hx, h1, h2⟩
    · rintro ⟨x, hx, h1, h2⟩
      rcases List.mem_cons.1 hx with rfl | hx
      · exact absurd h1 hk
      · exact ⟨x, hx, h1, h2⟩
mutual
/-- A term whose variables have become others. -/
def bnd (σ : Int → Tm) : Tm → Tm
  | .mk k s n l => if k = 1 then σ n else .mk k s n (bnds σ l)
def bnds (σ : Int → Tm) : List Tm → List Tm
  | [] => []
  | t :: r => t.bnd σ :: bnds σ r
end
theorem bnds_map (σ : Int → Tm) (l : List Tm) : bnds σ l = l.map (bnd σ) := by
  induction l with
  | nil => simp [bnds]
  | cons t r ih => simp [bnds, ih]
theorem bnds_length (σ : Int → Tm) (l : List Tm) : (bnds σ l).length = l.length := by simp [bnds_map]
theorem bnds_take_succ (σ : Int → Tm) (l : List Tm) (k : Nat) (h : k < l.length) : bnds σ (l.take (k + 1)) = bnds σ (l.take k) ++ [l[k].bnd σ] := by
  rw [bnds_map, bnds_map, List.take_succ_eq_append_getElem h, List.map_append]; rfl
theorem bnd_var (σ : Int → Tm) (v : Int) : (vTm v).bnd σ = σ v := by simp [vTm, bnd]
theorem bnd_kind (σ : Int → Tm) {k : Int} {s : ByteArray} {n : Int} {l : List Tm} (hk : k ≠ 1) : (Tm.mk k s n l).bnd σ = .mk k s n (bnds σ l) := by simp [bnd, hk]
theorem bnd_congr (σ τ : Int → Tm) : ∀ t : Tm, (∀ v ∈ t.vs, σ v = τ v) → t.bnd σ = t.bnd τ := ind fun k s n l ih h => by
  simp only [bnd]
  split
  · rename_i hk
    exact h n (by simp [vs, hk])
  · congr 1
    rw [bnds_map, bnds_map]
    exact List.map_congr_left fun t ht => ih t ht fun v hv => h v (vs_mem_args ht hv)
theorem vs_bnd (σ : Int → Tm) : ∀ (t : Tm) (v : Int), v ∈ (t.bnd σ).vs → ∃ u ∈ t.vs, v ∈ (σ u).vs := ind fun k s n l ih v hv => by
  simp only [bnd] at hv
  split at hv
  · rename_i hk
    exact ⟨n, by simp [vs, hk], hv⟩
  · rename_i hk
    simp only [vs, if_neg hk] at hv
    obtain ⟨t, ht, hv⟩ := (vss_mem _ v).1 hv
    rw [bnds_map] at ht
    obtain ⟨t0, ht0, rfl⟩ := List.mem_map.1 ht
    obtain ⟨u, hu, hv⟩ := ih t0 ht0 v hv
    exact ⟨u, vs_mem_args ht0 hu, hv⟩
theorem fair_alone {k : Int} {s : ByteArray} {n : Int} {l : List Tm} (h : (Tm.mk k s n l).fair = true) : nameOk s = true ∧ (∀ t ∈ l, t.fair = true) ∧ alone k s n l.length = true := by
  simp only [fair, Bool.and_eq_true, fairs_all, List.all_eq_true] at h
  exact ⟨h.1.1, h.1.2, h.2⟩
theorem fair_mk {k : Int} {s : ByteArray} {n : Int} {l : List Tm} (h1 : nameOk s = true) (h2 : ∀ t ∈ l, t.fair = true) (h3 : alone k s n l.length = true) : (Tm.mk k s n l).fair = true := by
  simp only [fair, Bool.and_eq_true, fairs_all, List.all_eq_true]
  exact ⟨⟨h1, h2⟩, h3⟩
theorem fair_var {s : ByteArray} {n : Int} {l : List Tm} (h : (Tm.mk 1 s n l).fair = true) : Tm.mk 1 s n l = vTm n ∧ 0 ≤ n ∧ n < 1000000 := by
  have h3 := (fair_alone h).2.2
  simp only [alone, if_true, Bool.and_eq_true, decide_eq_true_eq, beq_iff_eq] at h3
  have hl : l = [] := List.eq_nil_of_length_eq_zero (by omega)
  have hs : s = ⟨#[]⟩ := by
    have := h3.1.2
    rw [ByteArray.toList_eq] at this
    cases s
    congr 1
    exact Array.toList_inj.1 (by simpa using this)
  exact ⟨by rw [hl, hs]; rfl, h3.1.1.1, h3.1.1.2⟩
theorem fair_vTm {v : Int} (h0 : 0 ≤ v) (h1 : v < 1000000) : (vTm v).fair = true :=
  fair_mk (by rfl) (by simp) (by simp [alone, h0, h1, ByteArray.toList_eq])
theorem fair_vs : ∀ t : Tm, t.fair = true → ∀ v ∈ t.vs, 0 ≤ v ∧ v < 1000000 := fun t h v hv => by
  obtain ⟨x, hx, hk, rfl⟩ := (vs_nodes t 0 v).1 hv
  exact fair_range t h 0 x hx hk
theorem bnd_fair (σ : Int → Tm) : ∀ t : Tm, t.fair = true → (∀ v ∈ t.vs, (σ v).fair = true) → (t.bnd σ).fair = true := ind fun k s n l ih h hσ => by
  simp only [bnd]
  split
  · rename_i hk
    exact hσ n (by simp [vs, hk])
  · obtain ⟨h1, h2, h3⟩ := fair_alone h
    refine fair_mk h1 (fun t ht => ?_) (by rw [bnds_length]; exact h3)
    rw [bnds_map] at ht
    obtain ⟨t0, ht0, rfl⟩ := List.mem_map.1 ht
    exact ih t0 ht0 (h2 t0 ht0) fun v hv => hσ v (vs_mem_args ht0 hv)
theorem bnd_id (σ : Int → Tm) : ∀ t : Tm, t.fair = true → (∀ v ∈ t.vs, σ v = vTm v) → t.bnd σ = t := ind fun k s n l ih h hσ => by
  simp only [bnd]
  split
  · rename_i hk
    subst hk
    rw [hσ n (by simp [vs]), (fair_var h).1]
  · congr 1
    rw [bnds_map]
    conv => rhs; rw [← List.map_id l]
    exact List.map_congr_left fun t ht => ih t ht ((fair_alone h).2.1 t ht) fun v hv => hσ v (vs_mem_args ht hv)
theorem bnd_bnd (σ τ : Int → Tm) : ∀ t : Tm, (t.bnd σ).bnd τ = t.bnd (fun v => (σ v).bnd τ) := ind fun k s n l ih => by
  simp only [bnd]
  split
  · rfl
  · rename_i hk
    simp only [bnd, if_neg hk]
    congr 1
    rw [bnds_map, bnds_map, bnds_map, List.map_map]
    exact List.map_congr_left fun t ht => ih t ht
theorem vs_vTm (v : Int) : (vTm v).vs = [v] := by simp [vTm, vs, vss]
end Tm
theorem vars_vs (l : List Tm) (v : Int) : v ∈ varsOf l ↔ ∃ t ∈ l, v ∈ t.vs := by
  rw [vars_mem]
  constructor
  · rintro ⟨x, hx, h1, h2⟩
    obtain ⟨t, ht, hx⟩ := nodesL_of hx
    exact ⟨t, ht, (Tm.vs_nodes t 1 v).2 ⟨x, hx, h1, h2⟩⟩
  · rintro ⟨t, ht, h⟩
    obtain ⟨x, hx, h1, h2⟩ := (Tm.vs_nodes t 1 v).1 h
    exact ⟨x, nodesL_to ht hx, h1, h2⟩
theorem deps_mem {l : List Bd} {i q : Nat} : q ∈ deps l i ↔ ∃ v ∈ (tAt l i).vs, place l v = some q := by
  simp only [deps, List.mem_filterMap, vars_vs]
  simp

/-- What each variable becomes. -/
structure Sol (l : List Bd) (σ : Int → Tm) : Prop where
  bound : ∀ v p, place l v = some p → σ v = (tAt l p).bnd σ
  free : ∀ v, place l v = none → σ v = vTm v
  fair : ∀ v, 0 ≤ v → v < 1000000 → (σ v).fair = true
  clear : ∀ v, ∀ u ∈ (σ v).vs, place l u = none

def itT (l : List Bd) : Nat → Int → Tm
  | 0, v => vTm v
  | f + 1, v => match place l v with
    | some p => (tAt l p).bnd (itT l f)
    | none => vTm v
theorem itT_free (l : List Bd) (f : Nat) {v : Int} (h : place l v = none) : itT l f v = vTm v := by
  cases f with
  | zero => rfl
  | succ f => simp [itT, h]
theorem itT_step {l : List Bd} {r : Nat → Nat} (hr : Ranked l r) : ∀ (f : Nat) (v : Int), (∀ p, place l v = some p → r p < f) → itT l f v = itT l (f + 1) v
  | f, v, h => by
    cases hp : place l v with
    | none => rw [itT_free l f hp, itT_free l (f + 1) hp]
    | some p =>
      have hlt := h p hp
      cases f with
      | zero => omega
      | succ f =>
        simp only [itT, hp]
        refine Tm.bnd_congr _ _ _ fun u hu => itT_step hr f u fun q hq => ?_
        have := hr p (place_some hp).1 q (deps_mem.2 ⟨u, hu, hq⟩)
        omega
theorem itT_fair {l : List Bd} (ho : okL l) : ∀ (f : Nat) (v : Int), 0 ≤ v → v < 1000000 → (itT l f v).fair = true
  | 0, v, h0, h1 => Tm.fair_vTm h0 h1
  | f + 1, v, h0, h1 => by
    cases hp : place l v with
    | none => rw [itT_free l _ hp]; exact Tm.fair_vTm h0 h1
    | some p =>
      simp only [itT, hp]
      have hl := (place_some hp).1
      have hf : (tAt l p).fair = true := by rw [tAt_get hl]; exact right_fair (ho p hl).2.2.2
      exact Tm.bnd_fair _ _ hf fun u hu => itT_fair ho f u (Tm.fair_vs _ hf u hu).1 (Tm.fair_vs _ hf u hu).2
theorem itT_none {l : List Bd} {r : Nat → Nat} (hr : Ranked l r) : ∀ (f : Nat) (v : Int), (∀ p, place l v = some p → r p < f) → ∀ u ∈ (itT l f v).vs, place l u = none
  | f, v, h, u, hu => by
    cases hp : place l v with
    | none =>
      rw [itT_free l f hp, Tm.vs_vTm] at hu
      simp at hu
      rw [hu]; exact hp
    | some p =>
      have hlt := h p hp
      cases f with
      | zero => omega
      | succ f =>
        simp only [itT, hp] at hu
        obtain ⟨x, hx, hu⟩ := Tm.vs_bnd _ _ _ hu
        refine itT_none hr f x (fun q hq => ?_) u hu
        have := hr p (place_some hp).1 q (deps_mem.2 ⟨x, hx, hq⟩)
        omega
theorem bound_of (r : Nat → Nat) : ∀ n : Nat, ∃ M, ∀ p, p < n → r p < M
  | 0 => ⟨0, fun p h => by omega⟩
  | n + 1 => by
    obtain ⟨M, hM⟩ := bound_of r n
    refine ⟨M + r n + 1, fun p hp => ?_⟩
    by_cases e : p = n
    · subst e; omega
    · have := hM p (by omega); omega
theorem sol_of {l : List Bd} (h : RightL l) : ∃ σ, Sol l σ := by
  obtain ⟨ho, r, hr⟩ := h
  obtain ⟨M, hM⟩ := bound_of r l.length
  have hall : ∀ v p, place l v = some p → r p < M := fun v p hp => hM p (place_some hp).1
  refine ⟨itT l M, fun v p hp => ?_, fun v hp => itT_free l M hp, fun v => itT_fair ho M v, fun v => itT_none hr M v (hall v)⟩
  rw [itT_step hr M v (hall v)]
  simp [itT, hp]
theorem Sol.again {l : List Bd} {σ : Int → Tm} (h : Sol l σ) {v : Int} (h0 : 0 ≤ v) (h1 : v < 1000000) : (σ v).bnd σ = σ v :=
  Tm.bnd_id σ _ (h.fair v h0 h1) fun u hu => h.free u (h.clear v u hu)
theorem Sol.fairT {l : List Bd} {σ : Int → Tm} (h : Sol l σ) {t : Tm} (ht : t.fair = true) : (t.bnd σ).fair = true :=
  Tm.bnd_fair σ t ht fun v hv => h.fair v (Tm.fair_vs t ht v hv).1 (Tm.fair_vs t ht v hv).2
theorem Sol.noneT {l : List Bd} {σ : Int → Tm} (h : Sol l σ) (t : Tm) : ∀ u ∈ (t.bnd σ).vs, place l u = none := fun u hu => by
  obtain ⟨x, _, hu⟩ := Tm.vs_bnd _ _ _ hu
  exact h.clear x u hu
theorem Sol.same {l : List Bd} {σ : Int → Tm} (h : Sol l σ) {t : Tm} (ht : t.fair = true) (hf : ∀ u ∈ t.vs, place l u = none) : t.bnd σ = t :=
  Tm.bnd_id σ t ht fun u hu => h.free u (hf u hu)
theorem Sol.twice {l : List Bd} {σ : Int → Tm} (h : Sol l σ) {t : Tm} (ht : t.fair = true) : (t.bnd σ).bnd σ = t.bnd σ := h.same (h.fairT ht) (h.noneT t)

theorem sol_any (l : List Bd) : ∃ σ, RightL l → Sol l σ := by
  by_cases h : RightL l
  · obtain ⟨σ, h2⟩ := sol_of h
    exact ⟨σ, fun _ => h2⟩
  · exact ⟨vTm, fun h' => absurd h' h⟩

theorem okL_wf {l : List Bd} (h : okL l) : ∀ x ∈ l, (Lit.int .i64 x.v).wf = true := fun x hx => by
  obtain ⟨i, hi, rfl⟩ := List.getElem_of_mem hx
  exact WalkArith.wf_i64 (by have := h i hi; omega)

/-! ### a flat list -/
def flatL (σ : Int → Tm) (l : List Bd) : List Bd := l.map fun b => ⟨b.v, b.t.bnd σ⟩
theorem flat_length (σ : Int → Tm) (l : List Bd) : (flatL σ l).length = l.length := by simp [flatL]
theorem flat_get (σ : Int → Tm) (l : List Bd) (i : Nat) (h : i < l.length) : (flatL σ l)[i]'(by simpa [flatL] using h) = ⟨l[i].v, l[i].t.bnd σ⟩ := by simp [flatL]
theorem flat_place (σ : Int → Tm) (l : List Bd) (v : Int) : place (flatL σ l) v = place l v := by
  unfold place flatL
  rw [List.findIdx?_map]
  rfl
theorem flat_tAt (σ : Int → Tm) (l : List Bd) {i : Nat} (h : i < l.length) : tAt (flatL σ l) i = (tAt l i).bnd σ := by
  rw [tAt_get (by simpa [flatL] using h), flat_get σ l i h, tAt_get h]
theorem flat_deps {σ : Int → Tm} {l : List Bd} (h : Sol l σ) {i : Nat} (hi : i < l.length) : deps (flatL σ l) i = [] := by
  rw [List.eq_nil_iff_forall_not_mem]
  intro q hq
  obtain ⟨v, hv, hp⟩ := deps_mem.1 hq
  rw [flat_place] at hp
  rw [flat_tAt σ l hi] at hv
  rw [h.noneT _ v hv] at hp
  cases hp
theorem flat_right {σ : Int → Tm} {l : List Bd} (h : Sol l σ) (hl : RightL l) (hr : ∀ b ∈ l, (b.t.bnd σ).right = true) : RightL (flatL σ l) := by
  refine ⟨fun i hi => ?_, fun _ => 0, fun i hi q hq => ?_⟩
  · have hi' : i < l.length := by simpa [flatL] using hi
    obtain ⟨h1, h2, h3, _⟩ := hl.1 i hi'
    rw [flat_place, flat_get σ l i hi']
    exact ⟨h1, h2, h3, hr _ (List.getElem_mem hi')⟩
  · rw [flat_deps h (by simpa [flatL] using hi)] at hq
    cases hq
theorem flat_sol {σ : Int → Tm} {l : List Bd} (h : Sol l σ) (hl : okL l) : Sol (flatL σ l) σ := by
  refine ⟨fun v p hp => ?_, fun v hp => h.free v (by rwa [flat_place] at hp), h.fair, fun v u hu => by rw [flat_place]; exact h.clear v u hu⟩
  rw [flat_place] at hp
  have hlt := (place_some hp).1
  have hf : (tAt l p).fair = true := by rw [tAt_get hlt]; exact right_fair (hl p hlt).2.2.2
  rw [flat_tAt σ l hlt, h.twice hf, h.bound v p hp]
end Go.Proofs.Ytjbicfimoiiglaa
