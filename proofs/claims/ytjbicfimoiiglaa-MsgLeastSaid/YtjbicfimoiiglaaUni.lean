/-
  Terms made alike: what solves a list of binds, one bind more, what can't be, and that two most general ones differ by names: no program here.
-/
import Derived.Test.YtjbicfimoiiglaaSub
import Derived.Test.YtjbicfimoiiglaaPureNum
namespace Go.Proofs.Ytjbicfimoiiglaa
open Go.RowKit

/-- A substitution that makes each bound variable what it is bound to. -/
def Solves (θ : Int → Tm) (l : List Bd) : Prop := ∀ b ∈ l, θ b.v = b.t.bnd θ
theorem solves_nil (θ : Int → Tm) : Solves θ [] := fun b hb => by cases hb
theorem solves_snoc {θ : Int → Tm} {l : List Bd} {b : Bd} : Solves θ (l ++ [b]) ↔ Solves θ l ∧ θ b.v = b.t.bnd θ :=
  ⟨fun h => ⟨fun x hx => h x (List.mem_append_left _ hx), h b (by simp)⟩, fun h x hx => by
    rcases List.mem_append.1 hx with hx | hx
    · exact h.1 x hx
    · rw [List.mem_singleton.1 hx]; exact h.2⟩
theorem Sol.solves {l : List Bd} {σ : Int → Tm} (h : Sol l σ) (ho : okL l) : Solves σ l := fun b hb => by
  obtain ⟨i, hi, rfl⟩ := List.getElem_of_mem hb
  have := h.bound _ i (ho i hi).2.2.1
  rwa [tAt_get hi] at this

/-- What solves the binds makes of what a variable becomes just what it makes of the variable. -/
theorem Sol.below {l : List Bd} {σ θ : Int → Tm} {r : Nat → Nat} (hr : Ranked l r) (h : Sol l σ) (hθ : Solves θ l) (v : Int) : (σ v).bnd θ = θ v := by
  have key : ∀ (m : Nat) (v : Int), (∀ p, place l v = some p → r p < m) → (σ v).bnd θ = θ v := by
    intro m
    induction m with
    | zero =>
      intro v hv
      cases hp : place l v with
      | none => rw [h.free v hp, Tm.bnd_var]
      | some p => exact absurd (hv p hp) (by omega)
    | succ m ih =>
      intro v hv
      cases hp : place l v with
      | none => rw [h.free v hp, Tm.bnd_var]
      | some p =>
        obtain ⟨hlt, hv1, _⟩ := place_some hp
        have h1 := hθ l[p] (List.getElem_mem hlt)
        rw [hv1] at h1
        rw [h.bound v p hp, Tm.bnd_bnd, h1, tAt_get hlt]
        refine Tm.bnd_congr _ _ _ fun u hu => ih u fun q hq => ?_
        have h2 := hr p hlt q (deps_mem.2 ⟨u, by rw [tAt_get hlt]; exact hu, hq⟩)
        have h3 := hv p hp
        omega
  cases hp : place l v with
  | none => rw [h.free v hp, Tm.bnd_var]
  | some p => exact key (r p + 1) v fun q hq => by rw [hp] at hq; cases hq; omega
theorem Sol.belowT {l : List Bd} {σ θ : Int → Tm} (hl : RightL l) (h : Sol l σ) (hθ : Solves θ l) (t : Tm) : (t.bnd σ).bnd θ = t.bnd θ := by
  obtain ⟨_, r, hr⟩ := hl
  rw [Tm.bnd_bnd]
  exact Tm.bnd_congr _ _ _ fun v _ => h.below hr hθ v

/-! ### one bind more -/
theorem place_snoc (l : List Bd) (b : Bd) (v : Int) : place (l ++ [b]) v = (match place l v with | some p => some p | none => if b.v = v then some l.length else none) := by
  unfold place
  rw [List.findIdx?_append]
  cases List.findIdx? (fun b => b.v == v) l with
  | some p => simp
  | none =>
    by_cases h : b.v = v
    · simp [h, List.findIdx?_cons]
    · simp [h, List.findIdx?_cons]
theorem tAt_old {l : List Bd} {b : Bd} {i : Nat} (h : i < l.length) : tAt (l ++ [b]) i = tAt l i := by
  rw [tAt_get (by simp; omega), tAt_get h, List.getElem_append_left]
theorem tAt_new {l : List Bd} {b : Bd} : tAt (l ++ [b]) l.length = b.t := by
  rw [tAt_get (by simp), List.getElem_append_right (Nat.le_refl _)]
  simp
namespace Tm
theorem vs_bnd_of (σ : Int → Tm) : ∀ t : Tm, t.fair = true → ∀ u ∈ t.vs, ∀ v ∈ (σ u).vs, v ∈ (t.bnd σ).vs := ind fun k s n l ih hf u hu v hv => by
  simp only [bnd]
  split
  · rename_i hk
    subst hk
    rw [(fair_var hf).1, vs_vTm, List.mem_singleton] at hu
    subst hu
    exact hv
  · rename_i hk
    simp only [vs, if_neg hk] at hu ⊢
    obtain ⟨t, ht, hu⟩ := (vss_mem _ _).1 hu
    rw [vss_mem, bnds_map]
    exact ⟨_, List.mem_map.2 ⟨t, ht, rfl⟩, ih t ht ((fair_alone hf).2.1 t ht) u hu v hv⟩
theorem size_bnd_arg (θ : Int → Tm) {k : Int} {s : ByteArray} {n : Int} {l : List Tm} (hk : k ≠ 1) {t : Tm} (ht : t ∈ l) : (t.bnd θ).size < ((Tm.mk k s n l).bnd θ).size := by
  rw [bnd_kind θ hk]
  have := size_mem_le (l := bnds θ l) (t := t.bnd θ) (by rw [bnds_map]; exact List.mem_map.2 ⟨t, ht, rfl⟩)
  simp only [size]
  omega
theorem size_bnd_ge (θ : Int → Tm) {v : Int} : ∀ t : Tm, t.fair = true → v ∈ t.vs → (θ v).size ≤ (t.bnd θ).size := ind fun k s n l ih hf hv => by
  by_cases hk : k = 1
  · subst hk
    rw [(fair_var hf).1] at hv ⊢
    rw [vs_vTm, List.mem_singleton] at hv
    subst hv
    rw [bnd_var]
    exact Nat.le_refl _
  · simp only [vs, if_neg hk] at hv
    obtain ⟨t, ht, hv⟩ := (vss_mem _ _).1 hv
    exact Nat.le_trans (ih t ht ((fair_alone hf).2.1 t ht) hv) (Nat.le_of_lt (size_bnd_arg θ hk ht))
theorem size_bnd_gt (θ : Int → Tm) {v : Int} {t : Tm} (hf : t.fair = true) (hk : t.kind ≠ 1) (hv : v ∈ t.vs) : (θ v).size < (t.bnd θ).size := by
  obtain ⟨k, s, n, l⟩ := t
  have hk' : k ≠ 1 := hk
  simp only [vs, if_neg hk'] at hv
  obtain ⟨t, ht, hv⟩ := (vss_mem _ _).1 hv
  exact Nat.lt_of_le_of_lt (size_bnd_ge θ t ((fair_alone hf).2.1 t ht) hv) (size_bnd_arg θ hk' ht)
theorem bnd_kindOf (θ : Int → Tm) {t : Tm} (hk : t.kind ≠ 1) : (t.bnd θ).kind = t.kind := by
  obtain ⟨k, s, n, l⟩ := t
  rw [bnd_kind θ (show k ≠ 1 from hk)]
  rfl
theorem bnd_eq_iff (θ : Int → Tm) {a b : Tm} (ha : a.kind ≠ 1) (hb : b.kind ≠ 1) :
    a.bnd θ = b.bnd θ ↔ a.kind = b.kind ∧ a.name = b.name ∧ a.n = b.n ∧ a.args.map (bnd θ) = b.args.map (bnd θ) := by
  obtain ⟨k, s, n, l⟩ := a
  obtain ⟨k', s', n', l'⟩ := b
  rw [bnd_kind θ (show k ≠ 1 from ha), bnd_kind θ (show k' ≠ 1 from hb), bnds_map, bnds_map, Tm.mk.injEq]
  rfl
theorem var_of {t : Tm} (hf : t.fair = true) (hk : t.kind = 1) : t = vTm t.n ∧ 0 ≤ t.n ∧ t.n < 1000000 := by
  obtain ⟨k, s, n, l⟩ := t
  have : k = 1 := hk
  subst this
  exact fair_var hf
end Tm
theorem right_snoc {l : List Bd} {σ : Int → Tm} (hl : RightL l) (hσ : Sol l σ) {v : Int} {t : Tm} (h0 : 0 ≤ v) (h1 : v < 1000000) (hp : place l v = none) (ht : t.right = true)
    (hn : ¬ v ∈ (t.bnd σ).vs) : RightL (l ++ [⟨v, t⟩]) := by
  obtain ⟨ho, r, hr⟩ := hl
  have hself : v ∈ (σ v).vs := by rw [hσ.free v hp, Tm.vs_vTm]; simp
  have hfair : ∀ i, i < l.length → (tAt l i).fair = true := fun i hi => by rw [tAt_get hi]; exact right_fair (ho i hi).2.2.2
  obtain ⟨M, hM⟩ := bound_of r l.length
  refine ⟨fun i hi => ?_, fun i => if i = l.length then M else if v ∈ ((tAt l i).bnd σ).vs then r i + M + 1 else r i, fun i hi q hq => ?_⟩
  · by_cases h : i < l.length
    · rw [List.getElem_append_left h, place_snoc, (ho i h).2.2.1]
      exact ⟨(ho i h).1, (ho i h).2.1, rfl, (ho i h).2.2.2⟩
    · have hlen : i = l.length := by simp at hi; omega
      subst hlen
      rw [List.getElem_append_right (Nat.le_refl _)]
      simp only [Nat.sub_self, List.getElem_cons_zero]
      refine ⟨h0, h1, ?_, ht⟩
      rw [place_snoc, hp]
      simp
  · obtain ⟨u, hu, hpu⟩ := deps_mem.1 hq
    rw [place_snoc] at hpu
    by_cases h : i < l.length
    · rw [tAt_old h] at hu
      have hne : i ≠ l.length := by omega
      simp only [if_neg hne]
      cases hpl : place l u with
      | some p =>
        rw [hpl] at hpu
        obtain rfl : p = q := by simpa using hpu
        have hplt := (place_some hpl).1
        have hrr := hr i h p (deps_mem.2 ⟨u, hu, hpl⟩)
        have hnp : p ≠ l.length := by omega
        simp only [if_neg hnp]
        by_cases hoc : v ∈ ((tAt l i).bnd σ).vs
        · rw [if_pos hoc]
          split <;> omega
        · rw [if_neg hoc, if_neg (fun hc => hoc (Tm.vs_bnd_of σ _ (hfair i h) u hu v (by rw [hσ.bound u p hpl]; exact hc)))]
          exact hrr
      | none =>
        rw [hpl] at hpu
        by_cases huv : v = u
        · subst huv
          have hq' : q = l.length := by simpa using hpu.symm
          subst hq'
          rw [if_pos rfl, if_pos (Tm.vs_bnd_of σ _ (hfair i h) v hu v hself)]
          omega
        · simp [huv] at hpu
    · have hlen : i = l.length := by simp at hi; omega
      subst hlen
      rw [tAt_new] at hu
      simp only at hu
      cases hpl : place l u with
      | some p =>
        rw [hpl] at hpu
        obtain rfl : p = q := by simpa using hpu
        have hplt := (place_some hpl).1
        have hnp : p ≠ l.length := by omega
        simp only [if_neg hnp, if_pos]
        rw [if_neg (fun hc => hn (Tm.vs_bnd_of σ _ (right_fair ht) u hu v (by rw [hσ.bound u p hpl]; exact hc)))]
        exact hM p hplt
      | none =>
        rw [hpl] at hpu
        by_cases huv : v = u
        · subst huv
          exact absurd (Tm.vs_bnd_of σ _ (right_fair ht) v hu v hself) hn
        · simp [huv] at hpu

/-- A variable inside of what it would have to be: there is no such thing. -/
theorem occurs_none {l : List Bd} {σ θ : Int → Tm} (hl : RightL l) (hσ : Sol l σ) (hθ : Solves θ l) {a : Tm} {v : Int} (ha : a.fair = true) (hk : a.kind ≠ 1) (hv : v ∈ (a.bnd σ).vs) : θ v ≠ a.bnd θ := fun he => by
  have h1 := Tm.size_bnd_gt θ (hσ.fairT ha) (by rw [Tm.bnd_kindOf σ hk]; exact hk) hv
  rw [hσ.belowT hl hθ, ← he] at h1
  omega

theorem var_mem {t : Tm} (hk : t.kind = 1) : t.n ∈ t.vs := by
  obtain ⟨k, s, n, l⟩ := t
  have : k = 1 := hk
  simp [Tm.vs, Tm.n, this]
theorem bnd_var_n (θ : Int → Tm) {t : Tm} (hk : t.kind = 1) : t.bnd θ = θ t.n := by
  obtain ⟨k, s, n, l⟩ := t
  have : k = 1 := hk
  subst this
  simp [Tm.bnd, Tm.n]

theorem mem_deep {l : List Tm} {u : Tm} (hu : u ∈ l) : u.deep ≤ Tm.deeps l := by
  induction l with
  | nil => cases hu
  | cons t r ih =>
    simp only [Tm.deeps]
    rcases List.mem_cons.1 hu with rfl | hu
    · omega
    · have := ih hu
      omega
/-- The Args of a right term are right. -/
theorem right_arg {t u : Tm} (h : t.right = true) (hu : u ∈ t.args) : u.right = true := by
  obtain ⟨k, s, n, l⟩ := t
  have hu' : u ∈ l := hu
  simp only [Tm.right, Bool.and_eq_true, decide_eq_true_eq] at h ⊢
  have h1 := Tm.size_mem_le hu'
  have h2 := mem_deep hu'
  have h3 := (Tm.fair_alone h.1.1).2.1 u hu'
  have h4 := h.1.2
  have h5 := h.2
  simp only [Tm.size] at h4
  simp only [Tm.deep] at h5
  exact ⟨⟨h3, by omega⟩, by omega⟩

/-! ### most general ones -/
/-- A list of binds whose solutions are just those of a list which make two terms alike. -/
structure MguOf (l : List Bd) (a b : Tm) (l' : List Bd) : Prop where
  right : RightL l'
  iff : ∀ θ, Solves θ l' ↔ Solves θ l ∧ a.bnd θ = b.bnd θ
/-- There is none. -/
def NoMgu (l : List Bd) (a b : Tm) : Prop := ∀ θ, Solves θ l → a.bnd θ ≠ b.bnd θ
/-- Two lists with the same solutions. -/
def Alike (l m : List Bd) : Prop := ∀ θ, Solves θ l ↔ Solves θ m
theorem Alike.refl (l : List Bd) : Alike l l := fun _ => Iff.rfl
theorem Alike.symm {l m : List Bd} (h : Alike l m) : Alike m l := fun θ => (h θ).symm
theorem MguOf.alike {l m l' m' : List Bd} {a b : Tm} (h : MguOf l a b l') (g : MguOf m a b m') (he : Alike l m) : Alike l' m' := fun θ => by rw [h.iff, g.iff, he θ]
theorem MguOf.turned {l m l' m' : List Bd} {a b : Tm} (h : MguOf l a b l') (g : MguOf m b a m') (he : Alike l m) : Alike l' m' := fun θ => by rw [h.iff, g.iff, he θ, eq_comm]
theorem MguOf.not {l m l' : List Bd} {a b : Tm} (h : MguOf l a b l') (he : Alike l m) (g : NoMgu m a b) : False := by
  obtain ⟨σ, hσ⟩ := sol_of h.right
  have h1 := (h.iff σ).1 (hσ.solves h.right.1)
  exact g σ ((he σ).1 h1.1) h1.2
theorem NoMgu.turned {l m : List Bd} {a b : Tm} (h : NoMgu l a b) (he : Alike l m) : NoMgu m b a := fun θ hθ e => h θ ((he θ).2 hθ) e.symm
theorem NoMgu.alike {l m : List Bd} {a b : Tm} (h : NoMgu l a b) (he : Alike l m) : NoMgu m a b := fun θ hθ => h θ ((he θ).2 hθ)
theorem Alike.bnd {l m : List Bd} {σ τ : Int → Tm} (he : Alike l m) (hl : RightL l) (hm : RightL m) (hσ : Sol l σ) (hτ : Sol m τ) (t : Tm) : (t.bnd σ).bnd τ = t.bnd τ :=
  hσ.belowT hl ((he τ).2 (hτ.solves hm.1)) t

/-! ### up to names -/
theorem kind_bnd_var {t : Tm} {σ : Int → Tm} {v : Int} (h : t.bnd σ = vTm v) : t.kind = 1 := by
  by_cases hk : t.kind = 1
  · exact hk
  · have := Tm.bnd_kindOf σ hk
    rw [h] at this
    exact absurd this.symm hk
theorem bnd_same_vars {σ : Int → Tm} : ∀ t : Tm, t.fair = true → t.bnd σ = t → ∀ v ∈ t.vs, σ v = vTm v := Tm.ind fun k s n l ih hf he v hv => by
  by_cases hk : k = 1
  · subst hk
    obtain ⟨h1, _⟩ := Tm.fair_var hf
    rw [h1, Tm.vs_vTm, List.mem_singleton] at hv
    subst hv
    rw [h1, Tm.bnd_var] at he
    exact he
  · rw [Tm.bnd_kind σ hk, Tm.mk.injEq, Tm.bnds_map] at he
    simp only [Tm.vs, if_neg hk] at hv
    obtain ⟨t, ht, hv⟩ := (Tm.vss_mem _ _).1 hv
    have h2 : ∀ t ∈ l, t.bnd σ = t := fun t ht => by
      obtain ⟨i, hi, rfl⟩ := List.getElem_of_mem ht
      have h3 := congrArg (fun L => L[i]?) he.2.2.2
      simpa only [List.getElem?_map, List.getElem?_eq_getElem hi, Option.map_some, Option.some.injEq] using h3
    exact ih t ht ((Tm.fair_alone hf).2.1 t ht) (h2 t ht) v hv
theorem bnd_ren {τ : Int → Tm} {g : Int → Int} : ∀ t : Tm, t.fair = true → (∀ v ∈ t.vs, τ v = vTm (g v)) → t.bnd τ = t.ren g := Tm.ind fun k s n l ih hf hg => by
  by_cases hk : k = 1
  · subst hk
    obtain ⟨h1, _⟩ := Tm.fair_var hf
    have h2 := hg n (by simp [Tm.vs])
    rw [h1, Tm.bnd_var, h2]
    simp [vTm, Tm.ren]
  · rw [Tm.bnd_kind τ hk, Tm.bnds_map]
    simp only [Tm.ren, if_neg hk, Tm.rens_map]
    congr 1
    exact List.map_congr_left fun t ht => ih t ht ((Tm.fair_alone hf).2.1 t ht) fun v hv => hg v (Tm.vs_mem_args ht hv)
/-- Terms that become one another are one another's up to names. -/
theorem names_of {X Y : List Tm} {σ τ : Int → Tm} (hX : ∀ t ∈ X, t.fair = true) (hτ : ∀ t ∈ X, (t.bnd τ).fair = true) (hY : Y = X.map (Tm.bnd τ)) (hback : ∀ t ∈ X, (t.bnd τ).bnd σ = t) :
    ∃ g : Int → Int, (∀ a ∈ varsOf X, ∀ b ∈ varsOf X, g a = g b → a = b) ∧ (∀ a ∈ varsOf X, 0 ≤ g a ∧ g a < 1000000) ∧ Y = Tm.rens g X := by
  have hv : ∀ v ∈ varsOf X, (τ v).kind = 1 ∧ (τ v).fair = true ∧ (τ v).bnd σ = vTm v := fun v hv => by
    obtain ⟨t, ht, hv⟩ := (vars_vs X v).1 hv
    have h1 : t.bnd (fun u => (τ u).bnd σ) = t := by rw [← Tm.bnd_bnd]; exact hback t ht
    have h2 := bnd_same_vars t (hX t ht) h1 v hv
    refine ⟨kind_bnd_var h2, ?_, h2⟩
    have h3 := kind_bnd_var h2
    have h4 : ∀ t : Tm, t.fair = true → (t.bnd τ).fair = true → ∀ v ∈ t.vs, (τ v).fair = true := Tm.ind fun k s n l ih hf hb v hv => by
      by_cases hk : k = 1
      · subst hk
        rw [(Tm.fair_var hf).1] at hv hb
        rw [Tm.vs_vTm, List.mem_singleton] at hv
        subst hv
        rwa [Tm.bnd_var] at hb
      · rw [Tm.bnd_kind τ hk, Tm.bnds_map] at hb
        simp only [Tm.vs, if_neg hk] at hv
        obtain ⟨t, ht, hv⟩ := (Tm.vss_mem _ _).1 hv
        exact ih t ht ((Tm.fair_alone hf).2.1 t ht) ((Tm.fair_alone hb).2.1 _ (List.mem_map.2 ⟨t, ht, rfl⟩)) v hv
    exact h4 t (hX t ht) (hτ t ht) v hv
  refine ⟨fun v => (τ v).n, fun a ha b hb he => ?_, fun a ha => (Tm.var_of (hv a ha).2.1 (hv a ha).1).2, ?_⟩
  · have h1 := (Tm.var_of (hv a ha).2.1 (hv a ha).1).1
    have h2 := (Tm.var_of (hv b hb).2.1 (hv b hb).1).1
    have h3 : τ a = τ b := by rw [h1, h2]; simp only at he; rw [he]
    have h4 := (hv a ha).2.2
    rw [h3, (hv b hb).2.2] at h4
    simpa [vTm] using h4.symm
  · rw [hY, Tm.rens_map]
    exact List.map_congr_left fun t ht => bnd_ren t (hX t ht) fun v hv' => (Tm.var_of (hv v ((vars_vs X v).2 ⟨t, ht, hv'⟩)).2.1 (hv v ((vars_vs X v).2 ⟨t, ht, hv'⟩)).1).1
theorem numbered_names {X Y : List Tm} {g : Int → Int} (hX : ∀ t ∈ X, t.fair = true) (hg : ∀ a ∈ varsOf X, ∀ b ∈ varsOf X, g a = g b → a = b) (hY : Y = Tm.rens g X) :
    Tm.rens (posOf (varsOf Y)) Y = Tm.rens (posOf (varsOf X)) X := by
  have hv : varsOf Y = (varsOf X).map g := by rw [hY]; exact vars_rens g X (fun t ht => fair_noArgs t (hX t ht)) hg
  rw [hv, hY, Tm.rens_map, Tm.rens_map, Tm.rens_map, List.map_map]
  refine List.map_congr_left fun t ht => ?_
  simp only [Function.comp]
  rw [ren_ren]
  exact ren_congr _ _ t fun d x hx hk => posOf_map (vs := varsOf X) g hg (vars_cover ht d x hx hk)
/-- What two lists with the same solutions make of terms is, up to names, the same; and right, if the other is. -/
theorem Alike.names {l m : List Bd} {σ τ : Int → Tm} (he : Alike l m) (hl : RightL l) (hm : RightL m) (hσ : Sol l σ) (hτ : Sol m τ) {all : List Tm} (hf : ∀ t ∈ all, t.fair = true) :
    Tm.rens (posOf (varsOf (all.map (Tm.bnd τ)))) (all.map (Tm.bnd τ)) = Tm.rens (posOf (varsOf (all.map (Tm.bnd σ)))) (all.map (Tm.bnd σ)) ∧ ∀ t ∈ all, (t.bnd σ).right = true → (t.bnd τ).right = true := by
  have hX : ∀ t ∈ all.map (Tm.bnd σ), t.fair = true := fun t ht => by
    obtain ⟨u, hu, rfl⟩ := List.mem_map.1 ht
    exact hσ.fairT (hf u hu)
  have hY : all.map (Tm.bnd τ) = (all.map (Tm.bnd σ)).map (Tm.bnd τ) := by
    rw [List.map_map]
    exact List.map_congr_left fun t _ => (he.bnd hl hm hσ hτ t).symm
  obtain ⟨g, hinj, hrng, hYg⟩ := names_of (σ := σ) (τ := τ) hX (fun t ht => by
    obtain ⟨u, hu, rfl⟩ := List.mem_map.1 ht
    rw [he.bnd hl hm hσ hτ u]
    exact hτ.fairT (hf u hu)) hY (fun t ht => by
    obtain ⟨u, hu, rfl⟩ := List.mem_map.1 ht
    rw [he.bnd hl hm hσ hτ u, he.symm.bnd hm hl hτ hσ u])
  refine ⟨numbered_names hX hinj hYg, fun t ht hr => ?_⟩
  rw [hYg] at hY
  have h1 : t.bnd τ = (t.bnd σ).ren g := by
    obtain ⟨i, hi, rfl⟩ := List.getElem_of_mem ht
    have h2 := congrArg (fun L => L[i]?) hYg
    simp only [Tm.rens_map, List.getElem?_map, List.getElem?_eq_getElem hi, Option.map_some, Option.some.injEq] at h2
    exact h2
  rw [h1]
  exact right_ren hr fun d x hx hk => hrng _ (vars_cover (List.mem_map.2 ⟨t, ht, rfl⟩) d x hx hk)
end Go.Proofs.Ytjbicfimoiiglaa
