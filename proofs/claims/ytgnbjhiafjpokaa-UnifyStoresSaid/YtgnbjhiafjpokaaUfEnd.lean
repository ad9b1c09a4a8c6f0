/-
  What is left when no two parts have to become the same: binds whose solutions are those that make the terms alike; no program here.
  How many parts there can be, at most; parts put behind the others; no program here.
-/
import Derived.Test.YtgnbjhiafjpokaaUf
namespace Go.Proofs.Ytgnbjhiafjpokaa
open Go.RowKit

namespace Tm
/-- A term down to some depth. -/
def dcut : Nat → Tm → Tm
  | 0, _ => vTm 0
  | d + 1, .mk k s n l => .mk k s n (l.map (dcut d))
theorem dcut_eq : ∀ t u : Tm, (∀ d, dcut d t = dcut d u) → t = u := ind fun k s n l ih u h => by
  obtain ⟨k', s', n', l'⟩ := u
  have h1 := h 1
  simp only [dcut, Tm.mk.injEq] at h1
  have hlen : l.length = l'.length := by simpa using congrArg List.length h1.2.2.2
  rw [Tm.mk.injEq]
  refine ⟨h1.1, h1.2.1, h1.2.2.1, List.ext_getElem hlen fun i hi hi' => ih _ (List.getElem_mem hi) _ fun d => ?_⟩
  have h2 := h (d + 1)
  simp only [dcut, Tm.mk.injEq] at h2
  have h3 := congrArg (fun L => L[i]?) h2.2.2.2
  simpa [hi, hi'] using h3
theorem dcut_bnd (θ : Int → Tm) (d : Nat) {t : Tm} (hk : t.kind ≠ 1) : dcut (d + 1) (t.bnd θ) = .mk t.kind t.name t.n (t.args.map fun u => dcut d (u.bnd θ)) := by
  obtain ⟨k, s, n, l⟩ := t
  rw [bnd_kind θ (show k ≠ 1 from hk), bnds_map]
  simp only [dcut, List.map_map]
  rfl
end Tm

theorem UPt.arOf {l : List Bd} {V : List Int} {P : List Pt} {vm : Int → Option Nat} (hu : UPt l V P vm) {i : Nat} (hi : i < P.length) (hk : argsKnown P i) {k : Nat} (hkl : k < (pt P i).t.args.length) : ar P i k < P.length ∧ ∀ θ, Solves θ l → val θ P (ar P i k) = (pt P i).t.args[k].bnd θ := by
  rcases hu.args i hi with h | ⟨_, h⟩
  · unfold argsKnown at hk
    rw [h] at hk
    simp at hk
    omega
  · exact h k hkl
theorem UInv.done {l : List Bd} {a b : Tm} {ia ib : Nat} {V : List Int} {P : List Pt} {vm : Int → Option Nat} {ro d : Nat → Nat} (hu : UPt l V P vm) (h : UInv l a b ia ib P ro []) (hf : Fst P ro d) {θ : Int → Tm} (hθ : Solves θ l)
    (hb : ∀ i, i < P.length → (pt P i).t.kind = 1 → ro i ≠ i → val θ P i = val θ P (ro i)) : ∀ i, i < P.length → val θ P i = val θ P (ro i) := by
  have key : ∀ n i, i < P.length → Tm.dcut n (val θ P i) = Tm.dcut n (val θ P (ro i)) := by
    intro n
    induction n with
    | zero => intro i _; simp [Tm.dcut]
    | succ n ih =>
      intro i hi
      by_cases hk : (pt P i).t.kind = 1
      · by_cases hr : ro i = i
        · rw [hr]
        · rw [hb i hi hk hr]
      · by_cases hr : i = ro i
        · rw [← hr]
        · have hclo : Clo P ro [] (fun p q => Tm.dcut n (val θ P p) = Tm.dcut n (val θ P q)) := ⟨⟨fun _ => rfl, fun h => h.symm, fun h g => h.trans g⟩, ih, fun x hx => by cases hx⟩
          obtain ⟨hh, hkn⟩ := h.heads i hi hk
          obtain ⟨k1, k2⟩ := hkn hr
          have hkr : (pt P (ro i)).t.kind ≠ 1 := by rw [← hh.1]; exact hk
          have hc := h.cong _ hclo i hi hk hr
          unfold val
          rw [Tm.dcut_bnd θ n hk, Tm.dcut_bnd θ n hkr, Tm.mk.injEq]
          refine ⟨hh.1, hh.2.1, hh.2.2.1, List.ext_getElem (by simp [hh.2.2.2]) fun k hk1 hk2 => ?_⟩
          simp only [List.getElem_map]
          have hka : k < (pt P i).t.args.length := by simpa using hk1
          have hkb : k < (pt P (ro i)).t.args.length := by simpa using hk2
          have := hc k hka
          simp only [(hu.arOf hi k1 hka).2 θ hθ, (hu.arOf (hf.rlt hi) k2 hkb).2 θ hθ] at this
          exact this
  exact fun i hi => Tm.dcut_eq _ _ fun n => key n i hi

/-! ### the binds -/
def bsTo (P : List Pt) (ro : Nat → Nat) : Nat → List Bd
  | 0 => []
  | k + 1 => bsTo P ro k ++ (if (pt P k).t.kind = 1 ∧ ro k ≠ k then [⟨(pt P k).t.n, (pt P (ro k)).t⟩] else [])
theorem bsTo_mem {P : List Pt} {ro : Nat → Nat} {b : Bd} : ∀ {n : Nat}, b ∈ bsTo P ro n ↔ ∃ i, i < n ∧ (pt P i).t.kind = 1 ∧ ro i ≠ i ∧ b = ⟨(pt P i).t.n, (pt P (ro i)).t⟩
  | 0 => by simp [bsTo]
  | n + 1 => by
    rw [bsTo, List.mem_append, bsTo_mem]
    constructor
    · rintro (⟨i, hi, h⟩ | h)
      · exact ⟨i, by omega, h⟩
      · split at h
        · rename_i hc
          rw [List.mem_singleton] at h
          exact ⟨n, by omega, hc.1, hc.2, h⟩
        · cases h
    · rintro ⟨i, hi, h1, h2, h3⟩
      by_cases e : i < n
      · exact .inl ⟨i, e, h1, h2, h3⟩
      · obtain rfl : i = n := by omega
        refine .inr ?_
        rw [if_pos ⟨h1, h2⟩, h3]
        simp
theorem bsTo_len (P : List Pt) (ro : Nat → Nat) : ∀ n, (bsTo P ro n).length ≤ n
  | 0 => by simp [bsTo]
  | n + 1 => by
    have := bsTo_len P ro n
    simp only [bsTo, List.length_append]
    split <;> simp <;> omega
theorem bsTo_alike {P P' : List Pt} (h : AlikeP P P') (ro : Nat → Nat) : ∀ n, bsTo P' ro n = bsTo P ro n
  | 0 => rfl
  | n + 1 => by simp only [bsTo, bsTo_alike h ro n, h.t]
theorem okL_snoc {l : List Bd} (h : okL l) {v : Int} {t : Tm} (h0 : 0 ≤ v) (h1 : v < 1000000) (hp : place l v = none) (ht : t.right = true) : okL (l ++ [⟨v, t⟩]) := fun i hi => by
  by_cases hlt : i < l.length
  · rw [List.getElem_append_left hlt, place_snoc, (h i hlt).2.2.1]
    exact ⟨(h i hlt).1, (h i hlt).2.1, rfl, (h i hlt).2.2.2⟩
  · have hlen : i = l.length := by simp at hi; omega
    subst hlen
    rw [List.getElem_append_right (Nat.le_refl _)]
    simp only [Nat.sub_self, List.getElem_cons_zero]
    refine ⟨h0, h1, ?_, ht⟩
    rw [place_snoc, hp]
    simp
theorem UPt.okBs {l : List Bd} {V : List Int} {P : List Pt} {vm : Int → Option Nat} {ro d : Nat → Nat} (hu : UPt l V P vm) (hf : Fst P ro d) (hl : okL l) : ∀ n, n ≤ P.length → okL (l ++ bsTo P ro n)
  | 0, _ => by simpa [bsTo] using hl
  | n + 1, hn => by
    have ih := hu.okBs hf hl n (by omega)
    rw [bsTo]
    split
    · rename_i hc
      rw [← List.append_assoc]
      obtain ⟨hv, h0, h1⟩ := Tm.var_of (right_fair (hu.right n (by omega))) hc.1
      obtain ⟨hp, hvm⟩ := hu.free n (by omega) hc.1
      refine okL_snoc ih h0 h1 (place_none.2 fun b hb e => ?_) (hu.right _ (hf.rlt (by omega)))
      rcases List.mem_append.1 hb with hb | hb
      · exact place_none.1 hp b hb e
      · obtain ⟨i, hi, hk, _, rfl⟩ := bsTo_mem.1 hb
        have := (hu.free i (by omega) hk).2
        simp only at e
        rw [e, hvm] at this
        cases this
        omega
    · simpa using ih
theorem solves_app {θ : Int → Tm} {l m : List Bd} : Solves θ (l ++ m) ↔ Solves θ l ∧ Solves θ m :=
  ⟨fun h => ⟨fun b hb => h b (List.mem_append_left _ hb), fun b hb => h b (List.mem_append_right _ hb)⟩, fun h b hb => by
    rcases List.mem_append.1 hb with hb | hb
    · exact h.1 b hb
    · exact h.2 b hb⟩
/-- Just what solves the store's binds and these makes the terms alike. -/
theorem UInv.solves {l : List Bd} {a b : Tm} {ia ib : Nat} {V : List Int} {P : List Pt} {vm : Int → Option Nat} {ro d : Nat → Nat} (hu : UPt l V P vm) (h : UInv l a b ia ib P ro []) (hf : Fst P ro d)
    (ha : ∀ θ, Solves θ l → val θ P ia = a.bnd θ) (hb : ∀ θ, Solves θ l → val θ P ib = b.bnd θ) (θ : Int → Tm) : Solves θ (l ++ bsTo P ro P.length) ↔ Solves θ l ∧ a.bnd θ = b.bnd θ := by
  have hvv : ∀ i, (pt P i).t.kind = 1 → val θ P i = θ (pt P i).t.n := fun i hk => bnd_var_n θ hk
  rw [solves_app]
  refine and_congr_right fun hθ => ⟨fun hs => ?_, fun he b' hb' => ?_⟩
  · have hd := h.done hu hf hθ fun i hi hk hr => by
      rw [hvv i hk]
      exact hs _ (bsTo_mem.2 ⟨i, hi, hk, hr, rfl⟩)
    have := h.goal (fun p q => val θ P p = val θ P q) ⟨⟨fun _ => rfl, fun h => h.symm, fun h g => h.trans g⟩, hd, fun x hx => by cases hx⟩
    simp only [ha θ hθ, hb θ hθ] at this
    exact this
  · obtain ⟨i, hi, hk, _, rfl⟩ := bsTo_mem.1 hb'
    have := (h.compl θ hθ he).1 i hi
    rw [hvv i hk] at this
    exact this
theorem place_app (l m : List Bd) (v : Int) : place (l ++ m) v = (match place l v with | some p => some p | none => (place m v).map (· + l.length)) := by
  unfold place
  rw [List.findIdx?_append]
  cases List.findIdx? (fun b => b.v == v) l with
  | some p => simp
  | none => simp
theorem tAt_app {l m : List Bd} {i : Nat} (h : i < l.length) : tAt (l ++ m) i = tAt l i := by
  rw [tAt_get (by simp; omega), tAt_get h, List.getElem_append_left]
/-- If anything solves them, no variable leads to itself. -/
theorem right_of_solves {l m : List Bd} (hl : RightL l) (ho : okL (l ++ m)) (hm : ∀ b ∈ m, b.t.kind = 1 → place (l ++ m) b.t.n = none) {θ : Int → Tm} (hθ : Solves θ (l ++ m)) : RightL (l ++ m) := by
  obtain ⟨_, r, hr⟩ := hl
  obtain ⟨M, hM⟩ := bound_of r l.length
  refine ⟨ho, fun i => (θ ((l ++ m).getD i ⟨0, vTm 0⟩).v).size * (M + 2) + (if i < l.length then r i + 1 else 0), fun i hi q hq => ?_⟩
  obtain ⟨v, hv, hp⟩ := deps_mem.1 hq
  obtain ⟨hql, hqv, _⟩ := place_some hp
  have hti := tAt_get hi
  rw [hti] at hv
  have hsi := hθ _ (List.getElem_mem hi)
  have hfi := right_fair (ho i hi).2.2.2
  have e1 : ((l ++ m).getD i ⟨0, vTm 0⟩).v = (l ++ m)[i].v := by simp [List.getD, List.getElem?_eq_getElem hi]
  have e2 : ((l ++ m).getD q ⟨0, vTm 0⟩).v = v := by rw [← hqv]; simp [List.getD, List.getElem?_eq_getElem hql]
  simp only [e1, e2]
  have hrq : (if q < l.length then r q + 1 else 0) ≤ M := by
    split
    · rename_i h; exact hM q h
    · omega
  by_cases hk : (l ++ m)[i].t.kind = 1
  · have hvn : v = (l ++ m)[i].t.n := by
      have := (Tm.var_of hfi hk).1
      rw [this, Tm.vs_vTm, List.mem_singleton] at hv
      exact hv
    have hse : θ (l ++ m)[i].v = θ v := by rw [hsi, bnd_var_n θ hk, hvn]
    rw [hse]
    by_cases hil : i < l.length
    · rw [if_pos hil]
      by_cases hq' : q < l.length
      · rw [if_pos hq']
        have hpl : place l v = some q := by
          rw [place_app] at hp
          cases h : place l v with
          | some p => rw [h] at hp; exact hp
          | none =>
            rw [h] at hp
            simp only [Option.map_eq_some_iff] at hp
            obtain ⟨a, _, rfl⟩ := hp
            omega
        have := hr i hil q (deps_mem.2 ⟨v, by rw [← tAt_app (m := m) hil, hti]; exact hv, hpl⟩)
        omega
      · rw [if_neg hq']
        omega
    · exfalso
      have hmem : (l ++ m)[i] ∈ m := by rw [List.getElem_append_right (by omega)]; exact List.getElem_mem _
      have := hm _ hmem hk
      rw [← hvn, hp] at this
      cases this
  · have hlt := Tm.size_bnd_gt θ hfi hk hv
    rw [← hsi] at hlt
    have := Nat.mul_le_mul_right (M + 2) hlt
    rw [Nat.succ_mul] at this
    omega
theorem UPt.rootFree {l : List Bd} {V : List Int} {P : List Pt} {vm : Int → Option Nat} {ro d : Nat → Nat} (hu : UPt l V P vm) (hf : Fst P ro d) : ∀ b ∈ bsTo P ro P.length, b.t.kind = 1 → place (l ++ bsTo P ro P.length) b.t.n = none := fun b hb hk => by
  obtain ⟨i, hi, _, _, rfl⟩ := bsTo_mem.1 hb
  simp only at hk ⊢
  obtain ⟨hp, hvm⟩ := hu.free _ (hf.rlt hi) hk
  refine place_none.2 fun c hc e => ?_
  rcases List.mem_append.1 hc with hc | hc
  · exact place_none.1 hp c hc e
  · obtain ⟨j, hj, hkj, hrj, rfl⟩ := bsTo_mem.1 hc
    have := (hu.free j hj hkj).2
    simp only at e
    rw [e, hvm] at this
    cases this
    exact hrj (hf.rr hi)
/-- What join tells, if the binds are right with the store's: a most general one. -/
theorem UInv.mgu {l : List Bd} {a b : Tm} {ia ib : Nat} {V : List Int} {P : List Pt} {vm : Int → Option Nat} {ro d : Nat → Nat} (hu : UPt l V P vm) (h : UInv l a b ia ib P ro []) (hf : Fst P ro d)
    (ha : ∀ θ, Solves θ l → val θ P ia = a.bnd θ) (hb : ∀ θ, Solves θ l → val θ P ib = b.bnd θ) (hr : RightL (l ++ bsTo P ro P.length)) : MguOf l a b (l ++ bsTo P ro P.length) := ⟨hr, h.solves hu hf ha hb⟩
/-- .. and else there is none. -/
theorem UInv.none {l : List Bd} {a b : Tm} {ia ib : Nat} {V : List Int} {P : List Pt} {vm : Int → Option Nat} {ro d : Nat → Nat} (hl : RightL l) (hu : UPt l V P vm) (h : UInv l a b ia ib P ro []) (hf : Fst P ro d)
    (ha : ∀ θ, Solves θ l → val θ P ia = a.bnd θ) (hb : ∀ θ, Solves θ l → val θ P ib = b.bnd θ) (hr : ¬ RightL (l ++ bsTo P ro P.length)) : NoMgu l a b := fun θ hθ e =>
  hr (right_of_solves hl (hu.okBs hf hl.1 _ (Nat.le_refl _)) (hu.rootFree hf) ((h.solves hu hf ha hb θ).2 ⟨hθ, e⟩))
theorem UPt.bsV {l : List Bd} {V : List Int} {P : List Pt} {vm : Int → Option Nat} {ro d : Nat → Nat} (hu : UPt l V P vm) (hf : Fst P ro d) : ∀ b ∈ bsTo P ro P.length, b.v ∈ V ∧ ∀ v ∈ b.t.vs, v ∈ V := fun b hb => by
  obtain ⟨i, hi, hk, _, rfl⟩ := bsTo_mem.1 hb
  exact ⟨hu.inV i hi _ (var_mem hk), hu.inV _ (hf.rlt hi)⟩

/-! ### what is behind some variables -/
structure Behind (L L' : List Bd) (vs : List Int) : Prop where
  ok : okL L'
  sub : ∀ b ∈ L', b ∈ L
  start : ∀ v ∈ vs, ∀ c ∈ L, c.v = v → c ∈ L'
  closed : ∀ b ∈ L', ∀ v ∈ b.t.vs, ∀ c ∈ L, c.v = v → c ∈ L'
theorem ok_place {l : List Bd} (h : okL l) {b : Bd} (hb : b ∈ l) : ∃ p, ∃ hp : p < l.length, place l b.v = some p ∧ l[p] = b := by
  obtain ⟨i, hi, rfl⟩ := List.getElem_of_mem hb
  exact ⟨i, hi, (h i hi).2.2.1, rfl⟩
theorem Behind.right {L L' : List Bd} {vs : List Int} (h : Behind L L' vs) (hL : RightL L) : RightL L' := by
  obtain ⟨ho, r, hr⟩ := hL
  refine ⟨h.ok, fun i => (place L (L'.getD i ⟨0, vTm 0⟩).v).elim 0 r, fun i hi q hq => ?_⟩
  obtain ⟨v, hv, hp⟩ := deps_mem.1 hq
  obtain ⟨hql, hqv, _⟩ := place_some hp
  rw [tAt_get hi] at hv
  obtain ⟨p1, hp1, e1, g1⟩ := ok_place ho (h.sub _ (List.getElem_mem hi))
  obtain ⟨p2, hp2, e2, g2⟩ := ok_place ho (h.sub _ (List.getElem_mem hql))
  have f1 : L'.getD i ⟨0, vTm 0⟩ = L'[i] := by simp [List.getD, hi]
  have f2 : L'.getD q ⟨0, vTm 0⟩ = L'[q] := by simp [List.getD, hql]
  simp only [f1, f2, e1, e2, Option.elim]
  refine hr p1 hp1 p2 (deps_mem.2 ⟨v, by rw [tAt_get hp1, g1]; exact hv, by rw [← hqv]; exact e2⟩)
/-- If what is behind all new binds is right, all is. -/
theorem Behind.all {l m L' : List Bd} (hl : RightL l) (ho : okL (l ++ m)) (h : Behind (l ++ m) L' (m.map Bd.v)) (hL' : RightL L') : RightL (l ++ m) := by
  obtain ⟨hol, r, hr⟩ := hl
  obtain ⟨ho', r', hr'⟩ := hL'
  obtain ⟨M, hM⟩ := bound_of r' L'.length
  refine ⟨ho, fun i => match place L' ((l ++ m).getD i ⟨0, vTm 0⟩).v with | some j => r' j | none => M + r i, fun i hi q hq => ?_⟩
  obtain ⟨v, hv, hp⟩ := deps_mem.1 hq
  obtain ⟨hql, hqv, _⟩ := place_some hp
  rw [tAt_get hi] at hv
  have f1 : (l ++ m).getD i ⟨0, vTm 0⟩ = (l ++ m)[i] := by simp [List.getD, List.getElem?_eq_getElem hi]
  have f2 : (l ++ m).getD q ⟨0, vTm 0⟩ = (l ++ m)[q] := by simp [List.getD, List.getElem?_eq_getElem hql]
  simp only [f1, f2]
  have inL : ∀ k (hk : k < (l ++ m).length), (∀ j, place L' (l ++ m)[k].v = some j → ∃ hj : j < L'.length, L'[j] = (l ++ m)[k]) := fun k hk j hj => by
    obtain ⟨hjl, hjv, _⟩ := place_some hj
    refine ⟨hjl, ?_⟩
    obtain ⟨p, hp, e, g⟩ := ok_place ho (h.sub _ (List.getElem_mem hjl))
    rw [hjv, (ho k hk).2.2.1] at e
    cases e
    exact g.symm
  cases hi' : place L' (l ++ m)[i].v with
  | some j =>
    obtain ⟨hj, ej⟩ := inL i hi j hi'
    have hmem := h.closed _ (List.getElem_mem hj) v (by rw [ej]; exact hv) _ (List.getElem_mem hql) hqv
    obtain ⟨j2, hj2, e2, g2⟩ := ok_place ho' hmem
    rw [e2]
    simp only
    exact hr' j hj j2 (deps_mem.2 ⟨v, by rw [tAt_get hj, ej]; exact hv, by rw [← hqv]; exact e2⟩)
  | none =>
    have hil : i < l.length := by
      refine Classical.byContradiction fun hn => ?_
      have hmem : (l ++ m)[i] ∈ m := by rw [List.getElem_append_right (by omega)]; exact List.getElem_mem _
      have := h.start _ (List.mem_map.2 ⟨_, hmem, rfl⟩) _ (List.getElem_mem hi) rfl
      obtain ⟨j2, _, e2, _⟩ := ok_place ho' this
      rw [hi'] at e2
      cases e2
    cases hq' : place L' (l ++ m)[q].v with
    | some j2 =>
      simp only
      have := hM j2 (place_some hq').1
      omega
    | none =>
      simp only
      have hq2 : q < l.length := by
        refine Classical.byContradiction fun hn => ?_
        have hmem : (l ++ m)[q] ∈ m := by rw [List.getElem_append_right (by omega)]; exact List.getElem_mem _
        have := h.start _ (List.mem_map.2 ⟨_, hmem, rfl⟩) _ (List.getElem_mem hql) rfl
        obtain ⟨j2, _, e2, _⟩ := ok_place ho' this
        rw [hq'] at e2
        cases e2
      have hpl : place l v = some q := by
        rw [place_app] at hp
        cases h : place l v with
        | some p => rw [h] at hp; exact hp
        | none =>
          rw [h] at hp
          simp only [Option.map_eq_some_iff] at hp
          obtain ⟨a, _, rfl⟩ := hp
          omega
      have := hr i hil q (deps_mem.2 ⟨v, by rw [tAt_get hil, ← List.getElem_append_left (bs := m) hil]; exact hv, hpl⟩)
      omega
/-- What is behind a term's variables makes of it what all does. -/
theorem Behind.bnd {L L' : List Bd} {vs : List Int} (h : Behind L L' vs) (hL : RightL L) {σ σ' : Int → Tm} (hσ : Sol L σ) (hσ' : Sol L' σ') (t : Tm) (ht : ∀ v ∈ t.vs, v ∈ vs) : t.bnd σ' = t.bnd σ := by
  obtain ⟨ho, r, hr⟩ := hL
  have free : ∀ v, place L v = none → σ' v = σ v := fun v hp => by
    rw [hσ.free v hp, hσ'.free v (place_none.2 fun b hb => place_none.1 hp b (h.sub b hb))]
  have key : ∀ (n : Nat) (v : Int), (∀ c ∈ L, c.v = v → c ∈ L') → (∀ p, place L v = some p → r p < n) → σ' v = σ v := by
    intro n
    induction n with
    | zero =>
      intro v _ hn
      cases hp : place L v with
      | none => exact free v hp
      | some p => exact absurd (hn p hp) (Nat.not_lt_zero _)
    | succ n ih =>
      intro v hin hn
      cases hp : place L v with
      | none => exact free v hp
      | some p =>
        obtain ⟨hpl, hpv, _⟩ := place_some hp
        have hmem := hin _ (List.getElem_mem hpl) hpv
        obtain ⟨q, hq, eq, gq⟩ := ok_place h.ok hmem
        rw [hpv] at eq
        rw [hσ.bound v p hp, hσ'.bound v q eq, tAt_get hq, gq, tAt_get hpl]
        refine Tm.bnd_congr _ _ _ fun u hu => ih u (fun c hc e => h.closed _ hmem u hu c hc e) fun p2 hp2 => ?_
        have h1 := hr p hpl p2 (deps_mem.2 ⟨u, by rw [tAt_get hpl]; exact hu, hp2⟩)
        have h2 := hn p hp
        omega
  obtain ⟨M, hM⟩ := bound_of r L.length
  exact Tm.bnd_congr _ _ _ fun v hv => key M v (h.start v (ht v hv)) fun p hp => hM p (place_some hp).1
end Go.Proofs.Ytgnbjhiafjpokaa

namespace Go.Proofs.Ytgnbjhiafjpokaa
open Go.RowKit

def pw (p : Pt) : Nat := if p.args = [] then p.t.size - 1 else 0
def uP (P : List Pt) : Nat := (P.map pw).sum
def uL (l : List Bd) (vm : Int → Option Nat) : Nat := (l.map fun b => if vm b.v = none then b.t.size else 0).sum
/-- The parts, and those that may still come. -/
def pot (l : List Bd) (P : List Pt) (vm : Int → Option Nat) : Nat := P.length + uP P + uL l vm
theorem pot_len (l : List Bd) (P : List Pt) (vm : Int → Option Nat) : P.length ≤ pot l P vm := by unfold pot; omega
theorem uP_snoc (P : List Pt) (x : Pt) : uP (P ++ [x]) = uP P + pw x := by simp [uP]
theorem uP_set : ∀ (P : List Pt) (i : Nat) (h : i < P.length) (x : Pt), uP (P.set i x) + pw P[i] = uP P + pw x
  | [], i, h, _ => absurd h (Nat.not_lt_zero _)
  | y :: r, 0, _, x => by simp [uP]; omega
  | y :: r, i + 1, h, x => by
    have := uP_set r i (by simpa using h) x
    simp only [uP, List.set_cons_succ, List.map_cons, List.sum_cons, List.getElem_cons_succ] at this ⊢
    omega
theorem uL_upd_le (vm : Int → Option Nat) (v : Int) (i : Nat) : ∀ l : List Bd, uL l (upd vm v i) ≤ uL l vm
  | [] => Nat.le_refl _
  | b :: r => by
    have := uL_upd_le vm v i r
    simp only [uL, List.map_cons, List.sum_cons, upd] at this ⊢
    by_cases e : b.v = v
    · simp only [e, if_true]
      simp
      omega
    · simp only [if_neg e]
      omega
theorem uL_upd_mem {vm : Int → Option Nat} {v : Int} (i : Nat) (hn : vm v = none) : ∀ {l : List Bd} {b : Bd}, b ∈ l → b.v = v → uL l (upd vm v i) + b.t.size ≤ uL l vm
  | [], _, hb, _ => by cases hb
  | c :: r, b, hb, e => by
    have h1 := uL_upd_le vm v i r
    rcases List.mem_cons.1 hb with rfl | hb
    · simp only [uL, List.map_cons, List.sum_cons, upd, e, if_true, hn] at h1 ⊢
      simp
      omega
    · have h2 := uL_upd_mem i hn hb e
      simp only [uL, List.map_cons, List.sum_cons, upd] at h2 ⊢
      by_cases ec : c.v = v
      · simp only [ec, if_true]
        simp
        omega
      · simp only [if_neg ec]
        omega
theorem pot_same (l : List Bd) (P : List Pt) (vm : Int → Option Nat) {i : Nat} (hi : i < P.length) (s : Nat) : pot l (P.set i { pt P i with same := s }) vm = pot l P vm := by
  have := uP_set P i hi { pt P i with same := s }
  have e : pw { pt P i with same := s } = pw P[i] := by rw [pt_get hi]; rfl
  unfold pot
  rw [List.length_set]
  omega
theorem AlikeP.pot {P P' : List Pt} (h : AlikeP P P') (l : List Bd) (vm : Int → Option Nat) : pot l P' vm = pot l P vm := by
  have e : P'.map pw = P.map pw := List.ext_getElem (by simp [h.len]) fun i hi hi' => by
    simp only [List.getElem_map]
    have h1 : i < P'.length := by simpa using hi
    have h2 : i < P.length := by simpa using hi'
    have ht := h.t i
    have ha := h.args i
    rw [pt_get h1, pt_get h2] at ht ha
    simp [pw, ht, ha]
  unfold Proofs.Ytgnbjhiafjpokaa.pot uP
  rw [e, h.len]
theorem size_args (t : Tm) : t.size = Tm.sizes t.args + 1 := by cases t; rfl
theorem pot_setArgs (l : List Bd) (P : List Pt) (vm : Int → Option Nat) {i : Nat} (hi : i < P.length) (h0 : (pt P i).args = []) {ks : List Nat} (hlen : ks.length = (pt P i).t.args.length) : pot l (P.set i { pt P i with args := ks }) vm + Tm.sizes (pt P i).t.args = pot l P vm := by
  have h1 := uP_set P i hi { pt P i with args := ks }
  have h2 := size_args (pt P i).t
  have e0 : pw P[i] = (pt P i).t.size - 1 := by
    rw [pt_get hi] at h0 ⊢
    simp [pw, h0]
  have e1 : pw { pt P i with args := ks } + Tm.sizes (pt P i).t.args = pw P[i] := by
    rw [e0]
    by_cases hk : ks = []
    · have hl : (pt P i).t.args = [] := List.eq_nil_of_length_eq_zero (by rw [← hlen, hk]; rfl)
      simp [pw, hk, hl, Tm.sizes]
    · simp [pw, hk]
      omega
  unfold pot
  rw [List.length_set]
  omega

/-- Parts put behind the others, each its own. -/
inductive Ext (P : List Pt) : List Pt → Prop where
  | refl : Ext P P
  | snoc {P' : List Pt} (h : Ext P P') (t : Tm) : Ext P (P' ++ [⟨t, [], P'.length⟩])
theorem Ext.trans {P P' P'' : List Pt} (h : Ext P P') (g : Ext P' P'') : Ext P P'' := by
  induction g with
  | refl => exact h
  | snoc _ t ih => exact .snoc ih t
theorem Ext.len {P P' : List Pt} (h : Ext P P') : P.length ≤ P'.length := by
  induction h with
  | refl => exact Nat.le_refl _
  | snoc _ t ih => rw [List.length_append]; omega
theorem Ext.pt {P P' : List Pt} (h : Ext P P') {i : Nat} (hi : i < P.length) : pt P' i = pt P i := by
  induction h with
  | refl => rfl
  | snoc h t ih => rw [pt_old (by have := h.len; omega), ih]
theorem Ext.val {P P' : List Pt} (h : Ext P P') (θ : Int → Tm) {i : Nat} (hi : i < P.length) : val θ P' i = val θ P i := by simp [Proofs.Ytgnbjhiafjpokaa.val, h.pt hi]
theorem Ext.fst {P P' : List Pt} {ro d : Nat → Nat} (h : Ext P P') (hf : Fst P ro d) : Fst P' ro d := by
  induction h with
  | refl => exact hf
  | snoc _ t ih => exact ih.add t []
theorem Ext.roOk {P P' : List Pt} {ro : Nat → Nat} (h : Ext P P') (hf : RoOk P ro) : RoOk P' ro := by
  induction h with
  | refl => exact hf
  | snoc _ t ih => exact ih.add _
theorem Ext.inv {l : List Bd} {a b : Tm} {ia ib : Nat} {P P' : List Pt} {ro : Nat → Nat} {pend : List (Nat × Nat)} (h : Ext P P') (hf : RoOk P ro) (hi : UInv l a b ia ib P ro pend) : UInv l a b ia ib P' ro pend := by
  induction h with
  | refl => exact hi
  | snoc h t ih => exact ih.add (h.roOk hf) t _

/-- A term's part has been found, or made. -/
structure PStep (l : List Bd) (V : List Int) (P P' : List Pt) (vm vm' : Int → Option Nat) (t : Tm) (i : Nat) : Prop where
  upt : UPt l V P' vm'
  lt : i < P'.length
  val : ∀ θ, Solves θ l → val θ P' i = t.bnd θ
  ext : Ext P P'
  pot : pot l P' vm' ≤ pot l P vm + t.size
theorem PStep.plain {l : List Bd} {V : List Int} {P : List Pt} {vm : Int → Option Nat} {t : Tm} (h : UPt l V P vm) (ht : t.right = true) (hV : ∀ v ∈ t.vs, v ∈ V) (hk : t.kind ≠ 1) : PStep l V P (P ++ [⟨t, [], P.length⟩]) vm vm t P.length := by
  refine ⟨h.add ht hV (.inl ⟨rfl, hk⟩), by simp, fun θ _ => by simp [Proofs.Ytgnbjhiafjpokaa.val, pt_new], .snoc .refl t, ?_⟩
  have := t.size_pos
  unfold Proofs.Ytgnbjhiafjpokaa.pot
  rw [uP_snoc, List.length_append]
  simp [pw]
  omega
theorem PStep.old {l : List Bd} {V : List Int} {P : List Pt} {vm : Int → Option Nat} {n v : Int} {i : Nat} (h : UPt l V P vm) (hs : ∀ θ, Solves θ l → θ n = θ v) (hv : vm v = some i) : PStep l V P P vm vm (vTm n) i :=
  ⟨h, (h.vars v i hv).1, fun θ hθ => by rw [Tm.bnd_var, hs θ hθ, (h.vars v i hv).2 θ hθ], .refl, by omega⟩
theorem PStep.new {l : List Bd} {V : List Int} {P : List Pt} {vm : Int → Option Nat} {n v : Int} {u : Tm} (h : UPt l V P vm) (hl : okL l) (hs : ∀ θ, Solves θ l → θ n = θ v) (hv : vm v = none) (hr : 0 ≤ v ∧ v < 1000000) (hvV : v ∈ V) (hlV : ∀ b ∈ l, ∀ w ∈ b.t.vs, w ∈ V)
    (hu : (place l v = none ∧ u = vTm v) ∨ ∃ p, ∃ hp : p < l.length, place l v = some p ∧ u = l[p].t ∧ u.kind ≠ 1) : PStep l V P (P ++ [⟨u, [], P.length⟩]) vm (upd vm v P.length) (vTm n) P.length := by
  have hru : u.right = true := by
    rcases hu with ⟨_, rfl⟩ | ⟨p, hp, _, rfl, _⟩
    · have hf := Tm.fair_vTm hr.1 hr.2
      simp only [Tm.right, hf, Bool.true_and, Bool.and_eq_true, decide_eq_true_eq]
      exact ⟨by simp [vTm, Tm.size, Tm.sizes], by simp [vTm, Tm.deep, Tm.deeps]⟩
    · exact (hl p hp).2.2.2
  have hse : ∀ θ, Solves θ l → θ v = u.bnd θ := fun θ hθ => by
    rcases hu with ⟨_, rfl⟩ | ⟨p, hp, hpl, rfl, _⟩
    · rw [Tm.bnd_var]
    · have := hθ _ (List.getElem_mem hp)
      rwa [(place_some hpl).2.1] at this
  refine ⟨h.add hru (fun w hw => ?_) (.inr ⟨v, hv, rfl, fun hk => ?_, hse⟩), by simp, fun θ hθ => ?_, .snoc .refl u, ?_⟩
  · rcases hu with ⟨_, rfl⟩ | ⟨p, hp, _, rfl, _⟩
    · rw [Tm.vs_vTm, List.mem_singleton] at hw
      rw [hw]; exact hvV
    · exact hlV _ (List.getElem_mem hp) w hw
  · rcases hu with ⟨hp, rfl⟩ | ⟨p, hp, _, _, hk'⟩
    · exact ⟨rfl, hp⟩
    · exact absurd hk hk'
  · rw [Tm.bnd_var, hs θ hθ, hse θ hθ]
    simp [Proofs.Ytgnbjhiafjpokaa.val, pt_new]
  · have h1 := u.size_pos
    have h3 : (vTm n).size = 1 := rfl
    unfold Proofs.Ytgnbjhiafjpokaa.pot
    rw [uP_snoc, List.length_append, h3]
    rcases hu with ⟨_, hue⟩ | ⟨p, hp, hpl, hue, _⟩
    · have := uL_upd_le vm v P.length l
      have hs1 : u.size = 1 := by rw [hue]; rfl
      simp only [pw, if_true, hs1, List.length_singleton]
      omega
    · have := uL_upd_mem P.length hv (List.getElem_mem hp) (place_some hpl).2.1
      rw [← hue] at this
      simp only [pw, if_true, List.length_singleton]
      omega
theorem pot_start (l : List Bd) : pot l [] (fun _ => none) = Tm.sizes (l.map Bd.t) := by
  have : ∀ l : List Bd, uL l (fun _ => none) = Tm.sizes (l.map Bd.t) := fun l => by
    induction l with
    | nil => rfl
    | cons b r ih =>
      simp only [uL, List.map_cons, List.sum_cons, if_true, Tm.sizes] at ih ⊢
      rw [ih]
  simp [pot, uP, this]
theorem UPt.nil (l : List Bd) (V : List Int) : UPt l V [] (fun _ => none) := ⟨fun _ h => absurd h (Nat.not_lt_zero _), fun _ h => absurd h (Nat.not_lt_zero _), fun _ h => absurd h (Nat.not_lt_zero _), (fun _ _ h => by cases h), fun _ h => absurd h (Nat.not_lt_zero _)⟩
end Go.Proofs.Ytgnbjhiafjpokaa
