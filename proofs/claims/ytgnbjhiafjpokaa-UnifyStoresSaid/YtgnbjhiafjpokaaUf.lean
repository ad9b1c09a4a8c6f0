/-
  Parts that become the same: the program's way of making two terms alike, purely; no program here.
-/
import Derived.Test.YtgnbjhiafjpokaaUni
namespace Go.Proofs.Ytgnbjhiafjpokaa
open Go.RowKit

/-- A part. -/
structure Pt where
  t : Tm
  args : List Nat
  same : Nat
def pt (P : List Pt) (i : Nat) : Pt := P.getD i ⟨vTm 0, [], 0⟩
theorem pt_get {P : List Pt} {i : Nat} (h : i < P.length) : pt P i = P[i] := by simp [pt, List.getD, h]
theorem pt_old {P : List Pt} {x : Pt} {i : Nat} (h : i < P.length) : pt (P ++ [x]) i = pt P i := by
  rw [pt_get h, pt_get (by simp; omega), List.getElem_append_left]
theorem pt_new {P : List Pt} {x : Pt} : pt (P ++ [x]) P.length = x := by
  rw [pt_get (by simp)]; simp
theorem pt_set {P : List Pt} {x : Pt} {i j : Nat} (h : i < P.length) : pt (P.set i x) j = if j = i then x else pt P j := by
  by_cases e : j = i
  · subst e
    rw [pt_get (by simpa using h)]; simp
  · have e' : ¬ i = j := fun h => e h.symm
    simp [pt, List.getD, e, e']
def val (θ : Int → Tm) (P : List Pt) (i : Nat) : Tm := (pt P i).t.bnd θ
def ar (P : List Pt) (i k : Nat) : Nat := (pt P i).args.getD k 0

/-! ### which part stands for all that are the same -/
structure Fst (P : List Pt) (ro d : Nat → Nat) : Prop where
  out : ∀ i, P.length ≤ i → ro i = i ∧ d i = 0
  lt : ∀ i, i < P.length → (pt P i).same < P.length
  same : ∀ i, i < P.length → ro (pt P i).same = ro i
  top : ∀ i, i < P.length → (pt P i).same = i → ro i = i ∧ d i = 0
  dec : ∀ i, i < P.length → (pt P i).same ≠ i → d (pt P i).same < d i
theorem Fst.root {P : List Pt} {ro d : Nat → Nat} (h : Fst P ro d) : ∀ (n i : Nat), d i ≤ n → i < P.length → ro i < P.length ∧ (pt P (ro i)).same = ro i := by
  intro n
  induction n with
  | zero =>
    intro i hd hi
    by_cases e : (pt P i).same = i
    · rw [(h.top i hi e).1]; exact ⟨hi, e⟩
    · have := h.dec i hi e; omega
  | succ n ih =>
    intro i hd hi
    by_cases e : (pt P i).same = i
    · rw [(h.top i hi e).1]; exact ⟨hi, e⟩
    · have h1 := h.dec i hi e
      have h2 := ih _ (by omega) (h.lt i hi)
      rwa [h.same i hi] at h2
theorem Fst.rlt {P : List Pt} {ro d : Nat → Nat} (h : Fst P ro d) {i : Nat} (hi : i < P.length) : ro i < P.length := (h.root _ i (Nat.le_refl _) hi).1
theorem Fst.rsame {P : List Pt} {ro d : Nat → Nat} (h : Fst P ro d) {i : Nat} (hi : i < P.length) : (pt P (ro i)).same = ro i := (h.root _ i (Nat.le_refl _) hi).2
theorem Fst.rr {P : List Pt} {ro d : Nat → Nat} (h : Fst P ro d) {i : Nat} (hi : i < P.length) : ro (ro i) = ro i := (h.top _ (h.rlt hi) (h.rsame hi)).1
theorem Fst.d0 {P : List Pt} {ro d : Nat → Nat} (h : Fst P ro d) {i : Nat} (hi : i < P.length) : d (ro i) = 0 := (h.top _ (h.rlt hi) (h.rsame hi)).2
theorem Fst.nil : Fst [] (fun i => i) (fun _ => 0) := ⟨fun _ _ => ⟨rfl, rfl⟩, fun _ hi => absurd hi (Nat.not_lt_zero _), fun _ hi => absurd hi (Nat.not_lt_zero _), fun _ hi => absurd hi (Nat.not_lt_zero _), fun _ hi => absurd hi (Nat.not_lt_zero _)⟩
theorem Fst.add {P : List Pt} {ro d : Nat → Nat} (h : Fst P ro d) (t : Tm) (ks : List Nat) : Fst (P ++ [⟨t, ks, P.length⟩]) ro d := by
  have ho := h.out P.length (Nat.le_refl _)
  refine ⟨fun i hi => h.out i (by simp at hi; omega), fun i hi => ?_, fun i hi => ?_, fun i hi e => ?_, fun i hi e => ?_⟩
  all_goals
    by_cases hlt : i < P.length
    · simp only [pt_old hlt] at *
      first
        | (have := h.lt i hlt; rw [List.length_append, List.length_singleton]; omega)
        | exact h.same i hlt
        | exact h.top i hlt e
        | exact h.dec i hlt e
    · obtain rfl : i = P.length := by simp at hi; omega
      simp only [pt_new] at * <;> first
        | exact ho
        | exact absurd rfl e
        | simp
theorem Fst.halve {P : List Pt} {ro d : Nat → Nat} (h : Fst P ro d) {i : Nat} (hi : i < P.length) (hne : (pt P i).same ≠ i) : Fst (P.set i { pt P i with same := (pt P (pt P i).same).same }) ro d := by
  have h1 := h.lt i hi
  have h2 := h.lt _ h1
  have hd : d (pt P (pt P i).same).same ≤ d (pt P i).same := by
    by_cases e : (pt P (pt P i).same).same = (pt P i).same
    · rw [e]; exact Nat.le_refl _
    · exact Nat.le_of_lt (h.dec _ h1 e)
  have hd2 := h.dec i hi hne
  refine ⟨fun j hj => h.out j (by simpa using hj), fun j hj => ?_, fun j hj => ?_, fun j hj e => ?_, fun j hj e => ?_⟩
  all_goals
    rw [List.length_set] at hj
    by_cases hji : j = i
    · subst hji
      simp only [pt_set hi, if_true] at *
      first
        | (rw [List.length_set]; exact h2)
        | (rw [h.same _ h1, h.same _ hi]; done)
        | (rw [e] at hd; omega)
        | omega
    · simp only [pt_set hi, if_neg hji] at *
      first
        | (rw [List.length_set]; exact h.lt j hj)
        | exact h.same j hj
        | exact h.top j hj e
        | exact h.dec j hj e
theorem Fst.args {P : List Pt} {ro d : Nat → Nat} (h : Fst P ro d) {i : Nat} (hi : i < P.length) (ks : List Nat) : Fst (P.set i { pt P i with args := ks }) ro d := by
  have hs : ∀ j, (pt (P.set i { pt P i with args := ks }) j).same = (pt P j).same := fun j => by
    rw [pt_set hi]; split
    · rename_i e; rw [e]
    · rfl
  refine ⟨fun j hj => h.out j (by simpa using hj), fun j hj => ?_, fun j hj => ?_, fun j hj e => ?_, fun j hj e => ?_⟩
  all_goals
    rw [List.length_set] at hj
    rw [hs] at *
  · rw [List.length_set]; exact h.lt j hj
  · exact h.same j hj
  · exact h.top j hj e
  · exact h.dec j hj e
def roL (ro : Nat → Nat) (x y j : Nat) : Nat := if ro j = y then x else ro j
def dL (ro d : Nat → Nat) (y j : Nat) : Nat := if ro j = y then d j + 1 else d j
theorem Fst.link {P : List Pt} {ro d : Nat → Nat} (h : Fst P ro d) {x y : Nat} (hx : x < P.length) (hy : y < P.length) (rx : ro x = x) (ry : ro y = y) (hne : x ≠ y) : Fst (P.set y { pt P y with same := x }) (roL ro x y) (dL ro d y) := by
  have d0 : d x = 0 := by have := h.d0 hx; rwa [rx] at this
  refine ⟨fun j hj => ?_, fun j hj => ?_, fun j hj => ?_, fun j hj e => ?_, fun j hj e => ?_⟩
  · rw [List.length_set] at hj
    have := h.out j hj
    have hjy : ¬ ro j = y := by rw [this.1]; omega
    simp only [roL, dL, if_neg hjy]
    exact this
  · rw [List.length_set] at hj ⊢
    rw [pt_set hy]
    split
    · exact hx
    · exact h.lt j hj
  · rw [List.length_set] at hj
    rw [pt_set hy]
    split
    · rename_i e
      subst e
      simp [roL, rx, ry, hne]
    · simp only [roL, h.same j hj]
  · rw [List.length_set] at hj
    rw [pt_set hy] at e
    split at e
    · rename_i e2
      subst e2
      exact absurd e hne
    · rename_i e2
      have := h.top j hj e
      have hjy : ¬ ro j = y := by rw [this.1]; exact e2
      simp only [roL, dL, if_neg hjy]
      exact this
  · rw [List.length_set] at hj
    rw [pt_set hy] at e ⊢
    by_cases e2 : j = y
    · subst e2
      have hxj : ¬ ro x = j := by rw [rx]; exact hne
      simp only [if_true, dL, if_neg hxj, ry, d0]
      omega
    · simp only [if_neg e2] at e ⊢
      have := h.dec j hj e
      simp only [dL, h.same j hj]
      split <;> omega

/-- What is wanted of the roots when the parts' own notes have gone ahead. -/
structure RoOk (P : List Pt) (ro : Nat → Nat) : Prop where
  out : ∀ i, P.length ≤ i → ro i = i
  rlt : ∀ {i}, i < P.length → ro i < P.length
  rr : ∀ {i}, i < P.length → ro (ro i) = ro i
theorem Fst.roOk {P : List Pt} {ro d : Nat → Nat} (h : Fst P ro d) : RoOk P ro := ⟨fun i hi => (h.out i hi).1, fun hi => h.rlt hi, fun hi => h.rr hi⟩
theorem RoOk.of_len {P P' : List Pt} {ro : Nat → Nat} (h : RoOk P ro) (e : P'.length = P.length) : RoOk P' ro := ⟨fun i hi => h.out i (by omega), fun hi => by rw [e] at hi ⊢; exact h.rlt hi, fun hi => h.rr (by omega)⟩
theorem RoOk.add {P : List Pt} {ro : Nat → Nat} (h : RoOk P ro) (x : Pt) : RoOk (P ++ [x]) ro := by
  have ho := h.out P.length (Nat.le_refl _)
  refine ⟨fun i hi => h.out i (by simp at hi; omega), fun {i} hi => ?_, fun {i} hi => ?_⟩
  · by_cases hlt : i < P.length
    · have := h.rlt hlt; simp; omega
    · obtain rfl : i = P.length := by simp at hi; omega
      rw [ho]; exact hi
  · by_cases hlt : i < P.length
    · exact h.rr hlt
    · obtain rfl : i = P.length := by simp at hi; omega
      rw [ho, ho]

/-! ### what the parts say -/
structure Eqv (R : Nat → Nat → Prop) : Prop where
  refl : ∀ i, R i i
  symm : ∀ {i j}, R i j → R j i
  trans : ∀ {i j k}, R i j → R j k → R i k
def heads (a b : Tm) : Prop := a.kind = b.kind ∧ a.name = b.name ∧ a.n = b.n ∧ a.args.length = b.args.length
theorem heads.refl (a : Tm) : heads a a := ⟨rfl, rfl, rfl, rfl⟩
theorem heads.trans {a b c : Tm} (h : heads a b) (g : heads b c) : heads a c := ⟨h.1.trans g.1, h.2.1.trans g.2.1, h.2.2.1.trans g.2.2.1, h.2.2.2.trans g.2.2.2⟩
theorem heads.symm {a b : Tm} (h : heads a b) : heads b a := ⟨h.1.symm, h.2.1.symm, h.2.2.1.symm, h.2.2.2.symm⟩
/-- The parts themselves. -/
structure UPt (l : List Bd) (V : List Int) (P : List Pt) (vm : Int → Option Nat) : Prop where
  right : ∀ i, i < P.length → (pt P i).t.right = true
  free : ∀ i, i < P.length → (pt P i).t.kind = 1 → place l (pt P i).t.n = none ∧ vm (pt P i).t.n = some i
  inV : ∀ i, i < P.length → ∀ v ∈ (pt P i).t.vs, v ∈ V
  vars : ∀ v i, vm v = some i → i < P.length ∧ ∀ θ, Solves θ l → θ v = val θ P i
  args : ∀ i, i < P.length → (pt P i).args = [] ∨ ((pt P i).args.length = (pt P i).t.args.length ∧ ∀ k (h : k < (pt P i).t.args.length), ar P i k < P.length ∧ ∀ θ, Solves θ l → val θ P (ar P i k) = (pt P i).t.args[k].bnd θ)
/-- A relation in which the same parts are alike, and those that have to be. -/
structure Clo (P : List Pt) (ro : Nat → Nat) (pend : List (Nat × Nat)) (R : Nat → Nat → Prop) : Prop where
  eqv : Eqv R
  root : ∀ i, i < P.length → R i (ro i)
  pend : ∀ x ∈ pend, R x.1 x.2
def argsKnown (P : List Pt) (i : Nat) : Prop := (pt P i).args.length = (pt P i).t.args.length
structure UInv (l : List Bd) (a b : Tm) (ia ib : Nat) (P : List Pt) (ro : Nat → Nat) (pend : List (Nat × Nat)) : Prop where
  kinds : ∀ i, i < P.length → (pt P (ro i)).t.kind = 1 → (pt P i).t.kind = 1
  heads : ∀ i, i < P.length → (pt P i).t.kind ≠ 1 → heads (pt P i).t (pt P (ro i)).t ∧ (i ≠ ro i → argsKnown P i ∧ argsKnown P (ro i))
  cong : ∀ R, Clo P ro pend R → ∀ i, i < P.length → (pt P i).t.kind ≠ 1 → i ≠ ro i → ∀ k, k < (pt P i).t.args.length → R (ar P i k) (ar P (ro i) k)
  compl : ∀ θ, Solves θ l → a.bnd θ = b.bnd θ → (∀ i, i < P.length → val θ P i = val θ P (ro i)) ∧ ∀ x ∈ pend, val θ P x.1 = val θ P x.2
  goal : ∀ R, Clo P ro pend R → R ia ib
  pendlt : ∀ x ∈ pend, x.1 < P.length ∧ x.2 < P.length

/-- The same terms and Args: only which ones are the same has been told otherwise, and fewer or more steps lie between. -/
structure AlikeP (P P' : List Pt) : Prop where
  len : P'.length = P.length
  t : ∀ i, (pt P' i).t = (pt P i).t
  args : ∀ i, (pt P' i).args = (pt P i).args
theorem AlikeP.refl (P : List Pt) : AlikeP P P := ⟨rfl, fun _ => rfl, fun _ => rfl⟩
theorem AlikeP.trans {P P' P'' : List Pt} (h : AlikeP P P') (g : AlikeP P' P'') : AlikeP P P'' := ⟨g.len.trans h.len, fun i => (g.t i).trans (h.t i), fun i => (g.args i).trans (h.args i)⟩
theorem AlikeP.same {P : List Pt} {i s : Nat} (hi : i < P.length) : AlikeP P (P.set i { pt P i with same := s }) :=
  ⟨by simp, fun j => by rw [pt_set hi]; split <;> rename_i e <;> simp [e], fun j => by rw [pt_set hi]; split <;> rename_i e <;> simp [e]⟩
theorem AlikeP.val {P P' : List Pt} (h : AlikeP P P') (θ : Int → Tm) (i : Nat) : val θ P' i = val θ P i := by simp [Proofs.Ytgnbjhiafjpokaa.val, h.t]
theorem AlikeP.ar {P P' : List Pt} (h : AlikeP P P') (i k : Nat) : ar P' i k = ar P i k := by simp [Proofs.Ytgnbjhiafjpokaa.ar, h.args]
theorem AlikeP.known {P P' : List Pt} (h : AlikeP P P') (i : Nat) : argsKnown P' i ↔ argsKnown P i := by simp [argsKnown, h.t, h.args]
theorem UPt.alike {l : List Bd} {V : List Int} {P P' : List Pt} {vm : Int → Option Nat} (h : UPt l V P vm) (g : AlikeP P P') : UPt l V P' vm := by
  refine ⟨fun i hi => ?_, fun i hi => ?_, fun i hi => ?_, fun v i e => ?_, fun i hi => ?_⟩
  · rw [g.len] at hi; rw [g.t]; exact h.right i hi
  · rw [g.len] at hi; rw [g.t]; exact h.free i hi
  · rw [g.len] at hi; rw [g.t]; exact h.inV i hi
  · rw [g.len]; refine ⟨(h.vars v i e).1, fun θ hθ => ?_⟩; rw [g.val]; exact (h.vars v i e).2 θ hθ
  · rw [g.len] at hi
    have := h.args i hi
    rw [g.args]
    refine this.imp id fun ⟨h1, h2⟩ => ⟨by rw [g.t]; exact h1, fun k hk => ?_⟩
    have hk' : k < (pt P i).t.args.length := by rw [← g.t i]; exact hk
    have h3 := h2 k hk'
    rw [g.ar, g.len]
    refine ⟨h3.1, fun θ hθ => ?_⟩
    rw [g.val, h3.2 θ hθ]
    congr 1
    simp only [g.t i]
theorem UInv.alike {l : List Bd} {a b : Tm} {ia ib : Nat} {P P' : List Pt} {ro : Nat → Nat} {pend : List (Nat × Nat)} (h : UInv l a b ia ib P ro pend) (g : AlikeP P P') : UInv l a b ia ib P' ro pend := by
  have hc : ∀ R, Clo P' ro pend R → Clo P ro pend R := fun R c => ⟨c.eqv, fun i hi => c.root i (by rw [g.len]; exact hi), c.pend⟩
  refine ⟨fun i hi => ?_, fun i hi => ?_, fun R hR i hi hk hne k hkl => ?_, fun θ hθ e => ?_, fun R hR => h.goal R (hc R hR), fun x hx => ?_⟩
  · rw [g.len] at hi; rw [g.t, g.t]; exact h.kinds i hi
  · rw [g.len] at hi; rw [g.t, g.t, g.known, g.known]; exact h.heads i hi
  · rw [g.len] at hi
    rw [g.t] at hk hkl
    rw [g.ar, g.ar]
    exact h.cong R (hc R hR) i hi hk hne k hkl
  · have := h.compl θ hθ e
    refine ⟨fun i hi => ?_, fun x hx => ?_⟩
    · rw [g.len] at hi; rw [g.val, g.val]; exact this.1 i hi
    · rw [g.val, g.val]; exact this.2 x hx
  · rw [g.len]; exact h.pendlt x hx

/-! ### one part more -/
def upd (vm : Int → Option Nat) (v : Int) (i : Nat) (u : Int) : Option Nat := if u = v then some i else vm u
theorem val_old {θ : Int → Tm} {P : List Pt} {x : Pt} {i : Nat} (h : i < P.length) : val θ (P ++ [x]) i = val θ P i := by simp [val, pt_old h]
theorem ar_old {P : List Pt} {x : Pt} {i k : Nat} (h : i < P.length) : ar (P ++ [x]) i k = ar P i k := by simp [ar, pt_old h]
theorem UPt.add {l : List Bd} {V : List Int} {P : List Pt} {vm vm' : Int → Option Nat} (h : UPt l V P vm) {t : Tm} {s : Nat} (ht : t.right = true) (hV : ∀ v ∈ t.vs, v ∈ V)
    (hv : (vm' = vm ∧ t.kind ≠ 1) ∨ ∃ v, vm v = none ∧ vm' = upd vm v P.length ∧ (t.kind = 1 → t.n = v ∧ place l v = none) ∧ ∀ θ, Solves θ l → θ v = t.bnd θ) : UPt l V (P ++ [⟨t, [], s⟩]) vm' := by
  have hmono : ∀ u i, vm u = some i → vm' u = some i := fun u i e => by
    rcases hv with ⟨rfl, _⟩ | ⟨v, hn, rfl, _⟩
    · exact e
    · unfold upd
      rw [if_neg]
      · exact e
      · rintro rfl; rw [hn] at e; cases e
  refine ⟨fun i hi => ?_, fun i hi => ?_, fun i hi => ?_, fun v i e => ?_, fun i hi => ?_⟩
  · by_cases hlt : i < P.length
    · rw [pt_old hlt]; exact h.right i hlt
    · obtain rfl : i = P.length := by simp at hi; omega
      rw [pt_new]; exact ht
  · by_cases hlt : i < P.length
    · rw [pt_old hlt]; exact fun hk => ⟨(h.free i hlt hk).1, hmono _ _ (h.free i hlt hk).2⟩
    · obtain rfl : i = P.length := by simp at hi; omega
      rw [pt_new]
      intro hk
      rcases hv with ⟨_, hk'⟩ | ⟨v, _, rfl, h1, _⟩
      · exact absurd hk hk'
      · obtain ⟨e, hp⟩ := h1 hk
        simp only at e ⊢
        rw [e]
        exact ⟨hp, by simp [upd]⟩
  · by_cases hlt : i < P.length
    · rw [pt_old hlt]; exact h.inV i hlt
    · obtain rfl : i = P.length := by simp at hi; omega
      rw [pt_new]; exact hV
  · have key : vm v = some i → i < (P ++ [Pt.mk t [] s]).length ∧ ∀ θ, Solves θ l → θ v = val θ (P ++ [Pt.mk t [] s]) i := fun e => by
      have := h.vars v i e
      exact ⟨by simp; omega, fun θ hθ => by rw [val_old this.1]; exact this.2 θ hθ⟩
    rcases hv with ⟨rfl, _⟩ | ⟨u, hn, rfl, h1, h2⟩
    · exact key e
    · unfold upd at e
      split at e
      · rename_i e2
        subst e2
        cases e
        refine ⟨by simp, fun θ hθ => ?_⟩
        simp only [val, pt_new]
        exact h2 θ hθ
      · exact key e
  · by_cases hlt : i < P.length
    · have := h.args i hlt
      rw [pt_old hlt]
      refine this.imp id fun ⟨h1, h2⟩ => ⟨h1, fun k hk => ?_⟩
      have h3 := h2 k hk
      rw [ar_old hlt]
      exact ⟨by simp; omega, fun θ hθ => by rw [val_old h3.1]; exact h3.2 θ hθ⟩
    · obtain rfl : i = P.length := by simp at hi; omega
      exact .inl (by rw [pt_new])
theorem UInv.add {l : List Bd} {a b : Tm} {ia ib : Nat} {P : List Pt} {ro : Nat → Nat} {pend : List (Nat × Nat)} (h : UInv l a b ia ib P ro pend) (hf : RoOk P ro) (t : Tm) (s : Nat) : UInv l a b ia ib (P ++ [⟨t, [], s⟩]) ro pend := by
  have hro := hf.out P.length (Nat.le_refl _)
  have hc : ∀ R, Clo (P ++ [⟨t, [], s⟩]) ro pend R → Clo P ro pend R := fun R c => ⟨c.eqv, fun i hi => c.root i (by simp; omega), c.pend⟩
  refine ⟨fun i hi => ?_, fun i hi => ?_, fun R hR i hi hk hne k hkl => ?_, fun θ hθ e => ?_, fun R hR => h.goal R (hc R hR), fun x hx => ?_⟩
  · by_cases hlt : i < P.length
    · rw [pt_old hlt, pt_old (hf.rlt hlt)]; exact h.kinds i hlt
    · obtain rfl : i = P.length := by simp at hi; omega
      rw [hro]; exact id
  · by_cases hlt : i < P.length
    · have := h.heads i hlt
      simp only [argsKnown, pt_old hlt, pt_old (hf.rlt hlt)] at this ⊢
      exact this
    · obtain rfl : i = P.length := by simp at hi; omega
      rw [hro]; exact fun _ => ⟨heads.refl _, fun h => absurd rfl h⟩
  · by_cases hlt : i < P.length
    · rw [pt_old hlt] at hk hkl
      rw [ar_old hlt, ar_old (hf.rlt hlt)]
      exact h.cong R (hc R hR) i hlt hk hne k hkl
    · obtain rfl : i = P.length := by simp at hi; omega
      exact absurd hro.symm hne
  · have := h.compl θ hθ e
    refine ⟨fun i hi => ?_, fun x hx => ?_⟩
    · by_cases hlt : i < P.length
      · rw [val_old hlt, val_old (hf.rlt hlt)]; exact this.1 i hlt
      · obtain rfl : i = P.length := by simp at hi; omega
        rw [hro]
    · have hl := h.pendlt x hx
      rw [val_old hl.1, val_old hl.2]; exact this.2 x hx
  · have := h.pendlt x hx
    simp; omega

/-! ### a part's Args are asked for -/
theorem val_set {θ : Int → Tm} {P : List Pt} {i : Nat} {ks : List Nat} (hi : i < P.length) (j : Nat) : val θ (P.set i { pt P i with args := ks }) j = val θ P j := by
  unfold val
  rw [pt_set hi]
  split
  · rename_i e; rw [e]
  · rfl
theorem t_set {P : List Pt} {i : Nat} {ks : List Nat} (hi : i < P.length) (j : Nat) : (pt (P.set i { pt P i with args := ks }) j).t = (pt P j).t := by
  rw [pt_set hi]
  split
  · rename_i e; rw [e]
  · rfl
theorem ar_set {P : List Pt} {i : Nat} {ks : List Nat} (hi : i < P.length) {j : Nat} (k : Nat) : ar (P.set i { pt P i with args := ks }) j k = if j = i then ks.getD k 0 else ar P j k := by
  unfold ar
  rw [pt_set hi]
  split
  · rfl
  · rfl
theorem UPt.setArgs {l : List Bd} {V : List Int} {P : List Pt} {vm : Int → Option Nat} (h : UPt l V P vm) {i : Nat} (hi : i < P.length) {ks : List Nat} (hlen : ks.length = (pt P i).t.args.length)
    (has : ∀ k (hk : k < (pt P i).t.args.length), ks.getD k 0 < P.length ∧ ∀ θ, Solves θ l → val θ P (ks.getD k 0) = (pt P i).t.args[k].bnd θ) : UPt l V (P.set i { pt P i with args := ks }) vm := by
  refine ⟨fun j hj => ?_, fun j hj => ?_, fun j hj => ?_, fun v j e => ?_, fun j hj => ?_⟩
  · rw [List.length_set] at hj; rw [t_set hi]; exact h.right j hj
  · rw [List.length_set] at hj; rw [t_set hi]; exact h.free j hj
  · rw [List.length_set] at hj; rw [t_set hi]; exact h.inV j hj
  · rw [List.length_set]; refine ⟨(h.vars v j e).1, fun θ hθ => ?_⟩; rw [val_set hi]; exact (h.vars v j e).2 θ hθ
  · rw [List.length_set] at hj
    by_cases e : j = i
    · subst e
      refine .inr ⟨?_, fun k hk => ?_⟩
      · rw [t_set hi, pt_set hi, if_pos rfl]; exact hlen
      · have hk' : k < (pt P j).t.args.length := by rw [t_set hi] at hk; exact hk
        rw [ar_set hi, if_pos rfl, List.length_set]
        refine ⟨(has k hk').1, fun θ hθ => ?_⟩
        rw [val_set hi, (has k hk').2 θ hθ]
        congr 1
        simp only [t_set hi]
    · have hpt : pt (P.set i { pt P i with args := ks }) j = pt P j := by rw [pt_set hi, if_neg e]
      rw [hpt]
      refine (h.args j hj).imp id fun ⟨h1, h2⟩ => ⟨h1, fun k hk => ?_⟩
      rw [ar_set hi, if_neg e, List.length_set]
      exact ⟨(h2 k hk).1, fun θ hθ => by rw [val_set hi]; exact (h2 k hk).2 θ hθ⟩
theorem UInv.setArgs {l : List Bd} {a b : Tm} {ia ib : Nat} {P : List Pt} {ro : Nat → Nat} {pend : List (Nat × Nat)} (h : UInv l a b ia ib P ro pend) {i : Nat} (hi : i < P.length) (h0 : (pt P i).args = []) {ks : List Nat} (hlen : ks.length = (pt P i).t.args.length) : UInv l a b ia ib (P.set i { pt P i with args := ks }) ro pend := by
  have hc : ∀ R, Clo (P.set i { pt P i with args := ks }) ro pend R → Clo P ro pend R := fun R c => ⟨c.eqv, fun i hi => c.root i (by simpa using hi), c.pend⟩
  have hk0 : argsKnown P i → (pt P i).t.args.length = 0 := fun hk => by unfold argsKnown at hk; rw [h0] at hk; exact hk.symm
  have hknown : ∀ j, argsKnown P j → argsKnown (P.set i { pt P i with args := ks }) j := fun j hk => by
    unfold argsKnown
    rw [t_set hi, pt_set hi]
    split
    · rename_i e; subst e; exact hlen
    · exact hk
  refine ⟨fun j hj => ?_, fun j hj hk => ?_, fun R hR j hj hk hne k hkl => ?_, fun θ hθ e => ?_, fun R hR => h.goal R (hc R hR), fun x hx => by rw [List.length_set]; exact h.pendlt x hx⟩
  · rw [List.length_set] at hj; rw [t_set hi, t_set hi]; exact h.kinds j hj
  · rw [List.length_set] at hj; rw [t_set hi] at hk ⊢; rw [t_set hi]
    have := h.heads j hj hk
    exact ⟨this.1, fun hne => ⟨hknown _ (this.2 hne).1, hknown _ (this.2 hne).2⟩⟩
  · rw [List.length_set] at hj
    rw [t_set hi] at hk hkl
    have h1 := (h.heads j hj hk).2 hne
    have h2 := (h.heads j hj hk).1.2.2.2
    have hj1 : j ≠ i := by rintro rfl; have := hk0 h1.1; omega
    have hj2 : ro j ≠ i := by intro e; rw [e] at h1 h2; have := hk0 h1.2; omega
    rw [ar_set hi, if_neg hj1, ar_set hi, if_neg hj2]
    exact h.cong R (hc R hR) j hj hk hne k hkl
  · have := h.compl θ hθ e
    refine ⟨fun j hj => ?_, fun x hx => ?_⟩
    · rw [List.length_set] at hj; rw [val_set hi, val_set hi]; exact this.1 j hj
    · rw [val_set hi, val_set hi]; exact this.2 x hx

/-! ### two parts become the same -/
/-- Both are the same already. -/
theorem UInv.skip {l : List Bd} {a b : Tm} {ia ib : Nat} {P : List Pt} {ro : Nat → Nat} {x : Nat × Nat} {pend : List (Nat × Nat)} (h : UInv l a b ia ib P ro (x :: pend)) (he : ro x.1 = ro x.2) : UInv l a b ia ib P ro pend := by
  have hl := h.pendlt x (by simp)
  have hc : ∀ R, Clo P ro pend R → Clo P ro (x :: pend) R := fun R c => ⟨c.eqv, c.root, fun y hy => by
    rcases List.mem_cons.1 hy with rfl | hy
    · have h1 := c.root _ hl.1
      have h2 := c.root _ hl.2
      rw [he] at h1
      exact c.eqv.trans h1 (c.eqv.symm h2)
    · exact c.pend y hy⟩
  exact ⟨h.kinds, h.heads, fun R hR => h.cong R (hc R hR), fun θ hθ e => ⟨(h.compl θ hθ e).1, fun y hy => (h.compl θ hθ e).2 y (List.mem_cons_of_mem _ hy)⟩, fun R hR => h.goal R (hc R hR), fun y hy => h.pendlt y (List.mem_cons_of_mem _ hy)⟩
/-- y becomes x: what is new to be made alike is 'more'. -/
theorem UInv.link {l : List Bd} {a b : Tm} {ia ib : Nat} {P : List Pt} {ro : Nat → Nat} {p : Nat × Nat} {pend more : List (Nat × Nat)} (h : UInv l a b ia ib P ro (p :: pend)) (hf : RoOk P ro) {x y : Nat} (hp : (ro p.1 = x ∧ ro p.2 = y) ∨ (ro p.1 = y ∧ ro p.2 = x))
    (hcase : ((pt P y).t.kind = 1 ∧ more = []) ∨ ((pt P y).t.kind ≠ 1 ∧ (pt P x).t.kind ≠ 1 ∧ Proofs.Ytgnbjhiafjpokaa.heads (pt P y).t (pt P x).t ∧ argsKnown P y ∧ argsKnown P x ∧ (∀ m ∈ more, ∃ k, k < (pt P y).t.args.length ∧ ((m.1 = ar P y k ∧ m.2 = ar P x k) ∨ (m.1 = ar P x k ∧ m.2 = ar P y k))) ∧
      ∀ k, k < (pt P y).t.args.length → (ar P y k, ar P x k) ∈ more ∨ (ar P x k, ar P y k) ∈ more))
    (hargs : ∀ i, (i = x ∨ i = y) → (pt P i).t.kind ≠ 1 → argsKnown P i → ∀ k (hk : k < (pt P i).t.args.length), ar P i k < P.length ∧ ∀ θ, Solves θ l → val θ P (ar P i k) = (pt P i).t.args[k].bnd θ) : UInv l a b ia ib P (roL ro x y) (pend ++ more) := by
  have hl := h.pendlt p (by simp)
  have hx : x < P.length ∧ ro x = x := by
    rcases hp with ⟨h1, _⟩ | ⟨_, h1⟩
    · rw [← h1]; exact ⟨hf.rlt hl.1, hf.rr hl.1⟩
    · rw [← h1]; exact ⟨hf.rlt hl.2, hf.rr hl.2⟩
  have hy : y < P.length ∧ ro y = y := by
    rcases hp with ⟨_, h1⟩ | ⟨h1, _⟩
    · rw [← h1]; exact ⟨hf.rlt hl.2, hf.rr hl.2⟩
    · rw [← h1]; exact ⟨hf.rlt hl.1, hf.rr hl.1⟩
  have hyy : roL ro x y y = x := by simp [roL, hy.2]
  have hc : ∀ R, Clo P (roL ro x y) (pend ++ more) R → Clo P ro (p :: pend) R := fun R c => by
    have hr : ∀ i, i < P.length → R i (ro i) := fun i hi => by
      have h1 := c.root i hi
      by_cases e : ro i = y
      · have h2 := c.root y hy.1
        rw [hyy] at h2
        simp only [roL, if_pos e] at h1
        rw [e]
        exact c.eqv.trans h1 (c.eqv.symm h2)
      · simpa only [roL, if_neg e] using h1
    refine ⟨c.eqv, hr, fun q hq => ?_⟩
    rcases List.mem_cons.1 hq with rfl | hq
    · have hyx : R y x := by have := c.root y hy.1; rwa [hyy] at this
      have h1 := hr _ hl.1
      have h2 := hr _ hl.2
      rcases hp with ⟨e1, e2⟩ | ⟨e1, e2⟩
      · rw [e1] at h1; rw [e2] at h2
        exact c.eqv.trans h1 (c.eqv.trans (c.eqv.symm hyx) (c.eqv.symm h2))
      · rw [e1] at h1; rw [e2] at h2
        exact c.eqv.trans h1 (c.eqv.trans hyx (c.eqv.symm h2))
    · exact c.pend q (List.mem_append_left _ hq)
  have hv : ∀ θ, Solves θ l → a.bnd θ = b.bnd θ → val θ P x = val θ P y := fun θ hθ e => by
    have := h.compl θ hθ e
    have h1 := this.2 p (by simp)
    rw [this.1 _ hl.1, this.1 _ hl.2] at h1
    rcases hp with ⟨e1, e2⟩ | ⟨e1, e2⟩
    · rwa [e1, e2] at h1
    · rw [e1, e2] at h1; exact h1.symm
  refine ⟨fun i hi hk => ?_, fun i hi hk => ?_, fun R hR i hi hk hni k hkl => ?_, fun θ hθ e => ?_, fun R hR => h.goal R (hc R hR), fun q hq => ?_⟩
  · by_cases e : ro i = y
    · simp only [roL, if_pos e] at hk
      rcases hcase with ⟨h1, _⟩ | ⟨_, h1, _⟩
      · exact h.kinds i hi (by rw [e]; exact h1)
      · exact absurd hk h1
    · simp only [roL, if_neg e] at hk
      exact h.kinds i hi hk
  · have hh := h.heads i hi hk
    by_cases e : ro i = y
    · simp only [roL, if_pos e]
      rw [e] at hh
      rcases hcase with ⟨h1, _⟩ | ⟨_, _, h2, h3, h4, _⟩
      · exact absurd (h.kinds i hi (by rw [e]; exact h1)) hk
      · refine ⟨hh.1.trans h2, fun _ => ⟨?_, h4⟩⟩
        by_cases ei : i = y
        · rw [ei]; exact h3
        · exact (hh.2 ei).1
    · simp only [roL, if_neg e]
      exact hh
  · have hcl := hc R hR
    have hh := h.heads i hi hk
    by_cases e : ro i = y
    · simp only [roL, if_pos e]
      rw [e] at hh
      rcases hcase with ⟨h1, _⟩ | ⟨_, _, h2, h3, h4, _, h6⟩
      · exact absurd (h.kinds i hi (by rw [e]; exact h1)) hk
      · have hky : k < (pt P y).t.args.length := by rw [← hh.1.2.2.2]; exact hkl
        have hyx : R (ar P y k) (ar P x k) := by
          rcases h6 k hky with hm | hm
          · exact hR.pend _ (List.mem_append_right _ hm)
          · exact hR.eqv.symm (hR.pend _ (List.mem_append_right _ hm))
        by_cases ei : i = y
        · rw [ei]; exact hyx
        · have := h.cong R hcl i hi hk (by rw [e]; exact ei) k hkl
          rw [e] at this
          exact hR.eqv.trans this hyx
    · simp only [roL, if_neg e] at hni ⊢
      exact h.cong R hcl i hi hk hni k hkl
  · have hc0 := h.compl θ hθ e
    have hxy := hv θ hθ e
    refine ⟨fun i hi => ?_, fun q hq => ?_⟩
    · by_cases e : ro i = y
      · simp only [roL, if_pos e]
        rw [hc0.1 i hi, e, hxy]
      · simp only [roL, if_neg e]
        exact hc0.1 i hi
    · rcases List.mem_append.1 hq with hq | hq
      · exact hc0.2 q (List.mem_cons_of_mem _ hq)
      · rcases hcase with ⟨_, h1⟩ | ⟨hk, hkx, h2, h3, h4, h5, _⟩
        · rw [h1] at hq; cases hq
        · obtain ⟨k, hky, hor⟩ := h5 q hq
          have hkx' : k < (pt P x).t.args.length := by rw [← h2.2.2.2]; exact hky
          have e1 := (hargs y (.inr rfl) hk h3 k hky).2 θ hθ
          have e2 := (hargs x (.inl rfl) hkx h4 k hkx').2 θ hθ
          have e3 := ((Tm.bnd_eq_iff θ hkx hk).1 hxy).2.2.2
          have e4 : (pt P x).t.args[k].bnd θ = (pt P y).t.args[k].bnd θ := by
            have := congrArg (fun L => L[k]?) e3
            simpa [hkx', hky] using this
          rcases hor with ⟨m1, m2⟩ | ⟨m1, m2⟩
          · rw [m1, m2, e1, e2, e4]
          · rw [m1, m2, e1, e2, e4]
  · rcases List.mem_append.1 hq with hq | hq
    · exact h.pendlt q (List.mem_cons_of_mem _ hq)
    · rcases hcase with ⟨_, h1⟩ | ⟨hk, hkx, h2, h3, h4, h5, _⟩
      · rw [h1] at hq; cases hq
      · obtain ⟨k, hky, hor⟩ := h5 q hq
        have hkx' : k < (pt P x).t.args.length := by rw [← h2.2.2.2]; exact hky
        have e1 := (hargs y (.inr rfl) hk h3 k hky).1
        have e2 := (hargs x (.inl rfl) hkx h4 k hkx').1
        rcases hor with ⟨m1, m2⟩ | ⟨m1, m2⟩ <;> rw [m1, m2] <;> exact ⟨by assumption, by assumption⟩
/-- Tops that differ: nothing makes the terms alike. -/
theorem UInv.clash {l : List Bd} {a b : Tm} {ia ib : Nat} {P : List Pt} {ro : Nat → Nat} {p : Nat × Nat} {pend : List (Nat × Nat)} (h : UInv l a b ia ib P ro (p :: pend)) (h1 : (pt P (ro p.1)).t.kind ≠ 1) (h2 : (pt P (ro p.2)).t.kind ≠ 1) (hn : ¬ Proofs.Ytgnbjhiafjpokaa.heads (pt P (ro p.1)).t (pt P (ro p.2)).t) : NoMgu l a b := fun θ hθ e => by
  have hl := h.pendlt p (by simp)
  have hc := h.compl θ hθ e
  have h3 := hc.2 p (by simp)
  rw [hc.1 _ hl.1, hc.1 _ hl.2] at h3
  have h4 := (Tm.bnd_eq_iff θ h1 h2).1 h3
  exact hn ⟨h4.1, h4.2.1, h4.2.2.1, by simpa using congrArg List.length h4.2.2.2⟩
/-- The first pair. -/
theorem UInv.start {l : List Bd} {a b : Tm} {P : List Pt} {ia ib : Nat} (ha : ia < P.length ∧ ∀ θ, Solves θ l → val θ P ia = a.bnd θ) (hb : ib < P.length ∧ ∀ θ, Solves θ l → val θ P ib = b.bnd θ) : UInv l a b ia ib P (fun i => i) [(ia, ib)] :=
  ⟨fun _ _ h => h, fun _ _ _ => ⟨heads.refl _, fun h => absurd rfl h⟩, fun _ _ _ _ _ h => absurd rfl h, fun θ hθ e => ⟨fun _ _ => rfl, fun x hx => by
    rw [List.mem_singleton.1 hx]
    show val θ P ia = val θ P ib
    rw [ha.2 θ hθ, hb.2 θ hθ, e]⟩, fun R hR => hR.pend (ia, ib) (by simp), fun x hx => by
    rw [List.mem_singleton.1 hx]; exact ⟨ha.1, hb.1⟩⟩
end Go.Proofs.Ytgnbjhiafjpokaa
