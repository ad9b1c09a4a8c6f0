/-
  Whether variables have no Args, and the document's variables, purely.
-/
import Derived.Test.YtpiflkgjmncijaaVars
namespace Go.Proofs.Ytpiflkgjmncijaa
open Go.RowKit

theorem plain_iff (l : List Tm) : Tm.plain l = true ↔ ∀ j (h : j < l.length), l[j].noArgs = true := by
  rw [Tm.plain_all, List.all_eq_true]
  constructor
  · intro h j hj
    exact h _ (List.getElem_mem hj)
  · intro h x hx
    obtain ⟨j, hj, rfl⟩ := List.getElem_of_mem hx
    exact h j hj
theorem noArgs_eq (t : Tm) : t.noArgs = ((if t.kind = 1 ∧ 0 < t.args.length then false else true) && Tm.plain t.args) := by
  obtain ⟨k, s, n, l⟩ := t
  simp only [Tm.noArgs, Tm.kind, Tm.args]
  rfl
theorem plain_cut {l : List Tm} {k : Nat} (hk : k < l.length) (h : l[k].noArgs = false) : Tm.plain l = false := by
  rw [Bool.eq_false_iff]
  intro hp
  rw [(plain_iff l).1 hp k hk] at h
  cases h

namespace Tm
mutual
/-- The document's own walk for variables. -/
def withT : List Int → Tm → List Int
  | l, .mk k _ n ts => if k = 1 then (if n ∈ l then l else l ++ [n]) else withs l ts
def withs : List Int → List Tm → List Int
  | l, [] => l
  | l, t :: r => withs (withT l t) r
end
end Tm
theorem withs_foldl (ts : List Tm) : ∀ l, Tm.withs l ts = ts.foldl Tm.withT l := by
  induction ts with
  | nil => intro l; simp [Tm.withs]
  | cons t r ih => intro l; simp [Tm.withs, ih]
theorem withs_take_succ (ts : List Tm) (l : List Int) (k : Nat) (hk : k < ts.length) : Tm.withs l (ts.take (k + 1)) = Tm.withT (Tm.withs l (ts.take k)) ts[k] := by
  rw [withs_foldl, withs_foldl, List.take_succ_eq_append_getElem hk, List.foldl_append]; rfl
theorem withs_eq (ts : List Tm) (h : ∀ t ∈ ts, t.noArgs = true → ∀ (l : List Int) (d : Int), Tm.withT l t = (t.nodes d).foldl addV l) (hp : Tm.plain ts = true) (l : List Int) (d : Int) : Tm.withs l ts = (Tm.nodesL ts d).foldl addV l := by
  induction ts generalizing l with
  | nil => simp [Tm.withs, Tm.nodesL]
  | cons t r ih =>
    simp only [Tm.plain, Bool.and_eq_true] at hp
    simp only [Tm.withs, Tm.nodesL, List.foldl_append]
    rw [h t (by simp) hp.1 l d]
    exact ih (fun u hu => h u (by simp [hu])) hp.2 _
theorem withT_eq : ∀ (t : Tm), t.noArgs = true → ∀ (l : List Int) (d : Int), Tm.withT l t = (t.nodes d).foldl addV l := Tm.ind fun k s n ts ih hn l d => by
  simp only [Tm.noArgs, Bool.and_eq_true] at hn
  by_cases hk : k = 1
  · subst hk
    have : ts = [] := by
      cases ts with
      | nil => rfl
      | cons a r => simp at hn
    subst this
    simp only [Tm.withT, Tm.nodes, Tm.nodesL, List.foldl_cons, List.foldl_nil, addV]
    by_cases hm : n ∈ l <;> simp [hm]
  · simp only [Tm.withT, if_neg hk, Tm.nodes, List.foldl_cons]
    rw [withs_eq ts ih hn.2 l (d + 1)]
    simp [addV, hk]
theorem withs_vars (ts : List Tm) (hp : Tm.plain ts = true) : Tm.withs [] ts = varsOf ts := withs_eq ts (fun t _ => withT_eq t) hp [] 1
theorem withT_length : ∀ (t : Tm) (l : List Int), (Tm.withT l t).length ≤ l.length + t.size := Tm.ind fun k s n ts ih l => by
  simp only [Tm.withT, Tm.size]
  split
  · split <;> simp <;> omega
  · rename_i hk
    have : ∀ (ts : List Tm) (_ : ∀ t ∈ ts, ∀ l : List Int, (Tm.withT l t).length ≤ l.length + t.size) (l : List Int), (Tm.withs l ts).length ≤ l.length + Tm.sizes ts := by
      intro ts
      induction ts with
      | nil => intro _ l; simp [Tm.withs, Tm.sizes]
      | cons t r ihr =>
        intro h l
        have h1 := h t (by simp) l
        have h2 := ihr (fun u hu => h u (by simp [hu])) (Tm.withT l t)
        simp only [Tm.withs, Tm.sizes]
        omega
    have := this ts ih l
    omega
theorem withs_length (ts : List Tm) : ∀ l : List Int, (Tm.withs l ts).length ≤ l.length + Tm.sizes ts := by
  induction ts with
  | nil => intro l; simp [Tm.withs, Tm.sizes]
  | cons t r ih =>
    intro l
    have h1 := withT_length t l
    have h2 := ih (Tm.withT l t)
    simp only [Tm.withs, Tm.sizes]
    omega
end Go.Proofs.Ytpiflkgjmncijaa
