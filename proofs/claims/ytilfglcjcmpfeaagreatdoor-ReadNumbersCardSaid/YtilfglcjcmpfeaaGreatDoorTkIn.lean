/-
  Tokens in memory.
-/
import Derived.Test.YtilfglcjcmpfeaaGreatDoorLxF
namespace Go.Proofs.YtilfglcjcmpfeaaGreatDoor
open Go.RowKit

/-- Tokens in memory. -/
def toksIn (w : World) (B : Nat) (l : List (Tk × Nat)) (sv : Value) : Prop :=
  ∃ g cap, sv = .slice g l.length cap ∧ (l = [] ∨ ∃ b off, g = some ⟨b, off, none⟩ ∧ b < B ∧ ∀ i (h : i < l.length),
    w.cell? ⟨b, off + i * 5, none⟩ = some (.int .i64 (l[i].1.kind : Nat)) ∧ w.cell? ⟨b, off + i * 5 + 1, none⟩ = some (.string ⟨l[i].1.text.toArray⟩) ∧ w.cell? ⟨b, off + i * 5 + 2, none⟩ = some (.int .i64 (l[i].1.n : Nat)) ∧ w.cell? ⟨b, off + i * 5 + 3, none⟩ = some (.int .i64 (l[i].2 : Nat)) ∧ w.cell? ⟨b, off + i * 5 + 4, none⟩ = some (.bool l[i].1.opn))
theorem toksIn_same {w w' : World} {B B' : Nat} {l : List (Tk × Nat)} {sv : Value} (h : toksIn w B l sv) (hB : B ≤ B') (hb : Below B w w') : toksIn w' B' l sv := by
  obtain ⟨g, cap, rfl, h⟩ := h
  refine ⟨g, cap, rfl, ?_⟩
  rcases h with h | ⟨b, off, rfl, hlt, h⟩
  · exact .inl h
  · refine .inr ⟨b, off, rfl, by omega, fun i hi => ?_⟩
    obtain ⟨h0, h1, h2, h3, h4⟩ := h i hi
    have e := hb.block b hlt
    have key : ∀ o v, w.cell? ⟨b, o, none⟩ = some v → w'.cell? ⟨b, o, none⟩ = some v := fun o v hv => (World.cell?_of_block (a := ⟨b, o, none⟩) e).trans hv
    exact ⟨key _ _ h0, key _ _ h1, key _ _ h2, key _ _ h3, key _ _ h4⟩
theorem tok_get (l : List (Tk × Nat)) (i : Nat) (h : i < l.length) (j : Nat) (hj : j < 5) : (l.flatMap tokC)[i * 5 + j]? = (tokC l[i])[j]? := by
  induction l generalizing i with
  | nil => simp at h
  | cons x r ih =>
    rw [List.flatMap_cons]
    have hx : (tokC x).length = 5 := rfl
    cases i with
    | zero => rw [List.getElem?_append_left (by rw [hx]; omega)]; simp
    | succ k =>
      rw [List.getElem?_append_right (by rw [hx]; omega), hx, show (k + 1) * 5 + j - 5 = k * 5 + j by omega, ih k (by simpa using h)]
      rfl
theorem toksIn_of_owns {W : World} {base : Nat} {ty : TypeId} {l : List (Tk × Nat)} {sv : Value} (h : W.ownsRow base ty 5 sv l.length (l.flatMap tokC)) : toksIn W W.heap.size l sv := by
  rcases h.2 with ⟨rfl, h0⟩ | ⟨g, cap, cur, rfl, _⟩
  · have : l = [] := List.eq_nil_of_length_eq_zero h0
    subst this
    exact ⟨none, 0, rfl, .inl rfl⟩
  · refine ⟨_, cap, rfl, .inr ⟨g, 0, rfl, (h.lt g rfl).2, fun i hi => ?_⟩⟩
    have key : ∀ j (hj : j < 5) u, (tokC l[i])[j]? = some u → W.cell? ⟨g, 0 + i * 5 + j, none⟩ = some u := fun j hj u hu => by
      have h1 := h.cells (g := g) rfl (i * 5 + j) u (by rw [tok_get l i hi j hj]; exact hu)
      rw [Addr.add_lit] at h1
      rw [Nat.add_assoc]
      exact h1
    exact ⟨key 0 (by decide) _ rfl, key 1 (by decide) _ rfl, key 2 (by decide) _ rfl, key 3 (by decide) _ rfl, key 4 (by decide) _ rfl⟩
theorem toksIn_at {w : World} {B : Nat} {l : List (Tk × Nat)} {sv : Value} (h : toksIn w B l sv) (i : Nat) (hi : i < l.length) : ∃ b off cap, sv = .slice (some ⟨b, off, none⟩) l.length cap ∧ b < B ∧
    w.cell? ⟨b, off + i * 5, none⟩ = some (.int .i64 (l[i].1.kind : Nat)) ∧ w.cell? ⟨b, off + i * 5 + 1, none⟩ = some (.string ⟨l[i].1.text.toArray⟩) ∧ w.cell? ⟨b, off + i * 5 + 2, none⟩ = some (.int .i64 (l[i].1.n : Nat)) ∧ w.cell? ⟨b, off + i * 5 + 3, none⟩ = some (.int .i64 (l[i].2 : Nat)) ∧ w.cell? ⟨b, off + i * 5 + 4, none⟩ = some (.bool l[i].1.opn) := by
  obtain ⟨g, cap, rfl, h | ⟨b, off, rfl, hb, h⟩⟩ := h
  · subst h; simp at hi
  · exact ⟨b, off, cap, rfl, hb, h i hi⟩
end Go.Proofs.YtilfglcjcmpfeaaGreatDoor
