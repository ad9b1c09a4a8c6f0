/-
  The library's CompactFunc of a row of sorted places: of those alike the first.
-/
import Derived.Test.YtpiflkgjmncijaaSortC
import Derived.Lib.SliceRun
namespace Go.Proofs.Ytpiflkgjmncijaa
open Go.RowKit Go.Sort

/-- Are the terms at two places alike? -/
def eqAt (l : List Tm) (x y : Int) : Bool := decide ((keyAt l x).cmp (keyAt l y) = 0)
/-- Of the first n places those whose term isn't that of the place ahead. -/
def keepsN (l : List Tm) (d : Array Int) : Nat → List Int
  | 0 => []
  | n + 1 => if n = 0 ∨ eqAt l d[n]! d[n - 1]! = false then keepsN l d n ++ [d[n]!] else keepsN l d n
theorem keepsN_go {l : List Tm} {d : Array Int} {n : Nat} (h : n = 0 ∨ eqAt l d[n]! d[n - 1]! = false) : keepsN l d (n + 1) = keepsN l d n ++ [d[n]!] := by rw [keepsN, if_pos h]
theorem keepsN_skip {l : List Tm} {d : Array Int} {n : Nat} (h0 : n ≠ 0) (h : eqAt l d[n]! d[n - 1]! = true) : keepsN l d (n + 1) = keepsN l d n := by
  rw [keepsN, if_neg]
  rintro (e | e)
  · exact h0 e
  · rw [h] at e; cases e
theorem keepsN_le (l : List Tm) (d : Array Int) : ∀ n, (keepsN l d n).length ≤ n
  | 0 => by simp [keepsN]
  | n + 1 => by
    have := keepsN_le l d n
    rw [keepsN]
    split
    · simp; omega
    · omega

set_option maxRecDepth 100000 in
theorem sorted1_any (l : List Tm) (sv : Value) (x y : Int) (Bo : Nat) (w : World) (B : Nat) (hB : B ≤ w.heap.size) (hsl : Tm.sliceIn w B l sv) (hx : 0 ≤ x ∧ x < l.length) (hy : 0 ≤ y ∧ y < l.length)
    (hc : w.cell? ⟨Bo, 0, none⟩ = some (.func (.func 45) #[sv] #[])) :
    Calls Try.prog 65 #[.int .i64 x, .int .i64 y, .pointer (some ⟨Bo, 0, none⟩)] w fun e w' => e = .returned (.bool (eqAt l x y)) ∧ RowKit.Below w.heap.size w w' := by
  have HT := Lib.hid (torder_any l sv x y w B hB hsl hx hy)
  have HE := Lib.hid (show eqAt l x y = decide ((keyAt l x).cmp (keyAt l y) = 0) from rfl)
  clear hsl hx hy
  go_enter Try.func65, Try.ntmps65
  go_wp2_with fail
  refine HT.out.mono ?_
  rintro e w1 ⟨rfl, hb⟩
  have HB := Lib.hid hb
  clear hb hc HT
  go_wp2_with fail
  go_ret
  refine ⟨ret_bool ?_, HB.out⟩
  rw [HE.out]
  rfl
theorem RowSt.eqv {w : World} {b : Nat} {d : Array Int} {W : World} {l : List Tm} {sv : Value} {Bo : Nat} (h : RowSt w b l.length d W) (hsl : Tm.sliceIn w w.heap.size l sv) (hBo : Bo < w.heap.size)
    (hc : w.cell? ⟨Bo, 0, none⟩ = some (.func (.func 45) #[sv] #[])) {i j : Nat} (hi : i < d.size) (hj : j < d.size) :
    Calls Try.prog 65 #[.int .i64 d[i]!, .int .i64 d[j]!, .pointer (some ⟨Bo, 0, none⟩)] W fun e w' => e = .returned (.bool (eqAt l d[i]! d[j]!)) ∧ RowKit.Below W.heap.size W w' :=
  sorted1_any l sv _ _ Bo W w.heap.size h.below.size (Tm.sliceIn_below hsl h.below (Nat.le_refl _)) (h.rng i hi) (h.rng j hj) ((h.below.cell (p := ⟨Bo, 0, none⟩) hBo).trans hc)
/-- A place is written. -/
theorem RowSt.set {w : World} {b N : Nat} {d : Array Int} {W : World} (h : RowSt w b N d W) {i : Nat} (hi : i < d.size) (x : Int) (hx : 0 ≤ x ∧ x < N) : RowSt w b N (d.setIfInBounds i x) (W.setCell ⟨b, i, none⟩ (.int .i64 x)) where
  hb := h.hb
  below := h.below.setCell (p := ⟨b, i, none⟩) h.hb _
  cell k hk := by
    have hk' : k < d.size := by simpa using hk
    by_cases e : k = i
    · subst e
      have : (d.setIfInBounds k x)[k]! = x := by simp [hk']
      rw [this]
      exact World.cell?_setCell_same _ _ _ (h.cell k hi)
    · have : (d.setIfInBounds i x)[k]! = d[k]! := by simp [hk', Ne.symm e]
      rw [this, World.cell?_setCell_other _ _ _ _ (by intro e'; simp only [Addr.mk.injEq] at e'; omega)]
      exact h.cell k hk'
  free k hk := by
    rw [World.frozen?_setCell]
    exact h.free k (by simpa using hk)
  rng k hk := by
    have hk' : k < d.size := by simpa using hk
    by_cases e : k = i
    · subst e
      have : (d.setIfInBounds k x)[k]! = x := by simp [hk']
      rw [this]; exact hx
    · have : (d.setIfInBounds i x)[k]! = d[k]! := by simp [hk', Ne.symm e]
      rw [this]; exact h.rng k hk'
theorem keepsN_all {l : List Tm} {d : Array Int} : ∀ {k : Nat}, (∀ i, 1 ≤ i → i < k → eqAt l d[i]! d[i - 1]! = false) → keepsN l d k = (List.range k).map fun i => d[i]!
  | 0, _ => rfl
  | k + 1, h => by
    rw [keepsN_go, keepsN_all (k := k) (fun i h1 h2 => h i h1 (by omega)), List.range_succ, List.map_append]
    · rfl
    · by_cases h0 : k = 0
      · exact .inl h0
      · exact .inr (h k (by omega) (by omega))
/-- While alike places are passed over: what stands ahead of q is kept, what stands from k0 + k2 - 1 on is as it was. -/
def CSt (l : List Tm) (d dk : Array Int) (k0 k2 q : Nat) : Prop :=
  dk.size = d.size ∧ q + 1 ≤ k0 + k2 ∧ (∀ i, k0 + k2 ≤ i + 1 → dk[i]! = d[i]!) ∧ (keepsN l d (k0 + k2)).length = q ∧ ∀ i (h : i < (keepsN l d (k0 + k2)).length), dk[i]! = (keepsN l d (k0 + k2))[i]
theorem CSt.start {l : List Tm} {d : Array Int} {k0 : Nat} (h1 : 1 ≤ k0) (hall : ∀ i, 1 ≤ i → i < k0 → eqAt l d[i]! d[i - 1]! = false) (he : eqAt l d[k0]! d[k0 - 1]! = true) : CSt l d d k0 1 k0 := by
  have hk : keepsN l d (k0 + 1) = (List.range k0).map fun i => d[i]! := by rw [keepsN_skip (by omega) he, keepsN_all hall]
  refine ⟨rfl, Nat.le_refl _, fun _ _ => rfl, by rw [hk]; simp, fun i h => ?_⟩
  simp only [hk]
  simp
theorem CSt.skip {l : List Tm} {d dk : Array Int} {k0 k2 q : Nat} (h : CSt l d dk k0 k2 q) (h0 : k0 + k2 ≠ 0) (he : eqAt l d[k0 + k2]! d[k0 + k2 - 1]! = true) : CSt l d dk k0 (k2 + 1) q := by
  obtain ⟨h1, h2, h3, h4, h5⟩ := h
  have hk : keepsN l d (k0 + (k2 + 1)) = keepsN l d (k0 + k2) := keepsN_skip h0 he
  refine ⟨h1, by omega, fun i hi => h3 i (by omega), by rw [hk]; exact h4, ?_⟩
  rw [hk]; exact h5
theorem CSt.put {l : List Tm} {d dk : Array Int} {k0 k2 q : Nat} (h : CSt l d dk k0 k2 q) (hlt : k0 + k2 < d.size) (he : eqAt l d[k0 + k2]! d[k0 + k2 - 1]! = false) : CSt l d (dk.setIfInBounds q d[k0 + k2]!) k0 (k2 + 1) (q + 1) := by
  obtain ⟨h1, h2, h3, h4, h5⟩ := h
  have hk : keepsN l d (k0 + (k2 + 1)) = keepsN l d (k0 + k2) ++ [d[k0 + k2]!] := keepsN_go (.inr he)
  have hq : q < dk.size := by omega
  have hne : ∀ i, i ≠ q → (dk.setIfInBounds q d[k0 + k2]!)[i]! = dk[i]! := fun i hi => by
    by_cases hi2 : i < dk.size
    · simp [hi2, Ne.symm hi]
    · simp [hi2]
  refine ⟨by simpa using h1, by omega, fun i hi => ?_, by rw [hk]; simp [h4], ?_⟩
  · rw [hne i (by omega)]; exact h3 i (by omega)
  · rw [hk]
    intro i hi
    by_cases e : i = q
    · subst e
      rw [List.getElem_append_right (by omega)]
      simp [hq]
    · rw [hne i e, List.getElem_append_left (by simp at hi; omega)]
      exact h5 i _
end Go.Proofs.Ytpiflkgjmncijaa
