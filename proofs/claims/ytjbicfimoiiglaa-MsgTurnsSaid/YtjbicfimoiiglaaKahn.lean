/-
  Whether places lead to themselves: by what leads to what, made whole step by step; and by an order in which each place comes behind those that it waits for. No program here.
-/
import Derived.Test.YtjbicfimoiiglaaSub
namespace Go.Proofs.Ytjbicfimoiiglaa
open Go.RowKit

/-! ### made whole step by step -/
def clo (l : List Bd) : Nat → Nat → Nat → Bool
  | 0, i, j => decide (j ∈ deps l i)
  | k + 1, i, j => clo l k i j || (clo l k i k && clo l k k j)
theorem clo_lt {l : List Bd} : ∀ {k i j : Nat}, clo l k i j = true → j < l.length
  | 0, i, j, h => deps_lt (of_decide_eq_true h)
  | k + 1, i, j, h => by
    simp only [clo, Bool.or_eq_true, Bool.and_eq_true] at h
    rcases h with h | ⟨_, h⟩ <;> exact clo_lt h
theorem clo_rank {l : List Bd} {r : Nat → Nat} (hr : Ranked l r) : ∀ {k i j : Nat}, i < l.length → clo l k i j = true → r j < r i
  | 0, i, j, hi, h => hr i hi j (of_decide_eq_true h)
  | k + 1, i, j, hi, h => by
    simp only [clo, Bool.or_eq_true, Bool.and_eq_true] at h
    rcases h with h | ⟨h1, h2⟩
    · exact clo_rank hr hi h
    · have a := clo_rank hr hi h1
      have b := clo_rank hr (clo_lt h1) h2
      omega
theorem clo_mono {l : List Bd} {i j : Nat} : ∀ {k : Nat}, j ∈ deps l i → clo l k i j = true
  | 0, h => decide_eq_true h
  | k + 1, h => by simp only [clo, clo_mono (k := k) h, Bool.true_or]
theorem clo_trans {l : List Bd} : ∀ {k m i j : Nat}, m < k → clo l k i m = true → clo l k m j = true → clo l k i j = true
  | 0, m, i, j, h, _, _ => by omega
  | k + 1, m, i, j, h, h1, h2 => by
    simp only [clo, Bool.or_eq_true, Bool.and_eq_true] at h1 h2 ⊢
    by_cases e : m = k
    · subst e
      have a : clo l m i m = true := by rcases h1 with h1 | ⟨h1, _⟩ <;> exact h1
      have b : clo l m m j = true := by rcases h2 with h2 | ⟨_, h2⟩ <;> exact h2
      exact .inr ⟨a, b⟩
    · have hm : m < k := by omega
      rcases h1 with h1 | ⟨h1, h1'⟩
      · rcases h2 with h2 | ⟨h2, h2'⟩
        · exact .inl (clo_trans hm h1 h2)
        · exact .inr ⟨clo_trans hm h1 h2, h2'⟩
      · rcases h2 with h2 | ⟨_, h2'⟩
        · exact .inr ⟨h1, clo_trans hm h1' h2⟩
        · exact .inr ⟨h1, h2'⟩
theorem countP_lt {p q : Nat → Bool} : ∀ {l : List Nat}, (∀ x ∈ l, p x = true → q x = true) → (∃ x ∈ l, q x = true ∧ p x = false) → l.countP p < l.countP q
  | [], _, ⟨x, hx, _⟩ => by cases hx
  | y :: r, h, ⟨x, hx, h1, h2⟩ => by
    have hle : r.countP p ≤ r.countP q := List.countP_mono_left fun z hz => h z (List.mem_cons_of_mem _ hz)
    rw [List.countP_cons, List.countP_cons]
    rcases List.mem_cons.1 hx with rfl | hx
    · simp only [h1, h2, if_true]
      simp
      omega
    · have hlt := countP_lt (fun z hz => h z (List.mem_cons_of_mem _ hz)) ⟨x, hx, h1, h2⟩
      have hy := h y (List.mem_cons_self)
      by_cases e : p y = true
      · simp only [e, hy e, if_true]; omega
      · simp only [e]
        simp
        omega
theorem clo_done {l : List Bd} (h : ∀ i, i < l.length → clo l l.length i i = false) : ∃ r, Ranked l r := by
  refine ⟨fun i => (List.range l.length).countP (clo l l.length i), fun i hi q hq => ?_⟩
  have hql := deps_lt hq
  refine countP_lt (fun x _ hx => clo_trans hql (clo_mono hq) hx) ⟨q, List.mem_range.2 hql, clo_mono hq, h q hql⟩
theorem clo_says (l : List Bd) : (∃ r, Ranked l r) ↔ ∀ i, i < l.length → clo l l.length i i = false := by
  constructor
  · rintro ⟨r, hr⟩ i hi
    rw [Bool.eq_false_iff]
    intro h
    have := clo_rank hr hi h
    omega
  · exact clo_done
/-- The entries while step k is at (i, j). -/
def cloAt (l : List Bd) (k i j a b : Nat) : Bool := if a < i ∨ (a = i ∧ b < j) then clo l (k + 1) a b else clo l k a b
theorem cloAt_start (l : List Bd) (k a b : Nat) : cloAt l k 0 0 a b = clo l k a b := by simp [cloAt]
theorem cloAt_row (l : List Bd) {k i a b : Nat} (hb : b < l.length) : cloAt l k i l.length a b = cloAt l k (i + 1) 0 a b := by
  unfold cloAt
  have : (a < i ∨ (a = i ∧ b < l.length)) ↔ (a < i + 1 ∨ (a = i + 1 ∧ b < 0)) := by omega
  simp only [this]
theorem cloAt_end (l : List Bd) {k a b : Nat} (ha : a < l.length) : cloAt l k l.length 0 a b = clo l (k + 1) a b := by
  unfold cloAt
  rw [if_pos (.inl ha)]
theorem cloAt_ik (l : List Bd) (k i j : Nat) : cloAt l k i j i k = clo l k i k := by
  unfold cloAt
  split
  · simp only [clo]; cases clo l k i k <;> simp
  · rfl
theorem cloAt_kj (l : List Bd) (k i j b : Nat) : cloAt l k i j k b = clo l k k b := by
  unfold cloAt
  split
  · simp only [clo]; cases clo l k k b <;> simp
  · rfl
theorem cloAt_ij (l : List Bd) (k i j : Nat) : cloAt l k i j i j = clo l k i j := by
  unfold cloAt
  rw [if_neg (by omega)]
theorem cloAt_next (l : List Bd) (k i j a b : Nat) : (if a = i ∧ b = j then (cloAt l k i j i j || (cloAt l k i j i k && cloAt l k i j k j)) else cloAt l k i j a b) = cloAt l k i (j + 1) a b := by
  rw [cloAt_ik, cloAt_kj, cloAt_ij]
  by_cases h : a = i ∧ b = j
  · obtain ⟨rfl, rfl⟩ := h
    rw [if_pos ⟨rfl, rfl⟩]
    unfold cloAt
    rw [if_pos (by omega)]
    rfl
  · rw [if_neg h]
    unfold cloAt
    have : (a < i ∨ (a = i ∧ b < j)) ↔ (a < i ∨ (a = i ∧ b < j + 1)) := by
      constructor
      · rintro (h1 | h1)
        · exact .inl h1
        · exact .inr ⟨h1.1, by omega⟩
      · rintro (h1 | h1)
        · exact .inl h1
        · refine .inr ⟨h1.1, ?_⟩
          have : b ≠ j := fun e => h ⟨h1.1, e⟩
          omega
    simp only [this]

/-! ### one behind the other -/
abbrev Pr := Nat × Nat
def cntP (P : List Pr) (f : Pr → Bool) (i : Nat) : Nat := P.countP fun p => p.1 == i && !f p
/-- Which places wait for one. -/
def behP (P : List Pr) (k : Nat) : List Nat := (P.filter fun p => p.2 == k).map Prod.fst
theorem behP_mem {P : List Pr} {k i : Nat} : i ∈ behP P k ↔ (i, k) ∈ P := by
  simp only [behP, List.mem_map, List.mem_filter]
  constructor
  · rintro ⟨⟨a, b⟩, ⟨h, e⟩, rfl⟩
    simp at e
    subst e
    exact h
  · intro h
    exact ⟨(i, k), ⟨h, by simp⟩, rfl⟩
theorem behP_nodup {P : List Pr} (k : Nat) (h : P.Nodup) : (behP P k).Nodup := by
  induction P with
  | nil => simp [behP]
  | cons p r ih =>
    rw [List.nodup_cons] at h
    have := ih h.2
    simp only [behP, List.filter_cons] at this ⊢
    split
    · rename_i e
      rw [List.map_cons, List.nodup_cons]
      refine ⟨fun hm => ?_, this⟩
      have h2 := behP_mem.1 hm
      simp at e
      rw [← e] at h2
      exact h.1 h2
    · exact this
theorem behP_snoc (P : List Pr) (i q k : Nat) : behP (P ++ [(i, q)]) k = if k = q then behP P k ++ [i] else behP P k := by
  simp only [behP, List.filter_append, List.map_append, List.filter_cons, List.filter_nil]
  by_cases e : q = k
  · subst e; simp
  · have : ¬ k = q := fun h => e h.symm
    simp [e, this]
theorem behP_length (P : List Pr) (k : Nat) : (behP P k).length ≤ P.length := by
  simp only [behP, List.length_map]
  exact List.length_filter_le _ _
theorem cntP_snoc (P : List Pr) (i q a : Nat) : cntP (P ++ [(i, q)]) (fun _ => false) a = cntP P (fun _ => false) a + if a = i then 1 else 0 := by
  simp only [cntP, List.countP_append, List.countP_cons, List.countP_nil]
  by_cases e : i = a
  · subst e; simp
  · have : ¬ a = i := fun h => e h.symm
    simp [e, this]
theorem cntP_le (P : List Pr) (f : Pr → Bool) (i : Nat) : cntP P f i ≤ P.length := List.countP_le_length
theorem cntP_zero {P : List Pr} {f : Pr → Bool} {i : Nat} : cntP P f i = 0 ↔ ∀ p ∈ P, p.1 = i → f p = true := by
  unfold cntP
  rw [List.countP_eq_zero]
  constructor
  · intro h p hp e
    have := h p hp
    cases hf : f p with
    | true => rfl
    | false => exact absurd (by simp [e, hf]) this
  · intro h p hp hc
    simp only [Bool.and_eq_true, beq_iff_eq, Bool.not_eq_true'] at hc
    rw [h p hp hc.1] at hc
    cases hc.2
theorem cntP_congr {P : List Pr} {f g : Pr → Bool} (h : ∀ p ∈ P, f p = g p) (i : Nat) : cntP P f i = cntP P g i := by
  unfold cntP
  exact List.countP_congr fun p hp => by rw [h p hp]
theorem cntP_drop {P : List Pr} {f g : Pr → Bool} {p0 : Pr} (hn : P.Nodup) (h0 : p0 ∈ P) (hf : f p0 = false) (hg : ∀ p ∈ P, g p = (f p || p == p0)) (a : Nat) :
    cntP P g a + (if a = p0.1 then 1 else 0) = cntP P f a := by
  induction P with
  | nil => cases h0
  | cons p r ih =>
    rw [List.nodup_cons] at hn
    have hgr : ∀ p ∈ r, g p = (f p || p == p0) := fun q hq => hg q (List.mem_cons_of_mem _ hq)
    simp only [cntP, List.countP_cons] at ih ⊢
    rcases List.mem_cons.1 h0 with rfl | h0
    · have hgp : g p0 = true := by rw [hg p0 (List.mem_cons_self)]; simp
      have hrest : r.countP (fun p => p.1 == a && !g p) = r.countP (fun p => p.1 == a && !f p) := List.countP_congr fun q hq => by
        rw [hgr q hq]
        have : (q == p0) = false := by
          rw [beq_eq_false_iff_ne]
          rintro rfl
          exact hn.1 hq
        rw [this, Bool.or_false]
      rw [hrest]
      by_cases e : p0.1 = a
      · simp [hgp, hf, e]
      · have : ¬ a = p0.1 := fun h => e h.symm
        simp [e, this]
    · have hgp : g p = f p := by
        rw [hg p (List.mem_cons_self)]
        have : (p == p0) = false := by
          rw [beq_eq_false_iff_ne]
          rintro rfl
          exact hn.1 h0
        rw [this, Bool.or_false]
      rw [hgp, ← ih hn.2 h0 hgr]
      omega

/-- What pairs of places there are: each with one that it waits for. -/
def pairsTo (l : List Bd) : Nat → List Pr
  | 0 => []
  | i + 1 => pairsTo l i ++ (deps l i).map fun q => (i, q)
theorem pairsTo_mem {l : List Bd} : ∀ {n i q : Nat}, (i, q) ∈ pairsTo l n ↔ i < n ∧ q ∈ deps l i
  | 0, i, q => by simp [pairsTo]
  | n + 1, i, q => by
    simp only [pairsTo, List.mem_append, pairsTo_mem (n := n), List.mem_map, Prod.mk.injEq]
    constructor
    · rintro (⟨h1, h2⟩ | ⟨x, hx, rfl, rfl⟩)
      · exact ⟨by omega, h2⟩
      · exact ⟨by omega, hx⟩
    · rintro ⟨h1, h2⟩
      by_cases e : i = n
      · exact .inr ⟨q, e ▸ h2, e.symm, rfl⟩
      · exact .inl ⟨by omega, h2⟩
theorem pairsTo_nodup (l : List Bd) : ∀ n, (pairsTo l n).Nodup
  | 0 => by simp [pairsTo]
  | n + 1 => by
    refine List.nodup_append.2 ⟨pairsTo_nodup l n, ?_, fun a ha b hb e => ?_⟩
    · have := deps_nodup l n
      exact List.Pairwise.map _ (fun a b h e => h (by simpa using e)) this
    · subst e
      obtain ⟨q, hq, rfl⟩ := List.mem_map.1 hb
      have := (pairsTo_mem.1 ha).1
      omega
def pairsL (l : List Bd) : List Pr := pairsTo l l.length
theorem pairsL_mem {l : List Bd} {i q : Nat} : (i, q) ∈ pairsL l ↔ i < l.length ∧ q ∈ deps l i := pairsTo_mem
theorem deps_length (l : List Bd) (i : Nat) : (deps l i).length ≤ l.length := by
  have : ∀ (n : Nat) (s : List Nat), s.Nodup → (∀ x ∈ s, x < n) → s.length ≤ n := by
    intro n
    induction n with
    | zero => intro s _ h; cases s with
      | nil => simp
      | cons x r => exact absurd (h x (List.mem_cons_self)) (by omega)
    | succ n ih =>
      intro s hs h
      by_cases hm : n ∈ s
      · have h1 := ih (s.erase n) (hs.erase n) fun x hx => by
          have := (List.Nodup.mem_erase_iff hs).1 hx
          have := h x this.2
          omega
        rw [List.length_erase_of_mem hm] at h1
        omega
      · have := ih s hs fun x hx => by
          have h2 := h x hx
          have : x ≠ n := fun e => hm (e ▸ hx)
          omega
        omega
  exact this _ _ (deps_nodup l i) fun x hx => deps_lt hx
theorem nodup_len : ∀ (n : Nat) (s : List Nat), s.Nodup → (∀ x ∈ s, x < n) → s.length ≤ n := by
  intro n
  induction n with
  | zero => intro s _ h; cases s with
    | nil => simp
    | cons x r => exact absurd (h x (List.mem_cons_self)) (by omega)
  | succ n ih =>
    intro s hs h
    by_cases hm : n ∈ s
    · have h1 := ih (s.erase n) (hs.erase n) fun x hx => by
        have := (List.Nodup.mem_erase_iff hs).1 hx
        have := h x this.2
        omega
      rw [List.length_erase_of_mem hm] at h1
      omega
    · have := ih s hs fun x hx => by
        have h2 := h x hx
        have : x ≠ n := fun e => hm (e ▸ hx)
        omega
      omega
theorem nodup_all {n : Nat} {s : List Nat} (hs : s.Nodup) (h : ∀ x ∈ s, x < n) (hl : n ≤ s.length) {i : Nat} (hi : i < n) : i ∈ s := by
  refine Classical.byContradiction fun hc => ?_
  have := nodup_len n (i :: s) (List.nodup_cons.2 ⟨hc, hs⟩) fun x hx => by
    rcases List.mem_cons.1 hx with rfl | hx
    · exact hi
    · exact h x hx
  simp at this
  omega

/-- The order so far, with the pairs that are done with. -/
structure KInv (l : List Bd) (os : List Nat) (f : Pr → Bool) : Prop where
  lt : ∀ x ∈ os, x < l.length
  nodup : os.Nodup
  mem : ∀ i, i < l.length → (i ∈ os ↔ cntP (pairsL l) f i = 0)
  order : ∀ j (h : j < os.length), ∀ q ∈ deps l os[j], q ∈ os.take j
theorem KInv.congr {l : List Bd} {os : List Nat} {f g : Pr → Bool} (h : KInv l os f) (hfg : ∀ p ∈ pairsL l, f p = g p) : KInv l os g :=
  ⟨h.lt, h.nodup, fun i hi => by rw [h.mem i hi, cntP_congr hfg], h.order⟩
theorem KInv.length {l : List Bd} {os : List Nat} {f : Pr → Bool} (h : KInv l os f) : os.length ≤ l.length := nodup_len _ _ h.nodup h.lt
/-- The first places: those that wait for none. -/
def firsts (l : List Bd) (n : Nat) : List Nat := (List.range n).filter fun i => cntP (pairsL l) (fun _ => false) i == 0
theorem firsts_succ (l : List Bd) (n : Nat) : firsts l (n + 1) = if cntP (pairsL l) (fun _ => false) n = 0 then firsts l n ++ [n] else firsts l n := by
  simp only [firsts, List.range_succ, List.filter_append, List.filter_cons, List.filter_nil]
  by_cases h : cntP (pairsL l) (fun _ => false) n = 0
  · simp [h]
  · simp [h]
theorem firsts_length (l : List Bd) (n : Nat) : (firsts l n).length ≤ n := by
  have := List.length_filter_le (fun i => cntP (pairsL l) (fun _ => false) i == 0) (List.range n)
  simpa [firsts] using this
theorem KInv.start (l : List Bd) : KInv l (firsts l l.length) (fun _ => false) := by
  have hm : ∀ i, i ∈ firsts l l.length ↔ i < l.length ∧ cntP (pairsL l) (fun _ => false) i = 0 := fun i => by simp [firsts]
  refine ⟨fun x hx => ((hm x).1 hx).1, List.Pairwise.filter _ List.nodup_range, fun i hi => by rw [hm]; exact ⟨fun h => h.2, fun h => ⟨hi, h⟩⟩, fun j hj q hq => ?_⟩
  have h := (hm _).1 (List.getElem_mem hj)
  have := cntP_zero.1 h.2 (_, q) (pairsL_mem.2 ⟨h.1, hq⟩) rfl
  cases this
def doneF (l : List Bd) (os : List Nat) (k m : Nat) (p : Pr) : Bool := decide (p.2 ∈ os) || (p.2 == k && decide (p.1 ∈ (behP (pairsL l) k).take m))
theorem KInv.inner {l : List Bd} {os : List Nat} {j : Nat} (hj : j < os.length) (h : KInv l os fun p => decide (p.2 ∈ os.take j)) : KInv l os (doneF l (os.take j) os[j] 0) :=
  h.congr fun p _ => by simp [doneF]
theorem KInv.outer {l : List Bd} {os : List Nat} {j m : Nat} (hj : j < os.length) (hm : (behP (pairsL l) os[j]).length ≤ m) (h : KInv l os (doneF l (os.take j) os[j] m)) : KInv l os fun p => decide (p.2 ∈ os.take (j + 1)) :=
  h.congr fun p hp => by
    rw [doneF, List.take_of_length_le hm, List.take_succ_eq_append_getElem hj, Bool.eq_iff_iff]
    simp only [Bool.or_eq_true, decide_eq_true_eq, Bool.and_eq_true, beq_iff_eq, List.mem_append, List.mem_singleton, behP_mem]
    constructor
    · rintro (h1 | ⟨h1, _⟩)
      · exact .inl h1
      · exact .inr h1
    · rintro (h1 | h1)
      · exact .inl h1
      · exact .inr ⟨h1, by rw [← h1]; exact hp⟩
/-- One place more is waited for no longer. -/
theorem KInv.step {l : List Bd} {os : List Nat} {j m : Nat} (hj : j < os.length) (hm : m < (behP (pairsL l) os[j]).length) (h : KInv l os (doneF l (os.take j) os[j] m)) :
    (∀ a, cntP (pairsL l) (doneF l (os.take j) os[j] (m + 1)) a + (if a = (behP (pairsL l) os[j])[m] then 1 else 0) = cntP (pairsL l) (doneF l (os.take j) os[j] m) a) ∧ (behP (pairsL l) os[j])[m] < l.length ∧
    (cntP (pairsL l) (doneF l (os.take j) os[j] (m + 1)) (behP (pairsL l) os[j])[m] = 0 → KInv l (os ++ [(behP (pairsL l) os[j])[m]]) (doneF l (os.take j) os[j] (m + 1))) ∧
    (cntP (pairsL l) (doneF l (os.take j) os[j] (m + 1)) (behP (pairsL l) os[j])[m] ≠ 0 → KInv l os (doneF l (os.take j) os[j] (m + 1))) := by
  obtain ⟨k, hk⟩ : ∃ k, os[j] = k := ⟨_, rfl⟩
  obtain ⟨i0, hi0⟩ : ∃ i0, (behP (pairsL l) os[j])[m] = i0 := ⟨_, rfl⟩
  have hin : (i0, k) ∈ pairsL l := by rw [← hi0, ← hk]; exact behP_mem.1 (List.getElem_mem hm)
  have hi0l : i0 < l.length := (pairsL_mem.1 hin).1
  have hPn : (pairsL l).Nodup := pairsTo_nodup l l.length
  have hbn := behP_nodup os[j] hPn
  have hnot : i0 ∉ (behP (pairsL l) os[j]).take m := fun hc => by
    obtain ⟨x, hx, e⟩ := List.getElem_of_mem hc
    rw [List.getElem_take, ← hi0] at e
    have := (List.getElem_inj hbn).1 e
    simp at hx
    omega
  have hkn : k ∉ os.take j := fun hc => by
    obtain ⟨x, hx, e⟩ := List.getElem_of_mem hc
    rw [List.getElem_take, ← hk] at e
    have := (List.getElem_inj h.nodup).1 e
    simp at hx
    omega
  have hf0 : doneF l (os.take j) os[j] m (i0, k) = false := by
    simp [doneF, hkn, hnot]
  have hg : ∀ p ∈ pairsL l, doneF l (os.take j) os[j] (m + 1) p = (doneF l (os.take j) os[j] m p || p == (i0, k)) := fun p _ => by
    rw [Bool.eq_iff_iff]
    have ht : (behP (pairsL l) os[j]).take (m + 1) = (behP (pairsL l) os[j]).take m ++ [i0] := by rw [List.take_succ_eq_append_getElem hm, hi0]
    simp only [doneF, ht, Bool.or_eq_true, decide_eq_true_eq, Bool.and_eq_true, beq_iff_eq, List.mem_append, List.mem_singleton]
    constructor
    · rintro (h1 | ⟨h1, h2 | h2⟩)
      · exact .inl (.inl h1)
      · exact .inl (.inr ⟨h1, h2⟩)
      · exact .inr (by cases p; simp at h1 h2; rw [h1, h2, hk])
    · rintro ((h1 | ⟨h1, h2⟩) | h1)
      · exact .inl h1
      · exact .inr ⟨h1, .inl h2⟩
      · subst h1
        exact .inr ⟨hk.symm, .inr rfl⟩
  have hd := cntP_drop hPn hin hf0 hg
  rw [hi0]
  have hno : i0 ∉ os := fun hc => by
    have h1 := (h.mem i0 hi0l).1 hc
    have h2 := hd i0
    simp only [if_true] at h2
    omega
  refine ⟨hd, hi0l, fun hz => ?_, fun hz => ?_⟩
  · refine ⟨fun x hx => ?_, ?_, fun i hi => ?_, fun a ha q hq => ?_⟩
    · rcases List.mem_append.1 hx with hx | hx
      · exact h.lt x hx
      · simp at hx; omega
    · refine List.nodup_append.2 ⟨h.nodup, by simp, fun a ha b hb e => ?_⟩
      simp at hb
      subst hb; subst e
      exact hno ha
    · have h2 := hd i
      rw [List.mem_append, List.mem_singleton, h.mem i hi]
      by_cases e : i = i0
      · subst e
        exact ⟨fun _ => hz, fun _ => .inr rfl⟩
      · simp only [e, if_false] at h2
        rw [show cntP (pairsL l) (doneF l (os.take j) os[j] m) i = cntP (pairsL l) (doneF l (os.take j) os[j] (m + 1)) i by omega]
        simp [e]
    · by_cases e : a < os.length
      · rw [List.getElem_append_left e] at hq
        rw [List.take_append_of_le_length (by omega)]
        exact h.order a e q hq
      · have ea : a = os.length := by simp at ha; omega
        subst ea
        rw [List.getElem_append_right (Nat.le_refl _)] at hq
        simp at hq
        rw [List.take_append_of_le_length (Nat.le_refl _), List.take_length]
        have hz2 := cntP_zero.1 hz (i0, q) (pairsL_mem.2 ⟨hi0l, hq⟩) rfl
        simp only [doneF, Bool.or_eq_true, decide_eq_true_eq, Bool.and_eq_true, beq_iff_eq] at hz2
        rcases hz2 with hz2 | ⟨hz2, _⟩
        · exact List.mem_of_mem_take hz2
        · rw [hz2]; exact List.getElem_mem hj
  · refine ⟨h.lt, h.nodup, fun i hi => ?_, h.order⟩
    have h2 := hd i
    rw [h.mem i hi]
    by_cases e : i = i0
    · subst e
      simp only [if_true] at h2
      omega
    · simp only [e, if_false] at h2
      omega

/-- The whole order. -/
structure Kahn (l : List Bd) (os : List Nat) : Prop where
  lt : ∀ x ∈ os, x < l.length
  nodup : os.Nodup
  order : ∀ j (h : j < os.length), ∀ q ∈ deps l os[j], q ∈ os.take j
  all : ∀ i, i < l.length → (∀ q ∈ deps l i, q ∈ os) → i ∈ os
theorem KInv.done {l : List Bd} {os : List Nat} (h : KInv l os fun p => decide (p.2 ∈ os.take os.length)) : Kahn l os :=
  ⟨h.lt, h.nodup, h.order, fun i hi hq => (h.mem i hi).2 (cntP_zero.2 fun p hp e => by
    rw [List.take_length]
    refine decide_eq_true (hq p.2 ?_)
    rw [← e]
    exact (pairsL_mem.1 hp).2)⟩
theorem Kahn.mem {l : List Bd} {os : List Nat} (h : Kahn l os) (hl : l.length ≤ os.length) {i : Nat} (hi : i < l.length) : i ∈ os := nodup_all h.nodup h.lt hl hi
theorem Kahn.ranked {l : List Bd} {os : List Nat} (h : Kahn l os) (hl : l.length ≤ os.length) : ∃ r, Ranked l r := by
  refine ⟨fun i => os.idxOf i, fun i hi q hq => ?_⟩
  have hm := h.mem hl hi
  have hx := List.idxOf_lt_length_of_mem hm
  have hg : os[os.idxOf i] = i := List.getElem_idxOf hx
  have := h.order _ hx q (by rw [hg]; exact hq)
  obtain ⟨x, hx2, e⟩ := List.getElem_of_mem this
  rw [List.getElem_take] at e
  simp at hx2
  have : os.idxOf q = x := by rw [← e]; exact List.Nodup.idxOf_getElem h.nodup _ (by omega)
  show os.idxOf q < os.idxOf i
  omega
theorem Kahn.stuck {l : List Bd} {os : List Nat} (h : Kahn l os) (hl : os.length < l.length) : ¬ ∃ r, Ranked l r := by
  rintro ⟨r, hr⟩
  have hex : ∃ i, i < l.length ∧ i ∉ os := by
    refine Classical.byContradiction fun hc => ?_
    have hall : ∀ i, i < l.length → i ∈ os := fun i hi => Classical.byContradiction fun hn => hc ⟨i, hi, hn⟩
    have : ∀ (n : Nat) (s : List Nat), (∀ i, i < n → i ∈ s) → n ≤ s.length := by
      intro n
      induction n with
      | zero => intro s _; omega
      | succ n ih =>
        intro s hs
        have h1 := ih (s.erase n) fun i hi => by
          have := hs i (by omega)
          exact (List.mem_erase_of_ne (by omega)).2 this
        rw [List.length_erase_of_mem (hs n (by omega))] at h1
        have : 0 < s.length := List.length_pos_of_mem (hs n (by omega))
        omega
    have := this l.length os hall
    omega
  have key : ∀ m i, r i < m → i < l.length → i ∉ os → False := by
    intro m
    induction m with
    | zero => intro i h1; omega
    | succ m ih =>
      intro i h1 hi hn
      refine hn (h.all i hi fun q hq => Classical.byContradiction fun hc => ?_)
      have := hr i hi q hq
      exact ih q (by omega) (deps_lt hq) hc
  obtain ⟨i, hi, hn⟩ := hex
  exact key (r i + 1) i (by omega) hi hn
end Go.Proofs.Ytjbicfimoiiglaa
