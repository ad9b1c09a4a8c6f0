/-
  Embedded terms, purely: the relation, that it is an order, and that what is embedded is no greater.
-/
import Derived.Test.YtomdccejgmhfoaaTm
namespace Go.Proofs.Ytomdccejgmhfoaa
open Go.RowKit

/-- Do two terms begin alike, so that their Args are compared? -/
def topE (a b : Tm) : Bool := decide (a.kind = b.kind ∧ (a.kind ≠ 3 ∨ a.name = b.name ∧ a.args.length = b.args.length))
theorem topE_iff {a b : Tm} : topE a b = true ↔ a.kind = b.kind ∧ (a.kind ≠ 3 ∨ a.name = b.name ∧ a.args.length = b.args.length) := by simp [topE]
namespace Tm
mutual
/-- Is a term (the second one) embedded in this one? -/
def emb : Tm → Tm → Bool
  | .mk k s n l, a => (topE a (.mk k s n l) && embs l a.args) || embAny l a
def embs : List Tm → List Tm → Bool
  | [], _ => true
  | _ :: _, [] => true
  | y :: r, x :: q => y.emb x && embs r q
def embAny : List Tm → Tm → Bool
  | [], _ => false
  | y :: r, a => y.emb a || embAny r a
end
theorem embAny_iff {a : Tm} : ∀ {l : List Tm}, embAny l a = true ↔ ∃ y ∈ l, y.emb a = true
  | [] => by simp [embAny]
  | y :: r => by
    simp only [embAny, Bool.or_eq_true, embAny_iff (l := r), List.mem_cons]
    constructor
    · rintro (h | ⟨z, hz, h⟩)
      · exact ⟨y, .inl rfl, h⟩
      · exact ⟨z, .inr hz, h⟩
    · rintro ⟨z, rfl | hz, h⟩
      · exact .inl h
      · exact .inr ⟨z, hz, h⟩
theorem embs_iff : ∀ {l q : List Tm}, l.length = q.length → (embs l q = true ↔ ∀ i (h : i < l.length) (h' : i < q.length), l[i].emb q[i] = true)
  | [], [], _ => by simp [embs]
  | [], _ :: _, h => by simp at h
  | _ :: _, [], h => by simp at h
  | y :: r, x :: q, h => by
    simp only [embs, Bool.and_eq_true]
    rw [embs_iff (l := r) (q := q) (by simpa using h)]
    constructor
    · rintro ⟨h1, h2⟩ i hi hi'
      cases i with
      | zero => exact h1
      | succ i => exact h2 i (by simpa using hi) (by simpa using hi')
    · intro hh
      exact ⟨hh 0 (by simp) (by simp), fun i hi hi' => hh (i + 1) (by simpa using hi) (by simpa using hi')⟩
theorem emb_iff {a b : Tm} : b.emb a = true ↔ (topE a b = true ∧ embs b.args a.args = true) ∨ ∃ y ∈ b.args, y.emb a = true := by
  obtain ⟨k, s, n, l⟩ := b
  simp only [emb, Bool.or_eq_true, Bool.and_eq_true, embAny_iff, args]
theorem emb_arg {a b y : Tm} (hy : y ∈ b.args) (h : y.emb a = true) : b.emb a = true := emb_iff.2 (.inr ⟨y, hy, h⟩)
theorem topE_self (a : Tm) : topE a a = true := topE_iff.2 ⟨rfl, .inr ⟨rfl, rfl⟩⟩
/-- A term is embedded in itself. -/
theorem emb_self : ∀ a : Tm, a.emb a = true := ind fun k s n l ih => by
  refine emb_iff.2 (.inl ⟨topE_self _, ?_⟩)
  exact (embs_iff rfl).2 fun i h _ => ih _ (List.getElem_mem h)
theorem emb_args (a : Tm) {y : Tm} (h : y ∈ a.args) : a.emb y = true := emb_arg h (emb_self y)
theorem alone_kinds {k n : Int} {s : ByteArray} {m : Nat} (h : alone k s n m = true) : (k = 1 ∧ s.toList = [] ∧ m = 0) ∨ (k = 2 ∧ s.toList = [] ∧ m = 0) ∨ (k = 3 ∧ n = 0) := by
  unfold alone at h
  split at h
  · rename_i hk
    simp only [Bool.and_eq_true, decide_eq_true_eq, beq_iff_eq] at h
    exact .inl ⟨hk, h.1.2, by omega⟩
  · split at h
    · rename_i hk
      simp only [Bool.and_eq_true, decide_eq_true_eq, beq_iff_eq] at h
      exact .inr (.inl ⟨hk, h.1, by omega⟩)
    · split at h
      · rename_i hk
        simp only [Bool.and_eq_true, decide_eq_true_eq] at h
        exact .inr (.inr ⟨hk, h.1.1.1⟩)
      · cases h
theorem alone_args {k n : Int} {s : ByteArray} {m : Nat} (h : alone k s n m = true) (hk : k ≠ 3) : m = 0 := by
  rcases alone_kinds h with h | h | h
  · exact h.2.2
  · exact h.2.2
  · exact absurd h.1 hk
theorem fair_own {k n : Int} {s : ByteArray} {l : List Tm} (h : (Tm.mk k s n l).fair = true) : alone k s n l.length = true ∧ ∀ t ∈ l, t.fair = true := by
  simp only [fair, Bool.and_eq_true, fairs_all, List.all_eq_true] at h
  exact ⟨h.2, h.1.2⟩
/-- Fair terms that begin alike have as many Args. -/
theorem topE_len {a b : Tm} (ha : a.fair = true) (hb : b.fair = true) (h : topE a b = true) : a.args.length = b.args.length := by
  obtain ⟨h1, h2⟩ := topE_iff.1 h
  rcases h2 with h2 | h2
  · have key : ∀ t : Tm, t.fair = true → t.kind ≠ 3 → t.args.length = 0 := fun t ht hk => by
      obtain ⟨k, s, n, l⟩ := t
      exact alone_args (fair_own ht).1 hk
    rw [key a ha h2, key b hb (h1 ▸ h2)]
  · exact h2.2
theorem fair_mem {a t : Tm} (h : a.fair = true) (ht : t ∈ a.args) : t.fair = true := by
  obtain ⟨k, s, n, l⟩ := a
  exact (fair_own h).2 t ht
/-- What is embedded in what is embedded in a third is embedded in that. -/
theorem emb_trans : ∀ c : Tm, c.fair = true → ∀ b a : Tm, b.fair = true → a.fair = true → c.emb b = true → b.emb a = true → c.emb a = true := ind fun k s n l ih hc b a hb ha h1 h2 => by
  rcases emb_iff.1 h1 with ⟨ht, hs⟩ | ⟨y, hy, h⟩
  · have hlen := topE_len hb hc ht
    have hs' := (embs_iff hlen.symm).1 hs
    rcases emb_iff.1 h2 with ⟨hu, hr⟩ | ⟨x, hx, h⟩
    · have hlen2 := topE_len ha hb hu
      have hr' := (embs_iff hlen2.symm).1 hr
      refine emb_iff.2 (.inl ⟨?_, ?_⟩)
      · obtain ⟨e1, e2⟩ := topE_iff.1 ht
        obtain ⟨f1, f2⟩ := topE_iff.1 hu
        refine topE_iff.2 ⟨f1.trans e1, ?_⟩
        rcases e2 with e2 | e2
        · exact .inl (f1 ▸ e2)
        · rcases f2 with f2 | f2
          · exact .inl f2
          · exact .inr ⟨f2.1.trans e2.1, f2.2.trans e2.2⟩
      · refine (embs_iff (by omega)).2 fun i hi hi' => ?_
        have hib : i < b.args.length := by omega
        exact ih _ (List.getElem_mem hi) (fair_mem hc (List.getElem_mem hi)) b.args[i] _ (fair_mem hb (List.getElem_mem hib)) (fair_mem ha (List.getElem_mem hi')) (hs' i hi hib) (hr' i hib hi')
    · obtain ⟨i, hi, rfl⟩ := List.getElem_of_mem hx
      have hic : i < l.length := by rw [← show (Tm.mk k s n l).args.length = l.length from rfl, ← hlen]; exact hi
      exact emb_arg (List.getElem_mem hic) (ih _ (List.getElem_mem hic) (fair_mem hc (List.getElem_mem hic)) b.args[i] a (fair_mem hb (List.getElem_mem hi)) ha (hs' i hic hi) h)
  · exact emb_arg hy (ih y hy (fair_mem hc hy) b a hb ha h h2)
mutual
/-- A term whose Vars are all alike, and whose Nums are. -/
def blind : Tm → Tm
  | .mk k s _ l => .mk k s 0 (blinds l)
def blinds : List Tm → List Tm
  | [] => []
  | t :: r => t.blind :: blinds r
end
theorem blinds_map (l : List Tm) : blinds l = l.map blind := by
  induction l with
  | nil => rfl
  | cons t r ih => simp [blinds, ih]
theorem sizes_le : ∀ (l q : List Tm) (_ : l.length = q.length) (_ : ∀ i (h : i < l.length) (h' : i < q.length), q[i].size ≤ l[i].size), sizes q ≤ sizes l
  | [], [], _, _ => Nat.le_refl _
  | [], _ :: _, h, _ => by simp at h
  | _ :: _, [], h, _ => by simp at h
  | y :: r, x :: q, h, hh => by
    have h1 := hh 0 (by simp) (by simp)
    have h2 := sizes_le r q (by simpa using h) fun i hi hi' => by
      have := hh (i + 1) (by simpa using hi) (by simpa using hi')
      simpa using this
    simp only [List.getElem_cons_zero] at h1
    simp only [sizes]
    omega
theorem sizes_eq : ∀ (l q : List Tm) (_ : l.length = q.length) (_ : ∀ i (h : i < l.length) (h' : i < q.length), q[i].size ≤ l[i].size), sizes q = sizes l → ∀ i (h : i < l.length) (h' : i < q.length), q[i].size = l[i].size
  | [], [], _, _, _ => fun i h => absurd h (Nat.not_lt_zero _)
  | [], _ :: _, h, _, _ => by simp at h
  | _ :: _, [], h, _, _ => by simp at h
  | y :: r, x :: q, h, hh, he => by
    have h1 := hh 0 (by simp) (by simp)
    have hr : ∀ i (h : i < r.length) (h' : i < q.length), q[i].size ≤ r[i].size := fun i hi hi' => by
      have := hh (i + 1) (by simpa using hi) (by simpa using hi')
      simpa using this
    have h2 := sizes_le r q (by simpa using h) hr
    simp only [List.getElem_cons_zero] at h1
    simp only [sizes] at he
    have h3 := sizes_eq r q (by simpa using h) hr (by omega)
    intro i hi hi'
    cases i with
    | zero => simp only [List.getElem_cons_zero]; omega
    | succ i => simpa using h3 i (by simpa using hi) (by simpa using hi')
theorem size_args (t : Tm) : t.size = sizes t.args + 1 := by cases t; simp [size, args]
theorem toList_nil {s s' : ByteArray} (h : s.toList = []) (h' : s'.toList = []) : s = s' := by
  have h1 := (size0 s).2 h
  have h2 := (size0 s').2 h'
  exact ByteArray.ext (by
    have e1 : s.data = #[] := Array.eq_empty_of_size_eq_zero h1
    have e2 : s'.data = #[] := Array.eq_empty_of_size_eq_zero h2
    rw [e1, e2])
theorem emb_grows : ∀ c : Tm, c.fair = true → ∀ a : Tm, a.fair = true → c.emb a = true → a.size ≤ c.size ∧ (a.size = c.size → a.blind = c.blind) := ind fun k s n l ih hc a ha h => by
  rcases emb_iff.1 h with ⟨ht, hs⟩ | ⟨y, hy, h⟩
  · have hlen := topE_len ha hc ht
    have hs' := (embs_iff hlen.symm).1 hs
    have hq : ∀ i (h : i < l.length) (h' : i < a.args.length), a.args[i].size ≤ l[i].size ∧ (a.args[i].size = l[i].size → a.args[i].blind = l[i].blind) := fun i hi hi' =>
      ih _ (List.getElem_mem hi) (fair_mem hc (List.getElem_mem hi)) _ (fair_mem ha (List.getElem_mem hi')) (hs' i hi hi')
    have hle := sizes_le l a.args hlen.symm fun i hi hi' => (hq i hi hi').1
    have e1 := size_args a
    have e2 := size_args (.mk k s n l)
    simp only [args] at e2
    refine ⟨by omega, fun he => ?_⟩
    have heq := sizes_eq l a.args hlen.symm (fun i hi hi' => (hq i hi hi').1) (by omega)
    obtain ⟨k', s', n', l'⟩ := a
    obtain ⟨q1, q2⟩ := topE_iff.1 ht
    simp only [kind, name, args] at q1 q2 hlen hq heq
    have hls : l'.map blind = l.map blind := List.ext_getElem (by simpa using hlen) fun i hi hi' => by
      simp only [List.getElem_map]
      exact (hq i (by simpa using hi') (by simpa using hi)).2 (heq i (by simpa using hi') (by simpa using hi))
    have hss : s' = s := by
      rcases q2 with q2 | q2
      · have h1 := alone_kinds (fair_own ha).1
        have h2 := alone_kinds (fair_own hc).1
        have g1 : s'.toList = [] := by
          rcases h1 with h | h | h
          · exact h.2.1
          · exact h.2.1
          · exact absurd h.1 q2
        have g2 : s.toList = [] := by
          rcases h2 with h | h | h
          · exact h.2.1
          · exact h.2.1
          · exact absurd (q1.trans h.1) q2
        exact toList_nil g1 g2
      · exact q2.1
    simp only [blind, blinds_map, hls, q1, hss]
  · have h1 := ih y hy (fair_mem hc hy) a ha h
    have h2 : y.size ≤ sizes l := size_mem_le hy
    have h3 := h1.1
    have e2 := size_args (.mk k s n l)
    simp only [args] at e2
    exact ⟨by omega, fun he => by omega⟩
end Tm
end Go.Proofs.Ytomdccejgmhfoaa
