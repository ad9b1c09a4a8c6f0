/-
  Reading elsewhere: what is read well ahead of an End is read well ahead of whatever ends a term.
-/
import Derived.Test.YtilfglcjcmpfeaaGreatDoorSim
namespace Go.Proofs.YtilfglcjcmpfeaaGreatDoor
open Go.RowKit

def EndU (u : Toks) : Prop := ∃ y q, u = y :: q ∧ y.1.kind = 5
def DeadU (u : Toks) : Prop := ∃ y q, u = y :: q ∧ (y.1.kind = 5 ∨ (y.1.kind = 4 ∧ y.1.text = [41]))
theorem EndU.dead {u : Toks} (h : EndU u) : DeadU u := by
  obtain ⟨y, q, e, h⟩ := h
  exact ⟨y, q, e, .inl h⟩
theorem dead_see {u : Toks} (h : DeadU u) {m : UInt8} (hm : m ≠ 41) : seeT m u = false := by
  obtain ⟨y, q, rfl, h⟩ := h
  show decide (y.1.kind = 4 ∧ y.1.text = [m]) = false
  rw [decide_eq_false_iff_not]
  rintro ⟨h1, h2⟩
  rcases h with h | ⟨_, h⟩
  · omega
  · rw [h] at h2
    injection h2 with h2 _
    exact hm h2.symm
theorem end_see {u : Toks} (h : EndU u) (m : UInt8) : seeT m u = false := by
  obtain ⟨y, q, rfl, h⟩ := h
  show decide (y.1.kind = 4 ∧ y.1.text = [m]) = false
  rw [decide_eq_false_iff_not]
  rintro ⟨h1, h2⟩
  omega
theorem dead_op {u : Toks} (h : DeadU u) (now p : Nat) : opT now p u = false := by
  obtain ⟨y, q, rfl, h⟩ := h
  show decide _ = false
  rw [decide_eq_false_iff_not]
  rintro ⟨h1, _⟩
  rcases h with h | ⟨h, h2⟩
  · omega
  · rcases h1 with h1 | ⟨_, h1⟩
    · omega
    · rw [h2] at h1
      cases h1
theorem dead_beg {u : Toks} (h : DeadU u) : begT u = false := by
  obtain ⟨y, q, rfl, h⟩ := h
  show decide _ = false
  rw [decide_eq_false_iff_not]
  rintro (h1 | h1 | ⟨h1, _⟩ | ⟨_, h1⟩)
  · omega
  · omega
  · omega
  · rcases h with h | ⟨_, h⟩
    · omega
    · rw [h] at h1
      rcases h1 with h1 | h1 <;> cases h1
theorem dead_num {u : Toks} (h : DeadU u) (p : Nat) : numAt p u = false := by
  obtain ⟨y, q, rfl, h⟩ := h
  show decide _ = false
  rw [decide_eq_false_iff_not]
  rintro ⟨h1, _⟩
  omega
section
variable {u1 u2 : Toks} (h1 : EndU u1) (h2 : DeadU u2) (d : Nat)
include h1 h2
theorem app_see {m : UInt8} (hm : m ≠ 41) (ts : Toks) : seeT m (sh d ts ++ u2) = seeT m (ts ++ u1) := by
  cases ts with
  | nil => rw [sh_nil, List.nil_append, List.nil_append, dead_see h2 hm, end_see h1]
  | cons x r => rfl
theorem app_op (now p : Nat) (ts : Toks) : opT now p (sh d ts ++ u2) = opT now p (ts ++ u1) := by
  cases ts with
  | nil => rw [sh_nil, List.nil_append, List.nil_append, dead_op h2, dead_op h1.dead]
  | cons x r => rfl
theorem app_beg (ts : Toks) : begT (sh d ts ++ u2) = begT (ts ++ u1) := by
  cases ts with
  | nil => rw [sh_nil, List.nil_append, List.nil_append, dead_beg h2, dead_beg h1.dead]
  | cons x r => rfl
theorem app_num (p : Nat) (ts : Toks) : numAt (p + d + 1) (sh d ts ++ u2) = numAt (p + 1) (ts ++ u1) := by
  cases ts with
  | nil => rw [sh_nil, List.nil_append, List.nil_append, dead_num h2, dead_num h1.dead]
  | cons x r => exact sh_num d p (x :: r)
theorem app_need {S S' : List UInt8} {m : UInt8} {ts rr : Toks} (h : needT S m (ts ++ u1) = .ok rr) : ∃ x r, ts = x :: r ∧ rr = r ++ u1 ∧ needT S' m (sh d ts ++ u2) = .ok (sh d r ++ u2) := by
  have _h2 := h2
  unfold needT at h
  split at h
  · rename_i hs
    injection h with h
    cases ts with
    | nil => rw [List.nil_append, end_see h1] at hs; cases hs
    | cons x r =>
      refine ⟨x, r, rfl, h.symm, ?_⟩
      unfold needT
      rw [if_pos (show seeT m (sh d (x :: r) ++ u2) = true from hs)]
      rfl
  · cases h
omit h2 in
theorem app_cons {m : UInt8} {ts : Toks} (h : seeT m (ts ++ u1) = true) : ∃ x r, ts = x :: r := by
  cases ts with
  | nil => rw [List.nil_append, end_see h1] at h; cases h
  | cons x r => exact ⟨x, r, rfl⟩
end
theorem fuel_pos {f' k : Nat} (h : k + 1 ≤ f') : ∃ g, f' = g + 1 := ⟨f' - 1, by omega⟩
theorem rd_ok {S S' : List UInt8} {u1 u2 : Toks} (h1 : EndU u1) (h2 : DeadU u2) {d N : Nat} (hm : ∀ i, i < N → S'[i + d]? = S[i]?) : ∀ f : Nat,
    (∀ t now p deep ts ns v rs ns', rdRest S f t now p deep (ts ++ u1) ns = .ok (v, rs, ns') → (∀ x ∈ ts, x.2 < N) → ∀ f' deep', 4 * ts.length + 1 ≤ f' → (deep' = deep ∨ deep' + ts.length ≤ 1000) →
      ∃ r, rs = r ++ u1 ∧ (∃ w, ts = w ++ r) ∧ rdRest S' f' t now p deep' (sh d ts ++ u2) ns = .ok (v, sh d r ++ u2, ns')) ∧
    (∀ p deep ts ns v rs ns', rdTerm S f p deep (ts ++ u1) ns = .ok (v, rs, ns') → (∀ x ∈ ts, x.2 < N) → ∀ f' deep', 4 * ts.length + 3 ≤ f' → (deep' = deep ∨ deep' + ts.length ≤ 1000) →
      ∃ r, rs = r ++ u1 ∧ (∃ w, ts = w ++ r) ∧ r.length < ts.length ∧ rdTerm S' f' p deep' (sh d ts ++ u2) ns = .ok (v, sh d r ++ u2, ns')) ∧
    (∀ x p deep ts ns v rs ns', rdName S f x p deep (ts ++ u1) ns = .ok (v, rs, ns') → x.2 < N → (∀ x ∈ ts, x.2 < N) → ∀ f' deep', 4 * ts.length + 4 ≤ f' → (deep' = deep ∨ deep' + 1 + ts.length ≤ 1000) →
      ∃ r, rs = r ++ u1 ∧ (∃ w, ts = w ++ r) ∧ rdName S' f' (shX d x) p deep' (sh d ts ++ u2) ns = .ok (v, sh d r ++ u2, ns')) ∧
    (∀ deep ts ns v rs ns', rdRow S f deep (ts ++ u1) ns = .ok (v, rs, ns') → (∀ x ∈ ts, x.2 < N) → ∀ f' deep', 4 * ts.length + 4 ≤ f' → (deep' = deep ∨ deep' + 1 + ts.length ≤ 1000) →
      ∃ r, rs = r ++ u1 ∧ (∃ w, ts = w ++ r) ∧ r.length < ts.length ∧ rdRow S' f' deep' (sh d ts ++ u2) ns = .ok (v, sh d r ++ u2, ns'))
  | 0 => by
    refine ⟨?_, ?_, ?_, ?_⟩
    · intro t now p deep ts ns v rs ns' h; rw [rdRest] at h; cases h
    · intro p deep ts ns v rs ns' h; rw [rdTerm] at h; cases h
    · intro x p deep ts ns v rs ns' h; rw [rdName] at h; cases h
    · intro deep ts ns v rs ns' h; rw [rdRow] at h; cases h
  | f + 1 => by
    obtain ⟨ih1, ih2, ih3, ih4⟩ := rd_ok h1 h2 hm f
    have hu1 : ∀ t now p deep ns, rdRest S (f + 1) t now p deep u1 ns = .ok (t, u1, ns) := fun t now p deep ns => rest_end (dead_op h1.dead now p)
    have hu2 : ∀ g t now p deep ns, rdRest S' (g + 1) t now p deep u2 ns = .ok (t, u2, ns) := fun g t now p deep ns => rest_end (dead_op h2 now p)
    refine ⟨?_, ?_, ?_, ?_⟩
    · intro t now p deep ts ns v rs ns' h hN f' deep' hf hd
      obtain ⟨g, rfl⟩ := fuel_pos hf
      cases ts with
      | nil =>
        rw [List.nil_append, hu1] at h
        injection h with h; injection h with h3 h; injection h with h4 h5
        subst h3 h4 h5
        exact ⟨[], rfl, ⟨[], rfl⟩, by rw [sh_nil, List.nil_append]; exact hu2 _ _ _ _ _ _⟩
      | cons x r =>
        have hop := app_op h1 h2 d now p (x :: r)
        rw [sh_cons, List.cons_append] at hop ⊢
        rw [List.cons_append] at h hop
        rw [rdRest.eq_def] at h ⊢
        dsimp only at h ⊢
        rw [hop]
        by_cases ho : opT now p (x :: (r ++ u1)) = true
        · rw [if_pos ho] at h ⊢
          cases hr : rdTerm S f (infixP x.1.text).2.2 deep (r ++ u1) ns with
          | error e => rw [hr] at h; cases h
          | ok q =>
            obtain ⟨u, r1, n1⟩ := q
            rw [hr] at h
            dsimp only at h
            simp only [List.length_cons] at hf hd
            obtain ⟨r2, rfl, ⟨w, hw⟩, hlt, ht⟩ := ih2 _ _ _ _ _ _ _ hr (fun y hy => hN y (List.mem_cons_of_mem _ hy)) g deep' (by omega) (by omega)
            rw [show (shX d x).1 = x.1 from rfl, ht]
            obtain ⟨r3, rfl, ⟨w2, hw2⟩, ht2⟩ := ih1 _ _ _ _ _ _ _ _ _ h (fun y hy => hN y (List.mem_cons_of_mem _ (by rw [hw]; exact List.mem_append_right _ hy))) g deep' (by omega) (by omega)
            exact ⟨r3, rfl, ⟨x :: (w ++ w2), by rw [hw, hw2]; simp⟩, ht2⟩
        · rw [if_neg ho] at h ⊢
          injection h with h; injection h with h3 h; injection h with h4 h5
          subst h3 h4 h5
          exact ⟨x :: r, rfl, ⟨[], rfl⟩, rfl⟩
    · intro p deep ts ns v rs ns' h hN f' deep' hf hd
      obtain ⟨g, rfl⟩ := fuel_pos hf
      rw [rdTerm.eq_def] at h ⊢
      dsimp only at h ⊢
      by_cases hde : 999 < deep
      · rw [if_pos hde] at h; cases h
      rw [if_neg hde] at h
      cases ts with
      | nil =>
        obtain ⟨y, q, e, hk⟩ := h1
        rw [List.nil_append, e] at h
        dsimp only at h
        rw [if_neg (by omega), if_neg (by omega), if_neg (by omega), if_neg (by simp [seeT]; omega), if_neg (by simp [seeT]; omega)] at h
        cases h
      | cons x r =>
        simp only [List.length_cons] at hf hd
        have hNr : ∀ y ∈ r, y.2 < N := fun y hy => hN y (List.mem_cons_of_mem _ hy)
        have hxN := hN x (List.mem_cons_self ..)
        rw [if_neg (by omega)]
        have hs1 := app_see h1 h2 d (m := 40) (by decide) (x :: r)
        have hs2 := app_see h1 h2 d (m := 91) (by decide) (x :: r)
        rw [sh_cons, List.cons_append, List.cons_append] at hs1 hs2
        rw [sh_cons, List.cons_append]
        rw [List.cons_append] at h
        dsimp only at h ⊢
        rw [show (shX d x).1 = x.1 from rfl, hs1, hs2]
        have fin : ∀ (t : Tm) (now : Nat) (rr : Toks) (nn : Names), rdRest S f t now p deep (rr ++ u1) nn = .ok (v, rs, ns') → (∃ w, r = w ++ rr) → ∃ r', rs = r' ++ u1 ∧ (∃ w, x :: r = w ++ r') ∧ r'.length < (x :: r).length ∧ rdRest S' g t now p deep' (sh d rr ++ u2) nn = .ok (v, sh d r' ++ u2, ns') := fun t now rr nn hh ⟨w, hw⟩ => by
          have hlen : rr.length ≤ r.length := by rw [hw]; simp
          obtain ⟨r', e1, ⟨w2, hw2⟩, e3⟩ := ih1 _ _ _ _ _ _ _ _ _ hh (fun y hy => hNr y (by rw [hw]; exact List.mem_append_right _ hy)) g deep' (by omega) (by omega)
          have hlen2 : r'.length ≤ rr.length := by rw [hw2]; simp
          exact ⟨r', e1, ⟨x :: (w ++ w2), by rw [hw, hw2]; simp⟩, by simp only [List.length_cons]; omega, e3⟩
        by_cases k3 : x.1.kind = 3
        · rw [if_pos k3] at h ⊢
          exact fin _ _ r _ h ⟨[], rfl⟩
        rw [if_neg k3] at h ⊢
        by_cases k2 : x.1.kind = 2
        · rw [if_pos k2] at h ⊢
          exact fin _ _ r _ h ⟨[], rfl⟩
        rw [if_neg k2] at h ⊢
        by_cases k1 : x.1.kind = 1
        · rw [if_pos k1] at h ⊢
          cases hr : rdName S f x p deep (r ++ u1) ns with
          | error e => rw [hr] at h; cases h
          | ok q =>
            obtain ⟨⟨t, q⟩, r1, n1⟩ := q
            rw [hr] at h
            dsimp only at h
            obtain ⟨r2, rfl, hw, ht⟩ := ih3 _ _ _ _ _ _ _ _ hr hxN hNr g deep' (by omega) (by omega)
            rw [ht]
            exact fin _ _ r2 _ h hw
        rw [if_neg k1] at h ⊢
        by_cases h4 : seeT 40 (x :: (r ++ u1)) = true
        · rw [if_pos h4] at h ⊢
          cases hr : rdTerm S f 1200 (deep + 1) (r ++ u1) ns with
          | error e => rw [hr] at h; cases h
          | ok q =>
            obtain ⟨t, r1, n1⟩ := q
            rw [hr] at h
            dsimp only at h
            obtain ⟨r2, rfl, ⟨w, hw⟩, hlt, ht⟩ := ih2 _ _ _ _ _ _ _ hr hNr g (deep' + 1) (by omega) (by omega)
            rw [ht]
            dsimp only
            cases hn : needT S 41 (r2 ++ u1) with
            | error e => rw [hn] at h; cases h
            | ok r3 =>
              rw [hn] at h
              dsimp only at h
              obtain ⟨y, r4, rfl, rfl, hn2⟩ := app_need (S' := S') h1 h2 d hn
              rw [hn2]
              exact fin _ _ r4 _ h ⟨w ++ [y], by rw [hw]; simp⟩
        rw [if_neg h4] at h ⊢
        by_cases h9 : seeT 91 (x :: (r ++ u1)) = true
        · rw [if_pos h9] at h ⊢
          cases hr : rdRow S f deep (r ++ u1) ns with
          | error e => rw [hr] at h; cases h
          | ok q =>
            obtain ⟨l, r1, n1⟩ := q
            rw [hr] at h
            dsimp only at h
            obtain ⟨r2, rfl, ⟨w, hw⟩, hlt, ht⟩ := ih4 _ _ _ _ _ _ hr hNr g deep' (by omega) (by omega)
            rw [ht]
            dsimp only
            rw [app_see h1 h2 d (by decide) r2]
            by_cases h5 : seeT 124 (r2 ++ u1) = true
            · rw [if_pos h5] at h ⊢
              obtain ⟨y, r3, rfl⟩ := app_cons h1 h5
              rw [List.cons_append, List.tail_cons] at h
              rw [sh_cons, List.cons_append, List.tail_cons]
              simp only [List.length_cons] at hlt
              cases hr2 : rdTerm S f 999 (deep + 1) (r3 ++ u1) n1 with
              | error e => rw [hr2] at h; cases h
              | ok q =>
                obtain ⟨t, r4, n2⟩ := q
                rw [hr2] at h
                dsimp only at h
                obtain ⟨r5, rfl, ⟨w2, hw2⟩, hlt2, ht2⟩ := ih2 _ _ _ _ _ _ _ hr2 (fun z hz => hNr z (by rw [hw]; exact List.mem_append_right _ (List.mem_cons_of_mem _ hz))) g (deep' + 1) (by omega) (by omega)
                rw [ht2]
                dsimp only
                cases hn : needT S 93 (r5 ++ u1) with
                | error e => rw [hn] at h; cases h
                | ok r6 =>
                  rw [hn] at h
                  dsimp only at h
                  obtain ⟨y2, r7, rfl, rfl, hn2⟩ := app_need (S' := S') h1 h2 d hn
                  rw [hn2]
                  exact fin _ _ r7 _ h ⟨w ++ y :: (w2 ++ [y2]), by rw [hw, hw2]; simp⟩
            · rw [if_neg h5] at h ⊢
              cases hn : needT S 93 (r2 ++ u1) with
              | error e => rw [hn] at h; cases h
              | ok r6 =>
                rw [hn] at h
                dsimp only at h
                obtain ⟨y2, r7, rfl, rfl, hn2⟩ := app_need (S' := S') h1 h2 d hn
                rw [hn2]
                exact fin _ _ r7 _ h ⟨w ++ [y2], by rw [hw]; simp⟩
        rw [if_neg h9] at h
        cases h
    · intro x p deep ts ns v rs ns' h hx hN f' deep' hf hd
      obtain ⟨g, rfl⟩ := fuel_pos hf
      rw [rdName] at h ⊢
      rw [show (shX d x).1 = x.1 from rfl, show (shX d x).2 = x.2 + d from rfl, hm _ hx, app_num h1 h2 d x.2 ts, app_beg h1 h2 d ts]
      by_cases c1 : x.1.text = [45] ∧ S[x.2]? = some 45 ∧ numAt (x.2 + 1) (ts ++ u1) = true
      · rw [if_pos c1] at h ⊢
        cases ts with
        | nil => rw [List.nil_append, dead_num h1.dead] at c1; exact absurd c1.2.2 (by simp)
        | cons y r =>
          injection h with h; injection h with h3 h; injection h with h4 h5
          subst h3 h4 h5
          exact ⟨r, rfl, ⟨[y], rfl⟩, rfl⟩
      rw [if_neg c1] at h ⊢
      by_cases c2 : x.1.opn = true
      · rw [if_pos c2] at h ⊢
        cases hn : needT S 40 (ts ++ u1) with
        | error e => rw [hn] at h; cases h
        | ok r1 =>
          rw [hn] at h
          dsimp only at h
          obtain ⟨y, r2, rfl, rfl, hn2⟩ := app_need (S' := S') h1 h2 d hn
          rw [hn2]
          dsimp only
          simp only [List.length_cons] at hf hd
          cases hr : rdRow S f deep (r2 ++ u1) ns with
          | error e => rw [hr] at h; cases h
          | ok q =>
            obtain ⟨l, r3, n1⟩ := q
            rw [hr] at h
            dsimp only at h
            obtain ⟨r4, rfl, ⟨w, hw⟩, hlt, ht⟩ := ih4 _ _ _ _ _ _ hr (fun z hz => hN z (List.mem_cons_of_mem _ hz)) g deep' (by omega) (by omega)
            rw [ht]
            dsimp only
            cases hn3 : needT S 41 (r4 ++ u1) with
            | error e => rw [hn3] at h; cases h
            | ok r5 =>
              rw [hn3] at h
              dsimp only at h
              obtain ⟨y2, r6, rfl, rfl, hn4⟩ := app_need (S' := S') h1 h2 d hn3
              rw [hn4]
              injection h with h; injection h with h3 h; injection h with h4 h5
              subst h3 h4 h5
              exact ⟨r6, rfl, ⟨y :: (w ++ [y2]), by rw [hw]; simp⟩, rfl⟩
      rw [if_neg c2] at h ⊢
      by_cases c3 : prefP x.1.text = 0 ∨ begT (ts ++ u1) = false
      · rw [if_pos c3] at h ⊢
        injection h with h; injection h with h3 h; injection h with h4 h5
        subst h3 h4 h5
        exact ⟨ts, rfl, ⟨[], rfl⟩, rfl⟩
      rw [if_neg c3] at h ⊢
      by_cases c4 : p < prefP x.1.text
      · rw [if_pos c4] at h; cases h
      rw [if_neg c4] at h ⊢
      cases hr : rdTerm S f (prefP x.1.text) (deep + 1) (ts ++ u1) ns with
      | error e => rw [hr] at h; cases h
      | ok q =>
        obtain ⟨u, r1, n1⟩ := q
        rw [hr] at h
        obtain ⟨r2, rfl, hw, hlt, ht⟩ := ih2 _ _ _ _ _ _ _ hr hN g (deep' + 1) (by omega) (by omega)
        rw [ht]
        injection h with h; injection h with h3 h; injection h with h4 h5
        subst h3 h4 h5
        exact ⟨r2, rfl, hw, rfl⟩
    · intro deep ts ns v rs ns' h hN f' deep' hf hd
      obtain ⟨g, rfl⟩ := fuel_pos hf
      rw [rdRow] at h ⊢
      cases hr : rdTerm S f 999 (deep + 1) (ts ++ u1) ns with
      | error e => rw [hr] at h; cases h
      | ok q =>
        obtain ⟨t, r1, n1⟩ := q
        rw [hr] at h
        dsimp only at h
        obtain ⟨r2, rfl, ⟨w, hw⟩, hlt, ht⟩ := ih2 _ _ _ _ _ _ _ hr hN g (deep' + 1) (by omega) (by omega)
        rw [ht]
        dsimp only
        rw [app_see h1 h2 d (by decide) r2]
        by_cases hs : seeT 44 (r2 ++ u1) = true
        · rw [if_pos hs] at h ⊢
          obtain ⟨y, r3, rfl⟩ := app_cons h1 hs
          rw [List.cons_append, List.tail_cons] at h
          rw [sh_cons, List.cons_append, List.tail_cons]
          cases hr2 : rdRow S f deep (r3 ++ u1) n1 with
          | error e => rw [hr2] at h; cases h
          | ok q =>
            obtain ⟨l, r4, n2⟩ := q
            rw [hr2] at h
            injection h with h; injection h with h3 h; injection h with h4 h5
            subst h3 h4 h5
            simp only [List.length_cons] at hlt
            obtain ⟨r5, rfl, ⟨w2, hw2⟩, hlt2, ht2⟩ := ih4 _ _ _ _ _ _ hr2 (fun z hz => hN z (by rw [hw]; exact List.mem_append_right _ (List.mem_cons_of_mem _ hz))) g deep' (by omega) (by omega)
            rw [ht2]
            exact ⟨r5, rfl, ⟨w ++ y :: w2, by rw [hw, hw2]; simp⟩, by omega, rfl⟩
        · rw [if_neg hs] at h ⊢
          injection h with h; injection h with h3 h; injection h with h4 h5
          subst h3 h4 h5
          exact ⟨r2, rfl, ⟨w, hw⟩, hlt, rfl⟩
end Go.Proofs.YtilfglcjcmpfeaaGreatDoor
