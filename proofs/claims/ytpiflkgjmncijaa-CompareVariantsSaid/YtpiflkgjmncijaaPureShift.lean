/-
  What Shift tells and makes, in one form; what the statement's own reckoning of it is, purely.
-/
import Derived.Test.YtpiflkgjmncijaaPure
import Derived.Test.YtpiflkgjmncijaaBox
namespace Go.Proofs.Ytpiflkgjmncijaa
open Go.RowKit

def shiftTm (t : Tm) (b : Int) : Tm := if shiftErr t b = 0 then t.ren (fun v => wrap64 (v + b)) else kZ

theorem shift_all (t : Tm) (b : Int) (w : World) (sv : Value) (hin : Tm.inn w w.heap.size t sv) (hsz : t.size ≤ 1000000) :
    Calls Try.prog 23 #[.agg #[.int .i64 t.kind, .string t.name, .int .i64 t.n, sv], .int .i64 b] w fun e w' =>
      (∃ g c, e = .returned (.tuple #[.agg #[.int .i64 (shiftTm t b).kind, .string (shiftTm t b).name, .int .i64 (shiftTm t b).n, .slice g (shiftTm t b).args.length c], .int .i64 (shiftErr t b)]) ∧ Tm.inn w' w'.heap.size (shiftTm t b) (.slice g (shiftTm t b).args.length c)) ∧ Below w.heap.size w w' := by
  refine (tshift_any t b w sv hin hsz).mono ?_
  rintro e w' ⟨hb, ⟨hne, rfl⟩ | ⟨h0, sv', rfl, hp⟩⟩
  · refine ⟨⟨none, 0, ?_, ?_⟩, hb⟩
    · rw [show shiftTm t b = kZ by unfold shiftTm; rw [if_neg hne]]
      rfl
    · rw [show shiftTm t b = kZ by unfold shiftTm; rw [if_neg hne]]
      exact Tm.inn_mk.2 ⟨⟨by decide, Nat.zero_le _, by decide⟩, none, 0, rfl, Nat.le_refl _, by simp, .inl rfl⟩
  · have hx : shiftTm t b = t.ren (fun v => wrap64 (v + b)) := by unfold shiftTm; rw [if_pos h0]
    obtain ⟨_, g, c, rfl, _, _, _⟩ := Tm.innP_iff.1 hp
    refine ⟨⟨g, c, ?_, ?_⟩, hb⟩
    · rw [hx, h0]
    · rw [hx]
      exact Tm.inn_of_P (fun b hb => hb.2) _ _ hp

theorem wrap_in {n : Int} (h : -9223372036854775808 ≤ n ∧ n ≤ 9223372036854775807) : wrap64 n = n := by
  rw [← IntWalk.i64_left]; exact IntWalk.i64_in n h

theorem shiftErr_wrong {t : Tm} (h : t.right = false) (b : Int) : shiftErr t b = 1 := by unfold shiftErr; rw [if_pos h]
theorem shiftErr_two {t : Tm} (h : t.right = true) (b : Int) : shiftErr t b = 0 ∨ shiftErr t b = 3 := by
  unfold shiftErr
  rw [if_neg (by simp [h])]
  split
  · exact .inr rfl
  · exact .inl rfl
theorem shiftErr_zero {t : Tm} (h : t.right = true) (b : Int) : shiftErr t b = 0 ↔ 0 ≤ b ∧ ∀ n ∈ varsOf [t], n + b < 1000000 := by
  have hr : ∀ n ∈ varsOf [t], 0 ≤ n ∧ n < 1000000 := vars_range (by simpa using h)
  have hany : (t.nodes 1).any (badV b) = true ↔ ∃ n ∈ varsOf [t], 1000000 ≤ n + b := by
    simp only [List.any_eq_true, vars_mem, badV, Bool.and_eq_true, beq_iff_eq, decide_eq_true_eq, Tm.nodesL, List.append_nil]
    constructor
    · rintro ⟨x, hx, hk, hb⟩
      have := hr x.n ((vars_mem _ _).2 ⟨x, by simpa [Tm.nodesL] using hx, hk, rfl⟩)
      rw [wrap_in (by omega)] at hb
      exact ⟨x.n, ⟨x, hx, hk, rfl⟩, by omega⟩
    · rintro ⟨n, ⟨x, hx, hk, rfl⟩, hb⟩
      have := hr x.n ((vars_mem _ _).2 ⟨x, by simpa [Tm.nodesL] using hx, hk, rfl⟩)
      refine ⟨x, hx, hk, ?_⟩
      rw [wrap_in (by omega)]
      omega
  unfold shiftErr
  rw [if_neg (by simp [h])]
  constructor
  · intro h0
    split at h0
    · cases h0
    · rename_i hc
      rw [hany] at hc
      refine ⟨by omega, fun n hn => ?_⟩
      exact Int.not_le.1 fun hle => hc (.inr ⟨n, hn, hle⟩)
  · rintro ⟨hb, hall⟩
    rw [if_neg]
    rw [hany]
    rintro (h1 | ⟨n, hn, hle⟩)
    · omega
    · have := hall n hn
      omega

/-- What the statement itself reckons. -/
def okAt (vs : List Int) (b : Int) : Bool := (decide (0 ≤ b) && decide (b ≤ 1000000)) && vs.all fun v => decide (v + b < 1000000)
def okEnd (vs : List Int) (b : Int) : Bool := okAt vs b || (decide (1000000 < b) && decide (vs = []))
theorem okEnd_iff {t : Tm} (h : t.right = true) (b : Int) : okEnd (varsOf [t]) b = true ↔ shiftErr t b = 0 := by
  have hr : ∀ n ∈ varsOf [t], 0 ≤ n ∧ n < 1000000 := vars_range (by simpa using h)
  rw [shiftErr_zero h]
  simp only [okEnd, okAt, Bool.or_eq_true, Bool.and_eq_true, decide_eq_true_eq, List.all_eq_true]
  constructor
  · rintro (⟨⟨h1, h2⟩, h3⟩ | ⟨h1, h2⟩)
    · exact ⟨h1, h3⟩
    · exact ⟨by omega, by rw [h2]; intro n hn; cases hn⟩
  · rintro ⟨h1, h2⟩
    by_cases hb : b ≤ 1000000
    · exact .inl ⟨⟨h1, hb⟩, h2⟩
    · refine .inr ⟨by omega, ?_⟩
      cases hv : varsOf [t] with
      | nil => rfl
      | cons n r =>
        have h3 := h2 n (by rw [hv]; simp)
        have h4 := hr n (by rw [hv]; simp)
        omega

theorem toOf_map {vs : List Int} {v : Int} (h : v ∈ vs) (g : Int → Int) : toOf vs (vs.map g) v = g v := by
  unfold toOf
  have hlt := List.idxOf_lt_length_iff.2 h
  have hg : vs[vs.idxOf v]? = some v := by rw [List.getElem?_eq_getElem hlt, List.getElem_idxOf hlt]
  rw [List.getD_eq_getElem?_getD, List.getElem?_map, hg]
  rfl
theorem shift_turn {t : Tm} (h : t.right = true) {b : Int} (h0 : shiftErr t b = 0) : shiftTm t b = t.ren (toOf (varsOf [t]) ((varsOf [t]).map fun v => v + b)) := by
  have hr : ∀ n ∈ varsOf [t], 0 ≤ n ∧ n < 1000000 := vars_range (by simpa using h)
  obtain ⟨hb, hall⟩ := (shiftErr_zero h b).1 h0
  unfold shiftTm
  rw [if_pos h0]
  refine ren_congr _ _ t fun d x hx hk => ?_
  have hm := vars_cover (l := [t]) (by simp) d x hx hk
  have h1 := hr _ hm
  have h2 := hall _ hm
  rw [toOf_map hm, wrap_in (by omega)]
theorem vars_ren {t : Tm} (h : t.noArgs = true) (f : Int → Int) (n : Int) : n ∈ varsOf [t.ren f] ↔ ∃ v ∈ varsOf [t], n = f v := by
  have hm := nodes_ren f t h 1
  simp only [vars_mem, Tm.nodesL, List.append_nil]
  constructor
  · rintro ⟨x, hx, hk, rfl⟩
    have : (x.k, x.n) ∈ ((t.ren f).nodes 1).map (fun x => (x.k, x.n)) := List.mem_map.2 ⟨x, hx, rfl⟩
    rw [hm] at this
    obtain ⟨y, hy, he⟩ := List.mem_map.1 this
    injection he with e1 e2
    rw [hk] at e1
    rw [if_pos e1] at e2
    exact ⟨y.n, ⟨y, hy, e1, rfl⟩, e2.symm⟩
  · rintro ⟨v, ⟨y, hy, hk, rfl⟩, rfl⟩
    have : (y.k, if y.k = 1 then f y.n else y.n) ∈ (t.nodes 1).map (fun x => (x.k, if x.k = 1 then f x.n else x.n)) := List.mem_map.2 ⟨y, hy, rfl⟩
    rw [← hm, if_pos hk] at this
    obtain ⟨x, hx, he⟩ := List.mem_map.1 this
    injection he with e1 e2
    exact ⟨x, hx, by rw [e1, hk], e2⟩
theorem shift_right {t : Tm} (h : t.right = true) {b : Int} (h0 : shiftErr t b = 0) : (shiftTm t b).right = true := by
  have hr : ∀ n ∈ varsOf [t], 0 ≤ n ∧ n < 1000000 := vars_range (by simpa using h)
  obtain ⟨hb, hall⟩ := (shiftErr_zero h b).1 h0
  unfold shiftTm
  rw [if_pos h0]
  refine right_ren h fun d x hx hk => ?_
  have hm := vars_cover (l := [t]) (by simp) d x hx hk
  have h1 := hr _ hm
  have h2 := hall _ hm
  rw [wrap_in (by omega)]
  omega
theorem shift_size {t : Tm} (h : t.right = true) (b : Int) : (shiftTm t b).size ≤ t.size := by
  unfold shiftTm
  split
  · rw [size_ren _ t (right_noArgs h)]; exact Nat.le_refl _
  · rw [kZ_size]
    cases t
    simp only [Tm.size]
    omega
/-- By two numbers, one behind the other: as by both. -/
theorem shift_both {t : Tm} (h : t.right = true) {b m : Int} (h0 : shiftErr t b = 0) (hm : 0 ≤ m ∧ m ≤ 65535) (hv : varsOf [t] ≠ []) :
    shiftErr (shiftTm t b) m = shiftErr t (wrap64 (b + m)) ∧ shiftTm (shiftTm t b) m = shiftTm t (wrap64 (b + m)) := by
  have hr : ∀ n ∈ varsOf [t], 0 ≤ n ∧ n < 1000000 := vars_range (by simpa using h)
  obtain ⟨hb, hall⟩ := (shiftErr_zero h b).1 h0
  have hx := shift_right h h0
  have hb1 : b < 1000000 := by
    cases hvv : varsOf [t] with
    | nil => exact absurd hvv hv
    | cons n r =>
      have h3 := hall n (by rw [hvv]; simp)
      have h4 := hr n (by rw [hvv]; simp)
      omega
  have hw : wrap64 (b + m) = b + m := wrap_in (by omega)
  rw [hw]
  have hvr : ∀ n, n ∈ varsOf [shiftTm t b] ↔ ∃ v ∈ varsOf [t], n = v + b := fun n => by
    unfold shiftTm
    rw [if_pos h0, vars_ren (right_noArgs h)]
    constructor
    · rintro ⟨v, hv, rfl⟩
      exact ⟨v, hv, by have := hr v hv; rw [wrap_in (by omega)]⟩
    · rintro ⟨v, hv, rfl⟩
      exact ⟨v, hv, by have := hr v hv; rw [wrap_in (by omega)]⟩
  have hiff : shiftErr (shiftTm t b) m = 0 ↔ shiftErr t (b + m) = 0 := by
    rw [shiftErr_zero hx, shiftErr_zero h]
    constructor
    · rintro ⟨_, h2⟩
      exact ⟨by omega, fun n hn => by have := h2 (n + b) ((hvr _).2 ⟨n, hn, rfl⟩); omega⟩
    · rintro ⟨_, h2⟩
      exact ⟨hm.1, fun n hn => by obtain ⟨v, hv, rfl⟩ := (hvr n).1 hn; have := h2 v hv; omega⟩
  have herr : shiftErr (shiftTm t b) m = shiftErr t (b + m) := by
    rcases shiftErr_two hx m with h1 | h1 <;> rcases shiftErr_two h (b + m) with h2 | h2 <;> rw [h1, h2] at hiff ⊢
    · exact absurd (hiff.1 rfl) (by decide)
    · exact absurd (hiff.2 rfl) (by decide)
  refine ⟨herr, ?_⟩
  by_cases hz : shiftErr t (b + m) = 0
  · have hz' := herr.trans hz
    obtain ⟨_, hall2⟩ := (shiftErr_zero h (b + m)).1 hz
    have e1 : shiftTm (shiftTm t b) m = (shiftTm t b).ren (fun v => wrap64 (v + m)) := by rw [shiftTm, if_pos hz']
    have e2 : shiftTm t (b + m) = t.ren (fun v => wrap64 (v + (b + m))) := by rw [shiftTm, if_pos hz]
    rw [e1, e2, shiftTm, if_pos h0, ren_ren]
    refine ren_congr _ _ t fun d x hx hk => ?_
    have hmm := vars_cover (l := [t]) (by simp) d x hx hk
    have h1 := hr _ hmm
    have h2 := hall2 _ hmm
    rw [wrap_in (n := x.n + b) (by omega), wrap_in (by omega), wrap_in (by omega)]
    omega
  · have e1 : shiftTm (shiftTm t b) m = kZ := by rw [shiftTm, if_neg (by rw [herr]; exact hz)]
    have e2 : shiftTm t (b + m) = kZ := by rw [shiftTm, if_neg hz]
    rw [e1, e2]
end Go.Proofs.Ytpiflkgjmncijaa
