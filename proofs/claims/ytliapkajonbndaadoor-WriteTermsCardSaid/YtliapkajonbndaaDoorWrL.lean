/-
  How long texts are.
-/
import Derived.Test.YtliapkajonbndaaDoorWrX
import Derived.Test.YtliapkajonbndaaDoorWrP
namespace Go.Proofs.YtliapkajonbndaaDoor
open Go.RowKit

theorem lim {a : Nat} (h : a ≤ 9000000000) : (9223372036854775807 < a) = False := by simp only [eq_iff_iff, iff_false]; omega
theorem wf64 {n : Int} (hn : (Lit.int .i64 n).wf = true) : -9223372036854775808 ≤ n ∧ n ≤ 9223372036854775807 := by
  simp [Lit.wf, IntKind.min, IntKind.max, IntKind.signed, IntKind.bits] at hn
  omega
theorem dgz_len {n : Int} (h : (Lit.int .i64 n).wf = true) : (dgz n).length ≤ 21 := by
  have h2 := wf64 h
  unfold dgz
  split
  · have := dgs_len 19 (-n).toNat (by omega)
    simp only [List.length_cons]
    omega
  · have := dgs_len 19 n.toNat (by omega)
    omega
theorem dbl_len : ∀ x : List UInt8, (dbl x).length ≤ 2 * x.length
  | [] => by simp [dbl]
  | c :: r => by
    have := dbl_len r
    rw [dbl]
    split <;> simp only [List.length_cons] <;> omega
theorem nmX_len (x : List UInt8) : (nmX x).length ≤ 2 * x.length + 2 := by
  have := dbl_len x
  unfold nmX
  split
  · omega
  · simp only [List.length_cons, List.length_append, List.length_nil]; omega
theorem cmX_len : ∀ l : List Tm, (∀ t ∈ l, (tx t).length ≤ 60 * t.size) → (cmX (wrs l)).length ≤ 60 * Tm.sizes l + l.length
  | [], _ => by simp [wrs, cmX, Tm.sizes]
  | t :: l, h => by
    have h1 := cmX_len l (fun u hu => h u (by simp [hu]))
    have h2 := h t (by simp)
    have e : cmX (wrs (t :: l)) = 44 :: (tx t ++ cmX (wrs l)) := rfl
    rw [e]
    simp only [List.length_cons, List.length_append, Tm.sizes]
    omega
theorem inn_each {w : World} {B : Nat} {l : List Tm} {sv : Value} (h : Tm.sliceIn w B l sv) : ∀ t ∈ l, ∃ sv, Tm.inn w B t sv := fun t ht => by
  obtain ⟨g, cap, rfl, _, _, h | ⟨b, off, rfl, hb, hr⟩⟩ := h
  · subst h; cases ht
  · obtain ⟨i, hi, rfl⟩ := List.getElem_of_mem ht
    obtain ⟨sv, _, _, _, _, h⟩ := Tm.rowIn_get hr i hi
    exact ⟨sv, h⟩
theorem inn_len : ∀ t : Tm, t.fair = true → ∀ (w : World) (B : Nat) (sv : Value), Tm.inn w B t sv → (tx t).length ≤ 60 * t.size ∧ (tl t).length ≤ 60 * t.size + 2 := Tm.ind fun k s n l ih hf w B sv hin => by
  simp only [Tm.fair, Bool.and_eq_true] at hf
  obtain ⟨⟨hs, hl⟩, hal⟩ := hf
  rw [Tm.fairs_all, List.all_eq_true] at hl
  obtain ⟨⟨_, _, hwf⟩, hsl⟩ := Tm.inn_mk.1 hin
  have hall : ∀ t ∈ l, (tx t).length ≤ 60 * t.size ∧ (tl t).length ≤ 60 * t.size + 2 := fun t ht => by
    obtain ⟨sv', h'⟩ := inn_each hsl t ht
    exact ih t ht (hl t ht) w B sv' h'
  have hn := dgz_len hwf
  have hx : (tx (.mk k s n l)).length ≤ 60 * (Tm.mk k s n l).size := by
    show (txO k (bsN s) n (wrs l)).length ≤ 60 * (Tm.sizes l + 1)
    unfold Tm.alone at hal
    unfold txO
    by_cases h1 : k = 1
    · rw [if_pos h1] at hal ⊢
      simp only [Bool.and_eq_true, decide_eq_true_eq] at hal
      have h2 := hal.1.1.1
      unfold dgz at hn
      rw [if_neg (by omega)] at hn
      simp only [List.length_cons]
      omega
    rw [if_neg h1] at hal ⊢
    by_cases h2 : k = 2
    · rw [if_pos h2]
      unfold dgz at hn
      omega
    rw [if_neg h2] at hal ⊢
    by_cases h3 : k = 3
    · rw [if_pos h3] at hal
      simp only [Bool.and_eq_true, decide_eq_true_eq] at hal
      obtain ⟨⟨⟨_, _⟩, a3⟩, a4⟩ := hal
      have hnm := nmX_len (bsN s)
      rw [bsN_length] at hnm
      cases l with
      | nil =>
        show (nmX (bsN s)).length ≤ _
        omega
      | cons a q =>
        rw [wrs]
        dsimp only
        have ha := (hall a (by simp)).1
        cases hd : dotO (bsN s) (wr a :: wrs q) with
        | none =>
          dsimp only
          have hc := cmX_len q (fun t ht => (hall t (by simp [ht])).1)
          simp only [List.length_append, List.length_cons, List.length_nil, Tm.sizes] at a4 ⊢
          have : (wr a).1 = tx a := rfl
          rw [this]
          omega
        | some xy =>
          cases q with
          | nil => simp [wrs, dotO] at hd
          | cons b q =>
            cases q with
            | nil =>
              have hb := (hall b (by simp)).2
              simp only [wrs, dotO] at hd
              split at hd
              · injection hd with hd
                subst hd
                dsimp only
                have e1 : (wr a).1 = tx a := rfl
                have e2 : (wr b).2 = tl b := rfl
                rw [e1, e2]
                simp only [List.length_append, List.length_cons, Tm.sizes]
                omega
              · cases hd
            | cons c q => simp [wrs, dotO] at hd
    · rw [if_neg h3] at hal
      cases hal
  refine ⟨hx, ?_⟩
  show (tlO k (bsN s) n (wrs l)).length ≤ 60 * (Tm.sizes l + 1) + 2
  have hx2 : (txO k (bsN s) n (wrs l)).length ≤ 60 * (Tm.sizes l + 1) := hx
  unfold tlO
  split
  · simp
  · split
    · rename_i x y hxy
      split at hxy
      · cases l with
        | nil => simp [wrs, dotO] at hxy
        | cons a q =>
          cases q with
          | nil => simp [wrs, dotO] at hxy
          | cons b q =>
            cases q with
            | nil =>
              have ha := (hall a (by simp)).1
              have hb := (hall b (by simp)).2
              simp only [wrs, dotO] at hxy
              split at hxy
              · injection hxy with hxy
                injection hxy with e1 e2
                subst e1 e2
                have e1 : (wr a).1 = tx a := rfl
                have e2 : (wr b).2 = tl b := rfl
                rw [e1, e2]
                simp only [List.length_append, List.length_cons, Tm.sizes]
                omega
              · cases hxy
            | cons c q => simp [wrs, dotO] at hxy
      · cases hxy
    · simp only [List.length_append, List.length_cons, List.length_nil]
      omega
end Go.Proofs.YtliapkajonbndaaDoor
