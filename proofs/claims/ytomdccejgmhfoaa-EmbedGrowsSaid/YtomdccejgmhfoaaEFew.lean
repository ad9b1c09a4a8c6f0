/-
  The document's Few, also where there may be none.
-/
import Derived.Test.YtomdccejgmhfoaaRef
import Derived.Test.YtomdccejgmhfoaaEmb
namespace Go.Proofs.Ytomdccejgmhfoaa
open Go.RowKit

theorem few_neg (t : Tm) (d : Int) : t.few (-1) d = -1 := by
  obtain ⟨k, s, n, l⟩ := t
  simp [Tm.few]
set_option maxHeartbeats 400000 in
theorem few_neg_any (t : Tm) (w : World) (sv : Value) (d : Int) (hin : Tm.inn w w.heap.size t sv) :
    Calls Try.prog 36 #[.agg #[.int .i64 t.kind, .string t.name, .int .i64 t.n, sv], .int .i64 (-1), .int .i64 d] w fun e w' => e = .returned (.int .i64 (-1)) ∧ Below w.heap.size w w' := by
  obtain ⟨_, g, c, rfl, _, _, _⟩ := Tm.inn_iff.1 hin
  clear hin
  go_enter Try.func36, Try.ntmps36
  go_wp2_with fail
  go_ret
  exact ⟨rfl, (Below.refl _ _).alloc (Nat.le_refl _) _⟩
/-- Few where there may be at least none, or it has been said that there are too many. -/
theorem few2_any (t : Tm) (w : World) (sv : Value) (m d : Int) (hin : Tm.inn w w.heap.size t sv) (h0 : -1 ≤ m) (h1 : m ≤ 4000) (h2 : 0 ≤ d) (h3 : d ≤ 200) :
    Calls Try.prog 36 #[.agg #[.int .i64 t.kind, .string t.name, .int .i64 t.n, sv], .int .i64 m, .int .i64 d] w fun e w' => e = .returned (.int .i64 (t.few m d)) ∧ Below w.heap.size w w' := by
  by_cases h : 0 ≤ m
  · exact few_any t w _ sv m d (Nat.le_refl _) hin h h1 h2 h3
  · obtain rfl : -1 = m := by omega
    rw [few_neg]
    exact few_neg_any t w sv d hin
theorem few2_rng (t : Tm) (m d : Int) (h0 : -1 ≤ m) : -1 ≤ t.few m d ∧ t.few m d ≤ m := by
  by_cases h : 0 ≤ m
  · have := Tm.few_rng t m d h
    omega
  · obtain rfl : -1 = m := by omega
    rw [few_neg]
    omega
end Go.Proofs.Ytomdccejgmhfoaa
