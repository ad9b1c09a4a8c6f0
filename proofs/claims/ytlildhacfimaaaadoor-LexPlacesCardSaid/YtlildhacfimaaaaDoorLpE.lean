/-
  The program's named, unquoted, isEnd, number.
-/
import Derived.Test.YtlildhacfimaaaaDoorLpD
import Derived.Test.YtlildhacfimaaaaDoorLxE
namespace Go.Proofs.YtlildhacfimaaaaDoor
open Go.RowKit

def pnoTok : Value := .tuple #[.agg #[.int .i64 0, .string ⟨#[]⟩, .int .i64 0, .int .i64 0, .bool false], .int .i64 0]
def tok0 : Obj := Obj.cells #[.int .i64 0, .string ⟨#[]⟩, .int .i64 0, .int .i64 0, .bool false] 33 (0, 0)
/-- The result stands empty in memory of its own. -/
structure PSt (w W : World) : Prop where
  below : Below w.heap.size w W
  blk : W.heap[w.heap.size]? = some tok0
  size : w.heap.size < W.heap.size
theorem pst0 (w : World) : PSt w (w.alloc tok0) := ⟨(Below.refl _ _).alloc (Nat.le_refl _) _, lnewBlk _ _, by simp⟩
theorem PSt.next {w W W' : World} (h : PSt w W) (hb : Below W.heap.size W W') : PSt w W' :=
  ⟨h.below.trans (hb.mono h.below.size), (hb.block w.heap.size h.size).trans h.blk, Nat.lt_of_lt_of_le h.size hb.size⟩
theorem PSt.cells {w W : World} (h : PSt w W) : (W.cell? ⟨w.heap.size, 0, none⟩ = some (.int .i64 0) ∧ W.cell? ⟨w.heap.size, 1, none⟩ = some (.string ⟨#[]⟩) ∧ W.cell? ⟨w.heap.size, 2, none⟩ = some (.int .i64 0) ∧ W.cell? ⟨w.heap.size, 3, none⟩ = some (.int .i64 0) ∧ W.cell? ⟨w.heap.size, 4, none⟩ = some (.bool false)) ∧
    (W.frozen? ⟨w.heap.size, 0, none⟩ = false ∧ W.frozen? ⟨w.heap.size, 1, none⟩ = false ∧ W.frozen? ⟨w.heap.size, 2, none⟩ = false ∧ W.frozen? ⟨w.heap.size, 3, none⟩ = false ∧ W.frozen? ⟨w.heap.size, 4, none⟩ = false) := by
  simp [World.cell?, World.frozen?, h.blk, tok0]
def NmPost (w : World) (l : List UInt8) (kind : Nat) (x : ByteArray) (n : Nat) (e : Ending) (w' : World) : Prop :=
  Below w.heap.size w w' ∧ ((¬ (1 ≤ x.size ∧ x.size ≤ 20) ∧ e = .returned pnoTok) ∨ ((1 ≤ x.size ∧ x.size ≤ 20) ∧ e = .returned (.tuple #[tokV kind x 0 0 (opens (l.drop n)), .int .i64 (n : Nat)])))
theorem bs_mk0 {x : ByteArray} (h : (bs x).length = 0) : x = ⟨#[]⟩ := by
  cases x
  simp [bs] at h
  simp [h]
theorem open_any (s : ByteArray) (n : Nat) (w : World) : Calls Tryd.prog 25 #[.string (s.extract n s.size), .string ⟨#[40]⟩] w fun e w' => e = .returned (.bool (opens ((bs s).drop n))) ∧ w = w' :=
  (Tryd.strings_HasPrefix _ _ w).mono fun e w' h => by
    obtain ⟨rfl, rfl⟩ := h
    refine ⟨?_, rfl⟩
    have h1 : (s.extract n s.size).data.toList = (bs s).drop n := by
      have h2 := bs_extract s n s.size
      rw [List.take_of_length_le (by rw [List.length_drop, bs_length]; exact Nat.le_refl _)] at h2
      exact h2
    rw [h1]
    unfold opens Lib.hasPrefix
    cases (bs s).drop n with
    | nil => rfl
    | cons c r =>
      congr 2
      show (40 == c && true) = (some c == some 40)
      rw [Bool.and_true, Bool.eq_iff_iff, beq_iff_eq, beq_iff_eq]
      constructor
      · rintro rfl; rfl
      · intro e; exact (Option.some.inj e).symm
set_option maxRecDepth 100000 in
set_option maxHeartbeats 2000000 in
theorem pnamed_any (kind : Nat) (x s : ByteArray) (n : Nat) (w : World) (hn : n ≤ s.size) (_hs : s.size ≤ 1000000) :
    Calls Tryd.prog 33 #[.int .i64 (kind : Nat), .string x, .string s, .int .i64 (n : Nat)] w fun e w' => NmPost w (bs s) kind x n e w' := by
  by_cases h1 : x.size < 1
  · obtain rfl : x = ⟨#[]⟩ := by
      apply bs_mk0
      rw [bs_length]; omega
    go_enter Tryd.func33, Tryd.ntmps33
    go_wp2_with fail
    refine bodyPost_ret (v := pnoTok) (by simp [results, pnoTok, Tryd.results33, go_sem]) rfl ?_
    exact ⟨(Below.refl _ _).alloc (Nat.le_refl _) _, .inl ⟨by omega, rfl⟩⟩
  have hne : x.toList ≠ [] := by
    rw [bs_toList]
    intro e
    have := bs_length x
    rw [e] at this
    simp at this
    omega
  have hne2 : (x.toList == []) = false := by rw [beq_eq_false_iff_ne]; exact hne
  by_cases h2 : 20 < x.size
  · have h3 : 1 ≤ x.size := by omega
    clear h1
    go_enter Tryd.func33, Tryd.ntmps33
    go_wp2_with fail
    refine bodyPost_ret (v := pnoTok) (by simp [results, pnoTok, Tryd.results33, go_sem]) rfl ?_
    exact ⟨(Below.refl _ _).alloc (Nat.le_refl _) _, .inl ⟨by omega, rfl⟩⟩
  have h3 : 1 ≤ x.size := by omega
  have h4 : x.size ≤ 20 := by omega
  clear h1 h2
  have hsl : ∀ u, (Instr.slice 9 (.string s) (some (.int .i64 (n : Nat))) none none).run Tryd.prog u = .ok (.string (s.extract n s.size)) u := fun u => by
    rw [run_slice_string_from_if (h := Tryd.underlying9), if_pos (by omega)]; rfl
  have HO := Lib.hid (fun u => open_any s n u)
  go_enter Tryd.func33, Tryd.ntmps33
  go_wp2_with (go_at_call 25; (with_reducible refine (HO.out _).mono ?_); rintro e w' ⟨rfl, rfl⟩)
  refine bodyPost_ret (v := .tuple #[tokV kind x 0 0 (opens ((bs s).drop n)), .int .i64 (n : Nat)]) (by simp [results, tokV, Tryd.results33, go_sem]) rfl ?_
  exact ⟨(Below.refl _ _).alloc (Nat.le_refl _) _, .inr ⟨⟨h3, h4⟩, rfl⟩⟩
end Go.Proofs.YtlildhacfimaaaaDoor
