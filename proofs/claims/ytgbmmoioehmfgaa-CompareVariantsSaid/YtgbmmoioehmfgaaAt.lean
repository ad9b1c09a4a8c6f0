/-
  The document's own answers: the place of a number in a row.
-/
import Derived.Test.YtgbmmoioehmfgaaWith
namespace Go.Proofs.Ytgbmmoioehmfgaa
open Go.RowKit

theorem idx_first (l : List Int) (n : Int) : ∀ (k : Nat) (hk : k < l.length), l[k] = n → (∀ j (hj : j < l.length), j < k → l[j] ≠ n) → l.idxOf n = k := by
  induction l with
  | nil => intro k hk; simp at hk
  | cons a r ih =>
    intro k hk h hp
    cases k with
    | zero => simp at h; simp [h]
    | succ k =>
      have h0 := hp 0 (by simp) (by omega)
      simp only [List.getElem_cons_zero] at h0
      have hb : (a == n) = false := by simpa using h0
      rw [List.idxOf_cons, hb, cond_false, ih k (by simpa using hk) (by simpa using h) (fun j hj hjk => hp (j + 1) (by simpa using hj) (by omega))]

/-- Where a number stands; below 0: nowhere. -/
def atOf (l : List Int) (n : Int) : Int := if n ∈ l then (l.idxOf n : Int) else -1

set_option maxHeartbeats 400000 in
theorem at_any (l : List Int) (n : Int) (w : World) (v : Value) (h : intsIn w w.heap.size l v) :
    Calls Try.prog 54 #[v, .int .i64 n] w fun e w' => e = .returned (.int .i64 (atOf l n)) ∧ Below w.heap.size w w' := by
  obtain ⟨g, cap, rfl, hcap, hlen, _⟩ := id h
  have HL := Lib.hid h
  clear h
  go_enter Try.func54, Try.ntmps54
  go_wp2_with fail
  go_loopw [5] (fun i wr => ∃ k' : Nat, k' ≤ l.length ∧ i = .int .i64 k' ∧ Hid (∀ j (h : j < l.length), j < k' → l[j] ≠ n) ∧ Below w.heap.size w wr) (fun i _ => l.length - (intOf i).toNat)
  case atStart => exact ⟨0, Nat.zero_le _, rfl, fun j _ h => by omega, Below.refl _ _⟩
  case round =>
    obtain ⟨k', hk', rfl, hp, hb⟩ := hrel
    have HB := Lib.hid hb
    by_cases hlt : k' < l.length
    · obtain ⟨b, off, rfl, hbB, g0⟩ := intsIn_get (intsIn_below HL.out hb (Nat.le_refl _)) k' hlt
      clear hb
      by_cases hq : l[k'] = n
      · have HR := Lib.hid (show atOf l n = (k' : Int) by unfold atOf; rw [if_pos (by rw [← hq]; exact List.getElem_mem hlt), idx_first l n k' hlt hq hp.out])
        have hqb : (l[k'] == n) = true := by simpa using hq
        clear hq
        go_wp2_with fail
        go_ret
        exact ⟨by rw [HR.out]; rfl, HB.out⟩
      · have HNE := Lib.hid hq
        have hqb : (l[k'] == n) = false := by simpa using hq
        clear hq
        go_wp2_with fail
        go_roundw
        case rel =>
          refine ⟨k' + 1, by omega, by go_num, fun j hj hjk => ?_, HB.out⟩
          by_cases hjj : j < k'
          · exact hp.out j hj hjj
          · obtain rfl : j = k' := by omega
            exact HNE.out
        case measure => simp [intOf]; omega
    · have hno : n ∉ l := fun hm => by
        obtain ⟨j, hj, he⟩ := List.getElem_of_mem hm
        exact hp.out j hj (by omega) he
      have HR := Lib.hid (show atOf l n = -1 by unfold atOf; rw [if_neg hno])
      obtain rfl : k' = l.length := by omega
      clear hno hp hb
      go_wp2_with fail
      go_ret
      exact ⟨by rw [HR.out]; rfl, HB.out⟩
end Go.Proofs.Ytgbmmoioehmfgaa
