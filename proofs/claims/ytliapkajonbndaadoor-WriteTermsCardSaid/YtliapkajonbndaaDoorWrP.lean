/-
  What the document's loops over names and numbers reckon, purely.
-/
import Derived.Test.YtliapkajonbndaaDoorWrA
namespace Go.Proofs.YtliapkajonbndaaDoor


/-- A number's text. -/
def dgz (n : Int) : List UInt8 := if n < 0 then 45 :: dgs (-n).toNat else dgs n.toNat
theorem dgs_small {m : Nat} (h : m < 10) : dgs m = [UInt8.ofNat (48 + m)] := by rw [dgs, if_pos h]
theorem dgs_more {m : Nat} (h : ¬ m < 10) : dgs m = dgs (m / 10) ++ [UInt8.ofNat (48 + m % 10)] := by rw [dgs, if_neg h]
/-- Of which sort is a byte of a name. -/
def wsort (c : UInt8) : Nat :=
  if 97 ≤ c.toNat ∧ c.toNat ≤ 122 then 1
  else if (65 ≤ c.toNat ∧ c.toNat ≤ 90) ∨ (48 ≤ c.toNat ∧ c.toNat ≤ 57) ∨ c.toNat = 95 then 2
  else if ([43, 45, 42, 47, 94, 60, 62, 61, 126, 58, 63, 64, 35, 38, 36] : List UInt8).contains c then 3
  else if c.toNat = 92 then 3 else 0
theorem wsort_all : ∀ k : Fin 256, (let c := UInt8.ofNat k.val; decide (wsort c = 1) = (srt c == 1) ∧ (decide (wsort c = 1) || decide (wsort c = 2)) = isWord c ∧ decide (wsort c = 3) = (isSign c && c != 46)) := by decide +kernel
theorem wsort_is (c : UInt8) : decide (wsort c = 1) = (srt c == 1) ∧ (decide (wsort c = 1) || decide (wsort c = 2)) = isWord c ∧ decide (wsort c = 3) = (isSign c && c != 46) := by
  have h := wsort_all ⟨c.toNat, c.toNat_lt⟩
  have e : UInt8.ofNat c.toNat = c := UInt8.ofNat_toNat
  simpa only [e] using h
/-- The flags behind so many bytes. -/
def wordF (x : List UInt8) (i : Nat) : Bool := (match x with | [] => false | c :: _ => decide (wsort c = 1)) && (x.take i).all (fun c => decide (wsort c = 1) || decide (wsort c = 2))
def signF (x : List UInt8) (i : Nat) : Bool := !x.isEmpty && (x.take i).all (fun c => decide (wsort c = 3))
theorem wordF_zero (x : List UInt8) : wordF x 0 = match x with | [] => false | c :: _ => decide (wsort c = 1) := by simp [wordF]
theorem signF_zero (x : List UInt8) : signF x 0 = !x.isEmpty := by simp [signF]
theorem wordF_succ {x : List UInt8} {i : Nat} (h : i < x.length) : wordF x (i + 1) = (wordF x i && (decide (wsort x[i] = 1) || decide (wsort x[i] = 2))) := by
  unfold wordF
  rw [List.take_succ_eq_append_getElem h, List.all_append, List.all_cons, List.all_nil, Bool.and_true, Bool.and_assoc]
theorem signF_succ {x : List UInt8} {i : Nat} (h : i < x.length) : signF x (i + 1) = (signF x i && decide (wsort x[i] = 3)) := by
  unfold signF
  rw [List.take_succ_eq_append_getElem h, List.all_append, List.all_cons, List.all_nil, Bool.and_true, Bool.and_assoc]
theorem wordF_all (x : List UInt8) : wordF x x.length = wordN x := by
  unfold wordF wordN
  rw [List.take_length]
  cases x with
  | nil => rfl
  | cons c r =>
    dsimp only
    have h1 := (wsort_is c).1
    rw [h1, List.all_cons]
    have e : (fun c => decide (wsort c = 1) || decide (wsort c = 2)) = isWord := funext fun c => (wsort_is c).2.1
    rw [e]
    by_cases h : srt c = 1
    · have : isWord c = true := by unfold isWord; rw [h]; rfl
      rw [(wsort_is c).2.1, this, Bool.true_and]
    · have : (srt c == 1) = false := beq_false_of_ne h
      rw [this, Bool.false_and, Bool.false_and]
theorem signF_all (x : List UInt8) : signF x x.length = signN x := by
  unfold signF signN
  rw [List.take_length, show (fun c => decide (wsort c = 3)) = (fun c => isSign c && c != 46) from funext fun c => (wsort_is c).2.2]
theorem plain_is (x : List UInt8) : plainN x = (wordF x x.length || signF x x.length || decide (x = [33]) || decide (x = [59]) || decide (x = [91, 93])) := by
  rw [wordF_all, signF_all]
  rfl
/-- What is doubled so far. -/
theorem dbl_snoc : ∀ (x : List UInt8) (c : UInt8), dbl (x ++ [c]) = dbl x ++ (if c = 39 then [39, 39] else [c])
  | [], c => by
    rw [List.nil_append, dbl, dbl, List.nil_append]
    split <;> rfl
  | d :: x, c => by
    rw [List.cons_append, dbl, dbl, dbl_snoc x c]
    split
    · rfl
    · rfl
end Go.Proofs.YtliapkajonbndaaDoor
