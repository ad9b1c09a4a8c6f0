/-
  A term's text, purely.
-/
import Derived.Test.YtliapkajonbndaaDoorWrA
import Derived.Test.YtliapkajonbndaaDoorTm
namespace Go.Proofs.YtliapkajonbndaaDoor
open Go.RowKit

/-- A text's bytes. -/
def bsN (s : ByteArray) : List UInt8 := s.data.toList
theorem bsN_length (s : ByteArray) : (bsN s).length = s.size := by simp [bsN]
theorem bsN_get (s : ByteArray) (i : Nat) (h : i < s.size) : (bsN s)[i]'(by rw [bsN_length]; exact h) = s[i] := by simp [bsN]; rfl
theorem bsN_toList (s : ByteArray) : s.toList = bsN s := by rw [ByteArray.toList_eq]; rfl
theorem bsN_arr (s : ByteArray) : (⟨(bsN s).toArray⟩ : ByteArray) = s := by
  cases s
  simp [bsN]
/-! ### the text -/
abbrev P2 := List UInt8 × List UInt8
def dotO (s : List UInt8) : List P2 → Option (P2 × P2)
  | [a, b] => if s = [46] then some (a, b) else none
  | _ => none
def cmX : List P2 → List UInt8
  | [] => []
  | a :: q => 44 :: (a.1 ++ cmX q)
def txO (k : Int) (s : List UInt8) (n : Int) (ps : List P2) : List UInt8 :=
  if k = 1 then 95 :: dgs n.toNat
  else if k = 2 then (if n < 0 then 45 :: dgs (-n).toNat else dgs n.toNat)
  else match ps with
    | [] => nmX s
    | a :: q => match dotO s (a :: q) with
      | some (x, y) => 91 :: (x.1 ++ y.2)
      | none => nmX s ++ 40 :: (a.1 ++ (cmX q ++ [41]))
def tlO (k : Int) (s : List UInt8) (n : Int) (ps : List P2) : List UInt8 :=
  if k = 3 ∧ s = [91, 93] ∧ ps = [] then [93]
  else match (if k = 3 then dotO s ps else none) with
    | some (x, y) => 44 :: (x.1 ++ y.2)
    | none => 124 :: (txO k s n ps ++ [93])
mutual
/-- A term's text, and what stands for it behind a list's element. -/
def wr : Tm → P2
  | .mk k s n l => (txO k (bsN s) n (wrs l), tlO k (bsN s) n (wrs l))
def wrs : List Tm → List P2
  | [] => []
  | t :: r => wr t :: wrs r
end
def tx (t : Tm) : List UInt8 := (wr t).1
def tl (t : Tm) : List UInt8 := (wr t).2
theorem wrs_map (l : List Tm) : wrs l = l.map wr := by
  induction l with
  | nil => rfl
  | cons t r ih => rw [wrs, ih]; rfl
/-! ### what is told of the numbers -/
mutual
def nOk : Tm → Bool
  | .mk k _ n l => (k != 2 || (decide (-9223372036854775807 ≤ n) && decide (n ≤ 9223372036854775807))) && nOks l
def nOks : List Tm → Bool
  | [] => true
  | t :: r => nOk t && nOks r
end
theorem nOks_all (l : List Tm) : nOks l = l.all nOk := by
  induction l with
  | nil => rfl
  | cons t r ih => simp [nOks, ih]
end Go.Proofs.YtliapkajonbndaaDoor
