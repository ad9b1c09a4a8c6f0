/-
  Goals' texts, purely; whether goals are few.
-/
import Derived.Test.YtliapkajonbndaaDoorGl
import Derived.Test.YtliapkajonbndaaDoorWrX
namespace Go.Proofs.YtliapkajonbndaaDoor
open Go.RowKit

/-- A term's text, whatever it is. -/
def sureX (t : Tm) : List UInt8 := if t.right = true ∧ (tx t).length ≤ 8000 then tx t else [63]
def joinX : List (List UInt8) → List UInt8
  | [] => []
  | x :: r => 44 :: 32 :: (x ++ joinX r)
def rowX : List (List UInt8) → List UInt8
  | [] => [116, 114, 117, 101]
  | x :: r => x ++ joinX r
theorem joinX_app (l r : List (List UInt8)) : joinX (l ++ r) = joinX l ++ joinX r := by
  induction l with
  | nil => rfl
  | cons x l ih => simp [joinX, ih]
theorem joinX_snoc (l : List (List UInt8)) (x : List UInt8) : joinX (l ++ [x]) = joinX l ++ 44 :: 32 :: x := by rw [joinX_app]; simp [joinX]
mutual
/-- A goal's text. -/
def gx : Gl → List UInt8
  | .mk k t a b c =>
    if k = 1 ∨ k = 2 then sureX t
    else if k = 3 then [33]
    else if k = 4 then 40 :: (rowX (gxs a) ++ ([32, 45, 62, 32] ++ (rowX (gxs b) ++ ([32, 59, 32] ++ (rowX (gxs c) ++ [41])))))
    else if k = 5 then [92, 43, 32, 40] ++ (rowX (gxs a) ++ [41])
    else [102, 97, 105, 108]
def gxs : List Gl → List (List UInt8)
  | [] => []
  | g :: r => gx g :: gxs r
end
theorem gxs_map (l : List Gl) : gxs l = l.map gx := by
  induction l with
  | nil => rfl
  | cons g r ih => rw [gxs, ih]; rfl
/-- Goals' texts. -/
def glsX (l : List Gl) : List UInt8 := rowX (gxs l)
/-- A clause's text. -/
def clX (h : Tm) (l : List Gl) : List UInt8 := match l with
  | [] => sureX h ++ [46]
  | _ => sureX h ++ ([32, 58, 45, 32] ++ (glsX l ++ [46]))
end Go.Proofs.YtliapkajonbndaaDoor
