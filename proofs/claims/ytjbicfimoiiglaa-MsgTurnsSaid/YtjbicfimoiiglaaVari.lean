/-
  The program's Variant.
-/
import Derived.Test.YtjbicfimoiiglaaBox
import Derived.Test.YtjbicfimoiiglaaTermB
import Derived.Test.YtjbicfimoiiglaaPureNum
import Derived.Deep.RegionHeld3
namespace Go.Proofs.Ytjbicfimoiiglaa
open Go.RowKit

/-- A term with its variables numbered anew. -/
def numT (a : Tm) : Tm := a.ren (posOf (varsOf [a]))
theorem numTms_one {a : Tm} (h : a.right = true) : numTms [a] = [numT a] := by
  unfold numTms
  rw [if_pos (by simp [h]), Tm.rens_map]
  rfl
theorem numErr_one (a : Tm) : numErr [a] = if a.right = true then 0 else 1 := by
  unfold numErr
  simp
/-- Are two terms right, and alike when each is numbered? -/
def isVar (a b : Tm) : Bool := a.right && b.right && (numT a).same (numT b)

/-- Number of one term that is right. -/
theorem number_one (a : Tm) (h : a.right = true) (w : World) (sv : Value) (hsl : Tm.sliceIn w w.heap.size [a] sv) (hsz : a.size ≤ 1000000) :
    Calls Try.prog 24 #[sv] w fun e w' => ∃ b o c sv', (e = .returned (.tuple #[.slice (some ⟨b, o, none⟩) 1 c, .int .i64 (varsOf [a]).length, .int .i64 0]) ∧ TmAt w' b o (numT a) sv') ∧ Below w.heap.size w w' := by
  refine (number_all [a] w sv hsl (by simpa [Tm.sizes] using hsz)).mono ?_
  rintro e w' ⟨⟨g, c, rfl, hs⟩, hb⟩
  rw [numTms_one h] at hs ⊢
  obtain ⟨b, o, sv', rfl, hat⟩ := TmAt.of hs 0 (by simp)
  have h1 : numN [a] = (varsOf [a]).length := by unfold numN; rw [if_pos (by simp [h])]
  have h2 : numErr [a] = 0 := by rw [numErr_one, if_pos h]
  rw [h1, h2]
  exact ⟨b, o, c, sv', ⟨rfl, by simpa using hat⟩, hb⟩
/-- .. that isn't. -/
theorem number_wrong (a : Tm) (h : a.right = false) (w : World) (sv : Value) (hsl : Tm.sliceIn w w.heap.size [a] sv) (hsz : a.size ≤ 1000000) :
    Calls Try.prog 24 #[sv] w fun e w' => (∃ g n c, e = .returned (.tuple #[.slice g n c, .int .i64 0, .int .i64 1])) ∧ Below w.heap.size w w' := by
  refine (number_all [a] w sv hsl (by simpa [Tm.sizes] using hsz)).mono ?_
  rintro e w' ⟨⟨g, c, rfl, hs⟩, hb⟩
  have h1 : numN [a] = 0 := by unfold numN; rw [if_neg (by simp [h])]
  have h2 : numErr [a] = 1 := by rw [numErr_one, if_neg (by simp [h])]
  rw [h1, h2]
  exact ⟨⟨_, _, _, rfl⟩, hb⟩

/-- What lies in memory behind both numberings. -/
structure VSt (w : World) (a b : Tm) (sva svb : Value) (b1 o1 b2 o2 : Nat) (sv1 sv2 : Value) (W : World) : Prop where
  hx : TmAt W b1 o1 (numT a) sv1
  hy : TmAt W b2 o2 (numT b) sv2
  hst : TSt w a b sva svb W
theorem VSt.next {w : World} {a b : Tm} {sva svb : Value} {b1 o1 b2 o2 : Nat} {sv1 sv2 : Value} {W W' : World} (h : VSt w a b sva svb b1 o1 b2 o2 sv1 sv2 W) (hb : Below W.heap.size W W') : VSt w a b sva svb b1 o1 b2 o2 sv1 sv2 W' :=
  ⟨h.hx.next hb, h.hy.next hb, h.hst.next hb⟩
theorem VSt.cells {w : World} {a b : Tm} {sva svb : Value} {b1 o1 b2 o2 : Nat} {sv1 sv2 : Value} {W' : World} (h : VSt w a b sva svb b1 o1 b2 o2 sv1 sv2 W') :
    W'.cell? ⟨b1, o1, none⟩ = some (.int .i64 (numT a).kind) ∧ W'.cell? ⟨b1, o1 + 1, none⟩ = some (.string (numT a).name) ∧ W'.cell? ⟨b1, o1 + 2, none⟩ = some (.int .i64 (numT a).n) ∧ W'.cell? ⟨b1, o1 + 3, none⟩ = some sv1 ∧
        W'.cell? ⟨b2, o2, none⟩ = some (.int .i64 (numT b).kind) ∧ W'.cell? ⟨b2, o2 + 1, none⟩ = some (.string (numT b).name) ∧ W'.cell? ⟨b2, o2 + 2, none⟩ = some (.int .i64 (numT b).n) ∧ W'.cell? ⟨b2, o2 + 3, none⟩ = some sv2 ∧ VSt w a b sva svb b1 o1 b2 o2 sv1 sv2 W' :=
  ⟨h.hx.c0, h.hx.c1, h.hx.c2, h.hx.c3, h.hy.c0, h.hy.c1, h.hy.c2, h.hy.c3, h⟩
theorem VSt.step {w : World} {a b : Tm} {sva svb : Value} {b1 o1 b2 o2 : Nat} {sv1 sv2 : Value} {W W' : World} {p1 p2 p3 p4 p5 p6 p7 p8 : Prop} (hb : Below W.heap.size W W') (h : p1 ∧ p2 ∧ p3 ∧ p4 ∧ p5 ∧ p6 ∧ p7 ∧ p8 ∧ VSt w a b sva svb b1 o1 b2 o2 sv1 sv2 W) :
    W'.cell? ⟨b1, o1, none⟩ = some (.int .i64 (numT a).kind) ∧ W'.cell? ⟨b1, o1 + 1, none⟩ = some (.string (numT a).name) ∧ W'.cell? ⟨b1, o1 + 2, none⟩ = some (.int .i64 (numT a).n) ∧ W'.cell? ⟨b1, o1 + 3, none⟩ = some sv1 ∧
        W'.cell? ⟨b2, o2, none⟩ = some (.int .i64 (numT b).kind) ∧ W'.cell? ⟨b2, o2 + 1, none⟩ = some (.string (numT b).name) ∧ W'.cell? ⟨b2, o2 + 2, none⟩ = some (.int .i64 (numT b).n) ∧ W'.cell? ⟨b2, o2 + 3, none⟩ = some sv2 ∧ VSt w a b sva svb b1 o1 b2 o2 sv1 sv2 W' := (h.2.2.2.2.2.2.2.2.next hb).cells
theorem VSt.x' {w : World} {a b : Tm} {sva svb : Value} {b1 o1 b2 o2 : Nat} {sv1 sv2 : Value} {W : World} {p1 p2 p3 p4 p5 p6 p7 p8 : Prop} (h : p1 ∧ p2 ∧ p3 ∧ p4 ∧ p5 ∧ p6 ∧ p7 ∧ p8 ∧ VSt w a b sva svb b1 o1 b2 o2 sv1 sv2 W) : Tm.inn W W.heap.size (numT a) sv1 := h.2.2.2.2.2.2.2.2.hx.inn
theorem VSt.y' {w : World} {a b : Tm} {sva svb : Value} {b1 o1 b2 o2 : Nat} {sv1 sv2 : Value} {W : World} {p1 p2 p3 p4 p5 p6 p7 p8 : Prop} (h : p1 ∧ p2 ∧ p3 ∧ p4 ∧ p5 ∧ p6 ∧ p7 ∧ p8 ∧ VSt w a b sva svb b1 o1 b2 o2 sv1 sv2 W) : Tm.inn W W.heap.size (numT b) sv2 := h.2.2.2.2.2.2.2.2.hy.inn

set_option maxRecDepth 100000 in
set_option maxHeartbeats 2000000 in
theorem cvariant_any (a b : Tm) (w : World) (sva svb : Value) (hia : Tm.inn w w.heap.size a sva) (hib : Tm.inn w w.heap.size b svb) (hsa : a.size ≤ 1000000) (hsb : b.size ≤ 1000000) :
    Calls Try.prog 41 #[.agg #[.int .i64 a.kind, .string a.name, .int .i64 a.n, sva], .agg #[.int .i64 b.kind, .string b.name, .int .i64 b.n, svb]] w
      fun e w' => e = .returned (.bool (isVar a b)) ∧ Below w.heap.size w w' := by
  have HV := Lib.hid (show isVar a b = (a.right && b.right && (numT a).same (numT b)) from rfl)
  have hst := TSt.start hia hib
  obtain ⟨_, ga, ca, rfl, _, _, _⟩ := Tm.inn_iff.1 hia
  obtain ⟨_, gb, cb, rfl, _, _, _⟩ := Tm.inn_iff.1 hib
  clear hia hib
  go_enter Try.func41, Try.ntmps41
  go_wp2_with fail
  have hW1 := hst.next ((Below.refl _ _).alloc (Nat.le_refl _) (Obj.cells #[.int .i64 a.kind, .string a.name, .int .i64 a.n, .slice ga a.args.length ca] 24 (0, 0)))
  have hsl := one_slice (b := w.heap.size + 1 + 1) (W := World.alloc _ _) (newBlk _ (Obj.cells #[.int .i64 a.kind, .string a.name, .int .i64 a.n, .slice ga a.args.length ca] 24 (0, 0)) _ (by simp)) hW1.ia
  clear hst
  revert hW1 hsl
  generalize (((w.alloc (Obj.cells #[.int .i64 a.kind, .string a.name, .int .i64 a.n, .slice ga a.args.length ca] 24 (0, 0))).alloc (Obj.cells #[.int .i64 b.kind, .string b.name, .int .i64 b.n, .slice gb b.args.length cb] 24 (0, 0))).alloc (Obj.cells #[.int .i64 a.kind, .string a.name, .int .i64 a.n, .slice ga a.args.length ca] 24 (0, 0))) = W1
  intro hW1 hsl
  cases har : a.right with
  | false =>
    refine (number_wrong a har W1 _ hsl hsa).mono ?_
    rintro e W2 ⟨⟨g, n, c, rfl⟩, hb2⟩
    have hst2 := hW1.next hb2
    rw [har] at HV
    have hv := Lib.hid (show isVar a b = false from HV.out.trans (by simp))
    clear har HV hb2 hsl hW1
    go_wp2_with fail
    go_ret
    exact ⟨ret_bool hv.out.symm, hst2.below⟩
  | true =>
    refine (number_one a har W1 _ hsl hsa).mono ?_
    rintro e W2 ⟨b1, o1, c1, sv1, ⟨rfl, hx⟩, hb2⟩
    have hst2 := hW1.next hb2
    rw [har] at HV
    obtain ⟨a0, a1, a2, a3, d0, d1, d2, d3, _⟩ := hst2.cells
    have hsz2 := hst2.size
    clear har hb2 hsl hW1
    go_wp2_with fail
    have hW3 := hst2.next ((Below.refl _ _).alloc (Nat.le_refl _) (Obj.cells #[.int .i64 b.kind, .string b.name, .int .i64 b.n, .slice gb b.args.length cb] 24 (0, 0)))
    have hx3 := hx.next ((Below.refl _ _).alloc (Nat.le_refl _) (Obj.cells #[.int .i64 b.kind, .string b.name, .int .i64 b.n, .slice gb b.args.length cb] 24 (0, 0)))
    have hsl := one_slice (b := W2.heap.size) (W := World.alloc _ _) (newBlk _ (Obj.cells #[.int .i64 b.kind, .string b.name, .int .i64 b.n, .slice gb b.args.length cb] 24 (0, 0)) _ rfl) hW3.ib
    clear hst2 hx a0 a1 a2 a3 d0 d1 d2 d3 hsz2
    revert hW3 hsl hx3
    generalize (W2.alloc (Obj.cells #[.int .i64 b.kind, .string b.name, .int .i64 b.n, .slice gb b.args.length cb] 24 (0, 0))) = W3
    intro hW3 hx3 hsl
    cases hbr : b.right with
    | false =>
      refine (number_wrong b hbr W3 _ hsl hsb).mono ?_
      rintro e W4 ⟨⟨g, n, c, rfl⟩, hb4⟩
      have hst4 := hW3.next hb4
      rw [hbr] at HV
      have hv := Lib.hid (show isVar a b = false from HV.out.trans (by simp))
      clear hbr HV hb4 hsl hW3 hx3
      go_wp2_with fail
      go_quiet (fail)
      go_wp2_with fail
      go_ret
      exact ⟨ret_bool hv.out.symm, below_drewN hst4.below _⟩
    | true =>
      refine (number_one b hbr W3 _ hsl hsb).mono ?_
      rintro e W4 ⟨b2, o2, c2, sv2, ⟨rfl, hy⟩, hb4⟩
      have hst4 := hW3.next hb4
      have hx4 := hx3.next hb4
      rw [hbr] at HV
      have hv := Lib.hid (show isVar a b = (numT a).same (numT b) from HV.out.trans (by simp))
      clear hbr HV hb4 hsl hW3 hx3
      go_wp2_with fail
      obtain ⟨x0, x1, x2, x3, _⟩ := id hx4
      obtain ⟨y0, y1, y2, y3, _⟩ := id hy
      have hV : VSt w a b (.slice ga a.args.length ca) (.slice gb b.args.length cb) b1 o1 b2 o2 sv1 sv2 W4 := ⟨hx4, hy, hst4⟩
      clear hst4 hx4 hy
      go_region_held3 (fun W' => W'.cell? ⟨b1, o1, none⟩ = some (.int .i64 (numT a).kind) ∧ W'.cell? ⟨b1, o1 + 1, none⟩ = some (.string (numT a).name) ∧ W'.cell? ⟨b1, o1 + 2, none⟩ = some (.int .i64 (numT a).n) ∧ W'.cell? ⟨b1, o1 + 3, none⟩ = some sv1 ∧
        W'.cell? ⟨b2, o2, none⟩ = some (.int .i64 (numT b).kind) ∧ W'.cell? ⟨b2, o2 + 1, none⟩ = some (.string (numT b).name) ∧ W'.cell? ⟨b2, o2 + 2, none⟩ = some (.int .i64 (numT b).n) ∧ W'.cell? ⟨b2, o2 + 3, none⟩ = some sv2 ∧ VSt w a b (.slice ga a.args.length ca) (.slice gb b.args.length cb) b1 o1 b2 o2 sv1 sv2 W')
        (first | exact (hV.next ((Below.refl _ _).drew)).cells | exact VSt.step (by assumption) (by assumption))
        (first
          | (go_at_call 64; refine (tsame_ab (numT a) (numT b) _ _ _ (VSt.x' (w := w) (a := a) (b := b) (by assumption)) (VSt.y' (w := w) (a := a) (b := b) (by assumption))).mono ?_; rintro e w' ⟨rfl, hb⟩))
      go_wp2_with fail
      go_ret
      rename_i hst
      exact ⟨ret_bool hv.out.symm, hst.2.2.2.2.2.2.2.2.hst.below⟩
end Go.Proofs.Ytjbicfimoiiglaa
