/-
  The statement MatchOrders, walked: for any three terms that lie in memory the call returns true, and nothing that was there has turned.
-/
import Derived.Test.YtgnbjhiafjpokaaMKnows
import Derived.Test.YtgnbjhiafjpokaaVari
import Derived.Test.YtgnbjhiafjpokaaThree
namespace Go.Proofs.Ytgnbjhiafjpokaa
open Go.RowKit Go.Shelf Go.Maps

/-- Three boxes that stay, and what lay before. -/
structure OB (w : World) (a b c : Tm) (sva svb svc : Value) (V W : World) : Prop where
  ost : OSt w a b c sva svb svc W
  low : Below V.heap.size V W
theorem OB.cells {w : World} {a b c : Tm} {sva svb svc : Value} {V W : World} (h : OB w a b c sva svb svc V W) :
    W.cell? ⟨w.heap.size, 0, none⟩ = some (.int .i64 a.kind) ∧ W.cell? ⟨w.heap.size, 1, none⟩ = some (.string a.name) ∧ W.cell? ⟨w.heap.size, 2, none⟩ = some (.int .i64 a.n) ∧ W.cell? ⟨w.heap.size, 3, none⟩ = some (sva) ∧ W.cell? ⟨w.heap.size + 1, 0, none⟩ = some (.int .i64 b.kind) ∧ W.cell? ⟨w.heap.size + 1, 1, none⟩ = some (.string b.name) ∧ W.cell? ⟨w.heap.size + 1, 2, none⟩ = some (.int .i64 b.n) ∧ W.cell? ⟨w.heap.size + 1, 3, none⟩ = some (svb) ∧ W.cell? ⟨w.heap.size + 1 + 1, 0, none⟩ = some (.int .i64 c.kind) ∧ W.cell? ⟨w.heap.size + 1 + 1, 1, none⟩ = some (.string c.name) ∧ W.cell? ⟨w.heap.size + 1 + 1, 2, none⟩ = some (.int .i64 c.n) ∧ W.cell? ⟨w.heap.size + 1 + 1, 3, none⟩ = some (svc) ∧ OB w a b c sva svb svc V W := by
  obtain ⟨⟨a0, a1, a2, a3⟩, ⟨b0, b1, b2, b3⟩, c0, c1, c2, c3⟩ := h.ost.cells
  exact ⟨a0, a1, a2, a3, b0, b1, b2, b3, c0, c1, c2, c3, h⟩
theorem OB.step {w : World} {a b c : Tm} {sva svb svc : Value} {V W W' : World} {p0 p1 p2 p3 p4 p5 p6 p7 p8 p9 p10 p11 : Prop} (hb : Below W.heap.size W W') (h : p0 ∧ p1 ∧ p2 ∧ p3 ∧ p4 ∧ p5 ∧ p6 ∧ p7 ∧ p8 ∧ p9 ∧ p10 ∧ p11 ∧ OB w a b c sva svb svc V W) :
    W'.cell? ⟨w.heap.size, 0, none⟩ = some (.int .i64 a.kind) ∧ W'.cell? ⟨w.heap.size, 1, none⟩ = some (.string a.name) ∧ W'.cell? ⟨w.heap.size, 2, none⟩ = some (.int .i64 a.n) ∧ W'.cell? ⟨w.heap.size, 3, none⟩ = some (sva) ∧ W'.cell? ⟨w.heap.size + 1, 0, none⟩ = some (.int .i64 b.kind) ∧ W'.cell? ⟨w.heap.size + 1, 1, none⟩ = some (.string b.name) ∧ W'.cell? ⟨w.heap.size + 1, 2, none⟩ = some (.int .i64 b.n) ∧ W'.cell? ⟨w.heap.size + 1, 3, none⟩ = some (svb) ∧ W'.cell? ⟨w.heap.size + 1 + 1, 0, none⟩ = some (.int .i64 c.kind) ∧ W'.cell? ⟨w.heap.size + 1 + 1, 1, none⟩ = some (.string c.name) ∧ W'.cell? ⟨w.heap.size + 1 + 1, 2, none⟩ = some (.int .i64 c.n) ∧ W'.cell? ⟨w.heap.size + 1 + 1, 3, none⟩ = some (svc) ∧ OB w a b c sva svb svc V W' :=
  have g := h.2.2.2.2.2.2.2.2.2.2.2.2
  OB.cells ⟨g.ost.next hb, g.low.trans (hb.mono g.low.size)⟩
theorem OB.a' {w : World} {a b c : Tm} {sva svb svc : Value} {V W : World} {p0 p1 p2 p3 p4 p5 p6 p7 p8 p9 p10 p11 : Prop} (h : p0 ∧ p1 ∧ p2 ∧ p3 ∧ p4 ∧ p5 ∧ p6 ∧ p7 ∧ p8 ∧ p9 ∧ p10 ∧ p11 ∧ OB w a b c sva svb svc V W) : Tm.inn W W.heap.size a sva := h.2.2.2.2.2.2.2.2.2.2.2.2.ost.ba.2
theorem OB.b' {w : World} {a b c : Tm} {sva svb svc : Value} {V W : World} {p0 p1 p2 p3 p4 p5 p6 p7 p8 p9 p10 p11 : Prop} (h : p0 ∧ p1 ∧ p2 ∧ p3 ∧ p4 ∧ p5 ∧ p6 ∧ p7 ∧ p8 ∧ p9 ∧ p10 ∧ p11 ∧ OB w a b c sva svb svc V W) : Tm.inn W W.heap.size b svb := h.2.2.2.2.2.2.2.2.2.2.2.2.ost.bb.2
theorem OB.c' {w : World} {a b c : Tm} {sva svb svc : Value} {V W : World} {p0 p1 p2 p3 p4 p5 p6 p7 p8 p9 p10 p11 : Prop} (h : p0 ∧ p1 ∧ p2 ∧ p3 ∧ p4 ∧ p5 ∧ p6 ∧ p7 ∧ p8 ∧ p9 ∧ p10 ∧ p11 ∧ OB w a b c sva svb svc V W) : Tm.inn W W.heap.size c svc := h.2.2.2.2.2.2.2.2.2.2.2.2.ost.bc.2

set_option maxRecDepth 100000 in
set_option maxHeartbeats 8000000 in
theorem morders_any (a b c : Tm) (w : World) (sva svb svc : Value) (hia : Tm.inn w w.heap.size a sva) (hib : Tm.inn w w.heap.size b svb) (hic : Tm.inn w w.heap.size c svc) :
    Calls Try.prog 14 #[.agg #[.int .i64 a.kind, .string a.name, .int .i64 a.n, sva], .agg #[.int .i64 b.kind, .string b.name, .int .i64 b.n, svb], .agg #[.int .i64 c.kind, .string c.name, .int .i64 c.n, svc]] w fun e w' => e = .returned (.bool true) ∧ Below w.heap.size w w' := by
  have hst := OSt.start hia hib hic
  obtain ⟨_, ga, ca, rfl, _, _, _⟩ := Tm.inn_iff.1 hia
  obtain ⟨_, gb, cb, rfl, _, _, _⟩ := Tm.inn_iff.1 hib
  obtain ⟨_, gc, cc, rfl, _, _, _⟩ := Tm.inn_iff.1 hic
  have HST := Lib.hid hst
  clear hia hib hic hst
  go_enter Try.func14, Try.ntmps14
  go_wp2_with fail
  have hst0 := HST.out.next ((Below.refl _ _).alloc (Nat.le_refl _) (Obj.cells #[.int .i64 a.kind, .string a.name, .int .i64 a.n, .slice ga a.args.length ca, .int .i64 b.kind, .string b.name, .int .i64 b.n, .slice gb b.args.length cb, .int .i64 c.kind, .string c.name, .int .i64 c.n, .slice gc c.args.length cc] 27 (0, 0)))
  have hsl := three_slice (n := w.heap.size + 1 + 1 + 1) (newBlk (World.alloc _ _) (Obj.cells #[.int .i64 a.kind, .string a.name, .int .i64 a.n, .slice ga a.args.length ca, .int .i64 b.kind, .string b.name, .int .i64 b.n, .slice gb b.args.length cb, .int .i64 c.kind, .string c.name, .int .i64 c.n, .slice gc c.args.length cc] 27 (0, 0)) _ (by simp)) hst0.ba.2 hst0.bb.2 hst0.bc.2
  have A0 := Lib.hid hst0
  clear hst0 HST
  refine (some_any [a, b, c] _ _ _ (Nat.le_refl _) hsl).mono ?_
  rintro e W1 ⟨rfl, hb1⟩
  have A1 := Lib.hid (A0.out.next hb1)
  clear A0 hsl hb1
  cases hs : Tm.someB [a, b, c] with
  | false =>
    clear hs
    go_wp2_with fail
    refine (mknows_any W1).mono ?_
    rintro e W2 ⟨rfl, hb2⟩
    have HB := Lib.hid (A1.out.next hb2).below
    clear hb2
    go_wp2_with fail
    go_ret
    exact ⟨rfl, HB.out⟩
  | true =>
    have hsa : a.size ≤ 4000 := Tm.some_size hs (by simp)
    have hsb : b.size ≤ 4000 := Tm.some_size hs (by simp)
    have hsc : c.size ≤ 4000 := Tm.some_size hs (by simp)
    clear hs
    obtain ⟨⟨a0, a1, a2, a3⟩, _⟩ := A1.out.cells
    go_wp2_with fail
    refine (rright_any a W1 _ _ (Nat.le_refl _) A1.out.ba.2 (by omega)).mono ?_
    rintro e W2 ⟨rfl, hb2⟩
    have A2 := Lib.hid (A1.out.next hb2)
    clear hb2 a0 a1 a2 a3 A1
    cases hra : a.right with
    | false =>
      clear hra
      go_wp2_with fail
      refine (mknows_any W2).mono ?_
      rintro e W3 ⟨rfl, hb3⟩
      have HB := Lib.hid (A2.out.next hb3).below
      clear hb3
      go_wp2_with fail
      go_ret
      exact ⟨rfl, HB.out⟩
    | true =>
      have HRA := Lib.hid hra
      clear hra
      obtain ⟨_, ⟨b0, b1, b2, b3⟩, _⟩ := A2.out.cells
      go_wp2_with fail
      refine (rright_any b W2 _ _ (Nat.le_refl _) A2.out.bb.2 (by omega)).mono ?_
      rintro e W3 ⟨rfl, hb3⟩
      have A3 := Lib.hid (A2.out.next hb3)
      clear hb3 b0 b1 b2 b3 A2
      cases hrb : b.right with
      | false =>
        clear hrb
        go_wp2_with fail
        refine (mknows_any W3).mono ?_
        rintro e W4 ⟨rfl, hb4⟩
        have HB := Lib.hid (A3.out.next hb4).below
        clear hb4
        go_wp2_with fail
        go_ret
        exact ⟨rfl, HB.out⟩
      | true =>
        have HRB := Lib.hid hrb
        clear hrb
        obtain ⟨_, _, c0, c1, c2, c3⟩ := A3.out.cells
        go_wp2_with fail
        refine (rright_any c W3 _ _ (Nat.le_refl _) A3.out.bc.2 (by omega)).mono ?_
        rintro e W4 ⟨rfl, hb4⟩
        have A4 := Lib.hid (A3.out.next hb4)
        clear hb4 c0 c1 c2 c3 A3
        cases hrc : c.right with
        | false =>
          clear hrc
          go_wp2_with fail
          refine (mknows_any W4).mono ?_
          rintro e W5 ⟨rfl, hb5⟩
          have HB := Lib.hid (A4.out.next hb5).below
          clear hb5
          go_wp2_with fail
          go_ret
          exact ⟨rfl, HB.out⟩
        | true =>
          have HRC := Lib.hid hrc
          clear hrc
          have hins : ∀ (t p : Tm) (W : World) (st sp : Value), t.right = true → p.right = true → t.size ≤ 4000 → p.size ≤ 4000 → Tm.inn W W.heap.size t st → Tm.inn W W.heap.size p sp →
              Calls Try.prog 45 #[.agg #[.int .i64 t.kind, .string t.name, .int .i64 t.n, st], .agg #[.int .i64 p.kind, .string p.name, .int .i64 p.n, sp]] W fun e w' => e = .returned (.bool (inst t p)) ∧ Below W.heap.size W w' := fun t p W st sp ht hp h1 h2 h3 h4 => by
            have h := instance_any t p W st sp h3 h4 (by omega) (by omega)
            rwa [show (p.right && t.right && inst t p) = inst t p by rw [ht, hp]; simp] at h
          have htr : inst a b = true → inst b c = true → inst a c = true := inst_trans
          have hva : isVar a b = (inst a b && inst b a) := by
            have h := variants_of (right_fair HRA.out) (right_fair HRB.out)
            rw [Bool.eq_iff_iff, Bool.and_eq_true, h]
            unfold isVar numT
            rw [HRA.out, HRB.out, Bool.true_and, Bool.true_and, Tm.same_iff]
            simp [Tm.rens_map]
          have hself : inst a a = true := inst_self (right_fair HRA.out)
          obtain ⟨ab, hab⟩ : ∃ x, inst a b = x := ⟨_, rfl⟩
          obtain ⟨bc, hbc⟩ : ∃ x, inst b c = x := ⟨_, rfl⟩
          obtain ⟨ba, hba⟩ : ∃ x, inst b a = x := ⟨_, rfl⟩
          obtain ⟨ac, hac⟩ : ∃ x, inst a c = x := ⟨_, rfl⟩
          rw [hab, hbc, hac] at htr
          rw [hab, hba] at hva
          have iAB := fun (W : World) (st sp : Value) (h3 : Tm.inn W W.heap.size a st) (h4 : Tm.inn W W.heap.size b sp) => by
            have h := hins a b W st sp HRA.out HRB.out hsa hsb h3 h4
            rw [hab] at h
            exact h
          have iBC := fun (W : World) (st sp : Value) (h3 : Tm.inn W W.heap.size b st) (h4 : Tm.inn W W.heap.size c sp) => by
            have h := hins b c W st sp HRB.out HRC.out hsb hsc h3 h4
            rw [hbc] at h
            exact h
          have iBA := fun (W : World) (st sp : Value) (h3 : Tm.inn W W.heap.size b st) (h4 : Tm.inn W W.heap.size a sp) => by
            have h := hins b a W st sp HRB.out HRA.out hsb hsa h3 h4
            rw [hba] at h
            exact h
          have iAC := fun (W : World) (st sp : Value) (h3 : Tm.inn W W.heap.size a st) (h4 : Tm.inn W W.heap.size c sp) => by
            have h := hins a c W st sp HRA.out HRC.out hsa hsc h3 h4
            rw [hac] at h
            exact h
          have iAA := fun (W : World) (st sp : Value) (h3 : Tm.inn W W.heap.size a st) (h4 : Tm.inn W W.heap.size a sp) => by
            have h := hins a a W st sp HRA.out HRA.out hsa hsa h3 h4
            rw [hself] at h
            exact h
          have iV := fun (W : World) (h3 : Tm.inn W W.heap.size a (.slice ga a.args.length ca)) (h4 : Tm.inn W W.heap.size b (.slice gb b.args.length cb)) => by
            have h := cvariant_any a b W _ _ h3 h4 (by omega) (by omega)
            rw [hva] at h
            exact h
          have IAB := Lib.hid iAB
          have IBC := Lib.hid iBC
          have IBA := Lib.hid iBA
          have IAC := Lib.hid iAC
          have IAA := Lib.hid iAA
          have IV := Lib.hid iV
          have HTR := Lib.hid htr
          have hs12 := OB.cells (V := W4) ⟨A4.out.next (Below.refl _ _).drew, (Below.refl W4.heap.size W4).drew⟩
          obtain ⟨⟨a0, a1, a2, a3⟩, ⟨b0, b1, b2, b3⟩, c0, c1, c2, c3⟩ := A4.out.cells
          clear hins htr hva hself hab hbc hba hac iAB iBC iBA iAC iAA iV
          go_wp2_with fail
          go_region_held3 (fun W' => W'.cell? ⟨w.heap.size, 0, none⟩ = some (.int .i64 a.kind) ∧ W'.cell? ⟨w.heap.size, 1, none⟩ = some (.string a.name) ∧ W'.cell? ⟨w.heap.size, 2, none⟩ = some (.int .i64 a.n) ∧ W'.cell? ⟨w.heap.size, 3, none⟩ = some (.slice ga a.args.length ca) ∧
  W'.cell? ⟨w.heap.size + 1, 0, none⟩ = some (.int .i64 b.kind) ∧ W'.cell? ⟨w.heap.size + 1, 1, none⟩ = some (.string b.name) ∧ W'.cell? ⟨w.heap.size + 1, 2, none⟩ = some (.int .i64 b.n) ∧ W'.cell? ⟨w.heap.size + 1, 3, none⟩ = some (.slice gb b.args.length cb) ∧
  W'.cell? ⟨w.heap.size + 1 + 1, 0, none⟩ = some (.int .i64 c.kind) ∧ W'.cell? ⟨w.heap.size + 1 + 1, 1, none⟩ = some (.string c.name) ∧ W'.cell? ⟨w.heap.size + 1 + 1, 2, none⟩ = some (.int .i64 c.n) ∧ W'.cell? ⟨w.heap.size + 1 + 1, 3, none⟩ = some (.slice gc c.args.length cc) ∧ OB w a b c (.slice ga a.args.length ca) (.slice gb b.args.length cb) (.slice gc c.args.length cc) W4 W')
            (first | with_reducible exact hs12 | exact OB.step (by assumption) (by assumption))
            (first
              | (go_at_call 45; (with_reducible refine (IAB.out _ _ _ (OB.a' (w := w) (a := a) (b := b) (c := c) (sva := .slice ga a.args.length ca) (svb := .slice gb b.args.length cb) (svc := .slice gc c.args.length cc) (V := W4) (by assumption)) (OB.b' (w := w) (a := a) (b := b) (c := c) (sva := .slice ga a.args.length ca) (svb := .slice gb b.args.length cb) (svc := .slice gc c.args.length cc) (V := W4) (by assumption))).mono ?_); rintro e w' ⟨rfl, hb⟩)
              | (go_at_call 45; (with_reducible refine (IBC.out _ _ _ (OB.b' (w := w) (a := a) (b := b) (c := c) (sva := .slice ga a.args.length ca) (svb := .slice gb b.args.length cb) (svc := .slice gc c.args.length cc) (V := W4) (by assumption)) (OB.c' (w := w) (a := a) (b := b) (c := c) (sva := .slice ga a.args.length ca) (svb := .slice gb b.args.length cb) (svc := .slice gc c.args.length cc) (V := W4) (by assumption))).mono ?_); rintro e w' ⟨rfl, hb⟩))
          rename_i hheld
          have A5 := Lib.hid hheld.2.2.2.2.2.2.2.2.2.2.2.2
          clear hheld hs12 a0 a1 a2 a3 b0 b1 b2 b3 c0 c1 c2 c3 IAB IBC
          cases ab with
          | false =>
            simp only [Bool.false_and] at IV
            obtain ⟨a0, a1, a2, a3, b0, b1, b2, b3, c0, c1, c2, c3, _⟩ := A5.out.cells
            have hs6 := OB.cells (V := W4) ⟨A5.out.ost.next (Below.refl _ _).drew, A5.out.low.drew⟩
            go_wp2_with fail
            refine wp_region_held_drew (S := fun W' => W'.cell? ⟨w.heap.size, 0, none⟩ = some (.int .i64 a.kind) ∧ W'.cell? ⟨w.heap.size, 1, none⟩ = some (.string a.name) ∧ W'.cell? ⟨w.heap.size, 2, none⟩ = some (.int .i64 a.n) ∧ W'.cell? ⟨w.heap.size, 3, none⟩ = some (.slice ga a.args.length ca) ∧ W'.cell? ⟨w.heap.size + 1, 0, none⟩ = some (.int .i64 b.kind) ∧ W'.cell? ⟨w.heap.size + 1, 1, none⟩ = some (.string b.name) ∧ W'.cell? ⟨w.heap.size + 1, 2, none⟩ = some (.int .i64 b.n) ∧ W'.cell? ⟨w.heap.size + 1, 3, none⟩ = some (.slice gb b.args.length cb) ∧ W'.cell? ⟨w.heap.size + 1 + 1, 0, none⟩ = some (.int .i64 c.kind) ∧ W'.cell? ⟨w.heap.size + 1 + 1, 1, none⟩ = some (.string c.name) ∧ W'.cell? ⟨w.heap.size + 1 + 1, 2, none⟩ = some (.int .i64 c.n) ∧ W'.cell? ⟨w.heap.size + 1 + 1, 3, none⟩ = some (.slice gc c.args.length cc) ∧ OB w a b c (.slice ga a.args.length ca) (.slice gb b.args.length cb) (.slice gc c.args.length cc) W4 W') (by kernel_rfl) hs6 (fun hHeld => ?_)
            clear hs6 a0 a1 a2 a3 b0 b1 b2 b3 c0 c1 c2 c3
            refine wpAnyH_take (i := 0) (oi := _) (v := ?_) rfl (by kernel_rfl) (by kernel_rfl) (by kernel_rfl) (fun _ _ _ h => h) (Or.inl ⟨by rfl, ?_⟩) hHeld ?_
            rotate_left
            · (intro w hSw; obtain ⟨a0, a1, a2, a3, b0, b1, b2, b3, c0, c1, c2, c3, _⟩ := hSw; go_simp; try with_reducible rfl)
            try simp only [Act.put, List.setIfInBounds_toArray, List.set_cons_zero, List.set_cons_succ, List.getElem_toArray, List.getElem_cons_zero]
            refine wpAnyH_take (i := 1) (oi := _) (v := ?_) rfl (by kernel_rfl) (by kernel_rfl) (by kernel_rfl) (fun _ _ _ h => h) (Or.inl ⟨by rfl, ?_⟩) hHeld ?_
            rotate_left
            · (intro w hSw; obtain ⟨a0, a1, a2, a3, b0, b1, b2, b3, c0, c1, c2, c3, _⟩ := hSw; go_simp; try with_reducible rfl)
            try simp only [Act.put, List.setIfInBounds_toArray, List.set_cons_zero, List.set_cons_succ, List.getElem_toArray, List.getElem_cons_zero, List.getElem_cons_succ]
            refine wpAnyH_take (i := 2) (oi := _) (v := undef) rfl (by kernel_rfl) (by kernel_rfl) (by kernel_rfl) (fun _ _ _ h => h) (Or.inr ⟨by rfl, rfl⟩) hHeld ?_
            try simp only [Act.put, List.setIfInBounds_toArray, List.set_cons_zero, List.set_cons_succ, List.getElem_toArray, List.getElem_cons_zero, List.getElem_cons_succ]
            refine wpAnyH_take (i := 3) (oi := _) (v := undef) rfl (by kernel_rfl) (by kernel_rfl) (by kernel_rfl) (fun _ _ _ h => h) (Or.inr ⟨by rfl, rfl⟩) hHeld ?_
            try simp only [Act.put, List.setIfInBounds_toArray, List.set_cons_zero, List.set_cons_succ, List.getElem_toArray, List.getElem_cons_zero, List.getElem_cons_succ]
            refine wpAnyH_take (i := 6) (oi := _) (v := ?_) rfl (by kernel_rfl) (by kernel_rfl) (by kernel_rfl) (fun _ _ _ h => h) (Or.inl ⟨by rfl, ?_⟩) hHeld ?_
            rotate_left
            · (intro w hSw; obtain ⟨a0, a1, a2, a3, b0, b1, b2, b3, c0, c1, c2, c3, _⟩ := hSw; go_simp; try with_reducible rfl)
            try simp only [Act.put, List.setIfInBounds_toArray, List.set_cons_zero, List.set_cons_succ, List.getElem_toArray, List.getElem_cons_zero, List.getElem_cons_succ]
            refine wpAnyH_take (i := 7) (oi := _) (v := ?_) rfl (by kernel_rfl) (by kernel_rfl) (by kernel_rfl) (fun _ _ _ h => h) (Or.inl ⟨by rfl, ?_⟩) hHeld ?_
            rotate_left
            · (intro w hSw; obtain ⟨a0, a1, a2, a3, b0, b1, b2, b3, c0, c1, c2, c3, _⟩ := hSw; go_simp; try with_reducible rfl)
            try simp only [Act.put, List.setIfInBounds_toArray, List.set_cons_zero, List.set_cons_succ, List.getElem_toArray, List.getElem_cons_zero, List.getElem_cons_succ]
            refine wpAnyH_ready (rs := [4]) (by kernel_rfl) (by simp) ?_
            refine AllReadyH.cons (o := _) rfl (fun K hK => ?_) AllReadyH.nil
            go_simp
            refine hK.out _ _ (hHeld) (fun hHeld => ?_)
            clear hK K
            try simp only [Act.put, List.setIfInBounds_toArray, List.set_cons_zero, List.set_cons_succ, List.getElem_toArray, List.getElem_cons_zero, List.getElem_cons_succ]
            refine wpAnyH_take (i := 5) (oi := _) (v := ?_) rfl (by kernel_rfl) (by kernel_rfl) (by kernel_rfl) (fun _ _ _ h => h) (Or.inl ⟨by rfl, ?_⟩) hHeld ?_
            rotate_left
            · (intro w hSw; obtain ⟨a0, a1, a2, a3, b0, b1, b2, b3, c0, c1, c2, c3, _⟩ := hSw; go_simp; try with_reducible rfl)
            try simp only [Act.put, List.setIfInBounds_toArray, List.set_cons_zero, List.set_cons_succ, List.getElem_toArray, List.getElem_cons_zero, List.getElem_cons_succ]
            refine wpAnyH_ready (rs := [8]) (by kernel_rfl) (by simp) ?_
            refine AllReadyH.cons (o := _) rfl (fun K hK => ?_) AllReadyH.nil
            go_simp
            refine (IV.out _ (OB.a' hHeld) (OB.b' hHeld)).mono ?_
            rintro e w' ⟨rfl, hb⟩
            have HS := Lib.hid (OB.step hb hHeld)
            clear hb hHeld
            go_wp2_with fail
            refine hK.out _ _ (HS.out) (fun hHeld => ?_)
            clear hK K HS
            try simp only [Act.put, List.setIfInBounds_toArray, List.set_cons_zero, List.set_cons_succ, List.getElem_toArray, List.getElem_cons_zero, List.getElem_cons_succ]
            refine wpAnyH_take (i := 9) (oi := _) (v := ?_) rfl (by kernel_rfl) (by kernel_rfl) (by kernel_rfl) (fun _ _ _ h => h) (Or.inl ⟨by rfl, ?_⟩) hHeld ?_
            rotate_left
            · (intro w hSw; obtain ⟨a0, a1, a2, a3, b0, b1, b2, b3, c0, c1, c2, c3, _⟩ := hSw; go_simp; try with_reducible rfl)
            try simp only [Act.put, List.setIfInBounds_toArray, List.set_cons_zero, List.set_cons_succ, List.getElem_toArray, List.getElem_cons_zero, List.getElem_cons_succ]
            refine wpAnyH_take (i := 10) (oi := _) (v := ?_) rfl (by kernel_rfl) (by kernel_rfl) (by kernel_rfl) (fun _ _ _ h => h) (Or.inl ⟨by rfl, ?_⟩) hHeld ?_
            rotate_left
            · (intro w hSw; obtain ⟨a0, a1, a2, a3, b0, b1, b2, b3, c0, c1, c2, c3, _⟩ := hSw; go_simp; try with_reducible rfl)
            try simp only [Act.put, List.setIfInBounds_toArray, List.set_cons_zero, List.set_cons_succ, List.getElem_toArray, List.getElem_cons_zero, List.getElem_cons_succ]
            refine wpAnyH_take (i := 11) (oi := _) (v := ?_) rfl (by kernel_rfl) (by kernel_rfl) (by kernel_rfl) (fun _ _ _ h => h) (Or.inl ⟨by rfl, ?_⟩) hHeld ?_
            rotate_left
            · (intro w hSw; obtain ⟨a0, a1, a2, a3, b0, b1, b2, b3, c0, c1, c2, c3, _⟩ := hSw; go_simp; try with_reducible rfl)
            try simp only [Act.put, List.setIfInBounds_toArray, List.set_cons_zero, List.set_cons_succ, List.getElem_toArray, List.getElem_cons_zero, List.getElem_cons_succ]
            refine wpAnyH_take (i := 12) (oi := _) (v := ?_) rfl (by kernel_rfl) (by kernel_rfl) (by kernel_rfl) (fun _ _ _ h => h) (Or.inl ⟨by rfl, ?_⟩) hHeld ?_
            rotate_left
            · (intro w hSw; obtain ⟨a0, a1, a2, a3, b0, b1, b2, b3, c0, c1, c2, c3, _⟩ := hSw; go_simp; try with_reducible rfl)
            try simp only [Act.put, List.setIfInBounds_toArray, List.set_cons_zero, List.set_cons_succ, List.getElem_toArray, List.getElem_cons_zero, List.getElem_cons_succ]
            refine wpAnyH_ready (rs := [13]) (by kernel_rfl) (by simp) ?_
            refine AllReadyH.cons (o := _) rfl (fun K hK => ?_) AllReadyH.nil
            go_simp
            refine (IAA.out _ _ _ (OB.a' hHeld) (OB.a' hHeld)).mono ?_
            rintro e w' ⟨rfl, hb⟩
            have HS := Lib.hid (OB.step hb hHeld)
            clear hb hHeld
            go_wp2_with fail
            refine hK.out _ _ (HS.out) (fun hHeld => ?_)
            clear hK K HS
            try simp only [Act.put, List.setIfInBounds_toArray, List.set_cons_zero, List.set_cons_succ, List.getElem_toArray, List.getElem_cons_zero, List.getElem_cons_succ]
            refine wpAnyH_take (i := 14) (oi := _) (v := ?_) rfl (by kernel_rfl) (by kernel_rfl) (by kernel_rfl) (fun _ _ _ h => h) (Or.inl ⟨by rfl, ?_⟩) hHeld ?_
            rotate_left
            · (intro w hSw; obtain ⟨a0, a1, a2, a3, b0, b1, b2, b3, c0, c1, c2, c3, _⟩ := hSw; go_simp; try with_reducible rfl)
            try simp only [Act.put, List.setIfInBounds_toArray, List.set_cons_zero, List.set_cons_succ, List.getElem_toArray, List.getElem_cons_zero, List.getElem_cons_succ]
            refine wpAnyH_take (i := 15) (oi := _) (v := ?_) rfl (by kernel_rfl) (by kernel_rfl) (by kernel_rfl) (fun _ _ _ h => h) (Or.inl ⟨by rfl, ?_⟩) hHeld ?_
            rotate_left
            · (intro w hSw; obtain ⟨a0, a1, a2, a3, b0, b1, b2, b3, c0, c1, c2, c3, _⟩ := hSw; go_simp; try with_reducible rfl)
            try simp only [Act.put, List.setIfInBounds_toArray, List.set_cons_zero, List.set_cons_succ, List.getElem_toArray, List.getElem_cons_zero, List.getElem_cons_succ]
            refine wpAnyH_ready (rs := [16]) (by kernel_rfl) (by simp) ?_
            refine AllReadyH.cons (o := _) rfl (fun K hK => ?_) AllReadyH.nil
            go_simp
            refine (mknows_any _).mono ?_
            rintro e w' ⟨rfl, hb⟩
            have HS := Lib.hid (OB.step hb hHeld)
            clear hb hHeld
            go_wp2_with fail
            refine hK.out _ _ (HS.out) (fun hHeld => ?_)
            clear hK K HS
            try simp only [Act.put, List.setIfInBounds_toArray, List.set_cons_zero, List.set_cons_succ, List.getElem_toArray, List.getElem_cons_zero, List.getElem_cons_succ]
            refine wpAnyH_take (i := 17) (oi := _) (v := ?_) rfl (by kernel_rfl) (by kernel_rfl) (by kernel_rfl) (fun _ _ _ h => h) (Or.inl ⟨by rfl, ?_⟩) hHeld ?_
            rotate_left
            · (intro w hSw; obtain ⟨a0, a1, a2, a3, b0, b1, b2, b3, c0, c1, c2, c3, _⟩ := hSw; go_simp; try with_reducible rfl)
            try simp only [Act.put, List.setIfInBounds_toArray, List.set_cons_zero, List.set_cons_succ, List.getElem_toArray, List.getElem_cons_zero, List.getElem_cons_succ]
            refine wpAnyH_ready (rs := [18]) (by kernel_rfl) (by simp) ?_
            refine AllReadyH.cons (o := _) rfl (fun K hK => ?_) AllReadyH.nil
            go_simp
            refine hK.out _ _ (hHeld) (fun hHeld => ?_)
            clear hK K
            try simp only [Act.put, List.setIfInBounds_toArray, List.set_cons_zero, List.set_cons_succ, List.getElem_toArray, List.getElem_cons_zero, List.getElem_cons_succ]
            refine wpAnyH_done (by kernel_rfl) ?_ _
            have HBF := Lib.hid (A4.out.below.trans (hHeld.2.2.2.2.2.2.2.2.2.2.2.2.low.mono A4.out.below.size))
            clear hHeld
            go_wp2_with fail
            go_ret
            exact ⟨rfl, HBF.out⟩
          | true =>
            simp only [Bool.true_and] at IV
            cases bc with
            | false =>
              cases ba with
              | false =>
                obtain ⟨a0, a1, a2, a3, b0, b1, b2, b3, c0, c1, c2, c3, _⟩ := A5.out.cells
                have hs6 := OB.cells (V := W4) ⟨A5.out.ost.next (Below.refl _ _).drew, A5.out.low.drew⟩
                go_wp2_with fail
                go_region_held3 (fun W' => W'.cell? ⟨w.heap.size, 0, none⟩ = some (.int .i64 a.kind) ∧ W'.cell? ⟨w.heap.size, 1, none⟩ = some (.string a.name) ∧ W'.cell? ⟨w.heap.size, 2, none⟩ = some (.int .i64 a.n) ∧ W'.cell? ⟨w.heap.size, 3, none⟩ = some (.slice ga a.args.length ca) ∧ W'.cell? ⟨w.heap.size + 1, 0, none⟩ = some (.int .i64 b.kind) ∧ W'.cell? ⟨w.heap.size + 1, 1, none⟩ = some (.string b.name) ∧ W'.cell? ⟨w.heap.size + 1, 2, none⟩ = some (.int .i64 b.n) ∧ W'.cell? ⟨w.heap.size + 1, 3, none⟩ = some (.slice gb b.args.length cb) ∧ W'.cell? ⟨w.heap.size + 1 + 1, 0, none⟩ = some (.int .i64 c.kind) ∧ W'.cell? ⟨w.heap.size + 1 + 1, 1, none⟩ = some (.string c.name) ∧ W'.cell? ⟨w.heap.size + 1 + 1, 2, none⟩ = some (.int .i64 c.n) ∧ W'.cell? ⟨w.heap.size + 1 + 1, 3, none⟩ = some (.slice gc c.args.length cc) ∧ OB w a b c (.slice ga a.args.length ca) (.slice gb b.args.length cb) (.slice gc c.args.length cc) W4 W')
                  (first | assumption | with_reducible exact hs6 | exact OB.step (by assumption) (by assumption))
                  (first
                    | (go_at_call 43; (with_reducible refine (mknows_any _).mono ?_); rintro e w' ⟨rfl, hb⟩)
                    | (go_at_call 51; (with_reducible refine (IV.out _ (OB.a' (w := w) (a := a) (b := b) (c := c) (sva := .slice ga a.args.length ca) (svb := .slice gb b.args.length cb) (svc := .slice gc c.args.length cc) (V := W4) (by assumption)) (OB.b' (w := w) (a := a) (b := b) (c := c) (sva := .slice ga a.args.length ca) (svb := .slice gb b.args.length cb) (svc := .slice gc c.args.length cc) (V := W4) (by assumption))).mono ?_); rintro e w' ⟨rfl, hb⟩)
                    | (go_at_call 45; (with_reducible refine (IAA.out _ _ _ (OB.a' (w := w) (a := a) (b := b) (c := c) (sva := .slice ga a.args.length ca) (svb := .slice gb b.args.length cb) (svc := .slice gc c.args.length cc) (V := W4) (by assumption)) (OB.a' (w := w) (a := a) (b := b) (c := c) (sva := .slice ga a.args.length ca) (svb := .slice gb b.args.length cb) (svc := .slice gc c.args.length cc) (V := W4) (by assumption))).mono ?_); rintro e w' ⟨rfl, hb⟩)
                    | (go_at_call 45; (with_reducible refine (IBA.out _ _ _ (OB.b' (w := w) (a := a) (b := b) (c := c) (sva := .slice ga a.args.length ca) (svb := .slice gb b.args.length cb) (svc := .slice gc c.args.length cc) (V := W4) (by assumption)) (OB.a' (w := w) (a := a) (b := b) (c := c) (sva := .slice ga a.args.length ca) (svb := .slice gb b.args.length cb) (svc := .slice gc c.args.length cc) (V := W4) (by assumption))).mono ?_); rintro e w' ⟨rfl, hb⟩))
                rename_i hheld2
                have HBF := Lib.hid (A4.out.below.trans (hheld2.2.2.2.2.2.2.2.2.2.2.2.2.low.mono A4.out.below.size))
                clear hheld2
                go_wp2_with fail
                go_ret
                exact ⟨rfl, HBF.out⟩
              | true =>
                obtain ⟨a0, a1, a2, a3, b0, b1, b2, b3, c0, c1, c2, c3, _⟩ := A5.out.cells
                have hs6 := OB.cells (V := W4) ⟨A5.out.ost.next (Below.refl _ _).drew, A5.out.low.drew⟩
                go_wp2_with fail
                go_region_held3 (fun W' => W'.cell? ⟨w.heap.size, 0, none⟩ = some (.int .i64 a.kind) ∧ W'.cell? ⟨w.heap.size, 1, none⟩ = some (.string a.name) ∧ W'.cell? ⟨w.heap.size, 2, none⟩ = some (.int .i64 a.n) ∧ W'.cell? ⟨w.heap.size, 3, none⟩ = some (.slice ga a.args.length ca) ∧ W'.cell? ⟨w.heap.size + 1, 0, none⟩ = some (.int .i64 b.kind) ∧ W'.cell? ⟨w.heap.size + 1, 1, none⟩ = some (.string b.name) ∧ W'.cell? ⟨w.heap.size + 1, 2, none⟩ = some (.int .i64 b.n) ∧ W'.cell? ⟨w.heap.size + 1, 3, none⟩ = some (.slice gb b.args.length cb) ∧ W'.cell? ⟨w.heap.size + 1 + 1, 0, none⟩ = some (.int .i64 c.kind) ∧ W'.cell? ⟨w.heap.size + 1 + 1, 1, none⟩ = some (.string c.name) ∧ W'.cell? ⟨w.heap.size + 1 + 1, 2, none⟩ = some (.int .i64 c.n) ∧ W'.cell? ⟨w.heap.size + 1 + 1, 3, none⟩ = some (.slice gc c.args.length cc) ∧ OB w a b c (.slice ga a.args.length ca) (.slice gb b.args.length cb) (.slice gc c.args.length cc) W4 W')
                  (first | assumption | with_reducible exact hs6 | exact OB.step (by assumption) (by assumption))
                  (first
                    | (go_at_call 43; (with_reducible refine (mknows_any _).mono ?_); rintro e w' ⟨rfl, hb⟩)
                    | (go_at_call 51; (with_reducible refine (IV.out _ (OB.a' (w := w) (a := a) (b := b) (c := c) (sva := .slice ga a.args.length ca) (svb := .slice gb b.args.length cb) (svc := .slice gc c.args.length cc) (V := W4) (by assumption)) (OB.b' (w := w) (a := a) (b := b) (c := c) (sva := .slice ga a.args.length ca) (svb := .slice gb b.args.length cb) (svc := .slice gc c.args.length cc) (V := W4) (by assumption))).mono ?_); rintro e w' ⟨rfl, hb⟩)
                    | (go_at_call 45; (with_reducible refine (IAA.out _ _ _ (OB.a' (w := w) (a := a) (b := b) (c := c) (sva := .slice ga a.args.length ca) (svb := .slice gb b.args.length cb) (svc := .slice gc c.args.length cc) (V := W4) (by assumption)) (OB.a' (w := w) (a := a) (b := b) (c := c) (sva := .slice ga a.args.length ca) (svb := .slice gb b.args.length cb) (svc := .slice gc c.args.length cc) (V := W4) (by assumption))).mono ?_); rintro e w' ⟨rfl, hb⟩)
                    | (go_at_call 45; (with_reducible refine (IBA.out _ _ _ (OB.b' (w := w) (a := a) (b := b) (c := c) (sva := .slice ga a.args.length ca) (svb := .slice gb b.args.length cb) (svc := .slice gc c.args.length cc) (V := W4) (by assumption)) (OB.a' (w := w) (a := a) (b := b) (c := c) (sva := .slice ga a.args.length ca) (svb := .slice gb b.args.length cb) (svc := .slice gc c.args.length cc) (V := W4) (by assumption))).mono ?_); rintro e w' ⟨rfl, hb⟩))
                rename_i hheld2
                have HBF := Lib.hid (A4.out.below.trans (hheld2.2.2.2.2.2.2.2.2.2.2.2.2.low.mono A4.out.below.size))
                clear hheld2
                go_wp2_with fail
                go_ret
                exact ⟨rfl, HBF.out⟩
            | true =>
              have hac : ac = true := HTR.out rfl rfl
              subst hac
              obtain ⟨a0, a1, a2, a3, b0, b1, b2, b3, c0, c1, c2, c3, _⟩ := A5.out.cells
              go_wp2_with fail
              refine (IAC.out _ _ _ A5.out.ost.ba.2 A5.out.ost.bc.2).mono ?_
              rintro e W6 ⟨rfl, hb6⟩
              have A6 := Lib.hid (OB.step hb6 A5.out.cells).2.2.2.2.2.2.2.2.2.2.2.2
              clear hb6 a0 a1 a2 a3 b0 b1 b2 b3 c0 c1 c2 c3 A5
              cases ba with
              | false =>
                obtain ⟨a0, a1, a2, a3, b0, b1, b2, b3, c0, c1, c2, c3, _⟩ := A6.out.cells
                have hs6 := OB.cells (V := W4) ⟨A6.out.ost.next (Below.refl _ _).drew, A6.out.low.drew⟩
                go_wp2_with fail
                go_region_held3 (fun W' => W'.cell? ⟨w.heap.size, 0, none⟩ = some (.int .i64 a.kind) ∧ W'.cell? ⟨w.heap.size, 1, none⟩ = some (.string a.name) ∧ W'.cell? ⟨w.heap.size, 2, none⟩ = some (.int .i64 a.n) ∧ W'.cell? ⟨w.heap.size, 3, none⟩ = some (.slice ga a.args.length ca) ∧ W'.cell? ⟨w.heap.size + 1, 0, none⟩ = some (.int .i64 b.kind) ∧ W'.cell? ⟨w.heap.size + 1, 1, none⟩ = some (.string b.name) ∧ W'.cell? ⟨w.heap.size + 1, 2, none⟩ = some (.int .i64 b.n) ∧ W'.cell? ⟨w.heap.size + 1, 3, none⟩ = some (.slice gb b.args.length cb) ∧ W'.cell? ⟨w.heap.size + 1 + 1, 0, none⟩ = some (.int .i64 c.kind) ∧ W'.cell? ⟨w.heap.size + 1 + 1, 1, none⟩ = some (.string c.name) ∧ W'.cell? ⟨w.heap.size + 1 + 1, 2, none⟩ = some (.int .i64 c.n) ∧ W'.cell? ⟨w.heap.size + 1 + 1, 3, none⟩ = some (.slice gc c.args.length cc) ∧ OB w a b c (.slice ga a.args.length ca) (.slice gb b.args.length cb) (.slice gc c.args.length cc) W4 W')
                  (first | assumption | with_reducible exact hs6 | exact OB.step (by assumption) (by assumption))
                  (first
                    | (go_at_call 43; (with_reducible refine (mknows_any _).mono ?_); rintro e w' ⟨rfl, hb⟩)
                    | (go_at_call 51; (with_reducible refine (IV.out _ (OB.a' (w := w) (a := a) (b := b) (c := c) (sva := .slice ga a.args.length ca) (svb := .slice gb b.args.length cb) (svc := .slice gc c.args.length cc) (V := W4) (by assumption)) (OB.b' (w := w) (a := a) (b := b) (c := c) (sva := .slice ga a.args.length ca) (svb := .slice gb b.args.length cb) (svc := .slice gc c.args.length cc) (V := W4) (by assumption))).mono ?_); rintro e w' ⟨rfl, hb⟩)
                    | (go_at_call 45; (with_reducible refine (IAA.out _ _ _ (OB.a' (w := w) (a := a) (b := b) (c := c) (sva := .slice ga a.args.length ca) (svb := .slice gb b.args.length cb) (svc := .slice gc c.args.length cc) (V := W4) (by assumption)) (OB.a' (w := w) (a := a) (b := b) (c := c) (sva := .slice ga a.args.length ca) (svb := .slice gb b.args.length cb) (svc := .slice gc c.args.length cc) (V := W4) (by assumption))).mono ?_); rintro e w' ⟨rfl, hb⟩)
                    | (go_at_call 45; (with_reducible refine (IBA.out _ _ _ (OB.b' (w := w) (a := a) (b := b) (c := c) (sva := .slice ga a.args.length ca) (svb := .slice gb b.args.length cb) (svc := .slice gc c.args.length cc) (V := W4) (by assumption)) (OB.a' (w := w) (a := a) (b := b) (c := c) (sva := .slice ga a.args.length ca) (svb := .slice gb b.args.length cb) (svc := .slice gc c.args.length cc) (V := W4) (by assumption))).mono ?_); rintro e w' ⟨rfl, hb⟩))
                rename_i hheld2
                have HBF := Lib.hid (A4.out.below.trans (hheld2.2.2.2.2.2.2.2.2.2.2.2.2.low.mono A4.out.below.size))
                clear hheld2
                go_wp2_with fail
                go_ret
                exact ⟨rfl, HBF.out⟩
              | true =>
                obtain ⟨a0, a1, a2, a3, b0, b1, b2, b3, c0, c1, c2, c3, _⟩ := A6.out.cells
                have hs6 := OB.cells (V := W4) ⟨A6.out.ost.next (Below.refl _ _).drew, A6.out.low.drew⟩
                go_wp2_with fail
                go_region_held3 (fun W' => W'.cell? ⟨w.heap.size, 0, none⟩ = some (.int .i64 a.kind) ∧ W'.cell? ⟨w.heap.size, 1, none⟩ = some (.string a.name) ∧ W'.cell? ⟨w.heap.size, 2, none⟩ = some (.int .i64 a.n) ∧ W'.cell? ⟨w.heap.size, 3, none⟩ = some (.slice ga a.args.length ca) ∧ W'.cell? ⟨w.heap.size + 1, 0, none⟩ = some (.int .i64 b.kind) ∧ W'.cell? ⟨w.heap.size + 1, 1, none⟩ = some (.string b.name) ∧ W'.cell? ⟨w.heap.size + 1, 2, none⟩ = some (.int .i64 b.n) ∧ W'.cell? ⟨w.heap.size + 1, 3, none⟩ = some (.slice gb b.args.length cb) ∧ W'.cell? ⟨w.heap.size + 1 + 1, 0, none⟩ = some (.int .i64 c.kind) ∧ W'.cell? ⟨w.heap.size + 1 + 1, 1, none⟩ = some (.string c.name) ∧ W'.cell? ⟨w.heap.size + 1 + 1, 2, none⟩ = some (.int .i64 c.n) ∧ W'.cell? ⟨w.heap.size + 1 + 1, 3, none⟩ = some (.slice gc c.args.length cc) ∧ OB w a b c (.slice ga a.args.length ca) (.slice gb b.args.length cb) (.slice gc c.args.length cc) W4 W')
                  (first | assumption | with_reducible exact hs6 | exact OB.step (by assumption) (by assumption))
                  (first
                    | (go_at_call 43; (with_reducible refine (mknows_any _).mono ?_); rintro e w' ⟨rfl, hb⟩)
                    | (go_at_call 51; (with_reducible refine (IV.out _ (OB.a' (w := w) (a := a) (b := b) (c := c) (sva := .slice ga a.args.length ca) (svb := .slice gb b.args.length cb) (svc := .slice gc c.args.length cc) (V := W4) (by assumption)) (OB.b' (w := w) (a := a) (b := b) (c := c) (sva := .slice ga a.args.length ca) (svb := .slice gb b.args.length cb) (svc := .slice gc c.args.length cc) (V := W4) (by assumption))).mono ?_); rintro e w' ⟨rfl, hb⟩)
                    | (go_at_call 45; (with_reducible refine (IAA.out _ _ _ (OB.a' (w := w) (a := a) (b := b) (c := c) (sva := .slice ga a.args.length ca) (svb := .slice gb b.args.length cb) (svc := .slice gc c.args.length cc) (V := W4) (by assumption)) (OB.a' (w := w) (a := a) (b := b) (c := c) (sva := .slice ga a.args.length ca) (svb := .slice gb b.args.length cb) (svc := .slice gc c.args.length cc) (V := W4) (by assumption))).mono ?_); rintro e w' ⟨rfl, hb⟩)
                    | (go_at_call 45; (with_reducible refine (IBA.out _ _ _ (OB.b' (w := w) (a := a) (b := b) (c := c) (sva := .slice ga a.args.length ca) (svb := .slice gb b.args.length cb) (svc := .slice gc c.args.length cc) (V := W4) (by assumption)) (OB.a' (w := w) (a := a) (b := b) (c := c) (sva := .slice ga a.args.length ca) (svb := .slice gb b.args.length cb) (svc := .slice gc c.args.length cc) (V := W4) (by assumption))).mono ?_); rintro e w' ⟨rfl, hb⟩))
                rename_i hheld2
                have HBF := Lib.hid (A4.out.below.trans (hheld2.2.2.2.2.2.2.2.2.2.2.2.2.low.mono A4.out.below.size))
                clear hheld2
                go_wp2_with fail
                go_ret
                exact ⟨rfl, HBF.out⟩
end Go.Proofs.Ytgnbjhiafjpokaa
