/-
  The statement CompareOrders, walked: for any three terms that lie in memory the call returns true, and nothing that was there has turned.
-/
import Derived.Test.YtpiflkgjmncijaaThree
import Derived.Test.YtpiflkgjmncijaaLawCTells
namespace Go.Proofs.Ytpiflkgjmncijaa
open Go.RowKit

theorem some_three {a b c : Tm} (h : Tm.someB [a, b, c] = true) : a.size ≤ 1000000 ∧ b.size ≤ 1000000 ∧ c.size ≤ 1000000 :=
  ⟨Nat.le_trans (Tm.some_size h (by simp)) (by omega), Nat.le_trans (Tm.some_size h (by simp)) (by omega), Nat.le_trans (Tm.some_size h (by simp)) (by omega)⟩
theorem ccompare_right {a b : Tm} (ha : a.right = true) (hb : b.right = true) (w : World) (sva svb : Value) (hia : Tm.inn w w.heap.size a sva) (hib : Tm.inn w w.heap.size b svb) (hsa : a.size ≤ 1000000) (hsb : b.size ≤ 1000000) :
    Calls Try.prog 13 #[.agg #[.int .i64 a.kind, .string a.name, .int .i64 a.n, sva], .agg #[.int .i64 b.kind, .string b.name, .int .i64 b.n, svb]] w
      fun e w' => e = .returned (.tuple #[.int .i64 (a.cmp b), .int .i64 0]) ∧ Below w.heap.size w w' := by
  have h := ccompare_any a b w sva svb hia hib hsa hsb
  rw [ccN, ccE, if_pos ⟨ha, hb⟩, if_pos ⟨ha, hb⟩] at h
  exact h

set_option maxRecDepth 100000 in
set_option maxHeartbeats 16000000 in
theorem corders_any (a b c : Tm) (w : World) (sva svb svc : Value) (hia : Tm.inn w w.heap.size a sva) (hib : Tm.inn w w.heap.size b svb) (hic : Tm.inn w w.heap.size c svc) :
    Calls Try.prog 5 #[.agg #[.int .i64 a.kind, .string a.name, .int .i64 a.n, sva], .agg #[.int .i64 b.kind, .string b.name, .int .i64 b.n, svb], .agg #[.int .i64 c.kind, .string c.name, .int .i64 c.n, svc]] w fun e w' => e = .returned (.bool true) ∧ Below w.heap.size w w' := by
  have hst := OSt.start hia hib hic
  obtain ⟨_, ga, ca, rfl, _, _, _⟩ := Tm.inn_iff.1 hia
  obtain ⟨_, gb, cb, rfl, _, _, _⟩ := Tm.inn_iff.1 hib
  obtain ⟨_, gc, cc, rfl, _, _, _⟩ := Tm.inn_iff.1 hic
  clear hia hib hic
  go_enter Try.func5, Try.ntmps5
  go_wp2_with fail
  have hst0 := hst.next ((Below.refl _ _).alloc (Nat.le_refl _) (Obj.cells #[.int .i64 a.kind, .string a.name, .int .i64 a.n, .slice ga a.args.length ca, .int .i64 b.kind, .string b.name, .int .i64 b.n, .slice gb b.args.length cb, .int .i64 c.kind, .string c.name, .int .i64 c.n, .slice gc c.args.length cc] 24 (0, 0)))
  have hsl := three_slice (n := w.heap.size + 1 + 1 + 1) (newBlk (World.alloc _ _) (Obj.cells #[.int .i64 a.kind, .string a.name, .int .i64 a.n, .slice ga a.args.length ca, .int .i64 b.kind, .string b.name, .int .i64 b.n, .slice gb b.args.length cb, .int .i64 c.kind, .string c.name, .int .i64 c.n, .slice gc c.args.length cc] 24 (0, 0)) _ (by simp)) hst0.ba.2 hst0.bb.2 hst0.bc.2
  clear hst
  revert hst0 hsl
  generalize ((((w.alloc (Obj.cells #[.int .i64 a.kind, .string a.name, .int .i64 a.n, .slice ga a.args.length ca] 24 (0, 0))).alloc (Obj.cells #[.int .i64 b.kind, .string b.name, .int .i64 b.n, .slice gb b.args.length cb] 24 (0, 0))).alloc (Obj.cells #[.int .i64 c.kind, .string c.name, .int .i64 c.n, .slice gc c.args.length cc] 24 (0, 0))).alloc (Obj.cells #[.int .i64 a.kind, .string a.name, .int .i64 a.n, .slice ga a.args.length ca, .int .i64 b.kind, .string b.name, .int .i64 b.n, .slice gb b.args.length cb, .int .i64 c.kind, .string c.name, .int .i64 c.n, .slice gc c.args.length cc] 24 (0, 0))) = W0
  intro hst0 hsl
  refine (some_any [a, b, c] W0 _ _ (Nat.le_refl _) hsl).mono ?_
  rintro e W1 ⟨rfl, hb1⟩
  have hst1 := hst0.next hb1
  clear hst0 hsl hb1
  cases hs : Tm.someB [a, b, c] with
  | false =>
    clear hs
    go_wp2_with fail
    refine (knows2_any W1).mono ?_
    rintro e Wk ⟨rfl, hbk⟩
    have hB := Lib.hid (hst1.next hbk).below
    clear hst1 hbk
    go_wp2_with fail
    go_ret
    exact ⟨rfl, hB.out⟩
  | true =>
    obtain ⟨hsa, hsb, hsc⟩ := some_three hs
    clear hs
    obtain ⟨⟨a0, a1, a2, a3⟩, ⟨b0, b1, b2, b3⟩, ⟨c0, c1, c2, c3⟩⟩ := hst1.cells
    go_wp2_with fail
    cases har : a.right with
    | false =>
      refine (rright_false har _ _ hst1.ba.2 hsa).mono ?_
      rintro e W2 ⟨rfl, hb2⟩
      have hst2 := hst1.next hb2
      clear hst1 hb2 a0 a1 a2 a3 b0 b1 b2 b3 c0 c1 c2 c3 har
      go_wp2_with fail
      refine (knows2_any W2).mono ?_
      rintro e Wk ⟨rfl, hbk⟩
      have hB := Lib.hid (hst2.next hbk).below
      clear hst2 hbk
      go_wp2_with fail
      go_ret
      exact ⟨rfl, hB.out⟩
    | true =>
      refine (rright_true har _ _ hst1.ba.2 hsa).mono ?_
      rintro e W2 ⟨rfl, hb2⟩
      have hst2 := hst1.next hb2
      clear hst1 hb2 a0 a1 a2 a3 b0 b1 b2 b3 c0 c1 c2 c3
      obtain ⟨⟨a0, a1, a2, a3⟩, ⟨b0, b1, b2, b3⟩, ⟨c0, c1, c2, c3⟩⟩ := hst2.cells
      go_wp2_with fail
      cases hbr : b.right with
      | false =>
        refine (rright_false hbr _ _ hst2.bb.2 hsb).mono ?_
        rintro e W3 ⟨rfl, hb3⟩
        have hst3 := hst2.next hb3
        clear hst2 hb3 a0 a1 a2 a3 b0 b1 b2 b3 c0 c1 c2 c3 hbr
        go_wp2_with fail
        refine (knows2_any W3).mono ?_
        rintro e Wk ⟨rfl, hbk⟩
        have hB := Lib.hid (hst3.next hbk).below
        clear hst3 hbk
        go_wp2_with fail
        go_ret
        exact ⟨rfl, hB.out⟩
      | true =>
        refine (rright_true hbr _ _ hst2.bb.2 hsb).mono ?_
        rintro e W3 ⟨rfl, hb3⟩
        have hst3 := hst2.next hb3
        clear hst2 hb3 a0 a1 a2 a3 b0 b1 b2 b3 c0 c1 c2 c3
        obtain ⟨⟨a0, a1, a2, a3⟩, ⟨b0, b1, b2, b3⟩, ⟨c0, c1, c2, c3⟩⟩ := hst3.cells
        go_wp2_with fail
        cases hcr : c.right with
        | false =>
          refine (rright_false hcr _ _ hst3.bc.2 hsc).mono ?_
          rintro e W4 ⟨rfl, hb4⟩
          have hst4 := hst3.next hb4
          clear hst3 hb4 a0 a1 a2 a3 b0 b1 b2 b3 c0 c1 c2 c3 hcr
          go_wp2_with fail
          refine (knows2_any W4).mono ?_
          rintro e Wk ⟨rfl, hbk⟩
          have hB := Lib.hid (hst4.next hbk).below
          clear hst4 hbk
          go_wp2_with fail
          go_ret
          exact ⟨rfl, hB.out⟩
        | true =>
          refine (rright_true hcr _ _ hst3.bc.2 hsc).mono ?_
          rintro e W4 ⟨rfl, hb4⟩
          have hst4 := hst3.next hb4
          clear hst3 hb4 a0 a1 a2 a3 b0 b1 b2 b3 c0 c1 c2 c3
          obtain ⟨⟨a0, a1, a2, a3⟩, ⟨b0, b1, b2, b3⟩, ⟨c0, c1, c2, c3⟩⟩ := hst4.cells
          go_wp2_with fail
          refine (ccompare_right har hbr _ _ _ hst4.ba.2 hst4.bb.2 hsa hsb).mono ?_
          rintro e W5 ⟨rfl, hb5⟩
          have hst5 := hst4.next hb5
          clear hst4 hb5 a0 a1 a2 a3 b0 b1 b2 b3 c0 c1 c2 c3
          obtain ⟨⟨a0, a1, a2, a3⟩, ⟨b0, b1, b2, b3⟩, ⟨c0, c1, c2, c3⟩⟩ := hst5.cells
          go_wp2_with fail
          refine (ccompare_right hbr hcr _ _ _ hst5.bb.2 hst5.bc.2 hsb hsc).mono ?_
          rintro e W6 ⟨rfl, hb6⟩
          have hst6 := hst5.next hb6
          clear hst5 hb6 a0 a1 a2 a3 b0 b1 b2 b3 c0 c1 c2 c3
          obtain ⟨⟨a0, a1, a2, a3⟩, ⟨b0, b1, b2, b3⟩, ⟨c0, c1, c2, c3⟩⟩ := hst6.cells
          go_wp2_with fail
          refine (ccompare_right har hcr _ _ _ hst6.ba.2 hst6.bc.2 hsa hsc).mono ?_
          rintro e W7 ⟨rfl, hb7⟩
          have hst7 := hst6.next hb7
          clear hst6 hb7 a0 a1 a2 a3 b0 b1 b2 b3 c0 c1 c2 c3
          obtain ⟨⟨a0, a1, a2, a3⟩, ⟨b0, b1, b2, b3⟩, ⟨c0, c1, c2, c3⟩⟩ := hst7.cells
          go_wp2_with fail
          refine (ccompare_right hbr har _ _ _ hst7.bb.2 hst7.ba.2 hsb hsa).mono ?_
          rintro e W8 ⟨rfl, hb8⟩
          have hst8 := hst7.next hb8
          clear hst7 hb8 a0 a1 a2 a3 b0 b1 b2 b3 c0 c1 c2 c3
          obtain ⟨⟨a0, a1, a2, a3⟩, ⟨b0, b1, b2, b3⟩, ⟨c0, c1, c2, c3⟩⟩ := hst8.cells
          go_wp2_with fail
          refine (tsame_ab a b _ _ _ hst8.ba.2 hst8.bb.2).mono ?_
          rintro e W9 ⟨rfl, hb9⟩
          have hst9 := hst8.next hb9
          have hT := cmp_tri a b c
          have hx := cmp_rng a b
          have hy := cmp_rng b c
          have hz := cmp_rng a c
          have hn := cmp_neg a b
          have hsame := (cmp_same a b).symm
          have HK := Lib.hid (knows2_any W9)
          rw [hn, hsame]
          obtain ⟨x, hx0⟩ : ∃ x, a.cmp b = x := ⟨_, rfl⟩
          obtain ⟨y, hy0⟩ : ∃ y, b.cmp c = y := ⟨_, rfl⟩
          obtain ⟨z, hz0⟩ : ∃ z, a.cmp c = z := ⟨_, rfl⟩
          rw [hx0, hy0, hz0] at hT
          rw [hx0] at hx ⊢
          rw [hy0] at hy ⊢
          rw [hz0] at hz ⊢
          clear hst8 hb9 a0 a1 a2 a3 b0 b1 b2 b3 c0 c1 c2 c3 hn hsame hx0 hy0 hz0 har hbr hcr
          have HB9 := Lib.hid hst9
          clear hst9
          have hcases : (x = 0 ∧ y = z ∧ (y = -1 ∨ y = 0 ∨ y = 1)) ∨ (y = 0 ∧ x = z ∧ (x = -1 ∨ x = 1)) ∨ (x = -1 ∧ y = -1 ∧ z = -1) ∨ (x = 1 ∧ y = 1 ∧ z = 1) ∨ (x = -1 ∧ y = 1) ∨ (x = 1 ∧ y = -1) := by
            unfold Tri at hT
            unfold Rng at hx hy hz
            omega
          unfold Rng at hz
          clear hT hx hy
          rcases hcases with ⟨rfl, rfl, rfl | rfl | rfl⟩ | ⟨rfl, rfl, rfl | rfl⟩ | ⟨rfl, rfl, rfl⟩ | ⟨rfl, rfl, rfl⟩ | ⟨rfl, rfl⟩ | ⟨rfl, rfl⟩
          all_goals try (rcases hz with rfl | rfl | rfl)
          all_goals
            try clear hz
            go_wp2_with fail
            refine HK.out.mono ?_
            rintro e Wk ⟨rfl, hbk⟩
            have hB := Lib.hid (HB9.out.next hbk).below
            clear hbk HB9 HK
            go_wp2_with fail
            go_ret
            exact ⟨rfl, hB.out⟩
end Go.Proofs.Ytpiflkgjmncijaa
