/-
  The statement SubstApplies, walked: for any row of binds and any term that lie in memory the call returns true, and nothing that was there has turned.
-/
import Derived.Test.YtpiflkgjmncijaaKnows3
import Derived.Test.YtpiflkgjmncijaaRRight
import Derived.Test.YtpiflkgjmncijaaRefB
import Derived.Test.YtpiflkgjmncijaaRefE
namespace Go.Proofs.Ytpiflkgjmncijaa
open Go.RowKit Go.Shelf Go.Maps

/-- What stays between the calls: what lay ahead, the term's box, the binds. -/
structure ASt (w : World) (l : List Bd) (svl : Value) (t : Tm) (svt : Value) (W : World) : Prop where
  hb : Below w.heap.size w W
  bt : TmBox W w.heap.size t svt
  bl : bdsIn W W.heap.size l svl
theorem ASt.next {w : World} {l : List Bd} {svl : Value} {t : Tm} {svt : Value} {W W' : World} (h : ASt w l svl t svt W) (hb : Below W.heap.size W W') : ASt w l svl t svt W' :=
  ⟨h.hb.trans (hb.mono h.hb.size), h.bt.next hb, bdsIn_held h.bl hb⟩
theorem ASt.alloc {w : World} {l : List Bd} {svl : Value} {t : Tm} {svt : Value} {W : World} (h : ASt w l svl t svt W) (o : Obj) : ASt w l svl t svt (W.alloc o) := h.next ((Below.refl _ _).alloc (Nat.le_refl _) _)
theorem ASt.start {w : World} {l : List Bd} {svl : Value} {t : Tm} {svt : Value} (hl : bdsIn w w.heap.size l svl) (ht : Tm.inn w w.heap.size t svt) : ASt w l svl t svt (w.alloc (.cells #[.int .i64 t.kind, .string t.name, .int .i64 t.n, svt] 24)) :=
  ⟨(Below.refl _ _).alloc (Nat.le_refl _) _, TmBox.new ht, bdsIn_held hl ((Below.refl _ _).alloc (Nat.le_refl _) _)⟩
theorem sol_any (l : List Bd) : ∃ σ, RightL l → Sol l σ := by
  by_cases h : RightL l
  · obtain ⟨σ, h2⟩ := sol_of h
    exact ⟨σ, fun _ => h2⟩
  · exact ⟨vTm, fun h' => absurd h' h⟩
theorem same_self (a : Tm) : a.same a = true := (Tm.same_iff a a).2 rfl

set_option maxRecDepth 100000 in
set_option maxHeartbeats 8000000 in
theorem sapp_any (l : List Bd) (t : Tm) (w : World) (svl svt : Value) (hsl : bdsIn w w.heap.size l svl) (hin : Tm.inn w w.heap.size t svt) :
    Calls Try.prog 8 #[svl, .agg #[.int .i64 t.kind, .string t.name, .int .i64 t.n, svt]] w fun e w' => e = .returned (.bool true) ∧ Below w.heap.size w w' := by
  obtain ⟨gl, cl, rfl, _, _, _, _⟩ := id hsl
  obtain ⟨_, g, cap, rfl, hcap, hlen, _⟩ := Tm.inn_iff.1 hin
  obtain ⟨σ, hσ⟩ := sol_any l
  have HS := Lib.hid hσ
  have A0 := Lib.hid (ASt.start hsl hin)
  clear hσ hsl hin
  go_enter Try.func8, Try.ntmps8
  go_wp2_with fail
  refine (bsome_any l _ _ A0.out.bl).mono ?_
  rintro e W1 ⟨q, rfl, hq, hb1⟩
  have A1 := Lib.hid (A0.out.next hb1)
  have HQ := Lib.hid hq
  obtain ⟨c0, c1, c2, c3⟩ := A1.out.bt.cells
  clear hb1 hq A0
  cases q with
  | false =>
    go_wp2_with fail
    refine (knows3_any W1).mono ?_
    rintro e W2 ⟨rfl, hb2⟩
    have HB := Lib.hid (A1.out.next hb2).hb
    clear hb2
    go_wp2_with fail
    go_ret
    exact ⟨rfl, HB.out⟩
  | true =>
    obtain ⟨hl60, hl4⟩ := HQ.out rfl
    go_wp2_with fail
    have hone := one_slice (newBlk W1 _ _ rfl) ((A1.out.alloc (.cells #[.int .i64 t.kind, .string t.name, .int .i64 t.n, .slice g t.args.length cap] 24)).bt.2)
    refine (some_any [t] _ _ _ (Nat.le_refl _) hone).mono ?_
    rintro e W2 ⟨rfl, hb2⟩
    have A2 := Lib.hid ((A1.out.alloc _).next hb2)
    obtain ⟨d0, d1, d2, d3⟩ := A2.out.bt.cells
    clear hb2 hone c0 c1 c2 c3 A1
    cases hs : Tm.someB [t] with
    | false =>
      clear hs
      go_wp2_with fail
      refine (knows3_any W2).mono ?_
      rintro e W3 ⟨rfl, hb3⟩
      have HB := Lib.hid (A2.out.next hb3).hb
      clear hb3
      go_wp2_with fail
      go_ret
      exact ⟨rfl, HB.out⟩
    | true =>
      have hsz := Tm.some_size hs (t := t) (by simp)
      clear hs
      go_wp2_with fail
      refine (apply_any l σ HS.out t W2 _ _ A2.out.bl A2.out.bt.2 (by omega) (by omega) (by omega)).mono ?_
      rintro e W3 ⟨X, E, gx, cx, rfl, hinx, hb3, hspec⟩
      have A3 := Lib.hid ((A2.out.next hb3).alloc (.cells #[.int .i64 X.kind, .string X.name, .int .i64 X.n, .slice gx X.args.length cx] 24))
      have B3 := Lib.hid (TmBox.new hinx)
      have HSP := Lib.hid hspec
      clear hinx hb3 hspec d0 d1 d2 d3 A2
      go_wp2_with fail
      refine (bright_any l _ _ A3.out.bl (by omega) (by omega)).mono ?_
      rintro e W4 ⟨q4, rfl, hq4, hb4⟩
      have A4 := Lib.hid (A3.out.next hb4)
      have B4 := Lib.hid (B3.out.next hb4)
      have HQ4 := Lib.hid hq4
      obtain ⟨c0, c1, c2, c3⟩ := A4.out.bt.cells
      obtain ⟨x0, x1, x2, x3⟩ := B4.out.cells
      clear hb4 hq4 A3 B3
      cases q4 with
      | false =>
        have hno : ¬ RightL l := fun h => by have := HQ4.out.2 h; cases this
        have hXE : X = kZ ∧ E = 1 := by
          rcases HSP.out with ⟨_, h1, h2⟩ | ⟨h, _⟩
          · exact ⟨h1, h2⟩
          · exact absurd h.1 hno
        obtain ⟨rfl, rfl⟩ := hXE
        have hss := Lib.hid (same_self kZ)
        clear hno
        go_wp2_with fail
        refine (rsame_any kZ kZ W4 _ _ _ (Nat.le_refl _) B4.out.2 (inn_kZ _ _)).mono ?_
        rintro e W5 ⟨rfl, hb5⟩
        rw [hss.out]
        have A5 := Lib.hid (A4.out.next hb5)
        clear hb5
        go_wp2_with fail
        refine (knows3_any W5).mono ?_
        rintro e W6 ⟨rfl, hb6⟩
        have HB := Lib.hid (A5.out.next hb6).hb
        clear hb6
        go_wp2_with fail
        go_ret
        exact ⟨rfl, HB.out⟩
      | true =>
        have hr : RightL l := HQ4.out.1 rfl
        have HR := Lib.hid hr
        clear hr
        go_wp2_with fail
        refine (rright_any t W4 _ _ (Nat.le_refl _) A4.out.bt.2 (by omega)).mono ?_
        rintro e W5 ⟨rfl, hb5⟩
        have A5 := Lib.hid (A4.out.next hb5)
        have B5 := Lib.hid (B4.out.next hb5)
        obtain ⟨d0, d1, d2, d3⟩ := A5.out.bt.cells
        obtain ⟨y0, y1, y2, y3⟩ := B5.out.cells
        clear hb5 c0 c1 c2 c3 x0 x1 x2 x3 A4 B4
        cases hq : t.right with
        | false =>
          have hXE : X = kZ ∧ E = 1 := by
            rcases HSP.out with ⟨_, h1, h2⟩ | ⟨h, _⟩
            · exact ⟨h1, h2⟩
            · rw [hq] at h; cases h.2
          obtain ⟨rfl, rfl⟩ := hXE
          have hss := Lib.hid (same_self kZ)
          clear hq
          go_wp2_with fail
          refine (rsame_any kZ kZ W5 _ _ _ (Nat.le_refl _) B5.out.2 (inn_kZ _ _)).mono ?_
          rintro e W6 ⟨rfl, hb6⟩
          rw [hss.out]
          have A6 := Lib.hid (A5.out.next hb6)
          clear hb6
          go_wp2_with fail
          refine (knows3_any W6).mono ?_
          rintro e W7 ⟨rfl, hb7⟩
          have HB := Lib.hid (A6.out.next hb7).hb
          clear hb7
          go_wp2_with fail
          go_ret
          exact ⟨rfl, HB.out⟩
        | true =>
          have HT := Lib.hid hq
          clear hq
          go_wp2_with fail
          refine (rapply_any l σ HR.out (HS.out HR.out) t (right_fair HT.out) W5 _ _ A5.out.bl A5.out.bt.2 (by omega)).mono ?_
          rintro e W6 ⟨Y, E2, gy, cy, rfl, hiny, hb6, hspec2⟩
          have hXY : X = Y ∧ E = E2 := by
            rcases HSP.out with ⟨h, _⟩ | ⟨_, ⟨h, h1, h2⟩ | ⟨h, h1, h2⟩⟩
            · exact absurd ⟨HR.out, HT.out⟩ h
            · rcases hspec2 with ⟨_, k1, k2⟩ | ⟨k, _⟩
              · exact ⟨by rw [h1, k1], by rw [h2, k2]⟩
              · rw [h] at k; cases k
            · rcases hspec2 with ⟨k, _⟩ | ⟨_, k1, k2⟩
              · rw [h] at k; cases k
              · exact ⟨by rw [h1, k1], by rw [h2, k2]⟩
          obtain ⟨rfl, rfl⟩ := hXY
          have A6 := Lib.hid ((A5.out.next hb6).alloc (.cells #[.int .i64 X.kind, .string X.name, .int .i64 X.n, .slice gy X.args.length cy] 24))
          have B6 := Lib.hid ((B5.out.next hb6).alloc (.cells #[.int .i64 X.kind, .string X.name, .int .i64 X.n, .slice gy X.args.length cy] 24))
          have C6 := Lib.hid (TmBox.new hiny)
          obtain ⟨z0, z1, z2, z3⟩ := (B5.out.next hb6).cells
          have hl6 := (B5.out.next hb6).lt
          have hss := Lib.hid (same_self X)
          clear hb6 hiny hspec2 d0 d1 d2 d3 y0 y1 y2 y3 A5 B5
          go_wp2_with fail
          refine (rsame_any X X _ _ _ _ (Nat.le_refl _) B6.out.2 C6.out.2).mono ?_
          rintro e W7 ⟨rfl, hb7⟩
          rw [hss.out]
          have A7 := Lib.hid (A6.out.next hb7)
          clear hb7
          go_wp2_with fail
          refine (knows3_any W7).mono ?_
          rintro e W8 ⟨rfl, hb8⟩
          have HB := Lib.hid (A7.out.next hb8).hb
          clear hb8
          go_wp2_with fail
          go_ret
          exact ⟨rfl, HB.out⟩
end Go.Proofs.Ytpiflkgjmncijaa
