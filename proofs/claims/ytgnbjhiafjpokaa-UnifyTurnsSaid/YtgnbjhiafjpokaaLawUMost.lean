/-
  The statement UnifyMost, walked: for any two terms and any row of binds that lie in memory the call returns true, and nothing that was there has turned.
-/
import Derived.Test.YtgnbjhiafjpokaaUKnows
import Derived.Test.YtgnbjhiafjpokaaRRight
import Derived.Test.YtgnbjhiafjpokaaRef
import Derived.Test.YtgnbjhiafjpokaaBox
namespace Go.Proofs.Ytgnbjhiafjpokaa
open Go.RowKit Go.Shelf Go.Maps

/-- What stays between the calls: the two terms' boxes, the binds. -/
structure MSt (w : World) (a b : Tm) (l : List Bd) (sva svb svl : Value) (W : World) : Prop where
  hb : Below w.heap.size w W
  ba : TmBox W w.heap.size a sva
  bb : TmBox W (w.heap.size + 1) b svb
  bl : bdsIn W W.heap.size l svl
theorem MSt.next {w : World} {a b : Tm} {l : List Bd} {sva svb svl : Value} {W W' : World} (h : MSt w a b l sva svb svl W) (hb : Below W.heap.size W W') : MSt w a b l sva svb svl W' :=
  ⟨h.hb.trans (hb.mono h.hb.size), h.ba.next hb, h.bb.next hb, bdsIn_held h.bl hb⟩
theorem MSt.alloc {w : World} {a b : Tm} {l : List Bd} {sva svb svl : Value} {W : World} (h : MSt w a b l sva svb svl W) (o : Obj) : MSt w a b l sva svb svl (W.alloc o) := h.next ((Below.refl _ _).alloc (Nat.le_refl _) _)
theorem MSt.start {w : World} {a b : Tm} {l : List Bd} {sva svb svl : Value} (ha : Tm.inn w w.heap.size a sva) (hb : Tm.inn w w.heap.size b svb) (hl : bdsIn w w.heap.size l svl) :
    MSt w a b l sva svb svl ((w.alloc (Obj.cells #[.int .i64 a.kind, .string a.name, .int .i64 a.n, sva] 27 (0, 0))).alloc (Obj.cells #[.int .i64 b.kind, .string b.name, .int .i64 b.n, svb] 27 (0, 0))) :=
  have h := TSt.start ha hb
  ⟨h.below, ⟨h.ka, h.ia⟩, ⟨h.kb, h.ib⟩, bdsIn_held hl h.below⟩
theorem MSt.cells {w : World} {a b : Tm} {l : List Bd} {sva svb svl : Value} {W : World} (h : MSt w a b l sva svb svl W) :
    (W.cell? ⟨w.heap.size, 0, none⟩ = some (.int .i64 a.kind) ∧ W.cell? ⟨w.heap.size, 1, none⟩ = some (.string a.name) ∧ W.cell? ⟨w.heap.size, 2, none⟩ = some (.int .i64 a.n) ∧ W.cell? ⟨w.heap.size, 3, none⟩ = some sva) ∧
    (W.cell? ⟨w.heap.size + 1, 0, none⟩ = some (.int .i64 b.kind) ∧ W.cell? ⟨w.heap.size + 1, 1, none⟩ = some (.string b.name) ∧ W.cell? ⟨w.heap.size + 1, 2, none⟩ = some (.int .i64 b.n) ∧ W.cell? ⟨w.heap.size + 1, 3, none⟩ = some svb) :=
  ⟨h.ba.cells, h.bb.cells⟩
/-- The row of the two terms, newly made. -/
theorem MSt.two {w : World} {a b : Tm} {l : List Bd} {sva svb svl : Value} {W : World} (h : MSt w a b l sva svb svl W) {n : Nat} (hn : n = W.heap.size) :
    Tm.sliceIn (W.alloc (.cells #[.int .i64 a.kind, .string a.name, .int .i64 a.n, sva, .int .i64 b.kind, .string b.name, .int .i64 b.n, svb] 27 (0, 0))) (W.alloc (.cells #[.int .i64 a.kind, .string a.name, .int .i64 a.n, sva, .int .i64 b.kind, .string b.name, .int .i64 b.n, svb] 27 (0, 0))).heap.size [a, b] (.slice (some ⟨n, 0, none⟩) 2 2) :=
  have g := h.alloc (.cells #[.int .i64 a.kind, .string a.name, .int .i64 a.n, sva, .int .i64 b.kind, .string b.name, .int .i64 b.n, svb] 27 (0, 0))
  two_slice (newBlk _ _ _ hn) g.ba.2 g.bb.2
theorem small_two {a b : Tm} (h : Tm.smallB [a, b] = true) : a.size ≤ 60 ∧ b.size ≤ 60 ∧ (varsOf [a, b]).length ≤ 60 := by
  have h1 := Tm.smallB_says h
  have h2 := varsOf_length [a, b]
  simp only [Tm.sizes] at h1 h2
  omega
theorem right_wf {t : Tm} (h : t.right = true) {v : Int} (hv : v ∈ t.vs) : 0 ≤ v ∧ v < 1000000 := Tm.fair_vs t (right_fair h) v hv

/-- What a variable becomes by both, at once. -/
theorem most_pure {m F : List Bd} {τ σ : Int → Tm} {a b : Tm} (hm : MguOf [] a b m) (hτ : Sol m τ) (_hσ : Sol F σ) (he : a.bnd σ = b.bnd σ) (v : Int) : (τ v).bnd σ = σ v := by
  have h := hτ.belowT hm.right ((hm.iff σ).2 ⟨solves_nil σ, he⟩) (vTm v)
  rwa [Tm.bnd_var, Tm.bnd_var] at h
/-- Two calls of Apply whose terms are right and become the same tell the same. -/
theorem AppSpec.same {l : List Bd} {σ : Int → Tm} {t u X Y : Tm} {E E2 : Int} (hl : RightL l) (ht : t.right = true) (hu : u.right = true) (he : t.bnd σ = u.bnd σ) (h : AppSpec l σ t X E) (g : AppSpec l σ u Y E2) : X = Y ∧ E = E2 := by
  rcases h with ⟨h, _⟩ | ⟨_, ⟨h, h1, h2⟩ | ⟨h, h1, h2⟩⟩
  · exact absurd ⟨hl, ht⟩ h
  · rcases g with ⟨g, _⟩ | ⟨_, ⟨g, g1, g2⟩ | ⟨g, g1, g2⟩⟩
    · exact absurd ⟨hl, hu⟩ g
    · exact ⟨by rw [h1, g1], by rw [h2, g2]⟩
    · rw [he, g] at h; cases h
  · rcases g with ⟨g, _⟩ | ⟨_, ⟨g, g1, g2⟩ | ⟨g, g1, g2⟩⟩
    · exact absurd ⟨hl, hu⟩ g
    · rw [he, g] at h; cases h
    · exact ⟨by rw [h1, g1, he], by rw [h2, g2]⟩
theorem AppSpec.good {l : List Bd} {σ : Int → Tm} {t X : Tm} (h : AppSpec l σ t X 0) : RightL l ∧ t.right = true ∧ X = t.bnd σ ∧ X.right = true := by
  rcases h with ⟨_, _, h⟩ | ⟨h0, ⟨_, _, h⟩ | ⟨h, h1, _⟩⟩
  · cases h
  · cases h
  · exact ⟨h0.1, h0.2, h1, by rw [h1]; exact h⟩
theorem FlatSpec.good {l : List Bd} {σ : Int → Tm} {F : List Bd} (hσ : RightL l → Sol l σ) (h : FlatSpec l σ F 0) : RightL F ∧ Sol F σ ∧ F.length ≤ l.length ∧ szB F ≤ 3000 * F.length := by
  rcases h with ⟨_, _, h⟩ | ⟨_, _, _, h⟩ | ⟨h0, h1, rfl, _⟩
  · cases h
  · cases h
  · refine ⟨flat_right (hσ h0) h0 fun b hb => ?_, flat_sol (hσ h0) h0.1, by rw [flat_length]; exact Nat.le_refl _, ?_⟩
    · obtain ⟨i, hi, rfl⟩ := List.getElem_of_mem hb
      exact h1 i hi
    · exact szB_right (flat_right (hσ h0) h0 fun b hb => by obtain ⟨i, hi, rfl⟩ := List.getElem_of_mem hb; exact h1 i hi).1
theorem FlatSpec.bad {l : List Bd} {σ : Int → Tm} {F : List Bd} {E : Int} (h : FlatSpec l σ F E) (hE : E ≠ 0) : F = [] := by
  rcases h with ⟨_, h, _⟩ | ⟨_, _, h, _⟩ | ⟨_, _, _, h⟩
  · exact h
  · exact h
  · exact absurd h hE
theorem right_size {t : Tm} (h : t.right = true) : t.size ≤ 3000 := by
  simp only [Tm.right, Bool.and_eq_true, decide_eq_true_eq] at h
  exact h.1.2
theorem vTm_right {v : Int} (h0 : 0 ≤ v) (h1 : v < 1000000) : (vTm v).right = true := by
  simp only [Tm.right, Bool.and_eq_true, decide_eq_true_eq]
  exact ⟨⟨Tm.fair_vTm h0 h1, by simp [vTm, Tm.size, Tm.sizes]⟩, by simp [vTm, Tm.deep, Tm.deeps]⟩

set_option maxRecDepth 100000 in
set_option maxHeartbeats 8000000 in
theorem umost_any (a b : Tm) (l : List Bd) (w : World) (sva svb svl : Value) (hia : Tm.inn w w.heap.size a sva) (hib : Tm.inn w w.heap.size b svb) (hsl : bdsIn w w.heap.size l svl) :
    Calls Try.prog 8 #[.agg #[.int .i64 a.kind, .string a.name, .int .i64 a.n, sva], .agg #[.int .i64 b.kind, .string b.name, .int .i64 b.n, svb], svl] w fun e w' => e = .returned (.bool true) ∧ Below w.heap.size w w' := by
  obtain ⟨gl, cl, rfl, _, _, _, _⟩ := id hsl
  obtain ⟨_, ga, ca, rfl, _, _, _⟩ := Tm.inn_iff.1 hia
  obtain ⟨_, gb, cb, rfl, _, _, _⟩ := Tm.inn_iff.1 hib
  obtain ⟨σ, hσ⟩ := sol_any l
  have HS := Lib.hid hσ
  have A0 := Lib.hid (MSt.start hia hib hsl)
  clear hσ hsl hia hib
  go_enter Try.func8, Try.ntmps8
  go_wp2_with fail
  have htw := A0.out.two (n := w.heap.size + 1 + 1) (by simp)
  have A0' := Lib.hid (A0.out.alloc (.cells #[.int .i64 a.kind, .string a.name, .int .i64 a.n, .slice ga a.args.length ca, .int .i64 b.kind, .string b.name, .int .i64 b.n, .slice gb b.args.length cb] 27 (0, 0)))
  clear A0
  refine (usmall_any [a, b] _ _ _ (Nat.le_refl _) htw).mono ?_
  rintro e W1 ⟨rfl, hb1⟩
  have A1 := Lib.hid (A0'.out.next hb1)
  clear hb1 htw A0'
  cases hs : Tm.smallB [a, b] with
  | false =>
    clear hs
    go_wp2_with fail
    refine (uknows_any W1).mono ?_
    rintro e W2 ⟨rfl, hb2⟩
    have HB := Lib.hid (A1.out.next hb2).hb
    clear hb2
    go_wp2_with fail
    go_ret
    exact ⟨rfl, HB.out⟩
  | true =>
    obtain ⟨hsa, hsb, hvl⟩ := small_two hs
    clear hs
    go_wp2_with fail
    refine (bsome_any l _ _ A1.out.bl).mono ?_
    rintro e W2 ⟨q, rfl, hq, hb2⟩
    have A2 := Lib.hid (A1.out.next hb2)
    have HQ := Lib.hid hq
    clear hb2 hq A1
    cases q with
    | false =>
      go_wp2_with fail
      refine (uknows_any W2).mono ?_
      rintro e W3 ⟨rfl, hb3⟩
      have HB := Lib.hid (A2.out.next hb3).hb
      clear hb3
      go_wp2_with fail
      go_ret
      exact ⟨rfl, HB.out⟩
    | true =>
      obtain ⟨hl60, hl4⟩ := HQ.out rfl
      obtain ⟨⟨a0, a1, a2, a3⟩, _⟩ := A2.out.cells
      go_wp2_with fail
      refine (rright_any a W2 _ _ (Nat.le_refl _) A2.out.ba.2 (by omega)).mono ?_
      rintro e W3 ⟨rfl, hb3⟩
      have A3 := Lib.hid (A2.out.next hb3)
      clear hb3 a0 a1 a2 a3 A2
      cases hra : a.right with
      | false =>
        clear hra
        go_wp2_with fail
        refine (uknows_any W3).mono ?_
        rintro e W4 ⟨rfl, hb4⟩
        have HB := Lib.hid (A3.out.next hb4).hb
        clear hb4
        go_wp2_with fail
        go_ret
        exact ⟨rfl, HB.out⟩
      | true =>
        have HRA := Lib.hid hra
        obtain ⟨_, b0, b1, b2, b3⟩ := A3.out.cells
        clear hra
        go_wp2_with fail
        refine (rright_any b W3 _ _ (Nat.le_refl _) A3.out.bb.2 (by omega)).mono ?_
        rintro e W4 ⟨rfl, hb4⟩
        have A4 := Lib.hid (A3.out.next hb4)
        clear hb4 b0 b1 b2 b3 A3
        cases hrb : b.right with
        | false =>
          clear hrb
          go_wp2_with fail
          refine (uknows_any W4).mono ?_
          rintro e W5 ⟨rfl, hb5⟩
          have HB := Lib.hid (A4.out.next hb5).hb
          clear hb5
          go_wp2_with fail
          go_ret
          exact ⟨rfl, HB.out⟩
        | true =>
          have HRB := Lib.hid hrb
          clear hrb
          go_wp2_with fail
          refine (flat_any l σ HS.out W4 _ A4.out.bl (by omega) (by omega)).mono ?_
          rintro e W5 ⟨F, E, gf, cf, rfl, hinf, hb5, hspec⟩
          have A5 := Lib.hid (A4.out.next hb5)
          have F5 := Lib.hid hinf
          clear hinf hb5 A4
          by_cases hE : E = 0
          · subst hE
            obtain ⟨hfr, hfs, hfl, hfz⟩ := hspec.good HS.out
            have HFR := Lib.hid hfr
            have HFS := Lib.hid hfs
            obtain ⟨⟨a0, a1, a2, a3⟩, _⟩ := A5.out.cells
            clear hspec hfr hfs
            go_wp2_with fail
            refine (apply_any F σ (fun _ => HFS.out) a W5 _ _ F5.out A5.out.ba.2 (by omega) (by omega) (by omega)).mono ?_
            rintro e W6 ⟨X, E1, gx, cx, rfl, hinx, hb6, hspec6⟩
            have A6 := Lib.hid ((A5.out.next hb6).alloc (.cells #[.int .i64 X.kind, .string X.name, .int .i64 X.n, .slice gx X.args.length cx] 27))
            have F6 := Lib.hid (bdsIn_held (bdsIn_held F5.out hb6) ((Below.refl W6.heap.size W6).alloc (Nat.le_refl _) (.cells #[.int .i64 X.kind, .string X.name, .int .i64 X.n, .slice gx X.args.length cx] 27)))
            have B6 := Lib.hid (TmBox.new hinx)
            have HSP6 := Lib.hid hspec6
            obtain ⟨_, b0, b1, b2, b3⟩ := (A5.out.next hb6).cells
            have hlw := (A5.out.next hb6).bb.lt
            clear hinx hb6 hspec6 a0 a1 a2 a3 A5 F5
            go_wp2_with fail
            refine (apply_any F σ (fun _ => HFS.out) b _ _ _ F6.out A6.out.bb.2 (by omega) (by omega) (by omega)).mono ?_
            rintro e W7 ⟨Y, E2, gy, cy, rfl, hiny, hb7, hspec7⟩
            have A7 := Lib.hid ((A6.out.next hb7).alloc (.cells #[.int .i64 Y.kind, .string Y.name, .int .i64 Y.n, .slice gy Y.args.length cy] 27))
            have F7 := Lib.hid (bdsIn_held (bdsIn_held F6.out hb7) ((Below.refl W7.heap.size W7).alloc (Nat.le_refl _) (.cells #[.int .i64 Y.kind, .string Y.name, .int .i64 Y.n, .slice gy Y.args.length cy] 27)))
            have B7 := Lib.hid ((B6.out.next hb7).alloc (.cells #[.int .i64 Y.kind, .string Y.name, .int .i64 Y.n, .slice gy Y.args.length cy] 27))
            have C7 := Lib.hid (TmBox.new hiny)
            have HSP7 := Lib.hid hspec7
            obtain ⟨x0, x1, x2, x3⟩ := (B6.out.next hb7).cells
            have hlx := (B6.out.next hb7).lt
            clear hiny hb7 hspec7 b0 b1 b2 b3 A6 F6 B6 hlw
            by_cases hE1 : E1 = 0
            · subst hE1
              by_cases hE2 : E2 = 0
              · subst hE2
                go_wp2_with fail
                refine (rsame_any X Y _ _ _ _ (Nat.le_refl _) B7.out.2 C7.out.2).mono ?_
                rintro e W8 ⟨rfl, hb8⟩
                have A8 := Lib.hid (A7.out.next hb8)
                have F8 := Lib.hid (bdsIn_held F7.out hb8)
                clear hb8 A7 F7 B7 C7 x0 x1 x2 x3
                cases hq : X.same Y with
                | false =>
                  clear hq
                  go_wp2_with fail
                  refine (uknows_any W8).mono ?_
                  rintro e W9 ⟨rfl, hb9⟩
                  have HB := Lib.hid (A8.out.next hb9).hb
                  clear hb9
                  go_wp2_with fail
                  go_ret
                  exact ⟨rfl, HB.out⟩
                | true =>
                  have hab : a.bnd σ = b.bnd σ := by
                    have e1 := HSP6.out.good.2.2.1
                    have e2 := HSP7.out.good.2.2.1
                    rw [← e1, ← e2]
                    exact (Tm.same_iff X Y).1 hq
                  have HAB := Lib.hid hab
                  obtain ⟨⟨a0, a1, a2, a3⟩, b0, b1, b2, b3⟩ := A8.out.cells
                  clear hq hab
                  go_wp2_with fail
                  refine (mgu_any (V := varsOf [a, b]) (by omega) HRA.out HRB.out (fun v hv => (vars_vs _ v).2 ⟨a, by simp, hv⟩) (fun v hv => (vars_vs _ v).2 ⟨b, by simp, hv⟩) A8.out.ba.2 A8.out.bb.2).mono ?_
                  rintro e W9 ⟨hb9, hcase⟩
                  have A9 := Lib.hid (A8.out.next hb9)
                  have F9 := Lib.hid (bdsIn_held F8.out hb9)
                  clear hb9 A8 F8 a0 a1 a2 a3 b0 b1 b2 b3
                  rcases hcase with ⟨m, svm, rfl, hinm, hmg, hmV⟩ | ⟨_, hno⟩
                  · obtain ⟨τ, hτ⟩ := sol_of hmg.right
                    have hml := okL_inV hmg.right.1 hmV
                    have hmz := szB_right hmg.right.1
                    have hpure := most_pure hmg hτ HFS.out HAB.out
                    obtain ⟨gm, cm, rfl, _, _, _, _⟩ := id hinm
                    have M9 := Lib.hid hinm
                    have HMR := Lib.hid hmg.right
                    have HT := Lib.hid hτ
                    have HPU := Lib.hid hpure
                    obtain ⟨⟨a0, a1, a2, a3⟩, b0, b1, b2, b3⟩ := A9.out.cells
                    have hlb := A9.out.bb.lt
                    clear hinm hmg hmV hτ hpure
                    go_wp2_with fail
                    have htw9 := A9.out.two (n := W9.heap.size) rfl
                    have A9' := Lib.hid (A9.out.alloc (.cells #[.int .i64 a.kind, .string a.name, .int .i64 a.n, .slice ga a.args.length ca, .int .i64 b.kind, .string b.name, .int .i64 b.n, .slice gb b.args.length cb] 27 (0, 0)))
                    have F9' := Lib.hid (bdsIn_held F9.out ((Below.refl W9.heap.size W9).alloc (Nat.le_refl _) (.cells #[.int .i64 a.kind, .string a.name, .int .i64 a.n, .slice ga a.args.length ca, .int .i64 b.kind, .string b.name, .int .i64 b.n, .slice gb b.args.length cb] 27 (0, 0))))
                    have M9' := Lib.hid (bdsIn_held M9.out ((Below.refl W9.heap.size W9).alloc (Nat.le_refl _) (.cells #[.int .i64 a.kind, .string a.name, .int .i64 a.n, .slice ga a.args.length ca, .int .i64 b.kind, .string b.name, .int .i64 b.n, .slice gb b.args.length cb] 27 (0, 0))))
                    have hwv := withs_vars [a, b] (by rw [Tm.plain_all]; simp [right_noArgs HRA.out, right_noArgs HRB.out])
                    have hrv := rvars_any [a, b] _ _ _ (Nat.le_refl _) htw9 (by simp [Tm.sizes]; omega)
                    rw [hwv] at hrv
                    have HRV := Lib.hid hrv
                    clear hwv hrv htw9 A9 F9 M9
                    refine HRV.out.mono ?_
                    rintro e W10 ⟨vv, rfl, hints, hb10⟩
                    obtain ⟨gw, cw, rfl, hcw, hlw2, _⟩ := id hints
                    have A10 := Lib.hid (A9'.out.next hb10)
                    have F10 := Lib.hid (bdsIn_held F9'.out hb10)
                    have M10 := Lib.hid (bdsIn_held M9'.out hb10)
                    have hvr : ∀ v ∈ varsOf [a, b], 0 ≤ v ∧ v < 1000000 := fun v hv => by
                      obtain ⟨t, ht, hvt⟩ := (vars_vs _ v).1 hv
                      simp only [List.mem_cons, List.not_mem_nil, or_false] at ht
                      rcases ht with ht | ht
                      · exact right_wf HRA.out (ht ▸ hvt)
                      · exact right_wf HRB.out (ht ▸ hvt)
                    obtain ⟨vs, hvs⟩ : ∃ vs, varsOf [a, b] = vs := ⟨_, rfl⟩
                    rw [hvs] at hints hcw hvl hml hvr ⊢
                    have HI := Lib.hid hints
                    have HVR := Lib.hid hvr
                    clear hb10 hints hvs hvr hlw2 HRV A9' F9' M9' a0 a1 a2 a3 b0 b1 b2 b3
                    go_wp2_with fail
                    go_loopw [17] (fun ii wr => ∃ k : Nat, k ≤ vs.length ∧ ii = .int .i64 (k : Nat) ∧ Hid (Below W10.heap.size W10 wr)) (fun ii _ => vs.length - (intOf ii).toNat)
                    case atStart => exact ⟨0, Nat.zero_le _, rfl, Below.refl _ _⟩
                    case round =>
                      obtain ⟨k, hk, rfl, hb⟩ := hrel
                      have HB := Lib.hid hb.out
                      clear hb
                      have hbs := HB.out.size
                      by_cases hlt : k < vs.length
                      · obtain ⟨bv, ov, hgv, hbv, gc⟩ := intsIn_get (intsIn_below HI.out HB.out (Nat.le_refl _)) k hlt
                        subst hgv
                        have hvk := HVR.out _ (List.getElem_mem hlt)
                        obtain ⟨v, hv⟩ : ∃ v, vs[k] = v := ⟨_, rfl⟩
                        rw [hv] at gc hvk
                        have hwfv : (Lit.int .i64 v).wf = true := WalkArith.wf_i64 (by omega)
                        have hvr := vTm_right hvk.1 hvk.2
                        have hal : Below wr.heap.size wr (wr.alloc (.cells #[.int .i64 1, .string ⟨#[]⟩, .int .i64 v, .slice none 0 0] 27)) := (Below.refl _ _).alloc (Nat.le_refl _) _
                        have AR := Lib.hid ((A10.out.next HB.out).next hal)
                        have FR := Lib.hid (bdsIn_held (bdsIn_held F10.out HB.out) hal)
                        have MR := Lib.hid (bdsIn_held (bdsIn_held M10.out HB.out) hal)
                        have BV := Lib.hid (show TmBox (wr.alloc (.cells #[.int .i64 1, .string ⟨#[]⟩, .int .i64 v, .slice none 0 0] 27)) wr.heap.size (.mk 1 ⟨#[]⟩ v []) (.slice none 0 0) from ⟨newBlk _ _ _ rfl, inn_leaf hwfv⟩)
                        have hap := apply_any m τ (fun _ => HT.out) (.mk 1 ⟨#[]⟩ v []) _ _ _ MR.out (inn_leaf hwfv) (by omega) (by omega) (by simp [Tm.size, Tm.sizes])
                        have HAP := Lib.hid hap
                        have HVR1 := Lib.hid hvr
                        have HWV := Lib.hid hwfv
                        clear hal hap hvr hv hwfv
                        go_wp2_with fail
                        refine HAP.out.mono ?_
                        rintro e W11 ⟨X1, E3, g1, c1, rfl, hin1, hb11, hspec11⟩
                        have A11 := Lib.hid ((AR.out.next hb11).alloc (.cells #[.int .i64 X1.kind, .string X1.name, .int .i64 X1.n, .slice g1 X1.args.length c1] 27))
                        have F11 := Lib.hid (bdsIn_held (bdsIn_held FR.out hb11) ((Below.refl W11.heap.size W11).alloc (Nat.le_refl _) (.cells #[.int .i64 X1.kind, .string X1.name, .int .i64 X1.n, .slice g1 X1.args.length c1] 27)))
                        have BV11 := Lib.hid ((BV.out.next hb11).alloc (.cells #[.int .i64 X1.kind, .string X1.name, .int .i64 X1.n, .slice g1 X1.args.length c1] 27))
                        have B11 := Lib.hid (TmBox.new hin1)
                        have hs11 : wr.heap.size + 1 ≤ W11.heap.size := by have := hb11.size; simpa using this
                        have HBB := Lib.hid (HB.out.trans ((((Below.refl wr.heap.size wr).alloc (Nat.le_refl _) (.cells #[.int .i64 1, .string ⟨#[]⟩, .int .i64 v, .slice none 0 0] 27)).trans (hb11.mono (by simp))).mono hbs))
                        by_cases hE3 : E3 = 0
                        · subst hE3
                          obtain ⟨_, _, hX1, hX1r⟩ := hspec11.good
                          have hX1σ : X1.bnd σ = (Tm.mk 1 ⟨#[]⟩ v []).bnd σ := by
                            have e1 : (Tm.mk 1 ⟨#[]⟩ v []).bnd τ = τ v := Tm.bnd_var τ v
                            have e2 : (Tm.mk 1 ⟨#[]⟩ v []).bnd σ = σ v := Tm.bnd_var σ v
                            rw [hX1, e1, e2]
                            exact HPU.out v
                          have hX1s := right_size hX1r
                          have HX1 := Lib.hid hX1σ
                          have HX1R := Lib.hid hX1r
                          clear hX1 hX1σ hX1r hspec11 hin1 hb11 HAP
                          go_wp2_with fail
                          refine (apply_any F σ (fun _ => HFS.out) X1 _ _ _ F11.out B11.out.2 (by omega) (by omega) (by omega)).mono ?_
                          rintro e W12 ⟨Y2, E4, g2, c2, rfl, hin2, hb12, hspec12⟩
                          have A12 := Lib.hid ((A11.out.next hb12).alloc (.cells #[.int .i64 Y2.kind, .string Y2.name, .int .i64 Y2.n, .slice g2 Y2.args.length c2] 27))
                          have F12 := Lib.hid (bdsIn_held (bdsIn_held F11.out hb12) ((Below.refl W12.heap.size W12).alloc (Nat.le_refl _) (.cells #[.int .i64 Y2.kind, .string Y2.name, .int .i64 Y2.n, .slice g2 Y2.args.length c2] 27)))
                          have B12 := Lib.hid (TmBox.new hin2)
                          have hs12 : W11.heap.size + 1 ≤ W12.heap.size := by have := hb12.size; simpa using this
                          have HBB12 := Lib.hid (HBB.out.trans (((Below.refl W11.heap.size W11).alloc (Nat.le_refl _) (.cells #[.int .i64 X1.kind, .string X1.name, .int .i64 X1.n, .slice g1 X1.args.length c1] 27)).trans (hb12.mono (by simp)) |>.mono (by omega)))
                          obtain ⟨v0, v1, v2, v3⟩ := (BV11.out.next hb12).cells
                          have hlv := (BV11.out.next hb12).lt
                          have HSP12 := Lib.hid hspec12
                          clear hin2 hb12 hspec12 A11 F11 BV11 B11 HBB
                          go_wp2_with fail
                          refine (apply_any F σ (fun _ => HFS.out) (.mk 1 ⟨#[]⟩ v []) _ _ _ F12.out (inn_leaf HWV.out) (by omega) (by omega) (by simp [Tm.size, Tm.sizes])).mono ?_
                          rintro e W13 ⟨Y3, E5, g3, c3, rfl, hin3, hb13, hspec13⟩
                          obtain ⟨rfl, rfl⟩ := AppSpec.same HFR.out HX1R.out HVR1.out HX1.out HSP12.out hspec13
                          have A13 := Lib.hid ((A12.out.next hb13).alloc (.cells #[.int .i64 Y2.kind, .string Y2.name, .int .i64 Y2.n, .slice g3 Y2.args.length c3] 27))
                          have B13 := Lib.hid ((B12.out.next hb13).alloc (.cells #[.int .i64 Y2.kind, .string Y2.name, .int .i64 Y2.n, .slice g3 Y2.args.length c3] 27))
                          have C13 := Lib.hid (TmBox.new hin3)
                          have hs13 : W12.heap.size + 1 ≤ W13.heap.size := by have := hb13.size; simpa using this
                          have HBB13 := Lib.hid (HBB12.out.trans (((Below.refl W12.heap.size W12).alloc (Nat.le_refl _) (.cells #[.int .i64 Y2.kind, .string Y2.name, .int .i64 Y2.n, .slice g2 Y2.args.length c2] 27)).trans (hb13.mono (by simp)) |>.mono (by omega)))
                          obtain ⟨y0, y1, y2, y3⟩ := (B12.out.next hb13).cells
                          have hly := (B12.out.next hb13).lt
                          have hee : (E4 != E4) = false := by simp
                          have hss := Lib.hid (same_self Y2)
                          clear hin3 hb13 hspec13 A12 F12 B12 HBB12 HSP12 v0 v1 v2 v3
                          go_wp2_with fail
                          refine (rsame_any Y2 Y2 _ _ _ _ (Nat.le_refl _) B13.out.2 C13.out.2).mono ?_
                          rintro e W14 ⟨rfl, hb14⟩
                          rw [hss.out]
                          have HBB14 := Lib.hid (HBB13.out.trans (((Below.refl W13.heap.size W13).alloc (Nat.le_refl _) (.cells #[.int .i64 Y2.kind, .string Y2.name, .int .i64 Y2.n, .slice g3 Y2.args.length c3] 27)).trans (hb14.mono (by simp)) |>.mono (by omega)))
                          clear hb14 A13 B13 C13 HBB13 y0 y1 y2 y3
                          go_wp2_with fail
                          go_roundw
                          case rel => exact ⟨k + 1, by omega, by go_num, HBB14.out⟩
                          case measure => simp [intOf]; omega
                        · have hEb : (E3 != 0) = true := by simpa using hE3
                          have HBA := Lib.hid (HBB.out.alloc (by omega) (.cells #[.int .i64 X1.kind, .string X1.name, .int .i64 X1.n, .slice g1 X1.args.length c1] 27))
                          clear hspec11 hin1 hb11 HAP hE3
                          go_wp2_with fail
                          go_roundw
                          case rel => exact ⟨k + 1, by omega, by go_num, HBA.out⟩
                          case measure => simp [intOf]; omega
                      · obtain rfl : k = vs.length := by omega
                        clear HI
                        go_wp2_with fail
                        refine (uknows_any _).mono ?_
                        rintro e W11 ⟨rfl, hb11⟩
                        have HBF := Lib.hid ((A10.out.next HB.out).next hb11).hb
                        clear hb11
                        go_wp2_with fail
                        go_ret
                        exact ⟨rfl, HBF.out⟩
                  · exact absurd HAB.out (hno σ (solves_nil σ))
              · have hEb : (E2 != 0) = true := by simpa using hE2
                go_wp2_with fail
                refine (uknows_any _).mono ?_
                rintro e W8 ⟨rfl, hb8⟩
                have HB := Lib.hid (A7.out.next hb8).hb
                clear hb8
                go_wp2_with fail
                go_ret
                exact ⟨rfl, HB.out⟩
            · have hEb : (E1 != 0) = true := by simpa using hE1
              go_wp2_with fail
              refine (uknows_any _).mono ?_
              rintro e W8 ⟨rfl, hb8⟩
              have HB := Lib.hid (A7.out.next hb8).hb
              clear hb8
              go_wp2_with fail
              go_ret
              exact ⟨rfl, HB.out⟩
          · obtain rfl : F = [] := hspec.bad hE
            have hEb : (E != 0) = true := by simpa using hE
            clear hspec hE
            go_wp2_with fail
            refine (uknows_any _).mono ?_
            rintro e W6 ⟨rfl, hb6⟩
            have HB := Lib.hid (A5.out.next hb6).hb
            clear hb6
            go_wp2_with fail
            go_ret
            exact ⟨rfl, HB.out⟩
end Go.Proofs.Ytgnbjhiafjpokaa
