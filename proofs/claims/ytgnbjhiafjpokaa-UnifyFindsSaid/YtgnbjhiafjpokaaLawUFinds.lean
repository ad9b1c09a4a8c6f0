/-
  The statement UnifyFinds, walked: for any two terms that lie in memory the call returns true, and nothing that was there has turned.
-/
import Derived.Test.YtgnbjhiafjpokaaUKnows
import Derived.Test.YtgnbjhiafjpokaaUDoc
import Derived.Test.YtgnbjhiafjpokaaSeen
namespace Go.Proofs.Ytgnbjhiafjpokaa
open Go.RowKit Go.Shelf Go.Maps

/-- The row of the two terms, newly made. -/
theorem TSt.two {w : World} {a b : Tm} {sva svb : Value} {W : World} (h : TSt w a b sva svb W) {n : Nat} (hn : n = W.heap.size) :
    Tm.sliceIn (W.alloc (.cells #[.int .i64 a.kind, .string a.name, .int .i64 a.n, sva, .int .i64 b.kind, .string b.name, .int .i64 b.n, svb] 27 (0, 0))) (W.alloc (.cells #[.int .i64 a.kind, .string a.name, .int .i64 a.n, sva, .int .i64 b.kind, .string b.name, .int .i64 b.n, svb] 27 (0, 0))).heap.size [a, b] (.slice (some ⟨n, 0, none⟩) 2 2) :=
  have g := h.next ((Below.refl _ _).alloc (Nat.le_refl _) (.cells #[.int .i64 a.kind, .string a.name, .int .i64 a.n, sva, .int .i64 b.kind, .string b.name, .int .i64 b.n, svb] 27 (0, 0)))
  two_slice (newBlk _ _ _ hn) g.ia g.ib
theorem own_two {W : World} {a b : Tm} {sva svb : Value} {n : Nat} (hn : n = W.heap.size) (ha : Tm.inn W W.heap.size a sva) (hb : Tm.inn W W.heap.size b svb) :
    ownTms (W.alloc (.cells #[.int .i64 a.kind, .string a.name, .int .i64 a.n, sva, .int .i64 b.kind, .string b.name, .int .i64 b.n, svb] 27 (0, 0))) W.heap.size W.heap.size (.slice (some ⟨n, 0, none⟩) 2 2) [a, b] := by
  subst hn
  obtain ⟨_, ga, ca, rfl, _⟩ := Tm.inn_iff.1 ha
  obtain ⟨_, gb, cb, rfl, _⟩ := Tm.inn_iff.1 hb
  have hal := (Below.refl W.heap.size W).alloc (Nat.le_refl _) (.cells #[.int .i64 a.kind, .string a.name, .int .i64 a.n, .slice ga a.args.length ca, .int .i64 b.kind, .string b.name, .int .i64 b.n, .slice gb b.args.length cb] 27 (0, 0))
  refine ⟨[.int .i64 a.kind, .string a.name, .int .i64 a.n, .slice ga a.args.length ca, .int .i64 b.kind, .string b.name, .int .i64 b.n, .slice gb b.args.length cb], ⟨rfl, .inr ⟨W.heap.size, 2, _, rfl, Nat.le_refl _, newBlk _ _ _ rfl, Nat.le_refl _, by unfold maxLen; omega, rfl, rfl⟩⟩, ?_⟩
  exact ⟨_, _, rfl, innP_of_inn _ _ (Tm.inn_below ha hal (Nat.le_refl _)), _, [], rfl, innP_of_inn _ _ (Tm.inn_below hb hal (Nat.le_refl _)), by simp [Tm.cellsP]⟩
theorem ownTms_sl {w : World} {n₀ base : Nat} {v : Value} {l : List Tm} (h : ownTms w n₀ base v l) : ∃ g c, v = .slice g l.length c := by
  obtain ⟨xs, h1, _⟩ := h
  exact owns_slice h1
theorem src_var {W : World} {v : Int} (hv : (Lit.int .i64 v).wf = true) (n₀ : Nat) {n : Nat} (hn : W.heap.size = n) : srcTms (W.alloc (.cells #[.int .i64 1, .string ⟨#[]⟩, .int .i64 v, .slice none 0 0] 27)) n₀ [vTm v] (some ⟨n, 0, none⟩) := by
  subst hn
  exact ⟨[.int .i64 1, .string ⟨#[]⟩, .int .i64 v, .slice none 0 0], ⟨_, [], rfl, Tm.innP_mk.2 ⟨⟨by decide, Nat.zero_le _, hv⟩, none, 0, rfl, Nat.le_refl _, Nat.zero_le _, .inl rfl⟩, by simp [Tm.cellsP]⟩, .inr ⟨_, rfl, news4⟩⟩
theorem small_2 {a b : Tm} (h : Tm.smallB [a, b] = true) : a.size ≤ 60 ∧ b.size ≤ 60 ∧ (varsOf [a, b]).length ≤ 60 := by
  have h1 := Tm.smallB_says h
  have h2 := varsOf_length [a, b]
  simp only [Tm.sizes] at h1 h2
  omega
theorem right_v {t : Tm} (h : t.right = true) {v : Int} (hv : v ∈ t.vs) : 0 ≤ v ∧ v < 1000000 := Tm.fair_vs t (right_fair h) v hv
/-- The first two of a row that a call returned, and what lay before. -/
def TS (pb po : Nat) (X0 X1 : Tm) (s0 s1 : Value) (Wn W : World) : Prop := W.cell? ⟨pb, po, none⟩ = some (.int .i64 X0.kind) ∧ W.cell? ⟨pb, po + 1, none⟩ = some (.string X0.name) ∧ W.cell? ⟨pb, po + 2, none⟩ = some (.int .i64 X0.n) ∧ W.cell? ⟨pb, po + 3, none⟩ = some s0 ∧
  W.cell? ⟨pb, po + 4, none⟩ = some (.int .i64 X1.kind) ∧ W.cell? ⟨pb, po + 4 + 1, none⟩ = some (.string X1.name) ∧ W.cell? ⟨pb, po + 4 + 2, none⟩ = some (.int .i64 X1.n) ∧ W.cell? ⟨pb, po + 4 + 3, none⟩ = some s1 ∧ Below Wn.heap.size Wn W
theorem TS.next {pb po : Nat} {X0 X1 : Tm} {s0 s1 : Value} {Wn W W' : World} (h : TS pb po X0 X1 s0 s1 Wn W) (hb : Below W.heap.size W W') : TS pb po X0 X1 s0 s1 Wn W' := by
  have key : ∀ b o v, W.cell? ⟨b, o, none⟩ = some v → W'.cell? ⟨b, o, none⟩ = some v := fun b o v h => (hb.cell (p := ⟨b, o, none⟩) (World.block_lt_of_cell? _ _ h)).trans h
  obtain ⟨h0, h1, h2, h3, h4, h5, h6, h7, h8⟩ := h
  exact ⟨key _ _ _ h0, key _ _ _ h1, key _ _ _ h2, key _ _ _ h3, key _ _ _ h4, key _ _ _ h5, key _ _ _ h6, key _ _ _ h7, h8.trans (hb.mono h8.size)⟩
theorem TS.below {pb po : Nat} {X0 X1 : Tm} {s0 s1 : Value} {Wn W : World} (h : TS pb po X0 X1 s0 s1 Wn W) : Below Wn.heap.size Wn W := h.2.2.2.2.2.2.2.2
theorem TS.mk' {Wn : World} {Xs : List Tm} {pb po : Nat} {len cap : Nat} (h : Tm.sliceIn Wn Wn.heap.size Xs (.slice (some ⟨pb, po, none⟩) len cap)) (hl : 2 ≤ Xs.length) : ∃ X0 X1 s0 s1, Xs[0]? = some X0 ∧ Xs[1]? = some X1 ∧ Tm.inn Wn Wn.heap.size X0 s0 ∧ Tm.inn Wn Wn.heap.size X1 s1 ∧ TS pb po X0 X1 s0 s1 Wn Wn.drew := by
  obtain ⟨b, o, s0, hg, hb, c0, c1, c2, c3, h0⟩ := Tm.sliceIn_get h 0 (by omega)
  obtain ⟨b', o', s1, hg', hb', d0, d1, d2, d3, h1⟩ := Tm.sliceIn_get h 1 (by omega)
  cases hg
  cases hg'
  simp only [Nat.zero_mul, Nat.add_zero, Nat.one_mul] at c0 c1 c2 c3 d0 d1 d2 d3
  exact ⟨Xs[0], Xs[1], s0, s1, by simp, by simp, h0, h1, c0, c1, c2, c3, d0, d1, d2, d3, (Below.refl _ _).drew⟩
/-- Both lists make of terms what is right, or none does; and the same, up to names. -/
theorem finds_pure {l m : List Bd} {σ τ : Int → Tm} (he : Alike l m) (hl : RightL l) (hm : RightL m) (hσ : Sol l σ) (hτ : Sol m τ) {ts : List Tm} (hf : ∀ t ∈ ts, t.fair = true) :
    ((∀ t ∈ ts, (t.bnd σ).right = true) ↔ ∀ t ∈ ts, (t.bnd τ).right = true) ∧ ((∀ t ∈ ts, (t.bnd σ).right = true) → numTms (ts.map (Tm.bnd σ)) = numTms (ts.map (Tm.bnd τ))) := by
  have h1 := he.names hl hm hσ hτ hf
  have h2 := he.symm.names hm hl hτ hσ hf
  refine ⟨⟨fun h t ht => h1.2 t ht (h t ht), fun h t ht => h2.2 t ht (h t ht)⟩, fun h => ?_⟩
  have haX : (ts.map (Tm.bnd σ)).all Tm.right = true := List.all_eq_true.2 fun x hx => by obtain ⟨t, ht, rfl⟩ := List.mem_map.1 hx; exact h t ht
  have haY : (ts.map (Tm.bnd τ)).all Tm.right = true := List.all_eq_true.2 fun x hx => by obtain ⟨t, ht, rfl⟩ := List.mem_map.1 hx; exact h1.2 t ht (h t ht)
  unfold numTms
  rw [if_pos haX, if_pos haY]
  exact h1.1.symm
theorem finds_same {ts : List Tm} {σ : Int → Tm} {a b : Tm} {r : List Tm} (hts : ts = a :: b :: r) (he : a.bnd σ = b.bnd σ) (x y : Tm) (hx : (numTms (ts.map (Tm.bnd σ)))[0]? = some x) (hy : (numTms (ts.map (Tm.bnd σ)))[1]? = some y) : x.same y = true := by
  unfold numTms at hx hy
  by_cases h : (ts.map (Tm.bnd σ)).all Tm.right = true
  · rw [if_pos h] at hx hy
    rw [Tm.rens_map, hts] at hx hy
    simp only [List.map_cons, List.getElem?_cons_zero, List.getElem?_cons_succ, Option.some.injEq] at hx hy
    rw [← hx, ← hy, Tm.same_iff, he]
  · rw [if_neg h] at hx
    simp at hx

set_option maxRecDepth 100000 in
set_option maxHeartbeats 8000000 in
theorem ufinds_any (a b : Tm) (w : World) (sva svb : Value) (hia : Tm.inn w w.heap.size a sva) (hib : Tm.inn w w.heap.size b svb) :
    Calls Try.prog 7 #[.agg #[.int .i64 a.kind, .string a.name, .int .i64 a.n, sva], .agg #[.int .i64 b.kind, .string b.name, .int .i64 b.n, svb]] w fun e w' => e = .returned (.bool true) ∧ Below w.heap.size w w' := by
  obtain ⟨_, ga, ca, rfl, _, _, _⟩ := Tm.inn_iff.1 hia
  obtain ⟨_, gb, cb, rfl, _, _, _⟩ := Tm.inn_iff.1 hib
  have A0 := Lib.hid (TSt.start hia hib)
  clear hia hib
  go_enter Try.func7, Try.ntmps7
  go_wp2_with fail
  have htw := A0.out.two (n := w.heap.size + 1 + 1) (by simp)
  have A0' := Lib.hid (A0.out.next ((Below.refl _ _).alloc (Nat.le_refl _) (.cells #[.int .i64 a.kind, .string a.name, .int .i64 a.n, .slice ga a.args.length ca, .int .i64 b.kind, .string b.name, .int .i64 b.n, .slice gb b.args.length cb] 27 (0, 0))))
  clear A0
  refine (usmall_any [a, b] _ _ _ (Nat.le_refl _) htw).mono ?_
  rintro e W1 ⟨rfl, hb1⟩
  have A1 := Lib.hid (A0'.out.next hb1)
  clear hb1 htw A0'
  cases hs : Tm.smallB [a, b] with
  | false =>
    clear hs
    go_wp2_with fail
    refine (uknows_any _).mono ?_
    rintro e W2 ⟨rfl, hb2⟩
    have HBF := Lib.hid ((A1.out.next hb2).below)
    clear hb2
    go_wp2_with fail
    go_ret
    exact ⟨rfl, HBF.out⟩
  | true =>
    obtain ⟨hsa, hsb, hvl⟩ := small_2 hs
    clear hs
    obtain ⟨x0, x1, x2, x3, y0, y1, y2, y3, _⟩ := A1.out.cells
    by_cases hrr : a.right = true ∧ b.right = true
    rotate_left
    · have HBAD := Lib.hid hrr
      clear hrr
      go_wp2_with fail
      refine (mgu_bad A1.out.ia A1.out.ib (by omega) (by omega) HBAD.out).mono ?_
      rintro e W2 ⟨rfl, hb2⟩
      have A2 := Lib.hid (A1.out.next hb2)
      clear hb2 A1 x0 x1 x2 x3 y0 y1 y2 y3
      obtain ⟨x0, x1, x2, x3, y0, y1, y2, y3, _⟩ := A2.out.cells
      go_wp2_with fail
      refine (rright_any a W2 _ _ (Nat.le_refl _) A2.out.ia (by omega)).mono ?_
      rintro e W3 ⟨rfl, hb3⟩
      have A3 := Lib.hid (A2.out.next hb3)
      clear hb3 A2 x0 x1 x2 x3 y0 y1 y2 y3
      cases hra : a.right with
      | false =>
        clear hra
        go_wp2_with fail
        refine (uknows_any _).mono ?_
        rintro e W4 ⟨rfl, hb4⟩
        have HBF := Lib.hid ((A3.out.next hb4).below)
        clear hb4
        go_wp2_with fail
        go_ret
        exact ⟨rfl, HBF.out⟩
      | true =>
        have hrb : b.right = false := by
          cases h : b.right with
          | false => rfl
          | true => exact absurd ⟨hra, h⟩ HBAD.out
        have HRB := Lib.hid hrb
        clear hra hrb
        obtain ⟨x0, x1, x2, x3, y0, y1, y2, y3, _⟩ := A3.out.cells
        go_wp2_with fail
        refine (rright_any b W3 _ _ (Nat.le_refl _) A3.out.ib (by omega)).mono ?_
        rintro e W4 ⟨rfl, hb4⟩
        rw [HRB.out]
        have A4 := Lib.hid (A3.out.next hb4)
        clear hb4 A3 x0 x1 x2 x3 y0 y1 y2 y3
        go_wp2_with fail
        refine (uknows_any _).mono ?_
        rintro e W5 ⟨rfl, hb5⟩
        have HBF := Lib.hid ((A4.out.next hb5).below)
        clear hb5
        go_wp2_with fail
        go_ret
        exact ⟨rfl, HBF.out⟩
    obtain ⟨hra, hrb⟩ := hrr
    have HRA := Lib.hid hra
    have HRB := Lib.hid hrb
    clear hra hrb
    go_wp2_with fail
    refine (mgu_any (V := varsOf [a, b]) (by omega) HRA.out HRB.out (fun v hv => (vars_vs _ v).2 ⟨a, by simp, hv⟩) (fun v hv => (vars_vs _ v).2 ⟨b, by simp, hv⟩) A1.out.ia A1.out.ib).mono ?_
    rintro e W2 ⟨hb2, hcase⟩
    have A2 := Lib.hid (A1.out.next hb2)
    clear hb2 A1 x0 x1 x2 x3 y0 y1 y2 y3
    obtain ⟨sv, q, rfl, HC⟩ : ∃ (sv : Value) (q : Bool), e = .returned (.tuple #[sv, .bool q, .int .i64 0]) ∧ Hid ((q = true ∧ ∃ l, bdsIn W2 W2.heap.size l sv ∧ MguOf [] a b l ∧ inV (varsOf [a, b]) l) ∨ (q = false ∧ sv = .slice none 0 0 ∧ NoMgu [] a b)) := by
      rcases hcase with ⟨l, sv, rfl, h1, h2, h3⟩ | ⟨rfl, h⟩
      · exact ⟨sv, true, rfl, .inl ⟨rfl, l, h1, h2, h3⟩⟩
      · exact ⟨_, false, rfl, .inr ⟨rfl, rfl, h⟩⟩
    clear hcase
    obtain ⟨x0, x1, x2, x3, y0, y1, y2, y3, _⟩ := A2.out.cells
    go_wp2_with fail
    refine (rright_any a W2 _ _ (Nat.le_refl _) A2.out.ia (by omega)).mono ?_
    rintro e W3 ⟨rfl, hb3⟩
    rw [HRA.out]
    have A3 := Lib.hid (A2.out.next hb3)
    have HB3 := Lib.hid hb3
    clear hb3 x0 x1 x2 x3 y0 y1 y2 y3
    obtain ⟨x0, x1, x2, x3, y0, y1, y2, y3, _⟩ := A3.out.cells
    go_wp2_with fail
    refine (rright_any b W3 _ _ (Nat.le_refl _) A3.out.ib (by omega)).mono ?_
    rintro e W4 ⟨rfl, hb4⟩
    rw [HRB.out]
    have A4 := Lib.hid (A3.out.next hb4)
    have HB4 := Lib.hid (HB3.out.trans (hb4.mono HB3.out.size))
    clear hb4 HB3 A3 x0 x1 x2 x3 y0 y1 y2 y3
    obtain ⟨x0, x1, x2, x3, y0, y1, y2, y3, _⟩ := A4.out.cells
    have hnil : RightL [] := ⟨fun i hi => absurd hi (Nat.not_lt_zero _), fun _ => 0, fun i hi => absurd hi (Nat.not_lt_zero _)⟩
    have HNIL := Lib.hid hnil
    clear hnil
    go_wp2_with fail
    refine (runify_any (ok := fun _ => True) (B := W4.heap.size) HNIL.out HRA.out HRB.out (Nat.le_refl _) ⟨none, 0, rfl, Nat.le_refl _, by simp, by simp, .inl rfl⟩ A4.out.ia A4.out.ib).mono ?_
    rintro e W5 ⟨svd, q2, rfl, hb5, hcase⟩
    have A5 := Lib.hid (A4.out.next hb5)
    have HB5 := Lib.hid (HB4.out.trans (hb5.mono HB4.out.size))
    have HB45 := Lib.hid hb5.size
    have HD := Lib.hid hcase
    clear hb5 hcase HB4 x0 x1 x2 x3 y0 y1 y2 y3
    have hq : q2 = q := by
      rcases HC.out with ⟨rfl, l, _, hm, _⟩ | ⟨rfl, _, hn⟩
      · rcases HD.out with ⟨_, h, _⟩ | ⟨h, _⟩
        · exact (hm.not (Alike.refl _) h).elim
        · exact h
      · rcases HD.out with ⟨h, _⟩ | ⟨_, l', hm, _⟩
        · exact h
        · exact (hm.not (Alike.refl _) hn).elim
    subst hq
    cases q2 with
    | false =>
      obtain rfl : sv = .slice none 0 0 := by
        rcases HC.out with ⟨h, _⟩ | ⟨_, h, _⟩
        · cases h
        · exact h
      clear HC HD
      go_wp2_with fail
      refine (uknows_any _).mono ?_
      rintro e W6 ⟨rfl, hb6⟩
      have HBF := Lib.hid ((A5.out.next hb6).below)
      clear hb6
      go_wp2_with fail
      go_ret
      exact ⟨rfl, HBF.out⟩
    | true =>
      obtain ⟨l, hbl, hml, hVl⟩ : ∃ l, bdsIn W2 W2.heap.size l sv ∧ MguOf [] a b l ∧ inV (varsOf [a, b]) l := by
        rcases HC.out with ⟨_, h⟩ | ⟨h, _⟩
        · exact h
        · cases h
      obtain ⟨m, hmm, hbm⟩ : ∃ m, MguOf [] a b m ∧ bdsQ W5 W4.heap.size (here W5) m svd := by
        rcases HD.out with ⟨h, _⟩ | ⟨_, m, h1, h2⟩
        · cases h
        · exact ⟨m, h1, bdsQ_same h2 (fun _ h => h.1) (fun _ _ _ _ h => h) (fun _ _ _ _ h => h)⟩
      have hal : Alike l m := hml.alike hmm (Alike.refl _)
      have hll := okL_inV hml.right.1 hVl
      have hbm5 : bdsIn W5 W5.heap.size m svd := bdsQ_in hbm HB45.out (fun _ h => h)
      have hbl5 := bdsIn_held hbl HB5.out
      obtain ⟨gl, cl, rfl, _, _, _, _⟩ := id hbl5
      obtain ⟨gd, cd, rfl, _, _, _, _⟩ := id hbm5
      have hlm : m.length ≤ (varsOf [a, b]).length := hal.len hml.right hmm.right hVl
      obtain ⟨σ, hσ⟩ := sol_of hml.right
      obtain ⟨τ, hτ⟩ := sol_of hmm.right
      have L5 := Lib.hid hbl5
      have M5 := Lib.hid hbm5
      have HAL := Lib.hid hal
      have HML := Lib.hid hml
      have HMM := Lib.hid hmm
      have HVL := Lib.hid hVl
      have HS := Lib.hid hσ
      have HT := Lib.hid hτ
      clear hbl hml hVl hmm hbm hal hbm5 hbl5 hσ hτ HC HD
      obtain ⟨x0, x1, x2, x3, y0, y1, y2, y3, _⟩ := A5.out.cells
      go_wp2_with fail
      have A6 := Lib.hid (A5.out.next ((Below.refl _ _).alloc (Nat.le_refl _) (.cells #[.int .i64 a.kind, .string a.name, .int .i64 a.n, .slice ga a.args.length ca, .int .i64 b.kind, .string b.name, .int .i64 b.n, .slice gb b.args.length cb] 27 (0, 0))))
      have htw := A5.out.two (n := W5.heap.size) rfl
      have L6 := Lib.hid (bdsIn_held L5.out ((Below.refl W5.heap.size W5).alloc (Nat.le_refl _) (.cells #[.int .i64 a.kind, .string a.name, .int .i64 a.n, .slice ga a.args.length ca, .int .i64 b.kind, .string b.name, .int .i64 b.n, .slice gb b.args.length cb] 27 (0, 0))))
      have M6 := Lib.hid (bdsIn_held M5.out ((Below.refl W5.heap.size W5).alloc (Nat.le_refl _) (.cells #[.int .i64 a.kind, .string a.name, .int .i64 a.n, .slice ga a.args.length ca, .int .i64 b.kind, .string b.name, .int .i64 b.n, .slice gb b.args.length cb] 27 (0, 0))))
      have hwv := withs_vars [a, b] (by rw [Tm.plain_all]; simp [right_noArgs HRA.out, right_noArgs HRB.out])
      have hrv := rvars_any [a, b] _ _ _ (Nat.le_refl _) htw (by simp [Tm.sizes]; omega)
      rw [hwv] at hrv
      have HRV := Lib.hid hrv
      clear hwv hrv htw A5 L5 M5 x0 x1 x2 x3 y0 y1 y2 y3
      refine HRV.out.mono ?_
      rintro e W7 ⟨vv, rfl, hints, hb7⟩
      obtain ⟨gw, cw, rfl, hcw, hlw2, _⟩ := id hints
      have A7 := Lib.hid (A6.out.next hb7)
      have L7 := Lib.hid (bdsIn_held L6.out hb7)
      have M7 := Lib.hid (bdsIn_held M6.out hb7)
      have hvr : ∀ v ∈ varsOf [a, b], 0 ≤ v ∧ v < 1000000 := fun v hv => by
        obtain ⟨t, ht, hvt⟩ := (vars_vs _ v).1 hv
        simp only [List.mem_cons, List.not_mem_nil, or_false] at ht
        rcases ht with ht | ht
        · exact right_v HRA.out (ht ▸ hvt)
        · exact right_v HRB.out (ht ▸ hvt)
      obtain ⟨vs, hvs⟩ : ∃ vs, varsOf [a, b] = vs := ⟨_, rfl⟩
      rw [hvs] at hints hcw hvl hlm hll hvr HVL ⊢
      have HI := Lib.hid hints
      have HVR := Lib.hid hvr
      clear hb7 hints hvs hvr hlw2 HRV A6 L6 M6
      go_wp2_with fail
      go_loopw [11] (fun i wr => ∃ k : Nat, k ≤ l.length ∧ i = .int .i64 (k : Nat) ∧ Hid (Below W7.heap.size W7 wr)) (fun i _ => l.length - (intOf i).toNat)
      case atStart => exact ⟨0, Nat.zero_le _, rfl, Below.refl _ _⟩
      case round =>
        obtain ⟨wz, rfl⟩ : ∃ x, x = wr := ⟨_, rfl⟩
        obtain ⟨k, hk, rfl, hb⟩ := hrel
        have HB := Lib.hid hb.out
        have hbz := hb.out.size
        clear hb
        by_cases hlt : k < l.length
        · obtain ⟨p, o, svt, hgl, hpB, g0, _, _, _, _, _⟩ := bdsIn_get (bdsIn_held L7.out HB.out) k hlt
          subst hgl
          have hat := at_any vs l[k].v wz _ (intsIn_mono (intsIn_below HI.out HB.out (Nat.le_refl _)) hbz)
          have hge : 0 ≤ atOf vs l[k].v := by unfold atOf; rw [if_pos (HVL.out _ (List.getElem_mem hlt)).1]; omega
          obtain ⟨x, hx⟩ : ∃ x, atOf vs l[k].v = x := ⟨_, rfl⟩
          rw [hx] at hat hge
          have HAT := Lib.hid hat
          clear hat hx
          go_wp2_with fail
          refine HAT.out.mono ?_
          rintro e w2 ⟨rfl, hb2⟩
          have HB2 := Lib.hid (HB.out.trans (hb2.mono hbz))
          clear hb2 HAT
          go_wp2_with fail
          go_roundw
          case rel => exact ⟨k + 1, by omega, by go_num, HB2.out⟩
          case measure => simp [intOf]; omega
        · obtain rfl : k = l.length := by omega
          have A8 := Lib.hid (A7.out.next HB.out)
          have L8 := Lib.hid (bdsIn_held L7.out HB.out)
          have M8 := Lib.hid (bdsIn_held M7.out HB.out)
          have I8 := Lib.hid (intsIn_mono (intsIn_below HI.out HB.out (Nat.le_refl _)) hbz)
          have hzl := szB_right HML.out.right.1
          clear HB hbz A7 L7 M7 HI
          go_wp2_with fail
          refine (bright_any l wz _ L8.out (by omega) (by omega)).mono ?_
          rintro e W9 ⟨q, rfl, hq, hb9⟩
          obtain rfl : q = true := hq.2 HML.out.right
          have A9 := Lib.hid (A8.out.next hb9)
          have L9 := Lib.hid (bdsIn_held L8.out hb9)
          have M9 := Lib.hid (bdsIn_held M8.out hb9)
          have I9 := Lib.hid (intsIn_mono (intsIn_below I8.out hb9 (Nat.le_refl _)) hb9.size)
          clear hb9 hq A8 L8 M8 I8
          obtain ⟨x0, x1, x2, x3, y0, y1, y2, y3, _⟩ := A9.out.cells
          have hown := own_two (n := W9.heap.size) rfl A9.out.ia A9.out.ib
          have HOWN := Lib.hid hown
          have HAL9 := Lib.hid ((Below.refl W9.heap.size W9).alloc (Nat.le_refl _) (.cells #[.int .i64 a.kind, .string a.name, .int .i64 a.n, .slice ga a.args.length ca, .int .i64 b.kind, .string b.name, .int .i64 b.n, .slice gb b.args.length cb] 27 (0, 0)))
          clear hown
          go_wp2_with fail
          obtain ⟨i0, hi, hz0, hz1, hz2⟩ := info_parts Try.infoTm
          go_loopw [12, 13] (fun v i wr => ∃ k : Nat, k ≤ vs.length ∧ i = .int .i64 (k : Nat) ∧ Hid (ownTms wr W9.heap.size W9.heap.size v ([a, b] ++ (vs.take k).map vTm)) ∧ Hid (Below W9.heap.size W9 wr)) (fun _ i _ => vs.length - (intOf i).toNat)
          case atStart => exact ⟨0, Nat.zero_le _, rfl, by simpa [Hid] using HOWN.out, HAL9.out⟩
          case round =>
            obtain ⟨wz, rfl⟩ : ∃ x, x = wr := ⟨_, rfl⟩
            obtain ⟨k, hk, rfl, ho, hb⟩ := hrel
            have HO := Lib.hid ho.out
            have HB := Lib.hid hb.out
            have hbz := hb.out.size
            clear ho hb
            by_cases hlt : k < vs.length
            · obtain ⟨bv, ov, hgv, hbv, gc⟩ := intsIn_get (intsIn_below I9.out HB.out (Nat.le_refl _)) k hlt
              subst hgv
              have hvk := HVR.out _ (List.getElem_mem hlt)
              have hM : [a, b] ++ (vs.take (k + 1)).map vTm = ([a, b] ++ (vs.take k).map vTm) ++ [vTm vs[k]] := by rw [List.take_succ_eq_append_getElem hlt, List.map_append, List.append_assoc]; rfl
              obtain ⟨v, hv⟩ : ∃ v, vs[k] = v := ⟨_, rfl⟩
              rw [hv] at gc hvk hM
              have hwfv : (Lit.int .i64 v).wf = true := WalkArith.wf_i64 (by omega)
              have HM := Lib.hid hM
              have HSRC := Lib.hid (src_var (W := wz) hwfv W9.heap.size rfl)
              have HO1 := Lib.hid (ownTms_below HO.out ((Below.refl wz.heap.size wz).alloc (Nat.le_refl _) (.cells #[.int .i64 1, .string ⟨#[]⟩, .int .i64 v, .slice none 0 0] 27)) hbz)
              clear hM hv hwfv
              go_wp2_with (at_builtin; refine wpList_append_tms rfl _ _ rfl W9.heap.size W9.heap.size u12 ([a, b] ++ (vs.take k).map vTm) rfl HO1.out [vTm v] (some ⟨wz.heap.size, 0, none⟩) 1 rfl HSRC.out (by simp; omega) (by simp; omega) (Nat.le_refl _) ?_; intro v' w5 hown5 hgrow5 hlow5 hsep5)
              go_roundw
              case rel => exact ⟨k + 1, by omega, by go_num, by rw [HM.out]; exact hown5, ((HB.out.alloc hbz _).grown hgrow5 (by simp; omega) hlow5)⟩
              case measure => simp [intOf]; omega
            · obtain rfl : k = vs.length := by omega
              have hown := HO.out
              rw [List.take_of_length_le (Nat.le_refl _)] at hown
              have hfa : ∀ t ∈ [a, b] ++ vs.map vTm, t.fair = true := fun t ht => by
                rcases List.mem_append.1 ht with h | h
                · simp only [List.mem_cons, List.not_mem_nil, or_false] at h
                  rcases h with rfl | rfl
                  · exact right_fair HRA.out
                  · exact right_fair HRB.out
                · obtain ⟨v, hv, rfl⟩ := List.mem_map.1 h
                  exact Tm.fair_vTm (HVR.out v hv).1 (HVR.out v hv).2
              obtain ⟨ts, hts⟩ : ∃ ts, [a, b] ++ vs.map vTm = ts := ⟨_, rfl⟩
              have htl : ts.length ≤ 300 := by rw [← hts]; simp; omega
              have ht2 : 2 ≤ ts.length := by rw [← hts]; simp
              rw [hts] at hown hfa
              have hsl := ownTms_slice hown hbz (by omega)
              obtain ⟨ga', ca', rfl⟩ := ownTms_sl hown
              have HSL := Lib.hid hsl
              have L10 := Lib.hid (bdsIn_held L9.out HB.out)
              have M10 := Lib.hid (bdsIn_held M9.out HB.out)
              have A10 := Lib.hid (A9.out.next HB.out)
              have hpu := finds_pure HAL.out HML.out.right HMM.out.right HS.out HT.out hfa
              have hsm := finds_same (ts := ts) (σ := σ) (a := a) (b := b) (r := vs.map vTm) hts.symm ((HML.out.iff σ).1 (HS.out.solves HML.out.right.1)).2
              have HPU := Lib.hid hpu
              have HSM := Lib.hid hsm
              have HFA := Lib.hid hfa
              clear hown hfa hts hsl hpu hsm HO HB L9 M9 A9 I9 HOWN HAL9 x0 x1 x2 x3 y0 y1 y2 y3
              go_wp2_with fail
              refine (seen_any l σ HML.out.right HS.out ts HFA.out wz _ _ L10.out HSL.out (by omega) htl).mono ?_
              rintro e W11 ⟨sx, f1, rfl, hb11, hc1⟩
              have HSL11 := Lib.hid (lift_sl HSL.out hb11)
              have M11 := Lib.hid (bdsIn_held M10.out hb11)
              have A11 := Lib.hid (A10.out.next hb11)
              have C1 := Lib.hid hc1
              clear hb11 hc1 L10 M10 A10 HSL
              go_wp2_with fail
              refine (seen_any m τ HMM.out.right HT.out ts HFA.out W11 _ _ M11.out HSL11.out (by omega) htl).mono ?_
              rintro e W12 ⟨sy, f2, rfl, hb12, hc2⟩
              have A12 := Lib.hid (A11.out.next hb12)
              have HB12 := Lib.hid hb12
              have C2 := Lib.hid hc2
              clear hb12 hc2 M11 A11 HSL11
              have hf : f2 = f1 := by
                rcases C1.out with ⟨rfl, _, h⟩ | ⟨rfl, h, _⟩
                · rcases C2.out with ⟨h', _⟩ | ⟨_, h', _⟩
                  · exact h'
                  · exact absurd (HPU.out.1.2 h') h
                · rcases C2.out with ⟨_, _, h'⟩ | ⟨h', _⟩
                  · exact absurd (HPU.out.1.1 h) h'
                  · exact h'
              subst hf
              cases f2 with
              | false =>
                clear C1 C2 HSM HPU
                go_wp2_with fail
                refine wp_region_held_drew (S := fun W' => Below W12.heap.size W12 W') (by kernel_rfl) ((Below.refl _ _).drew) (fun hHeld => ?_)
                refine wpAnyH_take (i := 0) (oi := _) (v := ?_) rfl (by kernel_rfl) (by kernel_rfl) (by kernel_rfl) (fun _ _ _ h => h) (Or.inl ⟨by rfl, ?_⟩) hHeld ?_
                rotate_left
                · (intro w hSw; go_simp; try with_reducible rfl)
                try simp only [Act.put, List.setIfInBounds_toArray, List.set_cons_zero, List.set_cons_succ, List.getElem_toArray, List.getElem_cons_zero]
                refine wpAnyH_take (i := 1) (oi := _) (v := ?_) rfl (by kernel_rfl) (by kernel_rfl) (by kernel_rfl) (fun _ _ _ h => h) (Or.inl ⟨by rfl, ?_⟩) hHeld ?_
                rotate_left
                · (intro w hSw; go_simp; try with_reducible rfl)
                try simp only [Act.put, List.setIfInBounds_toArray, List.set_cons_zero, List.set_cons_succ, List.getElem_toArray, List.getElem_cons_zero, List.getElem_cons_succ]
                refine wpAnyH_take (i := 2) (oi := _) (v := ?_) rfl (by kernel_rfl) (by kernel_rfl) (by kernel_rfl) (fun _ _ _ h => h) (Or.inl ⟨by rfl, ?_⟩) hHeld ?_
                rotate_left
                · (intro w hSw; go_simp; try with_reducible rfl)
                try simp only [Act.put, List.setIfInBounds_toArray, List.set_cons_zero, List.set_cons_succ, List.getElem_toArray, List.getElem_cons_zero, List.getElem_cons_succ]
                refine wpAnyH_take (i := 3) (oi := _) (v := ?_) rfl (by kernel_rfl) (by kernel_rfl) (by kernel_rfl) (fun _ _ _ h => h) (Or.inl ⟨by rfl, ?_⟩) hHeld ?_
                rotate_left
                · (intro w hSw; go_simp; try with_reducible rfl)
                try simp only [Act.put, List.setIfInBounds_toArray, List.set_cons_zero, List.set_cons_succ, List.getElem_toArray, List.getElem_cons_zero, List.getElem_cons_succ]
                refine wpAnyH_take (i := 4) (oi := _) (v := ?_) rfl (by kernel_rfl) (by kernel_rfl) (by kernel_rfl) (fun _ _ _ h => h) (Or.inl ⟨by rfl, ?_⟩) hHeld ?_
                rotate_left
                · (intro w hSw; go_simp; try with_reducible rfl)
                try simp only [Act.put, List.setIfInBounds_toArray, List.set_cons_zero, List.set_cons_succ, List.getElem_toArray, List.getElem_cons_zero, List.getElem_cons_succ]
                refine wpAnyH_take (i := 5) (oi := _) (v := ?_) rfl (by kernel_rfl) (by kernel_rfl) (by kernel_rfl) (fun _ _ _ h => h) (Or.inl ⟨by rfl, ?_⟩) hHeld ?_
                rotate_left
                · (intro w hSw; go_simp; try with_reducible rfl)
                try simp only [Act.put, List.setIfInBounds_toArray, List.set_cons_zero, List.set_cons_succ, List.getElem_toArray, List.getElem_cons_zero, List.getElem_cons_succ]
                refine wpAnyH_take (i := 6) (oi := _) (v := ?_) rfl (by kernel_rfl) (by kernel_rfl) (by kernel_rfl) (fun _ _ _ h => h) (Or.inl ⟨by rfl, ?_⟩) hHeld ?_
                rotate_left
                · (intro w hSw; go_simp; try with_reducible rfl)
                try simp only [Act.put, List.setIfInBounds_toArray, List.set_cons_zero, List.set_cons_succ, List.getElem_toArray, List.getElem_cons_zero, List.getElem_cons_succ]
                refine wpAnyH_take (i := 7) (oi := _) (v := undef) rfl (by kernel_rfl) (by kernel_rfl) (by kernel_rfl) (fun _ _ _ h => h) (Or.inr ⟨by rfl, rfl⟩) hHeld ?_
                try simp only [Act.put, List.setIfInBounds_toArray, List.set_cons_zero, List.set_cons_succ, List.getElem_toArray, List.getElem_cons_zero, List.getElem_cons_succ]
                refine wpAnyH_take (i := 8) (oi := _) (v := undef) rfl (by kernel_rfl) (by kernel_rfl) (by kernel_rfl) (fun _ _ _ h => h) (Or.inr ⟨by rfl, rfl⟩) hHeld ?_
                try simp only [Act.put, List.setIfInBounds_toArray, List.set_cons_zero, List.set_cons_succ, List.getElem_toArray, List.getElem_cons_zero, List.getElem_cons_succ]
                refine wpAnyH_take (i := 9) (oi := _) (v := undef) rfl (by kernel_rfl) (by kernel_rfl) (by kernel_rfl) (fun _ _ _ h => h) (Or.inr ⟨by rfl, rfl⟩) hHeld ?_
                try simp only [Act.put, List.setIfInBounds_toArray, List.set_cons_zero, List.set_cons_succ, List.getElem_toArray, List.getElem_cons_zero, List.getElem_cons_succ]
                refine wpAnyH_take (i := 10) (oi := _) (v := undef) rfl (by kernel_rfl) (by kernel_rfl) (by kernel_rfl) (fun _ _ _ h => h) (Or.inr ⟨by rfl, rfl⟩) hHeld ?_
                try simp only [Act.put, List.setIfInBounds_toArray, List.set_cons_zero, List.set_cons_succ, List.getElem_toArray, List.getElem_cons_zero, List.getElem_cons_succ]
                refine wpAnyH_take (i := 11) (oi := _) (v := undef) rfl (by kernel_rfl) (by kernel_rfl) (by kernel_rfl) (fun _ _ _ h => h) (Or.inr ⟨by rfl, rfl⟩) hHeld ?_
                try simp only [Act.put, List.setIfInBounds_toArray, List.set_cons_zero, List.set_cons_succ, List.getElem_toArray, List.getElem_cons_zero, List.getElem_cons_succ]
                refine wpAnyH_take (i := 12) (oi := _) (v := undef) rfl (by kernel_rfl) (by kernel_rfl) (by kernel_rfl) (fun _ _ _ h => h) (Or.inr ⟨by rfl, rfl⟩) hHeld ?_
                try simp only [Act.put, List.setIfInBounds_toArray, List.set_cons_zero, List.set_cons_succ, List.getElem_toArray, List.getElem_cons_zero, List.getElem_cons_succ]
                refine wpAnyH_ready (rs := [13]) (by kernel_rfl) (by simp) ?_
                refine AllReadyH.cons (o := _) rfl (fun K hK => ?_) AllReadyH.nil
                go_simp
                refine hK.out _ _ (hHeld) (fun hHeld => ?_)
                clear hK K
                try simp only [Act.put, List.setIfInBounds_toArray, List.set_cons_zero, List.set_cons_succ, List.getElem_toArray, List.getElem_cons_zero, List.getElem_cons_succ]
                refine wpAnyH_take (i := 14) (oi := _) (v := undef) rfl (by kernel_rfl) (by kernel_rfl) (by kernel_rfl) (fun _ _ _ h => h) (Or.inr ⟨by rfl, rfl⟩) hHeld ?_
                try simp only [Act.put, List.setIfInBounds_toArray, List.set_cons_zero, List.set_cons_succ, List.getElem_toArray, List.getElem_cons_zero, List.getElem_cons_succ]
                refine wpAnyH_take (i := 15) (oi := _) (v := undef) rfl (by kernel_rfl) (by kernel_rfl) (by kernel_rfl) (fun _ _ _ h => h) (Or.inr ⟨by rfl, rfl⟩) hHeld ?_
                try simp only [Act.put, List.setIfInBounds_toArray, List.set_cons_zero, List.set_cons_succ, List.getElem_toArray, List.getElem_cons_zero, List.getElem_cons_succ]
                refine wpAnyH_take (i := 16) (oi := _) (v := undef) rfl (by kernel_rfl) (by kernel_rfl) (by kernel_rfl) (fun _ _ _ h => h) (Or.inr ⟨by rfl, rfl⟩) hHeld ?_
                try simp only [Act.put, List.setIfInBounds_toArray, List.set_cons_zero, List.set_cons_succ, List.getElem_toArray, List.getElem_cons_zero, List.getElem_cons_succ]
                refine wpAnyH_ready (rs := [17]) (by kernel_rfl) (by simp) ?_
                refine AllReadyH.cons (o := _) rfl (fun K hK => ?_) AllReadyH.nil
                go_simp
                refine hK.out _ _ (hHeld) (fun hHeld => ?_)
                clear hK K
                try simp only [Act.put, List.setIfInBounds_toArray, List.set_cons_zero, List.set_cons_succ, List.getElem_toArray, List.getElem_cons_zero, List.getElem_cons_succ]
                refine wpAnyH_take (i := 18) (oi := _) (v := undef) rfl (by kernel_rfl) (by kernel_rfl) (by kernel_rfl) (fun _ _ _ h => h) (Or.inr ⟨by rfl, rfl⟩) hHeld ?_
                try simp only [Act.put, List.setIfInBounds_toArray, List.set_cons_zero, List.set_cons_succ, List.getElem_toArray, List.getElem_cons_zero, List.getElem_cons_succ]
                refine wpAnyH_take (i := 19) (oi := _) (v := ?_) rfl (by kernel_rfl) (by kernel_rfl) (by kernel_rfl) (fun _ _ _ h => h) (Or.inl ⟨by rfl, ?_⟩) hHeld ?_
                rotate_left
                · (intro w hSw; go_simp; try with_reducible rfl)
                try simp only [Act.put, List.setIfInBounds_toArray, List.set_cons_zero, List.set_cons_succ, List.getElem_toArray, List.getElem_cons_zero, List.getElem_cons_succ]
                refine wpAnyH_take (i := 20) (oi := _) (v := ?_) rfl (by kernel_rfl) (by kernel_rfl) (by kernel_rfl) (fun _ _ _ h => h) (Or.inl ⟨by rfl, ?_⟩) hHeld ?_
                rotate_left
                · (intro w hSw; go_simp; try with_reducible rfl)
                try simp only [Act.put, List.setIfInBounds_toArray, List.set_cons_zero, List.set_cons_succ, List.getElem_toArray, List.getElem_cons_zero, List.getElem_cons_succ]
                refine wpAnyH_take (i := 21) (oi := _) (v := ?_) rfl (by kernel_rfl) (by kernel_rfl) (by kernel_rfl) (fun _ _ _ h => h) (Or.inl ⟨by rfl, ?_⟩) hHeld ?_
                rotate_left
                · (intro w hSw; go_simp; try with_reducible rfl)
                try simp only [Act.put, List.setIfInBounds_toArray, List.set_cons_zero, List.set_cons_succ, List.getElem_toArray, List.getElem_cons_zero, List.getElem_cons_succ]
                refine wpAnyH_ready (rs := [22]) (by kernel_rfl) (by simp) ?_
                refine AllReadyH.cons (o := _) rfl (fun K hK => ?_) AllReadyH.nil
                go_simp
                refine (uknows_any _).mono ?_
                rintro e w4' ⟨rfl, hb⟩
                have HTS := Lib.hid ((show Below W12.heap.size W12 _ from hHeld).trans (hb.mono (show Below W12.heap.size W12 _ from hHeld).size))
                clear hb hHeld
                go_wp2_with fail
                refine hK.out _ _ (HTS.out) (fun hHeld => ?_)
                clear hK K HTS
                try simp only [Act.put, List.setIfInBounds_toArray, List.set_cons_zero, List.set_cons_succ, List.getElem_toArray, List.getElem_cons_zero, List.getElem_cons_succ]
                refine wpAnyH_take (i := 23) (oi := _) (v := ?_) rfl (by kernel_rfl) (by kernel_rfl) (by kernel_rfl) (fun _ _ _ h => h) (Or.inl ⟨by rfl, ?_⟩) hHeld ?_
                rotate_left
                · (intro w hSw; go_simp; try with_reducible rfl)
                try simp only [Act.put, List.setIfInBounds_toArray, List.set_cons_zero, List.set_cons_succ, List.getElem_toArray, List.getElem_cons_zero, List.getElem_cons_succ]
                refine wpAnyH_ready (rs := [24]) (by kernel_rfl) (by simp) ?_
                refine AllReadyH.cons (o := _) rfl (fun K hK => ?_) AllReadyH.nil
                go_simp
                refine hK.out _ _ (hHeld) (fun hHeld => ?_)
                clear hK K
                try simp only [Act.put, List.setIfInBounds_toArray, List.set_cons_zero, List.set_cons_succ, List.getElem_toArray, List.getElem_cons_zero, List.getElem_cons_succ]
                refine wpAnyH_done (by kernel_rfl) ?_ _
                have HBF := Lib.hid (A12.out.below.trans ((show Below W12.heap.size W12 _ from hHeld).mono A12.out.below.size))
                clear hHeld
                go_wp2_with fail
                go_ret
                exact ⟨rfl, HBF.out⟩
              | true =>
                obtain ⟨gu, cu, rfl, hsx, hrt⟩ : ∃ g c, sx = .slice g ts.length c ∧ Tm.sliceIn W11 W11.heap.size (numTms (ts.map (Tm.bnd σ))) (.slice g ts.length c) ∧ ∀ t ∈ ts, (t.bnd σ).right = true := by
                  rcases C1.out with ⟨h, _⟩ | ⟨_, h, g, c, h1, h2⟩
                  · cases h
                  · exact ⟨g, c, h1, h2, h⟩
                obtain ⟨gv, cv, rfl, hsy⟩ : ∃ g c, sy = .slice g ts.length c ∧ Tm.sliceIn W12 W12.heap.size (numTms (ts.map (Tm.bnd τ))) (.slice g ts.length c) := by
                  rcases C2.out with ⟨h, _⟩ | ⟨_, _, g, c, h1, h2⟩
                  · cases h
                  · exact ⟨g, c, h1, h2⟩
                rw [← HPU.out.2 hrt] at hsy
                have hlX : 2 ≤ (numTms (ts.map (Tm.bnd σ))).length := by
                  unfold numTms
                  rw [if_pos (List.all_eq_true.2 fun x hx => by obtain ⟨t, ht, rfl⟩ := List.mem_map.1 hx; exact hrt t ht), Tm.rens_length, List.length_map]
                  exact ht2
                obtain ⟨Xs, hXs⟩ : ∃ Xs, numTms (ts.map (Tm.bnd σ)) = Xs := ⟨_, rfl⟩
                rw [hXs] at hsx hsy hlX
                have HXN := Lib.hid hXs.symm
                have HX := Lib.hid (lift_sl hsx HB12.out)
                have HY := Lib.hid hsy
                obtain ⟨pb, po, hgu⟩ : ∃ pb po, gu = some ⟨pb, po, none⟩ := by obtain ⟨pb, po, _, hgu, _⟩ := Tm.sliceIn_get hsx 0 (by omega); exact ⟨pb, po, hgu⟩
                subst hgu
                clear hsx hsy hrt hXs C1 C2 HPU HB12
                obtain ⟨X0, X1, s0, s1, hx0, hx1, hi0, hi1, hts0⟩ := TS.mk' HX.out hlX
                obtain ⟨g0, e0, rfl⟩ := inn_sl hi0
                obtain ⟨g1, e1, rfl⟩ := inn_sl hi1
                have HI0 := Lib.hid hi0
                have HI1 := Lib.hid hi1
                have HSA := Lib.hid (HSM.out X0 X1 (HXN.out ▸ hx0) (HXN.out ▸ hx1))
                clear hx0 hx1 hi0 hi1
                have hn0 : 0 < ts.length := by omega
                have hn1 : 1 < ts.length := by omega
                have hi0 : (0 : Int) < (ts.length : Int) := by omega
                have hi1 : (1 : Int) < (ts.length : Int) := by omega
                go_wp2_with fail
                refine wp_region_held_drew (S := fun W' => W'.cell? ⟨pb, po, none⟩ = some (.int .i64 X0.kind) ∧ W'.cell? ⟨pb, po + 1, none⟩ = some (.string X0.name) ∧ W'.cell? ⟨pb, po + 2, none⟩ = some (.int .i64 X0.n) ∧ W'.cell? ⟨pb, po + 3, none⟩ = some (.slice g0 X0.args.length e0) ∧ W'.cell? ⟨pb, po + 4, none⟩ = some (.int .i64 X1.kind) ∧ W'.cell? ⟨pb, po + 4 + 1, none⟩ = some (.string X1.name) ∧ W'.cell? ⟨pb, po + 4 + 2, none⟩ = some (.int .i64 X1.n) ∧ W'.cell? ⟨pb, po + 4 + 3, none⟩ = some (.slice g1 X1.args.length e1) ∧ Below W12.heap.size W12 W') (by kernel_rfl) hts0 (fun hHeld => ?_)
                clear hts0
                refine wpAnyH_take (i := 0) (oi := _) (v := ?_) rfl (by kernel_rfl) (by kernel_rfl) (by kernel_rfl) (fun _ _ _ h => h) (Or.inl ⟨by rfl, ?_⟩) hHeld ?_
                rotate_left
                · (intro w hSw; obtain ⟨c0, c1, c2, c3, d0, d1, d2, d3, _⟩ := hSw; go_simp; try with_reducible rfl)
                try simp only [Act.put, List.setIfInBounds_toArray, List.set_cons_zero, List.set_cons_succ, List.getElem_toArray, List.getElem_cons_zero]
                refine wpAnyH_take (i := 1) (oi := _) (v := ?_) rfl (by kernel_rfl) (by kernel_rfl) (by kernel_rfl) (fun _ _ _ h => h) (Or.inl ⟨by rfl, ?_⟩) hHeld ?_
                rotate_left
                · (intro w hSw; obtain ⟨c0, c1, c2, c3, d0, d1, d2, d3, _⟩ := hSw; go_simp; try with_reducible rfl)
                try simp only [Act.put, List.setIfInBounds_toArray, List.set_cons_zero, List.set_cons_succ, List.getElem_toArray, List.getElem_cons_zero, List.getElem_cons_succ]
                refine wpAnyH_take (i := 2) (oi := _) (v := ?_) rfl (by kernel_rfl) (by kernel_rfl) (by kernel_rfl) (fun _ _ _ h => h) (Or.inl ⟨by rfl, ?_⟩) hHeld ?_
                rotate_left
                · (intro w hSw; obtain ⟨c0, c1, c2, c3, d0, d1, d2, d3, _⟩ := hSw; go_simp; try with_reducible rfl)
                try simp only [Act.put, List.setIfInBounds_toArray, List.set_cons_zero, List.set_cons_succ, List.getElem_toArray, List.getElem_cons_zero, List.getElem_cons_succ]
                refine wpAnyH_take (i := 3) (oi := _) (v := ?_) rfl (by kernel_rfl) (by kernel_rfl) (by kernel_rfl) (fun _ _ _ h => h) (Or.inl ⟨by rfl, ?_⟩) hHeld ?_
                rotate_left
                · (intro w hSw; obtain ⟨c0, c1, c2, c3, d0, d1, d2, d3, _⟩ := hSw; go_simp; try with_reducible rfl)
                try simp only [Act.put, List.setIfInBounds_toArray, List.set_cons_zero, List.set_cons_succ, List.getElem_toArray, List.getElem_cons_zero, List.getElem_cons_succ]
                refine wpAnyH_take (i := 4) (oi := _) (v := ?_) rfl (by kernel_rfl) (by kernel_rfl) (by kernel_rfl) (fun _ _ _ h => h) (Or.inl ⟨by rfl, ?_⟩) hHeld ?_
                rotate_left
                · (intro w hSw; obtain ⟨c0, c1, c2, c3, d0, d1, d2, d3, _⟩ := hSw; go_simp; try with_reducible rfl)
                try simp only [Act.put, List.setIfInBounds_toArray, List.set_cons_zero, List.set_cons_succ, List.getElem_toArray, List.getElem_cons_zero, List.getElem_cons_succ]
                refine wpAnyH_take (i := 5) (oi := _) (v := ?_) rfl (by kernel_rfl) (by kernel_rfl) (by kernel_rfl) (fun _ _ _ h => h) (Or.inl ⟨by rfl, ?_⟩) hHeld ?_
                rotate_left
                · (intro w hSw; obtain ⟨c0, c1, c2, c3, d0, d1, d2, d3, _⟩ := hSw; go_simp; try with_reducible rfl)
                try simp only [Act.put, List.setIfInBounds_toArray, List.set_cons_zero, List.set_cons_succ, List.getElem_toArray, List.getElem_cons_zero, List.getElem_cons_succ]
                refine wpAnyH_take (i := 6) (oi := _) (v := ?_) rfl (by kernel_rfl) (by kernel_rfl) (by kernel_rfl) (fun _ _ _ h => h) (Or.inl ⟨by rfl, ?_⟩) hHeld ?_
                rotate_left
                · (intro w hSw; obtain ⟨c0, c1, c2, c3, d0, d1, d2, d3, _⟩ := hSw; go_simp; try with_reducible rfl)
                try simp only [Act.put, List.setIfInBounds_toArray, List.set_cons_zero, List.set_cons_succ, List.getElem_toArray, List.getElem_cons_zero, List.getElem_cons_succ]
                refine wpAnyH_take (i := 7) (oi := _) (v := ?_) rfl (by kernel_rfl) (by kernel_rfl) (by kernel_rfl) (fun _ _ _ h => h) (Or.inl ⟨by rfl, ?_⟩) hHeld ?_
                rotate_left
                · (intro w hSw; obtain ⟨c0, c1, c2, c3, d0, d1, d2, d3, _⟩ := hSw; go_simp; try with_reducible rfl)
                try simp only [Act.put, List.setIfInBounds_toArray, List.set_cons_zero, List.set_cons_succ, List.getElem_toArray, List.getElem_cons_zero, List.getElem_cons_succ]
                refine wpAnyH_take (i := 8) (oi := _) (v := ?_) rfl (by kernel_rfl) (by kernel_rfl) (by kernel_rfl) (fun _ _ _ h => h) (Or.inl ⟨by rfl, ?_⟩) hHeld ?_
                rotate_left
                · (intro w hSw; obtain ⟨c0, c1, c2, c3, d0, d1, d2, d3, _⟩ := hSw; go_simp; try with_reducible rfl)
                try simp only [Act.put, List.setIfInBounds_toArray, List.set_cons_zero, List.set_cons_succ, List.getElem_toArray, List.getElem_cons_zero, List.getElem_cons_succ]
                refine wpAnyH_take (i := 9) (oi := _) (v := ?_) rfl (by kernel_rfl) (by kernel_rfl) (by kernel_rfl) (fun _ _ _ h => h) (Or.inl ⟨by rfl, ?_⟩) hHeld ?_
                rotate_left
                · (intro w hSw; obtain ⟨c0, c1, c2, c3, d0, d1, d2, d3, _⟩ := hSw; go_simp; try with_reducible rfl)
                try simp only [Act.put, List.setIfInBounds_toArray, List.set_cons_zero, List.set_cons_succ, List.getElem_toArray, List.getElem_cons_zero, List.getElem_cons_succ]
                refine wpAnyH_take (i := 10) (oi := _) (v := ?_) rfl (by kernel_rfl) (by kernel_rfl) (by kernel_rfl) (fun _ _ _ h => h) (Or.inl ⟨by rfl, ?_⟩) hHeld ?_
                rotate_left
                · (intro w hSw; obtain ⟨c0, c1, c2, c3, d0, d1, d2, d3, _⟩ := hSw; go_simp; try with_reducible rfl)
                try simp only [Act.put, List.setIfInBounds_toArray, List.set_cons_zero, List.set_cons_succ, List.getElem_toArray, List.getElem_cons_zero, List.getElem_cons_succ]
                refine wpAnyH_take (i := 11) (oi := _) (v := ?_) rfl (by kernel_rfl) (by kernel_rfl) (by kernel_rfl) (fun _ _ _ h => h) (Or.inl ⟨by rfl, ?_⟩) hHeld ?_
                rotate_left
                · (intro w hSw; obtain ⟨c0, c1, c2, c3, d0, d1, d2, d3, _⟩ := hSw; go_simp; try with_reducible rfl)
                try simp only [Act.put, List.setIfInBounds_toArray, List.set_cons_zero, List.set_cons_succ, List.getElem_toArray, List.getElem_cons_zero, List.getElem_cons_succ]
                refine wpAnyH_take (i := 12) (oi := _) (v := ?_) rfl (by kernel_rfl) (by kernel_rfl) (by kernel_rfl) (fun _ _ _ h => h) (Or.inl ⟨by rfl, ?_⟩) hHeld ?_
                rotate_left
                · (intro w hSw; obtain ⟨c0, c1, c2, c3, d0, d1, d2, d3, _⟩ := hSw; go_simp; try with_reducible rfl)
                try simp only [Act.put, List.setIfInBounds_toArray, List.set_cons_zero, List.set_cons_succ, List.getElem_toArray, List.getElem_cons_zero, List.getElem_cons_succ]
                refine wpAnyH_ready (rs := [13]) (by kernel_rfl) (by simp) ?_
                refine AllReadyH.cons (o := _) rfl (fun K hK => ?_) AllReadyH.nil
                go_simp
                refine (rsame_any X0 X1 _ _ _ _ (Nat.le_refl _) (lift_inn HI0.out (TS.below (show TS pb po X0 X1 (.slice g0 X0.args.length e0) (.slice g1 X1.args.length e1) W12 _ from hHeld))) (lift_inn HI1.out (TS.below (show TS pb po X0 X1 (.slice g0 X0.args.length e0) (.slice g1 X1.args.length e1) W12 _ from hHeld)))).mono ?_
                rintro e w' ⟨rfl, hb⟩
                rw [HSA.out]
                have HTS := Lib.hid (TS.next (show TS pb po X0 X1 (.slice g0 X0.args.length e0) (.slice g1 X1.args.length e1) W12 _ from hHeld) hb)
                clear hb hHeld
                go_wp2_with fail
                refine hK.out _ _ (HTS.out) (fun hHeld => ?_)
                clear hK K HTS
                try simp only [Act.put, List.setIfInBounds_toArray, List.set_cons_zero, List.set_cons_succ, List.getElem_toArray, List.getElem_cons_zero, List.getElem_cons_succ]
                refine wpAnyH_take (i := 14) (oi := _) (v := ?_) rfl (by kernel_rfl) (by kernel_rfl) (by kernel_rfl) (fun _ _ _ h => h) (Or.inl ⟨by rfl, ?_⟩) hHeld ?_
                rotate_left
                · (intro w hSw; obtain ⟨c0, c1, c2, c3, d0, d1, d2, d3, _⟩ := hSw; go_simp; try with_reducible rfl)
                try simp only [Act.put, List.setIfInBounds_toArray, List.set_cons_zero, List.set_cons_succ, List.getElem_toArray, List.getElem_cons_zero, List.getElem_cons_succ]
                refine wpAnyH_take (i := 15) (oi := _) (v := ?_) rfl (by kernel_rfl) (by kernel_rfl) (by kernel_rfl) (fun _ _ _ h => h) (Or.inl ⟨by rfl, ?_⟩) hHeld ?_
                rotate_left
                · (intro w hSw; obtain ⟨c0, c1, c2, c3, d0, d1, d2, d3, _⟩ := hSw; go_simp; try with_reducible rfl)
                try simp only [Act.put, List.setIfInBounds_toArray, List.set_cons_zero, List.set_cons_succ, List.getElem_toArray, List.getElem_cons_zero, List.getElem_cons_succ]
                refine wpAnyH_take (i := 16) (oi := _) (v := ?_) rfl (by kernel_rfl) (by kernel_rfl) (by kernel_rfl) (fun _ _ _ h => h) (Or.inl ⟨by rfl, ?_⟩) hHeld ?_
                rotate_left
                · (intro w hSw; obtain ⟨c0, c1, c2, c3, d0, d1, d2, d3, _⟩ := hSw; go_simp; try with_reducible rfl)
                try simp only [Act.put, List.setIfInBounds_toArray, List.set_cons_zero, List.set_cons_succ, List.getElem_toArray, List.getElem_cons_zero, List.getElem_cons_succ]
                refine wpAnyH_ready (rs := [17]) (by kernel_rfl) (by simp) ?_
                refine AllReadyH.cons (o := _) rfl (fun K hK => ?_) AllReadyH.nil
                go_simp
                refine (sameall_any Xs Xs _ _ _ _ (Nat.le_refl _) (lift_sl HX.out (TS.below (show TS pb po X0 X1 (.slice g0 X0.args.length e0) (.slice g1 X1.args.length e1) W12 _ from hHeld))) (lift_sl HY.out (TS.below (show TS pb po X0 X1 (.slice g0 X0.args.length e0) (.slice g1 X1.args.length e1) W12 _ from hHeld)))).mono ?_
                rintro e w3' ⟨rfl, hb⟩
                rw [decide_eq_true (rfl : Xs = Xs)]
                have HTS := Lib.hid (TS.next (show TS pb po X0 X1 (.slice g0 X0.args.length e0) (.slice g1 X1.args.length e1) W12 _ from hHeld) hb)
                clear hb hHeld
                go_wp2_with fail
                refine hK.out _ _ (HTS.out) (fun hHeld => ?_)
                clear hK K HTS
                try simp only [Act.put, List.setIfInBounds_toArray, List.set_cons_zero, List.set_cons_succ, List.getElem_toArray, List.getElem_cons_zero, List.getElem_cons_succ]
                refine wpAnyH_take (i := 18) (oi := _) (v := ?_) rfl (by kernel_rfl) (by kernel_rfl) (by kernel_rfl) (fun _ _ _ h => h) (Or.inl ⟨by rfl, ?_⟩) hHeld ?_
                rotate_left
                · (intro w hSw; obtain ⟨c0, c1, c2, c3, d0, d1, d2, d3, _⟩ := hSw; go_simp; try with_reducible rfl)
                try simp only [Act.put, List.setIfInBounds_toArray, List.set_cons_zero, List.set_cons_succ, List.getElem_toArray, List.getElem_cons_zero, List.getElem_cons_succ]
                refine wpAnyH_take (i := 19) (oi := _) (v := ?_) rfl (by kernel_rfl) (by kernel_rfl) (by kernel_rfl) (fun _ _ _ h => h) (Or.inl ⟨by rfl, ?_⟩) hHeld ?_
                rotate_left
                · (intro w hSw; obtain ⟨c0, c1, c2, c3, d0, d1, d2, d3, _⟩ := hSw; go_simp; try with_reducible rfl)
                try simp only [Act.put, List.setIfInBounds_toArray, List.set_cons_zero, List.set_cons_succ, List.getElem_toArray, List.getElem_cons_zero, List.getElem_cons_succ]
                refine wpAnyH_take (i := 20) (oi := _) (v := ?_) rfl (by kernel_rfl) (by kernel_rfl) (by kernel_rfl) (fun _ _ _ h => h) (Or.inl ⟨by rfl, ?_⟩) hHeld ?_
                rotate_left
                · (intro w hSw; obtain ⟨c0, c1, c2, c3, d0, d1, d2, d3, _⟩ := hSw; go_simp; try with_reducible rfl)
                try simp only [Act.put, List.setIfInBounds_toArray, List.set_cons_zero, List.set_cons_succ, List.getElem_toArray, List.getElem_cons_zero, List.getElem_cons_succ]
                refine wpAnyH_take (i := 21) (oi := _) (v := ?_) rfl (by kernel_rfl) (by kernel_rfl) (by kernel_rfl) (fun _ _ _ h => h) (Or.inl ⟨by rfl, ?_⟩) hHeld ?_
                rotate_left
                · (intro w hSw; obtain ⟨c0, c1, c2, c3, d0, d1, d2, d3, _⟩ := hSw; go_simp; try with_reducible rfl)
                try simp only [Act.put, List.setIfInBounds_toArray, List.set_cons_zero, List.set_cons_succ, List.getElem_toArray, List.getElem_cons_zero, List.getElem_cons_succ]
                refine wpAnyH_ready (rs := [22]) (by kernel_rfl) (by simp) ?_
                refine AllReadyH.cons (o := _) rfl (fun K hK => ?_) AllReadyH.nil
                go_simp
                refine (uknows_any _).mono ?_
                rintro e w4' ⟨rfl, hb⟩
                have HTS := Lib.hid (TS.next (show TS pb po X0 X1 (.slice g0 X0.args.length e0) (.slice g1 X1.args.length e1) W12 _ from hHeld) hb)
                clear hb hHeld
                go_wp2_with fail
                refine hK.out _ _ (HTS.out) (fun hHeld => ?_)
                clear hK K HTS
                try simp only [Act.put, List.setIfInBounds_toArray, List.set_cons_zero, List.set_cons_succ, List.getElem_toArray, List.getElem_cons_zero, List.getElem_cons_succ]
                refine wpAnyH_take (i := 23) (oi := _) (v := ?_) rfl (by kernel_rfl) (by kernel_rfl) (by kernel_rfl) (fun _ _ _ h => h) (Or.inl ⟨by rfl, ?_⟩) hHeld ?_
                rotate_left
                · (intro w hSw; obtain ⟨c0, c1, c2, c3, d0, d1, d2, d3, _⟩ := hSw; go_simp; try with_reducible rfl)
                try simp only [Act.put, List.setIfInBounds_toArray, List.set_cons_zero, List.set_cons_succ, List.getElem_toArray, List.getElem_cons_zero, List.getElem_cons_succ]
                refine wpAnyH_ready (rs := [24]) (by kernel_rfl) (by simp) ?_
                refine AllReadyH.cons (o := _) rfl (fun K hK => ?_) AllReadyH.nil
                go_simp
                refine hK.out _ _ (hHeld) (fun hHeld => ?_)
                clear hK K
                try simp only [Act.put, List.setIfInBounds_toArray, List.set_cons_zero, List.set_cons_succ, List.getElem_toArray, List.getElem_cons_zero, List.getElem_cons_succ]
                refine wpAnyH_done (by kernel_rfl) ?_ _
                have HBF := Lib.hid (A12.out.below.trans ((TS.below (show TS pb po X0 X1 (.slice g0 X0.args.length e0) (.slice g1 X1.args.length e1) W12 _ from hHeld)).mono A12.out.below.size))
                clear hHeld
                go_wp2_with fail
                go_ret
                exact ⟨rfl, HBF.out⟩
end Go.Proofs.Ytgnbjhiafjpokaa
