/-
  The statement TermVars, walked: for any terms that lie in memory the call returns true, and nothing that was there has turned.
-/
import Derived.Test.YtkmaaaednbjjkaaRVars
import Derived.Test.YtkmaaaednbjjkaaKnows
import Derived.Test.YtkmaaaednbjjkaaNums
import Derived.Test.YtkmaaaednbjjkaaRefB
import Derived.Deep.RegionHeld3
namespace Go.Proofs.Ytkmaaaednbjjkaa
open Go.RowKit

theorem addV_nil (ks : List Key) : ∀ vs : List Int, ks.foldl addV vs = [] ↔ vs = [] ∧ ∀ x ∈ ks, x.k ≠ 1 := by
  induction ks with
  | nil => intro vs; simp
  | cons x r ih =>
    intro vs
    simp only [List.foldl_cons, ih, List.mem_cons, forall_eq_or_imp, addV]
    by_cases hk : x.k = 1
    · by_cases hm : x.n ∈ vs
      · simp [hk, hm]
        intro e
        subst e
        cases hm
      · simp [hk, hm]
    · simp [hk]
theorem ground_iff (t : Tm) : t.ground = true ↔ varsOf [t] = [] := by
  simp only [varsOf, Tm.nodesL, List.append_nil, addV_nil, Tm.ground, List.all_eq_true]
  simp
theorem some_sizes {l : List Tm} (h : Tm.someB l = true) : Tm.sizes l ≤ 4000 := by
  simp only [Tm.someB, Bool.and_eq_true, decide_eq_true_eq] at h
  have := Tm.fews_says l (fun t _ m d => Tm.few_says t m d) _ _ h.1
  omega

theorem one_sub {W : World} {b off c : Nat} {t : Tm} {sv : Value} (h0 : W.cell? ⟨b, off, none⟩ = some (.int .i64 t.kind)) (h1 : W.cell? ⟨b, off + 1, none⟩ = some (.string t.name)) (h2 : W.cell? ⟨b, off + 2, none⟩ = some (.int .i64 t.n)) (h3 : W.cell? ⟨b, off + 3, none⟩ = some sv)
    (ht : Tm.inn W W.heap.size t sv) (hc : 1 ≤ c) : Tm.sliceIn W W.heap.size [t] (.slice (some ⟨b, off, none⟩) 1 c) := by
  refine ⟨_, c, rfl, hc, by simp, .inr ⟨b, off, rfl, World.block_lt_of_cell? _ _ h0, ?_⟩⟩
  simp only [Tm.rowIn]
  exact ⟨⟨sv, h0, h1, h2, h3, ht⟩, trivial⟩

theorem one_held {w0 W : World} {b off c : Nat} {t : Tm} {sv : Value} (h : W.cell? ⟨b, off, none⟩ = some (.int .i64 t.kind) ∧ W.cell? ⟨b, off + 1, none⟩ = some (.string t.name) ∧ W.cell? ⟨b, off + 2, none⟩ = some (.int .i64 t.n) ∧ W.cell? ⟨b, off + 3, none⟩ = some sv ∧ Tm.inn W W.heap.size t sv ∧ Below w0.heap.size w0 W)
    (hc : 1 ≤ c) : Tm.sliceIn W W.heap.size [t] (.slice (some ⟨b, off, none⟩) 1 c) := one_sub h.1 h.2.1 h.2.2.1 h.2.2.2.1 h.2.2.2.2.1 hc

theorem held_v {w0 W : World} {b off : Nat} {t : Tm} {sv : Value} (h : W.cell? ⟨b, off, none⟩ = some (.int .i64 t.kind) ∧ W.cell? ⟨b, off + 1, none⟩ = some (.string t.name) ∧ W.cell? ⟨b, off + 2, none⟩ = some (.int .i64 t.n) ∧ W.cell? ⟨b, off + 3, none⟩ = some sv ∧ Tm.inn W W.heap.size t sv ∧ Below w0.heap.size w0 W) : Below w0.heap.size w0 W := h.2.2.2.2.2

theorem rvars_one (t : Tm) (w : World) (sv : Value) (hsl : Tm.sliceIn w w.heap.size [t] sv) (hsz : t.size ≤ 1000000) :
    Calls Try.prog 16 #[sv] w fun e w' => (∃ gv cv, e = .returned (.slice gv (Tm.withs [] [t]).length cv)) ∧ Below w.heap.size w w' := by
  refine (rvars_any [t] w _ sv (Nat.le_refl _) hsl (by simp [Tm.sizes]; omega)).mono ?_
  rintro e w' ⟨v, rfl, ⟨gv, cv, rfl, _⟩, hb⟩
  exact ⟨⟨gv, cv, rfl⟩, hb⟩

/-- What is held while a term is asked for its variables. -/
theorem VSt.step {w0 W W' : World} {b off : Nat} {t : Tm} {sv : Value} (hb : Below W.heap.size W W')
    (h : W.cell? ⟨b, off, none⟩ = some (.int .i64 t.kind) ∧ W.cell? ⟨b, off + 1, none⟩ = some (.string t.name) ∧ W.cell? ⟨b, off + 2, none⟩ = some (.int .i64 t.n) ∧ W.cell? ⟨b, off + 3, none⟩ = some sv ∧ Tm.inn W W.heap.size t sv ∧ Below w0.heap.size w0 W) :
    W'.cell? ⟨b, off, none⟩ = some (.int .i64 t.kind) ∧ W'.cell? ⟨b, off + 1, none⟩ = some (.string t.name) ∧ W'.cell? ⟨b, off + 2, none⟩ = some (.int .i64 t.n) ∧ W'.cell? ⟨b, off + 3, none⟩ = some sv ∧ Tm.inn W' W'.heap.size t sv ∧ Below w0.heap.size w0 W' := by
  obtain ⟨h0, h1, h2, h3, h4, h5⟩ := h
  have hlt := World.block_lt_of_cell? _ _ h0
  exact ⟨(hb.cell (p := ⟨b, off, none⟩) hlt).trans h0, (hb.cell (p := ⟨b, off + 1, none⟩) hlt).trans h1, (hb.cell (p := ⟨b, off + 2, none⟩) hlt).trans h2, (hb.cell (p := ⟨b, off + 3, none⟩) hlt).trans h3, Tm.inn_mono (Tm.inn_below h4 hb (Nat.le_refl _)) hb.size, h5.trans (hb.mono h5.size)⟩

set_option maxRecDepth 100000 in
set_option maxHeartbeats 8000000 in
theorem vars_any (l : List Tm) (w : World) (sv : Value) (hsl : Tm.sliceIn w w.heap.size l sv) :
    Calls Try.prog 4 #[sv] w fun e w' => e = .returned (.bool true) ∧ Below w.heap.size w w' := by
  obtain ⟨g, cap, rfl, hcap, hlen, _⟩ := id hsl
  have HSL := Lib.hid hsl
  clear hsl
  go_enter Try.func4, Try.ntmps4
  cases hs : Tm.someB l with
  | false =>
    have HS := Lib.hid hs
    clear hs
    go_wp2_with fail
    refine (some_any l w _ _ (Nat.le_refl _) HSL.out).mono ?_
    rintro e w1 ⟨rfl, hb1⟩
    rw [HS.out]
    go_wp2_with fail
    refine (knows_any w1).mono ?_
    rintro e w2 ⟨rfl, hb2⟩
    go_wp2_with fail
    go_ret
    exact ⟨rfl, hb1.trans (hb2.mono hb1.size)⟩
  | true =>
    have HS := Lib.hid hs
    have hsz := some_sizes hs
    clear hs
    go_wp2_with fail
    refine (some_any l w _ _ (Nat.le_refl _) HSL.out).mono ?_
    rintro e w1 ⟨rfl, hb1⟩
    rw [HS.out]
    go_wp2_with fail
    have HB1 := Lib.hid hb1
    refine (plain_any (.mk 0 ByteArray.empty 0 l) w1 _ _ (Nat.le_refl _) (Tm.sliceIn_mono (Tm.sliceIn_below HSL.out hb1 (Nat.le_refl _)) hb1.size)).mono ?_
    simp only [Tm.args]
    rintro e w2 ⟨rfl, hb2⟩
    have HB2 := Lib.hid (hb1.trans (hb2.mono hb1.size))
    clear hb1 hb2 HB1 HS
    cases hp : Tm.plain l with
    | false =>
      clear hp
      go_wp2_with fail
      refine (knows_any w2).mono ?_
      rintro e w3 ⟨rfl, hb3⟩
      go_wp2_with fail
      go_ret
      exact ⟨rfl, HB2.out.trans (hb3.mono HB2.out.size)⟩
    | true =>
      have HP := Lib.hid hp
      clear hp
      go_wp2_with fail
      refine (rvars_any l w2 _ _ (Nat.le_refl _) (Tm.sliceIn_mono (Tm.sliceIn_below HSL.out HB2.out (Nat.le_refl _)) HB2.out.size) (by omega)).mono ?_
      rintro e w3 ⟨vw, rfl, hvw, hb3⟩
      rw [withs_vars l HP.out] at hvw
      have HVW := Lib.hid hvw
      have HB3 := Lib.hid (HB2.out.trans (hb3.mono HB2.out.size))
      clear hvw hb3 HB2
      go_wp2_with fail
      go_loopw [4] (fun i wr => ∃ k' : Nat, k' ≤ l.length ∧ i = .int .i64 k' ∧ Hid (Below w3.heap.size w3 wr)) (fun i _ => l.length - (intOf i).toNat)
      case atStart => exact ⟨0, Nat.zero_le _, rfl, Below.refl _ _⟩
      case round =>
        obtain ⟨k', hk', rfl, hb⟩ := hrel
        have HB := Lib.hid hb.out
        clear hb
        by_cases hlt : k' < l.length
        · have HBA := Lib.hid (HB3.out.trans (HB.out.mono HB3.out.size))
          obtain ⟨b, off, sv, rfl, hbB, g0, g1, g2, g3, hin'⟩ := Tm.sliceIn_get (Tm.sliceIn_below HSL.out HBA.out (Nat.le_refl _)) k' hlt
          obtain ⟨_, ga, ca, rfl, _, _, _⟩ := Tm.inn_iff.1 hin'
          have hst : wr.cell? ⟨b, off + k' * 4, none⟩ = some (.int .i64 l[k'].kind) ∧ wr.cell? ⟨b, off + k' * 4 + 1, none⟩ = some (.string l[k'].name) ∧ wr.cell? ⟨b, off + k' * 4 + 2, none⟩ = some (.int .i64 l[k'].n) ∧ wr.cell? ⟨b, off + k' * 4 + 3, none⟩ = some (.slice ga l[k'].args.length ca) ∧ Tm.inn wr wr.heap.size l[k'] (.slice ga l[k'].args.length ca) ∧ Below wr.heap.size wr wr :=
            ⟨g0, g1, g2, g3, Tm.inn_mono hin' HBA.out.size, Below.refl _ _⟩
          have hone : l[k'].size ≤ 1000000 := by have := Tm.size_mem_le (List.getElem_mem hlt); omega
          have hno : l[k'].noArgs = true := (plain_iff l).1 HP.out k' hlt
          have hg : (l[k'].ground != (((Tm.withs [] [l[k']]).length : Int) == 0)) = false := by
            rw [withs_vars [l[k']] (by simp [Tm.plain, hno])]
            have := ground_iff l[k']
            by_cases hv : varsOf [l[k']] = []
            · simp [this.2 hv, hv]
            · have hl : (varsOf [l[k']]).length ≠ 0 := fun e => hv (List.eq_nil_of_length_eq_zero e)
              have hgf : l[k'].ground = false := by
                rw [Bool.eq_false_iff]
                exact fun e => hv (this.1 e)
              rw [hgf]
              simp
              exact hv
          have HG := Lib.hid hg
          clear hg hno hin' g0 g1 g2 g3
          have hk0 : (0 : Int) ≤ (k' : Int) := Int.natCast_nonneg _
          have hk1 : (k' : Int) < (l.length : Int) := by omega
          have hk2 : (k' : Int) + 1 ≤ (cap : Int) := by omega
          have hne : ¬ cap = k' := by omega
          have hk3 : (k' : Int) ≤ (k' : Int) + 1 := by omega
          have hk4 : (0 : Int) ≤ (k' : Int) + 1 := by omega
          have hwr : IntKind.i64.wrap ((k' : Int) + 1) = (k' : Int) + 1 := by rw [IntKind.wrap_i64]; omega
          go_wp2_with fail
          go_region_held3 (fun W => W.cell? ⟨b, off + k' * 4, none⟩ = some (.int .i64 l[k'].kind) ∧ W.cell? ⟨b, off + k' * 4 + 1, none⟩ = some (.string l[k'].name) ∧ W.cell? ⟨b, off + k' * 4 + 2, none⟩ = some (.int .i64 l[k'].n) ∧ W.cell? ⟨b, off + k' * 4 + 3, none⟩ = some (.slice ga l[k'].args.length ca) ∧ Tm.inn W W.heap.size l[k'] (.slice ga l[k'].args.length ca) ∧ Below wr.heap.size wr W)
            (first | exact VSt.step ((Below.refl _ _).drew) hst | exact VSt.step (by assumption) (by assumption))
            (first
              | (go_at_call 17; refine (tground_any l[k'] _ _ (And.left (And.right (And.right (And.right (And.right (by assumption)))))) hone).mono ?_; rintro e w' ⟨rfl, hb⟩)
              | (go_at_call 16; refine (rvars_one l[k'] _ _ (one_held (by assumption) (by omega)) hone).mono ?_; rintro e w' ⟨⟨gv, cv, rfl⟩, hb⟩))
          have hgg : (!(l[k'].ground == (((Tm.withs [] [l[k']]).length : Int) == 0))) = false := HG.out
          clear hst
          have HBW := Lib.hid (held_v (w0 := wr) (t := l[k']) (by assumption))
          clear hwr hk4 hk3
          go_wp2_with fail
          · rename_i hq
            exact absurd (hgg.symm.trans hq) (by simp)
          refine ⟨⟨k' + 1, by omega, by go_num, HB.out.trans (HBW.out.mono HB.out.size)⟩, ?_⟩
          simp [intOf]
          omega
        · obtain rfl : k' = l.length := by omega
          have HBA := Lib.hid (HB3.out.trans (HB.out.mono HB3.out.size))
          go_wp2_with fail
          refine (tvars_any l wr _ (Tm.sliceIn_mono (Tm.sliceIn_below HSL.out HBA.out (Nat.le_refl _)) HBA.out.size) (by omega)).mono ?_
          rintro e w4 ⟨v4, rfl, hv4, hb4, _⟩
          have HB4 := Lib.hid (HBA.out.trans (hb4.mono HBA.out.size))
          have HV4 := Lib.hid hv4
          have hwant := Lib.hid (intsIn_mono (intsIn_below HVW.out (HB.out.trans (hb4.mono HB.out.size)) (Nat.le_refl _)) (HB.out.trans (hb4.mono HB.out.size)).size)
          clear hb4 hv4
          go_wp2_with fail
          refine (numbers_any (varsOf l) (varsOf l) w4 _ v4 vw (Nat.le_refl _) HV4.out hwant.out).mono ?_
          rintro e w5 ⟨rfl, hb5⟩
          rw [decide_eq_true rfl]
          have HB5 := Lib.hid (HB4.out.trans (hb5.mono HB4.out.size))
          clear hb5
          go_wp2_with fail
          refine (knows_any w5).mono ?_
          rintro e w6 ⟨rfl, hb6⟩
          have HB6 := Lib.hid (HB5.out.trans (hb6.mono HB5.out.size))
          clear hb6
          go_wp2_with fail
          go_ret
          exact ⟨rfl, HB6.out⟩
end Go.Proofs.Ytkmaaaednbjjkaa
