/-
  The program's Right, Apply and Flat of a list of binds; the document's Apply.
  The program's Flat of a list of binds.
-/
import Derived.Test.YtgnbjhiafjpokaaEnds
import Derived.Test.YtgnbjhiafjpokaaRBec
namespace Go.Proofs.Ytgnbjhiafjpokaa
open Go.RowKit Go.Shelf Go.Maps

set_option maxHeartbeats 1000000 in
theorem sright_any (l : List Bd) (w : World) (sv : Value) (hsl : bdsIn w w.heap.size l sv) (hmax : l.length ≤ 1000) (hsz : szB l ≤ 1000000) :
    Calls Try.prog 20 #[sv] w fun e w' => RightPost l w e w' := by
  obtain ⟨σ, hσ⟩ : ∃ σ, RightL l → Sol l σ := by
    by_cases h : RightL l
    · obtain ⟨σ, h2⟩ := sol_of h
      exact ⟨σ, fun _ => h2⟩
    · exact ⟨vTm, fun h' => absurd h' h⟩
  have he := ends_any l σ hσ w sv hsl hmax hsz
  obtain ⟨g, cap, rfl, hcap, hlen, _, _⟩ := hsl
  have HE := Lib.hid he
  clear he hσ
  go_enter Try.func20, Try.ntmps20
  go_wp2_with fail
  refine HE.out.mono ?_
  rintro e w1 ⟨hb1, ⟨hno, rfl⟩ | ⟨hr, m, n, dom, rfl, _, _⟩⟩
  · have HNO := Lib.hid hno
    clear hno
    go_wp2_with fail
    go_ret
    exact RightPost.no rfl HNO.out hb1
  · have HR := Lib.hid hr
    clear hr
    go_wp2_with fail
    go_ret
    exact ⟨true, rfl, ⟨(fun _ => HR.out), (fun _ => rfl)⟩, hb1⟩

/-- What becomes of a term, and the error. -/
def AppSpec (l : List Bd) (σ : Int → Tm) (t X : Tm) (E : Int) : Prop :=
  (¬ (RightL l ∧ t.right = true) ∧ X = kZ ∧ E = 1) ∨ ((RightL l ∧ t.right = true) ∧ (((t.bnd σ).right = false ∧ X = kZ ∧ E = 3) ∨ ((t.bnd σ).right = true ∧ X = t.bnd σ ∧ E = 0)))
def AppPost (l : List Bd) (σ : Int → Tm) (t : Tm) (w : World) (e : Ending) (w' : World) : Prop :=
  ∃ X E g c, e = .returned (.tuple #[.agg #[.int .i64 X.kind, .string X.name, .int .i64 X.n, .slice g X.args.length c], .int .i64 E]) ∧ Tm.inn w' w'.heap.size X (.slice g X.args.length c) ∧ Below w.heap.size w w' ∧ AppSpec l σ t X E
theorem inn_kZ (w : World) (B : Nat) : Tm.inn w B kZ (.slice none 0 0) := Tm.inn_mk.2 ⟨⟨by decide, Nat.zero_le _, by decide⟩, none, 0, rfl, Nat.le_refl _, Nat.zero_le _, .inl rfl⟩
theorem AppPost.zero {l : List Bd} {σ : Int → Tm} {t : Tm} {w w' : World} {e : Ending} {E : Int} (he : e = .returned (.tuple #[.agg #[.int .i64 0, .string ⟨#[]⟩, .int .i64 0, .slice none 0 0], .int .i64 E])) (hb : Below w.heap.size w w') (hs : AppSpec l σ t kZ E) : AppPost l σ t w e w' :=
  ⟨kZ, E, none, 0, he, inn_kZ _ _, hb, hs⟩

set_option maxRecDepth 100000 in
set_option maxHeartbeats 2000000 in
theorem apply_any (l : List Bd) (σ : Int → Tm) (hσ : RightL l → Sol l σ) (t : Tm) (w : World) (svl sv : Value) (hsl : bdsIn w w.heap.size l svl) (hin : Tm.inn w w.heap.size t sv) (hmax : l.length ≤ 1000) (hsz : szB l ≤ 1000000) (hst : t.size ≤ 1000000) :
    Calls Try.prog 23 #[svl, .agg #[.int .i64 t.kind, .string t.name, .int .i64 t.n, sv]] w fun e w' => AppPost l σ t w e w' := by
  obtain ⟨gl, cl, rfl, _, _, _, _⟩ := id hsl
  obtain ⟨_, g, cap, rfl, hcap, hlen, _⟩ := Tm.inn_iff.1 hin
  have hb0 := al2 w (.cells #[.int .i64 t.kind, .string t.name, .int .i64 t.n, .slice g t.args.length cap] 27) (.cells #[.int .i64 0, .string ⟨#[]⟩, .int .i64 0, .slice none 0 0] 27)
  have he := ends_any l σ hσ _ _ (bdsIn_held hsl hb0) hmax hsz
  have hin0 := Tm.inn_mono (Tm.inn_below hin hb0 (Nat.le_refl _)) hb0.size
  have HE := Lib.hid he
  have HB0 := Lib.hid hb0
  have HIN0 := Lib.hid hin0
  have HS := Lib.hid hσ
  clear he hb0 hin0 hσ hsl hin
  go_enter Try.func23, Try.ntmps23
  go_wp2_with fail
  refine HE.out.mono ?_
  rintro e w1 ⟨hb1, hpost⟩
  have hs1 : w.heap.size + 2 ≤ w1.heap.size := by have := hb1.size; simpa using this
  have hx1 : w1.heap[w.heap.size]? = some (Obj.cells #[.int .i64 t.kind, .string t.name, .int .i64 t.n, .slice g t.args.length cap] 27 (0, 0)) := (hb1.block _ (by simp; omega)).trans ((Below.heap_alloc _ _ _ (by simp)).trans (newBlk _ _ _ rfl))
  have hr1 : w1.heap[w.heap.size + 1]? = some (Obj.cells #[.int .i64 0, .string ⟨#[]⟩, .int .i64 0, .slice none 0 0] 27 (0, 0)) := (hb1.block _ (by simp)).trans (newBlk _ _ _ (by simp))
  have hin1 := Tm.inn_below HIN0.out hb1 (Nat.le_refl _)
  have HB1 := Lib.hid (HB0.out.trans (hb1.mono (by simp; omega)))
  have HIN1 := Lib.hid hin1
  have HX1 := Lib.hid hx1
  have HR1 := Lib.hid hr1
  obtain ⟨⟨b0, b1, b2, b3⟩, _⟩ := row4 hx1
  obtain ⟨⟨c0, c1, c2, c3⟩, f0, f1, f2, f3⟩ := row4 hr1
  clear hb1 hx1 hr1 hin1 HE
  rcases hpost with ⟨hno, rfl⟩ | ⟨hr, m, n, dom, rfl, hM, hdom⟩
  · have HNO := Lib.hid hno
    clear hno
    go_wp2_with fail
    refine bodyPost_ret (v := .tuple #[.agg #[.int .i64 0, .string ⟨#[]⟩, .int .i64 0, .slice none 0 0], .int .i64 1]) (by simp [results, Try.results23, go_sem, c0, c1, c2, c3]) rfl ?_
    exact AppPost.zero rfl (set4_below HB1.out (by omega) _ _ _ _) (.inl ⟨fun h => HNO.out h.1, rfl, rfl⟩)
  · have HR := Lib.hid hr
    have HM := Lib.hid hM
    have HD := Lib.hid hdom
    clear hr hM hdom
    go_wp2_with fail
    refine (tright_any t w1 _ (Tm.inn_mono HIN1.out (by simp; omega)) hst).mono ?_
    rintro e w2 ⟨rfl, hb2⟩
    have hs2 := hb2.size
    have hx2 := (hb2.block _ (by omega)).trans HX1.out
    have hr2 := (hb2.block _ (by omega)).trans HR1.out
    have HB2 := Lib.hid (HB1.out.trans (hb2.mono (by omega)))
    have HIN2 := Lib.hid (Tm.inn_below HIN1.out hb2 (by simp; omega))
    have HM2 := Lib.hid (HM.out.next hb2 (by simp; omega))
    have HR2 := Lib.hid hr2
    obtain ⟨⟨d0, d1, d2, d3⟩, _⟩ := row4 hx2
    obtain ⟨⟨e0, e1, e2, e3⟩, k0, k1, k2, k3⟩ := row4 hr2
    clear hb2 hx2 hr2 HM b0 b1 b2 b3 c0 c1 c2 c3 f0 f1 f2 f3
    cases hq : t.right with
    | false =>
      have HQ := Lib.hid hq
      clear hq
      go_wp2_with fail
      refine bodyPost_ret (v := .tuple #[.agg #[.int .i64 0, .string ⟨#[]⟩, .int .i64 0, .slice none 0 0], .int .i64 1]) (by simp [results, Try.results23, go_sem, e0, e1, e2, e3]) rfl ?_
      exact AppPost.zero rfl (set4_below HB2.out (by omega) _ _ _ _) (.inl ⟨(fun h => by have := h.2; rw [HQ.out] at this; cases this), rfl, rfl⟩)
    | true =>
      have HQ := Lib.hid hq
      clear hq
      go_wp2_with fail
      refine (become_any l σ (HS.out HR.out) dom HD.out m n _ t w2 _ HM2.out (by simp; omega) (right_fair HQ.out) HIN2.out).mono ?_
      rintro e w3 ⟨hb3, hpost⟩
      have hs3 := hb3.size
      have hr3 := (hb3.block _ (by omega)).trans HR2.out
      have HB3 := Lib.hid (HB2.out.trans (hb3.mono (by omega)))
      obtain ⟨⟨q0, q1, q2, q3⟩, p0, p1, p2, p3⟩ := row4 hr3
      clear hb3 hr3 d0 d1 d2 d3 e0 e1 e2 e3 k0 k1 k2 k3
      obtain ⟨u, hu⟩ : ∃ u, t.bnd σ = u := ⟨_, rfl⟩
      rw [hu] at hpost
      have HU := Lib.hid hu
      clear hu
      rcases hpost with ⟨hf, rfl⟩ | ⟨hf, gu, cu, rfl, hpu⟩
      · have HF := Lib.hid hf
        clear hf
        go_wp2_with fail
        refine bodyPost_ret (v := .tuple #[.agg #[.int .i64 0, .string ⟨#[]⟩, .int .i64 0, .slice none 0 0], .int .i64 3]) (by simp [results, Try.results23, go_sem, q0, q1, q2, q3]) rfl ?_
        exact AppPost.zero rfl (set4_below HB3.out (by omega) _ _ _ _) (.inr ⟨⟨HR.out, HQ.out⟩, .inl ⟨by rw [HU.out]; exact HF.out, rfl, rfl⟩⟩)
      · have HF := Lib.hid hf
        have HPU := Lib.hid hpu
        clear hf hpu
        go_wp2_with fail
        refine bodyPost_ret (v := .tuple #[.agg #[.int .i64 u.kind, .string u.name, .int .i64 u.n, .slice gu u.args.length cu], .int .i64 0]) (by simp [results, Try.results23, go_sem, q0, q1, q2, q3]) rfl ?_
        refine ⟨u, 0, gu, cu, rfl, ?_, set4_below HB3.out (by omega) _ _ _ _, .inr ⟨⟨HR.out, HQ.out⟩, .inr ⟨by rw [HU.out]; exact HF.out, HU.out.symm, rfl⟩⟩⟩
        refine Tm.inn_of_P (ok := fun b => w2.heap.size ≤ b ∧ b < w3.heap.size) (fun b hb' => by simp; omega) _ _ (Tm.innP_same (fun b hb' => hb') (fun b o v hb' hc => ?_) _ _ HPU.out)
        have hne : b ≠ w.heap.size + 1 := by have := hb'.1; omega
        exact (World.cell?_of_block (a := ⟨b, o, none⟩) (set4_blk w3 _ _ _ _ hne)).trans hc

/-- What the document's Apply tells, of what is right. -/
def RAppPost (u : Tm) (w : World) (e : Ending) (w' : World) : Prop :=
  ∃ X E g c, e = .returned (.tuple #[.agg #[.int .i64 X.kind, .string X.name, .int .i64 X.n, .slice g X.args.length c], .int .i64 E]) ∧ Tm.inn w' w'.heap.size X (.slice g X.args.length c) ∧ Below w.heap.size w w' ∧ ((u.right = false ∧ X = kZ ∧ E = 3) ∨ (u.right = true ∧ X = u ∧ E = 0))
theorem fit_right {u : Tm} (h : u.fair = true) : fitB u 3000 100 = u.right := by
  unfold fitB Tm.right
  rw [h, Bool.true_and, Bool.eq_iff_iff]
  simp only [Bool.and_eq_true, decide_eq_true_eq]
  omega

set_option maxRecDepth 100000 in
set_option maxHeartbeats 2000000 in
theorem rapply_any (l : List Bd) (σ : Int → Tm) (hl : RightL l) (hσ : Sol l σ) (t : Tm) (ht : t.fair = true) (w : World) (svl sv : Value) (hsl : bdsIn w w.heap.size l svl) (hin : Tm.inn w w.heap.size t sv) (hmax : l.length ≤ 1000) :
    Calls Try.prog 25 #[svl, .agg #[.int .i64 t.kind, .string t.name, .int .i64 t.n, sv]] w fun e w' => RAppPost (t.bnd σ) w e w' := by
  obtain ⟨gl, cl, rfl, _, _, _, _⟩ := id hsl
  obtain ⟨_, g, cap, rfl, hcap, hlen, _⟩ := Tm.inn_iff.1 hin
  have hb0 := al2 w (.cells #[.int .i64 t.kind, .string t.name, .int .i64 t.n, .slice g t.args.length cap] 27) (.cells #[.int .i64 0, .string ⟨#[]⟩, .int .i64 0, .slice none 0 0] 27)
  have hin0 := Tm.inn_mono (Tm.inn_below hin hb0 (Nat.le_refl _)) hb0.size
  obtain ⟨hok, r, hr⟩ := hl
  obtain ⟨M, hM⟩ := bound_of r l.length
  have he := rbecome_any l (by omega) hok σ hσ r hr M t (fun v _ q hq => hM q (place_some hq).1) ht 3000 100 _ _ _ (by omega) (by omega) (by omega) (by omega) (bdsIn_held hsl hb0) hin0
  have hfr := fit_right (hσ.fairT ht)
  obtain ⟨u, hu⟩ : ∃ u, t.bnd σ = u := ⟨_, rfl⟩
  rw [hu] at he hfr ⊢
  have HE := Lib.hid he
  have HB0 := Lib.hid hb0
  have HFR := Lib.hid hfr
  clear he hb0 hin0 hσ hsl hin hok hr hM hu hfr ht
  go_enter Try.func25, Try.ntmps25
  go_wp2_with fail
  refine HE.out.mono ?_
  rintro e w1 ⟨hb1, hpost⟩
  rw [HFR.out] at hpost
  have hs1 : w.heap.size + 2 ≤ w1.heap.size := by have := hb1.size; simpa using this
  have hl1 : w.heap.size + 1 < w1.heap.size := by omega
  have hr1 : w1.heap[w.heap.size + 1]? = some (Obj.cells #[.int .i64 0, .string ⟨#[]⟩, .int .i64 0, .slice none 0 0] 27 (0, 0)) := (hb1.block _ (by simp)).trans (newBlk _ _ _ (by simp))
  have HB1 := Lib.hid (HB0.out.trans (hb1.mono (by simp; omega)))
  obtain ⟨⟨c0, c1, c2, c3⟩, f0, f1, f2, f3⟩ := row4 hr1
  have hbs : (w.alloc (.cells #[.int .i64 t.kind, .string t.name, .int .i64 t.n, .slice g t.args.length cap] 27)).heap.size + 1 = w.heap.size + 2 := by simp
  clear hb1 hr1 HE hbs
  rcases hpost with ⟨hf, rfl⟩ | ⟨hf, gu, cu, rfl, hpu⟩
  · have HF := Lib.hid hf
    clear hf
    go_wp2_with fail
    refine bodyPost_ret (v := .tuple #[.agg #[.int .i64 0, .string ⟨#[]⟩, .int .i64 0, .slice none 0 0], .int .i64 3]) (by simp [results, Try.results25, go_sem, c0, c1, c2, c3, hl1]) rfl ?_
    exact ⟨kZ, 3, none, 0, rfl, inn_kZ _ _, (set4_below HB1.out (by omega) _ _ _ _).alloc (by rw [set4_size]; omega) _, .inl ⟨HF.out, rfl, rfl⟩⟩
  · have HF := Lib.hid hf
    have HPU := Lib.hid hpu
    have hup : ((u.size : Int) == 0) = false := by have := u.size_pos; simp; omega
    clear hf hpu
    go_wp2_with fail
    refine bodyPost_ret (v := .tuple #[.agg #[.int .i64 u.kind, .string u.name, .int .i64 u.n, .slice gu u.args.length cu], .int .i64 0]) (by simp [results, Try.results25, go_sem, c0, c1, c2, c3, hl1]) rfl ?_
    refine ⟨u, 0, gu, cu, rfl, ?_, (set4_below HB1.out (by omega) _ _ _ _).alloc (by rw [set4_size]; omega) _, .inr ⟨HF.out, rfl, rfl⟩⟩
    have hfin : Tm.inn (set4 w1 (w.heap.size + 1) (.int .i64 u.kind) (.string u.name) (.int .i64 u.n) (.slice gu u.args.length cu)) w1.heap.size u (.slice gu u.args.length cu) :=
      Tm.inn_of_P (ok := fun b => w.heap.size + 2 ≤ b ∧ b < w1.heap.size) (fun b hb' => hb'.2) _ _ (Tm.innP_same (fun b hb' => ⟨by have := hb'.1; simp at this; omega, hb'.2⟩) (fun b o v hb' hc => by
        have hne : b ≠ w.heap.size + 1 := by have := hb'.1; simp at this; omega
        exact (World.cell?_of_block (a := ⟨b, o, none⟩) (set4_blk w1 _ _ _ _ hne)).trans hc) _ _ HPU.out)
    exact Tm.inn_mono (Tm.inn_below hfin ((Below.refl _ _).alloc (Nat.le_refl _) _) (by rw [set4_size]; exact Nat.le_refl _)) (by simp)
end Go.Proofs.Ytgnbjhiafjpokaa

namespace Go.Proofs.Ytgnbjhiafjpokaa
open Go.RowKit Go.Shelf Go.Maps

/-- The cells of a row of binds. -/
def cellsB (w : World) (ok : Nat → Prop) : List Bd → List Value → Prop
  | [], xs => xs = []
  | x :: r, xs => ∃ sv xs', xs = .int .i64 x.v :: .int .i64 x.t.kind :: .string x.t.name :: .int .i64 x.t.n :: sv :: xs' ∧ Tm.innP w ok x.t sv ∧ cellsB w ok r xs'
theorem cellsB_same {w w' : World} {ok ok' : Nat → Prop} (hB : ∀ b, ok b → ok' b) (hc : ∀ b o v, ok b → w.cell? ⟨b, o, none⟩ = some v → w'.cell? ⟨b, o, none⟩ = some v) :
    ∀ (l : List Bd) (xs : List Value), cellsB w ok l xs → cellsB w' ok' l xs
  | [], _, h => h
  | x :: r, _, ⟨sv, xs', h1, h2, h3⟩ => ⟨sv, xs', h1, Tm.innP_same hB hc x.t sv h2, cellsB_same hB hc r xs' h3⟩
theorem cellsB_snoc {w : World} {ok : Nat → Prop} {x : Bd} {sv : Value} (ht : Tm.innP w ok x.t sv) : ∀ (l : List Bd) (xs : List Value), cellsB w ok l xs →
    cellsB w ok (l ++ [x]) (xs ++ [.int .i64 x.v, .int .i64 x.t.kind, .string x.t.name, .int .i64 x.t.n, sv])
  | [], _, h => by
    simp only [cellsB] at h
    subst h
    exact ⟨sv, [], rfl, ht, rfl⟩
  | u :: r, _, ⟨sv', xs', h1, h2, h3⟩ => ⟨sv', _, by rw [h1]; rfl, h2, cellsB_snoc ht r xs' h3⟩
theorem rowB_of_cells {w : World} {ok : Nat → Prop} {B b : Nat} (hB : ∀ b, ok b → b < B) : ∀ (l : List Bd) (xs : List Value) (off : Nat), cellsB w ok l xs → (∀ j u, xs[j]? = some u → w.cell? ⟨b, off + j, none⟩ = some u) → ∀ i (h : i < l.length), bdAt w B b (off + i * 5) l[i]
  | [], _, _, _, _, i, h => absurd h (Nat.not_lt_zero _)
  | x :: r, _, off, ⟨sv, xs', h1, h2, h3⟩, hc, i, h => by
    subst h1
    cases i with
    | zero =>
      rw [show off + 0 * 5 = off by omega]
      exact (⟨sv, hc 0 _ rfl, hc 1 _ rfl, hc 2 _ rfl, hc 3 _ rfl, hc 4 _ rfl, Tm.inn_of_P hB _ _ h2⟩ : bdAt w B b off x)
    | succ i =>
      have := rowB_of_cells hB r xs' (off + 5) h3 (fun j u hj => by
        have := hc (j + 5) u (by simpa using hj)
        rwa [show off + (j + 5) = off + 5 + j by omega] at this) i (by simpa using h)
      rw [show off + (i + 1) * 5 = off + 5 + i * 5 by omega]
      exact this
theorem bds_of_owns {w : World} {base : Nat} {e : TypeId} {g : Option Addr} {c : Nat} {l : List Bd} {xs : List Value} {ok : Nat → Prop} (h : w.ownsRow base e 5 (.slice g l.length c) l.length xs) (hc : cellsB w ok l xs) (hlen : l.length ≤ 2199023255552)
    (hB : ∀ b, ok b → b < w.heap.size) (hwf : ∀ x ∈ l, (Lit.int .i64 x.v).wf = true) : bdsIn w w.heap.size l (.slice g l.length c) := by
  rcases h.2 with ⟨e1, h0⟩ | ⟨b, cap, cur, e1, _, hg, hn, _⟩
  · injection e1 with e2 e3 e4
    exact ⟨g, c, rfl, by omega, hlen, hwf, .inl (List.eq_nil_of_length_eq_zero h0)⟩
  · injection e1 with e2 e3 e4
    refine ⟨g, c, rfl, by omega, hlen, hwf, .inr ⟨b, 0, e2, (Array.getElem?_eq_some_iff.1 hg).1, ?_⟩⟩
    refine rowB_of_cells hB l xs 0 hc fun j u hj => ?_
    have := h.cells (g := b) (by rw [e2]; rfl) j u hj
    simpa [Addr.add_lit] using this
/-- One bind more in a row that a call gathers. -/
theorem brow_step {wr w2 w3 : World} {lo : Nat} {e : TypeId} {v v' : Value} {k : Nat} {l : List Bd} {x : Bd} {xs : List Value} {sv : Value} {tmp : Obj}
    (hrow : wr.ownsRow lo e 5 v k xs) (hcells : cellsB wr (okRow lo wr v) l xs) (hb : Below wr.heap.size wr w2) (hlo : lo ≤ wr.heap.size)
    (ht : Tm.innP w2 (fun b => wr.heap.size ≤ b ∧ b < w2.heap.size) x.t sv) (hgrow : (w2.alloc tmp).grownBy w3 v.ownBlock)
    (hsep : v'.ownBlock = v.ownBlock ∨ ∀ b, v'.ownBlock = some b → (w2.alloc tmp).heap.size ≤ b) :
    cellsB w3 (okRow lo w3 v') (l ++ [x]) (xs ++ [.int .i64 x.v, .int .i64 x.t.kind, .string x.t.name, .int .i64 x.t.n, sv]) := by
  have hs3 : w2.heap.size + 1 ≤ w3.heap.size := by simpa using hgrow.size
  have hs2 := hb.size
  have cell3 : ∀ b o u, b < w2.heap.size → v.ownBlock ≠ some b → w2.cell? ⟨b, o, none⟩ = some u → w3.cell? ⟨b, o, none⟩ = some u := fun b o u hlt hne hc =>
    hgrow.cell (a := ⟨b, o, none⟩) (by rw [World.cell?_alloc_lt _ _ _ (by exact hlt)]; exact hc) (fun e => hne e.symm)
  have sep : ∀ b, b < w2.heap.size → v.ownBlock ≠ some b → v'.ownBlock ≠ some b := fun b hlt hne => by
    rcases hsep with h | h
    · rw [h]; exact hne
    · intro e
      have := h b e
      simp at this
      omega
  refine cellsB_snoc (Tm.innP_same (fun b hb' => ?_) (fun b o u hb' hc => ?_) x.t sv ht) l xs (cellsB_same (fun b hb' => ?_) (fun b o u hb' hc => ?_) l xs hcells)
  · have hne : v.ownBlock ≠ some b := fun e => by have := (hrow.lt b e).2; omega
    exact ⟨by omega, by omega, sep b hb'.2 hne⟩
  · have hne : v.ownBlock ≠ some b := fun e => by have := (hrow.lt b e).2; omega
    exact cell3 b o u hb'.2 hne hc
  · exact ⟨hb'.1, by have := hb'.2.1; omega, sep b (by have := hb'.2.1; omega) hb'.2.2⟩
  · exact cell3 b o u (by have := hb'.2.1; omega) hb'.2.2 ((hb.cell (p := ⟨b, o, none⟩) hb'.2.1).trans hc)
theorem one5 {a b d : Int} {s : ByteArray} {g : Option Addr} {m c : Nat} : ∀ u ∈ [Value.int .i64 a, .int .i64 b, .string s, .int .i64 d, .slice g m c], u.oneCell' = true := by
  intro u hu
  simp at hu
  rcases hu with rfl | rfl | rfl | rfl | rfl <;> rfl
theorem news5 {w : World} {a b c d e : Value} {t : TypeId} (H : Nat) (hH : w.heap.size = H) : ∀ (j : Nat) (u : Value), [a, b, c, d, e][j]? = some u → (w.alloc (.cells #[a, b, c, d, e] t)).cell? ((⟨H, 0, none⟩ : Addr).add j) = some u := by
  subst hH
  intro j u hj
  rw [Addr.add_lit]
  simp only [Nat.zero_add]
  rw [World.cell?_alloc_new]
  simpa using hj
theorem flat_snoc {σ : Int → Tm} {l : List Bd} {k : Nat} (h : k < l.length) : flatL σ (l.take (k + 1)) = flatL σ (l.take k) ++ [⟨l[k].v, l[k].t.bnd σ⟩] := by
  rw [List.take_succ_eq_append_getElem h]
  simp only [flatL, List.map_append, List.map_cons, List.map_nil]

def FlatSpec (l : List Bd) (σ : Int → Tm) (F : List Bd) (E : Int) : Prop :=
  (¬ RightL l ∧ F = [] ∧ E = 1) ∨ (RightL l ∧ ((∃ i, ∃ h : i < l.length, (l[i].t.bnd σ).right = false) ∧ F = [] ∧ E = 3)) ∨ (RightL l ∧ (∀ i (h : i < l.length), (l[i].t.bnd σ).right = true) ∧ F = flatL σ l ∧ E = 0)
def FlatPost (l : List Bd) (σ : Int → Tm) (w : World) (e : Ending) (w' : World) : Prop :=
  ∃ F E g c, e = .returned (.tuple #[.slice g F.length c, .int .i64 E]) ∧ bdsIn w' w'.heap.size F (.slice g F.length c) ∧ Below w.heap.size w w' ∧ FlatSpec l σ F E
theorem bds_nil (w : World) (B : Nat) : bdsIn w B [] (.slice none 0 0) := ⟨none, 0, rfl, by simp, by simp, by simp, .inl rfl⟩

set_option maxRecDepth 100000 in
set_option maxHeartbeats 4000000 in
theorem flat_any (l : List Bd) (σ : Int → Tm) (hσ : RightL l → Sol l σ) (w : World) (sv : Value) (hsl : bdsIn w w.heap.size l sv) (hmax : l.length ≤ 1000) (hsz : szB l ≤ 1000000) :
    Calls Try.prog 26 #[sv] w fun e w' => FlatPost l σ w e w' := by
  have he := ends_any l σ hσ w _ hsl hmax hsz
  have hsl0 := hsl
  obtain ⟨g, cap, rfl, hcap, hlen, hwf, _⟩ := hsl0
  have HSL := Lib.hid hsl
  have HE := Lib.hid he
  have HS := Lib.hid hσ
  have HWF := Lib.hid hwf
  clear he hsl hσ hwf
  obtain ⟨i0, hi, hz0, hz1, hz2⟩ := info_parts Try.infoBd
  go_enter Try.func26, Try.ntmps26
  go_wp2_with fail
  refine HE.out.mono ?_
  rintro e w1 ⟨hb1, ⟨hno, rfl⟩ | ⟨hr, m, n, dom, rfl, hM, hdom⟩⟩
  · have HNO := Lib.hid hno
    clear hno
    go_wp2_with fail
    go_ret2
    exact ⟨[], 1, none, 0, rfl, bds_nil _ _, hb1, .inl ⟨HNO.out, rfl, rfl⟩⟩
  · have HR := Lib.hid hr
    have HM := Lib.hid hM
    have HD := Lib.hid hdom
    have HB1 := Lib.hid hb1
    have hs1 := hb1.size
    clear hr hM hdom hb1 HE
    go_wp2_with fail
    go_loopw [6, 8, 9, 10, 20] (fun v _ _ _ ii wr => ∃ k : Nat, k ≤ l.length ∧ ii = .int .i64 k ∧ Hid (∀ j (h : j < l.length), j < k → (l[j].t.bnd σ).right = true) ∧ Hid (∃ xs, wr.ownsRow w1.heap.size 33 5 v k xs ∧ cellsB wr (okRow w1.heap.size wr v) (flatL σ (l.take k)) xs) ∧ Hid (Below w1.heap.size w1 wr)) (fun _ _ _ _ ii _ => l.length - (intOf ii).toNat)
    case atStart => exact ⟨0, Nat.zero_le _, rfl, fun j _ h => by omega, ⟨[], World.ownsRow_nil _ _ _ _, by simp [flatL, cellsB]⟩, Below.refl _ _⟩
    case round =>
      obtain ⟨k, hk, rfl, hp, hrow, hb⟩ := hrel
      have HROW := Lib.hid hrow.out
      have HB := Lib.hid hb.out
      have hbs := hb.out.size
      clear hrow hb
      by_cases hlt : k < l.length
      · obtain ⟨b, off, sv, hg, hbB, g0, g1, g2, g3, g4, hin'⟩ := bdsIn_get (bdsIn_below HSL.out (HB1.out.trans (HB.out.mono hs1)) (Nat.le_refl _)) k hlt
        subst hg
        obtain ⟨ga, capa, rfl⟩ := inn_slice hin'
        have hal : Below wr.heap.size wr (wr.alloc (.cells #[.int .i64 l[k].v, .int .i64 l[k].t.kind, .string l[k].t.name, .int .i64 l[k].t.n, .slice ga l[k].t.args.length capa] 33)) := (Below.refl _ _).alloc (Nat.le_refl _) _
        have hM3 := (HM.out.next HB.out (by omega)).next hal (by omega)
        have hfair := right_fair (HR.out.1 k hlt).2.2.2
        have hbec := become_any l σ (HS.out HR.out) dom HD.out m n w.heap.size l[k].t _ _ hM3 (by simp; omega) hfair (Tm.inn_below hin' hal (by omega))
        have HBEC := Lib.hid hbec
        have HAL := Lib.hid hal
        have HFS := Lib.hid (flat_snoc (σ := σ) hlt)
        obtain ⟨u, hu⟩ : ∃ u, l[k].t.bnd σ = u := ⟨_, rfl⟩
        rw [hu] at HBEC HFS
        have HU := Lib.hid hu
        clear hin' hal hM3 hfair hbec hu
        go_wp2_with fail
        refine HBEC.out.mono ?_
        rintro e w3 ⟨hb3, hpost⟩
        have hs3 : wr.heap.size + 1 ≤ w3.heap.size := by have := hb3.size; simpa using this
        have hx3 : w3.heap[wr.heap.size]? = some (Obj.cells #[.int .i64 l[k].v, .int .i64 l[k].t.kind, .string l[k].t.name, .int .i64 l[k].t.n, .slice ga l[k].t.args.length capa] 33 (0, 0)) := (hb3.block _ (by simp)).trans (newBlk _ _ _ rfl)
        have hl3 : wr.heap.size < w3.heap.size := by omega
        obtain ⟨⟨d0, d1, d2, d3, d4⟩, _⟩ := row5 hx3
        have HB3 := Lib.hid (HAL.out.trans (hb3.mono (by simp)))
        clear hb3 hx3 HBEC g0 g1 g2 g3 g4
        rcases hpost with ⟨hf, rfl⟩ | ⟨hf, gu, cu, rfl, hpu⟩
        · have HF := Lib.hid hf
          clear hf
          go_wp2_with fail
          go_ret2
          exact ⟨[], 3, none, 0, rfl, bds_nil _ _, (HB1.out.trans ((HB.out.trans (HB3.out.mono hbs)).mono hs1)).alloc (by omega) _, .inr (.inl ⟨HR.out, ⟨k, hlt, by rw [HU.out]; exact HF.out⟩, rfl, rfl⟩)⟩
        · have HF := Lib.hid hf
          have HPU := Lib.hid hpu
          obtain ⟨xs, hown, hcells⟩ := HROW.out
          have HOWN := Lib.hid hown
          have HCELLS := Lib.hid hcells
          have HOWN3 := Lib.hid (ownsRow_below hown HB3.out)
          clear hf hpu hown hcells HROW
          go_wp2_with (at_builtin; refine wpList_append_sep _ rfl _ _ 22 rfl w1.heap.size 33 i0 _ 5 64 Try.underlying22 hi hz0 hz1 hz2 rfl (by decide) u6 k xs rfl ((HOWN3.out.alloc _).alloc _) ⟨w3.heap.size + 1, 0, none⟩ 1 1 [.int .i64 l[k].v, .int .i64 u.kind, .string u.name, .int .i64 u.n, .slice gu u.args.length cu] rfl (by decide) rfl (news5 _ (by simp)) one5 (by unfold maxLen; omega) (by omega) (by simp; omega) ?_; intro v' w5 hown5 hgrow hsep)
          go_roundw
          case rel =>
            have hb4 : Below wr.heap.size wr (w3.alloc (.cells #[.int .i64 u.kind, .string u.name, .int .i64 u.n, .slice gu u.args.length cu] 27)) := HB3.out.alloc (by omega) _
            refine ⟨k + 1, by omega, by go_num, fun j hj hjk => ?_, ⟨_, hown5, ?_⟩, (((HB.out.trans (HB3.out.mono hbs)).alloc (by omega) _).alloc (by simp; omega) _).grown hgrow (by simp; omega) (fun j e => (HOWN.out.lt j e).1)⟩
            · by_cases hjj : j < k
              · exact hp.out j hj hjj
              · obtain rfl : j = k := by omega
                rw [HU.out]; exact HF.out
            · rw [HFS.out]
              exact brow_step (x := ⟨l[k].v, u⟩) HOWN.out HCELLS.out hb4 hbs (Tm.innP_same (fun b hb' => ⟨by have := hb'.1; simp at this; omega, by simp; omega⟩) (fun b o v hb' hc => by rw [World.cell?_alloc_lt _ _ _ (by exact hb'.2)]; exact hc) _ _ HPU.out) hgrow hsep
          case measure => simp [intOf]; omega
      · obtain rfl : k = l.length := by omega
        obtain ⟨xs, hown, hcells⟩ := HROW.out
        obtain ⟨gr, cr, rfl⟩ := owns_slice hown
        rw [List.take_length] at hcells
        have hfl := flat_length σ l
        have hbds := bds_of_owns (g := gr) (c := cr) (l := flatL σ l) (by rw [hfl]; exact hown) hcells (by omega) (fun b hb => hb.2.1) (fun x hx => by
          obtain ⟨y, hy, rfl⟩ := List.mem_map.1 hx
          exact HWF.out y hy)
        have HBDS := Lib.hid hbds
        have HFL := Lib.hid hfl
        have HP := Lib.hid hp.out
        clear hown hcells HROW hbds hfl hp
        go_wp2_with fail
        go_ret2
        exact ⟨flatL σ l, 0, gr, cr, by rw [HFL.out]; rfl, HBDS.out, HB1.out.trans (HB.out.mono hs1), .inr (.inr ⟨HR.out, fun i h => HP.out i h h, rfl, rfl⟩)⟩
end Go.Proofs.Ytgnbjhiafjpokaa
