/-
  The program's Right, Apply and Flat of a list of binds; the document's Apply.
-/
import Derived.Test.YtpiflkgjmncijaaEnds
import Derived.Test.YtpiflkgjmncijaaRBec
namespace Go.Proofs.Ytpiflkgjmncijaa
open Go.RowKit Go.Shelf Go.Maps

set_option maxHeartbeats 1000000 in
theorem sright_any (l : List Bd) (w : World) (sv : Value) (hsl : bdsIn w w.heap.size l sv) (hmax : l.length ≤ 1000) (hsz : szB l ≤ 1000000) :
    Calls Try.prog 29 #[sv] w fun e w' => RightPost l w e w' := by
  obtain ⟨σ, hσ⟩ : ∃ σ, RightL l → Sol l σ := by
    by_cases h : RightL l
    · obtain ⟨σ, h2⟩ := sol_of h
      exact ⟨σ, fun _ => h2⟩
    · exact ⟨vTm, fun h' => absurd h' h⟩
  have he := ends_any l σ hσ w sv hsl hmax hsz
  obtain ⟨g, cap, rfl, hcap, hlen, _, _⟩ := hsl
  have HE := Lib.hid he
  clear he hσ
  go_enter Try.func29, Try.ntmps29
  go_wp2_with fail
  refine HE.out.mono ?_
  rintro e w1 ⟨hb1, ⟨hno, rfl⟩ | ⟨hr, m, n, dom, rfl, _, _⟩⟩
  · have HNO := Lib.hid hno
    clear hno
    go_wp2_with fail
    go_ret
    exact RightPost.no rfl HNO.out hb1
  · have HR := Lib.hid hr
    clear hr
    go_wp2_with fail
    go_ret
    exact ⟨true, rfl, ⟨(fun _ => HR.out), (fun _ => rfl)⟩, hb1⟩

/-- What becomes of a term, and the error. -/
def AppSpec (l : List Bd) (σ : Int → Tm) (t X : Tm) (E : Int) : Prop :=
  (¬ (RightL l ∧ t.right = true) ∧ X = kZ ∧ E = 1) ∨ ((RightL l ∧ t.right = true) ∧ (((t.bnd σ).right = false ∧ X = kZ ∧ E = 3) ∨ ((t.bnd σ).right = true ∧ X = t.bnd σ ∧ E = 0)))
def AppPost (l : List Bd) (σ : Int → Tm) (t : Tm) (w : World) (e : Ending) (w' : World) : Prop :=
  ∃ X E g c, e = .returned (.tuple #[.agg #[.int .i64 X.kind, .string X.name, .int .i64 X.n, .slice g X.args.length c], .int .i64 E]) ∧ Tm.inn w' w'.heap.size X (.slice g X.args.length c) ∧ Below w.heap.size w w' ∧ AppSpec l σ t X E
theorem inn_kZ (w : World) (B : Nat) : Tm.inn w B kZ (.slice none 0 0) := Tm.inn_mk.2 ⟨⟨by decide, Nat.zero_le _, by decide⟩, none, 0, rfl, Nat.le_refl _, Nat.zero_le _, .inl rfl⟩
theorem AppPost.zero {l : List Bd} {σ : Int → Tm} {t : Tm} {w w' : World} {e : Ending} {E : Int} (he : e = .returned (.tuple #[.agg #[.int .i64 0, .string ⟨#[]⟩, .int .i64 0, .slice none 0 0], .int .i64 E])) (hb : Below w.heap.size w w') (hs : AppSpec l σ t kZ E) : AppPost l σ t w e w' :=
  ⟨kZ, E, none, 0, he, inn_kZ _ _, hb, hs⟩

set_option maxRecDepth 100000 in
set_option maxHeartbeats 2000000 in
theorem apply_any (l : List Bd) (σ : Int → Tm) (hσ : RightL l → Sol l σ) (t : Tm) (w : World) (svl sv : Value) (hsl : bdsIn w w.heap.size l svl) (hin : Tm.inn w w.heap.size t sv) (hmax : l.length ≤ 1000) (hsz : szB l ≤ 1000000) (hst : t.size ≤ 1000000) :
    Calls Try.prog 31 #[svl, .agg #[.int .i64 t.kind, .string t.name, .int .i64 t.n, sv]] w fun e w' => AppPost l σ t w e w' := by
  obtain ⟨gl, cl, rfl, _, _, _, _⟩ := id hsl
  obtain ⟨_, g, cap, rfl, hcap, hlen, _⟩ := Tm.inn_iff.1 hin
  have hb0 := al2 w (.cells #[.int .i64 t.kind, .string t.name, .int .i64 t.n, .slice g t.args.length cap] 24) (.cells #[.int .i64 0, .string ⟨#[]⟩, .int .i64 0, .slice none 0 0] 24)
  have he := ends_any l σ hσ _ _ (bdsIn_held hsl hb0) hmax hsz
  have hin0 := Tm.inn_mono (Tm.inn_below hin hb0 (Nat.le_refl _)) hb0.size
  have HE := Lib.hid he
  have HB0 := Lib.hid hb0
  have HIN0 := Lib.hid hin0
  have HS := Lib.hid hσ
  clear he hb0 hin0 hσ hsl hin
  go_enter Try.func31, Try.ntmps31
  go_wp2_with fail
  refine HE.out.mono ?_
  rintro e w1 ⟨hb1, hpost⟩
  have hs1 : w.heap.size + 2 ≤ w1.heap.size := by have := hb1.size; simpa using this
  have hx1 : w1.heap[w.heap.size]? = some (Obj.cells #[.int .i64 t.kind, .string t.name, .int .i64 t.n, .slice g t.args.length cap] 24 (0, 0)) := (hb1.block _ (by simp; omega)).trans ((Below.heap_alloc _ _ _ (by simp)).trans (newBlk _ _ _ rfl))
  have hr1 : w1.heap[w.heap.size + 1]? = some (Obj.cells #[.int .i64 0, .string ⟨#[]⟩, .int .i64 0, .slice none 0 0] 24 (0, 0)) := (hb1.block _ (by simp)).trans (newBlk _ _ _ (by simp))
  have hin1 := Tm.inn_below HIN0.out hb1 (Nat.le_refl _)
  have HB1 := Lib.hid (HB0.out.trans (hb1.mono (by simp; omega)))
  have HIN1 := Lib.hid hin1
  have HX1 := Lib.hid hx1
  have HR1 := Lib.hid hr1
  obtain ⟨⟨b0, b1, b2, b3⟩, _⟩ := row4 hx1
  obtain ⟨⟨c0, c1, c2, c3⟩, f0, f1, f2, f3⟩ := row4 hr1
  clear hb1 hx1 hr1 hin1 HE
  rcases hpost with ⟨hno, rfl⟩ | ⟨hr, m, n, dom, rfl, hM, hdom⟩
  · have HNO := Lib.hid hno
    clear hno
    go_wp2_with fail
    refine bodyPost_ret (v := .tuple #[.agg #[.int .i64 0, .string ⟨#[]⟩, .int .i64 0, .slice none 0 0], .int .i64 1]) (by simp [results, Try.results31, go_sem, c0, c1, c2, c3]) rfl ?_
    exact AppPost.zero rfl (set4_below HB1.out (by omega) _ _ _ _) (.inl ⟨fun h => HNO.out h.1, rfl, rfl⟩)
  · have HR := Lib.hid hr
    have HM := Lib.hid hM
    have HD := Lib.hid hdom
    clear hr hM hdom
    go_wp2_with fail
    refine (tright_any t w1 _ (Tm.inn_mono HIN1.out (by simp; omega)) hst).mono ?_
    rintro e w2 ⟨rfl, hb2⟩
    have hs2 := hb2.size
    have hx2 := (hb2.block _ (by omega)).trans HX1.out
    have hr2 := (hb2.block _ (by omega)).trans HR1.out
    have HB2 := Lib.hid (HB1.out.trans (hb2.mono (by omega)))
    have HIN2 := Lib.hid (Tm.inn_below HIN1.out hb2 (by simp; omega))
    have HM2 := Lib.hid (HM.out.next hb2 (by simp; omega))
    have HR2 := Lib.hid hr2
    obtain ⟨⟨d0, d1, d2, d3⟩, _⟩ := row4 hx2
    obtain ⟨⟨e0, e1, e2, e3⟩, k0, k1, k2, k3⟩ := row4 hr2
    clear hb2 hx2 hr2 HM b0 b1 b2 b3 c0 c1 c2 c3 f0 f1 f2 f3
    cases hq : t.right with
    | false =>
      have HQ := Lib.hid hq
      clear hq
      go_wp2_with fail
      refine bodyPost_ret (v := .tuple #[.agg #[.int .i64 0, .string ⟨#[]⟩, .int .i64 0, .slice none 0 0], .int .i64 1]) (by simp [results, Try.results31, go_sem, e0, e1, e2, e3]) rfl ?_
      exact AppPost.zero rfl (set4_below HB2.out (by omega) _ _ _ _) (.inl ⟨(fun h => by have := h.2; rw [HQ.out] at this; cases this), rfl, rfl⟩)
    | true =>
      have HQ := Lib.hid hq
      clear hq
      go_wp2_with fail
      refine (become_any l σ (HS.out HR.out) dom HD.out m n _ t w2 _ HM2.out (by simp; omega) (right_fair HQ.out) HIN2.out).mono ?_
      rintro e w3 ⟨hb3, hpost⟩
      have hs3 := hb3.size
      have hr3 := (hb3.block _ (by omega)).trans HR2.out
      have HB3 := Lib.hid (HB2.out.trans (hb3.mono (by omega)))
      obtain ⟨⟨q0, q1, q2, q3⟩, p0, p1, p2, p3⟩ := row4 hr3
      clear hb3 hr3 d0 d1 d2 d3 e0 e1 e2 e3 k0 k1 k2 k3
      obtain ⟨u, hu⟩ : ∃ u, t.bnd σ = u := ⟨_, rfl⟩
      rw [hu] at hpost
      have HU := Lib.hid hu
      clear hu
      rcases hpost with ⟨hf, rfl⟩ | ⟨hf, gu, cu, rfl, hpu⟩
      · have HF := Lib.hid hf
        clear hf
        go_wp2_with fail
        refine bodyPost_ret (v := .tuple #[.agg #[.int .i64 0, .string ⟨#[]⟩, .int .i64 0, .slice none 0 0], .int .i64 3]) (by simp [results, Try.results31, go_sem, q0, q1, q2, q3]) rfl ?_
        exact AppPost.zero rfl (set4_below HB3.out (by omega) _ _ _ _) (.inr ⟨⟨HR.out, HQ.out⟩, .inl ⟨by rw [HU.out]; exact HF.out, rfl, rfl⟩⟩)
      · have HF := Lib.hid hf
        have HPU := Lib.hid hpu
        clear hf hpu
        go_wp2_with fail
        refine bodyPost_ret (v := .tuple #[.agg #[.int .i64 u.kind, .string u.name, .int .i64 u.n, .slice gu u.args.length cu], .int .i64 0]) (by simp [results, Try.results31, go_sem, q0, q1, q2, q3]) rfl ?_
        refine ⟨u, 0, gu, cu, rfl, ?_, set4_below HB3.out (by omega) _ _ _ _, .inr ⟨⟨HR.out, HQ.out⟩, .inr ⟨by rw [HU.out]; exact HF.out, HU.out.symm, rfl⟩⟩⟩
        refine Tm.inn_of_P (ok := fun b => w2.heap.size ≤ b ∧ b < w3.heap.size) (fun b hb' => by simp; omega) _ _ (Tm.innP_same (fun b hb' => hb') (fun b o v hb' hc => ?_) _ _ HPU.out)
        have hne : b ≠ w.heap.size + 1 := by have := hb'.1; omega
        exact (World.cell?_of_block (a := ⟨b, o, none⟩) (set4_blk w3 _ _ _ _ hne)).trans hc

/-- What the document's Apply tells, of what is right. -/
def RAppPost (u : Tm) (w : World) (e : Ending) (w' : World) : Prop :=
  ∃ X E g c, e = .returned (.tuple #[.agg #[.int .i64 X.kind, .string X.name, .int .i64 X.n, .slice g X.args.length c], .int .i64 E]) ∧ Tm.inn w' w'.heap.size X (.slice g X.args.length c) ∧ Below w.heap.size w w' ∧ ((u.right = false ∧ X = kZ ∧ E = 3) ∨ (u.right = true ∧ X = u ∧ E = 0))
theorem fit_right {u : Tm} (h : u.fair = true) : fitB u 3000 100 = u.right := by
  unfold fitB Tm.right
  rw [h, Bool.true_and, Bool.eq_iff_iff]
  simp only [Bool.and_eq_true, decide_eq_true_eq]
  omega

set_option maxRecDepth 100000 in
set_option maxHeartbeats 2000000 in
theorem rapply_any (l : List Bd) (σ : Int → Tm) (hl : RightL l) (hσ : Sol l σ) (t : Tm) (ht : t.fair = true) (w : World) (svl sv : Value) (hsl : bdsIn w w.heap.size l svl) (hin : Tm.inn w w.heap.size t sv) (hmax : l.length ≤ 1000) :
    Calls Try.prog 32 #[svl, .agg #[.int .i64 t.kind, .string t.name, .int .i64 t.n, sv]] w fun e w' => RAppPost (t.bnd σ) w e w' := by
  obtain ⟨gl, cl, rfl, _, _, _, _⟩ := id hsl
  obtain ⟨_, g, cap, rfl, hcap, hlen, _⟩ := Tm.inn_iff.1 hin
  have hb0 := al2 w (.cells #[.int .i64 t.kind, .string t.name, .int .i64 t.n, .slice g t.args.length cap] 24) (.cells #[.int .i64 0, .string ⟨#[]⟩, .int .i64 0, .slice none 0 0] 24)
  have hin0 := Tm.inn_mono (Tm.inn_below hin hb0 (Nat.le_refl _)) hb0.size
  obtain ⟨hok, r, hr⟩ := hl
  obtain ⟨M, hM⟩ := bound_of r l.length
  have he := rbecome_any l (by omega) hok σ hσ r hr M t (fun v _ q hq => hM q (place_some hq).1) ht 3000 100 _ _ _ (by omega) (by omega) (by omega) (by omega) (bdsIn_held hsl hb0) hin0
  have hfr := fit_right (hσ.fairT ht)
  obtain ⟨u, hu⟩ : ∃ u, t.bnd σ = u := ⟨_, rfl⟩
  rw [hu] at he hfr ⊢
  have HE := Lib.hid he
  have HB0 := Lib.hid hb0
  have HFR := Lib.hid hfr
  clear he hb0 hin0 hσ hsl hin hok hr hM hu hfr ht
  go_enter Try.func32, Try.ntmps32
  go_wp2_with fail
  refine HE.out.mono ?_
  rintro e w1 ⟨hb1, hpost⟩
  rw [HFR.out] at hpost
  have hs1 : w.heap.size + 2 ≤ w1.heap.size := by have := hb1.size; simpa using this
  have hl1 : w.heap.size + 1 < w1.heap.size := by omega
  have hr1 : w1.heap[w.heap.size + 1]? = some (Obj.cells #[.int .i64 0, .string ⟨#[]⟩, .int .i64 0, .slice none 0 0] 24 (0, 0)) := (hb1.block _ (by simp)).trans (newBlk _ _ _ (by simp))
  have HB1 := Lib.hid (HB0.out.trans (hb1.mono (by simp; omega)))
  obtain ⟨⟨c0, c1, c2, c3⟩, f0, f1, f2, f3⟩ := row4 hr1
  have hbs : (w.alloc (.cells #[.int .i64 t.kind, .string t.name, .int .i64 t.n, .slice g t.args.length cap] 24)).heap.size + 1 = w.heap.size + 2 := by simp
  clear hb1 hr1 HE hbs
  rcases hpost with ⟨hf, rfl⟩ | ⟨hf, gu, cu, rfl, hpu⟩
  · have HF := Lib.hid hf
    clear hf
    go_wp2_with fail
    refine bodyPost_ret (v := .tuple #[.agg #[.int .i64 0, .string ⟨#[]⟩, .int .i64 0, .slice none 0 0], .int .i64 3]) (by simp [results, Try.results32, go_sem, c0, c1, c2, c3, hl1]) rfl ?_
    exact ⟨kZ, 3, none, 0, rfl, inn_kZ _ _, (set4_below HB1.out (by omega) _ _ _ _).alloc (by rw [set4_size]; omega) _, .inl ⟨HF.out, rfl, rfl⟩⟩
  · have HF := Lib.hid hf
    have HPU := Lib.hid hpu
    have hup : ((u.size : Int) == 0) = false := by have := u.size_pos; simp; omega
    clear hf hpu
    go_wp2_with fail
    refine bodyPost_ret (v := .tuple #[.agg #[.int .i64 u.kind, .string u.name, .int .i64 u.n, .slice gu u.args.length cu], .int .i64 0]) (by simp [results, Try.results32, go_sem, c0, c1, c2, c3, hl1]) rfl ?_
    refine ⟨u, 0, gu, cu, rfl, ?_, (set4_below HB1.out (by omega) _ _ _ _).alloc (by rw [set4_size]; omega) _, .inr ⟨HF.out, rfl, rfl⟩⟩
    have hfin : Tm.inn (set4 w1 (w.heap.size + 1) (.int .i64 u.kind) (.string u.name) (.int .i64 u.n) (.slice gu u.args.length cu)) w1.heap.size u (.slice gu u.args.length cu) :=
      Tm.inn_of_P (ok := fun b => w.heap.size + 2 ≤ b ∧ b < w1.heap.size) (fun b hb' => hb'.2) _ _ (Tm.innP_same (fun b hb' => ⟨by have := hb'.1; simp at this; omega, hb'.2⟩) (fun b o v hb' hc => by
        have hne : b ≠ w.heap.size + 1 := by have := hb'.1; simp at this; omega
        exact (World.cell?_of_block (a := ⟨b, o, none⟩) (set4_blk w1 _ _ _ _ hne)).trans hc) _ _ HPU.out)
    exact Tm.inn_mono (Tm.inn_below hfin ((Below.refl _ _).alloc (Nat.le_refl _) _) (by rw [set4_size]; exact Nat.le_refl _)) (by simp)
end Go.Proofs.Ytpiflkgjmncijaa
