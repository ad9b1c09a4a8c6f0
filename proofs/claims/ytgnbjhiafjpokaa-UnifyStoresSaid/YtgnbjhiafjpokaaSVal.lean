/-
  The program's Apply, and that its answer lies in memory of its own.
  The program's Value of a store; what a nil store tells; stores beside one another.
-/
import Derived.Test.YtgnbjhiafjpokaaFlat
import Derived.Test.YtgnbjhiafjpokaaSUnify
namespace Go.Proofs.Ytgnbjhiafjpokaa
open Go.RowKit Go.Shelf Go.Maps

/-- As AppPost; and each block of the answer is new. -/
def AppPostP (l : List Bd) (σ : Int → Tm) (t : Tm) (w : World) (e : Ending) (w' : World) : Prop :=
  ∃ X E g c, e = .returned (.tuple #[.agg #[.int .i64 X.kind, .string X.name, .int .i64 X.n, .slice g X.args.length c], .int .i64 E]) ∧ Tm.innP w' (fun b => w.heap.size ≤ b ∧ b < w'.heap.size) X (.slice g X.args.length c) ∧ Below w.heap.size w w' ∧ AppSpec l σ t X E
theorem innP_kZ (w : World) (ok : Nat → Prop) : Tm.innP w ok kZ (.slice none 0 0) := Tm.innP_mk.2 ⟨⟨by decide, Nat.zero_le _, by decide⟩, none, 0, rfl, Nat.le_refl _, Nat.zero_le _, .inl rfl⟩
theorem AppPostP.zero {l : List Bd} {σ : Int → Tm} {t : Tm} {w w' : World} {e : Ending} {E : Int} (he : e = .returned (.tuple #[.agg #[.int .i64 0, .string ⟨#[]⟩, .int .i64 0, .slice none 0 0], .int .i64 E])) (hb : Below w.heap.size w w') (hs : AppSpec l σ t kZ E) : AppPostP l σ t w e w' :=
  ⟨kZ, E, none, 0, he, innP_kZ _ _, hb, hs⟩
theorem AppPostP.plain {l : List Bd} {σ : Int → Tm} {t : Tm} {w w' : World} {e : Ending} (h : AppPostP l σ t w e w') : AppPost l σ t w e w' := by
  obtain ⟨X, E, g, c, he, hi, hb, hs⟩ := h
  exact ⟨X, E, g, c, he, Tm.inn_of_P (fun b hb' => hb'.2) _ _ hi, hb, hs⟩

set_option maxRecDepth 100000 in
set_option maxHeartbeats 2000000 in
theorem apply_anyP (l : List Bd) (σ : Int → Tm) (hσ : RightL l → Sol l σ) (t : Tm) (w : World) (svl sv : Value) (hsl : bdsIn w w.heap.size l svl) (hin : Tm.inn w w.heap.size t sv) (hmax : l.length ≤ 1000) (hsz : szB l ≤ 1000000) (hst : t.size ≤ 1000000) :
    Calls Try.prog 23 #[svl, .agg #[.int .i64 t.kind, .string t.name, .int .i64 t.n, sv]] w fun e w' => AppPostP l σ t w e w' := by
  obtain ⟨gl, cl, rfl, _, _, _, _⟩ := id hsl
  obtain ⟨_, g, cap, rfl, hcap, hlen, _⟩ := Tm.inn_iff.1 hin
  have hb0 := al2 w (.cells #[.int .i64 t.kind, .string t.name, .int .i64 t.n, .slice g t.args.length cap] 27) (.cells #[.int .i64 0, .string ⟨#[]⟩, .int .i64 0, .slice none 0 0] 27)
  have he := ends_any l σ hσ _ _ (bdsIn_held hsl hb0) hmax hsz
  have hin0 := Tm.inn_mono (Tm.inn_below hin hb0 (Nat.le_refl _)) hb0.size
  have HE := Lib.hid he
  have HB0 := Lib.hid hb0
  have HIN0 := Lib.hid hin0
  have HS := Lib.hid hσ
  clear he hb0 hin0 hσ hsl hin
  go_enter Try.func23, Try.ntmps23
  go_wp2_with fail
  refine HE.out.mono ?_
  rintro e w1 ⟨hb1, hpost⟩
  have hs1 : w.heap.size + 2 ≤ w1.heap.size := by have := hb1.size; simpa using this
  have hx1 : w1.heap[w.heap.size]? = some (Obj.cells #[.int .i64 t.kind, .string t.name, .int .i64 t.n, .slice g t.args.length cap] 27 (0, 0)) := (hb1.block _ (by simp; omega)).trans ((Below.heap_alloc _ _ _ (by simp)).trans (newBlk _ _ _ rfl))
  have hr1 : w1.heap[w.heap.size + 1]? = some (Obj.cells #[.int .i64 0, .string ⟨#[]⟩, .int .i64 0, .slice none 0 0] 27 (0, 0)) := (hb1.block _ (by simp)).trans (newBlk _ _ _ (by simp))
  have hin1 := Tm.inn_below HIN0.out hb1 (Nat.le_refl _)
  have HB1 := Lib.hid (HB0.out.trans (hb1.mono (by simp; omega)))
  have HIN1 := Lib.hid hin1
  have HX1 := Lib.hid hx1
  have HR1 := Lib.hid hr1
  obtain ⟨⟨b0, b1, b2, b3⟩, _⟩ := row4 hx1
  obtain ⟨⟨c0, c1, c2, c3⟩, f0, f1, f2, f3⟩ := row4 hr1
  clear hb1 hx1 hr1 hin1 HE
  rcases hpost with ⟨hno, rfl⟩ | ⟨hr, m, n, dom, rfl, hM, hdom⟩
  · have HNO := Lib.hid hno
    clear hno
    go_wp2_with fail
    refine bodyPost_ret (v := .tuple #[.agg #[.int .i64 0, .string ⟨#[]⟩, .int .i64 0, .slice none 0 0], .int .i64 1]) (by simp [results, Try.results23, go_sem, c0, c1, c2, c3]) rfl ?_
    exact AppPostP.zero rfl (set4_below HB1.out (by omega) _ _ _ _) (.inl ⟨fun h => HNO.out h.1, rfl, rfl⟩)
  · have HR := Lib.hid hr
    have HM := Lib.hid hM
    have HD := Lib.hid hdom
    clear hr hM hdom
    go_wp2_with fail
    refine (tright_any t w1 _ (Tm.inn_mono HIN1.out (by simp; omega)) hst).mono ?_
    rintro e w2 ⟨rfl, hb2⟩
    have hs2 := hb2.size
    have hx2 := (hb2.block _ (by omega)).trans HX1.out
    have hr2 := (hb2.block _ (by omega)).trans HR1.out
    have HB2 := Lib.hid (HB1.out.trans (hb2.mono (by omega)))
    have HIN2 := Lib.hid (Tm.inn_below HIN1.out hb2 (by simp; omega))
    have HM2 := Lib.hid (HM.out.next hb2 (by simp; omega))
    have HR2 := Lib.hid hr2
    obtain ⟨⟨d0, d1, d2, d3⟩, _⟩ := row4 hx2
    obtain ⟨⟨e0, e1, e2, e3⟩, k0, k1, k2, k3⟩ := row4 hr2
    clear hb2 hx2 hr2 HM b0 b1 b2 b3 c0 c1 c2 c3 f0 f1 f2 f3
    cases hq : t.right with
    | false =>
      have HQ := Lib.hid hq
      clear hq
      go_wp2_with fail
      refine bodyPost_ret (v := .tuple #[.agg #[.int .i64 0, .string ⟨#[]⟩, .int .i64 0, .slice none 0 0], .int .i64 1]) (by simp [results, Try.results23, go_sem, e0, e1, e2, e3]) rfl ?_
      exact AppPostP.zero rfl (set4_below HB2.out (by omega) _ _ _ _) (.inl ⟨(fun h => by have := h.2; rw [HQ.out] at this; cases this), rfl, rfl⟩)
    | true =>
      have HQ := Lib.hid hq
      clear hq
      go_wp2_with fail
      refine (become_any l σ (HS.out HR.out) dom HD.out m n _ t w2 _ HM2.out (by simp; omega) (right_fair HQ.out) HIN2.out).mono ?_
      rintro e w3 ⟨hb3, hpost⟩
      have hs3 := hb3.size
      have hr3 := (hb3.block _ (by omega)).trans HR2.out
      have HB3 := Lib.hid (HB2.out.trans (hb3.mono (by omega)))
      obtain ⟨⟨q0, q1, q2, q3⟩, p0, p1, p2, p3⟩ := row4 hr3
      clear hb3 hr3 d0 d1 d2 d3 e0 e1 e2 e3 k0 k1 k2 k3
      obtain ⟨u, hu⟩ : ∃ u, t.bnd σ = u := ⟨_, rfl⟩
      rw [hu] at hpost
      have HU := Lib.hid hu
      clear hu
      rcases hpost with ⟨hf, rfl⟩ | ⟨hf, gu, cu, rfl, hpu⟩
      · have HF := Lib.hid hf
        clear hf
        go_wp2_with fail
        refine bodyPost_ret (v := .tuple #[.agg #[.int .i64 0, .string ⟨#[]⟩, .int .i64 0, .slice none 0 0], .int .i64 3]) (by simp [results, Try.results23, go_sem, q0, q1, q2, q3]) rfl ?_
        exact AppPostP.zero rfl (set4_below HB3.out (by omega) _ _ _ _) (.inr ⟨⟨HR.out, HQ.out⟩, .inl ⟨by rw [HU.out]; exact HF.out, rfl, rfl⟩⟩)
      · have HF := Lib.hid hf
        have HPU := Lib.hid hpu
        clear hf hpu
        go_wp2_with fail
        refine bodyPost_ret (v := .tuple #[.agg #[.int .i64 u.kind, .string u.name, .int .i64 u.n, .slice gu u.args.length cu], .int .i64 0]) (by simp [results, Try.results23, go_sem, q0, q1, q2, q3]) rfl ?_
        refine ⟨u, 0, gu, cu, rfl, ?_, set4_below HB3.out (by omega) _ _ _ _, .inr ⟨⟨HR.out, HQ.out⟩, .inr ⟨by rw [HU.out]; exact HF.out, HU.out.symm, rfl⟩⟩⟩
        refine Tm.innP_same (fun b hb' => by simp; omega) (fun b o v hb' hc => ?_) _ _ HPU.out
        have hne : b ≠ w.heap.size + 1 := by have := hb'.1; omega
        exact (World.cell?_of_block (a := ⟨b, o, none⟩) (set4_blk w3 _ _ _ _ hne)).trans hc

end Go.Proofs.Ytgnbjhiafjpokaa

namespace Go.Proofs.Ytgnbjhiafjpokaa
open Go.RowKit Go.Shelf Go.Maps

/-- Four cells of a box. -/
def V4 (b : Nat) (a0 a1 a2 a3 : Value) (W : World) : Prop := W.cell? ⟨b, 0, none⟩ = some a0 ∧ W.cell? ⟨b, 1, none⟩ = some a1 ∧ W.cell? ⟨b, 2, none⟩ = some a2 ∧ W.cell? ⟨b, 3, none⟩ = some a3
theorem V4.nx {b : Nat} {a0 a1 a2 a3 : Value} {W W' : World} (h : V4 b a0 a1 a2 a3 W) (hb : Below W.heap.size W W') : V4 b a0 a1 a2 a3 W' := by
  have key : ∀ b o v, W.cell? ⟨b, o, none⟩ = some v → W'.cell? ⟨b, o, none⟩ = some v := fun b o v h => (hb.cell (p := ⟨b, o, none⟩) (World.block_lt_of_cell? _ _ h)).trans h
  exact ⟨key _ _ _ h.1, key _ _ _ h.2.1, key _ _ _ h.2.2.1, key _ _ _ h.2.2.2⟩
theorem V4.st4 {b rb : Nat} {a0 a1 a2 a3 : Value} {W : World} (h : V4 b a0 a1 a2 a3 W) (hne : b ≠ rb) (x0 x1 x2 x3 : Value) : V4 b a0 a1 a2 a3 (set4 W rb x0 x1 x2 x3) := by
  have key : ∀ o v, W.cell? ⟨b, o, none⟩ = some v → (set4 W rb x0 x1 x2 x3).cell? ⟨b, o, none⟩ = some v := fun o v h => (World.cell?_of_block (a := ⟨b, o, none⟩) (set4_blk W _ _ _ _ hne)).trans h
  exact ⟨key _ _ h.1, key _ _ h.2.1, key _ _ h.2.2.1, key _ _ h.2.2.2⟩
/-- A store stays, where other blocks than its own are written. -/
theorem Str.aside {W W' : World} {B sb su Ku : Nat} {lu : List Bd} {svS mv svS' mv' svu mvu : Value} {xu : List Value} (hu : Str W B su lu Ku svu mvu xu) (hf : SFr B sb svS mv svS' mv' W W') (hd : ∀ b, owned su svu mvu b → ¬ owned sb svS mv b) (hlow : ∀ b, owned sb svS mv b → B ≤ b) : Str W' B su lu Ku svu mvu xu := by
  have hl := hu.mem.low
  have key : ∀ b, owned su svu mvu b → W'.heap[b]? = W.heap[b]? := fun b ho => hf.block b (by
    rcases ho with rfl | e | e
    · exact hl.box
    · exact hl.row b e
    · exact hl.map b e) (hd b ho)
  have hlo := hu.mem.lo
  have hbl := hl.box
  refine ⟨⟨(key su (.inl rfl)).trans hu.mem.box, ownsRow_block hu.mem.row (fun b e => key b (.inr (.inl e))), cellsB_same (fun _ h => h) (fun b o v hlt hc => (World.cell?_of_block (a := ⟨b, o, none⟩) (hf.block b (by omega) (fun ho => by have := hlow b ho; omega))).trans hc) _ _ hu.mem.cells, ?_, hu.mem.lo, hu.mem.sep, hu.mem.ok, hu.mem.len⟩, hu.nil_, hu.right⟩
  rcases hu.mem.map with hm | ⟨m, e, h1, h2⟩
  · exact .inl hm
  · exact .inr ⟨m, e, h1.of_block (key m (.inr (.inr e))), h2⟩
theorem Str.low {W : World} {B sb K : Nat} {l : List Bd} {svS mv : Value} {xs : List Value} (h : Str W B sb l K svS mv xs) : ∀ b, owned sb svS mv b → B ≤ b := fun b ho => by
  rcases ho with rfl | e | e
  · exact h.mem.lo
  · exact (h.mem.row.lt b e).1
  · rcases h.mem.map with ⟨hm, _⟩ | ⟨m, hm, _, h2, _⟩
    · rw [hm] at e; cases e
    · rw [hm] at e; cases e; exact h2

set_option maxRecDepth 100000 in
set_option maxHeartbeats 4000000 in
theorem value_any {W : World} {B sb K : Nat} {l : List Bd} {svS mv : Value} {xs : List Value} (h : Str W B sb l K svS mv xs) {σ : Int → Tm} (hσ : Sol l σ) {t : Tm} {st : Value} (hin : Tm.inn W W.heap.size t st) (hsz : t.size ≤ 1000000) {V : List Int} (hV : inV V l) (hVl : V.length ≤ 300) :
    Calls Try.prog 41 #[.pointer (some ⟨sb, 0, none⟩), .agg #[.int .i64 t.kind, .string t.name, .int .i64 t.n, st]] W fun e W' => AppPostP l σ t W e W' := by
  obtain ⟨g, c, rfl⟩ := inn_sl hin
  obtain ⟨W0, hW⟩ : ∃ W0, (W.alloc (.cells #[.int .i64 t.kind, .string t.name, .int .i64 t.n, .slice g t.args.length c] 27)).alloc (.cells #[.int .i64 0, .string ⟨#[]⟩, .int .i64 0, .slice none 0 0] 27) = W0 := ⟨_, rfl⟩
  have hb0 : Below W.heap.size W W0 := by rw [← hW]; exact al2 _ _ _
  have k0 : W0.heap[W.heap.size]? = some (.cells #[.int .i64 t.kind, .string t.name, .int .i64 t.n, .slice g t.args.length c] 27 (0, 0)) := by rw [← hW, Below.heap_alloc _ _ _ (by simp)]; exact newBlk _ _ _ rfl
  have k1 : W0.heap[W.heap.size + 1]? = some (.cells #[.int .i64 0, .string ⟨#[]⟩, .int .i64 0, .slice none 0 0] 27 (0, 0)) := by rw [← hW]; exact newBlk _ _ _ (by simp)
  have hs0 : W0.heap.size = W.heap.size + 2 := by rw [← hW]; simp
  have hin0 := Tm.inn_mono (Tm.inn_below hin hb0 (Nat.le_refl _)) hb0.size
  have hl300 : l.length ≤ 300 := Nat.le_trans (okL_inV h.right.1 hV) hVl
  have HB0 := Lib.hid hb0
  have HK0 := Lib.hid k0
  have HK1 := Lib.hid k1
  have HS0 := Lib.hid hs0
  have HIN0 := Lib.hid hin0
  have HM0 := Lib.hid (h.mem.next hb0)
  have HR := Lib.hid h.right
  have HS := Lib.hid hσ
  have HW := Lib.hid hW
  clear h hσ hin hW hb0 k0 k1 hs0 hin0
  go_enter Try.func41, Try.ntmps41
  go_wp2_with fail
  rw [HW.out]
  refine (tright_any t W0 _ HIN0.out hsz).mono ?_
  rintro e W1 ⟨rfl, hb1⟩
  have hs1 : W.heap.size + 2 ≤ W1.heap.size := by have := hb1.size; have := HS0.out; omega
  have hp1 := (hb1.block W.heap.size (by have := HS0.out; omega)).trans HK0.out
  have hr1 := (hb1.block (W.heap.size + 1) (by have := HS0.out; omega)).trans HK1.out
  have HB1 := Lib.hid (HB0.out.trans (hb1.mono (by have := HS0.out; omega)))
  have HIN1 := Lib.hid (Tm.inn_mono (Tm.inn_below HIN0.out hb1 (Nat.le_refl _)) hb1.size)
  have HM1 := Lib.hid (HM0.out.next hb1)
  have HR1 := Lib.hid hr1
  have HP1 := Lib.hid hp1
  obtain ⟨⟨c0, c1, c2, c3⟩, f0, f1, f2, f3⟩ := row4 hr1
  clear hb1 hr1 hp1 HIN0 HM0 HB0 HK0 HK1
  cases hq : t.right with
  | false =>
    have HSP := Lib.hid (show AppSpec l σ t kZ 1 from .inl ⟨(fun h => absurd h.2 (by rw [hq]; decide)), rfl, rfl⟩)
    clear hq
    go_wp2_with fail
    refine bodyPost_ret (v := .tuple #[.agg #[.int .i64 0, .string ⟨#[]⟩, .int .i64 0, .slice none 0 0], .int .i64 1]) (by simp [results, Try.results41, go_sem, c0, c1, c2, c3]) rfl ?_
    exact AppPostP.zero rfl (set4_below HB1.out (by omega) _ _ _ _) HSP.out
  | true =>
    have HQ := Lib.hid hq
    have hsz3 : t.size ≤ 3000 := by simp only [Tm.right, Bool.and_eq_true, decide_eq_true_eq] at hq; exact hq.1.2
    clear hq c0 c1 c2 c3 f0 f1 f2 f3
    obtain ⟨⟨p0, p1, p2, p3⟩, _⟩ := row4 HP1.out
    have hv4 : V4 W.heap.size (.int .i64 t.kind) (.string t.name) (.int .i64 t.n) (.slice g t.args.length c) W1.drew := ⟨p0, p1, p2, p3⟩
    go_wp2_with fail
    refine wp_region_held_drew (S := fun W' => W'.cell? ⟨W.heap.size, 0, none⟩ = some (.int .i64 t.kind) ∧ W'.cell? ⟨W.heap.size, 1, none⟩ = some (.string t.name) ∧ W'.cell? ⟨W.heap.size, 2, none⟩ = some (.int .i64 t.n) ∧ W'.cell? ⟨W.heap.size, 3, none⟩ = some (.slice g t.args.length c)) (by kernel_rfl) hv4 (fun hHeld => ?_)
    clear hv4 p0 p1 p2 p3
    refine wpAnyH_take (i := 0) (oi := _) (v := ?_) rfl (by kernel_rfl) (by kernel_rfl) (by kernel_rfl) (fun _ _ _ h => h) (Or.inl ⟨by rfl, ?_⟩) hHeld ?_
    rotate_left
    · (intro w hSw; obtain ⟨c0, c1, c2, c3⟩ := hSw; go_simp; try with_reducible rfl)
    try simp only [Act.put, List.setIfInBounds_toArray, List.set_cons_zero, List.set_cons_succ, List.getElem_toArray, List.getElem_cons_zero]
    refine wpAnyH_take (i := 1) (oi := _) (v := ?_) rfl (by kernel_rfl) (by kernel_rfl) (by kernel_rfl) (fun _ _ _ h => h) (Or.inl ⟨by rfl, ?_⟩) hHeld ?_
    rotate_left
    · (intro w hSw; obtain ⟨c0, c1, c2, c3⟩ := hSw; go_simp; try with_reducible rfl)
    try simp only [Act.put, List.setIfInBounds_toArray, List.set_cons_zero, List.set_cons_succ, List.getElem_toArray, List.getElem_cons_zero, List.getElem_cons_succ]
    refine wpAnyH_take (i := 5) (oi := _) (v := ?_) rfl (by kernel_rfl) (by kernel_rfl) (by kernel_rfl) (fun _ _ _ h => h) (Or.inl ⟨by rfl, ?_⟩) hHeld ?_
    rotate_left
    · (intro w hSw; obtain ⟨c0, c1, c2, c3⟩ := hSw; go_simp; try with_reducible rfl)
    try simp only [Act.put, List.setIfInBounds_toArray, List.set_cons_zero, List.set_cons_succ, List.getElem_toArray, List.getElem_cons_zero, List.getElem_cons_succ]
    refine wpAnyH_ready (rs := [2]) (by kernel_rfl) (by simp) ?_
    refine AllReadyH.cons (o := _) rfl (fun K hK => ?_) (AllReadyH.nil)
    go_simp
    have hal : Below W1.heap.size W1 (W1.alloc (.cells #[.int .i64 t.kind, .string t.name, .int .i64 t.n, .slice g t.args.length c] 27)).drew := ((Below.refl _ _).alloc (Nat.le_refl _) _).drew
    have hone0 := one_slice (W := W1.alloc (.cells #[.int .i64 t.kind, .string t.name, .int .i64 t.n, .slice g t.args.length c] 27)) (b := W1.heap.size) (newBlk W1 (.cells #[.int .i64 t.kind, .string t.name, .int .i64 t.n, .slice g t.args.length c] 27) _ rfl) (Tm.inn_mono (Tm.inn_below HIN1.out ((Below.refl W1.heap.size W1).alloc (Nat.le_refl _) (.cells #[.int .i64 t.kind, .string t.name, .int .i64 t.n, .slice g t.args.length c] 27)) (Nat.le_refl _)) (by simp))
    have hone : Tm.sliceIn (W1.alloc (.cells #[.int .i64 t.kind, .string t.name, .int .i64 t.n, .slice g t.args.length c] 27)).drew (W1.alloc (.cells #[.int .i64 t.kind, .string t.name, .int .i64 t.n, .slice g t.args.length c] 27)).drew.heap.size [t] (.slice (some ⟨W1.heap.size, 0, none⟩) 1 1) := Tm.sliceIn_below hone0 ((Below.refl _ _).drew) (Nat.le_refl _)
    clear hone0
    refine hK.out _ _ (V4.nx (show V4 W.heap.size (.int .i64 t.kind) (.string t.name) (.int .i64 t.n) (.slice g t.args.length c) W1.drew from hHeld) ((Below.refl _ _).alloc (Nat.le_refl _) _)) (fun hHeld => ?_)
    clear hK K
    try simp only [Act.put, List.setIfInBounds_toArray, List.set_cons_zero, List.set_cons_succ, List.getElem_toArray, List.getElem_cons_zero, List.getElem_cons_succ]
    obtain ⟨W2, hW2⟩ : ∃ W2, (W1.alloc (.cells #[.int .i64 t.kind, .string t.name, .int .i64 t.n, .slice g t.args.length c] 27)).drew = W2 := ⟨_, rfl⟩
    rw [hW2] at hal hone
    obtain ⟨bo, hbo⟩ : ∃ bo, W1.heap.size = bo := ⟨_, rfl⟩
    have HB2 := Lib.hid (HB1.out.trans (hal.mono HB1.out.size))
    have HIN2 := Lib.hid (Tm.inn_mono (Tm.inn_below HIN1.out hal (Nat.le_refl _)) hal.size)
    have HM2 := Lib.hid (HM1.out.next hal)
    have hs12 := hal.size
    have HR2 := Lib.hid ((hal.block _ (by omega)).trans HR1.out)
    simp only [hW2, hbo] at hHeld ⊢
    rw [hbo] at hone
    have HVA := Lib.hid (tvars_any [t] W2 _ hone (by simp [Tm.sizes]; omega))
    clear hal hone hW2 HB1 HIN1 HM1 HR1 HP1
    refine wpAnyH_ready (rs := [3]) (by kernel_rfl) (by simp) ?_
    refine AllReadyH.cons (o := _) rfl (fun K hK => ?_) (AllReadyH.nil)
    go_simp
    refine HVA.out.mono ?_
    rintro e W3 ⟨vv, rfl, hints, hb3, hwf⟩
    have HB3 := Lib.hid (HB2.out.trans (hb3.mono HB2.out.size))
    have HIN3 := Lib.hid (Tm.inn_mono (Tm.inn_below HIN2.out hb3 (Nat.le_refl _)) hb3.size)
    have HM3 := Lib.hid (HM2.out.next hb3)
    have hs23 := hb3.size
    have HR3 := Lib.hid ((hb3.block _ (by omega)).trans HR2.out)
    have hvl : (varsOf [t]).length ≤ 1000000 := by have h1 := varsOf_length [t]; simp [Tm.sizes] at h1; omega
    have HBH := Lib.hid (behind_any HM3.out hints hvl hwf)
    have HS3 := Lib.hid (V4.nx (show V4 W.heap.size (.int .i64 t.kind) (.string t.name) (.int .i64 t.n) (.slice g t.args.length c) W2 from hHeld) hb3)
    clear hints hb3 hwf hvl hHeld HVA HB2 HIN2 HM2 HR2
    go_wp2_with fail
    refine hK.out _ _ (HS3.out) (fun hHeld => ?_)
    clear hK K
    try simp only [Act.put, List.setIfInBounds_toArray, List.set_cons_zero, List.set_cons_succ, List.getElem_toArray, List.getElem_cons_zero, List.getElem_cons_succ]
    refine wpAnyH_ready (rs := [4]) (by kernel_rfl) (by simp) ?_
    refine AllReadyH.cons (o := _) rfl (fun K hK => ?_) (AllReadyH.nil)
    go_simp
    refine HBH.out.mono ?_
    rintro e W4 ⟨L', sv, ys, rfl, hb4, hbr, hbh, hlen⟩
    have HB4 := Lib.hid (HB3.out.trans (hb4.mono HB3.out.size))
    have HIN4 := Lib.hid (Tm.inn_mono (Tm.inn_below HIN3.out hb4 (Nat.le_refl _)) hb4.size)
    have hs34 := hb4.size
    have HR4 := Lib.hid ((hb4.block _ (by omega)).trans HR3.out)
    have hll := HM3.out.len
    have hlo := HM3.out.low.box
    have hlo2 := HM3.out.lo
    have hbd := hbr.bds (by omega) hbh.ok (by omega)
    have hszb := szB_right hbh.ok
    have hrL := hbh.right HR.out
    obtain ⟨σ', hσ'⟩ := sol_of hrL
    have heq : t.bnd σ' = t.bnd σ := hbh.bnd HR.out HS.out hσ' t (fun v hv => (vars_vs _ v).2 ⟨t, by simp, hv⟩)
    obtain ⟨gL, cL, rfl⟩ := hbr.slice
    have HAP := Lib.hid (apply_anyP L' σ' (fun _ => hσ') t W4 _ _ hbd HIN4.out (by omega) (by omega) (by omega))
    have HEQ := Lib.hid heq
    have HRL := Lib.hid hrL
    have HS4 := Lib.hid (V4.nx (show V4 W.heap.size (.int .i64 t.kind) (.string t.name) (.int .i64 t.n) (.slice g t.args.length c) W3 from hHeld) hb4)
    clear hb4 hbr hbh hbd hHeld hrL hσ' heq HB3 HIN3 HM3 HR3 HS3
    go_wp2_with fail
    refine hK.out _ _ (HS4.out) (fun hHeld => ?_)
    clear hK K
    try simp only [Act.put, List.setIfInBounds_toArray, List.set_cons_zero, List.set_cons_succ, List.getElem_toArray, List.getElem_cons_zero, List.getElem_cons_succ]
    refine wpAnyH_ready (rs := [6]) (by kernel_rfl) (by simp) ?_
    refine AllReadyH.cons (o := _) rfl (fun K hK => ?_) (AllReadyH.nil)
    go_simp
    refine HAP.out.mono ?_
    rintro e W5 ⟨X, E, gx, cx, rfl, hinx, hb5, hspec⟩
    have HB5 := Lib.hid (HB4.out.trans (hb5.mono HB4.out.size))
    have hs45 := hb5.size
    have HR5 := Lib.hid ((hb5.block _ (by omega)).trans HR4.out)
    have HX5 := Lib.hid hinx
    have HSP := Lib.hid (show AppSpec l σ t X E from by
      rcases hspec with ⟨h, _⟩ | ⟨_, h⟩
      · exact absurd ⟨HRL.out, HQ.out⟩ h
      · rw [HEQ.out] at h; exact .inr ⟨⟨HR.out, HQ.out⟩, h⟩)
    have HS5 := Lib.hid (V4.nx (show V4 W.heap.size (.int .i64 t.kind) (.string t.name) (.int .i64 t.n) (.slice g t.args.length c) W4 from hHeld) hb5)
    clear hb5 hinx hspec hHeld HAP HS4 HB4 HIN4 HR4
    obtain ⟨⟨c0, c1, c2, c3⟩, f0, f1, f2, f3⟩ := row4 HR5.out
    go_wp2_with fail
    refine hK.out _ _ (HS5.out) (fun hHeld => ?_)
    clear hK K
    try simp only [Act.put, List.setIfInBounds_toArray, List.set_cons_zero, List.set_cons_succ, List.getElem_toArray, List.getElem_cons_zero, List.getElem_cons_succ]
    refine wpAnyH_take (i := 7) (oi := _) (v := ?_) rfl (by kernel_rfl) (by kernel_rfl) (by kernel_rfl) (fun _ _ _ h => h) (Or.inl ⟨by rfl, ?_⟩) hHeld ?_
    rotate_left
    · (intro w hSw; obtain ⟨c0, c1, c2, c3⟩ := hSw; go_simp; try with_reducible rfl)
    try simp only [Act.put, List.setIfInBounds_toArray, List.set_cons_zero, List.set_cons_succ, List.getElem_toArray, List.getElem_cons_zero, List.getElem_cons_succ]
    refine wpAnyH_take (i := 8) (oi := _) (v := ?_) rfl (by kernel_rfl) (by kernel_rfl) (by kernel_rfl) (fun _ _ _ h => h) (Or.inl ⟨by rfl, ?_⟩) hHeld ?_
    rotate_left
    · (intro w hSw; obtain ⟨c0, c1, c2, c3⟩ := hSw; go_simp; try with_reducible rfl)
    try simp only [Act.put, List.setIfInBounds_toArray, List.set_cons_zero, List.set_cons_succ, List.getElem_toArray, List.getElem_cons_zero, List.getElem_cons_succ]
    refine wpAnyH_ready (rs := [9]) (by kernel_rfl) (by simp) ?_
    refine AllReadyH.cons (o := _) rfl (fun K hK => ?_) (AllReadyH.nil)
    go_simp
    refine hK.out _ _ (V4.st4 (rb := W.heap.size + 1) (show V4 W.heap.size (.int .i64 t.kind) (.string t.name) (.int .i64 t.n) (.slice g t.args.length c) W5 from hHeld) (by omega) (.int .i64 X.kind) (.string X.name) (.int .i64 X.n) (.slice gx X.args.length cx)) (fun hHeld => ?_)
    clear hK K
    try simp only [Act.put, List.setIfInBounds_toArray, List.set_cons_zero, List.set_cons_succ, List.getElem_toArray, List.getElem_cons_zero, List.getElem_cons_succ]
    refine wpAnyH_ready (rs := [10]) (by kernel_rfl) (by simp) ?_
    refine AllReadyH.cons (o := _) rfl (fun K hK => ?_) (AllReadyH.nil)
    go_simp
    refine hK.out _ _ (hHeld) (fun hHeld => ?_)
    clear hK K
    try simp only [Act.put, List.setIfInBounds_toArray, List.set_cons_zero, List.set_cons_succ, List.getElem_toArray, List.getElem_cons_zero, List.getElem_cons_succ]
    refine wpAnyH_done (by kernel_rfl) ?_ _
    have hfin : AppPostP l σ t W (.returned (.tuple #[.agg #[.int .i64 X.kind, .string X.name, .int .i64 X.n, .slice gx X.args.length cx], .int .i64 E])) (set4 W5 (W.heap.size + 1) (.int .i64 X.kind) (.string X.name) (.int .i64 X.n) (.slice gx X.args.length cx)) := by
      refine ⟨X, E, gx, cx, rfl, Tm.innP_same (fun b hb' => ⟨by have := hb'.1; omega, by rw [set4_size]; exact hb'.2⟩) (fun b o v hb' hc => ?_) _ _ HX5.out, set4_below HB5.out (by omega) _ _ _ _, HSP.out⟩
      have hne : b ≠ W.heap.size + 1 := by have := hb'.1; omega
      exact (World.cell?_of_block (a := ⟨b, o, none⟩) (set4_blk W5 _ _ _ _ hne)).trans hc
    have HFIN := Lib.hid hfin
    clear hfin hHeld
    go_wp2_with fail
    refine bodyPost_ret (v := .tuple #[.agg #[.int .i64 X.kind, .string X.name, .int .i64 X.n, .slice gx X.args.length cx], .int .i64 E]) (by simp [results, Try.results41, go_sem, c0, c1, c2, c3]) rfl ?_
    exact HFIN.out
end Go.Proofs.Ytgnbjhiafjpokaa
