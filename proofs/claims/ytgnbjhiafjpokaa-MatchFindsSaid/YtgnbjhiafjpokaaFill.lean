/-
  The program's Fill: a pattern filled, in new memory.
-/
import Derived.Test.YtgnbjhiafjpokaaRepl
import Derived.Test.YtgnbjhiafjpokaaApart
namespace Go.Proofs.Ytgnbjhiafjpokaa
open Go.RowKit Go.Shelf Go.Maps

theorem al4b (w : World) (a0 a1 a2 a3 : Obj) : Below w.heap.size w ((((w.alloc a0).alloc a1).alloc a2).alloc a3) ∧ ((((w.alloc a0).alloc a1).alloc a2).alloc a3).heap[w.heap.size]? = some a0 ∧
    ((((w.alloc a0).alloc a1).alloc a2).alloc a3).heap[w.heap.size + 1]? = some a1 ∧ ((((w.alloc a0).alloc a1).alloc a2).alloc a3).heap[w.heap.size + 1 + 1]? = some a2 ∧
    ((((w.alloc a0).alloc a1).alloc a2).alloc a3).heap[w.heap.size + 1 + 1 + 1]? = some a3 ∧ ((((w.alloc a0).alloc a1).alloc a2).alloc a3).heap.size = w.heap.size + 4 := by
  refine ⟨(((((Below.refl _ _).alloc (Nat.le_refl _) _).alloc (by simp) _).alloc (by simp; omega) _).alloc (by simp; omega) _), ?_, ?_, ?_, ?_, by simp⟩
  · rw [Below.heap_alloc _ _ _ (by simp <;> omega), Below.heap_alloc _ _ _ (by simp <;> omega), Below.heap_alloc _ _ _ (by simp)]
    exact newBlk _ _ _ rfl
  · rw [Below.heap_alloc _ _ _ (by simp <;> omega), Below.heap_alloc _ _ _ (by simp)]
    exact newBlk _ _ _ (by simp)
  · rw [Below.heap_alloc _ _ _ (by simp)]
    exact newBlk _ _ _ (by simp)
  · exact newBlk _ _ _ (by simp)

set_option maxRecDepth 100000 in
set_option maxHeartbeats 2000000 in
theorem replaced_any (p : Tm) (l : List Bd) (B m K : Nat) (w : World) (sp : Value) (hf : p.fair = true) (hM : MapT w m K B l) (hB : B ≤ w.heap.size) (hin : Tm.inn w B p sp) :
    Calls Try.prog 73 #[.agg #[.int .i64 p.kind, .string p.name, .int .i64 p.n, sp], .map (some m)] w fun e w' => ReplPost B (p.bnd (subF l)) w e w' := by
  obtain ⟨g, c, rfl⟩ := inn_slice hin
  obtain ⟨hb4, k0, k1, k2, k3, hsz⟩ := al4b w (.cells #[.int .i64 p.kind, .string p.name, .int .i64 p.n, .slice g p.args.length c] 27) (.cells #[.map (some m)] 77) (.cells #[.int .i64 0, .string ⟨#[]⟩, .int .i64 0, .slice none 0 0] 27)
    (.cells #[.func (.func 93) #[] #[.pointer (some ⟨w.heap.size + 1, 0, none⟩), .pointer (some ⟨w.heap.size + 1 + 1 + 1, 0, none⟩)]] 76)
  obtain ⟨W, hW⟩ : ∃ W, ((((w.alloc (.cells #[.int .i64 p.kind, .string p.name, .int .i64 p.n, .slice g p.args.length c] 27)).alloc (.cells #[.map (some m)] 77)).alloc (.cells #[.int .i64 0, .string ⟨#[]⟩, .int .i64 0, .slice none 0 0] 27)).alloc
    (.cells #[.func (.func 93) #[] #[.pointer (some ⟨w.heap.size + 1, 0, none⟩), .pointer (some ⟨w.heap.size + 1 + 1 + 1, 0, none⟩)]] 76)) = W := ⟨_, rfl⟩
  rw [hW] at hb4 k0 k1 k2 k3 hsz
  have hcl := repl_any l B m (w.heap.size + 1) (w.heap.size + 1 + 1 + 1) K p W _ hf ⟨k1, k3, hM.next hb4 hB, by omega⟩ (Tm.inn_below hin hb4 hB)
  obtain ⟨u, hu⟩ : ∃ u, p.bnd (subF l) = u := ⟨_, rfl⟩
  rw [hu] at hcl ⊢
  have HCL := Lib.hid hcl
  have HB4 := Lib.hid hb4
  have HW := Lib.hid hW
  have HK2 := Lib.hid k2
  have HSZ := Lib.hid hsz
  clear hcl hb4 hW k0 k1 k2 k3 hsz hM hin hf hu
  go_enter Try.func73, Try.ntmps73
  go_wp2_with fail
  rw [HW.out]
  refine HCL.out.mono ?_
  rintro e w6 ⟨gu, cu, rfl, hpi, hb6⟩
  have hsz := HSZ.out
  have hs6 : w.heap.size + 4 ≤ w6.heap.size := by have := hb6.size; omega
  have hr6 := (hb6.block _ (by omega)).trans HK2.out
  obtain ⟨⟨c0, c1, c2, c3⟩, f0, f1, f2, f3⟩ := row4 hr6
  have HPI := Lib.hid hpi
  have HB6 := Lib.hid (HB4.out.trans (hb6.mono (by omega)))
  clear hpi hb6 hr6 HCL hsz
  go_wp2_with fail
  have hfin : Tm.innP (set4 w6 (w.heap.size + 1 + 1) (.int .i64 u.kind) (.string u.name) (.int .i64 u.n) (.slice gu u.args.length cu)) (fun b => b < B ∨ (w.heap.size ≤ b ∧ b < (set4 w6 (w.heap.size + 1 + 1) (.int .i64 u.kind) (.string u.name) (.int .i64 u.n) (.slice gu u.args.length cu)).heap.size)) u (.slice gu u.args.length cu) := by
    refine Tm.innP_same (fun b hb => ?_) (fun b o v hb hc => ?_) _ _ HPI.out
    · rw [set4_size]
      have := HSZ.out
      omega
    · have hne : b ≠ w.heap.size + 1 + 1 := by have := HSZ.out; omega
      exact (World.cell?_of_block (a := ⟨b, o, none⟩) (set4_blk w6 _ _ _ _ hne)).trans hc
  have HFIN := Lib.hid hfin
  clear hfin
  refine bodyPost_ret (v := .agg #[.int .i64 u.kind, .string u.name, .int .i64 u.n, .slice gu u.args.length cu]) (by simp [results, Try.results73, go_sem, c0, c1, c2, c3]) rfl ?_
  exact ⟨gu, cu, rfl, HFIN.out, set4_below HB6.out (by omega) _ _ _ _⟩

/-! ### given -/
/-- The row of binds read so far, as a map: right as long as each variable had one bind. -/
def GivAt (W : World) (m B : Nat) (l : List Bd) : Prop :=
  ∃ D, W.ownsMap Try.prog 3 heldElem m l.length D ∧ (∀ v, (Lit.int .i64 v).wf = true → has D (.int .i64 v) = decide (v ∈ l.map Bd.v)) ∧ size D ≤ l.length ∧ (size D = l.length ↔ OnceB l) ∧
    (OnceB l → ∀ v, (Lit.int .i64 v).wf = true → (∀ p, place l v = some p → ∃ sv, (∀ zd, D.atKey (.int .i64 v) zd = .held (.agg #[.int .i64 (tAt l p).kind, .string (tAt l p).name, .int .i64 (tAt l p).n, sv])) ∧ Tm.inn W B (tAt l p) sv) ∧ (place l v = none → ∀ zd, D.atKey (.int .i64 v) zd = zd))
theorem onceB_iff {l : List Bd} : OnceB l ↔ (l.map Bd.v).Nodup := by
  constructor
  · intro h
    rw [List.nodup_iff_pairwise_ne, List.pairwise_iff_getElem]
    intro i j hi hj hij he
    simp only [List.length_map] at hi hj
    simp only [List.getElem_map] at he
    have h1 := h i hi
    have h2 := h j hj
    rw [he, h2] at h1
    exact absurd (Option.some.inj h1) (by omega)
  · intro h i hi
    refine place_is hi rfl fun j hj he => ?_
    rw [List.nodup_iff_pairwise_ne, List.pairwise_iff_getElem] at h
    have := h j i (by simp; omega) (by simpa using hi) hj
    simp only [List.getElem_map] at this
    exact this he
theorem onceB_app {l : List Bd} {b : Bd} : OnceB (l ++ [b]) ↔ OnceB l ∧ b.v ∉ l.map Bd.v := by
  rw [onceB_iff, onceB_iff, List.map_append, List.nodup_append]
  simp only [List.map_cons, List.map_nil, List.nodup_cons, List.not_mem_nil, not_false_eq_true, List.nodup_nil, and_true, true_and, List.mem_singleton]
  constructor
  · rintro ⟨h1, h2⟩
    exact ⟨h1, fun hm => h2 _ hm _ rfl rfl⟩
  · rintro ⟨h1, h2⟩
    exact ⟨h1, fun a ha c hc e => h2 (by rw [hc] at e; exact e ▸ ha)⟩
theorem GivAt.start (w : World) (B : Nat) : GivAt (w.alloc (.map #[] 0)) w.heap.size B [] :=
  ⟨.map [], World.ownsMap_made w _ _ _, fun v _ => rfl, Nat.le_refl _, ⟨fun _ => onceB_nil, fun _ => rfl⟩, fun _ v _ => ⟨(fun p hp => by cases hp), fun _ zd => by simp [DataW.atKey]⟩⟩
theorem GivAt.next {W W' : World} {m B : Nat} {l : List Bd} (h : GivAt W m B l) (hb : Below W.heap.size W W') (hB : B ≤ W.heap.size) : GivAt W' m B l := by
  obtain ⟨D, ⟨es, ck, h1, r⟩, h2, h3, h4, h5⟩ := h
  have hm : m < W.heap.size := (Array.getElem?_eq_some_iff.1 h1).1
  refine ⟨D, ⟨es, ck, (hb.block m hm).trans h1, r⟩, h2, h3, h4, fun ho v hv => ⟨fun p hp => ?_, (h5 ho v hv).2⟩⟩
  obtain ⟨sv, e1, e2⟩ := (h5 ho v hv).1 p hp
  exact ⟨sv, e1, Tm.inn_below e2 hb hB⟩
theorem GivAt.put {W2 W3 : World} {m B : Nat} {l : List Bd} {v : Int} {t : Tm} {sv : Value} {D : DataW Value} (hown : W2.ownsMap Try.prog 3 heldElem m l.length D) (h2 : ∀ v, (Lit.int .i64 v).wf = true → has D (.int .i64 v) = decide (v ∈ l.map Bd.v)) (h3 : size D ≤ l.length) (h4 : size D = l.length ↔ OnceB l)
    (h5 : OnceB l → ∀ v, (Lit.int .i64 v).wf = true → (∀ p, place l v = some p → ∃ sv, (∀ zd, D.atKey (.int .i64 v) zd = .held (.agg #[.int .i64 (tAt l p).kind, .string (tAt l p).name, .int .i64 (tAt l p).n, sv])) ∧ Tm.inn W2 B (tAt l p) sv) ∧ (place l v = none → ∀ zd, D.atKey (.int .i64 v) zd = zd))
    (hBm : B ≤ m) (hv : (Lit.int .i64 v).wf = true) (hin : Tm.inn W2 B t sv)
    (hown3 : W3.ownsMap Try.prog 3 heldElem m (l.length + 1) (D.put (.int .i64 v) (.held (.agg #[.int .i64 t.kind, .string t.name, .int .i64 t.n, sv])))) (hg : W2.grownBy W3 (some m)) : GivAt W3 m B (l ++ [⟨v, t⟩]) := by
  have hs := size_put (k := .int .i64 v) (hown.tidy (Maps.int_keyed Try.underlying3)) (.held (.agg #[.int .i64 t.kind, .string t.name, .int .i64 t.n, sv]))
  rw [h2 v hv] at hs
  refine ⟨_, by simpa using hown3, fun u hu => ?_, ?_, ?_, fun ho => ?_⟩
  · by_cases e : u = v
    · subst e
      rw [has_put_same hown.isMap (by simp [WideAt.IsKeyLit])]
      simp
    · rw [has_put_other (by simpa using e), h2 u hu]
      simp [e]
  · rw [hs]
    simp only [List.length_append, List.length_singleton]
    split <;> omega
  · rw [hs, onceB_app, List.length_append, List.length_singleton]
    by_cases hm : v ∈ l.map Bd.v
    · simp only [hm, decide_true, if_true, not_true_eq_false, and_false, iff_false]
      omega
    · simp only [hm, decide_false, not_false_eq_true, and_true]
      rw [← h4]
      simp
  · have ho' := onceB_app.1 ho
    have h6 := h5 ho'.1
    have hp : place l v = none := place_mem.2 ho'.2
    have hb0 : Below B W2 W2 := Below.refl _ _
    exact mapT_put_row hown.isMap h6 hb0 hBm hp hin hg

/-- What given tells. -/
def GivenPost (w : World) (l : List Bd) (e : Ending) (w' : World) : Prop :=
  Below w.heap.size w w' ∧ ((okL l ∧ ∃ m K, e = .returned (.tuple #[.map (some m), .bool true]) ∧ MapT w' m K w.heap.size l) ∨ (¬ okL l ∧ ∃ mv, e = .returned (.tuple #[.map mv, .bool false])))
theorem okL_cut {l : List Bd} {k : Nat} (hk : k < l.length) (h : ¬ (0 ≤ l[k].v ∧ l[k].v < 1000000 ∧ l[k].t.right = true)) : ¬ okL l := fun ho => h ⟨(ho k hk).1, (ho k hk).2.1, (ho k hk).2.2.2⟩
set_option maxRecDepth 100000 in
set_option maxHeartbeats 4000000 in
theorem given_any (l : List Bd) (w : World) (sv : Value) (hsl : bdsIn w w.heap.size l sv) (hsz : ∀ b ∈ l, b.t.size ≤ 1000000) (hl : l.length ≤ 1000000) :
    Calls Try.prog 72 #[sv] w fun e w' => GivenPost w l e w' := by
  obtain ⟨g, cap, rfl, hcap, hlen, hwf, _⟩ := id hsl
  have HSL := Lib.hid hsl
  have HWF := Lib.hid hwf
  have HSZ := Lib.hid hsz
  clear hsl hwf hsz
  have hmk := @run_makeMap Try.prog
  go_enter Try.func72, Try.ntmps72
  go_wp2_with fail
  go_loopw [6, 10] (fun _ ii wr => ∃ k : Nat, k ≤ l.length ∧ ii = .int .i64 (k : Nat) ∧ Hid (∀ j (h : j < l.length), j < k → 0 ≤ l[j].v ∧ l[j].v < 1000000 ∧ l[j].t.right = true) ∧ Hid (GivAt wr w.heap.size w.heap.size (l.take k)) ∧ Hid (Below w.heap.size w wr)) (fun _ ii _ => l.length - (intOf ii).toNat)
  case atStart => exact ⟨0, Nat.zero_le _, rfl, (fun j _ h => by omega), GivAt.start w _, (Below.refl _ _).alloc (Nat.le_refl _) _⟩
  case round =>
    obtain ⟨k, hk, rfl, hp, hgv, hb⟩ := hrel
    have HP := Lib.hid hp.out
    have HG := Lib.hid hgv.out
    have HB := Lib.hid hb.out
    clear hp hgv hb
    have hbs := HB.out.size
    by_cases hlt : k < l.length
    · obtain ⟨b, off, sv, hgt, hbB, g0, g1, g2, g3, g4, hin⟩ := bdsIn_get (bdsIn_below HSL.out HB.out (Nat.le_refl _)) k hlt
      subst hgt
      obtain ⟨gx, cx, rfl⟩ := inn_slice hin
      have hwfk := HWF.out _ (List.getElem_mem hlt)
      have hszk := HSZ.out _ (List.getElem_mem hlt)
      have hcut := okL_cut hlt
      have htk : l.take (k + 1) = l.take k ++ [l[k]] := List.take_succ_eq_append_getElem hlt
      obtain ⟨x, hx⟩ : ∃ x, l[k] = x := ⟨_, rfl⟩
      rw [hx] at g0 g1 g2 g3 g4 hin hwfk hszk hcut htk
      have hlen2 : (l.take k).length = k := by rw [List.length_take]; omega
      have hal : Below wr.heap.size wr (wr.alloc (.cells #[.int .i64 x.v, .int .i64 x.t.kind, .string x.t.name, .int .i64 x.t.n, .slice gx x.t.args.length cx] 33)) := (Below.refl _ _).alloc (Nat.le_refl _) _
      have hbw : b < wr.heap.size := by omega
      have HX := Lib.hid hx
      have HIN := Lib.hid hin
      have HCUT := Lib.hid hcut
      have HTK := Lib.hid htk
      have HWK := Lib.hid hwfk
      have HAL := Lib.hid hal
      have HL2 := Lib.hid hlen2
      clear hx hin hcut htk hwfk hal hlen2
      by_cases h0 : 0 ≤ x.v
      · have h0f : (x.v < 0) = False := by simpa using h0
        by_cases h1 : x.v < 1000000
        · have h1f : decide (1000000 ≤ x.v) = false := decide_eq_false (by omega)
          go_wp2_with fail
          refine (tright_any x.t _ _ (Tm.inn_mono (Tm.inn_below HIN.out (HAL.out.mono hbs) (Nat.le_refl _)) (by simp; omega)) hszk).mono ?_
          rintro e w2 ⟨rfl, hb2⟩
          have hs2 : wr.heap.size + 1 ≤ w2.heap.size := by have := hb2.size; simpa using this
          have hb2' : Below wr.heap.size wr w2 := HAL.out.trans (hb2.mono (by simp))
          obtain ⟨⟨m0, m1, m2, m3, m4⟩, _⟩ := row5 ((hb2.block wr.heap.size (by simp)).trans (newBlk wr _ wr.heap.size rfl))
          have HB2 := Lib.hid (HB.out.trans (hb2'.mono hbs))
          have HG2 := Lib.hid (HG.out.next hb2' hbs)
          have HIN2 := Lib.hid (Tm.inn_below HIN.out (hb2'.mono hbs) (Nat.le_refl _))
          clear hb2 hb2' HAL HIN HG
          cases hq : x.t.right with
          | false =>
            have HF := Lib.hid (show GivenPost w l (.returned (.tuple #[.map none, .bool false])) w2 from ⟨HB2.out, .inr ⟨HCUT.out (fun h => by rw [hq] at h; exact absurd h.2.2 (by decide)), none, rfl⟩⟩)
            clear hq
            go_wp2_with fail
            go_ret2
            exact HF.out
          | true =>
            obtain ⟨D, hown, h2, h3, h4, h5⟩ := HG2.out
            have HQ := Lib.hid hq
            have HOWN := Lib.hid hown
            have H2 := Lib.hid h2
            have H3 := Lib.hid h3
            have H4 := Lib.hid h4
            have H5 := Lib.hid h5
            have hkm : (l.take k).length < maxLen := by have := HL2.out; unfold maxLen; omega
            have HKM := Lib.hid hkm
            clear hq hown h2 h3 h4 h5 hkm
            go_wp2_with (at_mapUpdate; refine wpList_mapUpdate_own _ rfl _ _ _ 77 rfl 3 27 (Maps.int_keyed Try.underlying3) Try.underlying77 _ w.heap.size (l.take k).length _ rfl HOWN.out HKM.out _ _ _ rfl rfl (Maps.keyOf_int_mk Try.underlying3 HWK.out) (.held (.agg #[.int .i64 x.t.kind, .string x.t.name, .int .i64 x.t.n, .slice gx x.t.args.length cx])) [] rfl ?_; intro w3 hown3 hgrow3)
            go_roundw
            case rel =>
              refine ⟨k + 1, by omega, by go_num, fun j hj hjk => ?_, ?_, HB2.out.grown hgrow3 (by omega) (fun j e => by cases e; exact Nat.le_refl _)⟩
              · by_cases hjj : j < k
                · exact HP.out j hj hjj
                · obtain rfl : j = k := by omega
                  rw [HX.out]; exact ⟨h0, h1, HQ.out⟩
              · rw [HTK.out]
                exact GivAt.put HOWN.out H2.out H3.out H4.out H5.out (Nat.le_refl _) HWK.out HIN2.out hown3 hgrow3
            case measure => simp [intOf]; omega
        · have h1f : decide (1000000 ≤ x.v) = true := decide_eq_true (by omega)
          have HF := Lib.hid (show GivenPost w l (.returned (.tuple #[.map none, .bool false])) (wr.alloc (.cells #[.int .i64 x.v, .int .i64 x.t.kind, .string x.t.name, .int .i64 x.t.n, .slice gx x.t.args.length cx] 33)) from ⟨HB.out.alloc hbs _, .inr ⟨HCUT.out (fun h => h1 h.2.1), none, rfl⟩⟩)
          go_wp2_with fail
          go_ret2
          exact HF.out
      · have HF := Lib.hid (show GivenPost w l (.returned (.tuple #[.map none, .bool false])) (wr.alloc (.cells #[.int .i64 x.v, .int .i64 x.t.kind, .string x.t.name, .int .i64 x.t.n, .slice gx x.t.args.length cx] 33)) from ⟨HB.out.alloc hbs _, .inr ⟨HCUT.out (fun h => h0 h.1), none, rfl⟩⟩)
        go_wp2_with fail
        go_ret2
        exact HF.out
    · obtain rfl : k = l.length := by omega
      have hgl := HG.out
      rw [List.take_length] at hgl
      obtain ⟨D, hown, h2, h3, h4, h5⟩ := hgl
      have hfin : GivenPost w l (.returned (.tuple #[.map (some w.heap.size), .bool (((size D : Nat) : Int) == (l.length : Int))])) wr := by
        refine ⟨HB.out, ?_⟩
        by_cases ho : OnceB l
        · have hok : okL l := fun i hi => ⟨(HP.out i hi hi).1, (HP.out i hi hi).2.1, ho i hi, (HP.out i hi hi).2.2⟩
          have hsd := h4.2 ho
          refine .inl ⟨hok, w.heap.size, l.length, by rw [hsd]; simp, D, hown, h5 ho⟩
        · have hsd : size D ≠ l.length := fun e => ho (h4.1 e)
          refine .inr ⟨fun hk => ho fun i hi => (hk i hi).2.2.1, some w.heap.size, ?_⟩
          have : (((size D : Nat) : Int) == (l.length : Int)) = false := by rw [beq_eq_false_iff_ne]; omega
          rw [this]
      have HF := Lib.hid hfin
      have HOWN := Lib.hid hown
      clear hfin hown h2 h3 h4 h5 HG
      have hln := HOWN.out.len Try.underlying77 3
      go_wp2_with fail
      go_ret2
      exact HF.out

/-! ### Fill -/
def FillSpec (l : List Bd) (p X : Tm) (E : Int) : Prop :=
  (¬ (okL l ∧ p.right = true) ∧ X = kZ ∧ E = 1) ∨ ((okL l ∧ p.right = true) ∧ (((p.bnd (subF l)).right = false ∧ X = kZ ∧ E = 3) ∨ ((p.bnd (subF l)).right = true ∧ X = p.bnd (subF l) ∧ E = 0)))
def FillPost (l : List Bd) (p : Tm) (w : World) (e : Ending) (w' : World) : Prop :=
  ∃ X E g c, e = .returned (.tuple #[.agg #[.int .i64 X.kind, .string X.name, .int .i64 X.n, .slice g X.args.length c], .int .i64 E]) ∧ Tm.inn w' w'.heap.size X (.slice g X.args.length c) ∧ Below w.heap.size w w' ∧ FillSpec l p X E
theorem FillPost.zero {l : List Bd} {p : Tm} {w w' : World} {e : Ending} {E : Int} (he : e = .returned (.tuple #[.agg #[.int .i64 0, .string ⟨#[]⟩, .int .i64 0, .slice none 0 0], .int .i64 E])) (hb : Below w.heap.size w w') (hs : FillSpec l p kZ E) : FillPost l p w e w' :=
  ⟨kZ, E, none, 0, he, Tm.inn_mk.2 ⟨⟨by decide, Nat.zero_le _, by decide⟩, none, 0, rfl, Nat.le_refl _, Nat.zero_le _, .inl rfl⟩, hb, hs⟩
set_option maxRecDepth 100000 in
set_option maxHeartbeats 4000000 in
theorem fill_any (p : Tm) (l : List Bd) (w : World) (sp sl : Value) (hinp : Tm.inn w w.heap.size p sp) (hsl : bdsIn w w.heap.size l sl) (hsp : p.size ≤ 1000000) (hsz : ∀ b ∈ l, b.t.size ≤ 1000000) (hl : l.length ≤ 1000000) (hsu : p.right = true → okL l → (p.bnd (subF l)).size ≤ 1000000) :
    Calls Try.prog 48 #[.agg #[.int .i64 p.kind, .string p.name, .int .i64 p.n, sp], sl] w fun e w' => FillPost l p w e w' := by
  obtain ⟨g, c, rfl⟩ := inn_slice hinp
  obtain ⟨gl, cl, rfl, _, _, _, _⟩ := id hsl
  obtain ⟨W0, hW⟩ : ∃ W0, (w.alloc (.cells #[.int .i64 p.kind, .string p.name, .int .i64 p.n, .slice g p.args.length c] 27)).alloc (.cells #[.int .i64 0, .string ⟨#[]⟩, .int .i64 0, .slice none 0 0] 27) = W0 := ⟨_, rfl⟩
  have hb0 : Below w.heap.size w W0 := by rw [← hW]; exact al2 _ _ _
  have k0 : W0.heap[w.heap.size]? = some (.cells #[.int .i64 p.kind, .string p.name, .int .i64 p.n, .slice g p.args.length c] 27 (0, 0)) := by rw [← hW, Below.heap_alloc _ _ _ (by simp)]; exact newBlk _ _ _ rfl
  have k1 : W0.heap[w.heap.size + 1]? = some (.cells #[.int .i64 0, .string ⟨#[]⟩, .int .i64 0, .slice none 0 0] 27 (0, 0)) := by rw [← hW]; exact newBlk _ _ _ (by simp)
  have hs0 : W0.heap.size = w.heap.size + 2 := by rw [← hW]; simp
  have hg0 := given_any l W0 _ (bdsIn_held hsl hb0) hsz hl
  have HG := Lib.hid hg0
  have HB0 := Lib.hid hb0
  have HK0 := Lib.hid k0
  have HK1 := Lib.hid k1
  have HS0 := Lib.hid hs0
  have HW := Lib.hid hW
  have HIN := Lib.hid hinp
  have HSU := Lib.hid hsu
  clear hg0 hb0 k0 k1 hs0 hW hinp hsl hsz hsu
  go_enter Try.func48, Try.ntmps48
  go_wp2_with fail
  rw [HW.out]
  refine HG.out.mono ?_
  rintro e w1 ⟨hb1, hcase⟩
  have hs1 : w.heap.size + 2 ≤ w1.heap.size := by have := hb1.size; have := HS0.out; omega
  have hs0 := HS0.out
  have hr1 := (hb1.block (w.heap.size + 1) (by omega)).trans HK1.out
  have hp1 := (hb1.block w.heap.size (by omega)).trans HK0.out
  have HB1 := Lib.hid (HB0.out.trans (hb1.mono (by omega)))
  have HP1 := Lib.hid hp1
  have HR1 := Lib.hid hr1
  obtain ⟨⟨c0, c1, c2, c3⟩, f0, f1, f2, f3⟩ := row4 hr1
  obtain ⟨⟨p0, p1, p2, p3⟩, _⟩ := row4 hp1
  clear hb1 hr1 hp1 HG hs0
  rcases hcase with ⟨hok, m, K, rfl, hM⟩ | ⟨hok, mv, rfl⟩
  · have HOK := Lib.hid hok
    have HM := Lib.hid hM
    clear hok hM
    go_wp2_with fail
    refine (tright_any p w1 _ (Tm.inn_mono (Tm.inn_below HIN.out HB1.out (Nat.le_refl _)) (by omega)) hsp).mono ?_
    rintro e w2 ⟨rfl, hb2⟩
    have hs2 := hb2.size
    have hr2 := (hb2.block (w.heap.size + 1) (by omega)).trans HR1.out
    have hp2 := (hb2.block w.heap.size (by omega)).trans HP1.out
    have HB2 := Lib.hid (HB1.out.trans (hb2.mono (by omega)))
    have HM2 := Lib.hid (HM.out.next hb2 (by have := HS0.out; omega))
    have HR2 := Lib.hid hr2
    clear hb2 c0 c1 c2 c3 f0 f1 f2 f3 p0 p1 p2 p3 HP1 HR1 HM HB1
    obtain ⟨⟨c0, c1, c2, c3⟩, f0, f1, f2, f3⟩ := row4 hr2
    obtain ⟨⟨p0, p1, p2, p3⟩, _⟩ := row4 hp2
    clear hr2 hp2
    cases hq : p.right with
    | false =>
      have HSP := Lib.hid (show FillSpec l p kZ 1 from .inl ⟨(fun h => absurd h.2 (by rw [hq]; decide)), rfl, rfl⟩)
      clear hq
      go_wp2_with fail
      refine bodyPost_ret (v := .tuple #[.agg #[.int .i64 0, .string ⟨#[]⟩, .int .i64 0, .slice none 0 0], .int .i64 1]) (by simp [results, Try.results48, go_sem, c0, c1, c2, c3]) rfl ?_
      exact FillPost.zero rfl (set4_below HB2.out (by omega) _ _ _ _) HSP.out
    | true =>
      have HQ := Lib.hid hq
      have hsu := HSU.out hq HOK.out
      clear hq
      go_wp2_with fail
      refine (replaced_any p l W0.heap.size m K w2 _ (right_fair HQ.out) HM2.out (by have := HS0.out; omega) (Tm.inn_mono (Tm.inn_below HIN.out HB2.out (Nat.le_refl _)) (by have := HS0.out; omega))).mono ?_
      rintro e w3 ⟨gu, cu, rfl, hpi, hb3⟩
      obtain ⟨u, hu⟩ : ∃ u, p.bnd (subF l) = u := ⟨_, rfl⟩
      have HU := Lib.hid hu
      rw [hu] at hpi hsu ⊢
      have hs3 := hb3.size
      have hr3 := (hb3.block (w.heap.size + 1) (by omega)).trans HR2.out
      have HB3 := Lib.hid (HB2.out.trans (hb3.mono (by omega)))
      have hi3 : Tm.inn w3 w3.heap.size u (.slice gu u.args.length cu) := Tm.inn_of_P (fun b hb => by have := HS0.out; omega) _ _ hpi
      have BX := Lib.hid (TmBox.new hi3)
      have hr3' := (Below.heap_alloc w3 (Obj.cells #[.int .i64 u.kind, .string u.name, .int .i64 u.n, .slice gu u.args.length cu] 27 (0, 0)) _ (by omega)).trans hr3
      have HR3 := Lib.hid hr3'
      clear hu hpi hb3 hr3 hr3' c0 c1 c2 c3 f0 f1 f2 f3 p0 p1 p2 p3 HR2 HM2 hi3
      go_wp2_with fail
      refine (tright_any u _ _ BX.out.2 hsu).mono ?_
      rintro e w4 ⟨rfl, hb4⟩
      have hs4 : w3.heap.size + 1 ≤ w4.heap.size := by have := hb4.size; simpa using this
      have hr4 := (hb4.block (w.heap.size + 1) (by simp; omega)).trans HR3.out
      have B4 := Lib.hid (BX.out.next hb4)
      have HB4 := Lib.hid ((HB3.out.alloc (by omega) (Obj.cells #[.int .i64 u.kind, .string u.name, .int .i64 u.n, .slice gu u.args.length cu] 27 (0, 0))).trans (hb4.mono (by simp; omega)))
      have HR4 := Lib.hid hr4
      obtain ⟨⟨c0, c1, c2, c3⟩, f0, f1, f2, f3⟩ := row4 hr4
      clear hb4 hr4 BX HB3 HR3
      cases hq : u.right with
      | false =>
        have HSP := Lib.hid (show FillSpec l p kZ 3 from .inr ⟨⟨HOK.out, HQ.out⟩, .inl ⟨by rw [HU.out]; exact hq, rfl, rfl⟩⟩)
        clear hq
        go_wp2_with fail
        refine bodyPost_ret (v := .tuple #[.agg #[.int .i64 0, .string ⟨#[]⟩, .int .i64 0, .slice none 0 0], .int .i64 3]) (by simp [results, Try.results48, go_sem, c0, c1, c2, c3]) rfl ?_
        exact FillPost.zero rfl (set4_below HB4.out (by omega) _ _ _ _) HSP.out
      | true =>
        have HSP := Lib.hid (show FillSpec l p u 0 from .inr ⟨⟨HOK.out, HQ.out⟩, .inr ⟨by rw [HU.out]; exact hq, by rw [HU.out], rfl⟩⟩)
        obtain ⟨u0, u1, u2, u3⟩ := B4.out.cells
        clear hq
        go_wp2_with fail
        refine (apart_any u w4 w4.heap.size _ (Nat.le_refl _) B4.out.2).mono ?_
        rintro e w5 ⟨sv5, rfl, hpi, hb5⟩
        obtain ⟨g5, c5, rfl⟩ := inn_slice (Tm.inn_of_P (B := w5.heap.size) (fun _ h => h.2) _ _ hpi)
        have hs5 := hb5.size
        have hr5 := (hb5.block (w.heap.size + 1) (by omega)).trans HR4.out
        have HB5 := Lib.hid (HB4.out.trans (hb5.mono (by omega)))
        have HPI := Lib.hid hpi
        clear hb5 hpi c0 c1 c2 c3 f0 f1 f2 f3 u0 u1 u2 u3 HB4 B4
        obtain ⟨⟨c0, c1, c2, c3⟩, f0, f1, f2, f3⟩ := row4 hr5
        clear hr5
        have hfin : Tm.inn (set4 w5 (w.heap.size + 1) (.int .i64 u.kind) (.string u.name) (.int .i64 u.n) (.slice g5 u.args.length c5)) (set4 w5 (w.heap.size + 1) (.int .i64 u.kind) (.string u.name) (.int .i64 u.n) (.slice g5 u.args.length c5)).heap.size u (.slice g5 u.args.length c5) := by
          rw [set4_size]
          refine Tm.inn_of_P (ok := fun b => w4.heap.size ≤ b ∧ b < w5.heap.size) (fun b hb => hb.2) _ _ (Tm.innP_same (fun b hb => hb) (fun b o v hb hc => ?_) _ _ HPI.out)
          have hne : b ≠ w.heap.size + 1 := by have := hb.1; omega
          exact (World.cell?_of_block (a := ⟨b, o, none⟩) (set4_blk w5 _ _ _ _ hne)).trans hc
        have HFIN := Lib.hid hfin
        clear hfin
        go_wp2_with fail
        refine bodyPost_ret (v := .tuple #[.agg #[.int .i64 u.kind, .string u.name, .int .i64 u.n, .slice g5 u.args.length c5], .int .i64 0]) (by simp [results, Try.results48, go_sem, c0, c1, c2, c3]) rfl ?_
        exact ⟨u, 0, g5, c5, rfl, HFIN.out, set4_below HB5.out (by omega) _ _ _ _, HSP.out⟩
  · have HSP := Lib.hid (show FillSpec l p kZ 1 from .inl ⟨fun h => hok h.1, rfl, rfl⟩)
    clear hok
    go_wp2_with fail
    refine bodyPost_ret (v := .tuple #[.agg #[.int .i64 0, .string ⟨#[]⟩, .int .i64 0, .slice none 0 0], .int .i64 1]) (by simp [results, Try.results48, go_sem, c0, c1, c2, c3]) rfl ?_
    exact FillPost.zero rfl (set4_below HB1.out (by omega) _ _ _ _) HSP.out
end Go.Proofs.Ytgnbjhiafjpokaa
