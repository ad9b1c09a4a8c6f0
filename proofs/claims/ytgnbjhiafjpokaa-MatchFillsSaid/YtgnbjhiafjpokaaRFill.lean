/-
  The document's own answers for filling a pattern: whether it may be, and what it is.
-/
import Derived.Test.YtgnbjhiafjpokaaRepl
import Derived.Test.YtgnbjhiafjpokaaPlc
namespace Go.Proofs.Ytgnbjhiafjpokaa
open Go.RowKit Go.Shelf Go.Maps

theorem cellsS_set {W : World} {B lo b o : Nat} {v u : Value} {l : List Tm} {xs : List Value} (hB : B ≤ b) (hb : b < lo) (h : Tm.cellsP W (okS B lo W v) l xs) : Tm.cellsP (W.setCell ⟨b, o, none⟩ u) (okS B lo (W.setCell ⟨b, o, none⟩ u) v) l xs :=
  Tm.cellsP_same (fun b' hb' => ⟨hb'.1, by have := hb'.2.1; simp; omega, hb'.2.2⟩) (fun b' o' x hb' hc => (World.cell?_of_block (a := ⟨b', o', none⟩) (Below.heap_setCell _ _ _ _ (by have := hb'.1; show b' ≠ b; omega))).trans hc) l xs h

set_option maxRecDepth 100000 in
set_option maxHeartbeats 4000000 in
theorem rfill_any (l : List Bd) (hll : l.length ≤ 1000000) (B : Nat) (svl : Value) : ∀ (p : Tm) (w : World) (sp : Value), p.fair = true → B ≤ w.heap.size → Tm.inn w B p sp → bdsIn w B l svl →
    Calls Try.prog 50 #[.agg #[.int .i64 p.kind, .string p.name, .int .i64 p.n, sp], svl] w fun e w' => ReplPost B (p.bnd (subF l)) w e w' := by
  refine Tm.ind fun k s n ts ih w sp hf hB hin hsl0 => ?_
  obtain ⟨⟨hwk, hws, hwn⟩, hsl⟩ := Tm.inn_mk.1 hin
  obtain ⟨g, cap, rfl, hcap, hlen, _⟩ := id hsl
  obtain ⟨gl, cl, rfl, _, _, _, _⟩ := id hsl0
  simp only [Tm.kind, Tm.name, Tm.n]
  have hb2 := al2 w (.cells #[.int .i64 k, .string s, .int .i64 n, .slice g ts.length cap] 27) (.cells #[.int .i64 0, .string ⟨#[]⟩, .int .i64 0, .slice none 0 0] 27)
  have HB2 := Lib.hid hb2
  have HL := Lib.hid hsl0
  by_cases hk : k = 1
  · subst hk
    have hpl := place_any l n _ _ (bdsIn_mono (bdsIn_below hsl0 hb2 hB) (Nat.le_trans hB hb2.size)) hll
    cases hp : place l n with
    | some pp =>
      have hpi : placeI l n = (pp : Int) := by simp [placeI, hp]
      rw [hpi] at hpl
      have hplt := (place_some hp).1
      obtain ⟨bo, off, so, hgo, hbo, o0, o1, o2, o3, o4, hino⟩ := bdsIn_get hsl0 pp hplt
      subst hgo
      obtain ⟨gy, cy, rfl⟩ := inn_sl hino
      have hu : (Tm.mk 1 s n ts).bnd (subF l) = l[pp].t := by simp [Tm.bnd, subF, hp, tAt_get hplt]
      rw [hu]
      obtain ⟨t, ht⟩ : ∃ t, l[pp].t = t := ⟨_, rfl⟩
      rw [ht] at o1 o2 o3 o4 hino ⊢
      have HPL := Lib.hid hpl
      have HINO := Lib.hid hino
      have hbw : bo < w.heap.size := by omega
      clear hpl hpi hp hin hsl hsl0 hb2 hu ht hino ih hf hwk hws hwn
      go_enter Try.func50, Try.ntmps50
      go_wp2_with fail
      refine HPL.out.mono ?_
      rintro e w' ⟨rfl, rfl⟩
      go_wp2_with fail
      refine bodyPost_ret (v := .agg #[.int .i64 t.kind, .string t.name, .int .i64 t.n, .slice gy t.args.length cy]) (by simp [results, Try.results50, go_sem]) rfl ?_
      exact ⟨gy, cy, rfl, innP_low (fun b hb => .inl hb) _ _ (Tm.inn_below HINO.out (al2 _ _ _) (by omega)), al2 _ _ _⟩
    | none =>
      have hpi : placeI l n = -1 := by simp [placeI, hp]
      rw [hpi] at hpl
      have hu : (Tm.mk 1 s n ts).bnd (subF l) = .mk 1 s n ts := by
        have := (Tm.fair_var hf).1
        rw [this]
        simp [Tm.bnd, subF, hp, vTm]
      rw [hu]
      have HPL := Lib.hid hpl
      have HIN := Lib.hid hin
      clear hpl hpi hp hin hsl hsl0 hb2 hu ih hf hwk hws hwn
      go_enter Try.func50, Try.ntmps50
      go_wp2_with fail
      refine HPL.out.mono ?_
      rintro e w' ⟨rfl, rfl⟩
      go_wp2_with fail
      refine bodyPost_ret (v := .agg #[.int .i64 1, .string s, .int .i64 n, .slice g ts.length cap]) (by simp [results, Try.results50, go_sem]) rfl ?_
      exact ⟨g, cap, rfl, innP_low (fun b hb => .inl hb) _ _ (Tm.inn_below HIN.out (al2 _ _ _) (by omega)), al2 _ _ _⟩
  · have hkb : (k == 1) = false := by simpa using hk
    have hu : (Tm.mk k s n ts).bnd (subF l) = .mk k s n (Tm.bnds (subF l) ts) := Tm.bnd_kind _ hk
    have HR := Lib.hid hu
    have HH := Lib.hid (show (Lit.int .i64 k).wf = true ∧ s.size ≤ maxLen ∧ (Lit.int .i64 n).wf = true from ⟨hwk, hws, hwn⟩)
    have HSL := Lib.hid hsl
    have HIH := Lib.hid ih
    have HFS := Lib.hid (Tm.fair_alone hf).2.1
    have hl8 := Tm.fair_args hf
    obtain ⟨i0, hi, hz0, hz1, hz2⟩ := info_parts Try.infoTm
    clear hin hsl hsl0 hu ih hf hwk hws hwn hk hb2
    go_enter Try.func50, Try.ntmps50
    go_wp2_with fail
    go_loopw [7] (fun i wr => ∃ (k' : Nat) (gv : Option Addr) (cv : Nat), k' ≤ ts.length ∧ i = .int .i64 k' ∧ Hid (∃ xs, wr.ownsRow (w.heap.size + 3) 27 4 (.slice gv k' cv) k' xs ∧ Tm.cellsP wr (okS B (w.heap.size + 3) wr (.slice gv k' cv)) (Tm.bnds (subF l) (ts.take k')) xs) ∧ Below w.heap.size w wr ∧ w.heap.size + 3 ≤ wr.heap.size ∧
        wr.heap[w.heap.size]? = some (Obj.cells #[.int .i64 k, .string s, .int .i64 n, .slice g ts.length cap] 27 (0, 0)) ∧ wr.heap[w.heap.size + 1]? = some (Obj.cells #[.int .i64 0, .string ⟨#[]⟩, .int .i64 0, .slice none 0 0] 27 (0, 0)) ∧
        wr.heap[w.heap.size + 2]? = some (Obj.cells #[.int .i64 k, .string s, .int .i64 n, .slice gv k' cv] 27 (0, 0))) (fun i _ => ts.length - (intOf i).toNat)
    case atStart =>
      exact ⟨0, none, 0, Nat.zero_le _, rfl, ⟨[], World.ownsRow_nil _ _ _ _, by simp [Tm.bnds, Tm.cellsP]⟩, (((Below.refl _ _).alloc (Nat.le_refl _) _).alloc (by simp) _).alloc (by simp; omega) _, by simp, (Below.heap_alloc _ _ _ (by simp; omega)).trans ((Below.heap_alloc _ _ _ (by simp)).trans (newBlk _ _ _ rfl)), (Below.heap_alloc _ _ _ (by simp)).trans (newBlk _ _ _ (by simp)), newBlk _ _ _ (by simp)⟩
    case round =>
      obtain ⟨k', gv, cv, hk', rfl, hrow, hb, hbs, hbox, hres, hout⟩ := hrel
      have HROW := Lib.hid hrow.out
      have HB := Lib.hid hb
      have HBOX := Lib.hid hbox
      have HRES := Lib.hid hres
      have HOUT := Lib.hid hout
      by_cases hlt : k' < ts.length
      · obtain ⟨b, off, sv, hgt, hbB, g0, g1, g2, g3, hin'⟩ := Tm.sliceIn_get (Tm.sliceIn_below HSL.out hb hB) k' hlt
        subst hgt
        obtain ⟨⟨b0, b1, b2, b3⟩, _⟩ := row4 hbox
        obtain ⟨⟨o0, o1, o2, o3⟩, of0, of1, of2, of3⟩ := row4 hout
        obtain ⟨gt, ct, rfl⟩ := inn_sl hin'
        have hsn := Tm.bnds_take_succ (subF l) ts k' hlt
        have hih := HIH.out _ (List.getElem_mem hlt) wr.drew _ (HFS.out _ (List.getElem_mem hlt)) (Nat.le_trans hB hb.size) (Tm.inn_below hin' ((Below.refl wr.heap.size wr).drew) (Nat.le_trans hB hb.size)) (bdsIn_below (bdsIn_below HL.out hb hB) ((Below.refl wr.heap.size wr).drew) (Nat.le_trans hB hb.size))
        obtain ⟨t, ht⟩ : ∃ t, ts[k'] = t := ⟨_, rfl⟩
        rw [ht] at g0 g1 g2 g3 hin' hsn hih
        obtain ⟨u, hu⟩ : ∃ u, t.bnd (subF l) = u := ⟨_, rfl⟩
        rw [hu] at hsn hih
        have hbw : b < wr.heap.size := by omega
        have HM := Lib.hid hsn
        have hcall := Lib.hid hih
        obtain ⟨xs, hown, hcells⟩ := hrow.out
        have HOWN := Lib.hid (show wr.drew.ownsRow (w.heap.size + 3) 27 4 (.slice gv k' cv) k' xs from hown)
        have HCELLS := Lib.hid hcells
        clear hin' hrow hb hbox hres hout b0 b1 b2 hown hcells hih HIH hsn ht hu HROW
        go_wp2_with fail
        go_region_law (first
            | ((refine step_open (by rfl) ?_; go_simp; go_at_call 50; refine hcall.out.mono ?_; rintro e w2 ⟨ga', ca', rfl, hp, hb2⟩; have d3 : w2.cell? ⟨w.heap.size + 1 + 1, 3, none⟩ = some (.slice gv k' cv) := (hb2.cell (p := ⟨w.heap.size + 2, 3, none⟩) (by exact hbs)).trans o3; have hl2 : w.heap.size + 1 + 1 < w2.heap.size := Nat.lt_of_lt_of_le (by exact hbs) hb2.size))
            | ((refine step_append_term (by rfl) _ _ _ (by rfl) (w.heap.size + 3) 27 i0 _ 56 Try.underlying25 hi hz0 hz1 hz2 rfl (.slice gv k' cv) k' xs (by rfl) ((ownsRow_below HOWN.out hb2).alloc _) _ 1 [.int .i64 u.kind, .string u.name, .int .i64 u.n, .slice ga' u.args.length ca'] (by rfl) rfl news4 one4 (by unfold maxLen; omega) (by omega) (by have := hb2.size; simp at this ⊢; omega) ?_; intro g3 c3 w3 hown3 hgrow hsep; have hB2 : Below wr.heap.size wr w2 := ((Below.refl _ wr).drew).trans hb2; have hq := row4 (blk_step hB2 hgrow HOUT.out (fun e => by have := (HOWN.out.lt _ e).1; omega)); have q3 : w3.cell? ⟨w.heap.size + 1 + 1, 3, none⟩ = some (.slice gv k' cv) := hq.1.2.2.2; have qf3 : w3.frozen? ⟨w.heap.size + 1 + 1, 3, none⟩ = false := hq.2.2.2.2)))
        all_goals go_wp2_with fail
        all_goals have hne : ∀ j, j < w.heap.size + 3 → (Value.slice gv k' cv).ownBlock ≠ some j := fun j hj e => by have := (HOWN.out.lt j e).1; omega
        all_goals have hs2 := hB2.size
        all_goals have hs3 := hgrow.size
        all_goals simp at hs3
        all_goals refine ⟨⟨k' + 1, g3, c3, by omega, by go_num, ⟨_, ownsRow_set hown3 (by omega) _ _, by rw [HM.out]; exact cellsS_set (by omega) (by omega) (row_step_s (show wr.ownsRow _ _ _ _ _ _ from HOWN.out) HCELLS.out hB2 (by omega) (by omega) hp hgrow hsep)⟩, (((HB.out.trans (hB2.mono HB.out.size)).alloc (by omega) _).grown hgrow (by simp; omega) (fun j e => by have := (HOWN.out.lt j e).1; omega)).setCell (p := ⟨w.heap.size + 1 + 1, 3, none⟩) (by show w.heap.size ≤ w.heap.size + 1 + 1; omega) _, by simp; omega, (Below.heap_setCell _ _ _ _ (by simp; omega)).trans (blk_step hB2 hgrow HBOX.out (hne _ (by omega))), (Below.heap_setCell _ _ _ _ (by simp)).trans (blk_step hB2 hgrow HRES.out (hne _ (by omega))), set1_same (blk_step hB2 hgrow HOUT.out (hne _ (by omega))) _⟩, ?_⟩
        all_goals simp [intOf]
        all_goals omega
      · obtain rfl : k' = ts.length := by omega
        obtain ⟨xs, hown, hcells⟩ := HROW.out
        obtain ⟨⟨c0, c1, c2, c3⟩, f0, f1, f2, f3⟩ := row4 hres
        obtain ⟨⟨o0, o1, o2, o3⟩, _⟩ := row4 hout
        obtain ⟨⟨b0, b1, b2, b3⟩, _⟩ := row4 hbox
        rw [List.take_length] at hcells
        have hlen2 : (Tm.bnds (subF l) ts).length = ts.length := Tm.bnds_length _ _
        have hsp : Tm.sliceP (set4 wr (w.heap.size + 1) (.int .i64 k) (.string s) (.int .i64 n) (.slice gv ts.length cv)) (fun b => b < B ∨ (w.heap.size ≤ b ∧ b < (set4 wr (w.heap.size + 1) (.int .i64 k) (.string s) (.int .i64 n) (.slice gv ts.length cv)).heap.size)) (Tm.bnds (subF l) ts) (.slice gv ts.length cv) := by
          have h1 := Tm.sliceP_of_owns (ok' := okS B (w.heap.size + 3) wr (.slice none 0 0)) (by rw [hlen2]; exact hown) hcells (by omega) (fun b hb => ⟨hb.1, hb.2.1, by simp [Value.ownBlock]⟩) (fun b hb => ⟨.inr (hown.lt b hb).1, (hown.lt b hb).2, by simp [Value.ownBlock]⟩)
          refine Tm.sliceP_same (fun t _ sv h => Tm.innP_same (ok := okS B (w.heap.size + 3) wr (.slice none 0 0)) (fun b hb => ?_) (fun b o u hb hc => ?_) t sv h) (fun b hb => ?_) (fun b o u hb hc => ?_) h1
          · rw [set4_size]; have := hb.1; have := hb.2.1; omega
          · have hne : b ≠ w.heap.size + 1 := by have := hb.1; omega
            exact (World.cell?_of_block (a := ⟨b, o, none⟩) (set4_blk wr _ _ _ _ hne)).trans hc
          · rw [set4_size]; have := hb.1; have := hb.2.1; omega
          · have hne : b ≠ w.heap.size + 1 := by have := hb.1; omega
            exact (World.cell?_of_block (a := ⟨b, o, none⟩) (set4_blk wr _ _ _ _ hne)).trans hc
        have HSP := Lib.hid hsp
        have HLEN := Lib.hid hlen2
        clear hown hcells hrow hbox hres hout hb HROW HIH hsp hlen2
        go_wp2_with fail
        refine bodyPost_ret (v := .agg #[.int .i64 k, .string s, .int .i64 n, .slice gv ts.length cv]) (by simp [results, Try.results50, go_sem, c0, c1, c2, c3]) rfl ?_
        rw [HR.out]
        refine ⟨gv, cv, ?_, ?_, set4_below HB.out (by omega) _ _ _ _⟩
        · show Ending.returned (.agg #[.int .i64 k, .string s, .int .i64 n, .slice gv ts.length cv]) = Ending.returned (.agg #[.int .i64 k, .string s, .int .i64 n, .slice gv (Tm.bnds (subF l) ts).length cv])
          rw [HLEN.out]
        · rw [Tm.innP_mk]
          refine ⟨HH.out, ?_⟩
          show Tm.sliceP _ _ _ (.slice gv (Tm.bnds (subF l) ts).length cv)
          rw [HLEN.out]
          exact HSP.out

/-! ### May -/
def MayPost (p : Tm) (l : List Bd) (w : World) (e : Ending) (w' : World) : Prop := ∃ q : Bool, e = .returned (.bool q) ∧ Below w.heap.size w w' ∧ (q = true ↔ p.right = true ∧ okL l)
theorem placeI_self {l : List Bd} {k : Nat} (hk : k < l.length) : placeI l l[k].v = (k : Int) ↔ place l l[k].v = some k := by
  unfold placeI
  cases hp : place l l[k].v with
  | none => simp
  | some q =>
    simp only [Option.some.injEq]
    omega
set_option maxRecDepth 100000 in
set_option maxHeartbeats 4000000 in
theorem may_any (p : Tm) (l : List Bd) (w : World) (sp sl : Value) (hinp : Tm.inn w w.heap.size p sp) (hsl : bdsIn w w.heap.size l sl) (hsp : p.size ≤ 1000000) (hsz : ∀ b ∈ l, b.t.size ≤ 1000000) (hl : l.length ≤ 1000000) :
    Calls Try.prog 49 #[.agg #[.int .i64 p.kind, .string p.name, .int .i64 p.n, sp], sl] w fun e w' => MayPost p l w e w' := by
  obtain ⟨g, c, rfl⟩ := inn_sl hinp
  obtain ⟨gl, cl, rfl, _, _, _, _⟩ := id hsl
  have hb0 := (Below.refl w.heap.size w).alloc (Nat.le_refl _) (.cells #[.int .i64 p.kind, .string p.name, .int .i64 p.n, .slice g p.args.length c] 27)
  have hin0 := Tm.inn_mono (Tm.inn_below hinp hb0 (Nat.le_refl _)) hb0.size
  have HSL := Lib.hid hsl
  have HSZ := Lib.hid hsz
  have HIN0 := Lib.hid hin0
  have HB0 := Lib.hid hb0
  clear hinp hsl hsz hb0 hin0
  go_enter Try.func49, Try.ntmps49
  go_wp2_with fail
  refine (rright_any p _ _ _ (Nat.le_refl _) HIN0.out hsp).mono ?_
  rintro e w1 ⟨rfl, hb1⟩
  have HB1 := Lib.hid (HB0.out.trans (hb1.mono (by simp)))
  clear hb1 HIN0
  cases hq : p.right with
  | false =>
    have HF := Lib.hid (show MayPost p l w (.returned (.bool false)) w1 from ⟨false, rfl, HB1.out, ⟨(fun h => by cases h), fun h => by rw [hq] at h; cases h.1⟩⟩)
    clear hq
    go_wp2_with fail
    go_ret
    exact HF.out
  | true =>
    have HQ := Lib.hid hq
    clear hq
    go_wp2_with fail
    go_loopw [5] (fun ii wr => ∃ k : Nat, k ≤ l.length ∧ ii = .int .i64 (k : Nat) ∧ Hid (∀ j (h : j < l.length), j < k → 0 ≤ l[j].v ∧ l[j].v < 1000000 ∧ l[j].t.right = true ∧ place l l[j].v = some j) ∧ Hid (Below w.heap.size w wr)) (fun ii _ => l.length - (intOf ii).toNat)
    case atStart => exact ⟨0, Nat.zero_le _, rfl, (fun j _ h => by omega), HB1.out⟩
    case round =>
      obtain ⟨k, hk, rfl, hp, hb⟩ := hrel
      have HP := Lib.hid hp.out
      have HB := Lib.hid hb.out
      clear hp hb
      have hbs := HB.out.size
      by_cases hlt : k < l.length
      · obtain ⟨b, off, sv, hgt, hbB, g0, g1, g2, g3, g4, hin⟩ := bdsIn_get (bdsIn_below HSL.out HB.out (Nat.le_refl _)) k hlt
        subst hgt
        obtain ⟨gx, cx, rfl⟩ := inn_sl hin
        have hszk := HSZ.out _ (List.getElem_mem hlt)
        have hno : ¬ (0 ≤ l[k].v ∧ l[k].v < 1000000 ∧ l[k].t.right = true ∧ place l l[k].v = some k) → ∀ w', Below w.heap.size w w' → MayPost p l w (.returned (.bool false)) w' := fun h w' hb => ⟨false, rfl, hb, ⟨(fun h => by cases h), fun hh => absurd ⟨(hh.2 k hlt).1, (hh.2 k hlt).2.1, (hh.2 k hlt).2.2.2, (hh.2 k hlt).2.2.1⟩ h⟩⟩
        have hps := placeI_self hlt
        obtain ⟨x, hx⟩ : ∃ x, l[k] = x := ⟨_, rfl⟩
        rw [hx] at g0 g1 g2 g3 g4 hin hszk hno hps
        have hbw : b < wr.heap.size := by omega
        have HX := Lib.hid hx
        have HIN := Lib.hid hin
        have HNO := Lib.hid hno
        have HPS := Lib.hid hps
        clear hx hin hno hps
        by_cases h0 : 0 ≤ x.v
        · have h0f : (x.v < 0) = False := by simpa using h0
          by_cases h1 : x.v < 1000000
          · have h1f : decide (1000000 ≤ x.v) = false := decide_eq_false (by omega)
            go_wp2_with fail
            refine (rright_any x.t wr w.heap.size _ hbs HIN.out hszk).mono ?_
            rintro e w2 ⟨rfl, hb2⟩
            have HB2 := Lib.hid (HB.out.trans (hb2.mono hbs))
            have d0 := (hb2.cell (p := ⟨b, off + k * 5, none⟩) hbw).trans g0
            have hs2 := hb2.size
            clear hb2
            cases hq : x.t.right with
            | false =>
              have HF := Lib.hid (HNO.out (fun h => by rw [hq] at h; cases h.2.2.1) _ HB2.out)
              clear hq
              go_wp2_with fail
              go_ret
              exact HF.out
            | true =>
              have HQ2 := Lib.hid hq
              have hpl := place_any l x.v w2 _ (bdsIn_mono (bdsIn_below HSL.out HB2.out (Nat.le_refl _)) (by omega)) hl
              obtain ⟨pi, hpi⟩ : ∃ pi, placeI l x.v = pi := ⟨_, rfl⟩
              rw [hpi] at hpl HPS
              have HPL := Lib.hid hpl
              clear hq hpl hpi
              go_wp2_with fail
              refine HPL.out.mono ?_
              rintro e w3 ⟨rfl, rfl⟩
              by_cases hpk : pi = (k : Int)
              · have hpb : (pi != (k : Int)) = false := by simpa using hpk
                have HPK := Lib.hid (HPS.out.1 hpk)
                clear hpk
                go_wp2_with fail
                go_roundw
                case rel =>
                  refine ⟨k + 1, by omega, by go_num, fun j hj hjk => ?_, HB2.out⟩
                  by_cases hjj : j < k
                  · exact HP.out j hj hjj
                  · obtain rfl : j = k := by omega
                    rw [HX.out]; exact ⟨h0, h1, HQ2.out, HPK.out⟩
                case measure => simp [intOf]; omega
              · have hpb : (pi != (k : Int)) = true := by simpa using hpk
                have HF := Lib.hid (HNO.out (fun h => hpk (HPS.out.2 h.2.2.2)) _ HB2.out)
                clear hpk
                go_wp2_with fail
                go_ret
                exact HF.out
          · have h1f : decide (1000000 ≤ x.v) = true := decide_eq_true (by omega)
            have HF := Lib.hid (HNO.out (fun h => h1 h.2.1) _ HB.out)
            go_wp2_with fail
            go_ret
            exact HF.out
        · have HF := Lib.hid (HNO.out (fun h => h0 h.1) _ HB.out)
          go_wp2_with fail
          go_ret
          exact HF.out
      · obtain rfl : k = l.length := by omega
        have HF := Lib.hid (show MayPost p l w (.returned (.bool true)) wr from ⟨true, rfl, HB.out, ⟨fun _ => ⟨HQ.out, fun i hi => ⟨(HP.out i hi hi).1, (HP.out i hi hi).2.1, (HP.out i hi hi).2.2.2, (HP.out i hi hi).2.2.1⟩⟩, fun _ => rfl⟩⟩)
        go_wp2_with fail
        go_ret
        exact HF.out
end Go.Proofs.Ytgnbjhiafjpokaa
