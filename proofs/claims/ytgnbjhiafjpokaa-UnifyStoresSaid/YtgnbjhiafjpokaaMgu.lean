/-
  The program's Mgu, of terms that are right.
-/
import Derived.Test.YtgnbjhiafjpokaaSUnify
namespace Go.Proofs.Ytgnbjhiafjpokaa
open Go.RowKit Go.Shelf Go.Maps

def MguPost (W : World) (V : List Int) (a b : Tm) (e : Ending) (W' : World) : Prop :=
  Below W.heap.size W W' ∧ ((∃ (l : List Bd) (sv : Value), e = .returned (.tuple #[sv, .bool true, .int .i64 0]) ∧ bdsIn W' W'.heap.size l sv ∧ MguOf [] a b l ∧ inV V l) ∨ (e = .returned (.tuple #[.slice none 0 0, .bool false, .int .i64 0]) ∧ NoMgu [] a b))
set_option maxRecDepth 100000 in
set_option maxHeartbeats 8000000 in
theorem mgu_any {W : World} {V : List Int} (hVl : V.length ≤ 300) {a b : Tm} {sva svb : Value} (hra : a.right = true) (hrb : b.right = true) (hVa : ∀ v ∈ a.vs, v ∈ V) (hVb : ∀ v ∈ b.vs, v ∈ V) (hina : Tm.inn W W.heap.size a sva) (hinb : Tm.inn W W.heap.size b svb) :
    Calls Try.prog 32 #[.agg #[.int .i64 a.kind, .string a.name, .int .i64 a.n, sva], .agg #[.int .i64 b.kind, .string b.name, .int .i64 b.n, svb]] W fun e W' => MguPost W V a b e W' := by
  obtain ⟨ga, ca, rfl⟩ := inn_sl hina
  obtain ⟨gb, cb, rfl⟩ := inn_sl hinb
  obtain ⟨W0, hW0⟩ : ∃ W0, (W.alloc (.cells #[.int .i64 a.kind, .string a.name, .int .i64 a.n, .slice ga a.args.length ca] 27)).alloc (.cells #[.int .i64 b.kind, .string b.name, .int .i64 b.n, .slice gb b.args.length cb] 27) = W0 := ⟨_, rfl⟩
  have hb0 : Below W.heap.size W W0 := by rw [← hW0]; exact al2 _ _ _
  have hba : W0.heap[W.heap.size]? = some (.cells #[.int .i64 a.kind, .string a.name, .int .i64 a.n, .slice ga a.args.length ca] 27 (0, 0)) := by rw [← hW0, Below.heap_alloc _ _ _ (by simp)]; exact newBlk _ _ _ rfl
  have hbb : W0.heap[W.heap.size + 1]? = some (.cells #[.int .i64 b.kind, .string b.name, .int .i64 b.n, .slice gb b.args.length cb] 27 (0, 0)) := by rw [← hW0]; exact newBlk _ _ _ (by simp)
  have hs0 : W0.heap.size = W.heap.size + 2 := by rw [← hW0]; simp
  have hnew := new_any W0 W.heap.size (by omega)
  have hun : ∀ w1 : World, Below W0.heap.size W0 w1 → Str w1 W.heap.size W0.heap.size [] 0 (.slice none 0 0) (.map none) [] → Calls Try.prog 39 #[.pointer (some ⟨W0.heap.size, 0, none⟩), .agg #[.int .i64 a.kind, .string a.name, .int .i64 a.n, .slice ga a.args.length ca], .agg #[.int .i64 b.kind, .string b.name, .int .i64 b.n, .slice gb b.args.length cb]] w1 fun e W' => UniPost w1 W.heap.size W0.heap.size [] 0 (.slice none 0 0) (.map none) V a b e W' := fun w1 h1 h2 =>
    sunify_any h2 (fun b hb => by cases hb) hVl (by omega) hra hrb hVa hVb (Tm.inn_below (Tm.inn_below hina hb0 (Nat.le_refl _)) h1 (by omega)) (Tm.inn_below (Tm.inn_below hinb hb0 (Nat.le_refl _)) h1 (by omega))
  have HNEW := Lib.hid hnew
  have HUN := Lib.hid hun
  have HB0 := Lib.hid hb0
  have HBA := Lib.hid hba
  have HBB := Lib.hid hbb
  have HS0 := Lib.hid hs0
  have HW0 := Lib.hid hW0
  clear hnew hun hb0 hba hbb hs0 hW0 hina hinb hVa hVb hra hrb
  go_enter Try.func32, Try.ntmps32
  go_upto_region 1 with fail
  rw [HW0.out]
  go_wp2_with fail
  refine HNEW.out.mono ?_
  rintro e w1 ⟨rfl, hb1, hst1⟩
  have hs0 := HS0.out
  obtain ⟨⟨p0, p1, p2, p3⟩, _⟩ := row4 ((hb1.block (W.heap.size + 1) (by omega)).trans HBB.out)
  obtain ⟨⟨r0, r1, r2, r3⟩, _⟩ := row4 ((hb1.block W.heap.size (by omega)).trans HBA.out)
  have HU1 := Lib.hid (HUN.out w1 hb1 hst1)
  have HB1 := Lib.hid hb1
  have HST1 := Lib.hid hst1
  clear hb1 hst1 HNEW HUN hs0
  go_wp2_with fail
  refine HU1.out.mono ?_
  rintro e w2 ⟨q, l', K', svS', mv', xs', rfl, hstr, hsfr, hK', hVl', hcase⟩
  have hbw : Below W.heap.size W w2 := by
    have h0 := HB0.out
    have h1 := HB1.out
    have hs0 := HS0.out
    have hs1 := h1.size
    refine (h0.trans (h1.mono (by omega))).trans ⟨hsfr.os, hsfr.tape, hsfr.output, hsfr.size, fun b hb => hsfr.block b (by omega) (fun ho => ?_)⟩
    rcases ho with e | e | e
    · omega
    · cases e
    · cases e
  have HBW := Lib.hid hbw
  rcases hcase with ⟨rfl, hmg, _⟩ | ⟨rfl, hno, _⟩
  · have HMG := Lib.hid hmg
    have HSTR := Lib.hid hstr
    have HVL := Lib.hid hVl'
    obtain ⟨⟨c0, c1⟩, _⟩ := row2 hstr.mem.box
    obtain ⟨gS, cS, hS⟩ := hstr.mem.slice
    subst hS
    have hll := hstr.mem.len
    have hbl2 := hstr.mem.low.box
    clear hmg hstr hVl' hsfr hbw HU1 p0 p1 p2 p3 r0 r1 r2 r3
    go_wp2_with fail
    go_loopw [10, 29] (fun v ii wr => ∃ k : Nat, k ≤ l'.length ∧ ii = .int .i64 (k : Nat) ∧ Hid (∃ xs, wr.ownsRow w2.heap.size 33 5 v k xs ∧ cellsB wr (okRow w2.heap.size wr v) (l'.take k) xs) ∧ Hid (Below w2.heap.size w2 wr)) (fun _ ii _ => l'.length - (intOf ii).toNat)
    case atStart => exact ⟨0, Nat.zero_le _, rfl, ⟨[], World.ownsRow_nil _ _ _ _, by simp [cellsB]⟩, Below.refl _ _⟩
    case round =>
      obtain ⟨k, hk, rfl, hrow, hb⟩ := hrel
      have HROW := Lib.hid hrow.out
      have HB := Lib.hid hb.out
      clear hrow hb
      have hbs := HB.out.size
      by_cases hkl : k < l'.length
      · obtain ⟨g', c', sv, e1, _, _, g0, g1, g2, g3, g4, hin⟩ := (HSTR.out.mem.next HB.out).get k hkl
        injection e1 with e1 e2 e3
        subst e1
        obtain ⟨gx, cx, rfl⟩ := inn_sl hin
        obtain ⟨x, hx⟩ : ∃ x, l'[k] = x := ⟨_, rfl⟩
        rw [hx] at g0 g1 g2 g3 g4 hin
        have hal : Below wr.heap.size wr (wr.alloc (.cells #[.int .i64 x.v, .int .i64 x.t.kind, .string x.t.name, .int .i64 x.t.n, .slice gx x.t.args.length cx] 33)).drew := ((Below.refl _ _).alloc (Nat.le_refl _) _).drew
        have hWw : W.heap.size ≤ wr.heap.size := by have := HBW.out.size; omega
        have hcp := apart_any x.t (wr.alloc (.cells #[.int .i64 x.v, .int .i64 x.t.kind, .string x.t.name, .int .i64 x.t.n, .slice gx x.t.args.length cx] 33)).drew W.heap.size _ (Nat.le_trans hWw hal.size) (Tm.inn_below hin hal hWw)
        obtain ⟨xs, hown, hcells⟩ := HROW.out
        have HCP := Lib.hid hcp
        have HAL := Lib.hid hal
        have HX := Lib.hid hx
        have HOWN := Lib.hid hown
        have HCELLS := Lib.hid hcells
        have hk0 : (0 : Int) ≤ (k : Int) := by omega
        have hk1 : (k : Int) < (l'.length : Int) := by omega
        clear hin hx hal hcp hown hcells HROW e2 e3
        go_wp2_with fail
        go_region_law (first
          | (refine step_open (by rfl) ?_; go_simp; go_at_call 52; refine HCP.out.mono ?_; rintro e w3 ⟨sv', rfl, hpi, hb3⟩; obtain ⟨gy, cy, rfl⟩ := inn_sl (Tm.inn_of_P (B := w3.heap.size) (fun _ h => h.2) _ _ hpi); obtain ⟨⟨m0, m1, m2, m3, m4⟩, _⟩ := row5 ((hb3.block wr.heap.size (by show wr.heap.size < (wr.alloc _).heap.size; simp)).trans (newBlk wr _ wr.heap.size rfl)); have hs3 : wr.heap.size ≤ w3.heap.size := Nat.le_trans HAL.out.size hb3.size; have HR3 := Lib.hid (ownsRow_below HOWN.out (HAL.out.trans (hb3.mono HAL.out.size))); have HPI := Lib.hid hpi; have HB3 := Lib.hid hb3; clear hpi hb3)
          | (refine step_append_row (by rfl) _ _ (by rfl) Try.underlying22 Try.infoBd rfl (by decide) w2.heap.size u10 k xs (by rfl) (World.ownsRow.alloc HR3.out _) w3.heap.size 1 [.int .i64 x.v, .int .i64 x.t.kind, .string x.t.name, .int .i64 x.t.n, .slice gy x.t.args.length cy] (by rfl) rfl (news_any _ (by first | rfl | simp)) (by simp [Value.oneCell']) (by unfold maxLen; omega) (by omega) (by simp; omega) ?_; intro g5 c5 w5 hown5 hgrow5 hsep5))
        all_goals go_wp2_with fail
        all_goals have htk : l'.take (k + 1) = l'.take k ++ [x] := by rw [List.take_succ_eq_append_getElem hkl, HX.out]
        all_goals have hwb : Below wr.heap.size wr w3 := HAL.out.trans (HB3.out.mono HAL.out.size)
        all_goals have hpi2 := Tm.innP_same (w' := w3) (ok' := fun b => wr.heap.size ≤ b ∧ b < w3.heap.size) (fun b hb' => ⟨Nat.le_trans HAL.out.size hb'.1, hb'.2⟩) (fun b o v _ hc => hc) _ _ HPI.out
        all_goals have hcl := brow_step (x := x) (v' := .slice (some ⟨g5, 0, none⟩) (k + 1) c5) HOWN.out HCELLS.out hwb HB.out.size hpi2 hgrow5 (hsep5.imp (fun e => e.symm) (fun e b e' => by
          have : g5 = b := Option.some.inj e'
          omega))
        all_goals rw [← htk] at hcl
        all_goals have hbl5 : Below w2.heap.size w2 w5 := ((HB.out.trans (hwb.mono HB.out.size)).alloc (by omega) _).grown hgrow5 (by simp; omega) (fun j e => (HOWN.out.lt j e).1)
        all_goals have hms : l'.length - (intOf (Value.int IntKind.i64 (↑k + 1))).toNat < l'.length - (intOf (Value.int IntKind.i64 ↑k)).toNat := by clear hcl hbl5 hown5 hgrow5 hsep5 hpi2 hwb htk; simp [intOf]; omega
        all_goals exact ⟨⟨k + 1, hkl, rfl, ⟨_, hown5, hcl⟩, hbl5⟩, hms⟩
      · obtain rfl : k = l'.length := by omega
        obtain ⟨xs, hown, hcells⟩ := HROW.out
        rw [List.take_of_length_le (Nat.le_refl _)] at hcells
        obtain ⟨gr, cr, hsv⟩ : ∃ gr cr, u10 = .slice gr l'.length cr := by
          rcases hown.2 with ⟨e, h0⟩ | ⟨g, cap, cur, e, _⟩
          · exact ⟨none, 0, by rw [e, h0]⟩
          · exact ⟨_, _, e⟩
        subst hsv
        have hbds := bds_of_owns hown hcells (by omega) (fun b hb => hb.2.1) (okL_wf HSTR.out.mem.ok)
        have hfin : MguPost W V a b (.returned (.tuple #[.slice gr l'.length cr, .bool true, .int .i64 0])) wr := ⟨HBW.out.trans (HB.out.mono HBW.out.size), .inl ⟨l', _, rfl, hbds, HMG.out, HVL.out⟩⟩
        have HFIN := Lib.hid hfin
        clear hfin hbds hown hcells
        go_wp2_with fail
        go_ret3
        exact HFIN.out
  · have hfin : MguPost W V a b (.returned (.tuple #[.slice none 0 0, .bool false, .int .i64 0])) w2 := ⟨hbw, .inr ⟨rfl, hno⟩⟩
    have HFIN := Lib.hid hfin
    clear hfin hno hstr hsfr hVl' hbw HU1
    go_wp2_with fail
    go_ret3
    exact HFIN.out
end Go.Proofs.Ytgnbjhiafjpokaa
