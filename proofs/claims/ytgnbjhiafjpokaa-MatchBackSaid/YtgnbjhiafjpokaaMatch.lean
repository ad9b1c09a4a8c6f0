/-
  The program's Match: the values of a pattern's variables, in new memory.
-/
import Derived.Test.YtgnbjhiafjpokaaFound
import Derived.Test.YtgnbjhiafjpokaaFlat
import Derived.Test.YtgnbjhiafjpokaaRowT
namespace Go.Proofs.Ytgnbjhiafjpokaa
open Go.RowKit Go.Shelf Go.Maps

theorem wpList_lookup_tm1 (w : World) {ops : Array Oper} {rest : List Oper} {o : Oper} {a : Act} {Q : Exit → Act → World → Prop}
    (hg : o.guard = none) (m x : Operand) (hop : o.op = Op.lookup 77 m x false) (b n : Nat) (D : DataW Value) (hm : a.eval m = .map (some b)) (hown : w.ownsMap Try.prog 3 heldElem b n D)
    (v : Int) (hx : a.eval x = .int .i64 v) (hwf : (Lit.int .i64 v).wf = true) (u : Value) (hat : ∀ zd, D.atKey (.int .i64 v) zd = .held u)
    (hK : wpList Try.prog ops Q rest (a.put o.dst u) w) : wpList Try.prog ops Q (o :: rest) a w := by
  refine wpList_plain hg fun K' hK' => ?_
  obtain ⟨c, ps, hrun, hv⟩ := hown.lookup (Maps.int_keyed Try.underlying3) Try.underlying77 (Try.zeroTm w) (zd := .held zeroV) (zp := []) rfl (Maps.keyOf_int_mk Try.underlying3 hwf)
  simp only [heldElem, Option.some.injEq, Prod.mk.injEq] at hv
  rw [hat] at hv
  have hcu : c = u := by
    have := hv.1
    simpa only [DataW.held.injEq] using this
  subst hcu
  unfold Oper.wp
  simp [execOp, hop, hm, hx, hrun, Result.andThen]
  exact hK' _ _ hK

def MatchPost (w : World) (p t : Tm) (e : Ending) (w' : World) : Prop :=
  Below w.heap.size w w' ∧ ((¬ (p.right = true ∧ t.right = true) ∧ e = .returned (.tuple #[.slice none 0 0, .bool false, .int .i64 1])) ∨ ((p.right = true ∧ t.right = true) ∧ ((∃ l sv, p.meet t [] = some l ∧ e = .returned (.tuple #[sv, .bool true, .int .i64 0]) ∧ bdsIn w' w'.heap.size l sv) ∨
    (p.meet t [] = none ∧ e = .returned (.tuple #[.slice none 0 0, .bool false, .int .i64 0])))))
set_option maxRecDepth 100000 in
set_option maxHeartbeats 4000000 in
theorem match_any (p t : Tm) (w : World) (sp st : Value) (hinp : Tm.inn w w.heap.size p sp) (hint : Tm.inn w w.heap.size t st) (hsp : p.size ≤ 1000000) (hst : t.size ≤ 1000000) :
    Calls Try.prog 44 #[.agg #[.int .i64 p.kind, .string p.name, .int .i64 p.n, sp], .agg #[.int .i64 t.kind, .string t.name, .int .i64 t.n, st]] w fun e w' => MatchPost w p t e w' := by
  have hst0 := TSt.start hinp hint
  obtain ⟨g, c, rfl⟩ := inn_slice hinp
  obtain ⟨g', c', rfl⟩ := inn_slice hint
  obtain ⟨W0, hW⟩ : ∃ W0, ((w.alloc (Obj.cells #[.int .i64 p.kind, .string p.name, .int .i64 p.n, .slice g p.args.length c] 27 (0, 0))).alloc (Obj.cells #[.int .i64 t.kind, .string t.name, .int .i64 t.n, .slice g' t.args.length c'] 27 (0, 0))) = W0 := ⟨_, rfl⟩
  rw [hW] at hst0
  have HW := Lib.hid hW
  have A0 := Lib.hid hst0
  clear hint hinp hW hst0
  obtain ⟨i0, hi, hz0, hz1, hz2⟩ := info_parts Try.infoBd
  go_enter Try.func44, Try.ntmps44
  go_wp2_with fail
  rw [HW.out]
  refine (tright_any p W0 _ A0.out.ia hsp).mono ?_
  rintro e W1 ⟨rfl, hb1⟩
  have A1 := Lib.hid (A0.out.next hb1)
  clear hb1 A0
  cases hp : p.right with
  | false =>
    have HF := Lib.hid (show MatchPost w p t (.returned (.tuple #[.slice none 0 0, .bool false, .int .i64 1])) W1 from ⟨A1.out.below, .inl ⟨(fun h => absurd h.1 (by rw [hp]; decide)), rfl⟩⟩)
    clear hp
    go_wp2_with fail
    go_ret3
    exact HF.out
  | true =>
    obtain ⟨a0, a1, a2, a3, b0, b1, b2, b3, _⟩ := A1.out.cells
    have HP := Lib.hid hp
    clear hp
    go_wp2_with fail
    refine (tright_any t W1 _ A1.out.ib hst).mono ?_
    rintro e W2 ⟨rfl, hb2⟩
    have A2 := Lib.hid (A1.out.next hb2)
    clear hb2 A1 a0 a1 a2 a3 b0 b1 b2 b3
    cases ht : t.right with
    | false =>
      have HF := Lib.hid (show MatchPost w p t (.returned (.tuple #[.slice none 0 0, .bool false, .int .i64 1])) W2 from ⟨A2.out.below, .inl ⟨(fun h => absurd h.2 (by rw [ht]; decide)), rfl⟩⟩)
      clear ht
      go_wp2_with fail
      go_ret3
      exact HF.out
    | true =>
      obtain ⟨a0, a1, a2, a3, b0, b1, b2, b3, _⟩ := A2.out.cells
      have HT := Lib.hid ht
      clear ht
      go_wp2_with fail
      refine (found_any p t W2 _ _ A2.out.ia A2.out.ib hsp).mono ?_
      rintro e W3 ⟨q, m, rfl, hb3, hcase⟩
      have A3 := Lib.hid (A2.out.next hb3)
      have hs23 := hb3.size
      clear hb3 a0 a1 a2 a3 b0 b1 b2 b3
      rcases hcase with ⟨rfl, l, K, hl, hK, hM, hm⟩ | ⟨rfl, hl⟩
      · obtain ⟨honce, hvars, hrights, _⟩ := meet_right HP.out HT.out hl
        have hok := meet_okL HP.out HT.out hl
        have hll : l.length ≤ p.size := by
          have h1 := varsOf_length [p]
          rw [← hvars] at h1
          simpa [Tm.sizes] using h1
        have HL := Lib.hid hl
        have HV := Lib.hid hvars
        have HON := Lib.hid honce
        have HOK := Lib.hid hok
        have HM3 := Lib.hid hM
        obtain ⟨a0, a1, a2, a3, b0, b1, b2, b3, _⟩ := A3.out.cells
        clear hl hvars honce hok hM hrights A2
        go_wp2_with fail
        have hone := one_slice (newBlk W3 (.cells #[.int .i64 p.kind, .string p.name, .int .i64 p.n, .slice g p.args.length c] 27 (0, 0)) _ rfl) (A3.out.next ((Below.refl _ _).alloc (Nat.le_refl _) (.cells #[.int .i64 p.kind, .string p.name, .int .i64 p.n, .slice g p.args.length c] 27 (0, 0)))).ia
        refine (tvars_any [p] _ _ hone (by simp [Tm.sizes]; omega)).mono ?_
        rintro e W4 ⟨vv, rfl, hints, hb4, _⟩
        obtain ⟨gv, cv, rfl, hcv, hlv, _⟩ := id hints
        have hb34 : Below W3.heap.size W3 W4 := ((Below.refl _ _).alloc (Nat.le_refl _) (.cells #[.int .i64 p.kind, .string p.name, .int .i64 p.n, .slice g p.args.length c] 27 (0, 0))).trans (hb4.mono (by simp))
        have A4 := Lib.hid (A3.out.next hb34)
        have M4 := Lib.hid (HM3.out.next hb34 hs23)
        rw [← HV.out] at hints hcv ⊢
        rw [List.length_map] at hcv ⊢
        have HI := Lib.hid hints
        have hs34 := hb34.size
        clear hone hints hb4 hb34 hlv A3 HM3 a0 a1 a2 a3 b0 b1 b2 b3
        go_wp2_with fail
        go_loopw [9, 11, 32] (fun v _ ii wr => ∃ k : Nat, k ≤ l.length ∧ ii = .int .i64 (k : Nat) ∧ Hid (∃ xs, wr.ownsRow W4.heap.size 33 5 v k xs ∧ cellsB wr (okRow W4.heap.size wr v) (l.take k) xs) ∧ Hid (Below W4.heap.size W4 wr)) (fun _ _ ii _ => l.length - (intOf ii).toNat)
        case atStart => exact ⟨0, Nat.zero_le _, rfl, ⟨[], World.ownsRow_nil _ _ _ _, by simp [cellsB]⟩, Below.refl _ _⟩
        case round =>
          obtain ⟨k, hk, rfl, hrow, hb⟩ := hrel
          have HROW := Lib.hid hrow.out
          have HB := Lib.hid hb.out
          clear hrow hb
          have hbs := HB.out.size
          by_cases hkl : k < l.length
          · obtain ⟨bv, ov, hgv, hbv, gc⟩ := intsIn_get (intsIn_below HI.out HB.out (Nat.le_refl _)) k (by simpa using hkl)
            rw [List.getElem_map] at gc
            subst hgv
            have hmr := M4.out.next HB.out (by omega)
            obtain ⟨D, hown, hD⟩ := hmr
            have hwf := okL_wf HOK.out _ (List.getElem_mem hkl)
            obtain ⟨sv, hat, hin⟩ := (hD _ hwf).1 k (HON.out k hkl)
            rw [tAt_get hkl] at hat hin
            obtain ⟨gx, cx, rfl⟩ := inn_slice hin
            obtain ⟨x, hx⟩ : ∃ x, l[k] = x := ⟨_, rfl⟩
            rw [hx] at hat hin hwf gc
            have hcp := apart_any x.t wr W2.heap.size _ (by omega) hin
            have HCP := Lib.hid hcp
            have HAT := Lib.hid hat
            have HWF := Lib.hid hwf
            have HX := Lib.hid hx
            have HDO := Lib.hid hown
            clear hcp hat hin hwf hx hown hD
            go_wp2_with (at_lookup; refine wpList_lookup_tm1 _ rfl _ _ rfl m K D rfl HDO.out x.v rfl HWF.out _ HAT.out ?_)
            refine HCP.out.mono ?_
            rintro e w5 ⟨sv', rfl, hpi, hb5⟩
            obtain ⟨gy, cy, rfl⟩ := inn_slice (Tm.inn_of_P (B := w5.heap.size) (fun _ h => h.2) _ _ hpi)
            obtain ⟨xs, hown, hcells⟩ := HROW.out
            have HOWN := Lib.hid hown
            have HCELLS := Lib.hid hcells
            have HOWN5 := Lib.hid (ownsRow_below hown hb5)
            have HPI := Lib.hid hpi
            have HB5 := Lib.hid hb5
            have hs5 := hb5.size
            clear hown hcells hpi hb5 HROW HCP
            go_wp2_with (at_builtin; refine wpList_append_sep _ rfl _ _ 22 rfl W4.heap.size 33 i0 _ 5 64 Try.underlying22 hi hz0 hz1 hz2 rfl (by decide) u9 k xs rfl (HOWN5.out.alloc _) ⟨w5.heap.size, 0, none⟩ 1 1 [.int .i64 x.v, .int .i64 x.t.kind, .string x.t.name, .int .i64 x.t.n, .slice gy x.t.args.length cy] rfl (by decide) rfl (news5 _ (by simp)) one5 (by unfold maxLen; omega) (by omega) (by simp; omega) ?_; intro v' w6 hown6 hgrow hsep)
            go_roundw
            case rel =>
              refine ⟨k + 1, by omega, by go_num, ⟨_, hown6, ?_⟩, ((HB.out.trans (HB5.out.mono hbs)).alloc (by omega) _).grown hgrow (by simp; omega) (fun j e => (HOWN.out.lt j e).1)⟩
              have htk : l.take (k + 1) = l.take k ++ [x] := by rw [List.take_succ_eq_append_getElem hkl, HX.out]
              rw [htk]
              exact brow_step (x := x) HOWN.out HCELLS.out HB5.out hbs HPI.out hgrow hsep
            case measure => simp [intOf]; omega
          · obtain rfl : k = l.length := by omega
            obtain ⟨xs, hown, hcells⟩ := HROW.out
            obtain ⟨gr, cr, rfl⟩ := owns_slice hown
            rw [List.take_length] at hcells
            have hbds := bds_of_owns (g := gr) (c := cr) (l := l) hown hcells (by omega) (fun b hb => hb.2.1) (okL_wf HOK.out)
            have HF := Lib.hid (show MatchPost w p t (.returned (.tuple #[.slice gr l.length cr, .bool true, .int .i64 0])) wr from ⟨(A4.out.next HB.out).below, .inr ⟨⟨HP.out, HT.out⟩, .inl ⟨l, _, HL.out, rfl, hbds⟩⟩⟩)
            clear hown hcells HROW hbds
            go_wp2_with fail
            go_ret3
            exact HF.out
      · have HF := Lib.hid (show MatchPost w p t (.returned (.tuple #[.slice none 0 0, .bool false, .int .i64 0])) W3 from ⟨A3.out.below, .inr ⟨⟨HP.out, HT.out⟩, .inr ⟨hl, rfl⟩⟩⟩)
        clear hl
        go_wp2_with fail
        go_ret3
        exact HF.out
end Go.Proofs.Ytgnbjhiafjpokaa
