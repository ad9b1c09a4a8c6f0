/-
  The statement TermShifts, walked: for any term that lies in memory and any two numbers the call returns true, and nothing that was there has turned.
-/
import Derived.Test.YtkmaaaednbjjkaaPureShift
import Derived.Test.YtkmaaaednbjjkaaRefE
import Derived.Test.YtkmaaaednbjjkaaRefC
namespace Go.Proofs.Ytkmaaaednbjjkaa
open Go.RowKit

/-- A term in a box of its own. -/
def TmBox (W : World) (B : Nat) (t : Tm) (sv : Value) : Prop := W.heap[B]? = some (Obj.cells #[.int .i64 t.kind, .string t.name, .int .i64 t.n, sv] 24 (0, 0)) ∧ Tm.inn W W.heap.size t sv
theorem TmBox.next {W W' : World} {B : Nat} {t : Tm} {sv : Value} (h : TmBox W B t sv) (hb : Below W.heap.size W W') : TmBox W' B t sv :=
  ⟨(hb.block _ (Array.getElem?_eq_some_iff.1 h.1).1).trans h.1, Tm.inn_mono (Tm.inn_below h.2 hb (Nat.le_refl _)) hb.size⟩
theorem TmBox.alloc {W : World} {B : Nat} {t : Tm} {sv : Value} (h : TmBox W B t sv) (o : Obj) : TmBox (W.alloc o) B t sv := h.next ((Below.refl _ _).alloc (Nat.le_refl _) _)
theorem TmBox.lt {W : World} {B : Nat} {t : Tm} {sv : Value} (h : TmBox W B t sv) : B < W.heap.size := (Array.getElem?_eq_some_iff.1 h.1).1
theorem TmBox.cells {W : World} {B : Nat} {t : Tm} {sv : Value} (h : TmBox W B t sv) : W.cell? ⟨B, 0, none⟩ = some (.int .i64 t.kind) ∧ W.cell? ⟨B, 1, none⟩ = some (.string t.name) ∧ W.cell? ⟨B, 2, none⟩ = some (.int .i64 t.n) ∧ W.cell? ⟨B, 3, none⟩ = some sv := (row4 h.1).1
/-- A term that a call returned, in a new box. -/
theorem TmBox.new {W : World} {t : Tm} {sv : Value} (h : Tm.inn W W.heap.size t sv) : TmBox (W.alloc (Obj.cells #[.int .i64 t.kind, .string t.name, .int .i64 t.n, sv] 24 (0, 0))) W.heap.size t sv :=
  ⟨newBlk _ _ _ rfl, Tm.inn_mono (Tm.inn_below h ((Below.refl _ _).alloc (Nat.le_refl _) _) (Nat.le_refl _)) (by simp)⟩

theorem ret_err {t : Tm} (h : t.right = true) {b : Int} (hok : okEnd (varsOf [t]) b = false) : shiftErr t b = 3 ∧ shiftTm t b = kZ := by
  have hne : shiftErr t b ≠ 0 := fun e => by rw [(okEnd_iff h b).2 e] at hok; cases hok
  refine ⟨(shiftErr_two h b).resolve_left hne, by unfold shiftTm; rw [if_neg hne]⟩
theorem wpList_append_ints {w : World} {ops : Array Oper} {rest : List Oper} {o : Oper} {a : Act} {Q : Exit → Act → World → Prop} (hgd : o.guard = none) (s x : Operand)
    (ho : o.op = .call { callee := .builtin .append, args := #[s, x], argTypes := #[30, 30] })
    (base : Nat) (v : Value) (vs : List Int) (hs : a.eval s = v) (hown : ownInts w base v vs) (l : List Int) (g : Option Addr) (c : Nat) (hx : a.eval x = .slice g l.length c) (hsrc : srcInts w l g)
    (hmax : vs.length + l.length ≤ 1000000000) (hbase : base ≤ w.heap.size)
    (h : ∀ v' w', ownInts w' base v' (vs ++ l) → w.grownBy w' v.ownBlock → (∀ j, v.ownBlock = some j → base ≤ j) → wpList Try.prog ops Q rest (a.put o.dst v') w') : wpList Try.prog ops Q (o :: rest) a w :=
  wpList_plain hgd fun _ hK => wp_append_ints s x ho base v vs hs hown l g c hx hsrc hmax hbase fun v' w' h2 h3 h4 => hK _ _ (h v' w' h2 h3 h4)
theorem ownInts_below {W W' : World} {base : Nat} {v : Value} {l : List Int} (h : ownInts W base v l) (hb : Below W.heap.size W W') : ownInts W' base v l := ownsRow_below h hb
theorem all_take_succ (vs : List Int) (b : Int) (k : Nat) (hk : k < vs.length) (h : (vs.take k).all (fun v => decide (v + b < 1000000)) = true) : (vs.take (k + 1)).all (fun v => decide (v + b < 1000000)) = decide (vs[k] + b < 1000000) := by
  rw [List.take_succ_eq_append_getElem hk, List.all_append, h]; simp
theorem all_take_false (vs : List Int) (b : Int) (k : Nat) (h : (vs.take k).all (fun v => decide (v + b < 1000000)) = false) : okAt vs b = false := by
  have h1 : vs.all (fun v => decide (v + b < 1000000)) = false := by
    rw [Bool.eq_false_iff] at h ⊢
    intro h2
    rw [List.all_eq_true] at h2
    exact h (List.all_eq_true.2 fun x hx => h2 x (List.mem_of_mem_take hx))
  unfold okAt
  rw [h1, Bool.and_false]

/-- What lies in memory while the last row is asked: the term, the shifted one, their variables' numbers. -/
structure FSt (w : World) (Bt Bx : Nat) (t x : Tm) (svt svx vf vt : Value) (vs tos : List Int) (W : World) : Prop where
  bt : TmBox W Bt t svt
  bx : TmBox W Bx x svx
  hf : intsIn W W.heap.size vs vf
  ht : intsIn W W.heap.size tos vt
  below : Below w.heap.size w W
theorem FSt.next {w : World} {Bt Bx : Nat} {t x : Tm} {svt svx vf vt : Value} {vs tos : List Int} {W W' : World} (h : FSt w Bt Bx t x svt svx vf vt vs tos W) (hb : Below W.heap.size W W') : FSt w Bt Bx t x svt svx vf vt vs tos W' :=
  ⟨h.bt.next hb, h.bx.next hb, intsIn_mono (intsIn_below h.hf hb (Nat.le_refl _)) hb.size, intsIn_mono (intsIn_below h.ht hb (Nat.le_refl _)) hb.size, h.below.trans (hb.mono h.below.size)⟩
def FCs (Bt Bx : Nat) (t x : Tm) (svt svx : Value) (W : World) (P : Prop) : Prop := W.cell? ⟨Bx, 0, none⟩ = some (.int .i64 x.kind) ∧ W.cell? ⟨Bx, 1, none⟩ = some (.string x.name) ∧ W.cell? ⟨Bx, 2, none⟩ = some (.int .i64 x.n) ∧ W.cell? ⟨Bx, 3, none⟩ = some svx ∧
  W.cell? ⟨Bt, 0, none⟩ = some (.int .i64 t.kind) ∧ W.cell? ⟨Bt, 1, none⟩ = some (.string t.name) ∧ W.cell? ⟨Bt, 2, none⟩ = some (.int .i64 t.n) ∧ W.cell? ⟨Bt, 3, none⟩ = some svt ∧ P
theorem FSt.cells {w : World} {Bt Bx : Nat} {t x : Tm} {svt svx vf vt : Value} {vs tos : List Int} {W : World} (h : FSt w Bt Bx t x svt svx vf vt vs tos W) : FCs Bt Bx t x svt svx W (FSt w Bt Bx t x svt svx vf vt vs tos W) := by
  obtain ⟨a0, a1, a2, a3⟩ := h.bx.cells
  obtain ⟨b0, b1, b2, b3⟩ := h.bt.cells
  exact ⟨a0, a1, a2, a3, b0, b1, b2, b3, h⟩
theorem FSt.of {p1 p2 p3 p4 p5 p6 p7 p8 : Prop} {w : World} {Bt Bx : Nat} {t x : Tm} {svt svx vf vt : Value} {vs tos : List Int} {W : World} (h : p1 ∧ p2 ∧ p3 ∧ p4 ∧ p5 ∧ p6 ∧ p7 ∧ p8 ∧ FSt w Bt Bx t x svt svx vf vt vs tos W) : FSt w Bt Bx t x svt svx vf vt vs tos W := h.2.2.2.2.2.2.2.2

theorem ints_wf {t : Tm} (h : t.right = true) {b : Int} (h0 : shiftErr t b = 0) : ∀ x ∈ (varsOf [t]).map (fun v => v + b), (Lit.int .i64 x).wf = true := fun x hx => by
  obtain ⟨v, hv, rfl⟩ := List.mem_map.1 hx
  have h1 := vars_range (l := [t]) (by simpa using h) v hv
  obtain ⟨h2, h3⟩ := (shiftErr_zero h b).1 h0
  have h4 := h3 v hv
  exact WalkArith.wf_i64 (by omega)

set_option maxRecDepth 100000 in
set_option maxHeartbeats 8000000 in
theorem shifts_any (t : Tm) (b m : Int) (w : World) (sva : Value) (hia : Tm.inn w w.heap.size t sva) (hm : 0 ≤ m ∧ m ≤ 65535) :
    Calls Try.prog 5 #[.agg #[.int .i64 t.kind, .string t.name, .int .i64 t.n, sva], .int .i64 b, .int .u16 m] w fun e w' => e = .returned (.bool true) ∧ Below w.heap.size w w' := by
  obtain ⟨_, ga, ca, rfl, _, _, _⟩ := Tm.inn_iff.1 hia
  have HIA := Lib.hid hia
  have HM := Lib.hid hm
  clear hia
  go_enter Try.func5, Try.ntmps5
  go_wp2_with fail
  obtain ⟨a0, ha0⟩ : ∃ o, Obj.cells #[.int .i64 t.kind, .string t.name, .int .i64 t.n, .slice ga t.args.length ca] 24 (0, 0) = o := ⟨_, rfl⟩
  rw [ha0]
  have hB0 : Below w.heap.size w ((w.alloc a0).alloc a0) := ((Below.refl _ w).alloc (Nat.le_refl _) _).alloc (by simp) _
  have hst : TmBox ((w.alloc a0).alloc a0) w.heap.size t (.slice ga t.args.length ca) := ⟨(Below.heap_alloc _ _ _ (by simp)).trans ((newBlk _ _ _ rfl).trans (by rw [ha0])), Tm.inn_mono (Tm.inn_below HIA.out hB0 (Nat.le_refl _)) hB0.size⟩
  have hsl := one_slice (W := (w.alloc a0).alloc a0) (b := w.heap.size + 1) (t := t) (sv := .slice ga t.args.length ca) ((newBlk _ _ _ (by simp)).trans (by rw [ha0])) hst.2
  obtain ⟨W0, hW0⟩ : ∃ W0, (w.alloc a0).alloc a0 = W0 := ⟨_, rfl⟩
  rw [hW0] at hst hsl hB0 ⊢
  clear hW0
  subst ha0
  have HB0 := Lib.hid hB0
  refine (some_any [t] W0 _ _ (Nat.le_refl _) hsl).mono ?_
  rintro e W1 ⟨rfl, hb1⟩
  have hst1 := hst.next hb1
  have HB1 := Lib.hid (HB0.out.trans (hb1.mono HB0.out.size))
  clear hst hsl hb1 hB0 HB0
  cases hs : Tm.someB [t] with
  | false =>
    clear hs
    go_wp2_with fail
    refine (knows_any W1).mono ?_
    rintro e W2 ⟨rfl, hb2⟩
    go_wp2_with fail
    go_ret
    exact ⟨rfl, HB1.out.trans (hb2.mono HB1.out.size)⟩
  | true =>
    have hsa : t.size ≤ 4000 := Tm.some_size hs (by simp)
    clear hs HIA
    obtain ⟨c0, c1, c2, c3⟩ := hst1.cells
    go_wp2_with fail
    refine (shift_all t b W1 _ hst1.2 (by omega)).mono ?_
    rintro e W2 ⟨⟨gx, cx, rfl, hinx⟩, hb2⟩
    have HB2 := Lib.hid (HB1.out.trans (hb2.mono HB1.out.size))
    have hst2 := hst1.next hb2
    clear hb2 HB1 hst1 c0 c1 c2 c3
    obtain ⟨c0, c1, c2, c3⟩ := hst2.cells
    have hlt2 := hst2.lt
    go_wp2_with fail
    have hbx := TmBox.new hinx
    have hst3 := hst2.alloc (Obj.cells #[.int .i64 (shiftTm t b).kind, .string (shiftTm t b).name, .int .i64 (shiftTm t b).n, .slice gx (shiftTm t b).args.length cx] 24 (0, 0))
    have HB3 := Lib.hid (HB2.out.alloc HB2.out.size (Obj.cells #[.int .i64 (shiftTm t b).kind, .string (shiftTm t b).name, .int .i64 (shiftTm t b).n, .slice gx (shiftTm t b).args.length cx] 24 (0, 0)))
    obtain ⟨W3, hW3⟩ : ∃ W3, W2.alloc (Obj.cells #[.int .i64 (shiftTm t b).kind, .string (shiftTm t b).name, .int .i64 (shiftTm t b).n, .slice gx (shiftTm t b).args.length cx] 24 (0, 0)) = W3 := ⟨_, rfl⟩
    rw [hW3] at hbx hst3 HB3 ⊢
    clear hW3 hst2 hinx HB2 c0 c1 c2 c3
    refine (rright_any t W3 _ _ (Nat.le_refl _) hst3.2 (by omega)).mono ?_
    rintro e W4 ⟨rfl, hb4⟩
    have hst4 := hst3.next hb4
    have hbx4 := hbx.next hb4
    have HB4 := Lib.hid (HB3.out.trans (hb4.mono HB3.out.size))
    clear hst3 hbx HB3 hb4
    cases hr : t.right with
    | false =>
      have herr := shiftErr_wrong hr b
      have hx : shiftTm t b = kZ := by unfold shiftTm; rw [if_neg (by rw [herr]; decide)]
      rw [herr]
      obtain ⟨x0, x1, x2, x3⟩ := hbx4.cells
      have hkz : Tm.inn W4 W4.heap.size kZ (.slice none 0 0) := Tm.inn_mk.2 ⟨⟨by decide, Nat.zero_le _, by decide⟩, none, 0, rfl, Nat.le_refl _, by simp, .inl rfl⟩
      have hsame := Lib.hid (rsame_any (shiftTm t b) kZ W4 _ _ _ (Nat.le_refl _) hbx4.2 hkz)
      have HS := Lib.hid (show (shiftTm t b).same kZ = true by rw [hx]; exact (Tm.same_iff _ _).2 rfl)
      clear hr herr hx hkz
      go_wp2_with fail
      refine hsame.out.mono ?_
      rintro e W5 ⟨rfl, hb5⟩
      rw [HS.out]
      have HB5 := Lib.hid (HB4.out.trans (hb5.mono HB4.out.size))
      clear hb5
      go_wp2_with fail
      refine (knows_any W5).mono ?_
      rintro e W6 ⟨rfl, hb6⟩
      have HB6 := Lib.hid (HB5.out.trans (hb6.mono HB5.out.size))
      clear hb6
      go_wp2_with fail
      go_ret
      exact ⟨rfl, HB6.out⟩
    | true =>
      have HRT := Lib.hid hr
      clear hr
      obtain ⟨c0, c1, c2, c3⟩ := hst4.cells
      go_wp2_with fail
      refine (rvars_any [t] (W4.alloc (.cells #[.int .i64 t.kind, .string t.name, .int .i64 t.n, .slice ga t.args.length ca] 24)) _ _ (Nat.le_refl _) (one_slice (newBlk _ _ _ rfl) (hst4.alloc _).2) (by simp [Tm.sizes]; omega)).mono ?_
      rintro e W5 ⟨vf, rfl, hvf, hb5⟩
      rw [withs_vars [t] (by simp [Tm.plain, right_noArgs HRT.out])] at hvf
      have hst5 := (hst4.alloc _).next hb5
      have hbx5 := (hbx4.alloc _).next hb5
      have HB5 := Lib.hid ((HB4.out.alloc HB4.out.size _).trans (hb5.mono (by have := HB4.out.size; simp; omega)))
      have HRNG := Lib.hid (vars_range (l := [t]) (by simpa using HRT.out))
      have hlen5 : (varsOf [t]).length ≤ 4000 := by have := varsOf_length [t]; simp [Tm.sizes] at this; omega
      obtain ⟨vs, hvs⟩ : ∃ vs, varsOf [t] = vs := ⟨_, rfl⟩
      have HVS := Lib.hid hvs
      rw [hvs] at hvf HRNG hlen5
      clear hvs hb5 hst4 hbx4 HB4 c0 c1 c2 c3
      obtain ⟨gf, cf, rfl, _, _, _⟩ := id hvf
      have HVF := Lib.hid hvf
      clear hvf
      have hl5 := HB5.out.size
      by_cases hb0 : b < 0
      · have hok : okEnd (varsOf [t]) b = false := by
          have h1 : ¬ 0 ≤ b := by omega
          have h2 : ¬ 1000000 < b := by omega
          simp [okEnd, okAt, h1, h2]
        have HOK := Lib.hid hok
        clear hok
        go_wp2_with fail
        go_loopw [10, 11, 12] (fun to ok i wr => to = .slice none 0 0 ∧ ok = .bool false ∧ i = .int .i64 0 ∧ wr = W5) (fun _ _ _ _ => 0)
        case atStart => exact ⟨rfl, rfl, rfl, rfl⟩
        case round =>
          obtain ⟨rfl, rfl, rfl, rfl⟩ := hrel
          by_cases hv0 : 0 < vs.length
          · skip
            obtain ⟨herr, hx⟩ := ret_err HRT.out HOK.out
            rw [herr]
            obtain ⟨x0, x1, x2, x3⟩ := hbx5.cells
            have hkz : Tm.inn wr wr.heap.size kZ (.slice none 0 0) := Tm.inn_mk.2 ⟨⟨by decide, Nat.zero_le _, by decide⟩, none, 0, rfl, Nat.le_refl _, by simp, .inl rfl⟩
            have hsame := Lib.hid (rsame_any (shiftTm t b) kZ wr _ _ _ (Nat.le_refl _) hbx5.2 hkz)
            have HS := Lib.hid (show (shiftTm t b).same kZ = true by rw [hx]; exact (Tm.same_iff _ _).2 rfl)
            clear herr hx hkz
            go_wp2_with fail
            refine hsame.out.mono ?_
            rintro e Y5 ⟨rfl, hb5⟩
            rw [HS.out]
            have HY5 := Lib.hid (HB5.out.trans (hb5.mono HB5.out.size))
            clear hb5
            go_wp2_with fail
            refine (knows_any Y5).mono ?_
            rintro e Y6 ⟨rfl, hb6⟩
            have HY6 := Lib.hid (HY5.out.trans (hb6.mono HY5.out.size))
            clear hb6
            go_wp2_with fail
            go_ret
            exact ⟨rfl, HY6.out⟩
          · have hv1 : vs.length = 0 := by omega
            obtain ⟨herr, hx⟩ := ret_err HRT.out HOK.out
            rw [herr]
            obtain ⟨x0, x1, x2, x3⟩ := hbx5.cells
            have hkz : Tm.inn wr wr.heap.size kZ (.slice none 0 0) := Tm.inn_mk.2 ⟨⟨by decide, Nat.zero_le _, by decide⟩, none, 0, rfl, Nat.le_refl _, by simp, .inl rfl⟩
            have hsame := Lib.hid (rsame_any (shiftTm t b) kZ wr _ _ _ (Nat.le_refl _) hbx5.2 hkz)
            have HS := Lib.hid (show (shiftTm t b).same kZ = true by rw [hx]; exact (Tm.same_iff _ _).2 rfl)
            clear herr hx hkz
            go_wp2_with fail
            refine hsame.out.mono ?_
            rintro e Y5 ⟨rfl, hb5⟩
            rw [HS.out]
            have HY5 := Lib.hid (HB5.out.trans (hb5.mono HB5.out.size))
            clear hb5
            go_wp2_with fail
            refine (knows_any Y5).mono ?_
            rintro e Y6 ⟨rfl, hb6⟩
            have HY6 := Lib.hid (HY5.out.trans (hb6.mono HY5.out.size))
            clear hb6
            go_wp2_with fail
            go_ret
            exact ⟨rfl, HY6.out⟩
      · by_cases hb1 : 1000000 < b
        · have hb2 : ¬ b ≤ 1000000 := by omega
          have hb3 : 0 ≤ b := by omega
          have hb9 : ¬ b < 0 := by omega
          by_cases hvn : vs = []
          · subst hvn
            have HOKT := Lib.hid (show okEnd (varsOf [t]) b = true by rw [HVS.out]; simp [okEnd, hb1])
            have HTE := Lib.hid (show intsIn W5 W5.heap.size ([] : List Int) (.slice none 0 0) from ⟨none, 0, rfl, Nat.le_refl _, by simp, .inl rfl⟩)
            go_wp2_with fail
            go_loopw [10, 11, 12] (fun to ok i wr => to = .slice none 0 0 ∧ ok = .bool false ∧ i = .int .i64 0 ∧ wr = W5) (fun _ _ _ _ => 0)
            case atStart => exact ⟨rfl, congrArg Value.bool (decide_eq_false (by omega)), rfl, rfl⟩
            case round =>
              obtain ⟨rfl, rfl, rfl, rfl⟩ := hrel
              have HERR := Lib.hid ((okEnd_iff HRT.out b).1 HOKT.out)
              have HTWF := Lib.hid (ints_wf HRT.out HERR.out)
              have HCOVT := Lib.hid (vars_cover (l := [t]) (t := t) (by simp))
              have HSXT := Lib.hid (show (shiftTm t b).same (t.ren (toOf ([] : List Int) ([] : List Int))) = true by rw [shift_turn HRT.out HERR.out, HVS.out]; exact (Tm.same_iff _ _).2 rfl)
              rw [HVS.out] at HTWF HCOVT
              rw [HERR.out]
              obtain ⟨x0, x1, x2, x3⟩ := hbx5.cells
              have hlx := hbx5.lt
              go_wp2_with fail
              refine (shift_all (shiftTm t b) m wr _ hbx5.2 (by have := shift_size HRT.out b; omega)).mono ?_
              rintro e Z1 ⟨⟨gy, cy, rfl, hiny⟩, hz1⟩
              have hstA := hst5.next hz1
              have hbxA := hbx5.next hz1
              have HBA := Lib.hid (HB5.out.trans (hz1.mono HB5.out.size))
              have HFA := Lib.hid (intsIn_mono (intsIn_below HVF.out hz1 (Nat.le_refl _)) hz1.size)
              have HTA := Lib.hid (intsIn_mono (intsIn_below HTE.out hz1 (Nat.le_refl _)) hz1.size)
              clear hz1 x0 x1 x2 x3 hlx
              obtain ⟨c0, c1, c2, c3⟩ := hstA.cells
              have hlt := hstA.lt
              go_wp2_with fail
              have hby := TmBox.new hiny
              have hstB := hstA.alloc (Obj.cells #[.int .i64 (shiftTm (shiftTm t b) m).kind, .string (shiftTm (shiftTm t b) m).name, .int .i64 (shiftTm (shiftTm t b) m).n, .slice gy (shiftTm (shiftTm t b) m).args.length cy] 24 (0, 0))
              have hbxB := hbxA.alloc (Obj.cells #[.int .i64 (shiftTm (shiftTm t b) m).kind, .string (shiftTm (shiftTm t b) m).name, .int .i64 (shiftTm (shiftTm t b) m).n, .slice gy (shiftTm (shiftTm t b) m).args.length cy] 24 (0, 0))
              have HBB := Lib.hid (HBA.out.alloc HBA.out.size (Obj.cells #[.int .i64 (shiftTm (shiftTm t b) m).kind, .string (shiftTm (shiftTm t b) m).name, .int .i64 (shiftTm (shiftTm t b) m).n, .slice gy (shiftTm (shiftTm t b) m).args.length cy] 24 (0, 0)))
              have HFB := Lib.hid (intsIn_mono (intsIn_below HFA.out ((Below.refl _ Z1).alloc (Nat.le_refl _) (Obj.cells #[.int .i64 (shiftTm (shiftTm t b) m).kind, .string (shiftTm (shiftTm t b) m).name, .int .i64 (shiftTm (shiftTm t b) m).n, .slice gy (shiftTm (shiftTm t b) m).args.length cy] 24 (0, 0))) (Nat.le_refl _)) (Nat.le_of_lt hby.lt))
              have HTB := Lib.hid (intsIn_mono (intsIn_below HTA.out ((Below.refl _ Z1).alloc (Nat.le_refl _) (Obj.cells #[.int .i64 (shiftTm (shiftTm t b) m).kind, .string (shiftTm (shiftTm t b) m).name, .int .i64 (shiftTm (shiftTm t b) m).n, .slice gy (shiftTm (shiftTm t b) m).args.length cy] 24 (0, 0))) (Nat.le_refl _)) (Nat.le_of_lt hby.lt))
              obtain ⟨Z2, hZ2⟩ : ∃ Z2, Z1.alloc (Obj.cells #[.int .i64 (shiftTm (shiftTm t b) m).kind, .string (shiftTm (shiftTm t b) m).name, .int .i64 (shiftTm (shiftTm t b) m).n, .slice gy (shiftTm (shiftTm t b) m).args.length cy] 24 (0, 0)) = Z2 := ⟨_, rfl⟩
              rw [hZ2] at hby hstB hbxB HBB HFB HTB ⊢
              clear hZ2 hstA hbxA HBA HFA HTA hiny c0 c1 c2 c3
              refine (shift_all t (wrap64 (b + m)) Z2 _ hstB.2 (by omega)).mono ?_
              rintro e Z3 ⟨⟨gz, cz, rfl, hinz⟩, hz3⟩
              have hF0 : FSt w w.heap.size W2.heap.size t (shiftTm t b) (.slice ga t.args.length ca) (.slice gx (shiftTm t b).args.length cx) (.slice gf 0 cf) (.slice none 0 0) ([] : List Int) ([] : List Int) Z2 := ⟨hstB, hbxB, HFB.out, HTB.out, HBB.out⟩
              have hF1 := (hF0.next hz3).next ((Below.refl _ Z3).alloc (Nat.le_refl _) (Obj.cells #[.int .i64 (shiftTm t (wrap64 (b + m))).kind, .string (shiftTm t (wrap64 (b + m))).name, .int .i64 (shiftTm t (wrap64 (b + m))).n, .slice gz (shiftTm t (wrap64 (b + m))).args.length cz] 24 (0, 0)))
              have hbyC := hby.next hz3
              clear hz3 hstB hbxB HBB HFB HTB hF0 hby
              obtain ⟨y0, y1, y2, y3⟩ := hbyC.cells
              have hly := hbyC.lt
              have hF := hF1
              clear hF1 y0 y1 y2 y3
              go_wp2_with fail
              go_region_held3 (fun W => W.cell? ⟨W2.heap.size, 0, none⟩ = some (.int .i64 (shiftTm t b).kind) ∧ W.cell? ⟨W2.heap.size, 1, none⟩ = some (.string (shiftTm t b).name) ∧ W.cell? ⟨W2.heap.size, 2, none⟩ = some (.int .i64 (shiftTm t b).n) ∧ W.cell? ⟨W2.heap.size, 3, none⟩ = some (.slice gx (shiftTm t b).args.length cx) ∧ W.cell? ⟨w.heap.size, 0, none⟩ = some (.int .i64 t.kind) ∧ W.cell? ⟨w.heap.size, 1, none⟩ = some (.string t.name) ∧ W.cell? ⟨w.heap.size, 2, none⟩ = some (.int .i64 t.n) ∧ W.cell? ⟨w.heap.size, 3, none⟩ = some (.slice ga t.args.length ca) ∧ FSt w w.heap.size W2.heap.size t (shiftTm t b) (.slice ga t.args.length ca) (.slice gx (shiftTm t b).args.length cx) (.slice gf 0 cf) (.slice none 0 0) ([] : List Int) ([] : List Int) W)
                (first | exact (hF.next ((Below.refl _ _).drew)).cells | exact ((FSt.of (by assumption)).next (by assumption)).cells)
                (first
                  | (go_at_call 21; refine (turn_any ([] : List Int) ([] : List Int) (by simp) HTWF.out t _ _ _ _ _ (Nat.le_refl _) (FSt.of (w := w) (Bt := w.heap.size) (Bx := W2.heap.size) (x := shiftTm t b) (svx := .slice gx (shiftTm t b).args.length cx) (vf := .slice gf 0 cf) (vt := .slice none 0 0) (vs := ([] : List Int)) (tos := ([] : List Int)) (by assumption)).bt.2 (FSt.of (w := w) (Bt := w.heap.size) (Bx := W2.heap.size) (t := t) (x := shiftTm t b) (svt := .slice ga t.args.length ca) (svx := .slice gx (shiftTm t b).args.length cx) (vt := .slice none 0 0) (tos := ([] : List Int)) (by assumption)).hf (FSt.of (w := w) (Bt := w.heap.size) (Bx := W2.heap.size) (t := t) (x := shiftTm t b) (svt := .slice ga t.args.length ca) (svx := .slice gx (shiftTm t b).args.length cx) (vf := .slice gf 0 cf) (vs := ([] : List Int)) (by assumption)).ht HCOVT.out).mono ?_; rintro e w' ⟨g', c', rfl, hp, hb⟩)
                  | (go_at_call 14; refine (rsame_any (shiftTm t b) (t.ren (toOf ([] : List Int) ([] : List Int))) _ _ _ _ (Nat.le_refl _) (FSt.of (w := w) (Bt := w.heap.size) (Bx := W2.heap.size) (t := t) (svt := .slice ga t.args.length ca) (vf := .slice gf 0 cf) (vt := .slice none 0 0) (vs := ([] : List Int)) (tos := ([] : List Int)) (by assumption)).bx.2 (Tm.inn_of_P (fun b hb => hb.2) _ _ hp)).mono ?_; rintro e w' ⟨rfl, hb⟩; rw [HSXT.out])
                  | (go_at_call 8; refine (knows_any _).mono ?_; rintro e w' ⟨rfl, hb⟩))
              go_wp2_with fail
              go_ret
              clear hF
              exact ⟨rfl, (FSt.of (w := w) (Bt := w.heap.size) (Bx := W2.heap.size) (t := t) (x := shiftTm t b) (svt := .slice ga t.args.length ca) (svx := .slice gx (shiftTm t b).args.length cx) (vf := .slice gf 0 cf) (vt := .slice none 0 0) (vs := ([] : List Int)) (tos := ([] : List Int)) (by assumption)).below⟩
          · have hv0 : 0 < vs.length := by
              cases vs with
              | nil => exact absurd rfl hvn
              | cons x r => simp
            have HOK := Lib.hid (show okEnd (varsOf [t]) b = false by rw [HVS.out]; simp [okEnd, okAt, hvn, hb2])
            have hv2 : ((vs.length : Int) == 0) = false := by simp; omega
            go_wp2_with fail
            go_loopw [10, 11, 12] (fun to ok i wr => to = .slice none 0 0 ∧ ok = .bool false ∧ i = .int .i64 0 ∧ wr = W5) (fun _ _ _ _ => 0)
            case atStart => exact ⟨rfl, congrArg Value.bool (decide_eq_false (by omega)), rfl, rfl⟩
            case round =>
              obtain ⟨rfl, rfl, rfl, rfl⟩ := hrel
              obtain ⟨herr, hx⟩ := ret_err HRT.out HOK.out
              rw [herr]
              obtain ⟨x0, x1, x2, x3⟩ := hbx5.cells
              have hkz : Tm.inn wr wr.heap.size kZ (.slice none 0 0) := Tm.inn_mk.2 ⟨⟨by decide, Nat.zero_le _, by decide⟩, none, 0, rfl, Nat.le_refl _, by simp, .inl rfl⟩
              have hsame := Lib.hid (rsame_any (shiftTm t b) kZ wr _ _ _ (Nat.le_refl _) hbx5.2 hkz)
              have HS := Lib.hid (show (shiftTm t b).same kZ = true by rw [hx]; exact (Tm.same_iff _ _).2 rfl)
              clear herr hx hkz
              go_wp2_with fail
              refine hsame.out.mono ?_
              rintro e Y5 ⟨rfl, hb5⟩
              rw [HS.out]
              have HY5 := Lib.hid (HB5.out.trans (hb5.mono HB5.out.size))
              clear hb5
              go_wp2_with fail
              refine (knows_any Y5).mono ?_
              rintro e Y6 ⟨rfl, hb6⟩
              have HY6 := Lib.hid (HY5.out.trans (hb6.mono HY5.out.size))
              clear hb6
              go_wp2_with fail
              go_ret
              exact ⟨rfl, HY6.out⟩
        · have hb2 : b ≤ 1000000 := by omega
          have hb3 : 0 ≤ b := by omega
          obtain ⟨i1, hi, hz0, hz1, hz2⟩ := info_parts Try.infoInt
          go_wp2_with fail
          go_loopw [10, 11, 12] (fun to ok i wr => ∃ k : Nat, k ≤ vs.length ∧ i = .int .i64 k ∧ ok = .bool ((vs.take k).all fun v => decide (v + b < 1000000)) ∧ Hid (ownInts wr W5.heap.size to ((vs.take k).map fun v => v + b)) ∧ Below W5.heap.size W5 wr) (fun _ _ i _ => vs.length - (intOf i).toNat)
          case atStart => exact ⟨0, Nat.zero_le _, rfl, by simp, World.ownsRow_nil _ _ _ _, Below.refl _ _⟩
          case round =>
            obtain ⟨k, hk, rfl, rfl, hown, hb5⟩ := hrel
            have HOWN := Lib.hid hown.out
            have HB5' := Lib.hid hb5
            have hst6 := hst5.next hb5
            have hbx6 := hbx5.next hb5
            have HB6 := Lib.hid (HB5.out.trans (hb5.mono HB5.out.size))
            cases hall : (vs.take k).all fun v => decide (v + b < 1000000) with
            | false =>
              have hok : okEnd (varsOf [t]) b = false := by
                rw [HVS.out, okEnd, all_take_false vs b k hall]
                simp [show ¬ 1000000 < b by omega]
              have HOK := Lib.hid hok
              clear hok hown hb5 hall
              by_cases hkl : k < vs.length
              · skip
                obtain ⟨herr, hx⟩ := ret_err HRT.out HOK.out
                rw [herr]
                obtain ⟨x0, x1, x2, x3⟩ := hbx6.cells
                have hkz : Tm.inn wr wr.heap.size kZ (.slice none 0 0) := Tm.inn_mk.2 ⟨⟨by decide, Nat.zero_le _, by decide⟩, none, 0, rfl, Nat.le_refl _, by simp, .inl rfl⟩
                have hsame := Lib.hid (rsame_any (shiftTm t b) kZ wr _ _ _ (Nat.le_refl _) hbx6.2 hkz)
                have HS := Lib.hid (show (shiftTm t b).same kZ = true by rw [hx]; exact (Tm.same_iff _ _).2 rfl)
                clear herr hx hkz
                go_wp2_with fail
                refine hsame.out.mono ?_
                rintro e Y5 ⟨rfl, hb5⟩
                rw [HS.out]
                have HY5 := Lib.hid (HB6.out.trans (hb5.mono HB6.out.size))
                clear hb5
                go_wp2_with fail
                refine (knows_any Y5).mono ?_
                rintro e Y6 ⟨rfl, hb6⟩
                have HY6 := Lib.hid (HY5.out.trans (hb6.mono HY5.out.size))
                clear hb6
                go_wp2_with fail
                go_ret
                exact ⟨rfl, HY6.out⟩
              · skip
                obtain ⟨herr, hx⟩ := ret_err HRT.out HOK.out
                rw [herr]
                obtain ⟨x0, x1, x2, x3⟩ := hbx6.cells
                have hkz : Tm.inn wr wr.heap.size kZ (.slice none 0 0) := Tm.inn_mk.2 ⟨⟨by decide, Nat.zero_le _, by decide⟩, none, 0, rfl, Nat.le_refl _, by simp, .inl rfl⟩
                have hsame := Lib.hid (rsame_any (shiftTm t b) kZ wr _ _ _ (Nat.le_refl _) hbx6.2 hkz)
                have HS := Lib.hid (show (shiftTm t b).same kZ = true by rw [hx]; exact (Tm.same_iff _ _).2 rfl)
                clear herr hx hkz
                go_wp2_with fail
                refine hsame.out.mono ?_
                rintro e Y5 ⟨rfl, hb5⟩
                rw [HS.out]
                have HY5 := Lib.hid (HB6.out.trans (hb5.mono HB6.out.size))
                clear hb5
                go_wp2_with fail
                refine (knows_any Y5).mono ?_
                rintro e Y6 ⟨rfl, hb6⟩
                have HY6 := Lib.hid (HY5.out.trans (hb6.mono HY5.out.size))
                clear hb6
                go_wp2_with fail
                go_ret
                exact ⟨rfl, HY6.out⟩
            | true =>
              by_cases hkl : k < vs.length
              · obtain ⟨bf, of, rfl, hbf, gcell⟩ := intsIn_get (intsIn_below HVF.out hb5 (Nat.le_refl _)) k hkl
                have hrk := HRNG.out vs[k] (List.getElem_mem hkl)
                have hr1 : 0 ≤ vs[k] := hrk.1
                have hr2 : vs[k] < 1000000 := hrk.2
                have HA := Lib.hid (all_take_succ vs b k hkl hall)
                have hsz5 := hb5.size
                clear hown hb5 hall hrk
                go_wp2_with (at_builtin; refine wpList_append_ints rfl _ _ rfl W5.heap.size u10 ((vs.take k).map fun v => v + b) rfl (HOWN.out.alloc _) [vs[k] + b] (some ⟨wr.heap.size, 0, none⟩) 1 rfl (src1 _ rfl) (by simp; omega) (by simp; omega) ?_; intro v' w' hown' hgrow hlow; have gcell2 : w'.cell? ⟨bf, of + k, none⟩ = some (.int .i64 vs[k]) := hgrow.cell ((World.cell?_alloc_old _ _ _ (Nat.ne_of_lt (Nat.lt_of_lt_of_le hbf hsz5))).trans gcell) (fun e => by have := hlow _ e.symm; simp at this; omega))
                go_roundw
                case rel =>
                  refine ⟨k + 1, by omega, by go_num, by rw [HA.out], ?_, (HB5'.out.alloc hsz5 _).grown hgrow (by simp; omega) hlow⟩
                  rw [List.take_succ_eq_append_getElem hkl, List.map_append]
                  exact hown'
                case measure => simp [intOf]; omega
              · obtain rfl : k = vs.length := by omega
                rw [List.take_length] at hall HOWN
                have HOKT := Lib.hid (show okEnd (varsOf [t]) b = true by rw [HVS.out, okEnd, okAt, hall]; simp [hb2, hb3])
                have HT6 := Lib.hid (intsIn_below (ints_of_own HOWN.out (by simp; omega)) (Below.refl _ _) (Nat.le_refl _))
                have HF6 := Lib.hid (intsIn_mono (intsIn_below HVF.out hb5 (Nat.le_refl _)) hb5.size)
                have HOWN2 := Lib.hid HOWN.out
                clear hown hb5 hall HOWN
                obtain ⟨gt, ct, hgt⟩ := owns_slice (show wr.ownsRow _ _ _ _ _ _ from HOWN2.out)
                rw [List.length_map] at hgt
                subst hgt
                clear HOWN2
                have HERR := Lib.hid ((okEnd_iff HRT.out b).1 HOKT.out)
                have HTWF := Lib.hid (ints_wf HRT.out HERR.out)
                have HCOVT := Lib.hid (vars_cover (l := [t]) (t := t) (by simp))
                have HSXT := Lib.hid (show (shiftTm t b).same (t.ren (toOf vs (vs.map fun v => v + b))) = true by rw [shift_turn HRT.out HERR.out, HVS.out]; exact (Tm.same_iff _ _).2 rfl)
                rw [HVS.out] at HTWF HCOVT
                rw [HERR.out]
                obtain ⟨x0, x1, x2, x3⟩ := hbx6.cells
                have hlx := hbx6.lt
                go_wp2_with fail
                refine (shift_all (shiftTm t b) m wr _ hbx6.2 (by have := shift_size HRT.out b; omega)).mono ?_
                rintro e Z1 ⟨⟨gy, cy, rfl, hiny⟩, hz1⟩
                have hstA := hst6.next hz1
                have hbxA := hbx6.next hz1
                have HBA := Lib.hid (HB6.out.trans (hz1.mono HB6.out.size))
                have HFA := Lib.hid (intsIn_mono (intsIn_below HF6.out hz1 (Nat.le_refl _)) hz1.size)
                have HTA := Lib.hid (intsIn_mono (intsIn_below HT6.out hz1 (Nat.le_refl _)) hz1.size)
                clear hz1 x0 x1 x2 x3 hlx
                obtain ⟨c0, c1, c2, c3⟩ := hstA.cells
                have hlt := hstA.lt
                go_wp2_with fail
                have hby := TmBox.new hiny
                have hstB := hstA.alloc (Obj.cells #[.int .i64 (shiftTm (shiftTm t b) m).kind, .string (shiftTm (shiftTm t b) m).name, .int .i64 (shiftTm (shiftTm t b) m).n, .slice gy (shiftTm (shiftTm t b) m).args.length cy] 24 (0, 0))
                have hbxB := hbxA.alloc (Obj.cells #[.int .i64 (shiftTm (shiftTm t b) m).kind, .string (shiftTm (shiftTm t b) m).name, .int .i64 (shiftTm (shiftTm t b) m).n, .slice gy (shiftTm (shiftTm t b) m).args.length cy] 24 (0, 0))
                have HBB := Lib.hid (HBA.out.alloc HBA.out.size (Obj.cells #[.int .i64 (shiftTm (shiftTm t b) m).kind, .string (shiftTm (shiftTm t b) m).name, .int .i64 (shiftTm (shiftTm t b) m).n, .slice gy (shiftTm (shiftTm t b) m).args.length cy] 24 (0, 0)))
                have HFB := Lib.hid (intsIn_mono (intsIn_below HFA.out ((Below.refl _ Z1).alloc (Nat.le_refl _) (Obj.cells #[.int .i64 (shiftTm (shiftTm t b) m).kind, .string (shiftTm (shiftTm t b) m).name, .int .i64 (shiftTm (shiftTm t b) m).n, .slice gy (shiftTm (shiftTm t b) m).args.length cy] 24 (0, 0))) (Nat.le_refl _)) (Nat.le_of_lt hby.lt))
                have HTB := Lib.hid (intsIn_mono (intsIn_below HTA.out ((Below.refl _ Z1).alloc (Nat.le_refl _) (Obj.cells #[.int .i64 (shiftTm (shiftTm t b) m).kind, .string (shiftTm (shiftTm t b) m).name, .int .i64 (shiftTm (shiftTm t b) m).n, .slice gy (shiftTm (shiftTm t b) m).args.length cy] 24 (0, 0))) (Nat.le_refl _)) (Nat.le_of_lt hby.lt))
                obtain ⟨Z2, hZ2⟩ : ∃ Z2, Z1.alloc (Obj.cells #[.int .i64 (shiftTm (shiftTm t b) m).kind, .string (shiftTm (shiftTm t b) m).name, .int .i64 (shiftTm (shiftTm t b) m).n, .slice gy (shiftTm (shiftTm t b) m).args.length cy] 24 (0, 0)) = Z2 := ⟨_, rfl⟩
                rw [hZ2] at hby hstB hbxB HBB HFB HTB ⊢
                clear hZ2 hstA hbxA HBA HFA HTA hiny c0 c1 c2 c3
                refine (shift_all t (b + m) Z2 _ hstB.2 (by omega)).mono ?_
                rintro e Z3 ⟨⟨gz, cz, rfl, hinz⟩, hz3⟩
                have hF0 : FSt w w.heap.size W2.heap.size t (shiftTm t b) (.slice ga t.args.length ca) (.slice gx (shiftTm t b).args.length cx) (.slice gf vs.length cf) (.slice gt vs.length ct) vs (vs.map fun v => v + b) Z2 := ⟨hstB, hbxB, HFB.out, HTB.out, HBB.out⟩
                have hF1 := (hF0.next hz3).next ((Below.refl _ Z3).alloc (Nat.le_refl _) (Obj.cells #[.int .i64 (shiftTm t (b + m)).kind, .string (shiftTm t (b + m)).name, .int .i64 (shiftTm t (b + m)).n, .slice gz (shiftTm t (b + m)).args.length cz] 24 (0, 0)))
                have hbyC := hby.next hz3
                clear hz3 hstB hbxB HBB HFB HTB hF0 hby
                obtain ⟨y0, y1, y2, y3⟩ := hbyC.cells
                have hly := hbyC.lt
                by_cases hv0 : 0 < vs.length
                · skip
                  obtain ⟨he1, he2⟩ := shift_both HRT.out HERR.out HM.out (by rw [HVS.out]; exact fun e => by rw [e] at hv0; simp at hv0)
                  rw [show wrap64 (b + m) = b + m from wrap_in (by omega)] at he1 he2
                  rw [he1]
                  have hq1 : (shiftErr t (b + m) != shiftErr t (b + m)) = false := by simp
                  have HYZ := Lib.hid (show (shiftTm (shiftTm t b) m).same (shiftTm t (b + m)) = true by rw [he2]; exact (Tm.same_iff _ _).2 rfl)
                  have hsyz := Lib.hid (rsame_any (shiftTm (shiftTm t b) m) (shiftTm t (b + m)) (Z3.alloc (Obj.cells #[.int .i64 (shiftTm t (b + m)).kind, .string (shiftTm t (b + m)).name, .int .i64 (shiftTm t (b + m)).n, .slice gz (shiftTm t (b + m)).args.length cz] 24 (0, 0))) _ _ _ (Nat.le_refl _) (hbyC.alloc _).2 (TmBox.new hinz).2)
                  clear he1 he2
                  go_wp2_with fail
                  refine hsyz.out.mono ?_
                  rintro e Z4 ⟨rfl, hz4⟩
                  rw [HYZ.out]
                  have hF := hF1.next hz4
                  clear hF1 hz4 y0 y1 y2 y3
                  go_wp2_with fail
                  go_region_held3 (fun W => W.cell? ⟨W2.heap.size, 0, none⟩ = some (.int .i64 (shiftTm t b).kind) ∧ W.cell? ⟨W2.heap.size, 1, none⟩ = some (.string (shiftTm t b).name) ∧ W.cell? ⟨W2.heap.size, 2, none⟩ = some (.int .i64 (shiftTm t b).n) ∧ W.cell? ⟨W2.heap.size, 3, none⟩ = some (.slice gx (shiftTm t b).args.length cx) ∧ W.cell? ⟨w.heap.size, 0, none⟩ = some (.int .i64 t.kind) ∧ W.cell? ⟨w.heap.size, 1, none⟩ = some (.string t.name) ∧ W.cell? ⟨w.heap.size, 2, none⟩ = some (.int .i64 t.n) ∧ W.cell? ⟨w.heap.size, 3, none⟩ = some (.slice ga t.args.length ca) ∧ FSt w w.heap.size W2.heap.size t (shiftTm t b) (.slice ga t.args.length ca) (.slice gx (shiftTm t b).args.length cx) (.slice gf vs.length cf) (.slice gt vs.length ct) vs (vs.map fun v => v + b) W)
                    (first | exact (hF.next ((Below.refl _ _).drew)).cells | exact ((FSt.of (by assumption)).next (by assumption)).cells)
                    (first
                      | (go_at_call 21; refine (turn_any vs (vs.map fun v => v + b) (by simp) HTWF.out t _ _ _ _ _ (Nat.le_refl _) (FSt.of (w := w) (Bt := w.heap.size) (Bx := W2.heap.size) (x := shiftTm t b) (svx := .slice gx (shiftTm t b).args.length cx) (vf := .slice gf vs.length cf) (vt := .slice gt vs.length ct) (vs := vs) (tos := vs.map fun v => v + b) (by assumption)).bt.2 (FSt.of (w := w) (Bt := w.heap.size) (Bx := W2.heap.size) (t := t) (x := shiftTm t b) (svt := .slice ga t.args.length ca) (svx := .slice gx (shiftTm t b).args.length cx) (vt := .slice gt vs.length ct) (tos := vs.map fun v => v + b) (by assumption)).hf (FSt.of (w := w) (Bt := w.heap.size) (Bx := W2.heap.size) (t := t) (x := shiftTm t b) (svt := .slice ga t.args.length ca) (svx := .slice gx (shiftTm t b).args.length cx) (vf := .slice gf vs.length cf) (vs := vs) (by assumption)).ht HCOVT.out).mono ?_; rintro e w' ⟨g', c', rfl, hp, hb⟩)
                      | (go_at_call 14; refine (rsame_any (shiftTm t b) (t.ren (toOf vs (vs.map fun v => v + b))) _ _ _ _ (Nat.le_refl _) (FSt.of (w := w) (Bt := w.heap.size) (Bx := W2.heap.size) (t := t) (svt := .slice ga t.args.length ca) (vf := .slice gf vs.length cf) (vt := .slice gt vs.length ct) (vs := vs) (tos := vs.map fun v => v + b) (by assumption)).bx.2 (Tm.inn_of_P (fun b hb => hb.2) _ _ hp)).mono ?_; rintro e w' ⟨rfl, hb⟩; rw [HSXT.out])
                      | (go_at_call 8; refine (knows_any _).mono ?_; rintro e w' ⟨rfl, hb⟩))
                  go_wp2_with fail
                  go_ret
                  clear hF
                  exact ⟨rfl, (FSt.of (w := w) (Bt := w.heap.size) (Bx := W2.heap.size) (t := t) (x := shiftTm t b) (svt := .slice ga t.args.length ca) (svx := .slice gx (shiftTm t b).args.length cx) (vf := .slice gf vs.length cf) (vt := .slice gt vs.length ct) (vs := vs) (tos := vs.map fun v => v + b) (by assumption)).below⟩
                · skip
                  have hF := hF1
                  clear hF1 y0 y1 y2 y3
                  go_wp2_with fail
                  go_region_held3 (fun W => W.cell? ⟨W2.heap.size, 0, none⟩ = some (.int .i64 (shiftTm t b).kind) ∧ W.cell? ⟨W2.heap.size, 1, none⟩ = some (.string (shiftTm t b).name) ∧ W.cell? ⟨W2.heap.size, 2, none⟩ = some (.int .i64 (shiftTm t b).n) ∧ W.cell? ⟨W2.heap.size, 3, none⟩ = some (.slice gx (shiftTm t b).args.length cx) ∧ W.cell? ⟨w.heap.size, 0, none⟩ = some (.int .i64 t.kind) ∧ W.cell? ⟨w.heap.size, 1, none⟩ = some (.string t.name) ∧ W.cell? ⟨w.heap.size, 2, none⟩ = some (.int .i64 t.n) ∧ W.cell? ⟨w.heap.size, 3, none⟩ = some (.slice ga t.args.length ca) ∧ FSt w w.heap.size W2.heap.size t (shiftTm t b) (.slice ga t.args.length ca) (.slice gx (shiftTm t b).args.length cx) (.slice gf vs.length cf) (.slice gt vs.length ct) vs (vs.map fun v => v + b) W)
                    (first | exact (hF.next ((Below.refl _ _).drew)).cells | exact ((FSt.of (by assumption)).next (by assumption)).cells)
                    (first
                      | (go_at_call 21; refine (turn_any vs (vs.map fun v => v + b) (by simp) HTWF.out t _ _ _ _ _ (Nat.le_refl _) (FSt.of (w := w) (Bt := w.heap.size) (Bx := W2.heap.size) (x := shiftTm t b) (svx := .slice gx (shiftTm t b).args.length cx) (vf := .slice gf vs.length cf) (vt := .slice gt vs.length ct) (vs := vs) (tos := vs.map fun v => v + b) (by assumption)).bt.2 (FSt.of (w := w) (Bt := w.heap.size) (Bx := W2.heap.size) (t := t) (x := shiftTm t b) (svt := .slice ga t.args.length ca) (svx := .slice gx (shiftTm t b).args.length cx) (vt := .slice gt vs.length ct) (tos := vs.map fun v => v + b) (by assumption)).hf (FSt.of (w := w) (Bt := w.heap.size) (Bx := W2.heap.size) (t := t) (x := shiftTm t b) (svt := .slice ga t.args.length ca) (svx := .slice gx (shiftTm t b).args.length cx) (vf := .slice gf vs.length cf) (vs := vs) (by assumption)).ht HCOVT.out).mono ?_; rintro e w' ⟨g', c', rfl, hp, hb⟩)
                      | (go_at_call 14; refine (rsame_any (shiftTm t b) (t.ren (toOf vs (vs.map fun v => v + b))) _ _ _ _ (Nat.le_refl _) (FSt.of (w := w) (Bt := w.heap.size) (Bx := W2.heap.size) (t := t) (svt := .slice ga t.args.length ca) (vf := .slice gf vs.length cf) (vt := .slice gt vs.length ct) (vs := vs) (tos := vs.map fun v => v + b) (by assumption)).bx.2 (Tm.inn_of_P (fun b hb => hb.2) _ _ hp)).mono ?_; rintro e w' ⟨rfl, hb⟩; rw [HSXT.out])
                      | (go_at_call 8; refine (knows_any _).mono ?_; rintro e w' ⟨rfl, hb⟩))
                  go_wp2_with fail
                  go_ret
                  clear hF
                  exact ⟨rfl, (FSt.of (w := w) (Bt := w.heap.size) (Bx := W2.heap.size) (t := t) (x := shiftTm t b) (svt := .slice ga t.args.length ca) (svx := .slice gx (shiftTm t b).args.length cx) (vf := .slice gf vs.length cf) (vt := .slice gt vs.length ct) (vs := vs) (tos := vs.map fun v => v + b) (by assumption)).below⟩
end Go.Proofs.Ytkmaaaednbjjkaa
