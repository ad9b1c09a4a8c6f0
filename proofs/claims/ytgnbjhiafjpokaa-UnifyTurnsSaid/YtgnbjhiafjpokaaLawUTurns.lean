/-
  The statement UnifyTurns, walked: for any three terms that lie in memory the call returns true, and nothing that was there has turned.
-/
import Derived.Test.YtgnbjhiafjpokaaUKnows
import Derived.Test.YtgnbjhiafjpokaaLawUMost
import Derived.Test.YtgnbjhiafjpokaaTwoS
import Derived.Test.YtgnbjhiafjpokaaNumd
namespace Go.Proofs.Ytgnbjhiafjpokaa
open Go.RowKit Go.Shelf Go.Maps

/-- What stays between the calls: the three terms' boxes, the row of them; all of it lies below the fourth block of the call's. -/
structure USt (w : World) (a b c : Tm) (sva svb svc : Value) (gs : Option Addr) (W : World) : Prop where
  hb : Below w.heap.size w W
  le : w.heap.size + 4 ≤ W.heap.size
  ka : W.heap[w.heap.size]? = some (Obj.cells #[.int .i64 a.kind, .string a.name, .int .i64 a.n, sva] 27 (0, 0))
  kb : W.heap[w.heap.size + 1]? = some (Obj.cells #[.int .i64 b.kind, .string b.name, .int .i64 b.n, svb] 27 (0, 0))
  kc : W.heap[w.heap.size + 1 + 1]? = some (Obj.cells #[.int .i64 c.kind, .string c.name, .int .i64 c.n, svc] 27 (0, 0))
  ia : Tm.inn W (w.heap.size + 4) a sva
  ib : Tm.inn W (w.heap.size + 4) b svb
  ic : Tm.inn W (w.heap.size + 4) c svc
  al : Tm.sliceIn W (w.heap.size + 4) [a, b, c] (.slice gs 3 3)
theorem USt.far {w : World} {a b c : Tm} {sva svb svc : Value} {gs : Option Addr} {W W' : World} (h : USt w a b c sva svb svc gs W) (hb : Below (w.heap.size + 4) W W') : USt w a b c sva svb svc gs W' :=
  ⟨h.hb.trans (hb.mono (by omega)), Nat.le_trans h.le hb.size, (hb.block _ (by omega)).trans h.ka, (hb.block _ (by omega)).trans h.kb, (hb.block _ (by omega)).trans h.kc,
    Tm.inn_below h.ia hb (Nat.le_refl _), Tm.inn_below h.ib hb (Nat.le_refl _), Tm.inn_below h.ic hb (Nat.le_refl _), Tm.sliceIn_below h.al hb (Nat.le_refl _)⟩
theorem USt.next {w : World} {a b c : Tm} {sva svb svc : Value} {gs : Option Addr} {W W' : World} (h : USt w a b c sva svb svc gs W) (hb : Below W.heap.size W W') : USt w a b c sva svb svc gs W' := h.far (hb.mono h.le)
theorem USt.start {w : World} {a b c : Tm} {sva svb svc : Value} (ha : Tm.inn w w.heap.size a sva) (hb : Tm.inn w w.heap.size b svb) (hc : Tm.inn w w.heap.size c svc) :
    USt w a b c sva svb svc (some ⟨w.heap.size + 1 + 1 + 1, 0, none⟩) ((((w.alloc (Obj.cells #[.int .i64 a.kind, .string a.name, .int .i64 a.n, sva] 27 (0, 0))).alloc (Obj.cells #[.int .i64 b.kind, .string b.name, .int .i64 b.n, svb] 27 (0, 0))).alloc (Obj.cells #[.int .i64 c.kind, .string c.name, .int .i64 c.n, svc] 27 (0, 0))).alloc
      (Obj.cells #[.int .i64 a.kind, .string a.name, .int .i64 a.n, sva, .int .i64 b.kind, .string b.name, .int .i64 b.n, svb, .int .i64 c.kind, .string c.name, .int .i64 c.n, svc] 27 (0, 0))) := by
  have h3 := al3 w (Obj.cells #[.int .i64 a.kind, .string a.name, .int .i64 a.n, sva] 27 (0, 0)) (Obj.cells #[.int .i64 b.kind, .string b.name, .int .i64 b.n, svb] 27 (0, 0)) (Obj.cells #[.int .i64 c.kind, .string c.name, .int .i64 c.n, svc] 27 (0, 0))
  have h4 := h3.alloc (by simp <;> omega) (Obj.cells #[.int .i64 a.kind, .string a.name, .int .i64 a.n, sva, .int .i64 b.kind, .string b.name, .int .i64 b.n, svb, .int .i64 c.kind, .string c.name, .int .i64 c.n, svc] 27 (0, 0))
  have ia := Tm.inn_mono (Tm.inn_below ha h4 (Nat.le_refl _)) (show w.heap.size ≤ w.heap.size + 4 by omega)
  have ib := Tm.inn_mono (Tm.inn_below hb h4 (Nat.le_refl _)) (show w.heap.size ≤ w.heap.size + 4 by omega)
  have ic := Tm.inn_mono (Tm.inn_below hc h4 (Nat.le_refl _)) (show w.heap.size ≤ w.heap.size + 4 by omega)
  refine ⟨h4, by simp, (Below.heap_alloc _ _ _ (by simp <;> omega)).trans ((Below.heap_alloc _ _ _ (by simp <;> omega)).trans ((Below.heap_alloc _ _ _ (by simp)).trans (newBlk _ _ _ rfl))),
    (Below.heap_alloc _ _ _ (by simp <;> omega)).trans ((Below.heap_alloc _ _ _ (by simp)).trans (newBlk _ _ _ (by simp))), (Below.heap_alloc _ _ _ (by simp)).trans (newBlk _ _ _ (by simp)), ia, ib, ic, ?_⟩
  have hr := newBlk (((w.alloc (Obj.cells #[.int .i64 a.kind, .string a.name, .int .i64 a.n, sva] 27 (0, 0))).alloc (Obj.cells #[.int .i64 b.kind, .string b.name, .int .i64 b.n, svb] 27 (0, 0))).alloc (Obj.cells #[.int .i64 c.kind, .string c.name, .int .i64 c.n, svc] 27 (0, 0)))
    (Obj.cells #[.int .i64 a.kind, .string a.name, .int .i64 a.n, sva, .int .i64 b.kind, .string b.name, .int .i64 b.n, svb, .int .i64 c.kind, .string c.name, .int .i64 c.n, svc] 27 (0, 0)) (w.heap.size + 1 + 1 + 1) (by simp)
  refine ⟨_, 3, rfl, Nat.le_refl _, by simp, .inr ⟨w.heap.size + 1 + 1 + 1, 0, rfl, by omega, ?_⟩⟩
  simp only [Tm.rowIn]
  refine ⟨⟨sva, ?_, ?_, ?_, ?_, ia⟩, ⟨svb, ?_, ?_, ?_, ?_, ib⟩, ⟨svc, ?_, ?_, ?_, ?_, ic⟩, trivial⟩ <;> simp only [World.cell?, hr] <;> rfl
theorem small_three {a b c : Tm} (h : Tm.smallB [a, b, c] = true) : a.size ≤ 60 ∧ b.size ≤ 60 ∧ c.size ≤ 60 ∧ (varsOf [a, b, c]).length ≤ 60 := by
  have h1 := Tm.smallB_says h
  have h2 := varsOf_length [a, b, c]
  simp only [Tm.sizes] at h1 h2
  omega
theorem USt.ca {w : World} {a b c : Tm} {sva svb svc : Value} {gs : Option Addr} {W : World} (h : USt w a b c sva svb svc gs W) : W.cell? ⟨w.heap.size, 0, none⟩ = some (.int .i64 a.kind) ∧ W.cell? ⟨w.heap.size, 1, none⟩ = some (.string a.name) ∧ W.cell? ⟨w.heap.size, 2, none⟩ = some (.int .i64 a.n) ∧ W.cell? ⟨w.heap.size, 3, none⟩ = some sva := (row4 h.ka).1
theorem USt.cb {w : World} {a b c : Tm} {sva svb svc : Value} {gs : Option Addr} {W : World} (h : USt w a b c sva svb svc gs W) : W.cell? ⟨w.heap.size + 1, 0, none⟩ = some (.int .i64 b.kind) ∧ W.cell? ⟨w.heap.size + 1, 1, none⟩ = some (.string b.name) ∧ W.cell? ⟨w.heap.size + 1, 2, none⟩ = some (.int .i64 b.n) ∧ W.cell? ⟨w.heap.size + 1, 3, none⟩ = some svb := (row4 h.kb).1
theorem USt.cc {w : World} {a b c : Tm} {sva svb svc : Value} {gs : Option Addr} {W : World} (h : USt w a b c sva svb svc gs W) : W.cell? ⟨w.heap.size + 1 + 1, 0, none⟩ = some (.int .i64 c.kind) ∧ W.cell? ⟨w.heap.size + 1 + 1, 1, none⟩ = some (.string c.name) ∧ W.cell? ⟨w.heap.size + 1 + 1, 2, none⟩ = some (.int .i64 c.n) ∧ W.cell? ⟨w.heap.size + 1 + 1, 3, none⟩ = some svc := (row4 h.kc).1
theorem USt.drew {w : World} {a b c : Tm} {sva svb svc : Value} {gs : Option Addr} {W : World} (h : USt w a b c sva svb svc gs W) : USt w a b c sva svb svc gs W.drew := h.next ((Below.refl _ _).drew)

def TS (pb po : Nat) (X0 X1 : Tm) (s0 s1 : Value) (Wn W : World) : Prop := W.cell? ⟨pb, po, none⟩ = some (.int .i64 X0.kind) ∧ W.cell? ⟨pb, po + 1, none⟩ = some (.string X0.name) ∧ W.cell? ⟨pb, po + 2, none⟩ = some (.int .i64 X0.n) ∧ W.cell? ⟨pb, po + 3, none⟩ = some s0 ∧
  W.cell? ⟨pb, po + 4, none⟩ = some (.int .i64 X1.kind) ∧ W.cell? ⟨pb, po + 4 + 1, none⟩ = some (.string X1.name) ∧ W.cell? ⟨pb, po + 4 + 2, none⟩ = some (.int .i64 X1.n) ∧ W.cell? ⟨pb, po + 4 + 3, none⟩ = some s1 ∧ Below Wn.heap.size Wn W
theorem TS.next {pb po : Nat} {X0 X1 : Tm} {s0 s1 : Value} {Wn W W' : World} (h : TS pb po X0 X1 s0 s1 Wn W) (hb : Below W.heap.size W W') : TS pb po X0 X1 s0 s1 Wn W' := by
  have key : ∀ b o v, W.cell? ⟨b, o, none⟩ = some v → W'.cell? ⟨b, o, none⟩ = some v := fun b o v h => (hb.cell (p := ⟨b, o, none⟩) (World.block_lt_of_cell? _ _ h)).trans h
  obtain ⟨h0, h1, h2, h3, h4, h5, h6, h7, h8⟩ := h
  exact ⟨key _ _ _ h0, key _ _ _ h1, key _ _ _ h2, key _ _ _ h3, key _ _ _ h4, key _ _ _ h5, key _ _ _ h6, key _ _ _ h7, h8.trans (hb.mono h8.size)⟩
theorem TS.below {pb po : Nat} {X0 X1 : Tm} {s0 s1 : Value} {Wn W : World} (h : TS pb po X0 X1 s0 s1 Wn W) : Below Wn.heap.size Wn W := h.2.2.2.2.2.2.2.2
theorem TS.mk' {Wn : World} {Xs : List Tm} {pb po : Nat} {len cap : Nat} (h : Tm.sliceIn Wn Wn.heap.size Xs (.slice (some ⟨pb, po, none⟩) len cap)) (hl : Xs.length = 3) : ∃ X0 X1 s0 s1, Xs[0]? = some X0 ∧ Xs[1]? = some X1 ∧ Tm.inn Wn Wn.heap.size X0 s0 ∧ Tm.inn Wn Wn.heap.size X1 s1 ∧ TS pb po X0 X1 s0 s1 Wn Wn.drew := by
  obtain ⟨b, o, s0, hg, hb, c0, c1, c2, c3, h0⟩ := Tm.sliceIn_get h 0 (by omega)
  obtain ⟨b', o', s1, hg', hb', d0, d1, d2, d3, h1⟩ := Tm.sliceIn_get h 1 (by omega)
  cases hg
  cases hg'
  simp only [Nat.zero_mul, Nat.add_zero, Nat.one_mul] at c0 c1 c2 c3 d0 d1 d2 d3
  exact ⟨Xs[0], Xs[1], s0, s1, by simp, by simp, h0, h1, c0, c1, c2, c3, d0, d1, d2, d3, (Below.refl _ _).drew⟩
theorem sizes_le {m : Nat} : ∀ l : List Tm, (∀ t ∈ l, t.size ≤ m) → Tm.sizes l ≤ m * l.length
  | [], _ => by simp [Tm.sizes]
  | t :: r, h => by
    have h1 := sizes_le r fun x hx => h x (by simp [hx])
    have h2 := h t (by simp)
    simp only [Tm.sizes, List.length_cons, Nat.mul_add, Nat.mul_one]
    omega

set_option maxRecDepth 100000 in
set_option maxHeartbeats 8000000 in
theorem uturns_any (a b c : Tm) (w : World) (sva svb svc : Value) (hia : Tm.inn w w.heap.size a sva) (hib : Tm.inn w w.heap.size b svb) (hic : Tm.inn w w.heap.size c svc) :
    Calls Try.prog 10 #[.agg #[.int .i64 a.kind, .string a.name, .int .i64 a.n, sva], .agg #[.int .i64 b.kind, .string b.name, .int .i64 b.n, svb], .agg #[.int .i64 c.kind, .string c.name, .int .i64 c.n, svc]] w fun e w' => e = .returned (.bool true) ∧ Below w.heap.size w w' := by
  obtain ⟨_, ga, ca, rfl, _, _, _⟩ := Tm.inn_iff.1 hia
  obtain ⟨_, gb, cb, rfl, _, _, _⟩ := Tm.inn_iff.1 hib
  obtain ⟨_, gc, cc, rfl, _, _, _⟩ := Tm.inn_iff.1 hic
  have A0 := Lib.hid (USt.start hia hib hic)
  have hp := Try.underlying60
  clear hia hib hic
  go_enter Try.func10, Try.ntmps10
  go_wp2_with fail
  obtain ⟨gs, hgs⟩ : ∃ g, (some (⟨w.heap.size + 1 + 1 + 1, 0, none⟩ : Addr)) = g := ⟨_, rfl⟩
  rw [hgs] at A0 ⊢
  clear hgs
  refine (usmall_any [a, b, c] _ _ _ A0.out.le A0.out.al).mono ?_
  rintro e W1 ⟨rfl, hb1⟩
  have A1 := Lib.hid (A0.out.next hb1)
  clear hb1 A0
  cases hs : Tm.smallB [a, b, c] with
  | false =>
    clear hs
    go_wp2_with fail
    refine (uknows_any W1).mono ?_
    rintro e W2 ⟨rfl, hb2⟩
    have HB := Lib.hid (A1.out.next hb2).hb
    clear hb2
    go_wp2_with fail
    go_ret
    exact ⟨rfl, HB.out⟩
  | true =>
    obtain ⟨hsa, hsb, hsc, hvl⟩ := small_three hs
    clear hs
    obtain ⟨y0, y1, y2, y3⟩ := A1.out.ca
    go_wp2_with fail
    refine (rright_any a W1 _ _ A1.out.le A1.out.ia (by omega)).mono ?_
    rintro e W2 ⟨rfl, hb2⟩
    have A2 := Lib.hid (A1.out.next hb2)
    clear hb2 y0 y1 y2 y3 A1
    cases hra : a.right with
    | false =>
      clear hra
      go_wp2_with fail
      refine (uknows_any W2).mono ?_
      rintro e W3 ⟨rfl, hb3⟩
      have HB := Lib.hid (A2.out.next hb3).hb
      clear hb3
      go_wp2_with fail
      go_ret
      exact ⟨rfl, HB.out⟩
    | true =>
      have HRA := Lib.hid hra
      clear hra
      obtain ⟨y0, y1, y2, y3⟩ := A2.out.cb
      go_wp2_with fail
      refine (rright_any b W2 _ _ A2.out.le A2.out.ib (by omega)).mono ?_
      rintro e W3 ⟨rfl, hb3⟩
      have A3 := Lib.hid (A2.out.next hb3)
      clear hb3 y0 y1 y2 y3 A2
      cases hrb : b.right with
      | false =>
        clear hrb
        go_wp2_with fail
        refine (uknows_any W3).mono ?_
        rintro e W4 ⟨rfl, hb4⟩
        have HB := Lib.hid (A3.out.next hb4).hb
        clear hb4
        go_wp2_with fail
        go_ret
        exact ⟨rfl, HB.out⟩
      | true =>
        have HRB := Lib.hid hrb
        clear hrb
        obtain ⟨y0, y1, y2, y3⟩ := A3.out.cc
        go_wp2_with fail
        refine (rright_any c W3 _ _ A3.out.le A3.out.ic (by omega)).mono ?_
        rintro e W4 ⟨rfl, hb4⟩
        have A4 := Lib.hid (A3.out.next hb4)
        clear hb4 y0 y1 y2 y3 A3
        cases hrc : c.right with
        | false =>
          clear hrc
          go_wp2_with fail
          refine (uknows_any W4).mono ?_
          rintro e W5 ⟨rfl, hb5⟩
          have HB := Lib.hid (A4.out.next hb5).hb
          clear hb5
          go_wp2_with fail
          go_ret
          exact ⟨rfl, HB.out⟩
        | true =>
          have HRC := Lib.hid hrc
          clear hrc
          obtain ⟨x0, x1, x2, x3⟩ := A4.out.ca
          obtain ⟨y0, y1, y2, y3⟩ := A4.out.cb
          go_wp2_with fail
          refine (unify_nil _ _ _ _ _ _ _ _ _ _ _ rfl rfl).mono ?_
          rintro e W5 ⟨rfl, hb5⟩
          have A5 := Lib.hid (A4.out.next hb5)
          clear hb5 A4 x0 x1 x2 x3 y0 y1 y2 y3
          go_wp2_with fail
          refine (new_any _ (w.heap.size + 4) A5.out.le).mono ?_
          rintro e W6 ⟨rfl, hb6, hs6⟩
          have A6 := Lib.hid (A5.out.next hb6)
          have S6 := Lib.hid hs6
          clear hb6 hs6
          go_wp2_with fail
          refine (new_any _ (w.heap.size + 4) A6.out.le).mono ?_
          rintro e W7 ⟨rfl, hb7, hs7⟩
          have A7 := Lib.hid (A6.out.next hb7)
          have P7 := Lib.hid (Pair.made S6.out hb7 hs7 (Nat.le_refl _))
          obtain ⟨sb, hsb0⟩ : ∃ x, W5.heap.size = x := ⟨_, rfl⟩
          obtain ⟨su, hsu0⟩ : ∃ x, W6.heap.size = x := ⟨_, rfl⟩
          rw [hsb0, hsu0] at P7
          rw [hsb0, hsu0]
          clear hb7 hs7 S6 A5 A6 hsb0 hsu0
          go_wp2_with fail
          refine (mark_nil _).mono ?_
          rintro e W8 ⟨rfl, rfl⟩
          go_wp2_with fail
          refine (undo_nil _).mono ?_
          rintro e W8 ⟨rfl, rfl⟩
          obtain ⟨x0, x1, x2, x3⟩ := A7.out.ca
          obtain ⟨y0, y1, y2, y3⟩ := A7.out.cb
          go_wp2_with fail
          refine (P7.out.unify (V := varsOf [a, b, c]) (by intro x hx; cases hx) (by omega) (Nat.zero_le _) HRA.out HRB.out (fun v hv => (vars_vs _ v).2 ⟨a, by simp, hv⟩) (fun v hv => (vars_vs _ v).2 ⟨b, by simp, hv⟩) A7.out.ia A7.out.ib).mono ?_
          rintro e W8 ⟨q, l, rfl, hb8, hp8, hv8, hc8⟩
          have A8 := Lib.hid (A7.out.far hb8)
          have P8 := Lib.hid hp8.swap
          have HV8 := Lib.hid hv8
          have HC8 := Lib.hid hc8
          clear hb8 hp8 hv8 hc8 A7 P7 x0 x1 x2 x3 y0 y1 y2 y3
          obtain ⟨x0, x1, x2, x3⟩ := A8.out.ca
          obtain ⟨y0, y1, y2, y3⟩ := A8.out.cb
          go_wp2_with fail
          refine (P8.out.unify (V := varsOf [a, b, c]) (by intro x hx; cases hx) (by omega) (by omega) HRB.out HRA.out (fun v hv => (vars_vs _ v).2 ⟨b, by simp, hv⟩) (fun v hv => (vars_vs _ v).2 ⟨a, by simp, hv⟩) A8.out.ib A8.out.ia).mono ?_
          rintro e W9 ⟨q2, m, rfl, hb9, hp9, hv9, hc9⟩
          have A9 := Lib.hid (A8.out.far hb9)
          have P9 := Lib.hid hp9.swap
          have HV9 := Lib.hid hv9
          obtain ⟨rfl, hal, hrl, hrm, hq0, hq1⟩ := turn_pure HC8.out hc9
          have HAL := Lib.hid hal
          have HRL := Lib.hid hrl
          have HRM := Lib.hid hrm
          have HQ0 := Lib.hid hq0
          have HQ1 := Lib.hid hq1
          clear hb9 hp9 hv9 hc9 A8 P8 x0 x1 x2 x3 y0 y1 y2 y3 hal hrl hrm hq0 hq1
          have hqq : (q2 != q2) = false := by simp
          go_wp2_with fail
          refine (P9.out.mark).mono ?_
          rintro e W10 ⟨rfl, rfl⟩
          obtain ⟨x0, x1, x2, x3⟩ := A9.out.ca
          obtain ⟨y0, y1, y2, y3⟩ := A9.out.cb
          go_wp2_with fail
          refine (P9.out.unify (V := varsOf [a, b, c]) HV8.out (by omega) (by omega) HRA.out HRB.out (fun v hv => (vars_vs _ v).2 ⟨a, by simp, hv⟩) (fun v hv => (vars_vs _ v).2 ⟨b, by simp, hv⟩) A9.out.ia A9.out.ib).mono ?_
          rintro e W10 ⟨q3, l2, rfl, hb10, hp10, hv10, hc10⟩
          obtain ⟨rfl, rfl⟩ := again_pure HC8.out hc10
          have A10 := Lib.hid (A9.out.far hb10)
          have P10 := Lib.hid hp10
          clear hb10 hp10 hv10 hc10 A9 P9 HC8 x0 x1 x2 x3 y0 y1 y2 y3
          go_wp2_with fail
          refine (P10.out.mark).mono ?_
          rintro e W11 ⟨rfl, rfl⟩
          have hll : ((l2.length : Int) != (l2.length : Int)) = false := by simp
          obtain ⟨σ, hσ⟩ := sol_of HRL.out
          obtain ⟨τ, hτ⟩ := sol_of HRM.out
          have HS := Lib.hid hσ
          have HT := Lib.hid hτ
          clear hσ hτ
          obtain ⟨i0, hi, hz0, hz1, hz2⟩ := info_parts Try.infoTm
          have HALL := Lib.hid (show ∀ t ∈ [a, b, c], t.right = true ∧ t.size ≤ 60 from fun t ht => by simp only [List.mem_cons, List.not_mem_nil, or_false] at ht; rcases ht with rfl | rfl | rfl <;> first | exact ⟨HRA.out, hsa⟩ | exact ⟨HRB.out, hsb⟩ | exact ⟨HRC.out, hsc⟩)
          go_wp2_with fail
          obtain ⟨ts, hts, hl3⟩ : ∃ ts, [a, b, c] = ts ∧ ts.length = 3 := ⟨_, rfl, rfl⟩
          have hw10 := A10.out.le
          go_loopw [20, 21, 22] (fun v u i wr => ∃ k : Nat, k ≤ 3 ∧ i = .int .i64 (k : Nat) ∧ Hid (∃ xs ys, R2 W10.heap.size wr v ((ts.take k).map (Tm.bnd σ)) xs u ((ts.take k).map (Tm.bnd τ)) ys) ∧ Hid (Below W10.heap.size W10 wr) ∧ Hid (∀ t ∈ ts.take k, (t.bnd σ).right = true ∧ (t.bnd τ).right = true)) (fun _ _ i _ => 3 - (intOf i).toNat)
          case atStart => exact ⟨0, by omega, rfl, ⟨[], [], R2.start _ _⟩, Below.refl _ _, by simp [Hid]⟩
          case round =>
            obtain ⟨wz, rfl⟩ : ∃ x, x = wr := ⟨_, rfl⟩
            obtain ⟨k, hk, rfl, hr2, hb, hrt⟩ := hrel
            obtain ⟨xs, ys, hr2⟩ := hr2.out
            have HR2 := Lib.hid hr2
            have HV1 := Lib.hid (fun b (e : u20.ownBlock = some b) => (HR2.out.o1.lt b e).2)
            have HB := Lib.hid hb.out
            have HRT := Lib.hid hrt.out
            have hbz := hb.out.size
            have AZ := Lib.hid (A10.out.next hb.out)
            have PZ := Lib.hid (P10.out.next hb.out)
            clear hr2 hb hrt
            by_cases hlt : k < 3
            · have hlt3 : k < ts.length := by omega
              have hal := AZ.out.al
              rw [hts] at hal
              obtain ⟨pb, po, st, hgx, hpB, g0, g1, g2, g3, hin⟩ := Tm.sliceIn_get hal k hlt3
              have hwz := AZ.out.le
              have hpl : pb < wz.heap.size := by omega
              have hmem := List.getElem_mem hlt3
              have hM : ∀ θ : Int → Tm, (ts.take (k + 1)).map (Tm.bnd θ) = (ts.take k).map (Tm.bnd θ) ++ [ts[k].bnd θ] := fun θ => by rw [List.take_succ_eq_append_getElem hlt3, List.map_append]; rfl
              have hN : ∀ t ∈ ts.take (k + 1), t ∈ ts.take k ∨ t = ts[k] := fun t ht => by rw [List.take_succ_eq_append_getElem hlt3] at ht; exact (List.mem_append.1 ht).elim .inl (fun h => .inr (List.mem_singleton.1 h))
              obtain ⟨t, ht⟩ : ∃ t, ts[k] = t := ⟨_, rfl⟩
              rw [ht] at g0 g1 g2 hin hmem hM hN
              obtain ⟨hrt, hst⟩ := HALL.out t (hts ▸ hmem)
              obtain ⟨gt, ct, rfl⟩ := inn_sl hin
              have HM := Lib.hid hM
              have HN := Lib.hid hN
              have HRTT := Lib.hid hrt
              have HIN := Lib.hid (Tm.inn_mono hin hwz)
              subst hgx
              clear hal hmem hM hN hrt hin ht
              go_wp2_with fail
              refine (PZ.out.value HS.out HIN.out (by omega) (V := varsOf [a, b, c]) HV8.out (by omega)).mono ?_
              rintro e W1 ⟨X, E, gx, cx, rfl, hinx, hb1, hspx⟩
              have hs1 := hb1.size
              have hal1 : Below W1.heap.size W1 (W1.alloc (.cells #[.int .i64 X.kind, .string X.name, .int .i64 X.n, .slice gx X.args.length cx] 27)) := (Below.refl _ _).alloc (Nat.le_refl _) _
              have R1 := Lib.hid (HR2.out.next hb1)
              have HX1 := Lib.hid (ok2_next hal1 (HR2.out.fresh hbz hinx))
              have R1' := Lib.hid (R1.out.next hal1)
              have B1 := Lib.hid (hb1.trans (hal1.mono hs1))
              have HSPX := Lib.hid hspx
              have k1 := Lib.hid (newBlk W1 (.cells #[.int .i64 X.kind, .string X.name, .int .i64 X.n, .slice gx X.args.length cx] 27) _ rfl)
              have PW := Lib.hid (P10.out.next (HB.out.trans (B1.out.mono hbz)))
              have INW := Lib.hid (Tm.inn_mono (Tm.inn_below HIN.out B1.out (Nat.le_refl _)) B1.out.size)
              have f0 := (hb1.cell (p := ⟨pb, po + k * 4, none⟩) hpl).trans g0
              have f1 := (hb1.cell (p := ⟨pb, po + k * 4 + 1, none⟩) hpl).trans g1
              have f2 := (hb1.cell (p := ⟨pb, po + k * 4 + 2, none⟩) hpl).trans g2
              have f3 := (hb1.cell (p := ⟨pb, po + k * 4 + 3, none⟩) hpl).trans g3
              have hpl1 : pb < W1.heap.size := by omega
              clear hinx hb1 hspx g0 g1 g2 g3 hal1 R1
              go_wp2_with fail
              refine (PW.out.swap.value HT.out INW.out (by omega) (V := varsOf [a, b, c]) HV9.out (by omega)).mono ?_
              rintro e W2 ⟨Y, F, gy, cy, rfl, hiny, hb2, hspy⟩
              have hs2 := hb2.size
              have hs2' : W1.heap.size + 1 ≤ W2.heap.size := by simpa using hs2
              obtain ⟨rfl, hxy⟩ := value_pure HAL.out HRL.out HRM.out HS.out HT.out HRTT.out HSPX.out hspy
              have hal2 : Below W2.heap.size W2 (W2.alloc (.cells #[.int .i64 Y.kind, .string Y.name, .int .i64 Y.n, .slice gy Y.args.length cy] 27)) := (Below.refl _ _).alloc (Nat.le_refl _) _
              have HY2 := Lib.hid (ok2_next hal2 (R1'.out.fresh (by simp; omega) hiny))
              have HX2 := Lib.hid (ok2_next hal2 (ok2_next hb2 HX1.out))
              have R2' := Lib.hid ((R1'.out.next hb2).next hal2)
              have B2 := Lib.hid (B1.out.trans ((hb2.trans (hal2.mono hs2)).mono B1.out.size))
              have HXY := Lib.hid hxy
              have hkx := (hal2.block _ (by omega)).trans ((hb2.block W1.heap.size (by simp)).trans k1.out)
              have KX := Lib.hid hkx
              have KY := Lib.hid (newBlk W2 (.cells #[.int .i64 Y.kind, .string Y.name, .int .i64 Y.n, .slice gy Y.args.length cy] 27) _ rfl)
              obtain ⟨⟨x0, x1, x2, x3⟩, _⟩ := row4 hkx
              have hlx : W1.heap.size < W2.heap.size := by omega
              have hlx1 : W1.heap.size < W2.heap.size + 1 := by omega
              clear hiny hb2 hspy hal2 hxy hkx f0 f1 f2 f3 PW INW B1 R1' HX1 k1 HR2 hpl hpl1 HSPX
              have hee : (E != E) = false := by simp
              have hown1 := Lib.hid (show (W2.alloc (.cells #[.int .i64 Y.kind, .string Y.name, .int .i64 Y.n, .slice gy Y.args.length cy] 27)).ownsRow W10.heap.size 27 4 u20 k xs by have := R2'.out.o1; rwa [List.length_map, List.length_take, Nat.min_eq_left (by omega)] at this)
              have hown2 := Lib.hid (show (W2.alloc (.cells #[.int .i64 Y.kind, .string Y.name, .int .i64 Y.n, .slice gy Y.args.length cy] 27)).ownsRow W10.heap.size 27 4 u21 k ys by have := R2'.out.o2; rwa [List.length_map, List.length_take, Nat.min_eq_left (by omega)] at this)
              go_upto_region 26 with fail
              go_upto_region 27 with (at_builtin; refine wpList_append_sep _ rfl _ _ 25 rfl W10.heap.size 27 i0 _ 4 56 Try.underlying25 hi hz0 hz1 hz2 rfl (by decide) u20 k xs rfl (World.ownsRow.alloc hown1.out _) ⟨W2.heap.size + 1, 0, none⟩ 1 1 [.int .i64 X.kind, .string X.name, .int .i64 X.n, .slice gx X.args.length cx] rfl (by decide) rfl (news4h _ (by simp)) one4 (by unfold maxLen; omega) (by omega) (by simp; omega) ?_; intro v1 w3 hown3 hgrow hsep)
              have hs3 : W2.heap.size + 2 ≤ w3.heap.size := by have := hgrow.size; simpa using this
              obtain ⟨r3, f3⟩ := R2'.out.app HX2.out (by rw [List.length_map, List.length_take, Nat.min_eq_left (by omega)]; exact hown3) hgrow hsep
              have R3 := Lib.hid r3
              have HY3 := Lib.hid (f3 _ _ HY2.out)
              have hky := (hgrow.block W2.heap.size (by simp; omega) (fun e => by have := HV1.out _ e.symm; omega)).trans ((Below.heap_alloc _ _ _ (by simp)).trans KY.out)
              obtain ⟨⟨y0, y1, y2, y3⟩, _⟩ := row4 hky
              have hly : W2.heap.size < w3.heap.size := by omega
              have B3 := Lib.hid ((((HB.out.trans (B2.out.mono hbz)).alloc (by have := B2.out.size; omega) _).grown hgrow (by simp; omega) (fun j e => (hown1.out.lt j e).1)))
              have hown4 := Lib.hid (show w3.ownsRow W10.heap.size 27 4 u21 k ys by have := R3.out.o2; rwa [List.length_map, List.length_take, Nat.min_eq_left (by omega)] at this)
              clear r3 f3 hky x0 x1 x2 x3 hown3 hgrow hsep hown1 hown2 R2' HX2 HY2 KX KY hlx hlx1
              go_upto_region 28 with (at_builtin; refine wpList_append_sep _ rfl _ _ 25 rfl W10.heap.size 27 i0 _ 4 56 Try.underlying25 hi hz0 hz1 hz2 rfl (by decide) u21 k ys rfl (World.ownsRow.alloc hown4.out _) ⟨w3.heap.size, 0, none⟩ 1 1 [.int .i64 Y.kind, .string Y.name, .int .i64 Y.n, .slice gy Y.args.length cy] rfl (by decide) rfl (news4h _ (by simp)) one4 (by unfold maxLen; omega) (by omega) (by simp; omega) ?_; intro v2 w4 hown5 hgrow2 hsep2)
              obtain ⟨r4, f4⟩ := R3.out.swap.app (Tm.innP_same (fun _ => ok2_swap) (fun _ _ _ _ hc => hc) _ _ HY3.out) (by rw [List.length_map, List.length_take, Nat.min_eq_left (by omega)]; exact hown5) hgrow2 hsep2
              have R4 := Lib.hid r4.swap
              have hw3 : W10.heap.size ≤ w3.heap.size := B3.out.size
              have B4 := Lib.hid ((B3.out.alloc hw3 _).grown hgrow2 (by simp; omega) (fun j e => (hown4.out.lt j e).1))
              clear r4 f4 hown5 hgrow2 hsep2 hown4 R3 HY3 y0 y1 y2 y3 hly
              by_cases hE : E = 0
              · subst hE
                obtain ⟨rfl, rfl, hrx, hry⟩ := HXY.out rfl
                have HRX := Lib.hid (And.intro hrx hry)
                clear hrx hry
                go_wp2_with fail
                go_roundw
                case rel => exact ⟨k + 1, by omega, by go_num, ⟨_, _, by rw [HM.out, HM.out]; exact R4.out⟩, B4.out, fun x hx => (HN.out x hx).elim (fun h => HRT.out x h) (fun h => h ▸ HRX.out)⟩
                case measure => simp [intOf]; omega
              · have hEb : (E != 0) = true := by simpa using hE
                clear hE
                go_wp2_with fail
                refine (uknows_any w4).mono ?_
                rintro e w5 ⟨rfl, hb5⟩
                have HBF := Lib.hid ((A10.out.next B4.out).next hb5).hb
                clear hb5
                go_wp2_with fail
                go_ret
                exact ⟨rfl, HBF.out⟩
            · obtain rfl : k = 3 := by omega
              have hX : ts.take 3 = ts := List.take_of_length_le (by omega)
              have hr2 := HR2.out
              rw [hX] at hr2
              have hrt := HRT.out
              rw [hX] at hrt
              have hfa : ∀ t ∈ ts, t.fair = true := fun t ht => right_fair (HALL.out t (hts ▸ ht)).1
              have hnm := (HAL.out.names HRL.out HRM.out HS.out HT.out hfa).1
              have hXe : q3 = false → ts.map (Tm.bnd σ) = ts := fun h => by
                have hl := HQ0.out h
                refine (List.map_congr_left fun t ht => Tm.bnd_id σ t (hfa t ht) fun v _ => HS.out.free v ?_).trans (List.map_id _)
                rw [hl]; rfl
              have hXX : q3 = true → ∀ x y, (ts.map (Tm.bnd σ))[0]? = some x → (ts.map (Tm.bnd σ))[1]? = some y → x.same y = true := fun h x y hx hy => by
                rw [← hts] at hx hy
                simp only [List.map_cons, List.map_nil, List.getElem?_cons_zero, List.getElem?_cons_succ, Option.some.injEq] at hx hy
                rw [← hx, ← hy, Tm.same_iff]
                exact HQ1.out h σ (HS.out.solves HRL.out.1)
              have haX : (ts.map (Tm.bnd σ)).all Tm.right = true := List.all_eq_true.2 fun x hx => by obtain ⟨t, ht, rfl⟩ := List.mem_map.1 hx; exact (hrt t ht).1
              have haY : (ts.map (Tm.bnd τ)).all Tm.right = true := List.all_eq_true.2 fun x hx => by obtain ⟨t, ht, rfl⟩ := List.mem_map.1 hx; exact (hrt t ht).2
              have hnum : numTms (ts.map (Tm.bnd σ)) = numTms (ts.map (Tm.bnd τ)) := by unfold numTms; rw [if_pos haX, if_pos haY]; exact hnm.symm
              have hlX : (ts.map (Tm.bnd σ)).length = 3 := by simpa using hl3
              have hlY : (ts.map (Tm.bnd τ)).length = 3 := by simpa using hl3
              obtain ⟨Xs, hXs⟩ : ∃ Xs, ts.map (Tm.bnd σ) = Xs := ⟨_, rfl⟩
              obtain ⟨Ys, hYs⟩ : ∃ Ys, ts.map (Tm.bnd τ) = Ys := ⟨_, rfl⟩
              rw [hXs] at hXe hXX haX hnum hlX hr2
              rw [hYs] at haY hnum hlY hr2
              have hsX : Tm.sizes Xs ≤ 1000000 := Nat.le_trans (sizes_le (m := 3000) Xs fun x hx => right_size (List.all_eq_true.1 haX x hx)) (by omega)
              have hsY : Tm.sizes Ys ≤ 1000000 := Nat.le_trans (sizes_le (m := 3000) Ys fun x hx => right_size (List.all_eq_true.1 haY x hx)) (by omega)
              have hs1 := hr2.slice (by omega)
              have hs2 := hr2.swap.slice (by omega)
              obtain ⟨gu, cu, rfl⟩ := owns_slice hr2.o1
              obtain ⟨gv, cv, rfl⟩ := owns_slice hr2.o2
              rw [hlX] at hs1
              rw [hlY] at hs2
              rw [hlX, hlY]
              have HS1 := Lib.hid hs1
              have HS2 := Lib.hid hs2
              obtain ⟨pb, po, hgu⟩ : ∃ pb po, gu = some ⟨pb, po, none⟩ := by obtain ⟨pb, po, _, hgu, _⟩ := Tm.sliceIn_get hs1 0 (by omega); exact ⟨pb, po, hgu⟩
              subst hgu
              have HXE := Lib.hid hXe
              have HXX := Lib.hid hXX
              have HAX := Lib.hid haX
              have HAY := Lib.hid haY
              have HNUM := Lib.hid hnum
              have HSX := Lib.hid hsX
              have HSY := Lib.hid hsY
              have HTA := Lib.hid hts
              have HLX := Lib.hid hlX
              clear hX hr2 hrt hfa hnm hXe hXX haX haY hnum hlX hlY hXs hYs hsX hsY hs1 hs2 HR2 HRT PZ
              cases q3 with
              | true =>
                have HBW := Lib.hid AZ.out.hb
                obtain ⟨X0, X1, s0, s1, hx0, hx1, hi0, hi1, hts0⟩ := TS.mk' HS1.out HLX.out
                obtain ⟨g0, e0, rfl⟩ := inn_sl hi0
                obtain ⟨g1, e1, rfl⟩ := inn_sl hi1
                have HI0 := Lib.hid hi0
                have HI1 := Lib.hid hi1
                have HSA := Lib.hid (HXX.out rfl _ _ hx0 hx1)
                clear hx0 hx1 hi0 hi1
                go_wp2_with fail
                refine wp_region_held_drew (S := fun W' => W'.cell? ⟨pb, po, none⟩ = some (.int .i64 X0.kind) ∧ W'.cell? ⟨pb, po + 1, none⟩ = some (.string X0.name) ∧ W'.cell? ⟨pb, po + 2, none⟩ = some (.int .i64 X0.n) ∧ W'.cell? ⟨pb, po + 3, none⟩ = some (.slice g0 X0.args.length e0) ∧ W'.cell? ⟨pb, po + 4, none⟩ = some (.int .i64 X1.kind) ∧ W'.cell? ⟨pb, po + 4 + 1, none⟩ = some (.string X1.name) ∧ W'.cell? ⟨pb, po + 4 + 2, none⟩ = some (.int .i64 X1.n) ∧ W'.cell? ⟨pb, po + 4 + 3, none⟩ = some (.slice g1 X1.args.length e1) ∧ Below wz.heap.size wz W') (by kernel_rfl) hts0 (fun hHeld => ?_)
                clear hts0
                refine wpAnyH_take (i := 0) (oi := _) (v := ?_) rfl (by kernel_rfl) (by kernel_rfl) (by kernel_rfl) (fun _ _ _ h => h) (Or.inl ⟨by rfl, ?_⟩) hHeld ?_
                rotate_left
                · (intro w hSw; obtain ⟨c0, c1, c2, c3, d0, d1, d2, d3, _⟩ := hSw; go_simp; try with_reducible rfl)
                try simp only [Act.put, List.setIfInBounds_toArray, List.set_cons_zero, List.set_cons_succ, List.getElem_toArray, List.getElem_cons_zero]
                refine wpAnyH_take (i := 1) (oi := _) (v := ?_) rfl (by kernel_rfl) (by kernel_rfl) (by kernel_rfl) (fun _ _ _ h => h) (Or.inl ⟨by rfl, ?_⟩) hHeld ?_
                rotate_left
                · (intro w hSw; obtain ⟨c0, c1, c2, c3, d0, d1, d2, d3, _⟩ := hSw; go_simp; try with_reducible rfl)
                try simp only [Act.put, List.setIfInBounds_toArray, List.set_cons_zero, List.set_cons_succ, List.getElem_toArray, List.getElem_cons_zero, List.getElem_cons_succ]
                refine wpAnyH_take (i := 2) (oi := _) (v := ?_) rfl (by kernel_rfl) (by kernel_rfl) (by kernel_rfl) (fun _ _ _ h => h) (Or.inl ⟨by rfl, ?_⟩) hHeld ?_
                rotate_left
                · (intro w hSw; obtain ⟨c0, c1, c2, c3, d0, d1, d2, d3, _⟩ := hSw; go_simp; try with_reducible rfl)
                try simp only [Act.put, List.setIfInBounds_toArray, List.set_cons_zero, List.set_cons_succ, List.getElem_toArray, List.getElem_cons_zero, List.getElem_cons_succ]
                refine wpAnyH_take (i := 3) (oi := _) (v := ?_) rfl (by kernel_rfl) (by kernel_rfl) (by kernel_rfl) (fun _ _ _ h => h) (Or.inl ⟨by rfl, ?_⟩) hHeld ?_
                rotate_left
                · (intro w hSw; obtain ⟨c0, c1, c2, c3, d0, d1, d2, d3, _⟩ := hSw; go_simp; try with_reducible rfl)
                try simp only [Act.put, List.setIfInBounds_toArray, List.set_cons_zero, List.set_cons_succ, List.getElem_toArray, List.getElem_cons_zero, List.getElem_cons_succ]
                refine wpAnyH_take (i := 4) (oi := _) (v := ?_) rfl (by kernel_rfl) (by kernel_rfl) (by kernel_rfl) (fun _ _ _ h => h) (Or.inl ⟨by rfl, ?_⟩) hHeld ?_
                rotate_left
                · (intro w hSw; obtain ⟨c0, c1, c2, c3, d0, d1, d2, d3, _⟩ := hSw; go_simp; try with_reducible rfl)
                try simp only [Act.put, List.setIfInBounds_toArray, List.set_cons_zero, List.set_cons_succ, List.getElem_toArray, List.getElem_cons_zero, List.getElem_cons_succ]
                refine wpAnyH_take (i := 5) (oi := _) (v := ?_) rfl (by kernel_rfl) (by kernel_rfl) (by kernel_rfl) (fun _ _ _ h => h) (Or.inl ⟨by rfl, ?_⟩) hHeld ?_
                rotate_left
                · (intro w hSw; obtain ⟨c0, c1, c2, c3, d0, d1, d2, d3, _⟩ := hSw; go_simp; try with_reducible rfl)
                try simp only [Act.put, List.setIfInBounds_toArray, List.set_cons_zero, List.set_cons_succ, List.getElem_toArray, List.getElem_cons_zero, List.getElem_cons_succ]
                refine wpAnyH_take (i := 6) (oi := _) (v := ?_) rfl (by kernel_rfl) (by kernel_rfl) (by kernel_rfl) (fun _ _ _ h => h) (Or.inl ⟨by rfl, ?_⟩) hHeld ?_
                rotate_left
                · (intro w hSw; obtain ⟨c0, c1, c2, c3, d0, d1, d2, d3, _⟩ := hSw; go_simp; try with_reducible rfl)
                try simp only [Act.put, List.setIfInBounds_toArray, List.set_cons_zero, List.set_cons_succ, List.getElem_toArray, List.getElem_cons_zero, List.getElem_cons_succ]
                refine wpAnyH_take (i := 7) (oi := _) (v := ?_) rfl (by kernel_rfl) (by kernel_rfl) (by kernel_rfl) (fun _ _ _ h => h) (Or.inl ⟨by rfl, ?_⟩) hHeld ?_
                rotate_left
                · (intro w hSw; obtain ⟨c0, c1, c2, c3, d0, d1, d2, d3, _⟩ := hSw; go_simp; try with_reducible rfl)
                try simp only [Act.put, List.setIfInBounds_toArray, List.set_cons_zero, List.set_cons_succ, List.getElem_toArray, List.getElem_cons_zero, List.getElem_cons_succ]
                refine wpAnyH_take (i := 8) (oi := _) (v := ?_) rfl (by kernel_rfl) (by kernel_rfl) (by kernel_rfl) (fun _ _ _ h => h) (Or.inl ⟨by rfl, ?_⟩) hHeld ?_
                rotate_left
                · (intro w hSw; obtain ⟨c0, c1, c2, c3, d0, d1, d2, d3, _⟩ := hSw; go_simp; try with_reducible rfl)
                try simp only [Act.put, List.setIfInBounds_toArray, List.set_cons_zero, List.set_cons_succ, List.getElem_toArray, List.getElem_cons_zero, List.getElem_cons_succ]
                refine wpAnyH_ready (rs := [9]) (by kernel_rfl) (by simp) ?_
                refine AllReadyH.cons (o := _) rfl (fun K hK => ?_) AllReadyH.nil
                go_simp
                refine (rsame_any X0 X1 _ _ _ _ (Nat.le_refl _) (lift_inn HI0.out (TS.below (show TS pb po X0 X1 (.slice g0 X0.args.length e0) (.slice g1 X1.args.length e1) wz _ from hHeld))) (lift_inn HI1.out (TS.below (show TS pb po X0 X1 (.slice g0 X0.args.length e0) (.slice g1 X1.args.length e1) wz _ from hHeld)))).mono ?_
                rintro e w' ⟨rfl, hb⟩
                rw [HSA.out]
                have HTS := Lib.hid (TS.next (show TS pb po X0 X1 (.slice g0 X0.args.length e0) (.slice g1 X1.args.length e1) wz _ from hHeld) hb)
                clear hb hHeld
                go_wp2_with fail
                refine hK.out _ _ (HTS.out) (fun hHeld => ?_)
                clear hK K HTS
                try simp only [Act.put, List.setIfInBounds_toArray, List.set_cons_zero, List.set_cons_succ, List.getElem_toArray, List.getElem_cons_zero, List.getElem_cons_succ]
                refine wpAnyH_take (i := 10) (oi := _) (v := ?_) rfl (by kernel_rfl) (by kernel_rfl) (by kernel_rfl) (fun _ _ _ h => h) (Or.inl ⟨by rfl, ?_⟩) hHeld ?_
                rotate_left
                · (intro w hSw; obtain ⟨c0, c1, c2, c3, d0, d1, d2, d3, _⟩ := hSw; go_simp; try with_reducible rfl)
                try simp only [Act.put, List.setIfInBounds_toArray, List.set_cons_zero, List.set_cons_succ, List.getElem_toArray, List.getElem_cons_zero, List.getElem_cons_succ]
                refine wpAnyH_take (i := 11) (oi := _) (v := ?_) rfl (by kernel_rfl) (by kernel_rfl) (by kernel_rfl) (fun _ _ _ h => h) (Or.inl ⟨by rfl, ?_⟩) hHeld ?_
                rotate_left
                · (intro w hSw; obtain ⟨c0, c1, c2, c3, d0, d1, d2, d3, _⟩ := hSw; go_simp; try with_reducible rfl)
                try simp only [Act.put, List.setIfInBounds_toArray, List.set_cons_zero, List.set_cons_succ, List.getElem_toArray, List.getElem_cons_zero, List.getElem_cons_succ]
                refine wpAnyH_take (i := 12) (oi := _) (v := ?_) rfl (by kernel_rfl) (by kernel_rfl) (by kernel_rfl) (fun _ _ _ h => h) (Or.inl ⟨by rfl, ?_⟩) hHeld ?_
                rotate_left
                · (intro w hSw; obtain ⟨c0, c1, c2, c3, d0, d1, d2, d3, _⟩ := hSw; go_simp; try with_reducible rfl)
                try simp only [Act.put, List.setIfInBounds_toArray, List.set_cons_zero, List.set_cons_succ, List.getElem_toArray, List.getElem_cons_zero, List.getElem_cons_succ]
                refine wpAnyH_take (i := 14) (oi := _) (v := ?_) rfl (by kernel_rfl) (by kernel_rfl) (by kernel_rfl) (fun _ _ _ h => h) (Or.inl ⟨by rfl, ?_⟩) hHeld ?_
                rotate_left
                · (intro w hSw; obtain ⟨c0, c1, c2, c3, d0, d1, d2, d3, _⟩ := hSw; go_simp; try with_reducible rfl)
                try simp only [Act.put, List.setIfInBounds_toArray, List.set_cons_zero, List.set_cons_succ, List.getElem_toArray, List.getElem_cons_zero, List.getElem_cons_succ]
                refine wpAnyH_ready (rs := [13]) (by kernel_rfl) (by simp) ?_
                refine AllReadyH.cons (o := _) rfl (fun K hK => ?_) AllReadyH.nil
                go_simp
                refine (numbered_any Xs HAX.out _ _ (lift_sl HS1.out (TS.below (show TS pb po X0 X1 (.slice g0 X0.args.length e0) (.slice g1 X1.args.length e1) wz _ from hHeld))) HSX.out).mono ?_
                rintro e w' ⟨⟨gn, cn, rfl, hn⟩, hb⟩
                have HTS := Lib.hid (TS.next (show TS pb po X0 X1 (.slice g0 X0.args.length e0) (.slice g1 X1.args.length e1) wz _ from hHeld) hb)
                have HN1 := Lib.hid hn; clear hn
                clear hb hHeld
                go_wp2_with fail
                refine hK.out _ _ (HTS.out) (fun hHeld => ?_)
                clear hK K HTS
                try simp only [Act.put, List.setIfInBounds_toArray, List.set_cons_zero, List.set_cons_succ, List.getElem_toArray, List.getElem_cons_zero, List.getElem_cons_succ]
                refine wpAnyH_ready (rs := [15]) (by kernel_rfl) (by simp) ?_
                refine AllReadyH.cons (o := _) rfl (fun K hK => ?_) AllReadyH.nil
                go_simp
                refine (numbered_any Ys HAY.out _ _ (lift_sl HS2.out (TS.below (show TS pb po X0 X1 (.slice g0 X0.args.length e0) (.slice g1 X1.args.length e1) wz _ from hHeld))) HSY.out).mono ?_
                rintro e w'' ⟨⟨gm, cm, rfl, hm⟩, hb⟩
                have HTS := Lib.hid (TS.next (show TS pb po X0 X1 (.slice g0 X0.args.length e0) (.slice g1 X1.args.length e1) wz _ from hHeld) hb)
                have HN2 := Lib.hid hm; have HN1' := Lib.hid (lift_sl HN1.out hb); clear hm HN1
                clear hb hHeld
                go_wp2_with fail
                refine hK.out _ _ (HTS.out) (fun hHeld => ?_)
                clear hK K HTS
                try simp only [Act.put, List.setIfInBounds_toArray, List.set_cons_zero, List.set_cons_succ, List.getElem_toArray, List.getElem_cons_zero, List.getElem_cons_succ]
                refine wpAnyH_ready (rs := [16]) (by kernel_rfl) (by simp) ?_
                refine AllReadyH.cons (o := _) rfl (fun K hK => ?_) AllReadyH.nil
                go_simp
                refine (sameall_any _ _ _ _ _ _ (Nat.le_refl _) HN1'.out HN2.out).mono ?_
                rintro e w3' ⟨rfl, hb⟩
                rw [decide_eq_true HNUM.out]
                have HTS := Lib.hid (TS.next (show TS pb po X0 X1 (.slice g0 X0.args.length e0) (.slice g1 X1.args.length e1) wz _ from hHeld) hb)
                clear HN1' HN2
                clear hb hHeld
                go_wp2_with fail
                refine hK.out _ _ (HTS.out) (fun hHeld => ?_)
                clear hK K HTS
                try simp only [Act.put, List.setIfInBounds_toArray, List.set_cons_zero, List.set_cons_succ, List.getElem_toArray, List.getElem_cons_zero, List.getElem_cons_succ]
                refine wpAnyH_take (i := 17) (oi := _) (v := ?_) rfl (by kernel_rfl) (by kernel_rfl) (by kernel_rfl) (fun _ _ _ h => h) (Or.inl ⟨by rfl, ?_⟩) hHeld ?_
                rotate_left
                · (intro w hSw; obtain ⟨c0, c1, c2, c3, d0, d1, d2, d3, _⟩ := hSw; go_simp; try with_reducible rfl)
                try simp only [Act.put, List.setIfInBounds_toArray, List.set_cons_zero, List.set_cons_succ, List.getElem_toArray, List.getElem_cons_zero, List.getElem_cons_succ]
                refine wpAnyH_take (i := 18) (oi := _) (v := ?_) rfl (by kernel_rfl) (by kernel_rfl) (by kernel_rfl) (fun _ _ _ h => h) (Or.inl ⟨by rfl, ?_⟩) hHeld ?_
                rotate_left
                · (intro w hSw; obtain ⟨c0, c1, c2, c3, d0, d1, d2, d3, _⟩ := hSw; go_simp; try with_reducible rfl)
                try simp only [Act.put, List.setIfInBounds_toArray, List.set_cons_zero, List.set_cons_succ, List.getElem_toArray, List.getElem_cons_zero, List.getElem_cons_succ]
                refine wpAnyH_ready (rs := [19]) (by kernel_rfl) (by simp) ?_
                refine AllReadyH.cons (o := _) rfl (fun K hK => ?_) AllReadyH.nil
                go_simp
                refine (uknows_any _).mono ?_
                rintro e w4' ⟨rfl, hb⟩
                have HTS := Lib.hid (TS.next (show TS pb po X0 X1 (.slice g0 X0.args.length e0) (.slice g1 X1.args.length e1) wz _ from hHeld) hb)
                clear hb hHeld
                go_wp2_with fail
                refine hK.out _ _ (HTS.out) (fun hHeld => ?_)
                clear hK K HTS
                try simp only [Act.put, List.setIfInBounds_toArray, List.set_cons_zero, List.set_cons_succ, List.getElem_toArray, List.getElem_cons_zero, List.getElem_cons_succ]
                refine wpAnyH_take (i := 20) (oi := _) (v := ?_) rfl (by kernel_rfl) (by kernel_rfl) (by kernel_rfl) (fun _ _ _ h => h) (Or.inl ⟨by rfl, ?_⟩) hHeld ?_
                rotate_left
                · (intro w hSw; obtain ⟨c0, c1, c2, c3, d0, d1, d2, d3, _⟩ := hSw; go_simp; try with_reducible rfl)
                try simp only [Act.put, List.setIfInBounds_toArray, List.set_cons_zero, List.set_cons_succ, List.getElem_toArray, List.getElem_cons_zero, List.getElem_cons_succ]
                refine wpAnyH_ready (rs := [21]) (by kernel_rfl) (by simp) ?_
                refine AllReadyH.cons (o := _) rfl (fun K hK => ?_) AllReadyH.nil
                go_simp
                refine hK.out _ _ (hHeld) (fun hHeld => ?_)
                clear hK K
                try simp only [Act.put, List.setIfInBounds_toArray, List.set_cons_zero, List.set_cons_succ, List.getElem_toArray, List.getElem_cons_zero, List.getElem_cons_succ]
                refine wpAnyH_done (by kernel_rfl) ?_ _
                have HBF := Lib.hid (HBW.out.trans ((TS.below (show TS pb po X0 X1 (.slice g0 X0.args.length e0) (.slice g1 X1.args.length e1) wz _ from hHeld)).mono HBW.out.size))
                clear hHeld
                go_wp2_with fail
                go_ret
                exact ⟨rfl, HBF.out⟩
              | false =>
                go_wp2_with fail
                refine (sameall_any Xs [a, b, c] wz _ _ _ (Nat.le_refl _) HS1.out (Tm.sliceIn_mono AZ.out.al AZ.out.le)).mono ?_
                rintro e W12 ⟨rfl, hb12⟩
                rw [decide_eq_true ((HXE.out (by trivial)).trans HTA.out.symm)]
                have HS1' := Lib.hid (lift_sl HS1.out hb12)
                have HS2' := Lib.hid (lift_sl HS2.out hb12)
                have HBW := Lib.hid (AZ.out.next hb12).hb
                clear HS1 HS2 hb12 AZ
                have HS1 := HS1'
                have HS2 := HS2'
                clear HS1' HS2'
                obtain ⟨X0, X1, s0, s1, hx0, hx1, hi0, hi1, hts0⟩ := TS.mk' HS1.out HLX.out
                obtain ⟨g0, e0, rfl⟩ := inn_sl hi0
                obtain ⟨g1, e1, rfl⟩ := inn_sl hi1
                have HI0 := Lib.hid hi0
                have HI1 := Lib.hid hi1
                clear hx0 hx1 hi0 hi1
                go_wp2_with fail
                refine wp_region_held_drew (S := fun W' => W'.cell? ⟨pb, po, none⟩ = some (.int .i64 X0.kind) ∧ W'.cell? ⟨pb, po + 1, none⟩ = some (.string X0.name) ∧ W'.cell? ⟨pb, po + 2, none⟩ = some (.int .i64 X0.n) ∧ W'.cell? ⟨pb, po + 3, none⟩ = some (.slice g0 X0.args.length e0) ∧ W'.cell? ⟨pb, po + 4, none⟩ = some (.int .i64 X1.kind) ∧ W'.cell? ⟨pb, po + 4 + 1, none⟩ = some (.string X1.name) ∧ W'.cell? ⟨pb, po + 4 + 2, none⟩ = some (.int .i64 X1.n) ∧ W'.cell? ⟨pb, po + 4 + 3, none⟩ = some (.slice g1 X1.args.length e1) ∧ Below W12.heap.size W12 W') (by kernel_rfl) hts0 (fun hHeld => ?_)
                clear hts0
                refine wpAnyH_take (i := 0) (oi := _) (v := ?_) rfl (by kernel_rfl) (by kernel_rfl) (by kernel_rfl) (fun _ _ _ h => h) (Or.inl ⟨by rfl, ?_⟩) hHeld ?_
                rotate_left
                · (intro w hSw; obtain ⟨c0, c1, c2, c3, d0, d1, d2, d3, _⟩ := hSw; go_simp; try with_reducible rfl)
                try simp only [Act.put, List.setIfInBounds_toArray, List.set_cons_zero, List.set_cons_succ, List.getElem_toArray, List.getElem_cons_zero]
                refine wpAnyH_take (i := 1) (oi := _) (v := ?_) rfl (by kernel_rfl) (by kernel_rfl) (by kernel_rfl) (fun _ _ _ h => h) (Or.inl ⟨by rfl, ?_⟩) hHeld ?_
                rotate_left
                · (intro w hSw; obtain ⟨c0, c1, c2, c3, d0, d1, d2, d3, _⟩ := hSw; go_simp; try with_reducible rfl)
                try simp only [Act.put, List.setIfInBounds_toArray, List.set_cons_zero, List.set_cons_succ, List.getElem_toArray, List.getElem_cons_zero, List.getElem_cons_succ]
                refine wpAnyH_take (i := 2) (oi := _) (v := ?_) rfl (by kernel_rfl) (by kernel_rfl) (by kernel_rfl) (fun _ _ _ h => h) (Or.inl ⟨by rfl, ?_⟩) hHeld ?_
                rotate_left
                · (intro w hSw; obtain ⟨c0, c1, c2, c3, d0, d1, d2, d3, _⟩ := hSw; go_simp; try with_reducible rfl)
                try simp only [Act.put, List.setIfInBounds_toArray, List.set_cons_zero, List.set_cons_succ, List.getElem_toArray, List.getElem_cons_zero, List.getElem_cons_succ]
                refine wpAnyH_take (i := 3) (oi := _) (v := undef) rfl (by kernel_rfl) (by kernel_rfl) (by kernel_rfl) (fun _ _ _ h => h) (Or.inr ⟨by rfl, rfl⟩) hHeld ?_
                try simp only [Act.put, List.setIfInBounds_toArray, List.set_cons_zero, List.set_cons_succ, List.getElem_toArray, List.getElem_cons_zero, List.getElem_cons_succ]
                refine wpAnyH_take (i := 4) (oi := _) (v := undef) rfl (by kernel_rfl) (by kernel_rfl) (by kernel_rfl) (fun _ _ _ h => h) (Or.inr ⟨by rfl, rfl⟩) hHeld ?_
                try simp only [Act.put, List.setIfInBounds_toArray, List.set_cons_zero, List.set_cons_succ, List.getElem_toArray, List.getElem_cons_zero, List.getElem_cons_succ]
                refine wpAnyH_take (i := 5) (oi := _) (v := undef) rfl (by kernel_rfl) (by kernel_rfl) (by kernel_rfl) (fun _ _ _ h => h) (Or.inr ⟨by rfl, rfl⟩) hHeld ?_
                try simp only [Act.put, List.setIfInBounds_toArray, List.set_cons_zero, List.set_cons_succ, List.getElem_toArray, List.getElem_cons_zero, List.getElem_cons_succ]
                refine wpAnyH_take (i := 6) (oi := _) (v := undef) rfl (by kernel_rfl) (by kernel_rfl) (by kernel_rfl) (fun _ _ _ h => h) (Or.inr ⟨by rfl, rfl⟩) hHeld ?_
                try simp only [Act.put, List.setIfInBounds_toArray, List.set_cons_zero, List.set_cons_succ, List.getElem_toArray, List.getElem_cons_zero, List.getElem_cons_succ]
                refine wpAnyH_take (i := 7) (oi := _) (v := undef) rfl (by kernel_rfl) (by kernel_rfl) (by kernel_rfl) (fun _ _ _ h => h) (Or.inr ⟨by rfl, rfl⟩) hHeld ?_
                try simp only [Act.put, List.setIfInBounds_toArray, List.set_cons_zero, List.set_cons_succ, List.getElem_toArray, List.getElem_cons_zero, List.getElem_cons_succ]
                refine wpAnyH_take (i := 8) (oi := _) (v := undef) rfl (by kernel_rfl) (by kernel_rfl) (by kernel_rfl) (fun _ _ _ h => h) (Or.inr ⟨by rfl, rfl⟩) hHeld ?_
                try simp only [Act.put, List.setIfInBounds_toArray, List.set_cons_zero, List.set_cons_succ, List.getElem_toArray, List.getElem_cons_zero, List.getElem_cons_succ]
                refine wpAnyH_ready (rs := [9]) (by kernel_rfl) (by simp) ?_
                refine AllReadyH.cons (o := _) rfl (fun K hK => ?_) AllReadyH.nil
                go_simp
                refine hK.out _ _ (hHeld) (fun hHeld => ?_)
                clear hK K
                try simp only [Act.put, List.setIfInBounds_toArray, List.set_cons_zero, List.set_cons_succ, List.getElem_toArray, List.getElem_cons_zero, List.getElem_cons_succ]
                refine wpAnyH_take (i := 10) (oi := _) (v := ?_) rfl (by kernel_rfl) (by kernel_rfl) (by kernel_rfl) (fun _ _ _ h => h) (Or.inl ⟨by rfl, ?_⟩) hHeld ?_
                rotate_left
                · (intro w hSw; obtain ⟨c0, c1, c2, c3, d0, d1, d2, d3, _⟩ := hSw; go_simp; try with_reducible rfl)
                try simp only [Act.put, List.setIfInBounds_toArray, List.set_cons_zero, List.set_cons_succ, List.getElem_toArray, List.getElem_cons_zero, List.getElem_cons_succ]
                refine wpAnyH_take (i := 11) (oi := _) (v := ?_) rfl (by kernel_rfl) (by kernel_rfl) (by kernel_rfl) (fun _ _ _ h => h) (Or.inl ⟨by rfl, ?_⟩) hHeld ?_
                rotate_left
                · (intro w hSw; obtain ⟨c0, c1, c2, c3, d0, d1, d2, d3, _⟩ := hSw; go_simp; try with_reducible rfl)
                try simp only [Act.put, List.setIfInBounds_toArray, List.set_cons_zero, List.set_cons_succ, List.getElem_toArray, List.getElem_cons_zero, List.getElem_cons_succ]
                refine wpAnyH_take (i := 12) (oi := _) (v := ?_) rfl (by kernel_rfl) (by kernel_rfl) (by kernel_rfl) (fun _ _ _ h => h) (Or.inl ⟨by rfl, ?_⟩) hHeld ?_
                rotate_left
                · (intro w hSw; obtain ⟨c0, c1, c2, c3, d0, d1, d2, d3, _⟩ := hSw; go_simp; try with_reducible rfl)
                try simp only [Act.put, List.setIfInBounds_toArray, List.set_cons_zero, List.set_cons_succ, List.getElem_toArray, List.getElem_cons_zero, List.getElem_cons_succ]
                refine wpAnyH_take (i := 14) (oi := _) (v := ?_) rfl (by kernel_rfl) (by kernel_rfl) (by kernel_rfl) (fun _ _ _ h => h) (Or.inl ⟨by rfl, ?_⟩) hHeld ?_
                rotate_left
                · (intro w hSw; obtain ⟨c0, c1, c2, c3, d0, d1, d2, d3, _⟩ := hSw; go_simp; try with_reducible rfl)
                try simp only [Act.put, List.setIfInBounds_toArray, List.set_cons_zero, List.set_cons_succ, List.getElem_toArray, List.getElem_cons_zero, List.getElem_cons_succ]
                refine wpAnyH_ready (rs := [13]) (by kernel_rfl) (by simp) ?_
                refine AllReadyH.cons (o := _) rfl (fun K hK => ?_) AllReadyH.nil
                go_simp
                refine (numbered_any Xs HAX.out _ _ (lift_sl HS1.out (TS.below (show TS pb po X0 X1 (.slice g0 X0.args.length e0) (.slice g1 X1.args.length e1) W12 _ from hHeld))) HSX.out).mono ?_
                rintro e w' ⟨⟨gn, cn, rfl, hn⟩, hb⟩
                have HTS := Lib.hid (TS.next (show TS pb po X0 X1 (.slice g0 X0.args.length e0) (.slice g1 X1.args.length e1) W12 _ from hHeld) hb)
                have HN1 := Lib.hid hn; clear hn
                clear hb hHeld
                go_wp2_with fail
                refine hK.out _ _ (HTS.out) (fun hHeld => ?_)
                clear hK K HTS
                try simp only [Act.put, List.setIfInBounds_toArray, List.set_cons_zero, List.set_cons_succ, List.getElem_toArray, List.getElem_cons_zero, List.getElem_cons_succ]
                refine wpAnyH_ready (rs := [15]) (by kernel_rfl) (by simp) ?_
                refine AllReadyH.cons (o := _) rfl (fun K hK => ?_) AllReadyH.nil
                go_simp
                refine (numbered_any Ys HAY.out _ _ (lift_sl HS2.out (TS.below (show TS pb po X0 X1 (.slice g0 X0.args.length e0) (.slice g1 X1.args.length e1) W12 _ from hHeld))) HSY.out).mono ?_
                rintro e w'' ⟨⟨gm, cm, rfl, hm⟩, hb⟩
                have HTS := Lib.hid (TS.next (show TS pb po X0 X1 (.slice g0 X0.args.length e0) (.slice g1 X1.args.length e1) W12 _ from hHeld) hb)
                have HN2 := Lib.hid hm; have HN1' := Lib.hid (lift_sl HN1.out hb); clear hm HN1
                clear hb hHeld
                go_wp2_with fail
                refine hK.out _ _ (HTS.out) (fun hHeld => ?_)
                clear hK K HTS
                try simp only [Act.put, List.setIfInBounds_toArray, List.set_cons_zero, List.set_cons_succ, List.getElem_toArray, List.getElem_cons_zero, List.getElem_cons_succ]
                refine wpAnyH_ready (rs := [16]) (by kernel_rfl) (by simp) ?_
                refine AllReadyH.cons (o := _) rfl (fun K hK => ?_) AllReadyH.nil
                go_simp
                refine (sameall_any _ _ _ _ _ _ (Nat.le_refl _) HN1'.out HN2.out).mono ?_
                rintro e w3' ⟨rfl, hb⟩
                rw [decide_eq_true HNUM.out]
                have HTS := Lib.hid (TS.next (show TS pb po X0 X1 (.slice g0 X0.args.length e0) (.slice g1 X1.args.length e1) W12 _ from hHeld) hb)
                clear HN1' HN2
                clear hb hHeld
                go_wp2_with fail
                refine hK.out _ _ (HTS.out) (fun hHeld => ?_)
                clear hK K HTS
                try simp only [Act.put, List.setIfInBounds_toArray, List.set_cons_zero, List.set_cons_succ, List.getElem_toArray, List.getElem_cons_zero, List.getElem_cons_succ]
                refine wpAnyH_take (i := 17) (oi := _) (v := ?_) rfl (by kernel_rfl) (by kernel_rfl) (by kernel_rfl) (fun _ _ _ h => h) (Or.inl ⟨by rfl, ?_⟩) hHeld ?_
                rotate_left
                · (intro w hSw; obtain ⟨c0, c1, c2, c3, d0, d1, d2, d3, _⟩ := hSw; go_simp; try with_reducible rfl)
                try simp only [Act.put, List.setIfInBounds_toArray, List.set_cons_zero, List.set_cons_succ, List.getElem_toArray, List.getElem_cons_zero, List.getElem_cons_succ]
                refine wpAnyH_take (i := 18) (oi := _) (v := ?_) rfl (by kernel_rfl) (by kernel_rfl) (by kernel_rfl) (fun _ _ _ h => h) (Or.inl ⟨by rfl, ?_⟩) hHeld ?_
                rotate_left
                · (intro w hSw; obtain ⟨c0, c1, c2, c3, d0, d1, d2, d3, _⟩ := hSw; go_simp; try with_reducible rfl)
                try simp only [Act.put, List.setIfInBounds_toArray, List.set_cons_zero, List.set_cons_succ, List.getElem_toArray, List.getElem_cons_zero, List.getElem_cons_succ]
                refine wpAnyH_ready (rs := [19]) (by kernel_rfl) (by simp) ?_
                refine AllReadyH.cons (o := _) rfl (fun K hK => ?_) AllReadyH.nil
                go_simp
                refine (uknows_any _).mono ?_
                rintro e w4' ⟨rfl, hb⟩
                have HTS := Lib.hid (TS.next (show TS pb po X0 X1 (.slice g0 X0.args.length e0) (.slice g1 X1.args.length e1) W12 _ from hHeld) hb)
                clear hb hHeld
                go_wp2_with fail
                refine hK.out _ _ (HTS.out) (fun hHeld => ?_)
                clear hK K HTS
                try simp only [Act.put, List.setIfInBounds_toArray, List.set_cons_zero, List.set_cons_succ, List.getElem_toArray, List.getElem_cons_zero, List.getElem_cons_succ]
                refine wpAnyH_take (i := 20) (oi := _) (v := ?_) rfl (by kernel_rfl) (by kernel_rfl) (by kernel_rfl) (fun _ _ _ h => h) (Or.inl ⟨by rfl, ?_⟩) hHeld ?_
                rotate_left
                · (intro w hSw; obtain ⟨c0, c1, c2, c3, d0, d1, d2, d3, _⟩ := hSw; go_simp; try with_reducible rfl)
                try simp only [Act.put, List.setIfInBounds_toArray, List.set_cons_zero, List.set_cons_succ, List.getElem_toArray, List.getElem_cons_zero, List.getElem_cons_succ]
                refine wpAnyH_ready (rs := [21]) (by kernel_rfl) (by simp) ?_
                refine AllReadyH.cons (o := _) rfl (fun K hK => ?_) AllReadyH.nil
                go_simp
                refine hK.out _ _ (hHeld) (fun hHeld => ?_)
                clear hK K
                try simp only [Act.put, List.setIfInBounds_toArray, List.set_cons_zero, List.set_cons_succ, List.getElem_toArray, List.getElem_cons_zero, List.getElem_cons_succ]
                refine wpAnyH_done (by kernel_rfl) ?_ _
                have HBF := Lib.hid (HBW.out.trans ((TS.below (show TS pb po X0 X1 (.slice g0 X0.args.length e0) (.slice g1 X1.args.length e1) W12 _ from hHeld)).mono HBW.out.size))
                clear hHeld
                go_wp2_with fail
                go_ret
                exact ⟨rfl, HBF.out⟩
end Go.Proofs.Ytgnbjhiafjpokaa
