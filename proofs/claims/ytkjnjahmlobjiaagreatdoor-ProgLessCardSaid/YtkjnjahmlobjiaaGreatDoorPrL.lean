/-
  The program's reader: lists.
-/
import Derived.Test.YtkjnjahmlobjiaaGreatDoorPrT
namespace Go.Proofs.YtkjnjahmlobjiaaGreatDoor
open Go.RowKit Go.Shelf

attribute [local go_sem] Oper.semAt_some

/-- The list as far as the loop has come. -/
def curP (vl : Option (List Tm)) (vt : Option Tm) (m : Nat) (pre : List Nat) : Option Tm := if pre = (downTo m).take pre.length then curV vl vt (m - pre.length) else none
theorem curP_nil {vl : Option (List Tm)} {vt : Option Tm} {m : Nat} (hm : ∀ l, vl = some l → l.length = m) {u : Tm} (h : curP vl vt m [] = some u) : vt = some u := by
  unfold curP at h
  rw [if_pos (by simp)] at h
  exact curV_last hm (by simpa using h)
theorem curP_all {vl : Option (List Tm)} {vt : Option Tm} {m : Nat} : curP vl vt m (downTo m) = curV vl vt 0 := by
  unfold curP
  rw [if_pos (by rw [List.take_length]), down_len, Nat.sub_self]
theorem curP_snoc {vl : Option (List Tm)} {vt : Option Tm} {m : Nat} {pre : List Nat} {x : Nat} {u : Tm} (hlen : pre.length < m) (h : curP vl vt m (pre ++ [x]) = some u) : x = m - 1 - pre.length ∧ curP vl vt m pre = curV vl vt (x + 1) ∧ curV vl vt x = some u := by
  unfold curP at h
  split at h
  · rename_i h1
    simp only [List.length_append, List.length_cons, List.length_nil, Nat.zero_add] at h1 h
    have h2 := down_take m (m - 1 - pre.length) (by omega)
    rw [show m - (m - 1 - pre.length) = pre.length + 1 by omega, show m - 1 - (m - 1 - pre.length) = pre.length by omega] at h2
    rw [h2] at h1
    have h3 : pre.length = ((downTo m).take pre.length).length := by rw [List.length_take, down_len]; omega
    obtain ⟨h4, h5⟩ := List.append_inj h1 h3
    have h6 : x = m - 1 - pre.length := by simpa using h5
    refine ⟨h6, ?_, ?_⟩
    · unfold curP
      rw [if_pos h4, show m - pre.length = x + 1 by omega]
    · rw [show m - (pre.length + 1) = x by omega] at h
      exact h
  · cases h
/-- The elements' cells, and what they are worth. -/
structure ElsQ (Y : Nat → Prop) (w : World) (E : Nat → Prop) (vl : Option (List Tm)) (g : Option Addr) (m : Nat) (raw : Nat → Raw) : Prop where
  cells : RawAt w E g m raw
  val : ∀ l, vl = some l → l.length = m ∧ ∀ i (h : i < l.length), l[i].kind = (raw i).k ∧ l[i].name = (raw i).nm ∧ l[i].n = (raw i).n ∧ Tm.innP w (okN Y w) l[i] (.slice (raw i).g (raw i).m (raw i).c)
theorem els_some {Y : Nat → Prop} {w : World} {l : List Tm} {g : Option Addr} {m c : Nat} (hm : l.length = m) (h : Tm.sliceP w (okN Y w) l (.slice g m c)) : ∃ raw, ∀ E : Nat → Prop, (∀ b, okN Y w b → E b) → ElsQ Y w E (some l) g m raw := by
  have key : ∀ i, ∃ r : Raw, ∀ (hi : i < l.length), ∃ b off, g = some ⟨b, off, none⟩ ∧ okN Y w b ∧ w.cell? ⟨b, off + i * 4, none⟩ = some (.int .i64 r.k) ∧ w.cell? ⟨b, off + i * 4 + 1, none⟩ = some (.string r.nm) ∧ w.cell? ⟨b, off + i * 4 + 2, none⟩ = some (.int .i64 r.n) ∧ w.cell? ⟨b, off + i * 4 + 3, none⟩ = some (.slice r.g r.m r.c) ∧ l[i].kind = r.k ∧ l[i].name = r.nm ∧ l[i].n = r.n ∧ Tm.innP w (okN Y w) l[i] (.slice r.g r.m r.c) := by
    intro i
    by_cases hi : i < l.length
    · obtain ⟨g', cap, e, _, _, h9⟩ := h
      injection e with e1 e2 e3
      subst e1
      rcases h9 with h9 | ⟨b, off, rfl, hb, hrow⟩
      · rw [h9] at hi; simp at hi
      · obtain ⟨sv, a0, a1, a2, a3, a4⟩ := rowP_at l off i hi hrow
        obtain ⟨_, g2, c2, e2, _⟩ := Tm.innP_iff.1 a4
        subst e2
        exact ⟨⟨l[i].kind, l[i].name, l[i].n, g2, _, c2⟩, fun _ => ⟨b, off, rfl, hb, a0, a1, a2, a3, rfl, rfl, rfl, a4⟩⟩
    · exact ⟨⟨0, ⟨#[]⟩, 0, none, 0, 0⟩, fun h => absurd h hi⟩
  have hc := Classical.axiomOfChoice key
  obtain ⟨raw, hraw⟩ := hc
  refine ⟨raw, fun E hE => ⟨fun i hi => ?_, fun l' hl' => ?_⟩⟩
  · obtain ⟨b, off, e, hok, h0, h1, h2, h3, _⟩ := hraw i (by omega)
    exact ⟨b, off, e, hE b hok, h0, h1, h2, h3⟩
  · injection hl' with hl'
    subst hl'
    refine ⟨hm, fun i hi => ?_⟩
    obtain ⟨_, _, _, _, _, _, _, _, h4⟩ := hraw i hi
    exact h4
/-- What the loop keeps. -/
def LJ (Y : Nat → Prop) (w0 : World) (tb : Nat) (vl : Option (List Tm)) (vt : Option Tm) (m : Nat) (pre : List Nat) (W : World) : Prop :=
  FrP (fun b => b = tb) w0 W ∧ ∃ k nm n g mm c, W.heap[tb]? = some (.cells #[.int .i64 k, .string nm, .int .i64 n, .slice g mm c] 34 (0, 0)) ∧ TV Y W (curP vl vt m pre) k nm n (.slice g mm c)
theorem cell_nocells {W W' : World} {row : Option Nat} (hg : W.grownBy W' row) (hr : ∀ r, row = some r → ∃ o : Obj, W.heap[r]? = some o ∧ o.isCells = false) (b o : Nat) (v : Value) (h : W.cell? ⟨b, o, none⟩ = some v) : W'.cell? ⟨b, o, none⟩ = some v := cell_kept h hg hr
theorem LJ.own (Y : Nat → Prop) (w0 : World) (tb : Nat) (htb : tb < w0.heap.size) (vl : Option (List Tm)) (vt : Option Tm) (m : Nat) : OwnFrom w0.heap.size (LJ Y w0 tb vl vt m) := by
  rintro pre W W' row ⟨hf, k, nm, n, g, mm, c, hb, ht⟩ hg hr
  refine ⟨hf.trans (FrP.of_grown hg) (fun _ _ h => h) (fun b hb e => ?_), k, nm, n, g, mm, c, (hg.block tb (Nat.lt_of_lt_of_le htb hf.size) (fun e => ?_)).trans hb, ht.1, ht.2.1, ht.2.2.1, fun t h => ?_⟩
  · have := (hr b e.symm).1
    omega
  · have := (hr tb e.symm).1
    omega
  · obtain ⟨h1, h2, h3, h4⟩ := ht.2.2.2 t h
    exact ⟨h1, h2, h3, Tm.innP_same (fun b hb => ⟨hb.1, Nat.lt_of_lt_of_le hb.2 hg.size⟩) (fun b o v _ hv => cell_nocells hg (fun r e => (hr r e).2) b o v hv) t _ h4⟩
/-- One element more is put ahead. -/
theorem LJ.cons {Y : Nat → Prop} {w0 : World} {tb : Nat} {vl : Option (List Tm)} {vt : Option Tm} {m : Nat} {pre : List Nat} {x : Nat} {W U : World} {E : Nat → Prop} {g0 : Option Addr} {raw : Nat → Raw} {k : Int} {nm : ByteArray} {n : Int} {g : Option Addr} {mm c : Nat}
    (hY : Y tb) (_hlt : tb < w0.heap.size) (hold : ∀ b, Y b → b < w0.heap.size) (hE : ElsQ Y w0 E vl g0 m raw) (hlen : pre.length < m) (hf : FrP (fun b => b = tb) w0 W) (_hb : W.heap[tb]? = some (.cells #[.int .i64 k, .string nm, .int .i64 n, .slice g mm c] 34 (0, 0))) (ht : TV Y W (curP vl vt m pre) k nm n (.slice g mm c))
    (nb : Nat) (hnb : W.heap.size ≤ nb) (hU : FrP (fun b => b = tb) W U) (hbU : U.heap[tb]? = some (.cells #[.int .i64 3, .string ⟨#[46]⟩, .int .i64 0, .slice (some ⟨nb, 0, none⟩) 2 2] 34 (0, 0)))
    (hnU : U.heap[nb]? = some (.cells #[.int .i64 (raw x).k, .string (raw x).nm, .int .i64 (raw x).n, .slice (raw x).g (raw x).m (raw x).c, .int .i64 k, .string nm, .int .i64 n, .slice g mm c] 34 (0, 0))) :
    LJ Y w0 tb vl vt m (pre ++ [x]) U := by
  refine ⟨hf.trans hU (fun _ _ h => h) (fun _ _ h => h), _, _, _, _, _, _, hbU, TV.fn (by decide) fun t h => ?_⟩
  obtain ⟨hx, hp, hv⟩ := curP_snoc hlen h
  obtain ⟨l, t0, hl, ht0, rfl⟩ := curV_some hv
  obtain ⟨hll, hval⟩ := hE.val l hl
  have hxl : x < l.length := by omega
  obtain ⟨e1, e2, e3, e4⟩ := hval x hxl
  have htt : curP vl vt m pre = some (listT (l.drop (x + 1)) t0) := by rw [hp, hl, ht0]; rfl
  obtain ⟨a1, a2, a3, a4⟩ := ht.2.2.2 _ htt
  have hP : ∀ b, b = tb → Y b := fun b e => by rw [e]; exact hY
  refine ⟨[l[x], listT (l.drop (x + 1)) t0], ?_, ?_⟩
  · rw [List.drop_eq_getElem_cons hxl]
    rfl
  · rw [← e1, ← e2, ← e3, a1, a2, a3] at hnU
    refine pair_slice hnU ⟨fun hx => ?_, (Array.getElem?_eq_some_iff.1 hnU).1⟩ ?_ ?_
    · have := hold nb hx
      have := hf.size
      omega
    · exact Tm.innP_same (okN_mv hU (fun _ hx => .inl hx)) (cell_mv hU hP) _ _ (Tm.innP_same (okN_mv hf (fun _ hx => .inl hx)) (cell_mv hf hP) _ _ e4)
    · exact Tm.innP_same (okN_mv hU (fun _ hx => .inl hx)) (cell_mv hU hP) _ _ a4
theorem TV.putObj {Y : Nat → Prop} {w : World} {u : Option Tm} {k : Int} {nm : ByteArray} {n : Int} {sv : Value} {D : Nat} {o : Obj} (h : TV Y w u k nm n sv) (hd : w.heap[D]? = some o) (ho : o.isCells = false) (o' : Obj) : TV Y (w.putObj D o') u k nm n sv := by
  have hg := grownBy_putObj' w D o'
  refine ⟨h.1, h.2.1, h.2.2.1, fun t ht => ?_⟩
  obtain ⟨h1, h2, h3, h4⟩ := h.2.2.2 t ht
  exact ⟨h1, h2, h3, Tm.innP_same (fun b hb => ⟨hb.1, Nat.lt_of_lt_of_le hb.2 hg.size⟩) (fun b q v _ hv => cell_nocells hg (fun r e => by cases e; exact ⟨o, hd, ho⟩) b q v hv) t _ h4⟩
/-- The list ends: the result is stored, the loop's own block is done with. -/
theorem l_fin {X B : Nat → Prop} {W : World} {rb z tb xb D : Nat} {nv : Value} {ts : Toks} {ns : Names} {nv' : Value} {V6 W0 Wd : World} {S : List UInt8} {r : RRes Tm} {cd : Nat} {u : Option Tm} {k : Int} {nm : ByteArray} {n : Int} {g : Option Addr} {m c : Nat}
    (h : PSt X B W rb z nv ts ns nv' V6) (hbt : B tb) (hbx : B xb) (hb0 : Below V6.heap.size V6 W0) (hfd : FrP (fun b => b = tb) W0 Wd) (ht : TV (Yc X B nv') Wd u k nm n (.slice g m c)) (hD : W0.heap.size ≤ D) (hK : Wd.heap[D]? = some (.deferred (some []))) (hr : Told S r cd ts ns) (hu : ∀ t, valOf r = some t → u = some t) :
    PTermPost X W rb z nv S r (.returned (.tuple #[.agg #[.int .i64 k, .string nm, .int .i64 n, .slice g m c], .int .i64 (cd : Nat)])) ((set4 Wd xb k nm n (.slice g m c)).putObj D (.deferred none)) := by
  have hf2 := FrP.put Wd xb k nm n (.slice g m c)
  have hxl := (h.bx xb hbx).2.1
  have hne : D ≠ xb := by
    have := hb0.size
    omega
  have hK2 := (hf2.block D (Array.getElem?_eq_some_iff.1 hK).1 hne).trans hK
  have hf3 := FrP.of_grown (grownBy_putObj' (set4 Wd xb k nm n (.slice g m c)) D (.deferred none))
  have hf1 : FrP (fun b => b = tb ∨ b = xb) V6 Wd := (FrP.of_below hb0).trans hfd (fun _ _ h => h.elim) (fun _ _ h => .inl h)
  have hf : FrP (fun b => b = tb ∨ b = xb) V6 ((set4 Wd xb k nm n (.slice g m c)).putObj D (.deferred none)) := (hf1.trans hf2 (fun _ _ h => h) (fun _ _ h => .inr h)).trans hf3 (fun _ _ h => h) (fun b hb e => by
    injection e with e
    have := hb0.size
    omega)
  have hst := h.mvB hf (fun b hb => by rcases hb with rfl | rfl <;> assumption) (fun b hb => .inl hb)
  refine ⟨k, nm, n, g, m, c, cd, nv', rfl, hst.fin hr, ?_⟩
  exact (((ht.mv hf2 (fun b e => by subst e; exact .inl (.inr hbx)) (fun b hx => .inl hx)).putObj hK2 rfl _).fin).sub hu
set_option maxRecDepth 100000 in
set_option maxHeartbeats 8000000 in
/-- The range over the elements, from the last one on. -/
theorem range_p {Q : Exit → Act → World → Prop} {Y : Nat → Prop} {W0 : World} {tb Bs m : Nat} {g : Option Addr} {cp : Nat} {raw : Nat → Raw} {E : Nat → Prop} {vl : Option (List Tm)} {vt : Option Tm} (x0 x1 x2 x3 x4 x5 x6 x7 x9 x10 x11 x12 x13 x14 x15 x16 x17 x18 x19 x20 x21 x22 x23 x24 x25 x26 x27 x28 x29 x30 x31 x32 x33 x34 x36 x37 x38 x39 x40 x41 x42 x43 : Value)
    (hEl : ∀ k, E k → k < W0.heap.size) (hE : E Bs) (hEt : ¬ E tb) (hBs : W0.heap[Bs]? = some (Obj.cells #[.slice g m cp] 32 (0, 0))) (hm : m ≤ 1000001) (hels : ElsQ Y W0 E vl g m raw) (hYt : Y tb) (htb : tb < W0.heap.size) (hold : ∀ b, Y b → b < W0.heap.size) (h0 : LJ Y W0 tb vl vt m [] W0)
    (hQ : ∀ (D : Nat) (W : World), W0.heap.size ≤ D → LJ Y W0 tb vl vt m (downTo m) W → W.heap[D]? = some (.deferred (some [])) → Q .normal { tmps := #[x0, x1, x2, x3, x4, x5, x6, x7, .pointer (some ⟨tb, 0, none⟩), x9, x10, x11, x12, x13, x14, x15, x16, x17, x18, x19, x20, x21, x22, x23, x24, x25, x26, x27, x28, x29, x30, x31, x32, x33, x34, .func (.func 135) #[] #[.pointer (some ⟨Bs, 0, none⟩)], x36, x37, x38, x39, x40, x41, x42, x43], defers := [{ target := .collected D, args := #[] }] } W) :
    (Code.rangeFunc (Operand.tmp 35) #[36, 37]
      (Code.region 8
        #[{ dst := some 10, op := Op.alloc 34, type := 0, pos := "reader.go:208", after := #[], guard := none },
          { dst := none, op := Op.store 34 (Operand.tmp 10) (Operand.tmp 37), type := 0, pos := "reader.go:208",
            after := #[{ on := 0, ground := Ground.data }, { on := 0, ground := Ground.phase }], guard := none }]
        false)
      (Code.block 1
        (Code.region 9
          #[{ dst := some 38, op := Op.load 34 (Operand.tmp 10), type := 34, pos := "reader.go:209", after := #[],
              guard := none },
            { dst := some 39, op := Op.load 34 (Operand.tmp 8), type := 34, pos := "reader.go:209", after := #[],
              guard := none },
            { dst := some 40, op := Op.buildSlice 32 2 #[(0, Operand.tmp 38), (1, Operand.tmp 39)], type := 32,
              pos := "reader.go:209",
              after := #[{ on := 0, ground := Ground.data }, { on := 1, ground := Ground.data }], guard := none },
            { dst := some 41,
              op :=
                Op.call
                  { callee := Callee.value (Operand.func 83),
                    args := #[Operand.const (Value.string { data := #[46] }), Operand.tmp 40], argTypes := #[9, 32] },
              type := 34, pos := "reader.go:209", after := #[{ on := 2, ground := Ground.data }], guard := none },
            { dst := none, op := Op.store 34 (Operand.tmp 8) (Operand.tmp 41), type := 0, pos := "reader.go:209",
              after :=
                #[{ on := 3, ground := Ground.data }, { on := 3, ground := Ground.chain },
                  { on := 0, ground := Ground.phase }, { on := 1, ground := Ground.phase },
                  { on := 2, ground := Ground.phase }, { on := 3, ground := Ground.phase }],
              guard := none }]
          false))).wpIn Fence.wide 9 Tryz.prog Q { tmps := #[x0, x1, x2, x3, x4, x5, x6, x7, .pointer (some ⟨tb, 0, none⟩), x9, x10, x11, x12, x13, x14, x15, x16, x17, x18, x19, x20, x21, x22, x23, x24, x25, x26, x27, x28, x29, x30, x31, x32, x33, x34, .func (.func 135) #[] #[.pointer (some ⟨Bs, 0, none⟩)], x36, x37, x38, x39, x40, x41, x42, x43], defers := [] } W0 := by
  have HQ := Lib.hid hQ
  have HELS := Lib.hid hels
  have HOLD := Lib.hid hold
  have HEL := Lib.hid hEl
  clear hQ hold
  refine wpIn_rangeFunc_ownH rfl (by omega) (gf := 135) (lb := #[.pointer (some ⟨Bs, 0, none⟩)]) rfl trivial (enters_of Tryz.func135 (by kernel_rfl) rfl)
    (back_sq Fence.wide rfl (9 - 1) trivial rfl Bs m g cp raw W0 E hEl hE hBs hels.cells hm) KQ.trans (kq_putObj hEl) (Below.refl _ _) (fun _ => rfl)
    (LJ Y W0 tb vl vt m) (fun _ _ _ => False) (LJ.own Y W0 tb htb vl vt m) (fun c s W W' row hs _ _ => hs) h0
    (fun x a' W => ∃ Bx, W0.heap.size ≤ Bx ∧ W.heap[Bx]? = some (.cells #[.int .i64 (raw x).k, .string (raw x).nm, .int .i64 (raw x).n, .slice (raw x).g (raw x).m (raw x).c] 34 (0, 0)) ∧ a' = { tmps := #[x0, x1, x2, x3, x4, x5, x6, x7, .pointer (some ⟨tb, 0, none⟩), x9, .pointer (some ⟨Bx, 0, none⟩), x11, x12, x13, x14, x15, x16, x17, x18, x19, x20, x21, x22, x23, x24, x25, x26, x27, x28, x29, x30, x31, x32, x33, x34, .func (.func 135) #[] #[.pointer (some ⟨Bs, 0, none⟩)], .int .i64 (x : Nat), .agg #[.int .i64 (raw x).k, .string (raw x).nm, .int .i64 (raw x).n, .slice (raw x).g (raw x).m (raw x).c], x38, x39, x40, x41, x42, x43], defers := [] })
    (fun x a' => Own.from (fun _ X Y row hs hg hrow => by obtain ⟨Bx, h1, h2, h3⟩ := hs; exact ⟨Bx, h1, (grownBy_keeps_cells hg hrow h2 rfl).trans h2, h3⟩) _)
    ?assign ?body ?done ?stop
  case assign =>
    rintro l pre x W K hJ hK
    have HJ := Lib.hid hJ
    clear hJ
    simp only [qenc]
    rw [zip2]
    gi_wp2
    refine hK _ _ ((KeepsOthers.alloc _ _).from _) (fun k hk => ?_) (LJ.own Y W0 tb htb vl vt m _ _ _ none HJ.out (World.grownBy_alloc _ _ none) (fun r e => by cases e)) ⟨W.heap.size, HJ.out.1.size, World.alloc_heap_new W _, rfl⟩
    exact Below.heap_alloc _ _ _ (Nat.lt_of_lt_of_le (HEL.out k hk) HJ.out.1.size)
  case body =>
    rintro l pre x a' W hl _ hJ ⟨Bx, hBx, hX, rfl⟩ hlen2
    obtain ⟨hf, k, nm, n, g5, m5, c5, hb, ht⟩ := hJ
    have HF := Lib.hid hf
    have HB := Lib.hid hb
    have HT := Lib.hid ht
    obtain ⟨⟨b0, b1, b2, b3⟩, bf0, bf1, bf2, bf3⟩ := row4 hb
    obtain ⟨⟨e0, e1, e2, e3⟩, -⟩ := row4 hX
    have htl : tb < W.heap.size := (Array.getElem?_eq_some_iff.1 hb).1
    have hxl : Bx < W.heap.size := (Array.getElem?_eq_some_iff.1 hX).1
    have HFN := fun U => Lib.hid (fun_p ⟨#[46]⟩ (some ⟨W.heap.size, 0, none⟩) 2 2 U)
    clear hf hb ht hX
    gi_wp2_with fail
    refine ⟨trivial, ?_⟩
    refine (CallsIn.inRound l (callsIn_wide.2 (HFN _).out)).mono ?_
    rintro e W2 ⟨rfl, hb2⟩
    have hfa := FrP.new W (.cells #[.int .i64 (raw x).k, .string (raw x).nm, .int .i64 (raw x).n, .slice (raw x).g (raw x).m (raw x).c, .int .i64 k, .string nm, .int .i64 n, .slice g5 m5 c5] 34)
    have hnw := newBlk W (.cells #[.int .i64 (raw x).k, .string (raw x).nm, .int .i64 (raw x).n, .slice (raw x).g (raw x).m (raw x).c, .int .i64 k, .string nm, .int .i64 n, .slice g5 m5 c5] 34) W.heap.size rfl
    have hfb := FrP.of_below hb2
    have hf2 : FrP (fun _ => False) W W2 := hfa.trans hfb (fun _ _ h => h) (fun _ _ h => h)
    have hnw2 := (hfb.block W.heap.size (Array.getElem?_eq_some_iff.1 hnw).1 (fun h => h)).trans hnw
    have hbt := (hf2.block tb htl (fun h => h)).trans HB.out
    obtain ⟨⟨d0, d1, d2, d3⟩, df0, df1, df2, df3⟩ := row4 hbt
    have htl2 : tb < W2.heap.size := (Array.getElem?_eq_some_iff.1 hbt).1
    have hfp := FrP.put W2 tb 3 ⟨#[46]⟩ 0 (.slice (some ⟨W.heap.size, 0, none⟩) 2 2)
    have hfU : FrP (fun b => b = tb) W (set4 W2 tb 3 ⟨#[46]⟩ 0 (.slice (some ⟨W.heap.size, 0, none⟩) 2 2)) := hf2.trans hfp (fun _ _ h => h.elim) (fun _ _ h => h)
    have hcons := LJ.cons (x := x) hYt htb HOLD.out HELS.out hlen2 HF.out HB.out HT.out W.heap.size (Nat.le_refl _) hfU (set4_blk hbt _ _ _ _) ((hfp.block W.heap.size (Array.getElem?_eq_some_iff.1 hnw2).1 (by omega)).trans hnw2)
    have HCONS := Lib.hid hcons
    have HFU := Lib.hid hfU
    clear hfa hnw hfb hf2 hnw2 hbt hfp hfU hcons hb2 b0 b1 b2 b3 bf0 bf1 bf2 bf3 e0 e1 e2 e3
    gi_wp2_with fail
    refine ⟨⟨HFU.out.size, fun k o hk ho _ => (HFU.out.block k (Array.getElem?_eq_some_iff.1 ho).1 (by omega)).trans ho⟩, fun k hk => HFU.out.block k (Nat.lt_of_lt_of_le (HEL.out k hk) HF.out.size) (fun e => hEt (e ▸ hk)), ?_⟩
    exact HCONS.out
  case done =>
    rintro D ys W hD hS hJ hK
    subst hS
    exact HQ.out D W hD hJ hK
  case stop =>
    rintro D c pre W hD hpre hf hK
    exact hf.elim
set_option maxRecDepth 100000 in
set_option maxHeartbeats 8000000 in
theorem list_p (f : Nat) (IHs : PTerms f) (IH : PTerm f) : PList f := by
  intro X W rb z S ts ns nv deep hin hrd hdeep
  refine (callsIn_wide (n := 9)).1 ?_
  obtain ⟨R, hR⟩ : ∃ R, lstE S f deep (.ok (ts, ns)) = R := ⟨_, rfl⟩
  rw [hR]
  have HR := Lib.hid hR
  have HIN := Lib.hid hin
  have hlt := hrd.lt
  have HST := Lib.hid ((PSt.start hrd).box (.cells #[.int .i64 0, .string ⟨#[]⟩, .int .i64 0, .slice none 0 0] 34))
  have HB4 := Lib.hid (newBlk W (.cells #[.int .i64 0, .string ⟨#[]⟩, .int .i64 0, .slice none 0 0] 34) W.heap.size rfl)
  clear hR hin hrd
  obtain ⟨V, hV⟩ : ∃ V, W.alloc (.cells #[.int .i64 0, .string ⟨#[]⟩, .int .i64 0, .slice none 0 0] 34) = V := ⟨_, rfl⟩
  rw [hV] at HST HB4
  have HTM := Lib.hid (IHs _ V rb z S ts ns nv deep HIN.out HST.out.rd hdeep)
  have HIH := Lib.hid IH
  clear IHs IH
  refine callsIn_of_wp_marks Tryz.func113 rfl trivial ?_ rfl
  simp only [Tryz.ntmps113, List.size_toArray, List.length_cons, List.length_nil, Nat.reduceAdd, Nat.reduceSub, Array.replicate_succ, Array.replicate_zero, List.push_toArray, List.append_toArray, List.nil_append, List.cons_append]
  gi_wp2_with fail
  refine ⟨trivial, ?_⟩
  refine (callsIn_wide.2 HTM.out).mono ?_
  rintro e U ⟨g, m, c, cd, n1, rfl, hend, hsl⟩
  obtain ⟨ts1, ns1, hrd1, htold⟩ := hend.rd
  have HB5 := Lib.hid ((HST.out.keep hend.fr (.inr rfl)).trans HB4.out)
  have HST1 := Lib.hid (HST.out.call hrd1 hend.nvn hend.fr)
  have HSL : Hid (match valOf (rdRow S f deep ts ns) with | some l => l.length = m ∧ m ≤ 1000001 ∧ Tm.sliceP U (okN (Yc X (fun b => False ∨ b = W.heap.size) n1) U) l (.slice g m c) | none => g = none ∧ m = 0 ∧ c = 0) := Lib.hid (by
    cases hv : valOf (rdRow S f deep ts ns) with
    | none => rw [hv] at hsl; exact hsl
    | some l => rw [hv] at hsl; exact ⟨hsl.1, hsl.2.1, slP_back hsl.2.2⟩)
  have HTOLD : Hid (Told S (rdRow S f deep ts ns) cd ts1 ns1) := Lib.hid htold
  clear hend hsl hrd1 htold HTM HST HB4 hV
  have HFN := Lib.hid (fun_p ⟨#[91, 93]⟩ none 0 0 U)
  gi_wp2_with fail
  refine ⟨trivial, ?_⟩
  refine (callsIn_wide.2 HFN.out).mono ?_
  rintro e U2 ⟨rfl, hb2⟩
  have HB2 := Lib.hid hb2
  clear hb2 HFN
  cases hr : rdRow S f deep ts ns with
  | error e =>
    obtain ⟨c9, pl⟩ := e
    rw [hr] at HTOLD
    obtain ⟨hc1, hc2, hc3⟩ := HTOLD.out
    have hcd : ((cd : Int) == 0) = false := by rw [beq_eq_false_iff_ne]; omega
    have hRe : R = .error (c9, pl) := by
      rw [← HR.out]
      unfold lstE
      simp only [rowE, hr]
    clear hc1 hc2 hc3
    have hsn := HSL.out
    rw [hr] at hsn
    obtain ⟨rfl, rfl, rfl⟩ : g = none ∧ m = 0 ∧ c = 0 := hsn
    subst hRe
    gi_wp2_with fail
    have hst2 := (HST1.out.next HB2.out).box (.cells #[.int .i64 3, .string ⟨#[91, 93]⟩, .int .i64 0, .slice none 0 0] 34)
    have hb5 := (HB2.out.block _ (Array.getElem?_eq_some_iff.1 HB5.out).1).trans HB5.out
    have hwu : W.heap.size < U2.heap.size := (Array.getElem?_eq_some_iff.1 hb5).1
    have hnew := newBlk U2 (.cells #[.int .i64 3, .string ⟨#[91, 93]⟩, .int .i64 0, .slice none 0 0] 34) U2.heap.size rfl
    have hb3 := HB2.out.trans (((Below.refl U2.heap.size U2).alloc (Nat.le_refl _) (.cells #[.int .i64 3, .string ⟨#[91, 93]⟩, .int .i64 0, .slice none 0 0] 34)).mono HB2.out.size)
    have hb5' := (((Below.refl U2.heap.size U2).alloc (Nat.le_refl _) (.cells #[.int .i64 3, .string ⟨#[91, 93]⟩, .int .i64 0, .slice none 0 0] 34)).block _ hwu).trans hb5
    obtain ⟨tb, htb⟩ : ∃ tb, U2.heap.size = tb := ⟨_, rfl⟩
    obtain ⟨U3, hU3⟩ : ∃ U3, U2.alloc (.cells #[.int .i64 3, .string ⟨#[91, 93]⟩, .int .i64 0, .slice none 0 0] 34) = U3 := ⟨_, rfl⟩
    rw [hU3] at hst2 hnew hb3 hb5' ⊢
    rw [htb] at hst2 hnew hwu ⊢
    have HST2 := Lib.hid hst2
    have HB6 := Lib.hid hnew
    have HWU := Lib.hid hwu
    have HB5b := Lib.hid hb5'
    clear hst2 hnew hb5 hb5' hb3 HB2 HST1 HB5 HSL hU3 htb
    have htbl : tb < U3.heap.size := (Array.getElem?_eq_some_iff.1 HB6.out).1
    have HTV4 : Hid (TV (Yc X (fun b => (False ∨ b = W.heap.size) ∨ b = tb) n1) U3 (some (funT ⟨#[91, 93]⟩ [])) 3 ⟨#[91, 93]⟩ 0 (.slice none 0 0)) := Lib.hid (TV.atom (funT ⟨#[91, 93]⟩ []) rfl (by decide) (by decide) (by decide))
    have HSL4 : Hid (Tm.sliceP U3 (okN (Yc X (fun b => (False ∨ b = W.heap.size) ∨ b = tb) n1) U3) [] (.slice none 0 0)) := Lib.hid ⟨none, 0, rfl, by simp, by simp, .inl rfl⟩
    have HLEN : Hid (([] : List Tm).length = 0 ∧ (0 : Nat) ≤ 1000001) := Lib.hid ⟨rfl, by omega⟩
    refine ⟨trivial, ?_⟩
    gi_wp2_with fail
    have hbs := newBlk U3 (.cells #[.slice none 0 0] 32) U3.heap.size rfl
    have hb0 := (Below.refl U3.heap.size U3).alloc (Nat.le_refl _) (.cells #[.slice none 0 0] 32)
    refine ⟨trivial, ?_⟩
    refine (backward_in Fence.wide 8 trivial rfl _ _ _ _).mono ?_
    rintro e w' ⟨rfl, rfl⟩
    gi_wp2_with fail
    obtain ⟨Bs, hBs⟩ : ∃ Bs, U3.heap.size = Bs := ⟨_, rfl⟩
    obtain ⟨W0, hW0⟩ : ∃ W0, U3.alloc (.cells #[.slice none 0 0] 32) = W0 := ⟨_, rfl⟩
    rw [hW0] at hbs hb0 ⊢
    rw [hBs] at hbs ⊢
    have htl6 : tb < U3.heap.size := (Array.getElem?_eq_some_iff.1 HB6.out).1
    have hwl6 : W.heap.size < U3.heap.size := (Array.getElem?_eq_some_iff.1 HB5b.out).1
    have hwt6 : W.heap.size ≠ tb := by
      have h2 := HWU.out
      omega
    have hsl0 := slP_mv HSL4.out (FrP.of_below hb0) (fun _ h => h.elim) (X' := Yc X (fun b => (False ∨ b = W.heap.size) ∨ b = tb) n1) (fun _ hx => .inl hx)
    obtain ⟨raw, hraw⟩ := els_some HLEN.out.1 hsl0
    have hold0 : ∀ b, Yc X (fun b => (False ∨ b = W.heap.size) ∨ b = tb) n1 b → b < W0.heap.size := fun b hx => Nat.lt_of_lt_of_le (HST2.out.rd.old b hx) hb0.size
    have hbsl : Bs < W0.heap.size := (Array.getElem?_eq_some_iff.1 hbs).1
    refine range_p (Y := Yc X (fun b => (False ∨ b = W.heap.size) ∨ b = tb) n1) (m := 0) (g := none) (cp := 0) (raw := raw) (E := fun b => b = Bs ∨ okN (Yc X (fun b => (False ∨ b = W.heap.size) ∨ b = tb) n1) W0 b) (vl := (some [])) (vt := (some (funT ⟨#[91, 93]⟩ []))) _ _ _ _ _ _ _ _ _ _ _ _ _ _ _ _ _ _ _ _ _ _ _ _ _ _ _ _ _ _ _ _ _ _ _ _ _ _ _ _ _ _ (fun k hk => by
      rcases hk with rfl | hk
      · exact hbsl
      · exact hk.2) (.inl rfl) (fun hE => by
      rcases hE with e | hE
      · omega
      · exact hE.1 (.inl (.inr (.inr rfl)))) hbs (by have := HLEN.out.2; omega) (hraw _ (fun b hb => .inr hb)) (.inl (.inr (.inr rfl))) (Nat.lt_of_lt_of_le htl6 hb0.size) hold0 ⟨FrP.refl _ _, 3, ⟨#[91, 93]⟩, 0, _, _, _, (hb0.block tb htl6).trans HB6.out, (HTV4.out.mv (FrP.of_below hb0) (fun _ h => h.elim) (fun _ hx => .inl hx)).sub (fun t ht => curP_nil (fun l hl => by cases hl; exact HLEN.out.1) ht)⟩ ?_
    rintro D Wd hD ⟨hfd, k8, nm8, n8, g8, m8, c8, hb8, ht8⟩ hK
    have HB0 := Lib.hid hb0
    have hb9 := (hfd.block W.heap.size (Nat.lt_of_lt_of_le hwl6 hb0.size) hwt6).trans ((hb0.block _ hwl6).trans HB5b.out)
    obtain ⟨⟨d0, d1, d2, d3⟩, df0, df1, df2, df3⟩ := row4 hb8
    obtain ⟨⟨a0, a1, a2, a3⟩, af0, af1, af2, af3⟩ := row4 hb9
    have htd : tb < Wd.heap.size := (Array.getElem?_eq_some_iff.1 hb8).1
    have hwd : W.heap.size < Wd.heap.size := (Array.getElem?_eq_some_iff.1 hb9).1
    have hfin := l_fin HST2.out (.inr rfl) (.inl (.inr rfl)) hb0 hfd ht8 hD hK (show Told S (.error (c9, pl) : RRes Tm) cd ts1 ns1 from HTOLD.out) (fun t ht => by cases ht)
    have hK9 := ((FrP.put Wd W.heap.size k8 nm8 n8 (.slice g8 m8 c8)).block D (Array.getElem?_eq_some_iff.1 hK).1 (by have := hb0.size; omega)).trans hK
    have hb10 := set4_blk hb9 k8 nm8 n8 (.slice g8 m8 c8)
    have HFIN := Lib.hid hfin
    have HK9 := Lib.hid hK9
    have HB10 := Lib.hid hb10
    clear hfin hK9 hb10 hb8 hb9 ht8 hfd hK hraw hsl0 hold0 hb0 hbs hW0 hBs
    gi_wp2_with fail
    refine ⟨by simp, .inl ⟨_, _, rfl, run_takeDeferred HK9.out, ?_⟩⟩
    obtain ⟨⟨z0, z1, z2, z3⟩, -⟩ := row4 HB10.out
    have hg := grownBy_putObj' (set4 Wd W.heap.size k8 nm8 n8 (.slice g8 m8 c8)) D (.deferred none)
    have hnc : ∀ r, some D = some r → ∃ o : Obj, (set4 Wd W.heap.size k8 nm8 n8 (.slice g8 m8 c8)).heap[r]? = some o ∧ o.isCells = false := fun r e => by cases e; exact ⟨_, HK9.out, rfl⟩
    have y0 := cell_kept z0 hg hnc
    have y1 := cell_kept z1 hg hnc
    have y2 := cell_kept z2 hg hnc
    have y3 := cell_kept z3 hg hnc
    refine ⟨.tuple #[.agg #[.int .i64 k8, .string nm8, .int .i64 n8, .slice g8 m8 c8], .int .i64 (cd : Nat)], ?_, HFIN.out⟩
    obtain ⟨V9, hV9⟩ : ∃ V9, (set4 Wd W.heap.size k8 nm8 n8 (.slice g8 m8 c8)).putObj D (.deferred none) = V9 := ⟨_, rfl⟩
    change Sem.run _ _ ((set4 Wd W.heap.size k8 nm8 n8 (.slice g8 m8 c8)).putObj D (.deferred none)) = _
    rw [hV9] at y0 y1 y2 y3 ⊢
    simp [results, Tryz.f113, go_sem, y0, y1, y2, y3]
    exact hV9.symm
  | ok q =>
    obtain ⟨l, ts9, n9⟩ := q
    rw [hr] at HTOLD
    obtain ⟨hc1, hc2, hc3⟩ := HTOLD.out
    subst hc1 hc2 hc3
    have HIN2 := Lib.hid (HIN.out.row (f' := f) (k' := 3) hr (by omega))
    gi_wp2_with fail
    have hst2 := (HST1.out.next HB2.out).box (.cells #[.int .i64 3, .string ⟨#[91, 93]⟩, .int .i64 0, .slice none 0 0] 34)
    have hb5 := (HB2.out.block _ (Array.getElem?_eq_some_iff.1 HB5.out).1).trans HB5.out
    have hwu : W.heap.size < U2.heap.size := (Array.getElem?_eq_some_iff.1 hb5).1
    have hnew := newBlk U2 (.cells #[.int .i64 3, .string ⟨#[91, 93]⟩, .int .i64 0, .slice none 0 0] 34) U2.heap.size rfl
    have hb3 := HB2.out.trans (((Below.refl U2.heap.size U2).alloc (Nat.le_refl _) (.cells #[.int .i64 3, .string ⟨#[91, 93]⟩, .int .i64 0, .slice none 0 0] 34)).mono HB2.out.size)
    have hb5' := (((Below.refl U2.heap.size U2).alloc (Nat.le_refl _) (.cells #[.int .i64 3, .string ⟨#[91, 93]⟩, .int .i64 0, .slice none 0 0] 34)).block _ hwu).trans hb5
    obtain ⟨tb, htb⟩ : ∃ tb, U2.heap.size = tb := ⟨_, rfl⟩
    obtain ⟨U3, hU3⟩ : ∃ U3, U2.alloc (.cells #[.int .i64 3, .string ⟨#[91, 93]⟩, .int .i64 0, .slice none 0 0] 34) = U3 := ⟨_, rfl⟩
    rw [hU3] at hst2 hnew hb3 hb5' ⊢
    rw [htb] at hst2 hnew hwu ⊢
    have HST2 := Lib.hid hst2
    have HB6 := Lib.hid hnew
    have HWU := Lib.hid hwu
    have HB5b := Lib.hid hb5'
    have HSL2 : Hid (match valOf (rdRow S f deep ts ns) with | some l => l.length = m ∧ m ≤ 1000001 ∧ Tm.sliceP U3 (okN (Yc X (fun b => (False ∨ b = W.heap.size) ∨ b = tb) n1) U3) l (.slice g m c) | none => g = none ∧ m = 0 ∧ c = 0) := Lib.hid (by
      have h0 := HSL.out
      cases hv : valOf (rdRow S f deep ts ns) with
      | none => rw [hv] at h0; exact h0
      | some l =>
        rw [hv] at h0
        refine ⟨h0.1, h0.2.1, slP_mv h0.2.2 (FrP.of_below hb3) (fun _ h => h.elim) (fun b hx => ?_)⟩
        rcases hx with (hx | hx | hx) | hx
        · exact .inl (.inl (.inl hx))
        · exact .inl (.inl (.inr hx))
        · rw [hx, ← htb]; exact .inr HB2.out.size
        · exact .inl (.inr hx))
    clear hst2 hnew hb5 hb5' hb3 HB2 HST1 HB5 HSL hU3 htb
    have htbl : tb < U3.heap.size := (Array.getElem?_eq_some_iff.1 HB6.out).1
    rw [hr] at HSL2
    refine ⟨trivial, ?_⟩
    have HPM := Lib.hid (passMark_any U3 rb z ts1 ns1 n1 124 S HIN2.out.good HIN2.out.zl HST2.out.rd HIN2.out.len)
    have HRr := Lib.hid hr
    clear hr
    cases hs : seeT 124 ts1 with
    | true =>
      have HPM2 : Hid (Calls Tryz.prog 111 #[.pointer (some ⟨rb, 0, none⟩), .string ⟨#[124]⟩] U3 fun e W' => e = .returned (.bool true) ∧ PRd (Yc X (fun b => (False ∨ b = W.heap.size) ∨ b = tb) n1) W' rb z ts1.tail ns1 n1 ∧ FrP (fun b => b = rb) U3 W') := Lib.hid (HPM.out.mono fun e W' ⟨h1, h2, h3⟩ => ⟨by rw [h1, hs], by rw [if_pos hs] at h2; exact h2, h3⟩)
      have HS := Lib.hid hs
      clear HPM hs
      refine (callsIn_wide.2 HPM2.out).mono ?_
      rintro e U4 ⟨rfl, hrd4, hfr4⟩
      have HB5c := Lib.hid ((HST2.out.keep (wrt0 hfr4) (.inl (.inr rfl))).trans HB5b.out)
      have HB6c := Lib.hid ((HST2.out.keep (wrt0 hfr4) (.inr rfl)).trans HB6.out)
      have HSL4 := Lib.hid (slP_mv HSL2.out.2.2 (wrt0 (nv := n1) hfr4) (wrt_X HST2.out.xr) (fun b hx => .inl hx))
      have HLEN := Lib.hid (And.intro HSL2.out.1 HSL2.out.2.1)
      have HST4 := Lib.hid (HST2.out.call0 hrd4 hfr4)
      have HIN4 := Lib.hid (HIN2.out.see (f' := f) (k' := 3) HS.out (by omega))
      have HTM2 : Hid (Calls Tryz.prog 61 #[.pointer (some ⟨rb, 0, none⟩), .int .i64 999, .int .i64 ((deep : Int) + 1)] U4 fun e W' => PTermPost (Yc X (fun b => (False ∨ b = W.heap.size) ∨ b = tb) n1) U4 rb z n1 S (rdTerm S f 999 (deep + 1) ts1.tail ns1) e W') :=
        Lib.hid (HIH.out _ U4 rb z S ts1.tail ns1 n1 999 (deep + 1) HIN4.out HST4.out.rd (by omega) (by omega))
      clear hrd4 hfr4 HST2 HB5b HB6 HSL2 HPM2
      gi_wp2_with fail
      refine ⟨trivial, ?_⟩
      refine (callsIn_wide.2 HTM2.out).mono ?_
      rintro e U5 ⟨k, nm, n, g5, m5, c5, cd, n2, rfl, hend, htv⟩
      obtain ⟨ts2, ns2, hrd5, htold⟩ := hend.rd
      have hb5d := (HST4.out.keep hend.fr (.inl (.inr rfl))).trans HB5c.out
      have hb6d := (HST4.out.keep hend.fr (.inr rfl)).trans HB6c.out
      have hsl5 := slP_mv HSL4.out hend.fr (wrt_X HST4.out.xr) (Yc_call hend.nvn)
      have hst5 := HST4.out.call hrd5 hend.nvn hend.fr
      have htv5 := htv.back
      have HTOLD2 : Hid (Told S (rdTerm S f 999 (deep + 1) ts1.tail ns1) cd ts2 ns2) := Lib.hid htold
      have hf6 := FrP.put U5 tb k nm n (.slice g5 m5 c5)
      have hYt : ∀ b, b = tb → Yc X (fun b => (False ∨ b = W.heap.size) ∨ b = tb) n2 b := fun b e => .inl (.inr (.inr e))
      have HST6 := Lib.hid (hst5.put hf6 (.inr rfl))
      have HTV6 := Lib.hid (htv5.mv hf6 hYt (fun b hx => .inl hx))
      have HSL6 := Lib.hid (slP_mv hsl5 hf6 hYt (fun b hx => .inl hx))
      have htbl5 : tb < U5.heap.size := (Array.getElem?_eq_some_iff.1 hb6d).1
      have hwl5 : W.heap.size < U5.heap.size := (Array.getElem?_eq_some_iff.1 hb5d).1
      have hwt : W.heap.size ≠ tb := fun e => by
        have h1 := hst5.bx tb (.inr rfl)
        have h2 := HWU.out
        omega
      have HB5e := Lib.hid ((hf6.block _ hwl5 hwt).trans hb5d)
      have HB6e := Lib.hid (set4_blk hb6d k nm n (.slice g5 m5 c5))
      obtain ⟨⟨b0, b1, b2, b3⟩, bf0, bf1, bf2, bf3⟩ := row4 hb6d
      clear hend htv hrd5 htold hb5d hb6d hsl5 hst5 htv5 HTM2 HST4 HSL4 HB5c HB6c
      cases hr2 : rdTerm S f 999 (deep + 1) ts1.tail ns1 with
      | error e =>
        obtain ⟨c9, pl⟩ := e
        rw [hr2] at HTOLD2 HTV6
        obtain ⟨hc1, hc2, hc3⟩ := HTOLD2.out
        have hcd : ((cd : Int) == 0) = false := by rw [beq_eq_false_iff_ne]; omega
        have hRe : R = .error (c9, pl) := by
          rw [← HR.out]
          unfold lstE
          simp only [rowE, HRr.out]
          unfold tlE
          rw [if_pos (show seeE 124 (.ok (ts1, ns1)) = true from HS.out)]
          simp only [tlS, termE, hr2]
        clear hc1 hc2 hc3 hr2
        obtain ⟨V6, hV6⟩ : ∃ V6, set4 U5 tb k nm n (.slice g5 m5 c5) = V6 := ⟨_, rfl⟩
        rw [hV6] at HST6 HTV6 HSL6 HB5e HB6e
        gi_wp2_with fail
        change _ ∧ CallsIn _ _ _ _ _ (set4 U5 tb k nm n (.slice g5 m5 c5)) _
        rw [hV6]
        clear hV6 b0 b1 b2 b3 bf0 bf1 bf2 bf3
        subst hRe
        have hbs := newBlk V6 (.cells #[.slice g m c] 32) V6.heap.size rfl
        have hb0 := (Below.refl V6.heap.size V6).alloc (Nat.le_refl _) (.cells #[.slice g m c] 32)
        refine ⟨trivial, ?_⟩
        refine (backward_in Fence.wide 8 trivial rfl _ _ _ _).mono ?_
        rintro e w' ⟨rfl, rfl⟩
        gi_wp2_with fail
        obtain ⟨Bs, hBs⟩ : ∃ Bs, V6.heap.size = Bs := ⟨_, rfl⟩
        obtain ⟨W0, hW0⟩ : ∃ W0, V6.alloc (.cells #[.slice g m c] 32) = W0 := ⟨_, rfl⟩
        rw [hW0] at hbs hb0 ⊢
        rw [hBs] at hbs ⊢
        have htl6 : tb < V6.heap.size := (Array.getElem?_eq_some_iff.1 HB6e.out).1
        have hwl6 : W.heap.size < V6.heap.size := (Array.getElem?_eq_some_iff.1 HB5e.out).1
        have hwt6 : W.heap.size ≠ tb := by
          have h2 := HWU.out
          omega
        have hsl0 := slP_mv HSL6.out (FrP.of_below hb0) (fun _ h => h.elim) (X' := Yc X (fun b => (False ∨ b = W.heap.size) ∨ b = tb) n2) (fun _ hx => .inl hx)
        obtain ⟨raw, hraw⟩ := els_some HLEN.out.1 hsl0
        have hold0 : ∀ b, Yc X (fun b => (False ∨ b = W.heap.size) ∨ b = tb) n2 b → b < W0.heap.size := fun b hx => Nat.lt_of_lt_of_le (HST6.out.rd.old b hx) hb0.size
        have hbsl : Bs < W0.heap.size := (Array.getElem?_eq_some_iff.1 hbs).1
        refine range_p (Y := Yc X (fun b => (False ∨ b = W.heap.size) ∨ b = tb) n2) (m := m) (g := g) (cp := c) (raw := raw) (E := fun b => b = Bs ∨ okN (Yc X (fun b => (False ∨ b = W.heap.size) ∨ b = tb) n2) W0 b) (vl := (some l)) (vt := none) _ _ _ _ _ _ _ _ _ _ _ _ _ _ _ _ _ _ _ _ _ _ _ _ _ _ _ _ _ _ _ _ _ _ _ _ _ _ _ _ _ _ (fun k hk => by
          rcases hk with rfl | hk
          · exact hbsl
          · exact hk.2) (.inl rfl) (fun hE => by
          rcases hE with e | hE
          · omega
          · exact hE.1 (.inl (.inr (.inr rfl)))) hbs (by have := HLEN.out.2; omega) (hraw _ (fun b hb => .inr hb)) (.inl (.inr (.inr rfl))) (Nat.lt_of_lt_of_le htl6 hb0.size) hold0 ⟨FrP.refl _ _, k, nm, n, _, _, _, (hb0.block tb htl6).trans HB6e.out, (HTV6.out.mv (FrP.of_below hb0) (fun _ h => h.elim) (fun _ hx => .inl hx)).sub (fun t ht => curP_nil (fun l hl => by cases hl; exact HLEN.out.1) ht)⟩ ?_
        rintro D Wd hD ⟨hfd, k8, nm8, n8, g8, m8, c8, hb8, ht8⟩ hK
        have HB0 := Lib.hid hb0
        have hb9 := (hfd.block W.heap.size (Nat.lt_of_lt_of_le hwl6 hb0.size) hwt6).trans ((hb0.block _ hwl6).trans HB5e.out)
        obtain ⟨⟨d0, d1, d2, d3⟩, df0, df1, df2, df3⟩ := row4 hb8
        obtain ⟨⟨a0, a1, a2, a3⟩, af0, af1, af2, af3⟩ := row4 hb9
        have htd : tb < Wd.heap.size := (Array.getElem?_eq_some_iff.1 hb8).1
        have hwd : W.heap.size < Wd.heap.size := (Array.getElem?_eq_some_iff.1 hb9).1
        have hfin := l_fin HST6.out (.inr rfl) (.inl (.inr rfl)) hb0 hfd ht8 hD hK (show Told S (.error (c9, pl) : RRes Tm) cd ts2 ns2 from HTOLD2.out) (fun t ht => by cases ht)
        have hK9 := ((FrP.put Wd W.heap.size k8 nm8 n8 (.slice g8 m8 c8)).block D (Array.getElem?_eq_some_iff.1 hK).1 (by have := hb0.size; omega)).trans hK
        have hb10 := set4_blk hb9 k8 nm8 n8 (.slice g8 m8 c8)
        have HFIN := Lib.hid hfin
        have HK9 := Lib.hid hK9
        have HB10 := Lib.hid hb10
        clear hfin hK9 hb10 hb8 hb9 ht8 hfd hK hraw hsl0 hold0 hb0 hbs hW0 hBs
        gi_wp2_with fail
        refine ⟨by simp, .inl ⟨_, _, rfl, run_takeDeferred HK9.out, ?_⟩⟩
        obtain ⟨⟨z0, z1, z2, z3⟩, -⟩ := row4 HB10.out
        have hg := grownBy_putObj' (set4 Wd W.heap.size k8 nm8 n8 (.slice g8 m8 c8)) D (.deferred none)
        have hnc : ∀ r, some D = some r → ∃ o : Obj, (set4 Wd W.heap.size k8 nm8 n8 (.slice g8 m8 c8)).heap[r]? = some o ∧ o.isCells = false := fun r e => by cases e; exact ⟨_, HK9.out, rfl⟩
        have y0 := cell_kept z0 hg hnc
        have y1 := cell_kept z1 hg hnc
        have y2 := cell_kept z2 hg hnc
        have y3 := cell_kept z3 hg hnc
        refine ⟨.tuple #[.agg #[.int .i64 k8, .string nm8, .int .i64 n8, .slice g8 m8 c8], .int .i64 (cd : Nat)], ?_, HFIN.out⟩
        obtain ⟨V9, hV9⟩ : ∃ V9, (set4 Wd W.heap.size k8 nm8 n8 (.slice g8 m8 c8)).putObj D (.deferred none) = V9 := ⟨_, rfl⟩
        change Sem.run _ _ ((set4 Wd W.heap.size k8 nm8 n8 (.slice g8 m8 c8)).putObj D (.deferred none)) = _
        rw [hV9] at y0 y1 y2 y3 ⊢
        simp [results, Tryz.f113, go_sem, y0, y1, y2, y3]
        exact hV9.symm
      | ok q =>
        obtain ⟨t, ts9, n9⟩ := q
        rw [hr2] at HTOLD2 HTV6
        obtain ⟨hc1, hc2, hc3⟩ := HTOLD2.out
        subst hc1 hc2 hc3
        have HIN5 := Lib.hid (HIN4.out.term (f' := f) (k' := 0) hr2 (by omega))
        have HRr2 := Lib.hid hr2
        have hlst : ∀ r : Except (Nat × Nat) Toks, needT S 93 ts2 = r → R = (match r with | .error e => .error e | .ok r3 => .ok (listT l t, r3, ns2)) := by
          intro r hn
          rw [← HR.out]
          unfold lstE
          simp only [rowE, HRr.out]
          unfold tlE
          rw [if_pos (show seeE 124 (.ok (ts1, ns1)) = true from HS.out)]
          simp only [tlS, termE, HRr2.out, needE, hn]
          cases r <;> rfl
        have HLST := Lib.hid hlst
        clear hr2 hlst
        obtain ⟨V6, hV6⟩ : ∃ V6, set4 U5 tb k nm n (.slice g5 m5 c5) = V6 := ⟨_, rfl⟩
        rw [hV6] at HST6 HTV6 HSL6 HB5e HB6e
        gi_wp2_with fail
        change _ ∧ CallsIn _ _ _ _ _ (set4 U5 tb k nm n (.slice g5 m5 c5)) _
        rw [hV6]
        clear hV6 b0 b1 b2 b3 bf0 bf1 bf2 bf3
        have HND := Lib.hid (need_p V6 rb z ts2 ns2 n2 93 S HIN5.out.good HIN5.out.zl HST6.out.rd HIN5.out.len)
        refine ⟨trivial, ?_⟩
        refine (callsIn_wide.2 HND.out).mono ?_
        rintro e V7 ⟨rfl, hrd7, hfr7⟩
        have HB5n := Lib.hid ((HST6.out.keep (wrt0 hfr7) (.inl (.inr rfl))).trans HB5e.out)
        have HB6n := Lib.hid ((HST6.out.keep (wrt0 hfr7) (.inr rfl)).trans HB6e.out)
        have HSLn := Lib.hid (slP_mv HSL6.out (wrt0 (nv := n2) hfr7) (wrt_X HST6.out.xr) (fun b hx => .inl hx))
        have HTVn := Lib.hid (HST6.out.tv HTV6.out (NvN.refl _ _) (wrt0 hfr7))
        have HSTn := Lib.hid (HST6.out.call0 hrd7 hfr7)
        clear hrd7 hfr7 HND HST6 HTV6 HSL6 HB5e HB6e
        rcases need_cases S 93 ts2 with ⟨hs, hn⟩ | ⟨hs, hn⟩
        · have hRe : R = .ok (listT l t, ts2.tail, ns2) := HLST.out _ hn
          have hval : (if seeT 93 ts2 = true then (0 : Int) else 2) = 0 := by rw [if_pos hs]
          have HS2 : Hid (PSt X (fun b => (False ∨ b = W.heap.size) ∨ b = tb) W rb z nv ts2.tail ns2 n2 V7) := Lib.hid (by have h0 := HSTn.out; rw [if_pos hs] at h0; exact h0)
          subst hRe
          rw [hval]
          clear hs hn hval HSTn
          gi_wp2_with fail
          have hbs := newBlk V7 (.cells #[.slice g m c] 32) V7.heap.size rfl
          have hb0 := (Below.refl V7.heap.size V7).alloc (Nat.le_refl _) (.cells #[.slice g m c] 32)
          refine ⟨trivial, ?_⟩
          refine (backward_in Fence.wide 8 trivial rfl _ _ _ _).mono ?_
          rintro e w' ⟨rfl, rfl⟩
          gi_wp2_with fail
          obtain ⟨Bs, hBs⟩ : ∃ Bs, V7.heap.size = Bs := ⟨_, rfl⟩
          obtain ⟨W0, hW0⟩ : ∃ W0, V7.alloc (.cells #[.slice g m c] 32) = W0 := ⟨_, rfl⟩
          rw [hW0] at hbs hb0 ⊢
          rw [hBs] at hbs ⊢
          have htl6 : tb < V7.heap.size := (Array.getElem?_eq_some_iff.1 HB6n.out).1
          have hwl6 : W.heap.size < V7.heap.size := (Array.getElem?_eq_some_iff.1 HB5n.out).1
          have hwt6 : W.heap.size ≠ tb := by
            have h2 := HWU.out
            omega
          have hsl0 := slP_mv HSLn.out (FrP.of_below hb0) (fun _ h => h.elim) (X' := Yc X (fun b => (False ∨ b = W.heap.size) ∨ b = tb) n2) (fun _ hx => .inl hx)
          obtain ⟨raw, hraw⟩ := els_some HLEN.out.1 hsl0
          have hold0 : ∀ b, Yc X (fun b => (False ∨ b = W.heap.size) ∨ b = tb) n2 b → b < W0.heap.size := fun b hx => Nat.lt_of_lt_of_le (HS2.out.rd.old b hx) hb0.size
          have hbsl : Bs < W0.heap.size := (Array.getElem?_eq_some_iff.1 hbs).1
          refine range_p (Y := Yc X (fun b => (False ∨ b = W.heap.size) ∨ b = tb) n2) (m := m) (g := g) (cp := c) (raw := raw) (E := fun b => b = Bs ∨ okN (Yc X (fun b => (False ∨ b = W.heap.size) ∨ b = tb) n2) W0 b) (vl := (some l)) (vt := (some t)) _ _ _ _ _ _ _ _ _ _ _ _ _ _ _ _ _ _ _ _ _ _ _ _ _ _ _ _ _ _ _ _ _ _ _ _ _ _ _ _ _ _ (fun k hk => by
            rcases hk with rfl | hk
            · exact hbsl
            · exact hk.2) (.inl rfl) (fun hE => by
            rcases hE with e | hE
            · omega
            · exact hE.1 (.inl (.inr (.inr rfl)))) hbs (by have := HLEN.out.2; omega) (hraw _ (fun b hb => .inr hb)) (.inl (.inr (.inr rfl))) (Nat.lt_of_lt_of_le htl6 hb0.size) hold0 ⟨FrP.refl _ _, k, nm, n, _, _, _, (hb0.block tb htl6).trans HB6n.out, (HTVn.out.mv (FrP.of_below hb0) (fun _ h => h.elim) (fun _ hx => .inl hx)).sub (fun t ht => curP_nil (fun l hl => by cases hl; exact HLEN.out.1) ht)⟩ ?_
          rintro D Wd hD ⟨hfd, k8, nm8, n8, g8, m8, c8, hb8, ht8⟩ hK
          have HB0 := Lib.hid hb0
          have hb9 := (hfd.block W.heap.size (Nat.lt_of_lt_of_le hwl6 hb0.size) hwt6).trans ((hb0.block _ hwl6).trans HB5n.out)
          obtain ⟨⟨d0, d1, d2, d3⟩, df0, df1, df2, df3⟩ := row4 hb8
          obtain ⟨⟨a0, a1, a2, a3⟩, af0, af1, af2, af3⟩ := row4 hb9
          have htd : tb < Wd.heap.size := (Array.getElem?_eq_some_iff.1 hb8).1
          have hwd : W.heap.size < Wd.heap.size := (Array.getElem?_eq_some_iff.1 hb9).1
          have hfin := l_fin HS2.out (.inr rfl) (.inl (.inr rfl)) hb0 hfd ht8 hD hK (show Told S (.ok (listT l t, ts2.tail, ns2) : RRes Tm) 0 ts2.tail ns2 from ⟨rfl, rfl, rfl⟩) (fun t ht => by rw [curP_all]; exact ht)
          have hK9 := ((FrP.put Wd W.heap.size k8 nm8 n8 (.slice g8 m8 c8)).block D (Array.getElem?_eq_some_iff.1 hK).1 (by have := hb0.size; omega)).trans hK
          have hb10 := set4_blk hb9 k8 nm8 n8 (.slice g8 m8 c8)
          have HFIN := Lib.hid hfin
          have HK9 := Lib.hid hK9
          have HB10 := Lib.hid hb10
          clear hfin hK9 hb10 hb8 hb9 ht8 hfd hK hraw hsl0 hold0 hb0 hbs hW0 hBs
          gi_wp2_with fail
          refine ⟨by simp, .inl ⟨_, _, rfl, run_takeDeferred HK9.out, ?_⟩⟩
          obtain ⟨⟨z0, z1, z2, z3⟩, -⟩ := row4 HB10.out
          have hg := grownBy_putObj' (set4 Wd W.heap.size k8 nm8 n8 (.slice g8 m8 c8)) D (.deferred none)
          have hnc : ∀ r, some D = some r → ∃ o : Obj, (set4 Wd W.heap.size k8 nm8 n8 (.slice g8 m8 c8)).heap[r]? = some o ∧ o.isCells = false := fun r e => by cases e; exact ⟨_, HK9.out, rfl⟩
          have y0 := cell_kept z0 hg hnc
          have y1 := cell_kept z1 hg hnc
          have y2 := cell_kept z2 hg hnc
          have y3 := cell_kept z3 hg hnc
          refine ⟨.tuple #[.agg #[.int .i64 k8, .string nm8, .int .i64 n8, .slice g8 m8 c8], .int .i64 (0 : Nat)], ?_, HFIN.out⟩
          obtain ⟨V9, hV9⟩ : ∃ V9, (set4 Wd W.heap.size k8 nm8 n8 (.slice g8 m8 c8)).putObj D (.deferred none) = V9 := ⟨_, rfl⟩
          change Sem.run _ _ ((set4 Wd W.heap.size k8 nm8 n8 (.slice g8 m8 c8)).putObj D (.deferred none)) = _
          rw [hV9] at y0 y1 y2 y3 ⊢
          simp [results, Tryz.f113, go_sem, y0, y1, y2, y3]
          exact hV9.symm
        · have hRe : R = .error (2, placeT S ts2) := HLST.out _ hn
          have hval : (if seeT 93 ts2 = true then (0 : Int) else 2) = 2 := by rw [if_neg (by rw [hs]; simp)]
          have HS2 : Hid (PSt X (fun b => (False ∨ b = W.heap.size) ∨ b = tb) W rb z nv ts2 ns2 n2 V7) := Lib.hid (by have h0 := HSTn.out; rw [if_neg (by rw [hs]; simp)] at h0; exact h0)
          subst hRe
          rw [hval]
          clear hs hn hval HSTn
          gi_wp2_with fail
          have hbs := newBlk V7 (.cells #[.slice g m c] 32) V7.heap.size rfl
          have hb0 := (Below.refl V7.heap.size V7).alloc (Nat.le_refl _) (.cells #[.slice g m c] 32)
          refine ⟨trivial, ?_⟩
          refine (backward_in Fence.wide 8 trivial rfl _ _ _ _).mono ?_
          rintro e w' ⟨rfl, rfl⟩
          gi_wp2_with fail
          obtain ⟨Bs, hBs⟩ : ∃ Bs, V7.heap.size = Bs := ⟨_, rfl⟩
          obtain ⟨W0, hW0⟩ : ∃ W0, V7.alloc (.cells #[.slice g m c] 32) = W0 := ⟨_, rfl⟩
          rw [hW0] at hbs hb0 ⊢
          rw [hBs] at hbs ⊢
          have htl6 : tb < V7.heap.size := (Array.getElem?_eq_some_iff.1 HB6n.out).1
          have hwl6 : W.heap.size < V7.heap.size := (Array.getElem?_eq_some_iff.1 HB5n.out).1
          have hwt6 : W.heap.size ≠ tb := by
            have h2 := HWU.out
            omega
          have hsl0 := slP_mv HSLn.out (FrP.of_below hb0) (fun _ h => h.elim) (X' := Yc X (fun b => (False ∨ b = W.heap.size) ∨ b = tb) n2) (fun _ hx => .inl hx)
          obtain ⟨raw, hraw⟩ := els_some HLEN.out.1 hsl0
          have hold0 : ∀ b, Yc X (fun b => (False ∨ b = W.heap.size) ∨ b = tb) n2 b → b < W0.heap.size := fun b hx => Nat.lt_of_lt_of_le (HS2.out.rd.old b hx) hb0.size
          have hbsl : Bs < W0.heap.size := (Array.getElem?_eq_some_iff.1 hbs).1
          refine range_p (Y := Yc X (fun b => (False ∨ b = W.heap.size) ∨ b = tb) n2) (m := m) (g := g) (cp := c) (raw := raw) (E := fun b => b = Bs ∨ okN (Yc X (fun b => (False ∨ b = W.heap.size) ∨ b = tb) n2) W0 b) (vl := (some l)) (vt := (some t)) _ _ _ _ _ _ _ _ _ _ _ _ _ _ _ _ _ _ _ _ _ _ _ _ _ _ _ _ _ _ _ _ _ _ _ _ _ _ _ _ _ _ (fun k hk => by
            rcases hk with rfl | hk
            · exact hbsl
            · exact hk.2) (.inl rfl) (fun hE => by
            rcases hE with e | hE
            · omega
            · exact hE.1 (.inl (.inr (.inr rfl)))) hbs (by have := HLEN.out.2; omega) (hraw _ (fun b hb => .inr hb)) (.inl (.inr (.inr rfl))) (Nat.lt_of_lt_of_le htl6 hb0.size) hold0 ⟨FrP.refl _ _, k, nm, n, _, _, _, (hb0.block tb htl6).trans HB6n.out, (HTVn.out.mv (FrP.of_below hb0) (fun _ h => h.elim) (fun _ hx => .inl hx)).sub (fun t ht => curP_nil (fun l hl => by cases hl; exact HLEN.out.1) ht)⟩ ?_
          rintro D Wd hD ⟨hfd, k8, nm8, n8, g8, m8, c8, hb8, ht8⟩ hK
          have HB0 := Lib.hid hb0
          have hb9 := (hfd.block W.heap.size (Nat.lt_of_lt_of_le hwl6 hb0.size) hwt6).trans ((hb0.block _ hwl6).trans HB5n.out)
          obtain ⟨⟨d0, d1, d2, d3⟩, df0, df1, df2, df3⟩ := row4 hb8
          obtain ⟨⟨a0, a1, a2, a3⟩, af0, af1, af2, af3⟩ := row4 hb9
          have htd : tb < Wd.heap.size := (Array.getElem?_eq_some_iff.1 hb8).1
          have hwd : W.heap.size < Wd.heap.size := (Array.getElem?_eq_some_iff.1 hb9).1
          have hfin := l_fin HS2.out (.inr rfl) (.inl (.inr rfl)) hb0 hfd ht8 hD hK (show Told S (.error (2, placeT S ts2) : RRes Tm) 2 ts2 ns2 from ⟨rfl, .inl rfl, rfl⟩) (fun t ht => by cases ht)
          have hK9 := ((FrP.put Wd W.heap.size k8 nm8 n8 (.slice g8 m8 c8)).block D (Array.getElem?_eq_some_iff.1 hK).1 (by have := hb0.size; omega)).trans hK
          have hb10 := set4_blk hb9 k8 nm8 n8 (.slice g8 m8 c8)
          have HFIN := Lib.hid hfin
          have HK9 := Lib.hid hK9
          have HB10 := Lib.hid hb10
          clear hfin hK9 hb10 hb8 hb9 ht8 hfd hK hraw hsl0 hold0 hb0 hbs hW0 hBs
          gi_wp2_with fail
          refine ⟨by simp, .inl ⟨_, _, rfl, run_takeDeferred HK9.out, ?_⟩⟩
          obtain ⟨⟨z0, z1, z2, z3⟩, -⟩ := row4 HB10.out
          have hg := grownBy_putObj' (set4 Wd W.heap.size k8 nm8 n8 (.slice g8 m8 c8)) D (.deferred none)
          have hnc : ∀ r, some D = some r → ∃ o : Obj, (set4 Wd W.heap.size k8 nm8 n8 (.slice g8 m8 c8)).heap[r]? = some o ∧ o.isCells = false := fun r e => by cases e; exact ⟨_, HK9.out, rfl⟩
          have y0 := cell_kept z0 hg hnc
          have y1 := cell_kept z1 hg hnc
          have y2 := cell_kept z2 hg hnc
          have y3 := cell_kept z3 hg hnc
          refine ⟨.tuple #[.agg #[.int .i64 k8, .string nm8, .int .i64 n8, .slice g8 m8 c8], .int .i64 (2 : Nat)], ?_, HFIN.out⟩
          obtain ⟨V9, hV9⟩ : ∃ V9, (set4 Wd W.heap.size k8 nm8 n8 (.slice g8 m8 c8)).putObj D (.deferred none) = V9 := ⟨_, rfl⟩
          change Sem.run _ _ ((set4 Wd W.heap.size k8 nm8 n8 (.slice g8 m8 c8)).putObj D (.deferred none)) = _
          rw [hV9] at y0 y1 y2 y3 ⊢
          simp [results, Tryz.f113, go_sem, y0, y1, y2, y3]
          exact hV9.symm
    | false =>
      have HPM2 : Hid (Calls Tryz.prog 111 #[.pointer (some ⟨rb, 0, none⟩), .string ⟨#[124]⟩] U3 fun e W' => e = .returned (.bool false) ∧ PRd (Yc X (fun b => (False ∨ b = W.heap.size) ∨ b = tb) n1) W' rb z ts1 ns1 n1 ∧ FrP (fun b => b = rb) U3 W') := Lib.hid (HPM.out.mono fun e W' ⟨h1, h2, h3⟩ => ⟨by rw [h1, hs], by rw [if_neg (by rw [hs]; simp)] at h2; exact h2, h3⟩)
      have HS := Lib.hid hs
      clear HPM hs
      refine (callsIn_wide.2 HPM2.out).mono ?_
      rintro e U4 ⟨rfl, hrd4, hfr4⟩
      have HB5c := Lib.hid ((HST2.out.keep (wrt0 hfr4) (.inl (.inr rfl))).trans HB5b.out)
      have HB6c := Lib.hid ((HST2.out.keep (wrt0 hfr4) (.inr rfl)).trans HB6.out)
      have HSL4 := Lib.hid (slP_mv HSL2.out.2.2 (wrt0 (nv := n1) hfr4) (wrt_X HST2.out.xr) (fun b hx => .inl hx))
      have HLEN := Lib.hid (And.intro HSL2.out.1 HSL2.out.2.1)
      have HST4 := Lib.hid (HST2.out.call0 hrd4 hfr4)
      have HTV4 : Hid (TV (Yc X (fun b => (False ∨ b = W.heap.size) ∨ b = tb) n1) U4 (some (funT ⟨#[91, 93]⟩ [])) 3 ⟨#[91, 93]⟩ 0 (.slice none 0 0)) := Lib.hid (TV.atom (funT ⟨#[91, 93]⟩ []) rfl (by decide) (by decide) (by decide))
      have hlst : ∀ r : Except (Nat × Nat) Toks, needT S 93 ts1 = r → R = (match r with | .error e => .error e | .ok r3 => .ok (listT l (funT ⟨#[91, 93]⟩ []), r3, ns1)) := by
        intro r hn
        rw [← HR.out]
        unfold lstE
        simp only [rowE, HRr.out]
        unfold tlE
        rw [if_neg (show ¬ seeE 124 (.ok (ts1, ns1)) = true by rw [show seeE 124 (.ok (ts1, ns1)) = seeT 124 ts1 from rfl, HS.out]; simp)]
        simp only [nilE, needE, hn]
        cases r <;> rfl
      have HLST := Lib.hid hlst
      clear hrd4 hfr4 HST2 HB5b HB6 HSL2 HPM2 hlst
      gi_wp2_with fail
      have HND := Lib.hid (need_p U4 rb z ts1 ns1 n1 93 S HIN2.out.good HIN2.out.zl HST4.out.rd HIN2.out.len)
      refine ⟨trivial, ?_⟩
      refine (callsIn_wide.2 HND.out).mono ?_
      rintro e V7 ⟨rfl, hrd7, hfr7⟩
      have HB5n := Lib.hid ((HST4.out.keep (wrt0 hfr7) (.inl (.inr rfl))).trans HB5c.out)
      have HB6n := Lib.hid ((HST4.out.keep (wrt0 hfr7) (.inr rfl)).trans HB6c.out)
      have HSLn := Lib.hid (slP_mv HSL4.out (wrt0 (nv := n1) hfr7) (wrt_X HST4.out.xr) (fun b hx => .inl hx))
      have HTVn := Lib.hid (HST4.out.tv HTV4.out (NvN.refl _ _) (wrt0 hfr7))
      have HSTn := Lib.hid (HST4.out.call0 hrd7 hfr7)
      clear hrd7 hfr7 HND HST4 HTV4 HSL4 HB5c HB6c
      rcases need_cases S 93 ts1 with ⟨hs, hn⟩ | ⟨hs, hn⟩
      · have hRe : R = .ok (listT l (funT ⟨#[91, 93]⟩ []), ts1.tail, ns1) := HLST.out _ hn
        have hval : (if seeT 93 ts1 = true then (0 : Int) else 2) = 0 := by rw [if_pos hs]
        have HS2 : Hid (PSt X (fun b => (False ∨ b = W.heap.size) ∨ b = tb) W rb z nv ts1.tail ns1 n1 V7) := Lib.hid (by have h0 := HSTn.out; rw [if_pos hs] at h0; exact h0)
        subst hRe
        rw [hval]
        clear hs hn hval HSTn
        gi_wp2_with fail
        have hbs := newBlk V7 (.cells #[.slice g m c] 32) V7.heap.size rfl
        have hb0 := (Below.refl V7.heap.size V7).alloc (Nat.le_refl _) (.cells #[.slice g m c] 32)
        refine ⟨trivial, ?_⟩
        refine (backward_in Fence.wide 8 trivial rfl _ _ _ _).mono ?_
        rintro e w' ⟨rfl, rfl⟩
        gi_wp2_with fail
        obtain ⟨Bs, hBs⟩ : ∃ Bs, V7.heap.size = Bs := ⟨_, rfl⟩
        obtain ⟨W0, hW0⟩ : ∃ W0, V7.alloc (.cells #[.slice g m c] 32) = W0 := ⟨_, rfl⟩
        rw [hW0] at hbs hb0 ⊢
        rw [hBs] at hbs ⊢
        have htl6 : tb < V7.heap.size := (Array.getElem?_eq_some_iff.1 HB6n.out).1
        have hwl6 : W.heap.size < V7.heap.size := (Array.getElem?_eq_some_iff.1 HB5n.out).1
        have hwt6 : W.heap.size ≠ tb := by
          have h2 := HWU.out
          omega
        have hsl0 := slP_mv HSLn.out (FrP.of_below hb0) (fun _ h => h.elim) (X' := Yc X (fun b => (False ∨ b = W.heap.size) ∨ b = tb) n1) (fun _ hx => .inl hx)
        obtain ⟨raw, hraw⟩ := els_some HLEN.out.1 hsl0
        have hold0 : ∀ b, Yc X (fun b => (False ∨ b = W.heap.size) ∨ b = tb) n1 b → b < W0.heap.size := fun b hx => Nat.lt_of_lt_of_le (HS2.out.rd.old b hx) hb0.size
        have hbsl : Bs < W0.heap.size := (Array.getElem?_eq_some_iff.1 hbs).1
        refine range_p (Y := Yc X (fun b => (False ∨ b = W.heap.size) ∨ b = tb) n1) (m := m) (g := g) (cp := c) (raw := raw) (E := fun b => b = Bs ∨ okN (Yc X (fun b => (False ∨ b = W.heap.size) ∨ b = tb) n1) W0 b) (vl := (some l)) (vt := (some (funT ⟨#[91, 93]⟩ []))) _ _ _ _ _ _ _ _ _ _ _ _ _ _ _ _ _ _ _ _ _ _ _ _ _ _ _ _ _ _ _ _ _ _ _ _ _ _ _ _ _ _ (fun k hk => by
          rcases hk with rfl | hk
          · exact hbsl
          · exact hk.2) (.inl rfl) (fun hE => by
          rcases hE with e | hE
          · omega
          · exact hE.1 (.inl (.inr (.inr rfl)))) hbs (by have := HLEN.out.2; omega) (hraw _ (fun b hb => .inr hb)) (.inl (.inr (.inr rfl))) (Nat.lt_of_lt_of_le htl6 hb0.size) hold0 ⟨FrP.refl _ _, 3, ⟨#[91, 93]⟩, 0, _, _, _, (hb0.block tb htl6).trans HB6n.out, (HTVn.out.mv (FrP.of_below hb0) (fun _ h => h.elim) (fun _ hx => .inl hx)).sub (fun t ht => curP_nil (fun l hl => by cases hl; exact HLEN.out.1) ht)⟩ ?_
        rintro D Wd hD ⟨hfd, k8, nm8, n8, g8, m8, c8, hb8, ht8⟩ hK
        have HB0 := Lib.hid hb0
        have hb9 := (hfd.block W.heap.size (Nat.lt_of_lt_of_le hwl6 hb0.size) hwt6).trans ((hb0.block _ hwl6).trans HB5n.out)
        obtain ⟨⟨d0, d1, d2, d3⟩, df0, df1, df2, df3⟩ := row4 hb8
        obtain ⟨⟨a0, a1, a2, a3⟩, af0, af1, af2, af3⟩ := row4 hb9
        have htd : tb < Wd.heap.size := (Array.getElem?_eq_some_iff.1 hb8).1
        have hwd : W.heap.size < Wd.heap.size := (Array.getElem?_eq_some_iff.1 hb9).1
        have hfin := l_fin HS2.out (.inr rfl) (.inl (.inr rfl)) hb0 hfd ht8 hD hK (show Told S (.ok (listT l (funT ⟨#[91, 93]⟩ []), ts1.tail, ns1) : RRes Tm) 0 ts1.tail ns1 from ⟨rfl, rfl, rfl⟩) (fun t ht => by rw [curP_all]; exact ht)
        have hK9 := ((FrP.put Wd W.heap.size k8 nm8 n8 (.slice g8 m8 c8)).block D (Array.getElem?_eq_some_iff.1 hK).1 (by have := hb0.size; omega)).trans hK
        have hb10 := set4_blk hb9 k8 nm8 n8 (.slice g8 m8 c8)
        have HFIN := Lib.hid hfin
        have HK9 := Lib.hid hK9
        have HB10 := Lib.hid hb10
        clear hfin hK9 hb10 hb8 hb9 ht8 hfd hK hraw hsl0 hold0 hb0 hbs hW0 hBs
        gi_wp2_with fail
        refine ⟨by simp, .inl ⟨_, _, rfl, run_takeDeferred HK9.out, ?_⟩⟩
        obtain ⟨⟨z0, z1, z2, z3⟩, -⟩ := row4 HB10.out
        have hg := grownBy_putObj' (set4 Wd W.heap.size k8 nm8 n8 (.slice g8 m8 c8)) D (.deferred none)
        have hnc : ∀ r, some D = some r → ∃ o : Obj, (set4 Wd W.heap.size k8 nm8 n8 (.slice g8 m8 c8)).heap[r]? = some o ∧ o.isCells = false := fun r e => by cases e; exact ⟨_, HK9.out, rfl⟩
        have y0 := cell_kept z0 hg hnc
        have y1 := cell_kept z1 hg hnc
        have y2 := cell_kept z2 hg hnc
        have y3 := cell_kept z3 hg hnc
        refine ⟨.tuple #[.agg #[.int .i64 k8, .string nm8, .int .i64 n8, .slice g8 m8 c8], .int .i64 (0 : Nat)], ?_, HFIN.out⟩
        obtain ⟨V9, hV9⟩ : ∃ V9, (set4 Wd W.heap.size k8 nm8 n8 (.slice g8 m8 c8)).putObj D (.deferred none) = V9 := ⟨_, rfl⟩
        change Sem.run _ _ ((set4 Wd W.heap.size k8 nm8 n8 (.slice g8 m8 c8)).putObj D (.deferred none)) = _
        rw [hV9] at y0 y1 y2 y3 ⊢
        simp [results, Tryz.f113, go_sem, y0, y1, y2, y3]
        exact hV9.symm
      · have hRe : R = .error (2, placeT S ts1) := HLST.out _ hn
        have hval : (if seeT 93 ts1 = true then (0 : Int) else 2) = 2 := by rw [if_neg (by rw [hs]; simp)]
        have HS2 : Hid (PSt X (fun b => (False ∨ b = W.heap.size) ∨ b = tb) W rb z nv ts1 ns1 n1 V7) := Lib.hid (by have h0 := HSTn.out; rw [if_neg (by rw [hs]; simp)] at h0; exact h0)
        subst hRe
        rw [hval]
        clear hs hn hval HSTn
        gi_wp2_with fail
        have hbs := newBlk V7 (.cells #[.slice g m c] 32) V7.heap.size rfl
        have hb0 := (Below.refl V7.heap.size V7).alloc (Nat.le_refl _) (.cells #[.slice g m c] 32)
        refine ⟨trivial, ?_⟩
        refine (backward_in Fence.wide 8 trivial rfl _ _ _ _).mono ?_
        rintro e w' ⟨rfl, rfl⟩
        gi_wp2_with fail
        obtain ⟨Bs, hBs⟩ : ∃ Bs, V7.heap.size = Bs := ⟨_, rfl⟩
        obtain ⟨W0, hW0⟩ : ∃ W0, V7.alloc (.cells #[.slice g m c] 32) = W0 := ⟨_, rfl⟩
        rw [hW0] at hbs hb0 ⊢
        rw [hBs] at hbs ⊢
        have htl6 : tb < V7.heap.size := (Array.getElem?_eq_some_iff.1 HB6n.out).1
        have hwl6 : W.heap.size < V7.heap.size := (Array.getElem?_eq_some_iff.1 HB5n.out).1
        have hwt6 : W.heap.size ≠ tb := by
          have h2 := HWU.out
          omega
        have hsl0 := slP_mv HSLn.out (FrP.of_below hb0) (fun _ h => h.elim) (X' := Yc X (fun b => (False ∨ b = W.heap.size) ∨ b = tb) n1) (fun _ hx => .inl hx)
        obtain ⟨raw, hraw⟩ := els_some HLEN.out.1 hsl0
        have hold0 : ∀ b, Yc X (fun b => (False ∨ b = W.heap.size) ∨ b = tb) n1 b → b < W0.heap.size := fun b hx => Nat.lt_of_lt_of_le (HS2.out.rd.old b hx) hb0.size
        have hbsl : Bs < W0.heap.size := (Array.getElem?_eq_some_iff.1 hbs).1
        refine range_p (Y := Yc X (fun b => (False ∨ b = W.heap.size) ∨ b = tb) n1) (m := m) (g := g) (cp := c) (raw := raw) (E := fun b => b = Bs ∨ okN (Yc X (fun b => (False ∨ b = W.heap.size) ∨ b = tb) n1) W0 b) (vl := (some l)) (vt := (some (funT ⟨#[91, 93]⟩ []))) _ _ _ _ _ _ _ _ _ _ _ _ _ _ _ _ _ _ _ _ _ _ _ _ _ _ _ _ _ _ _ _ _ _ _ _ _ _ _ _ _ _ (fun k hk => by
          rcases hk with rfl | hk
          · exact hbsl
          · exact hk.2) (.inl rfl) (fun hE => by
          rcases hE with e | hE
          · omega
          · exact hE.1 (.inl (.inr (.inr rfl)))) hbs (by have := HLEN.out.2; omega) (hraw _ (fun b hb => .inr hb)) (.inl (.inr (.inr rfl))) (Nat.lt_of_lt_of_le htl6 hb0.size) hold0 ⟨FrP.refl _ _, 3, ⟨#[91, 93]⟩, 0, _, _, _, (hb0.block tb htl6).trans HB6n.out, (HTVn.out.mv (FrP.of_below hb0) (fun _ h => h.elim) (fun _ hx => .inl hx)).sub (fun t ht => curP_nil (fun l hl => by cases hl; exact HLEN.out.1) ht)⟩ ?_
        rintro D Wd hD ⟨hfd, k8, nm8, n8, g8, m8, c8, hb8, ht8⟩ hK
        have HB0 := Lib.hid hb0
        have hb9 := (hfd.block W.heap.size (Nat.lt_of_lt_of_le hwl6 hb0.size) hwt6).trans ((hb0.block _ hwl6).trans HB5n.out)
        obtain ⟨⟨d0, d1, d2, d3⟩, df0, df1, df2, df3⟩ := row4 hb8
        obtain ⟨⟨a0, a1, a2, a3⟩, af0, af1, af2, af3⟩ := row4 hb9
        have htd : tb < Wd.heap.size := (Array.getElem?_eq_some_iff.1 hb8).1
        have hwd : W.heap.size < Wd.heap.size := (Array.getElem?_eq_some_iff.1 hb9).1
        have hfin := l_fin HS2.out (.inr rfl) (.inl (.inr rfl)) hb0 hfd ht8 hD hK (show Told S (.error (2, placeT S ts1) : RRes Tm) 2 ts1 ns1 from ⟨rfl, .inl rfl, rfl⟩) (fun t ht => by cases ht)
        have hK9 := ((FrP.put Wd W.heap.size k8 nm8 n8 (.slice g8 m8 c8)).block D (Array.getElem?_eq_some_iff.1 hK).1 (by have := hb0.size; omega)).trans hK
        have hb10 := set4_blk hb9 k8 nm8 n8 (.slice g8 m8 c8)
        have HFIN := Lib.hid hfin
        have HK9 := Lib.hid hK9
        have HB10 := Lib.hid hb10
        clear hfin hK9 hb10 hb8 hb9 ht8 hfd hK hraw hsl0 hold0 hb0 hbs hW0 hBs
        gi_wp2_with fail
        refine ⟨by simp, .inl ⟨_, _, rfl, run_takeDeferred HK9.out, ?_⟩⟩
        obtain ⟨⟨z0, z1, z2, z3⟩, -⟩ := row4 HB10.out
        have hg := grownBy_putObj' (set4 Wd W.heap.size k8 nm8 n8 (.slice g8 m8 c8)) D (.deferred none)
        have hnc : ∀ r, some D = some r → ∃ o : Obj, (set4 Wd W.heap.size k8 nm8 n8 (.slice g8 m8 c8)).heap[r]? = some o ∧ o.isCells = false := fun r e => by cases e; exact ⟨_, HK9.out, rfl⟩
        have y0 := cell_kept z0 hg hnc
        have y1 := cell_kept z1 hg hnc
        have y2 := cell_kept z2 hg hnc
        have y3 := cell_kept z3 hg hnc
        refine ⟨.tuple #[.agg #[.int .i64 k8, .string nm8, .int .i64 n8, .slice g8 m8 c8], .int .i64 (2 : Nat)], ?_, HFIN.out⟩
        obtain ⟨V9, hV9⟩ : ∃ V9, (set4 Wd W.heap.size k8 nm8 n8 (.slice g8 m8 c8)).putObj D (.deferred none) = V9 := ⟨_, rfl⟩
        change Sem.run _ _ ((set4 Wd W.heap.size k8 nm8 n8 (.slice g8 m8 c8)).putObj D (.deferred none)) = _
        rw [hV9] at y0 y1 y2 y3 ⊢
        simp [results, Tryz.f113, go_sem, y0, y1, y2, y3]
        exact hV9.symm
end Go.Proofs.YtkjnjahmlobjiaaGreatDoor
