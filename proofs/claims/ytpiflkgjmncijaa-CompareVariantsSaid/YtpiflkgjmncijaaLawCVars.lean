/-
  The statement CompareVariants, walked: for any two terms that lie in memory and any number the call returns true, and nothing that was there has turned.
-/
import Derived.Test.YtpiflkgjmncijaaLawCTells
namespace Go.Proofs.Ytpiflkgjmncijaa
open Go.RowKit

theorem same_comm (a b : Tm) : a.same b = b.same a := by
  rw [Tm.same_eq, Tm.same_eq, Bool.eq_iff_iff, decide_eq_true_eq, decide_eq_true_eq]
  exact eq_comm
theorem isVar_right {a b : Tm} (ha : a.right = true) (hb : b.right = true) : isVar a b = (numT a).same (numT b) := by
  simp [isVar, ha, hb]
theorem numT_shift {a : Tm} (h : a.right = true) {b : Int} (h0 : shiftErr a b = 0) : numT (shiftTm a b) = numT a := by
  have h1 := (numbered_shifted (l := [a]) (by simp [h]) (b := b) (by simpa using h0)).1
  rw [List.map_cons, List.map_nil, numTms_one h, numTms_one (shift_right h h0)] at h1
  simpa using h1
theorem isVar_shift {a : Tm} (h : a.right = true) {b : Int} (h0 : shiftErr a b = 0) : isVar a (shiftTm a b) = true := by
  rw [isVar_right h (shift_right h h0), numT_shift h h0]
  exact (Tm.same_iff _ _).2 rfl
theorem isVar_self {a : Tm} (h : a.right = true) : isVar a a = true := by
  rw [isVar_right h h]; exact (Tm.same_iff _ _).2 rfl

/-- What lies in memory behind the numberings and the shifting: five terms. -/
structure XSt (w : World) (a b s : Tm) (sva svb svs : Value) (b1 o1 b2 o2 Bs : Nat) (sv1 sv2 : Value) (W : World) : Prop where
  hv : VSt w a b sva svb b1 o1 b2 o2 sv1 sv2 W
  hs : TmBox W Bs s svs
theorem XSt.next {w : World} {a b s : Tm} {sva svb svs : Value} {b1 o1 b2 o2 Bs : Nat} {sv1 sv2 : Value} {W W' : World} (h : XSt w a b s sva svb svs b1 o1 b2 o2 Bs sv1 sv2 W) (hb : Below W.heap.size W W') : XSt w a b s sva svb svs b1 o1 b2 o2 Bs sv1 sv2 W' :=
  ⟨h.hv.next hb, h.hs.next hb⟩
theorem XSt.cells {w : World} {a b s : Tm} {sva svb svs : Value} {b1 o1 b2 o2 Bs : Nat} {sv1 sv2 : Value} {W' : World} (h : XSt w a b s sva svb svs b1 o1 b2 o2 Bs sv1 sv2 W') :
    W'.cell? ⟨w.heap.size, 0, none⟩ = some (.int .i64 a.kind) ∧ W'.cell? ⟨w.heap.size, 1, none⟩ = some (.string a.name) ∧ W'.cell? ⟨w.heap.size, 2, none⟩ = some (.int .i64 a.n) ∧ W'.cell? ⟨w.heap.size, 3, none⟩ = some sva ∧
    W'.cell? ⟨w.heap.size + 1, 0, none⟩ = some (.int .i64 b.kind) ∧ W'.cell? ⟨w.heap.size + 1, 1, none⟩ = some (.string b.name) ∧ W'.cell? ⟨w.heap.size + 1, 2, none⟩ = some (.int .i64 b.n) ∧ W'.cell? ⟨w.heap.size + 1, 3, none⟩ = some svb ∧
    W'.cell? ⟨b1, o1, none⟩ = some (.int .i64 (numT a).kind) ∧ W'.cell? ⟨b1, o1 + 1, none⟩ = some (.string (numT a).name) ∧ W'.cell? ⟨b1, o1 + 2, none⟩ = some (.int .i64 (numT a).n) ∧ W'.cell? ⟨b1, o1 + 3, none⟩ = some sv1 ∧
    W'.cell? ⟨b2, o2, none⟩ = some (.int .i64 (numT b).kind) ∧ W'.cell? ⟨b2, o2 + 1, none⟩ = some (.string (numT b).name) ∧ W'.cell? ⟨b2, o2 + 2, none⟩ = some (.int .i64 (numT b).n) ∧ W'.cell? ⟨b2, o2 + 3, none⟩ = some sv2 ∧
    W'.cell? ⟨Bs, 0, none⟩ = some (.int .i64 s.kind) ∧ W'.cell? ⟨Bs, 1, none⟩ = some (.string s.name) ∧ W'.cell? ⟨Bs, 2, none⟩ = some (.int .i64 s.n) ∧ W'.cell? ⟨Bs, 3, none⟩ = some svs ∧
    XSt w a b s sva svb svs b1 o1 b2 o2 Bs sv1 sv2 W' := by
  obtain ⟨a0, a1, a2, a3, d0, d1, d2, d3, _⟩ := h.hv.hst.cells
  obtain ⟨x0, x1, x2, x3, y0, y1, y2, y3, _⟩ := h.hv.cells
  obtain ⟨s0, s1, s2, s3⟩ := h.hs.cells
  exact ⟨a0, a1, a2, a3, d0, d1, d2, d3, x0, x1, x2, x3, y0, y1, y2, y3, s0, s1, s2, s3, h⟩
theorem last21 {p1 p2 p3 p4 p5 p6 p7 p8 p9 p10 p11 p12 p13 p14 p15 p16 p17 p18 p19 p20 q : Prop} (h : p1 ∧ p2 ∧ p3 ∧ p4 ∧ p5 ∧ p6 ∧ p7 ∧ p8 ∧ p9 ∧ p10 ∧ p11 ∧ p12 ∧ p13 ∧ p14 ∧ p15 ∧ p16 ∧ p17 ∧ p18 ∧ p19 ∧ p20 ∧ q) : q := h.2.2.2.2.2.2.2.2.2.2.2.2.2.2.2.2.2.2.2.2

theorem XSt.step {w : World} {a b s : Tm} {sva svb svs : Value} {b1 o1 b2 o2 Bs : Nat} {sv1 sv2 : Value} {W W' : World} {p1 p2 p3 p4 p5 p6 p7 p8 p9 p10 p11 p12 p13 p14 p15 p16 p17 p18 p19 p20 : Prop} (hb : Below W.heap.size W W') (h : p1 ∧ p2 ∧ p3 ∧ p4 ∧ p5 ∧ p6 ∧ p7 ∧ p8 ∧ p9 ∧ p10 ∧ p11 ∧ p12 ∧ p13 ∧ p14 ∧ p15 ∧ p16 ∧ p17 ∧ p18 ∧ p19 ∧ p20 ∧ XSt w a b s sva svb svs b1 o1 b2 o2 Bs sv1 sv2 W) :
    W'.cell? ⟨w.heap.size, 0, none⟩ = some (.int .i64 a.kind) ∧ W'.cell? ⟨w.heap.size, 1, none⟩ = some (.string a.name) ∧ W'.cell? ⟨w.heap.size, 2, none⟩ = some (.int .i64 a.n) ∧ W'.cell? ⟨w.heap.size, 3, none⟩ = some sva ∧
    W'.cell? ⟨w.heap.size + 1, 0, none⟩ = some (.int .i64 b.kind) ∧ W'.cell? ⟨w.heap.size + 1, 1, none⟩ = some (.string b.name) ∧ W'.cell? ⟨w.heap.size + 1, 2, none⟩ = some (.int .i64 b.n) ∧ W'.cell? ⟨w.heap.size + 1, 3, none⟩ = some svb ∧
    W'.cell? ⟨b1, o1, none⟩ = some (.int .i64 (numT a).kind) ∧ W'.cell? ⟨b1, o1 + 1, none⟩ = some (.string (numT a).name) ∧ W'.cell? ⟨b1, o1 + 2, none⟩ = some (.int .i64 (numT a).n) ∧ W'.cell? ⟨b1, o1 + 3, none⟩ = some sv1 ∧
    W'.cell? ⟨b2, o2, none⟩ = some (.int .i64 (numT b).kind) ∧ W'.cell? ⟨b2, o2 + 1, none⟩ = some (.string (numT b).name) ∧ W'.cell? ⟨b2, o2 + 2, none⟩ = some (.int .i64 (numT b).n) ∧ W'.cell? ⟨b2, o2 + 3, none⟩ = some sv2 ∧
    W'.cell? ⟨Bs, 0, none⟩ = some (.int .i64 s.kind) ∧ W'.cell? ⟨Bs, 1, none⟩ = some (.string s.name) ∧ W'.cell? ⟨Bs, 2, none⟩ = some (.int .i64 s.n) ∧ W'.cell? ⟨Bs, 3, none⟩ = some svs ∧
    XSt w a b s sva svb svs b1 o1 b2 o2 Bs sv1 sv2 W' := ((last21 h).next hb).cells
theorem XSt.a' {w : World} {a b s : Tm} {sva svb svs : Value} {b1 o1 b2 o2 Bs : Nat} {sv1 sv2 : Value} {W : World} (h : XSt w a b s sva svb svs b1 o1 b2 o2 Bs sv1 sv2 W) : Tm.inn W W.heap.size a sva := h.hv.hst.ia
theorem XSt.b' {w : World} {a b s : Tm} {sva svb svs : Value} {b1 o1 b2 o2 Bs : Nat} {sv1 sv2 : Value} {W : World} (h : XSt w a b s sva svb svs b1 o1 b2 o2 Bs sv1 sv2 W) : Tm.inn W W.heap.size b svb := h.hv.hst.ib
theorem XSt.s' {w : World} {a b s : Tm} {sva svb svs : Value} {b1 o1 b2 o2 Bs : Nat} {sv1 sv2 : Value} {W : World} (h : XSt w a b s sva svb svs b1 o1 b2 o2 Bs sv1 sv2 W) : Tm.inn W W.heap.size s svs := h.hs.2
theorem XSt.x' {w : World} {a b s : Tm} {sva svb svs : Value} {b1 o1 b2 o2 Bs : Nat} {sv1 sv2 : Value} {W : World} (h : XSt w a b s sva svb svs b1 o1 b2 o2 Bs sv1 sv2 W) : Tm.inn W W.heap.size (numT a) sv1 := h.hv.hx.inn
theorem XSt.y' {w : World} {a b s : Tm} {sva svb svs : Value} {b1 o1 b2 o2 Bs : Nat} {sv1 sv2 : Value} {W : World} (h : XSt w a b s sva svb svs b1 o1 b2 o2 Bs sv1 sv2 W) : Tm.inn W W.heap.size (numT b) sv2 := h.hv.hy.inn

set_option maxRecDepth 100000 in
set_option maxHeartbeats 16000000 in
set_option linter.unusedSimpArgs false in
theorem cvariants_any (a b : Tm) (by' : Int) (w : World) (sva svb : Value) (hia : Tm.inn w w.heap.size a sva) (hib : Tm.inn w w.heap.size b svb) (hby : 0 ≤ by' ∧ by' ≤ 65535) :
    Calls Try.prog 6 #[.agg #[.int .i64 a.kind, .string a.name, .int .i64 a.n, sva], .agg #[.int .i64 b.kind, .string b.name, .int .i64 b.n, svb], .int .u16 by'] w fun e w' => e = .returned (.bool true) ∧ Below w.heap.size w w' := by
  have hst := TSt.start hia hib
  obtain ⟨_, ga, ca, rfl, _, _, _⟩ := Tm.inn_iff.1 hia
  obtain ⟨_, gb, cb, rfl, _, _, _⟩ := Tm.inn_iff.1 hib
  obtain ⟨hby0, hby1⟩ := hby
  clear hia hib
  go_enter Try.func6, Try.ntmps6
  go_wp2_with fail
  have hst0 := hst.next ((Below.refl _ _).alloc (Nat.le_refl _) (Obj.cells #[.int .i64 a.kind, .string a.name, .int .i64 a.n, .slice ga a.args.length ca, .int .i64 b.kind, .string b.name, .int .i64 b.n, .slice gb b.args.length cb] 24 (0, 0)))
  have hsl := two_slice (n := w.heap.size + 1 + 1) (newBlk (World.alloc _ _) (Obj.cells #[.int .i64 a.kind, .string a.name, .int .i64 a.n, .slice ga a.args.length ca, .int .i64 b.kind, .string b.name, .int .i64 b.n, .slice gb b.args.length cb] 24 (0, 0)) _ (by simp)) hst0.ia hst0.ib
  clear hst
  revert hst0 hsl
  generalize (((w.alloc (Obj.cells #[.int .i64 a.kind, .string a.name, .int .i64 a.n, .slice ga a.args.length ca] 24 (0, 0))).alloc (Obj.cells #[.int .i64 b.kind, .string b.name, .int .i64 b.n, .slice gb b.args.length cb] 24 (0, 0))).alloc (Obj.cells #[.int .i64 a.kind, .string a.name, .int .i64 a.n, .slice ga a.args.length ca, .int .i64 b.kind, .string b.name, .int .i64 b.n, .slice gb b.args.length cb] 24 (0, 0))) = W0
  intro hst0 hsl
  refine (some_any [a, b] W0 _ _ (Nat.le_refl _) hsl).mono ?_
  rintro e W1 ⟨rfl, hb1⟩
  have hst1 := hst0.next hb1
  clear hst0 hsl hb1
  cases hs : Tm.someB [a, b] with
  | false =>
    clear hs
    go_wp2_with fail
    refine (knows2_any W1).mono ?_
    rintro e Wk ⟨rfl, hbk⟩
    have hB := Lib.hid (hst1.next hbk).below
    clear hst1 hbk
    go_wp2_with fail
    go_ret
    exact ⟨rfl, hB.out⟩
  | true =>
    obtain ⟨hsa, hsb⟩ := some_two hs
    clear hs
    obtain ⟨a0, a1, a2, a3, b0, b1, b2, b3, _⟩ := hst1.cells
    go_wp2_with fail
    cases har : a.right with
    | false =>
      refine (rright_false har _ _ hst1.ia hsa).mono ?_
      rintro e W2 ⟨rfl, hb2⟩
      have hst2 := hst1.next hb2
      clear hst1 hb2 a0 a1 a2 a3 b0 b1 b2 b3 har
      go_wp2_with fail
      refine (knows2_any W2).mono ?_
      rintro e Wk ⟨rfl, hbk⟩
      have hB := Lib.hid (hst2.next hbk).below
      clear hst2 hbk
      go_wp2_with fail
      go_ret
      exact ⟨rfl, hB.out⟩
    | true =>
      refine (rright_true har _ _ hst1.ia hsa).mono ?_
      rintro e W2 ⟨rfl, hb2⟩
      have hst2 := hst1.next hb2
      clear hst1 hb2 a0 a1 a2 a3 b0 b1 b2 b3
      obtain ⟨a0, a1, a2, a3, b0, b1, b2, b3, _⟩ := hst2.cells
      go_wp2_with fail
      cases hbr : b.right with
      | false =>
        refine (rright_false hbr _ _ hst2.ib hsb).mono ?_
        rintro e W3 ⟨rfl, hb3⟩
        have hst3 := hst2.next hb3
        clear hst2 hb3 a0 a1 a2 a3 b0 b1 b2 b3 hbr
        go_wp2_with fail
        refine (knows2_any W3).mono ?_
        rintro e Wk ⟨rfl, hbk⟩
        have hB := Lib.hid (hst3.next hbk).below
        clear hst3 hbk
        go_wp2_with fail
        go_ret
        exact ⟨rfl, hB.out⟩
      | true =>
        refine (rright_true hbr _ _ hst2.ib hsb).mono ?_
        rintro e W3 ⟨rfl, hb3⟩
        have hst3 := hst2.next hb3
        clear hst2 hb3 a0 a1 a2 a3 b0 b1 b2 b3
        obtain ⟨a0, a1, a2, a3, b0, b1, b2, b3, _⟩ := hst3.cells
        have hsz3 := hst3.size
        go_wp2_with fail
        have hst4 := hst3.next ((Below.refl _ _).alloc (Nat.le_refl _) (Obj.cells #[.int .i64 a.kind, .string a.name, .int .i64 a.n, .slice ga a.args.length ca] 24 (0, 0)))
        have hsl4 := one_slice (b := W3.heap.size) (W := World.alloc _ _) (newBlk _ (Obj.cells #[.int .i64 a.kind, .string a.name, .int .i64 a.n, .slice ga a.args.length ca] 24 (0, 0)) _ rfl) hst4.ia
        clear hst3 a0 a1 a2 a3 b0 b1 b2 b3 hsz3
        revert hst4 hsl4
        generalize (W3.alloc (Obj.cells #[.int .i64 a.kind, .string a.name, .int .i64 a.n, .slice ga a.args.length ca] 24 (0, 0))) = W4
        intro hst4 hsl4
        refine (number_one a har W4 _ hsl4 hsa).mono ?_
        rintro e W5 ⟨b1, o1, c1, sv1, ⟨rfl, hx⟩, hb5⟩
        have hst5 := hst4.next hb5
        have hsz5 := hst5.size
        clear hst4 hsl4 hb5
        obtain ⟨a0, a1, a2, a3, d0, d1, d2, d3, _⟩ := hst5.cells
        go_wp2_with fail
        have hst6 := hst5.next ((Below.refl _ _).alloc (Nat.le_refl _) (Obj.cells #[.int .i64 b.kind, .string b.name, .int .i64 b.n, .slice gb b.args.length cb] 24 (0, 0)))
        have hx6 := hx.next ((Below.refl _ _).alloc (Nat.le_refl _) (Obj.cells #[.int .i64 b.kind, .string b.name, .int .i64 b.n, .slice gb b.args.length cb] 24 (0, 0)))
        have hsl6 := one_slice (b := W5.heap.size) (W := World.alloc _ _) (newBlk _ (Obj.cells #[.int .i64 b.kind, .string b.name, .int .i64 b.n, .slice gb b.args.length cb] 24 (0, 0)) _ rfl) hst6.ib
        clear hst5 hx a0 a1 a2 a3 d0 d1 d2 d3 hsz5
        revert hst6 hx6 hsl6
        generalize (W5.alloc (Obj.cells #[.int .i64 b.kind, .string b.name, .int .i64 b.n, .slice gb b.args.length cb] 24 (0, 0))) = W6
        intro hst6 hx6 hsl6
        refine (number_one b hbr W6 _ hsl6 hsb).mono ?_
        rintro e W7 ⟨b2, o2, c2, sv2, ⟨rfl, hy⟩, hb7⟩
        have hst7 := hst6.next hb7
        have hx7 := hx6.next hb7
        have hsz7 := hst7.size
        clear hst6 hx6 hsl6 hb7
        obtain ⟨a0, a1, a2, a3, d0, d1, d2, d3, _⟩ := hst7.cells
        go_wp2_with fail
        refine (shift_all a by' W7 _ hst7.ia hsa).mono ?_
        rintro e W8 ⟨⟨gs, cs, rfl, hs⟩, hb8⟩
        have hst8 := hst7.next hb8
        have hx8 := hx7.next hb8
        have hy8 := hy.next hb8
        have hss := shift_size har by'
        have herr := shiftErr_two har by'
        have hsh := fun h0 => isVar_shift har (b := by') h0
        have hV8 : VSt w a b (.slice ga a.args.length ca) (.slice gb b.args.length cb) b1 o1 b2 o2 sv1 sv2 W8 := ⟨hx8, hy8, hst8⟩
        obtain ⟨s, hs0⟩ : ∃ s, shiftTm a by' = s := ⟨_, rfl⟩
        obtain ⟨er, her0⟩ : ∃ er, shiftErr a by' = er := ⟨_, rfl⟩
        rw [hs0] at hs hss hsh ⊢
        rw [her0] at herr hsh ⊢
        have HSH := Lib.hid hsh
        have hss2 : s.size ≤ 1000000 := by omega
        clear hst7 hx7 hy hb8 a0 a1 a2 a3 d0 d1 d2 d3 hsz7 hst8 hx8 hy8 hs0 her0 hsh hss
        go_wp2_with fail
        have hX9 : XSt w a b s (.slice ga a.args.length ca) (.slice gb b.args.length cb) (.slice gs s.args.length cs) b1 o1 b2 o2 W8.heap.size sv1 sv2 (W8.alloc (Obj.cells #[.int .i64 s.kind, .string s.name, .int .i64 s.n, .slice gs s.args.length cs] 24 (0, 0))) :=
          ⟨hV8.next ((Below.refl _ _).alloc (Nat.le_refl _) _), TmBox.new hs⟩
        clear hV8 hs
        revert hX9
        generalize (W8.alloc (Obj.cells #[.int .i64 s.kind, .string s.name, .int .i64 s.n, .slice gs s.args.length cs] 24 (0, 0))) = W9
        generalize W8.heap.size = Bs
        intro hX9
        obtain ⟨v, hv⟩ : ∃ v, (numT a).same (numT b) = v := ⟨_, rfl⟩
        have hab : isVar a b = v := (isVar_right har hbr).trans hv
        have hba : isVar b a = v := (isVar_right hbr har).trans ((same_comm _ _).trans hv)
        have HAB := Lib.hid (fun W ha hb => hab ▸ cvariant_any a b W (.slice ga a.args.length ca) (.slice gb b.args.length cb) ha hb hsa hsb)
        have HBA := Lib.hid (fun W hb ha => hba ▸ cvariant_any b a W (.slice gb b.args.length cb) (.slice ga a.args.length ca) hb ha hsb hsa)
        have HAA := Lib.hid (fun W ha => isVar_self har ▸ cvariant_any a a W (.slice ga a.args.length ca) (.slice ga a.args.length ca) ha ha hsa hsa)
        have HSA := Lib.hid (fun W hx hy => hv ▸ tsame_ab (numT a) (numT b) W sv1 sv2 hx hy)
        rcases herr with rfl | rfl
        · have HAS := Lib.hid (fun W ha hs => HSH.out rfl ▸ cvariant_any a s W (.slice ga a.args.length ca) (.slice gs s.args.length cs) ha hs hsa hss2)
          clear hv hab hba har hbr HSH
          go_region_held3 (fun W' => W'.cell? ⟨w.heap.size, 0, none⟩ = some (.int .i64 a.kind) ∧ W'.cell? ⟨w.heap.size, 1, none⟩ = some (.string a.name) ∧ W'.cell? ⟨w.heap.size, 2, none⟩ = some (.int .i64 a.n) ∧ W'.cell? ⟨w.heap.size, 3, none⟩ = some (.slice ga a.args.length ca) ∧
            W'.cell? ⟨w.heap.size + 1, 0, none⟩ = some (.int .i64 b.kind) ∧ W'.cell? ⟨w.heap.size + 1, 1, none⟩ = some (.string b.name) ∧ W'.cell? ⟨w.heap.size + 1, 2, none⟩ = some (.int .i64 b.n) ∧ W'.cell? ⟨w.heap.size + 1, 3, none⟩ = some (.slice gb b.args.length cb) ∧
            W'.cell? ⟨b1, o1, none⟩ = some (.int .i64 (numT a).kind) ∧ W'.cell? ⟨b1, o1 + 1, none⟩ = some (.string (numT a).name) ∧ W'.cell? ⟨b1, o1 + 2, none⟩ = some (.int .i64 (numT a).n) ∧ W'.cell? ⟨b1, o1 + 3, none⟩ = some sv1 ∧
            W'.cell? ⟨b2, o2, none⟩ = some (.int .i64 (numT b).kind) ∧ W'.cell? ⟨b2, o2 + 1, none⟩ = some (.string (numT b).name) ∧ W'.cell? ⟨b2, o2 + 2, none⟩ = some (.int .i64 (numT b).n) ∧ W'.cell? ⟨b2, o2 + 3, none⟩ = some sv2 ∧
            W'.cell? ⟨Bs, 0, none⟩ = some (.int .i64 s.kind) ∧ W'.cell? ⟨Bs, 1, none⟩ = some (.string s.name) ∧ W'.cell? ⟨Bs, 2, none⟩ = some (.int .i64 s.n) ∧ W'.cell? ⟨Bs, 3, none⟩ = some (.slice gs s.args.length cs) ∧
            XSt w a b s (.slice ga a.args.length ca) (.slice gb b.args.length cb) (.slice gs s.args.length cs) b1 o1 b2 o2 Bs sv1 sv2 W')
            (first | assumption | exact (hX9.next ((Below.refl _ _).drew)).cells | exact XSt.step (by assumption) (by assumption))
            (first
            | (go_at_call 14; ((with_reducible refine (HAB.out _ (XSt.a' (last21 (by assumption))) (XSt.b' (last21 (by assumption)))).mono ?_); rintro e w' ⟨rfl, hb⟩))
            | (go_at_call 14; ((with_reducible refine (HBA.out _ (XSt.b' (last21 (by assumption))) (XSt.a' (last21 (by assumption)))).mono ?_); rintro e w' ⟨rfl, hb⟩))
            | (go_at_call 14; ((with_reducible refine (HAA.out _ (XSt.a' (last21 (by assumption)))).mono ?_); rintro e w' ⟨rfl, hb⟩))
            | (go_at_call 14; ((with_reducible refine (HAS.out _ (XSt.a' (last21 (by assumption))) (XSt.s' (last21 (by assumption)))).mono ?_); rintro e w' ⟨rfl, hb⟩))
            | (go_at_call 21; ((with_reducible refine (HSA.out _ (XSt.x' (last21 (by assumption))) (XSt.y' (last21 (by assumption)))).mono ?_); rintro e w' ⟨rfl, hb⟩))
            | (go_at_call 12; ((with_reducible refine (knows2_any _).mono ?_); rintro e w' ⟨rfl, hb⟩)))
          go_wp2_with fail
          go_ret
          rename_i hst
          exact ⟨rfl, (last21 hst).hv.hst.below⟩
        · clear hv hab hba har hbr HSH
          refine wp_region_held_drew (S := (fun W' => W'.cell? ⟨w.heap.size, 0, none⟩ = some (.int .i64 a.kind) ∧ W'.cell? ⟨w.heap.size, 1, none⟩ = some (.string a.name) ∧ W'.cell? ⟨w.heap.size, 2, none⟩ = some (.int .i64 a.n) ∧ W'.cell? ⟨w.heap.size, 3, none⟩ = some (.slice ga a.args.length ca) ∧
            W'.cell? ⟨w.heap.size + 1, 0, none⟩ = some (.int .i64 b.kind) ∧ W'.cell? ⟨w.heap.size + 1, 1, none⟩ = some (.string b.name) ∧ W'.cell? ⟨w.heap.size + 1, 2, none⟩ = some (.int .i64 b.n) ∧ W'.cell? ⟨w.heap.size + 1, 3, none⟩ = some (.slice gb b.args.length cb) ∧
            W'.cell? ⟨b1, o1, none⟩ = some (.int .i64 (numT a).kind) ∧ W'.cell? ⟨b1, o1 + 1, none⟩ = some (.string (numT a).name) ∧ W'.cell? ⟨b1, o1 + 2, none⟩ = some (.int .i64 (numT a).n) ∧ W'.cell? ⟨b1, o1 + 3, none⟩ = some sv1 ∧
            W'.cell? ⟨b2, o2, none⟩ = some (.int .i64 (numT b).kind) ∧ W'.cell? ⟨b2, o2 + 1, none⟩ = some (.string (numT b).name) ∧ W'.cell? ⟨b2, o2 + 2, none⟩ = some (.int .i64 (numT b).n) ∧ W'.cell? ⟨b2, o2 + 3, none⟩ = some sv2 ∧
            W'.cell? ⟨Bs, 0, none⟩ = some (.int .i64 s.kind) ∧ W'.cell? ⟨Bs, 1, none⟩ = some (.string s.name) ∧ W'.cell? ⟨Bs, 2, none⟩ = some (.int .i64 s.n) ∧ W'.cell? ⟨Bs, 3, none⟩ = some (.slice gs s.args.length cs) ∧
            XSt w a b s (.slice ga a.args.length ca) (.slice gb b.args.length cb) (.slice gs s.args.length cs) b1 o1 b2 o2 Bs sv1 sv2 W')) (by kernel_rfl) ((hX9.next ((Below.refl _ _).drew)).cells) (fun hHeld => ?_)
          refine wpAnyH_take (i := 0) (oi := _) (v := ?_) rfl (by kernel_rfl) (by kernel_rfl) (by kernel_rfl) (fun _ _ _ h => h) (Or.inl ⟨by rfl, ?_⟩) hHeld ?_
          rotate_left
          · (intro w hSw; (try dsimp only at hSw); go_simp; try with_reducible rfl)
          try simp only [Act.put, List.setIfInBounds_toArray, List.set_cons_zero, List.set_cons_succ, List.getElem_toArray, List.getElem_cons_zero, List.getElem_cons_succ]
          refine wpAnyH_take (i := 1) (oi := _) (v := ?_) rfl (by kernel_rfl) (by kernel_rfl) (by kernel_rfl) (fun _ _ _ h => h) (Or.inl ⟨by rfl, ?_⟩) hHeld ?_
          rotate_left
          · (intro w hSw; (try dsimp only at hSw); go_simp; try with_reducible rfl)
          try simp only [Act.put, List.setIfInBounds_toArray, List.set_cons_zero, List.set_cons_succ, List.getElem_toArray, List.getElem_cons_zero, List.getElem_cons_succ]
          refine wpAnyH_take (i := 3) (oi := _) (v := ?_) rfl (by kernel_rfl) (by kernel_rfl) (by kernel_rfl) (fun _ _ _ h => h) (Or.inl ⟨by rfl, ?_⟩) hHeld ?_
          rotate_left
          · (intro w hSw; (try dsimp only at hSw); go_simp; try with_reducible rfl)
          try simp only [Act.put, List.setIfInBounds_toArray, List.set_cons_zero, List.set_cons_succ, List.getElem_toArray, List.getElem_cons_zero, List.getElem_cons_succ]
          refine wpAnyH_take (i := 4) (oi := _) (v := ?_) rfl (by kernel_rfl) (by kernel_rfl) (by kernel_rfl) (fun _ _ _ h => h) (Or.inl ⟨by rfl, ?_⟩) hHeld ?_
          rotate_left
          · (intro w hSw; (try dsimp only at hSw); go_simp; try with_reducible rfl)
          try simp only [Act.put, List.setIfInBounds_toArray, List.set_cons_zero, List.set_cons_succ, List.getElem_toArray, List.getElem_cons_zero, List.getElem_cons_succ]
          refine wpAnyH_take (i := 5) (oi := _) (v := ?_) rfl (by kernel_rfl) (by kernel_rfl) (by kernel_rfl) (fun _ _ _ h => h) (Or.inl ⟨by rfl, ?_⟩) hHeld ?_
          rotate_left
          · (intro w hSw; (try dsimp only at hSw); go_simp; try with_reducible rfl)
          try simp only [Act.put, List.setIfInBounds_toArray, List.set_cons_zero, List.set_cons_succ, List.getElem_toArray, List.getElem_cons_zero, List.getElem_cons_succ]
          refine wpAnyH_take (i := 6) (oi := _) (v := ?_) rfl (by kernel_rfl) (by kernel_rfl) (by kernel_rfl) (fun _ _ _ h => h) (Or.inl ⟨by rfl, ?_⟩) hHeld ?_
          rotate_left
          · (intro w hSw; (try dsimp only at hSw); go_simp; try with_reducible rfl)
          try simp only [Act.put, List.setIfInBounds_toArray, List.set_cons_zero, List.set_cons_succ, List.getElem_toArray, List.getElem_cons_zero, List.getElem_cons_succ]
          refine wpAnyH_take (i := 7) (oi := _) (v := ?_) rfl (by kernel_rfl) (by kernel_rfl) (by kernel_rfl) (fun _ _ _ h => h) (Or.inl ⟨by rfl, ?_⟩) hHeld ?_
          rotate_left
          · (intro w hSw; (try dsimp only at hSw); go_simp; try with_reducible rfl)
          try simp only [Act.put, List.setIfInBounds_toArray, List.set_cons_zero, List.set_cons_succ, List.getElem_toArray, List.getElem_cons_zero, List.getElem_cons_succ]
          refine wpAnyH_take (i := 8) (oi := _) (v := ?_) rfl (by kernel_rfl) (by kernel_rfl) (by kernel_rfl) (fun _ _ _ h => h) (Or.inl ⟨by rfl, ?_⟩) hHeld ?_
          rotate_left
          · (intro w hSw; (try dsimp only at hSw); go_simp; try with_reducible rfl)
          try simp only [Act.put, List.setIfInBounds_toArray, List.set_cons_zero, List.set_cons_succ, List.getElem_toArray, List.getElem_cons_zero, List.getElem_cons_succ]
          refine wpAnyH_ready (rs := [2]) (by kernel_rfl) (by simp) ?_
          refine AllReadyH.cons (o := _) rfl (fun K hK => ?_) AllReadyH.nil
          go_simp
          refine (HAB.out _ (XSt.a' (last21 hHeld)) (XSt.b' (last21 hHeld))).mono ?_
          rintro e w' ⟨rfl, hb⟩
          go_wp2_with fail
          refine hK.out _ _ (XSt.step hb hHeld) (fun hHeld => ?_)
          clear hK K hb
          try simp only [Act.put, List.setIfInBounds_toArray, List.set_cons_zero, List.set_cons_succ, List.getElem_toArray, List.getElem_cons_zero, List.getElem_cons_succ]
          refine wpAnyH_ready (rs := [9]) (by kernel_rfl) (by simp) ?_
          refine AllReadyH.cons (o := _) rfl (fun K hK => ?_) AllReadyH.nil
          go_simp
          refine (HSA.out _ (XSt.x' (last21 hHeld)) (XSt.y' (last21 hHeld))).mono ?_
          rintro e w' ⟨rfl, hb⟩
          go_wp2_with fail
          refine hK.out _ _ (XSt.step hb hHeld) (fun hHeld => ?_)
          clear hK K hb
          try simp only [Act.put, List.setIfInBounds_toArray, List.set_cons_zero, List.set_cons_succ, List.getElem_toArray, List.getElem_cons_zero, List.getElem_cons_succ]
          refine wpAnyH_take (i := 10) (oi := _) (v := ?_) rfl (by kernel_rfl) (by kernel_rfl) (by kernel_rfl) (fun _ _ _ h => h) (Or.inl ⟨by rfl, ?_⟩) hHeld ?_
          rotate_left
          · (intro w hSw; (try dsimp only at hSw); go_simp; try with_reducible rfl)
          try simp only [Act.put, List.setIfInBounds_toArray, List.set_cons_zero, List.set_cons_succ, List.getElem_toArray, List.getElem_cons_zero, List.getElem_cons_succ]
          refine wpAnyH_take (i := 11) (oi := _) (v := ?_) rfl (by kernel_rfl) (by kernel_rfl) (by kernel_rfl) (fun _ _ _ h => h) (Or.inl ⟨by rfl, ?_⟩) hHeld ?_
          rotate_left
          · (intro w hSw; (try dsimp only at hSw); go_simp; try with_reducible rfl)
          try simp only [Act.put, List.setIfInBounds_toArray, List.set_cons_zero, List.set_cons_succ, List.getElem_toArray, List.getElem_cons_zero, List.getElem_cons_succ]
          refine wpAnyH_take (i := 12) (oi := _) (v := ?_) rfl (by kernel_rfl) (by kernel_rfl) (by kernel_rfl) (fun _ _ _ h => h) (Or.inl ⟨by rfl, ?_⟩) hHeld ?_
          rotate_left
          · (intro w hSw; (try dsimp only at hSw); go_simp; try with_reducible rfl)
          try simp only [Act.put, List.setIfInBounds_toArray, List.set_cons_zero, List.set_cons_succ, List.getElem_toArray, List.getElem_cons_zero, List.getElem_cons_succ]
          refine wpAnyH_take (i := 13) (oi := _) (v := ?_) rfl (by kernel_rfl) (by kernel_rfl) (by kernel_rfl) (fun _ _ _ h => h) (Or.inl ⟨by rfl, ?_⟩) hHeld ?_
          rotate_left
          · (intro w hSw; (try dsimp only at hSw); go_simp; try with_reducible rfl)
          try simp only [Act.put, List.setIfInBounds_toArray, List.set_cons_zero, List.set_cons_succ, List.getElem_toArray, List.getElem_cons_zero, List.getElem_cons_succ]
          refine wpAnyH_take (i := 14) (oi := _) (v := ?_) rfl (by kernel_rfl) (by kernel_rfl) (by kernel_rfl) (fun _ _ _ h => h) (Or.inl ⟨by rfl, ?_⟩) hHeld ?_
          rotate_left
          · (intro w hSw; (try dsimp only at hSw); go_simp; try with_reducible rfl)
          try simp only [Act.put, List.setIfInBounds_toArray, List.set_cons_zero, List.set_cons_succ, List.getElem_toArray, List.getElem_cons_zero, List.getElem_cons_succ]
          refine wpAnyH_take (i := 15) (oi := _) (v := undef) rfl (by kernel_rfl) (by kernel_rfl) (by kernel_rfl) (fun _ _ _ h => h) (Or.inr ⟨by rfl, rfl⟩) hHeld ?_
          try simp only [Act.put, List.setIfInBounds_toArray, List.set_cons_zero, List.set_cons_succ, List.getElem_toArray, List.getElem_cons_zero, List.getElem_cons_succ]
          refine wpAnyH_take (i := 16) (oi := _) (v := undef) rfl (by kernel_rfl) (by kernel_rfl) (by kernel_rfl) (fun _ _ _ h => h) (Or.inr ⟨by rfl, rfl⟩) hHeld ?_
          try simp only [Act.put, List.setIfInBounds_toArray, List.set_cons_zero, List.set_cons_succ, List.getElem_toArray, List.getElem_cons_zero, List.getElem_cons_succ]
          refine wpAnyH_ready (rs := [17]) (by kernel_rfl) (by simp) ?_
          refine AllReadyH.cons (o := _) rfl (fun K hK => ?_) AllReadyH.nil
          go_simp
          refine hK.out _ _ hHeld (fun hHeld => ?_)
          clear hK K
          try simp only [Act.put, List.setIfInBounds_toArray, List.set_cons_zero, List.set_cons_succ, List.getElem_toArray, List.getElem_cons_zero, List.getElem_cons_succ]
          refine wpAnyH_take (i := 18) (oi := _) (v := ?_) rfl (by kernel_rfl) (by kernel_rfl) (by kernel_rfl) (fun _ _ _ h => h) (Or.inl ⟨by rfl, ?_⟩) hHeld ?_
          rotate_left
          · (intro w hSw; (try dsimp only at hSw); go_simp; try with_reducible rfl)
          try simp only [Act.put, List.setIfInBounds_toArray, List.set_cons_zero, List.set_cons_succ, List.getElem_toArray, List.getElem_cons_zero, List.getElem_cons_succ]
          refine wpAnyH_take (i := 19) (oi := _) (v := ?_) rfl (by kernel_rfl) (by kernel_rfl) (by kernel_rfl) (fun _ _ _ h => h) (Or.inl ⟨by rfl, ?_⟩) hHeld ?_
          rotate_left
          · (intro w hSw; (try dsimp only at hSw); go_simp; try with_reducible rfl)
          try simp only [Act.put, List.setIfInBounds_toArray, List.set_cons_zero, List.set_cons_succ, List.getElem_toArray, List.getElem_cons_zero, List.getElem_cons_succ]
          refine wpAnyH_take (i := 20) (oi := _) (v := ?_) rfl (by kernel_rfl) (by kernel_rfl) (by kernel_rfl) (fun _ _ _ h => h) (Or.inl ⟨by rfl, ?_⟩) hHeld ?_
          rotate_left
          · (intro w hSw; (try dsimp only at hSw); go_simp; try with_reducible rfl)
          try simp only [Act.put, List.setIfInBounds_toArray, List.set_cons_zero, List.set_cons_succ, List.getElem_toArray, List.getElem_cons_zero, List.getElem_cons_succ]
          refine wpAnyH_take (i := 21) (oi := _) (v := ?_) rfl (by kernel_rfl) (by kernel_rfl) (by kernel_rfl) (fun _ _ _ h => h) (Or.inl ⟨by rfl, ?_⟩) hHeld ?_
          rotate_left
          · (intro w hSw; (try dsimp only at hSw); go_simp; try with_reducible rfl)
          try simp only [Act.put, List.setIfInBounds_toArray, List.set_cons_zero, List.set_cons_succ, List.getElem_toArray, List.getElem_cons_zero, List.getElem_cons_succ]
          refine wpAnyH_take (i := 22) (oi := _) (v := ?_) rfl (by kernel_rfl) (by kernel_rfl) (by kernel_rfl) (fun _ _ _ h => h) (Or.inl ⟨by rfl, ?_⟩) hHeld ?_
          rotate_left
          · (intro w hSw; (try dsimp only at hSw); go_simp; try with_reducible rfl)
          try simp only [Act.put, List.setIfInBounds_toArray, List.set_cons_zero, List.set_cons_succ, List.getElem_toArray, List.getElem_cons_zero, List.getElem_cons_succ]
          refine wpAnyH_ready (rs := [23]) (by kernel_rfl) (by simp) ?_
          refine AllReadyH.cons (o := _) rfl (fun K hK => ?_) AllReadyH.nil
          go_simp
          refine (HAA.out _ (XSt.a' (last21 hHeld))).mono ?_
          rintro e w' ⟨rfl, hb⟩
          go_wp2_with fail
          refine hK.out _ _ (XSt.step hb hHeld) (fun hHeld => ?_)
          clear hK K hb
          try simp only [Act.put, List.setIfInBounds_toArray, List.set_cons_zero, List.set_cons_succ, List.getElem_toArray, List.getElem_cons_zero, List.getElem_cons_succ]
          refine wpAnyH_take (i := 24) (oi := _) (v := ?_) rfl (by kernel_rfl) (by kernel_rfl) (by kernel_rfl) (fun _ _ _ h => h) (Or.inl ⟨by rfl, ?_⟩) hHeld ?_
          rotate_left
          · (intro w hSw; (try dsimp only at hSw); go_simp; try with_reducible rfl)
          try simp only [Act.put, List.setIfInBounds_toArray, List.set_cons_zero, List.set_cons_succ, List.getElem_toArray, List.getElem_cons_zero, List.getElem_cons_succ]
          refine wpAnyH_take (i := 25) (oi := _) (v := ?_) rfl (by kernel_rfl) (by kernel_rfl) (by kernel_rfl) (fun _ _ _ h => h) (Or.inl ⟨by rfl, ?_⟩) hHeld ?_
          rotate_left
          · (intro w hSw; (try dsimp only at hSw); go_simp; try with_reducible rfl)
          try simp only [Act.put, List.setIfInBounds_toArray, List.set_cons_zero, List.set_cons_succ, List.getElem_toArray, List.getElem_cons_zero, List.getElem_cons_succ]
          refine wpAnyH_take (i := 26) (oi := _) (v := ?_) rfl (by kernel_rfl) (by kernel_rfl) (by kernel_rfl) (fun _ _ _ h => h) (Or.inl ⟨by rfl, ?_⟩) hHeld ?_
          rotate_left
          · (intro w hSw; (try dsimp only at hSw); go_simp; try with_reducible rfl)
          try simp only [Act.put, List.setIfInBounds_toArray, List.set_cons_zero, List.set_cons_succ, List.getElem_toArray, List.getElem_cons_zero, List.getElem_cons_succ]
          refine wpAnyH_take (i := 27) (oi := _) (v := ?_) rfl (by kernel_rfl) (by kernel_rfl) (by kernel_rfl) (fun _ _ _ h => h) (Or.inl ⟨by rfl, ?_⟩) hHeld ?_
          rotate_left
          · (intro w hSw; (try dsimp only at hSw); go_simp; try with_reducible rfl)
          try simp only [Act.put, List.setIfInBounds_toArray, List.set_cons_zero, List.set_cons_succ, List.getElem_toArray, List.getElem_cons_zero, List.getElem_cons_succ]
          refine wpAnyH_take (i := 29) (oi := _) (v := ?_) rfl (by kernel_rfl) (by kernel_rfl) (by kernel_rfl) (fun _ _ _ h => h) (Or.inl ⟨by rfl, ?_⟩) hHeld ?_
          rotate_left
          · (intro w hSw; (try dsimp only at hSw); go_simp; try with_reducible rfl)
          try simp only [Act.put, List.setIfInBounds_toArray, List.set_cons_zero, List.set_cons_succ, List.getElem_toArray, List.getElem_cons_zero, List.getElem_cons_succ]
          refine wpAnyH_take (i := 30) (oi := _) (v := ?_) rfl (by kernel_rfl) (by kernel_rfl) (by kernel_rfl) (fun _ _ _ h => h) (Or.inl ⟨by rfl, ?_⟩) hHeld ?_
          rotate_left
          · (intro w hSw; (try dsimp only at hSw); go_simp; try with_reducible rfl)
          try simp only [Act.put, List.setIfInBounds_toArray, List.set_cons_zero, List.set_cons_succ, List.getElem_toArray, List.getElem_cons_zero, List.getElem_cons_succ]
          refine wpAnyH_ready (rs := [28]) (by kernel_rfl) (by simp) ?_
          refine AllReadyH.cons (o := _) rfl (fun K hK => ?_) AllReadyH.nil
          go_simp
          refine (HAB.out _ (XSt.a' (last21 hHeld)) (XSt.b' (last21 hHeld))).mono ?_
          rintro e w' ⟨rfl, hb⟩
          go_wp2_with fail
          refine hK.out _ _ (XSt.step hb hHeld) (fun hHeld => ?_)
          clear hK K hb
          try simp only [Act.put, List.setIfInBounds_toArray, List.set_cons_zero, List.set_cons_succ, List.getElem_toArray, List.getElem_cons_zero, List.getElem_cons_succ]
          refine wpAnyH_ready (rs := [31]) (by kernel_rfl) (by simp) ?_
          refine AllReadyH.cons (o := _) rfl (fun K hK => ?_) AllReadyH.nil
          go_simp
          refine (HBA.out _ (XSt.b' (last21 hHeld)) (XSt.a' (last21 hHeld))).mono ?_
          rintro e w' ⟨rfl, hb⟩
          go_wp2_with fail
          refine hK.out _ _ (XSt.step hb hHeld) (fun hHeld => ?_)
          clear hK K hb
          try simp only [Act.put, List.setIfInBounds_toArray, List.set_cons_zero, List.set_cons_succ, List.getElem_toArray, List.getElem_cons_zero, List.getElem_cons_succ]
          refine wpAnyH_take (i := 32) (oi := _) (v := ?_) rfl (by kernel_rfl) (by kernel_rfl) (by kernel_rfl) (fun _ _ _ h => h) (Or.inl ⟨by rfl, ?_⟩) hHeld ?_
          rotate_left
          · (intro w hSw; (try dsimp only at hSw); go_simp; try with_reducible rfl)
          try simp only [Act.put, List.setIfInBounds_toArray, List.set_cons_zero, List.set_cons_succ, List.getElem_toArray, List.getElem_cons_zero, List.getElem_cons_succ]
          refine wpAnyH_take (i := 33) (oi := _) (v := ?_) rfl (by kernel_rfl) (by kernel_rfl) (by kernel_rfl) (fun _ _ _ h => h) (Or.inl ⟨by rfl, ?_⟩) hHeld ?_
          rotate_left
          · (intro w hSw; (try dsimp only at hSw); go_simp; try with_reducible rfl)
          try simp only [Act.put, List.setIfInBounds_toArray, List.set_cons_zero, List.set_cons_succ, List.getElem_toArray, List.getElem_cons_zero, List.getElem_cons_succ]
          refine wpAnyH_take (i := 34) (oi := _) (v := ?_) rfl (by kernel_rfl) (by kernel_rfl) (by kernel_rfl) (fun _ _ _ h => h) (Or.inl ⟨by rfl, ?_⟩) hHeld ?_
          rotate_left
          · (intro w hSw; (try dsimp only at hSw); go_simp; try with_reducible rfl)
          try simp only [Act.put, List.setIfInBounds_toArray, List.set_cons_zero, List.set_cons_succ, List.getElem_toArray, List.getElem_cons_zero, List.getElem_cons_succ]
          refine wpAnyH_ready (rs := [35]) (by kernel_rfl) (by simp) ?_
          refine AllReadyH.cons (o := _) rfl (fun K hK => ?_) AllReadyH.nil
          go_simp
          refine (knows2_any _).mono ?_
          rintro e w' ⟨rfl, hb⟩
          go_wp2_with fail
          refine hK.out _ _ (XSt.step hb hHeld) (fun hHeld => ?_)
          clear hK K hb
          try simp only [Act.put, List.setIfInBounds_toArray, List.set_cons_zero, List.set_cons_succ, List.getElem_toArray, List.getElem_cons_zero, List.getElem_cons_succ]
          refine wpAnyH_take (i := 36) (oi := _) (v := ?_) rfl (by kernel_rfl) (by kernel_rfl) (by kernel_rfl) (fun _ _ _ h => h) (Or.inl ⟨by rfl, ?_⟩) hHeld ?_
          rotate_left
          · (intro w hSw; (try dsimp only at hSw); go_simp; try with_reducible rfl)
          try simp only [Act.put, List.setIfInBounds_toArray, List.set_cons_zero, List.set_cons_succ, List.getElem_toArray, List.getElem_cons_zero, List.getElem_cons_succ]
          refine wpAnyH_take (i := 37) (oi := _) (v := ?_) rfl (by kernel_rfl) (by kernel_rfl) (by kernel_rfl) (fun _ _ _ h => h) (Or.inl ⟨by rfl, ?_⟩) hHeld ?_
          rotate_left
          · (intro w hSw; (try dsimp only at hSw); go_simp; try with_reducible rfl)
          try simp only [Act.put, List.setIfInBounds_toArray, List.set_cons_zero, List.set_cons_succ, List.getElem_toArray, List.getElem_cons_zero, List.getElem_cons_succ]
          refine wpAnyH_done (by kernel_rfl) ?_ _
          go_wp2_with fail
          go_ret
          exact ⟨rfl, (last21 hHeld).hv.hst.below⟩
end Go.Proofs.Ytpiflkgjmncijaa
