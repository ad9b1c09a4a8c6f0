/-
  The statement MsgLeast, walked: for any three terms that lie in memory the call returns true, and nothing that was there has turned.
-/
import Derived.Test.YtjbicfimoiiglaaMOf
import Derived.Test.YtjbicfimoiiglaaMKn
import Derived.Test.YtjbicfimoiiglaaFound
import Derived.Test.YtjbicfimoiiglaaThree
namespace Go.Proofs.Ytjbicfimoiiglaa
open Go.RowKit Go.Shelf Go.Maps

/-- Three boxes, and a fourth one with a term. -/
structure T4 (w : World) (a b c : Tm) (sva svb svc : Value) (tb : Nat) (X : Tm) (sx : Value) (W : World) : Prop where
  ts : OSt w a b c sva svb svc W
  tx : TmBox W tb X sx
theorem T4.next {w : World} {a b c : Tm} {sva svb svc : Value} {tb : Nat} {X : Tm} {sx : Value} {W W' : World} (h : T4 w a b c sva svb svc tb X sx W) (hb : Below W.heap.size W W') : T4 w a b c sva svb svc tb X sx W' := ⟨h.ts.next hb, h.tx.next hb⟩
theorem least_true {a b c : Tm} {q1 q2 q3 : Bool} (h1 : (c.right && a.right && inst a c) = q1) (h2 : (c.right && b.right && inst b c) = q2) (h3 : (c.right && (msgT a b).right && inst (msgT a b) c) = q3) (hr : (msgT a b).right = true) (e1 : q1 = true) (e2 : q2 = true) : q3 = true := by
  subst h1 h2 h3
  simp only [Bool.and_eq_true] at e1 e2 ⊢
  exact ⟨⟨e1.1.1, hr⟩, msg_least e1.2 e2.2⟩

set_option maxRecDepth 100000 in
set_option maxHeartbeats 8000000 in
theorem gleast_any (a b c : Tm) (w : World) (sva svb svc : Value) (hia : Tm.inn w w.heap.size a sva) (hib : Tm.inn w w.heap.size b svb) (hic : Tm.inn w w.heap.size c svc) :
    Calls Try.prog 5 #[.agg #[.int .i64 a.kind, .string a.name, .int .i64 a.n, sva], .agg #[.int .i64 b.kind, .string b.name, .int .i64 b.n, svb], .agg #[.int .i64 c.kind, .string c.name, .int .i64 c.n, svc]] w fun e w' => e = .returned (.bool true) ∧ Below w.heap.size w w' := by
  have hst := OSt.start hia hib hic
  obtain ⟨ga, ca, rfl⟩ := inn_sl6 hia
  obtain ⟨gb, cb, rfl⟩ := inn_sl6 hib
  obtain ⟨gc, cc, rfl⟩ := inn_sl6 hic
  have HST := Lib.hid hst
  clear hia hib hic hst
  go_enter Try.func5, Try.ntmps5
  go_wp2_with fail
  have hst0 := HST.out.next ((Below.refl _ _).alloc (Nat.le_refl _) (Obj.cells #[.int .i64 a.kind, .string a.name, .int .i64 a.n, .slice ga a.args.length ca, .int .i64 b.kind, .string b.name, .int .i64 b.n, .slice gb b.args.length cb, .int .i64 c.kind, .string c.name, .int .i64 c.n, .slice gc c.args.length cc] 24 (0, 0)))
  have hsl := three_slice (n := w.heap.size + 1 + 1 + 1) (newBlk (World.alloc _ _) (Obj.cells #[.int .i64 a.kind, .string a.name, .int .i64 a.n, .slice ga a.args.length ca, .int .i64 b.kind, .string b.name, .int .i64 b.n, .slice gb b.args.length cb, .int .i64 c.kind, .string c.name, .int .i64 c.n, .slice gc c.args.length cc] 24 (0, 0)) _ (by simp)) hst0.ba.2 hst0.bb.2 hst0.bc.2
  have A0 := Lib.hid hst0
  clear hst0 HST
  refine (some_any [a, b, c] _ _ _ (Nat.le_refl _) hsl).mono ?_
  rintro e W1 ⟨rfl, hb1⟩
  have A1 := Lib.hid (A0.out.next hb1)
  clear A0 hsl hb1
  cases hs : Tm.someB [a, b, c] with
  | false =>
    clear hs
    go_wp2_with fail
    refine (k6_any W1).mono ?_
    rintro e U ⟨rfl, hbu⟩
    have HB := Lib.hid (A1.out.next hbu).below
    clear hbu
    go_wp2_with fail
    go_ret
    exact ⟨rfl, HB.out⟩
  | true =>
    have hsa : a.size ≤ 4000 := Tm.some_size hs (by simp)
    have hsb : b.size ≤ 4000 := Tm.some_size hs (by simp)
    have hsc : c.size ≤ 4000 := Tm.some_size hs (by simp)
    clear hs
    obtain ⟨⟨a0, a1, a2, a3⟩, _⟩ := A1.out.cells
    go_wp2_with fail
    refine (rright_any a W1 _ _ (Nat.le_refl _) A1.out.ba.2 (by omega)).mono ?_
    rintro e W2 ⟨rfl, hb2⟩
    have A2 := Lib.hid (A1.out.next hb2)
    clear hb2 A1 a0 a1 a2 a3
    cases hra : a.right with
    | false =>
      clear hra
      go_wp2_with fail
      refine (k6_any W2).mono ?_
      rintro e U ⟨rfl, hbu⟩
      have HB := Lib.hid (A2.out.next hbu).below
      clear hbu
      go_wp2_with fail
      go_ret
      exact ⟨rfl, HB.out⟩
    | true =>
      have HRA := Lib.hid hra
      clear hra
      obtain ⟨_, ⟨b0, b1, b2, b3⟩, _⟩ := A2.out.cells
      go_wp2_with fail
      refine (rright_any b W2 _ _ (Nat.le_refl _) A2.out.bb.2 (by omega)).mono ?_
      rintro e W3 ⟨rfl, hb3⟩
      have A3 := Lib.hid (A2.out.next hb3)
      clear hb3 A2 b0 b1 b2 b3
      cases hrb : b.right with
      | false =>
        clear hrb
        go_wp2_with fail
        refine (k6_any W3).mono ?_
        rintro e U ⟨rfl, hbu⟩
        have HB := Lib.hid (A3.out.next hbu).below
        clear hbu
        go_wp2_with fail
        go_ret
        exact ⟨rfl, HB.out⟩
      | true =>
        have HRB := Lib.hid hrb
        clear hrb
        obtain ⟨⟨a0, a1, a2, a3⟩, ⟨b0, b1, b2, b3⟩, _⟩ := A3.out.cells
        go_wp2_with fail
        refine (mof_any a b W3 _ _ A3.out.ba.2 A3.out.bb.2 (by omega) (by omega)).mono ?_
        rintro e W4 ⟨X, E, gx, cx, rfl, hpx, hb4, hcase⟩
        have hX : X = msgT a b ∧ E = 0 := by
          rcases hcase with ⟨_, h1, h2⟩ | ⟨h0, _⟩
          · exact ⟨h1, h2⟩
          · rw [HRA.out, HRB.out] at h0; cases h0
        obtain ⟨hXm, rfl⟩ := hX
        have hix := Tm.inn_of_P (B := W4.heap.size) (fun _ h => h.2) _ _ hpx
        have hal2 := (Below.refl W4.heap.size W4).alloc (Nat.le_refl _) (Obj.cells #[.int .i64 X.kind, .string X.name, .int .i64 X.n, .slice gx X.args.length cx] 24 (0, 0))
        have hT := T4.mk ((A3.out.next hb4).next hal2) (TmBox.new hix)
        have HT4 := Lib.hid hT
        have HXM := Lib.hid hXm
        have HXS := Lib.hid (show X.size ≤ 4000 by rw [hXm]; exact Nat.le_trans (gen_size a b).1 hsa)
        have HXR := Lib.hid (show X.right = true by rw [hXm]; exact msg_right HRA.out)
        clear a0 a1 a2 a3 b0 b1 b2 b3 hb4 hix hal2 hT hcase hpx A3 hXm
        have hz := HT4.out
        obtain ⟨⟨a0, a1, a2, a3⟩, ⟨b0, b1, b2, b3⟩, c0, c1, c2, c3⟩ := hz.ts.cells
        obtain ⟨t0, t1, t2, t3⟩ := hz.tx.cells
        clear hz
        go_wp2_with fail
        obtain ⟨tb, htb⟩ : ∃ b, W4.heap.size = b := ⟨_, rfl⟩
        obtain ⟨V0, hV0⟩ : ∃ V, W4.alloc (Obj.cells #[.int .i64 X.kind, .string X.name, .int .i64 X.n, .slice gx X.args.length cx] 24 (0, 0)) = V := ⟨_, rfl⟩
        rw [hV0, htb] at HT4
        simp only [hV0, htb]
        clear a0 a1 a2 a3 b0 b1 b2 b3 c0 c1 c2 c3 t0 t1 t2 t3 hV0 htb
        have h1 := instance_any a X V0 _ _ HT4.out.ts.ba.2 HT4.out.tx.2 (by omega) (by have := HXS.out; omega)
        rw [show (X.right && a.right && inst a X) = true by rw [HXR.out, HRA.out, HXM.out, (msg_inst a b).1]; rfl] at h1
        refine h1.mono ?_
        rintro e V1 ⟨rfl, hb1⟩
        have HT5 := Lib.hid (HT4.out.next hb1)
        clear h1 hb1 HT4
        obtain ⟨⟨a0, a1, a2, a3⟩, ⟨b0, b1, b2, b3⟩, c0, c1, c2, c3⟩ := HT5.out.ts.cells
        obtain ⟨t0, t1, t2, t3⟩ := HT5.out.tx.cells
        go_wp2_with fail
        have h1 := instance_any b X V1 _ _ HT5.out.ts.bb.2 HT5.out.tx.2 (by omega) (by have := HXS.out; omega)
        rw [show (X.right && b.right && inst b X) = true by rw [HXR.out, HRB.out, HXM.out, (msg_inst a b).2]; rfl] at h1
        refine h1.mono ?_
        rintro e V2 ⟨rfl, hb1⟩
        have HT6 := Lib.hid (HT5.out.next hb1)
        clear h1 hb1 HT5 a0 a1 a2 a3 b0 b1 b2 b3 c0 c1 c2 c3 t0 t1 t2 t3
        obtain ⟨⟨a0, a1, a2, a3⟩, ⟨b0, b1, b2, b3⟩, c0, c1, c2, c3⟩ := HT6.out.ts.cells
        obtain ⟨t0, t1, t2, t3⟩ := HT6.out.tx.cells
        go_wp2_with fail
        obtain ⟨q1, hq1⟩ : ∃ q, (c.right && a.right && inst a c) = q := ⟨_, rfl⟩
        obtain ⟨q2, hq2⟩ : ∃ q, (c.right && b.right && inst b c) = q := ⟨_, rfl⟩
        obtain ⟨q3, hq3⟩ : ∃ q, (c.right && X.right && inst X c) = q := ⟨_, rfl⟩
        have hq : q1 = true → q2 = true → q3 = true := least_true hq1 hq2 (by rw [← HXM.out]; exact hq3) (by rw [← HXM.out]; exact HXR.out)
        have HQ := Lib.hid hq
        have h1 := instance_any a c V2 _ _ HT6.out.ts.ba.2 HT6.out.ts.bc.2 (by omega) (by omega)
        rw [hq1] at h1
        have HQ2 := Lib.hid hq2
        have HQ3 := Lib.hid hq3
        clear hq hq1 hq2 hq3
        refine h1.mono ?_
        rintro e V3 ⟨rfl, hb1⟩
        have HT7 := Lib.hid (HT6.out.next hb1)
        clear h1 hb1 HT6 a0 a1 a2 a3 b0 b1 b2 b3 c0 c1 c2 c3 t0 t1 t2 t3
        cases q1 with
        | false =>
          clear HQ
          go_wp2_with fail
          refine (k6_any V3).mono ?_
          rintro e U ⟨rfl, hbu⟩
          have HB := Lib.hid (HT7.out.next hbu).ts.below
          clear hbu
          go_wp2_with fail
          go_ret
          exact ⟨rfl, HB.out⟩
        | true =>
          obtain ⟨⟨a0, a1, a2, a3⟩, ⟨b0, b1, b2, b3⟩, c0, c1, c2, c3⟩ := HT7.out.ts.cells
          obtain ⟨t0, t1, t2, t3⟩ := HT7.out.tx.cells
          go_wp2_with fail
          have h1 := instance_any b c V3 _ _ HT7.out.ts.bb.2 HT7.out.ts.bc.2 (by omega) (by omega)
          rw [HQ2.out] at h1
          clear HQ2
          refine h1.mono ?_
          rintro e V4 ⟨rfl, hb1⟩
          have HT8 := Lib.hid (HT7.out.next hb1)
          clear h1 hb1 HT7 a0 a1 a2 a3 b0 b1 b2 b3 c0 c1 c2 c3 t0 t1 t2 t3
          cases q2 with
          | false =>
            clear HQ
            go_wp2_with fail
            refine (k6_any V4).mono ?_
            rintro e U ⟨rfl, hbu⟩
            have HB := Lib.hid (HT8.out.next hbu).ts.below
            clear hbu
            go_wp2_with fail
            go_ret
            exact ⟨rfl, HB.out⟩
          | true =>
            have h3 := HQ.out (by simp) (by simp)
            subst h3
            clear HQ
            obtain ⟨⟨a0, a1, a2, a3⟩, ⟨b0, b1, b2, b3⟩, c0, c1, c2, c3⟩ := HT8.out.ts.cells
            obtain ⟨t0, t1, t2, t3⟩ := HT8.out.tx.cells
            go_wp2_with fail
            have h1 := instance_any X c V4 _ _ HT8.out.tx.2 HT8.out.ts.bc.2 (by have := HXS.out; omega) (by omega)
            rw [HQ3.out] at h1
            clear HQ3
            refine h1.mono ?_
            rintro e V5 ⟨rfl, hb1⟩
            have HT9 := Lib.hid (HT8.out.next hb1)
            clear h1 hb1 HT8 a0 a1 a2 a3 b0 b1 b2 b3 c0 c1 c2 c3 t0 t1 t2 t3
            go_wp2_with fail
            refine (k6_any V5).mono ?_
            rintro e U ⟨rfl, hbu⟩
            have HB := Lib.hid (HT9.out.next hbu).ts.below
            clear hbu
            go_wp2_with fail
            go_ret
            exact ⟨rfl, HB.out⟩
end Go.Proofs.Ytjbicfimoiiglaa
