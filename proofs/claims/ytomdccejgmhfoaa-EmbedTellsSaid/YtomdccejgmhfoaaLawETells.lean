/-
  The statement EmbedTells, walked: for any two terms that lie in memory the call returns true, and nothing that was there has turned.
-/
import Derived.Test.YtomdccejgmhfoaaEKn
import Derived.Test.YtomdccejgmhfoaaEDIn
import Derived.Test.YtomdccejgmhfoaaSmall
namespace Go.Proofs.Ytomdccejgmhfoaa
open Go.RowKit Go.Shelf Go.Maps

theorem rright_is {t : Tm} {r : Bool} (h : t.right = r) (w : World) (sv : Value) (hin : Tm.inn w w.heap.size t sv) (hsz : t.size ≤ 1000000) :
    Calls Try.prog 21 #[.agg #[.int .i64 t.kind, .string t.name, .int .i64 t.n, sv]] w fun e w' => e = .returned (.bool r) ∧ Below w.heap.size w w' := by
  subst h
  exact rright_any t w _ sv (Nat.le_refl _) hin hsz
set_option maxRecDepth 100000 in
set_option maxHeartbeats 8000000 in
theorem etells_any (a b : Tm) (w : World) (sva svb : Value) (hia : Tm.inn w w.heap.size a sva) (hib : Tm.inn w w.heap.size b svb) :
    Calls Try.prog 9 #[.agg #[.int .i64 a.kind, .string a.name, .int .i64 a.n, sva], .agg #[.int .i64 b.kind, .string b.name, .int .i64 b.n, svb]] w fun e w' => e = .returned (.bool true) ∧ Below w.heap.size w w' := by
  have hst := TSt.start hia hib
  obtain ⟨ga, ca, rfl⟩ := inn_sl7 hia
  obtain ⟨gb, cb, rfl⟩ := inn_sl7 hib
  have HST := Lib.hid hst
  clear hia hib hst
  go_enter Try.func9, Try.ntmps9
  go_wp2_with fail
  have hst0 := HST.out.next ((Below.refl _ _).alloc (Nat.le_refl _) (Obj.cells #[.int .i64 a.kind, .string a.name, .int .i64 a.n, .slice ga a.args.length ca, .int .i64 b.kind, .string b.name, .int .i64 b.n, .slice gb b.args.length cb] 27 (0, 0)))
  have hsl := two_slice (n := w.heap.size + 1 + 1) (newBlk (World.alloc _ _) (Obj.cells #[.int .i64 a.kind, .string a.name, .int .i64 a.n, .slice ga a.args.length ca, .int .i64 b.kind, .string b.name, .int .i64 b.n, .slice gb b.args.length cb] 27 (0, 0)) _ (by simp)) hst0.ia hst0.ib
  have A0 := Lib.hid hst0
  clear hst0 HST
  refine (usmall_any [a, b] _ _ _ (Nat.le_refl _) hsl).mono ?_
  rintro e W1 ⟨rfl, hb1⟩
  have A1 := Lib.hid (A0.out.next hb1)
  clear A0 hsl hb1
  cases hs : Tm.smallB [a, b] with
  | false =>
    clear hs
    go_wp2_with fail
    refine (k7_any W1).mono ?_
    rintro e W2 ⟨rfl, hb2⟩
    have HB := Lib.hid (A1.out.next hb2).below
    clear hb2
    go_wp2_with fail
    go_ret
    exact ⟨rfl, HB.out⟩
  | true =>
    have hsz := Tm.smallB_says hs
    simp only [Tm.sizes] at hsz
    have hsa : a.size ≤ 60 := by omega
    have hsb : b.size ≤ 60 := by omega
    have hsa6 : a.size ≤ 1000000 := by omega
    have hsb6 : b.size ≤ 1000000 := by omega
    clear hs hsz
    obtain ⟨a0, a1, a2, a3, b0, b1, b2, b3, _⟩ := A1.out.cells
    cases hpa : a.right with
    | false =>
      have HPA := Lib.hid hpa
      have hr : inB a b = false := by simp [inB, hpa]
      have HR := Lib.hid hr
      clear hpa hr
      go_wp2_with fail
      refine (rright_is HPA.out W1 _ A1.out.ia hsa6).mono ?_
      rintro e W2 ⟨rfl, hb2⟩
      have A2 := Lib.hid (A1.out.next hb2)
      clear hb2 A1 a0 a1 a2 a3 b0 b1 b2 b3
      obtain ⟨a0, a1, a2, a3, b0, b1, b2, b3, _⟩ := A2.out.cells
      go_wp2_with fail
      refine (in_is HR.out W2 _ _ A2.out.ia A2.out.ib hsa6 hsb6).mono ?_
      rintro e W3 ⟨rfl, hb3⟩
      have A3 := Lib.hid (A2.out.next hb3)
      clear hb3 A2 a0 a1 a2 a3 b0 b1 b2 b3
      go_wp2_with fail
      refine (k7_any W3).mono ?_
      rintro e W4 ⟨rfl, hb4⟩
      have HB := Lib.hid (A3.out.next hb4).below
      clear hb4
      go_wp2_with fail
      go_ret
      exact ⟨rfl, HB.out⟩
    | true =>
      cases hpb : b.right with
      | false =>
        have HPA := Lib.hid hpa
        have HPB := Lib.hid hpb
        have hr : inB a b = false := by simp [inB, hpb]
        have HR := Lib.hid hr
        clear hpa hpb hr
        go_wp2_with fail
        refine (rright_is HPA.out W1 _ A1.out.ia hsa6).mono ?_
        rintro e W2 ⟨rfl, hb2⟩
        have A2 := Lib.hid (A1.out.next hb2)
        clear hb2 A1 a0 a1 a2 a3 b0 b1 b2 b3
        obtain ⟨a0, a1, a2, a3, b0, b1, b2, b3, _⟩ := A2.out.cells
        go_wp2_with fail
        refine (rright_is HPB.out W2 _ A2.out.ib hsb6).mono ?_
        rintro e W5 ⟨rfl, hb5⟩
        have A5 := Lib.hid (A2.out.next hb5)
        clear hb5 A2 a0 a1 a2 a3 b0 b1 b2 b3
        obtain ⟨a0, a1, a2, a3, b0, b1, b2, b3, _⟩ := A5.out.cells
        go_wp2_with fail
        refine (in_is HR.out W5 _ _ A5.out.ia A5.out.ib hsa6 hsb6).mono ?_
        rintro e W3 ⟨rfl, hb3⟩
        have A3 := Lib.hid (A5.out.next hb3)
        clear hb3 A5 a0 a1 a2 a3 b0 b1 b2 b3
        go_wp2_with fail
        refine (k7_any W3).mono ?_
        rintro e W4 ⟨rfl, hb4⟩
        have HB := Lib.hid (A3.out.next hb4).below
        clear hb4
        go_wp2_with fail
        go_ret
        exact ⟨rfl, HB.out⟩
      | true =>
        have HPA := Lib.hid hpa
        have HPB := Lib.hid hpb
        cases hz : b.emb a
        all_goals
          have hr : inB a b = b.emb a := by simp [inB, hpa, hpb]
          rw [hz] at hr
          have HR := Lib.hid hr
          have HZ := Lib.hid hz
          clear hpa hpb hr hz
          go_wp2_with fail
          refine (rright_is HPA.out W1 _ A1.out.ia hsa6).mono ?_
          rintro e W2 ⟨rfl, hb2⟩
          have A2 := Lib.hid (A1.out.next hb2)
          clear hb2 A1 a0 a1 a2 a3 b0 b1 b2 b3
          obtain ⟨a0, a1, a2, a3, b0, b1, b2, b3, _⟩ := A2.out.cells
          go_wp2_with fail
          refine (rright_is HPB.out W2 _ A2.out.ib hsb6).mono ?_
          rintro e W5 ⟨rfl, hb5⟩
          have A5 := Lib.hid (A2.out.next hb5)
          clear hb5 A2 a0 a1 a2 a3 b0 b1 b2 b3
          obtain ⟨a0, a1, a2, a3, b0, b1, b2, b3, _⟩ := A5.out.cells
          go_wp2_with fail
          refine (din_any a b W5 _ _ A5.out.ia A5.out.ib HPA.out HPB.out hsa hsb).mono ?_
          rw [HZ.out]
          rintro e W6 ⟨rfl, hb6⟩
          have A6 := Lib.hid (A5.out.next hb6)
          clear hb6 A5 a0 a1 a2 a3 b0 b1 b2 b3
          obtain ⟨a0, a1, a2, a3, b0, b1, b2, b3, _⟩ := A6.out.cells
          go_wp2_with fail
          refine (in_is HR.out W6 _ _ A6.out.ia A6.out.ib hsa6 hsb6).mono ?_
          rintro e W3 ⟨rfl, hb3⟩
          have A3 := Lib.hid (A6.out.next hb3)
          clear hb3 A6 a0 a1 a2 a3 b0 b1 b2 b3
          go_wp2_with fail
          refine (k7_any W3).mono ?_
          rintro e W4 ⟨rfl, hb4⟩
          have HB := Lib.hid (A3.out.next hb4).below
          clear hb4
          go_wp2_with fail
          go_ret
          exact ⟨rfl, HB.out⟩
end Go.Proofs.Ytomdccejgmhfoaa
