/-
  The statement MatchFinds, walked: for any two terms that lie in memory the call returns true, and nothing that was there has turned.
-/
import Derived.Test.YtgnbjhiafjpokaaMKnows
import Derived.Test.YtgnbjhiafjpokaaRMat
import Derived.Test.YtgnbjhiafjpokaaBSame
namespace Go.Proofs.Ytgnbjhiafjpokaa
open Go.RowKit Go.Shelf Go.Maps

theorem some_two_le {a b : Tm} (h : Tm.someB [a, b] = true) : a.size ≤ 4000 ∧ b.size ≤ 4000 := ⟨Tm.some_size h (by simp), Tm.some_size h (by simp)⟩
theorem inst_some {t p : Tm} {l : List Bd} (h : p.meet t [] = some l) : inst t p = true := by unfold inst; rw [h]; rfl

set_option maxRecDepth 100000 in
set_option maxHeartbeats 8000000 in
theorem mfinds_any (p t : Tm) (w : World) (sp st : Value) (hip : Tm.inn w w.heap.size p sp) (hit : Tm.inn w w.heap.size t st) :
    Calls Try.prog 11 #[.agg #[.int .i64 p.kind, .string p.name, .int .i64 p.n, sp], .agg #[.int .i64 t.kind, .string t.name, .int .i64 t.n, st]] w fun e w' => e = .returned (.bool true) ∧ Below w.heap.size w w' := by
  have hst := TSt.start hip hit
  obtain ⟨_, ga, ca, rfl, _, _, _⟩ := Tm.inn_iff.1 hip
  obtain ⟨_, gb, cb, rfl, _, _, _⟩ := Tm.inn_iff.1 hit
  have HST := Lib.hid hst
  clear hip hit hst
  go_enter Try.func11, Try.ntmps11
  go_wp2_with fail
  have hst0 := HST.out.next ((Below.refl _ _).alloc (Nat.le_refl _) (Obj.cells #[.int .i64 p.kind, .string p.name, .int .i64 p.n, .slice ga p.args.length ca, .int .i64 t.kind, .string t.name, .int .i64 t.n, .slice gb t.args.length cb] 27 (0, 0)))
  have hsl := two_slice (n := w.heap.size + 1 + 1) (newBlk (World.alloc _ _) (Obj.cells #[.int .i64 p.kind, .string p.name, .int .i64 p.n, .slice ga p.args.length ca, .int .i64 t.kind, .string t.name, .int .i64 t.n, .slice gb t.args.length cb] 27 (0, 0)) _ (by simp)) hst0.ia hst0.ib
  have A0 := Lib.hid hst0
  clear hst0 HST
  refine (some_any [p, t] _ _ _ (Nat.le_refl _) hsl).mono ?_
  rintro e W1 ⟨rfl, hb1⟩
  have A1 := Lib.hid (A0.out.next hb1)
  clear A0 hsl hb1
  cases hs : Tm.someB [p, t] with
  | false =>
    clear hs
    go_wp2_with fail
    refine (mknows_any W1).mono ?_
    rintro e W2 ⟨rfl, hb2⟩
    have HB := Lib.hid (A1.out.next hb2).below
    clear hb2
    go_wp2_with fail
    go_ret
    exact ⟨rfl, HB.out⟩
  | true =>
    obtain ⟨hsp, hst⟩ := some_two_le hs
    clear hs
    obtain ⟨a0, a1, a2, a3, b0, b1, b2, b3, _⟩ := A1.out.cells
    go_wp2_with fail
    refine (match_any p t W1 _ _ A1.out.ia A1.out.ib (by omega) (by omega)).mono ?_
    rintro e W2 ⟨hb2, hcase⟩
    have A2 := Lib.hid (A1.out.next hb2)
    clear hb2 a0 a1 a2 a3 b0 b1 b2 b3
    obtain ⟨a0, a1, a2, a3, b0, b1, b2, b3, _⟩ := A2.out.cells
    rcases hcase with ⟨hno, rfl⟩ | ⟨⟨hp, ht⟩, ⟨l, sv, hl, rfl, hbl⟩ | ⟨hl, rfl⟩⟩
    · have HNO := Lib.hid hno
      clear hno A1
      go_wp2_with fail
      refine (rright_any p W2 _ _ (Nat.le_refl _) A2.out.ia (by omega)).mono ?_
      rintro e W3 ⟨rfl, hb3⟩
      have A3 := Lib.hid (A2.out.next hb3)
      clear hb3 a0 a1 a2 a3 b0 b1 b2 b3 A2
      obtain ⟨a0, a1, a2, a3, b0, b1, b2, b3, _⟩ := A3.out.cells
      cases hp : p.right with
      | false =>
        have hi := instance_any t p W3 _ _ A3.out.ib A3.out.ia (by omega) (by omega)
        rw [show (p.right && t.right && inst t p) = false by rw [hp]; rfl] at hi
        have HI := Lib.hid hi
        clear hi hp
        go_wp2_with fail
        refine HI.out.mono ?_
        rintro e W4 ⟨rfl, hb4⟩
        have A4 := Lib.hid (A3.out.next hb4)
        clear hb4 a0 a1 a2 a3 b0 b1 b2 b3 A3 HI
        go_wp2_with fail
        refine (mknows_any W4).mono ?_
        rintro e W5 ⟨rfl, hb5⟩
        have HB := Lib.hid (A4.out.next hb5).below
        clear hb5
        go_wp2_with fail
        go_ret
        exact ⟨rfl, HB.out⟩
      | true =>
        have htr : t.right = false := by
          cases h : t.right with
          | false => rfl
          | true => exact absurd ⟨hp, h⟩ HNO.out
        have HTR := Lib.hid htr
        clear hp htr
        go_wp2_with fail
        refine (rright_any t W3 _ _ (Nat.le_refl _) A3.out.ib (by omega)).mono ?_
        rintro e W4 ⟨rfl, hb4⟩
        rw [HTR.out]
        have A4 := Lib.hid (A3.out.next hb4)
        clear hb4 a0 a1 a2 a3 b0 b1 b2 b3 A3
        obtain ⟨a0, a1, a2, a3, b0, b1, b2, b3, _⟩ := A4.out.cells
        have hi := instance_any t p W4 _ _ A4.out.ib A4.out.ia (by omega) (by omega)
        rw [show (p.right && t.right && inst t p) = false by rw [HTR.out, Bool.and_false]; rfl] at hi
        have HI := Lib.hid hi
        clear hi
        go_wp2_with fail
        refine HI.out.mono ?_
        rintro e W5 ⟨rfl, hb5⟩
        have A5 := Lib.hid (A4.out.next hb5)
        clear hb5 a0 a1 a2 a3 b0 b1 b2 b3 A4 HI
        go_wp2_with fail
        refine (mknows_any W5).mono ?_
        rintro e W6 ⟨rfl, hb6⟩
        have HB := Lib.hid (A5.out.next hb6).below
        clear hb6
        go_wp2_with fail
        go_ret
        exact ⟨rfl, HB.out⟩
    · obtain ⟨gs, cs, rfl, _, _, _, _⟩ := id hbl
      have HL := Lib.hid hl
      have HBL := Lib.hid hbl
      have HP := Lib.hid hp
      have HT := Lib.hid ht
      have hll : l.length ≤ 1000 ∨ True := .inr trivial
      have hlen : l.length ≤ 4000 := by
        have h1 := (meet_right hp ht hl).2.1
        have h2 := varsOf_length [p]
        rw [← h1, List.length_map] at h2
        simp only [Tm.sizes] at h2
        omega
      clear hl hbl hp ht A1 hll
      go_wp2_with fail
      refine (rright_any p W2 _ _ (Nat.le_refl _) A2.out.ia (by omega)).mono ?_
      rintro e W3 ⟨rfl, hb3⟩
      rw [HP.out]
      have A3 := Lib.hid (A2.out.next hb3)
      have L3 := Lib.hid (bdsIn_held HBL.out hb3)
      clear hb3 a0 a1 a2 a3 b0 b1 b2 b3 A2 HBL
      obtain ⟨a0, a1, a2, a3, b0, b1, b2, b3, _⟩ := A3.out.cells
      go_wp2_with fail
      refine (rright_any t W3 _ _ (Nat.le_refl _) A3.out.ib (by omega)).mono ?_
      rintro e W4 ⟨rfl, hb4⟩
      rw [HT.out]
      have A4 := Lib.hid (A3.out.next hb4)
      have L4 := Lib.hid (bdsIn_held L3.out hb4)
      clear hb4 a0 a1 a2 a3 b0 b1 b2 b3 A3 L3
      obtain ⟨a0, a1, a2, a3, b0, b1, b2, b3, _⟩ := A4.out.cells
      go_wp2_with fail
      refine (rmatch_any p t W4 _ _ _ (Nat.le_refl _) A4.out.ia A4.out.ib HP.out).mono ?_
      rintro e W5 ⟨q, sw, rfl, hb5, hcase⟩
      obtain ⟨rfl, xs, hbr⟩ : q = true ∧ ∃ xs, BRow W5 W4.heap.size W4.heap.size l sw xs := by
        rcases hcase with ⟨h1, l', xs, h2, h3⟩ | ⟨_, h2, _⟩
        · rw [HL.out] at h2
          cases h2
          exact ⟨h1, xs, h3⟩
        · rw [HL.out] at h2; cases h2
      obtain ⟨gw, cw, rfl⟩ := hbr.slice
      have hs45 := hb5.size
      have hbw := bds_of_owns (g := gw) (c := cw) (l := l) hbr.row hbr.cells (by omega) (fun b hb => by omega) (okL_wf (meet_okL HP.out HT.out HL.out))
      have A5 := Lib.hid (A4.out.next hb5)
      have L5 := Lib.hid (bdsIn_held L4.out hb5)
      have V5 := Lib.hid hbw
      clear hb5 hcase hbr hbw a0 a1 a2 a3 b0 b1 b2 b3 A4 L4
      go_wp2_with fail
      refine (bsame_any l W5 _ _ L5.out V5.out (by omega)).mono ?_
      rintro e W6 ⟨rfl, hb6⟩
      have A6 := Lib.hid (A5.out.next hb6)
      clear hb6 A5 L5 V5
      obtain ⟨a0, a1, a2, a3, b0, b1, b2, b3, _⟩ := A6.out.cells
      have hi := instance_any t p W6 _ _ A6.out.ib A6.out.ia (by omega) (by omega)
      rw [show (p.right && t.right && inst t p) = true by rw [HP.out, HT.out, inst_some HL.out]; rfl] at hi
      have HI := Lib.hid hi
      clear hi
      go_wp2_with fail
      refine HI.out.mono ?_
      rintro e W7 ⟨rfl, hb7⟩
      have A7 := Lib.hid (A6.out.next hb7)
      clear hb7 a0 a1 a2 a3 b0 b1 b2 b3 A6 HI
      go_wp2_with fail
      refine (mknows_any W7).mono ?_
      rintro e W8 ⟨rfl, hb8⟩
      have HB := Lib.hid (A7.out.next hb8).below
      clear hb8
      go_wp2_with fail
      go_ret
      exact ⟨rfl, HB.out⟩
    · have HL := Lib.hid hl
      have HP := Lib.hid hp
      have HT := Lib.hid ht
      clear hl hp ht A1
      go_wp2_with fail
      refine (rright_any p W2 _ _ (Nat.le_refl _) A2.out.ia (by omega)).mono ?_
      rintro e W3 ⟨rfl, hb3⟩
      rw [HP.out]
      have A3 := Lib.hid (A2.out.next hb3)
      clear hb3 a0 a1 a2 a3 b0 b1 b2 b3 A2
      obtain ⟨a0, a1, a2, a3, b0, b1, b2, b3, _⟩ := A3.out.cells
      go_wp2_with fail
      refine (rright_any t W3 _ _ (Nat.le_refl _) A3.out.ib (by omega)).mono ?_
      rintro e W4 ⟨rfl, hb4⟩
      rw [HT.out]
      have A4 := Lib.hid (A3.out.next hb4)
      clear hb4 a0 a1 a2 a3 b0 b1 b2 b3 A3
      obtain ⟨a0, a1, a2, a3, b0, b1, b2, b3, _⟩ := A4.out.cells
      go_wp2_with fail
      refine (rmatch_any p t W4 _ _ _ (Nat.le_refl _) A4.out.ia A4.out.ib HP.out).mono ?_
      rintro e W5 ⟨q, sw, rfl, hb5, hcase⟩
      obtain ⟨rfl, rfl⟩ : q = false ∧ sw = .slice none 0 0 := by
        rcases hcase with ⟨h1, l', xs, h2, h3⟩ | ⟨h1, _, h2⟩
        · rw [HL.out] at h2; cases h2
        · exact ⟨h1, h2⟩
      have A5 := Lib.hid (A4.out.next hb5)
      clear hb5 hcase a0 a1 a2 a3 b0 b1 b2 b3 A4
      go_wp2_with fail
      refine (bsame_any [] W5 _ _ (bds_nil _ _) (bds_nil _ _) (by simp)).mono ?_
      rintro e W6 ⟨rfl, hb6⟩
      have A6 := Lib.hid (A5.out.next hb6)
      clear hb6 A5
      obtain ⟨a0, a1, a2, a3, b0, b1, b2, b3, _⟩ := A6.out.cells
      have hi := instance_any t p W6 _ _ A6.out.ib A6.out.ia (by omega) (by omega)
      rw [show (p.right && t.right && inst t p) = false by rw [inst_none.1 HL.out, Bool.and_false]] at hi
      have HI := Lib.hid hi
      clear hi
      go_wp2_with fail
      refine HI.out.mono ?_
      rintro e W7 ⟨rfl, hb7⟩
      have A7 := Lib.hid (A6.out.next hb7)
      clear hb7 a0 a1 a2 a3 b0 b1 b2 b3 A6 HI
      go_wp2_with fail
      refine (mknows_any W7).mono ?_
      rintro e W8 ⟨rfl, hb8⟩
      have HB := Lib.hid (A7.out.next hb8).below
      clear hb8
      go_wp2_with fail
      go_ret
      exact ⟨rfl, HB.out⟩
end Go.Proofs.Ytgnbjhiafjpokaa
