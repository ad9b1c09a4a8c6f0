/-
  The statement MatchBack, walked: for any two terms that lie in memory the call returns true, and nothing that was there has turned.
-/
import Derived.Test.YtgnbjhiafjpokaaMKnows
namespace Go.Proofs.Ytgnbjhiafjpokaa
open Go.RowKit Go.Shelf Go.Maps

set_option maxRecDepth 100000 in
set_option maxHeartbeats 8000000 in
theorem mback_any (p t : Tm) (w : World) (sp st : Value) (hip : Tm.inn w w.heap.size p sp) (hit : Tm.inn w w.heap.size t st) :
    Calls Try.prog 13 #[.agg #[.int .i64 p.kind, .string p.name, .int .i64 p.n, sp], .agg #[.int .i64 t.kind, .string t.name, .int .i64 t.n, st]] w fun e w' => e = .returned (.bool true) ∧ Below w.heap.size w w' := by
  have hst := TSt.start hip hit
  obtain ⟨_, ga, ca, rfl, _, _, _⟩ := Tm.inn_iff.1 hip
  obtain ⟨_, gb, cb, rfl, _, _, _⟩ := Tm.inn_iff.1 hit
  have HST := Lib.hid hst
  clear hip hit hst
  go_enter Try.func13, Try.ntmps13
  go_wp2_with fail
  have hst0 := HST.out.next ((Below.refl _ _).alloc (Nat.le_refl _) (Obj.cells #[.int .i64 p.kind, .string p.name, .int .i64 p.n, .slice ga p.args.length ca, .int .i64 t.kind, .string t.name, .int .i64 t.n, .slice gb t.args.length cb] 27 (0, 0)))
  have hsl := two_slice (n := w.heap.size + 1 + 1) (newBlk (World.alloc _ _) (Obj.cells #[.int .i64 p.kind, .string p.name, .int .i64 p.n, .slice ga p.args.length ca, .int .i64 t.kind, .string t.name, .int .i64 t.n, .slice gb t.args.length cb] 27 (0, 0)) _ (by simp)) hst0.ia hst0.ib
  have A0 := Lib.hid hst0
  clear hst0 HST
  refine (some_any [p, t] _ _ _ (Nat.le_refl _) hsl).mono ?_
  rintro e W1 ⟨rfl, hb1⟩
  have A1 := Lib.hid (A0.out.next hb1)
  clear A0 hsl hb1
  cases hs : Tm.someB [p, t] with
  | false =>
    clear hs
    go_wp2_with fail
    refine (mknows_any W1).mono ?_
    rintro e W2 ⟨rfl, hb2⟩
    have HB := Lib.hid (A1.out.next hb2).below
    clear hb2
    go_wp2_with fail
    go_ret
    exact ⟨rfl, HB.out⟩
  | true =>
    have hsp : p.size ≤ 4000 := Tm.some_size hs (by simp)
    have hst : t.size ≤ 4000 := Tm.some_size hs (by simp)
    clear hs
    obtain ⟨a0, a1, a2, a3, b0, b1, b2, b3, _⟩ := A1.out.cells
    go_wp2_with fail
    refine (match_any p t W1 _ _ A1.out.ia A1.out.ib (by omega) (by omega)).mono ?_
    rintro e W2 ⟨hb2, hcase⟩
    have A2 := Lib.hid (A1.out.next hb2)
    clear hb2 a0 a1 a2 a3 b0 b1 b2 b3
    rcases hcase with ⟨hno, rfl⟩ | ⟨⟨hp, ht⟩, ⟨l, sv, hl, rfl, hbl⟩ | ⟨hl, rfl⟩⟩
    · clear hno
      go_wp2_with fail
      refine (mknows_any W2).mono ?_
      rintro e W3 ⟨rfl, hb3⟩
      have HB := Lib.hid (A2.out.next hb3).below
      clear hb3
      go_wp2_with fail
      go_ret
      exact ⟨rfl, HB.out⟩
    · obtain ⟨gs, cs, rfl, _, _, _, _⟩ := id hbl
      obtain ⟨_, hv, hr, hu⟩ := meet_right hp ht hl
      have hok := meet_okL hp ht hl
      have hlen : l.length ≤ 4000 := by
        have h2 := varsOf_length [p]
        rw [← hv, List.length_map] at h2
        simp only [Tm.sizes] at h2
        omega
      have hfl := fill_any p l W2 _ _ A2.out.ia hbl (by omega) (fun b hb => by
        have h1 := hr b hb
        simp only [Tm.right, Bool.and_eq_true, decide_eq_true_eq] at h1
        omega) (by omega) (fun _ _ => by rw [hu]; omega)
      have HFL := Lib.hid hfl
      have HV := Lib.hid hv
      have HU := Lib.hid hu
      have HOK := Lib.hid hok
      have HP := Lib.hid hp
      have HT := Lib.hid ht
      have hpl : Tm.plain [p] = true := by rw [Tm.plain_all]; simp [right_noArgs hp]
      have HPL := Lib.hid hpl
      obtain ⟨a0, a1, a2, a3, b0, b1, b2, b3, _⟩ := A2.out.cells
      clear hfl hv hu hok hr hl hbl hp ht hpl A1
      go_wp2_with fail
      refine HFL.out.mono ?_
      rintro e W3 ⟨X, E, gx, cx, rfl, hinx, hb3, hspec⟩
      have hXE : X = t ∧ E = 0 := by
        rcases hspec with ⟨h, _⟩ | ⟨_, ⟨h, _⟩ | ⟨_, h1, h2⟩⟩
        · exact absurd ⟨HOK.out, HP.out⟩ h
        · rw [HU.out, HT.out] at h; cases h
        · rw [HU.out] at h1; exact ⟨h1, h2⟩
      obtain ⟨rfl, rfl⟩ := hXE
      have A3 := Lib.hid ((A2.out.next hb3).next ((Below.refl W3.heap.size W3).alloc (Nat.le_refl _) (.cells #[.int .i64 X.kind, .string X.name, .int .i64 X.n, .slice gx X.args.length cx] 27 (0, 0))))
      have BX := Lib.hid (TmBox.new hinx)
      obtain ⟨c0, c1, c2, c3, d0, d1, d2, d3, _⟩ := (A2.out.next hb3).cells
      have hlw := (A2.out.next hb3).size
      have hss := Lib.hid (same_self X)
      clear hinx hb3 hspec a0 a1 a2 a3 b0 b1 b2 b3 A2 HFL
      go_wp2_with fail
      refine (rsame_any X X _ _ _ _ (Nat.le_refl _) BX.out.2 A3.out.ib).mono ?_
      rintro e W4 ⟨rfl, hb4⟩
      rw [hss.out]
      have A4 := Lib.hid (A3.out.next hb4)
      obtain ⟨a0, a1, a2, a3, b0, b1, b2, b3, _⟩ := A4.out.cells
      clear hb4 A3 BX c0 c1 c2 c3 d0 d1 d2 d3
      go_wp2_with fail
      have hone := one_slice (newBlk W4 (.cells #[.int .i64 p.kind, .string p.name, .int .i64 p.n, .slice ga p.args.length ca] 27 (0, 0)) W4.heap.size rfl) (A4.out.next ((Below.refl _ _).alloc (Nat.le_refl _) (.cells #[.int .i64 p.kind, .string p.name, .int .i64 p.n, .slice ga p.args.length ca] 27 (0, 0)))).ia
      have A4' := Lib.hid (A4.out.next ((Below.refl _ _).alloc (Nat.le_refl _) (.cells #[.int .i64 p.kind, .string p.name, .int .i64 p.n, .slice ga p.args.length ca] 27 (0, 0))))
      have hrv := rvars_any [p] _ _ _ (Nat.le_refl _) hone (by simp [Tm.sizes]; omega)
      rw [withs_vars [p] HPL.out, ← HV.out] at hrv
      have HRV := Lib.hid hrv
      clear hrv hone a0 a1 a2 a3 b0 b1 b2 b3 A4
      refine HRV.out.mono ?_
      rintro e W5 ⟨vv, rfl, hints, hb5⟩
      obtain ⟨gw, cw, rfl, _, _, _⟩ := id hints
      rw [List.length_map]
      have A5 := Lib.hid (A4'.out.next hb5)
      clear hints hb5 HRV A4'
      go_wp2_with fail
      refine (mknows_any W5).mono ?_
      rintro e W6 ⟨rfl, hb6⟩
      have HB := Lib.hid (A5.out.next hb6).below
      clear hb6
      go_wp2_with fail
      go_ret
      exact ⟨rfl, HB.out⟩
    · clear hl hp ht
      go_wp2_with fail
      refine (mknows_any W2).mono ?_
      rintro e W3 ⟨rfl, hb3⟩
      have HB := Lib.hid (A2.out.next hb3).below
      clear hb3
      go_wp2_with fail
      go_ret
      exact ⟨rfl, HB.out⟩
end Go.Proofs.Ytgnbjhiafjpokaa
