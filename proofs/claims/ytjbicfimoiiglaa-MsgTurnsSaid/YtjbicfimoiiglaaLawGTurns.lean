/-
  The statement MsgTurns, walked: for any two terms that lie in memory the call returns true, and nothing that was there has turned.
-/
import Derived.Test.YtjbicfimoiiglaaMOf
import Derived.Test.YtjbicfimoiiglaaMKn
import Derived.Test.YtjbicfimoiiglaaFound
import Derived.Test.YtjbicfimoiiglaaTermA
namespace Go.Proofs.Ytjbicfimoiiglaa
open Go.RowKit Go.Shelf Go.Maps

theorem size6_any (t : Tm) (w : World) (sv : Value) (hin : Tm.inn w w.heap.size t sv) (hsz : t.size ≤ 1000000) : Calls Try.prog 25 #[.agg #[.int .i64 t.kind, .string t.name, .int .i64 t.n, sv]] w fun e w' => e = .returned (.int .i64 t.size) ∧ Below w.heap.size w w' :=
  (callsIn_wide.1 (tsize_in Fence.wide rfl (fun _ => trivial) rfl 9 (by omega) t w sv hin hsz)).mono fun e w' h => h
/-- Both boxes, those of the three answers, and the term that Number has told. -/
structure T5 (w : World) (a b : Tm) (sva svb : Value) (tb ub vb : Nat) (X V : Tm) (st su sv : Value) (W : World) : Prop where
  ts : TSt w a b sva svb W
  tt : TmBox W tb X st
  tu : TmBox W ub X su
  tv : TmBox W vb V sv
theorem T5.next {w : World} {a b : Tm} {sva svb : Value} {tb ub vb : Nat} {X V : Tm} {st su sv : Value} {W W' : World} (h : T5 w a b sva svb tb ub vb X V st su sv W) (hb : Below W.heap.size W W') : T5 w a b sva svb tb ub vb X V st su sv W' := ⟨h.ts.next hb, h.tt.next hb, h.tu.next hb, h.tv.next hb⟩
def Q4 (b o : Nat) (t : Tm) (sv : Value) (W : World) : Prop := W.cell? ⟨b, o, none⟩ = some (.int .i64 t.kind) ∧ W.cell? ⟨b, o + 1, none⟩ = some (.string t.name) ∧ W.cell? ⟨b, o + 2, none⟩ = some (.int .i64 t.n) ∧ W.cell? ⟨b, o + 3, none⟩ = some sv
/-- The state of the region that compares. -/
structure R7 (w : World) (a b : Tm) (sva svb : Value) (tb ub vb nb no : Nat) (X V : Tm) (st su sv sn : Value) (W : World) : Prop where
  t5 : T5 w a b sva svb tb ub vb X V st su sv W
  tn : TmAt W nb no V sn
theorem R7.next {w : World} {a b : Tm} {sva svb : Value} {tb ub vb nb no : Nat} {X V : Tm} {st su sv sn : Value} {W W' : World} (h : R7 w a b sva svb tb ub vb nb no X V st su sv sn W) (hb : Below W.heap.size W W') : R7 w a b sva svb tb ub vb nb no X V st su sv sn W' := ⟨h.t5.next hb, h.tn.next hb⟩
def C16 (w : World) (a b : Tm) (sva svb : Value) (tb ub vb nb no : Nat) (X V : Tm) (st su sv sn : Value) (W : World) : Prop :=
  Q4 tb 0 X st W ∧ Q4 ub 0 X su W ∧ Q4 vb 0 V sv W ∧ Q4 nb no V sn W ∧ R7 w a b sva svb tb ub vb nb no X V st su sv sn W
theorem C16.of {w : World} {a b : Tm} {sva svb : Value} {tb ub vb nb no : Nat} {X V : Tm} {st su sv sn : Value} {W : World} (h : R7 w a b sva svb tb ub vb nb no X V st su sv sn W) : C16 w a b sva svb tb ub vb nb no X V st su sv sn W :=
  ⟨h.t5.tt.cells, h.t5.tu.cells, h.t5.tv.cells, ⟨h.tn.c0, h.tn.c1, h.tn.c2, h.tn.c3⟩, h⟩
def C16b (w : World) (a b : Tm) (sva svb : Value) (tb ub vb : Nat) (X V : Tm) (st su sv : Value) (W : World) : Prop :=
  Q4 w.heap.size 0 a sva W ∧ Q4 (w.heap.size + 1) 0 b svb W ∧ Q4 tb 0 X st W ∧ Q4 vb 0 V sv W ∧ T5 w a b sva svb tb ub vb X V st su sv W
theorem C16b.of {w : World} {a b : Tm} {sva svb : Value} {tb ub vb : Nat} {X V : Tm} {st su sv : Value} {W : World} (h : T5 w a b sva svb tb ub vb X V st su sv W) : C16b w a b sva svb tb ub vb X V st su sv W := by
  obtain ⟨a0, a1, a2, a3, b0, b1, b2, b3, _⟩ := h.ts.cells
  exact ⟨⟨a0, a1, a2, a3⟩, ⟨b0, b1, b2, b3⟩, h.tt.cells, h.tv.cells, h⟩

set_option maxRecDepth 100000 in
set_option maxHeartbeats 8000000 in
theorem gturns_any (a b : Tm) (w : World) (sva svb : Value) (hia : Tm.inn w w.heap.size a sva) (hib : Tm.inn w w.heap.size b svb) :
    Calls Try.prog 6 #[.agg #[.int .i64 a.kind, .string a.name, .int .i64 a.n, sva], .agg #[.int .i64 b.kind, .string b.name, .int .i64 b.n, svb]] w fun e w' => e = .returned (.bool true) ∧ Below w.heap.size w w' := by
  have hst := TSt.start hia hib
  obtain ⟨ga, ca, rfl⟩ := inn_sl6 hia
  obtain ⟨gb, cb, rfl⟩ := inn_sl6 hib
  have HST := Lib.hid hst
  clear hia hib hst
  go_enter Try.func6, Try.ntmps6
  go_wp2_with fail
  have hst0 := HST.out.next ((Below.refl _ _).alloc (Nat.le_refl _) (Obj.cells #[.int .i64 a.kind, .string a.name, .int .i64 a.n, .slice ga a.args.length ca, .int .i64 b.kind, .string b.name, .int .i64 b.n, .slice gb b.args.length cb] 24 (0, 0)))
  have hsl := two_slice (n := w.heap.size + 1 + 1) (newBlk (World.alloc _ _) (Obj.cells #[.int .i64 a.kind, .string a.name, .int .i64 a.n, .slice ga a.args.length ca, .int .i64 b.kind, .string b.name, .int .i64 b.n, .slice gb b.args.length cb] 24 (0, 0)) _ (by simp)) hst0.ia hst0.ib
  have A0 := Lib.hid hst0
  clear hst0 HST
  refine (some_any [a, b] _ _ _ (Nat.le_refl _) hsl).mono ?_
  rintro e W1 ⟨rfl, hb1⟩
  have A1 := Lib.hid (A0.out.next hb1)
  clear A0 hsl hb1
  cases hs : Tm.someB [a, b] with
  | false =>
    clear hs
    go_wp2_with fail
    refine (k6_any W1).mono ?_
    rintro e U ⟨rfl, hbu⟩
    have HB := Lib.hid (A1.out.next hbu).below
    clear hbu
    go_wp2_with fail
    go_ret
    exact ⟨rfl, HB.out⟩
  | true =>
    have hsa : a.size ≤ 4000 := Tm.some_size hs (by simp)
    have hsb : b.size ≤ 4000 := Tm.some_size hs (by simp)
    clear hs
    obtain ⟨a0, a1, a2, a3, b0, b1, b2, b3, _⟩ := A1.out.cells
    have l1 := A1.out.size
    go_wp2_with fail
    refine (rright_any a W1 _ _ (Nat.le_refl _) A1.out.ia (by omega)).mono ?_
    rintro e W2 ⟨rfl, hb2⟩
    have A2 := Lib.hid (A1.out.next hb2)
    clear hb2 A1 l1 a0 a1 a2 a3 b0 b1 b2 b3
    cases hra : a.right with
    | false =>
      clear hra
      go_wp2_with fail
      refine (k6_any W2).mono ?_
      rintro e U ⟨rfl, hbu⟩
      have HB := Lib.hid (A2.out.next hbu).below
      clear hbu
      go_wp2_with fail
      go_ret
      exact ⟨rfl, HB.out⟩
    | true =>
      have HRA := Lib.hid hra
      clear hra
      obtain ⟨a0, a1, a2, a3, b0, b1, b2, b3, _⟩ := A2.out.cells
      have l1 := A2.out.size
      go_wp2_with fail
      refine (rright_any b W2 _ _ (Nat.le_refl _) A2.out.ib (by omega)).mono ?_
      rintro e W3 ⟨rfl, hb3⟩
      have A3 := Lib.hid (A2.out.next hb3)
      clear hb3 A2 l1 a0 a1 a2 a3 b0 b1 b2 b3
      cases hrb : b.right with
      | false =>
        clear hrb
        go_wp2_with fail
        refine (k6_any W3).mono ?_
        rintro e U ⟨rfl, hbu⟩
        have HB := Lib.hid (A3.out.next hbu).below
        clear hbu
        go_wp2_with fail
        go_ret
        exact ⟨rfl, HB.out⟩
      | true =>
        have HRB := Lib.hid hrb
        clear hrb
        obtain ⟨X, hX⟩ : ∃ X, msgT a b = X := ⟨_, rfl⟩
        obtain ⟨V, hV⟩ : ∃ V, msgT a a = V := ⟨_, rfl⟩
        have HX := Lib.hid hX
        have HV := Lib.hid hV
        have HY := Lib.hid ((msg_swap a b).trans hX)
        clear hX hV
        obtain ⟨a0, a1, a2, a3, b0, b1, b2, b3, _⟩ := A3.out.cells
        have l1 := A3.out.size
        go_wp2_with fail
        have hof := mof_any a b W3 _ _ (A3.out.ia) (A3.out.ib) (by omega) (by omega)
        refine hof.mono ?_
        rintro e W4 ⟨Z1, E1, g1, c1, rfl, hp, hb, hcase⟩
        have hZ : Z1 = msgT a b ∧ E1 = 0 := by
          rcases hcase with ⟨_, h1, h2⟩ | ⟨h0, _⟩
          · exact ⟨h1, h2⟩
          · exact absurd h0 (by simp [HRA.out, HRB.out])
        obtain ⟨hZ1, rfl⟩ := hZ
        rw [HX.out] at hZ1
        obtain rfl : X = Z1 := hZ1.symm
        have hi := Tm.inn_of_P (B := W4.heap.size) (fun _ h => h.2) _ _ hp
        have hal := (Below.refl W4.heap.size W4).alloc (Nat.le_refl _) (Obj.cells #[.int .i64 X.kind, .string X.name, .int .i64 X.n, .slice g1 X.args.length c1] 24 (0, 0))
        have hts := (A3.out.next hb).next hal
        have htt := TmBox.new hi
        clear hof hcase hp hi hal hb A3 l1 a0 a1 a2 a3 b0 b1 b2 b3
        have HTS := Lib.hid hts
        have HTT := Lib.hid htt
        obtain ⟨a0, a1, a2, a3, b0, b1, b2, b3, _⟩ := hts.cells
        have l1 := hts.size
        clear hts htt
        go_wp2_with fail
        obtain ⟨tb, htb⟩ : ∃ b, W4.heap.size = b := ⟨_, rfl⟩
        obtain ⟨V4, hV4⟩ : ∃ Wq, W4.alloc (Obj.cells #[.int .i64 X.kind, .string X.name, .int .i64 X.n, .slice g1 X.args.length c1] 24 (0, 0)) = Wq := ⟨_, rfl⟩
        rw [hV4] at HTS
        rw [hV4] at HTT
        rw [htb] at HTT
        simp only [hV4, htb]
        clear hV4 htb l1 a0 a1 a2 a3 b0 b1 b2 b3
        have hof := mof_any b a V4 _ _ (HTS.out.ib) (HTS.out.ia) (by omega) (by omega)
        refine hof.mono ?_
        rintro e W5 ⟨Z2, E2, g2, c2, rfl, hp, hb, hcase⟩
        have hZ : Z2 = msgT b a ∧ E2 = 0 := by
          rcases hcase with ⟨_, h1, h2⟩ | ⟨h0, _⟩
          · exact ⟨h1, h2⟩
          · exact absurd h0 (by simp [HRA.out, HRB.out])
        obtain ⟨hZ1, rfl⟩ := hZ
        rw [HY.out] at hZ1
        obtain rfl : X = Z2 := hZ1.symm
        have hi := Tm.inn_of_P (B := W5.heap.size) (fun _ h => h.2) _ _ hp
        have hal := (Below.refl W5.heap.size W5).alloc (Nat.le_refl _) (Obj.cells #[.int .i64 X.kind, .string X.name, .int .i64 X.n, .slice g2 X.args.length c2] 24 (0, 0))
        have hts := (HTS.out.next hb).next hal
        have htt := (HTT.out.next hb).next hal
        have htu := TmBox.new hi
        clear hof hcase hp hi hal hb HTS HTT
        have HTS := Lib.hid hts
        have HTT := Lib.hid htt
        have HTU := Lib.hid htu
        obtain ⟨a0, a1, a2, a3, b0, b1, b2, b3, _⟩ := hts.cells
        have l1 := hts.size
        clear hts htt htu
        go_wp2_with fail
        obtain ⟨ub, hub⟩ : ∃ b, W5.heap.size = b := ⟨_, rfl⟩
        obtain ⟨V5, hV5⟩ : ∃ Wq, W5.alloc (Obj.cells #[.int .i64 X.kind, .string X.name, .int .i64 X.n, .slice g2 X.args.length c2] 24 (0, 0)) = Wq := ⟨_, rfl⟩
        rw [hV5] at HTS
        rw [hV5] at HTT
        rw [hV5] at HTU
        rw [hub] at HTU
        simp only [hV5, hub]
        clear hV5 hub l1 a0 a1 a2 a3 b0 b1 b2 b3
        have hof := mof_any a a V5 _ _ (HTS.out.ia) (HTS.out.ia) (by omega) (by omega)
        refine hof.mono ?_
        rintro e W6 ⟨Z3, E3, g3, c3, rfl, hp, hb, hcase⟩
        have hZ : Z3 = msgT a a ∧ E3 = 0 := by
          rcases hcase with ⟨_, h1, h2⟩ | ⟨h0, _⟩
          · exact ⟨h1, h2⟩
          · exact absurd h0 (by simp [HRA.out])
        obtain ⟨hZ1, rfl⟩ := hZ
        rw [HV.out] at hZ1
        obtain rfl : V = Z3 := hZ1.symm
        have hi := Tm.inn_of_P (B := W6.heap.size) (fun _ h => h.2) _ _ hp
        have hal := (Below.refl W6.heap.size W6).alloc (Nat.le_refl _) (Obj.cells #[.int .i64 V.kind, .string V.name, .int .i64 V.n, .slice g3 V.args.length c3] 24 (0, 0))
        have hts := (HTS.out.next hb).next hal
        have htt := (HTT.out.next hb).next hal
        have htu := (HTU.out.next hb).next hal
        have htv := TmBox.new hi
        clear hof hcase hp hi hal hb HTS HTT HTU
        have HTS := Lib.hid hts
        have HTT := Lib.hid htt
        have HTU := Lib.hid htu
        have HTV := Lib.hid htv
        obtain ⟨a0, a1, a2, a3, b0, b1, b2, b3, _⟩ := hts.cells
        have l1 := hts.size
        clear hts htt htu htv
        go_wp2_with fail
        obtain ⟨vb, hvb⟩ : ∃ b, W6.heap.size = b := ⟨_, rfl⟩
        obtain ⟨V6, hV6⟩ : ∃ Wq, W6.alloc (Obj.cells #[.int .i64 V.kind, .string V.name, .int .i64 V.n, .slice g3 V.args.length c3] 24 (0, 0)) = Wq := ⟨_, rfl⟩
        rw [hvb] at HTV
        rw [hV6] at HTS HTT HTU HTV
        have T6 := Lib.hid (T5.mk HTS.out HTT.out HTU.out HTV.out)
        have hz6 : vb + 1 = V6.heap.size := by rw [← hV6, ← hvb]; simp
        simp only [hV6, hvb]
        clear l1 a0 a1 a2 a3 b0 b1 b2 b3 HTS HTT HTU HTV
        have hal := (Below.refl V6.heap.size V6).alloc (Nat.le_refl _) (Obj.cells #[.int .i64 a.kind, .string a.name, .int .i64 a.n, .slice ga a.args.length ca] 24 (0, 0))
        have T7 := Lib.hid (T6.out.next hal)
        have hone := one_slice (newBlk V6 (Obj.cells #[.int .i64 a.kind, .string a.name, .int .i64 a.n, .slice ga a.args.length ca] 24 (0, 0)) (vb + 1) hz6) T7.out.ts.ia
        have hnu := number_one a HRA.out _ _ hone (by omega)
        clear hal hone T6 hz6 hV6 hvb
        refine hnu.mono ?_
        rintro e W7 ⟨nb, no, cn, sn, ⟨rfl, hat⟩, hb7⟩
        rw [← msg_self (right_fair HRA.out), HV.out] at hat
        obtain ⟨gn, cn', rfl⟩ : ∃ g c, sn = .slice g V.args.length c := inn_sl6 hat.inn
        have hr7 := R7.mk (T7.out.next hb7) hat
        have H7 := Lib.hid hr7
        have HS := Lib.hid (C16.of (hr7.next ((Below.refl _ _).drew)))
        have lnb := hat.lt
        clear hnu hat hb7 hr7 T7
        go_wp2_with fail
        refine wp_region_held_drew (S := fun W' => C16 w a b (.slice ga a.args.length ca) (.slice gb b.args.length cb) tb ub vb nb no X V (.slice g1 X.args.length c1) (.slice g2 X.args.length c2) (.slice g3 V.args.length c3) (.slice gn V.args.length cn') W') (by kernel_rfl) HS.out (fun hHeld => ?_)
        clear HS H7
        refine wpAnyH_take (i := 0) (oi := _) (v := ?_) rfl (by kernel_rfl) (by kernel_rfl) (by kernel_rfl) (fun _ _ _ h => h) (Or.inl ⟨by rfl, ?_⟩) hHeld ?_
        rotate_left
        · (intro w hSw; obtain ⟨⟨t0, t1, t2, t3⟩, ⟨u0, u1, u2, u3⟩, ⟨v0, v1, v2, v3⟩, ⟨n0, n1, n2, n3⟩, _⟩ := hSw; go_simp; try with_reducible rfl)
        try simp only [Act.put, List.setIfInBounds_toArray, List.set_cons_zero, List.set_cons_succ, List.getElem_toArray, List.getElem_cons_zero]
        refine wpAnyH_take (i := 1) (oi := _) (v := ?_) rfl (by kernel_rfl) (by kernel_rfl) (by kernel_rfl) (fun _ _ _ h => h) (Or.inl ⟨by rfl, ?_⟩) hHeld ?_
        rotate_left
        · (intro w hSw; obtain ⟨⟨t0, t1, t2, t3⟩, ⟨u0, u1, u2, u3⟩, ⟨v0, v1, v2, v3⟩, ⟨n0, n1, n2, n3⟩, _⟩ := hSw; go_simp; try with_reducible rfl)
        try simp only [Act.put, List.setIfInBounds_toArray, List.set_cons_zero, List.set_cons_succ, List.getElem_toArray, List.getElem_cons_zero, List.getElem_cons_succ]
        refine wpAnyH_take (i := 2) (oi := _) (v := ?_) rfl (by kernel_rfl) (by kernel_rfl) (by kernel_rfl) (fun _ _ _ h => h) (Or.inl ⟨by rfl, ?_⟩) hHeld ?_
        rotate_left
        · (intro w hSw; obtain ⟨⟨t0, t1, t2, t3⟩, ⟨u0, u1, u2, u3⟩, ⟨v0, v1, v2, v3⟩, ⟨n0, n1, n2, n3⟩, _⟩ := hSw; go_simp; try with_reducible rfl)
        try simp only [Act.put, List.setIfInBounds_toArray, List.set_cons_zero, List.set_cons_succ, List.getElem_toArray, List.getElem_cons_zero, List.getElem_cons_succ]
        refine wpAnyH_take (i := 3) (oi := _) (v := ?_) rfl (by kernel_rfl) (by kernel_rfl) (by kernel_rfl) (fun _ _ _ h => h) (Or.inl ⟨by rfl, ?_⟩) hHeld ?_
        rotate_left
        · (intro w hSw; obtain ⟨⟨t0, t1, t2, t3⟩, ⟨u0, u1, u2, u3⟩, ⟨v0, v1, v2, v3⟩, ⟨n0, n1, n2, n3⟩, _⟩ := hSw; go_simp; try with_reducible rfl)
        try simp only [Act.put, List.setIfInBounds_toArray, List.set_cons_zero, List.set_cons_succ, List.getElem_toArray, List.getElem_cons_zero, List.getElem_cons_succ]
        refine wpAnyH_take (i := 4) (oi := _) (v := ?_) rfl (by kernel_rfl) (by kernel_rfl) (by kernel_rfl) (fun _ _ _ h => h) (Or.inl ⟨by rfl, ?_⟩) hHeld ?_
        rotate_left
        · (intro w hSw; obtain ⟨⟨t0, t1, t2, t3⟩, ⟨u0, u1, u2, u3⟩, ⟨v0, v1, v2, v3⟩, ⟨n0, n1, n2, n3⟩, _⟩ := hSw; go_simp; try with_reducible rfl)
        try simp only [Act.put, List.setIfInBounds_toArray, List.set_cons_zero, List.set_cons_succ, List.getElem_toArray, List.getElem_cons_zero, List.getElem_cons_succ]
        refine wpAnyH_take (i := 5) (oi := _) (v := ?_) rfl (by kernel_rfl) (by kernel_rfl) (by kernel_rfl) (fun _ _ _ h => h) (Or.inl ⟨by rfl, ?_⟩) hHeld ?_
        rotate_left
        · (intro w hSw; obtain ⟨⟨t0, t1, t2, t3⟩, ⟨u0, u1, u2, u3⟩, ⟨v0, v1, v2, v3⟩, ⟨n0, n1, n2, n3⟩, _⟩ := hSw; go_simp; try with_reducible rfl)
        try simp only [Act.put, List.setIfInBounds_toArray, List.set_cons_zero, List.set_cons_succ, List.getElem_toArray, List.getElem_cons_zero, List.getElem_cons_succ]
        refine wpAnyH_take (i := 6) (oi := _) (v := ?_) rfl (by kernel_rfl) (by kernel_rfl) (by kernel_rfl) (fun _ _ _ h => h) (Or.inl ⟨by rfl, ?_⟩) hHeld ?_
        rotate_left
        · (intro w hSw; obtain ⟨⟨t0, t1, t2, t3⟩, ⟨u0, u1, u2, u3⟩, ⟨v0, v1, v2, v3⟩, ⟨n0, n1, n2, n3⟩, _⟩ := hSw; go_simp; try with_reducible rfl)
        try simp only [Act.put, List.setIfInBounds_toArray, List.set_cons_zero, List.set_cons_succ, List.getElem_toArray, List.getElem_cons_zero, List.getElem_cons_succ]
        refine wpAnyH_take (i := 7) (oi := _) (v := ?_) rfl (by kernel_rfl) (by kernel_rfl) (by kernel_rfl) (fun _ _ _ h => h) (Or.inl ⟨by rfl, ?_⟩) hHeld ?_
        rotate_left
        · (intro w hSw; obtain ⟨⟨t0, t1, t2, t3⟩, ⟨u0, u1, u2, u3⟩, ⟨v0, v1, v2, v3⟩, ⟨n0, n1, n2, n3⟩, _⟩ := hSw; go_simp; try with_reducible rfl)
        try simp only [Act.put, List.setIfInBounds_toArray, List.set_cons_zero, List.set_cons_succ, List.getElem_toArray, List.getElem_cons_zero, List.getElem_cons_succ]
        refine wpAnyH_take (i := 8) (oi := _) (v := ?_) rfl (by kernel_rfl) (by kernel_rfl) (by kernel_rfl) (fun _ _ _ h => h) (Or.inl ⟨by rfl, ?_⟩) hHeld ?_
        rotate_left
        · (intro w hSw; obtain ⟨⟨t0, t1, t2, t3⟩, ⟨u0, u1, u2, u3⟩, ⟨v0, v1, v2, v3⟩, ⟨n0, n1, n2, n3⟩, _⟩ := hSw; go_simp; try with_reducible rfl)
        try simp only [Act.put, List.setIfInBounds_toArray, List.set_cons_zero, List.set_cons_succ, List.getElem_toArray, List.getElem_cons_zero, List.getElem_cons_succ]
        refine wpAnyH_take (i := 9) (oi := _) (v := ?_) rfl (by kernel_rfl) (by kernel_rfl) (by kernel_rfl) (fun _ _ _ h => h) (Or.inl ⟨by rfl, ?_⟩) hHeld ?_
        rotate_left
        · (intro w hSw; obtain ⟨⟨t0, t1, t2, t3⟩, ⟨u0, u1, u2, u3⟩, ⟨v0, v1, v2, v3⟩, ⟨n0, n1, n2, n3⟩, _⟩ := hSw; go_simp; try with_reducible rfl)
        try simp only [Act.put, List.setIfInBounds_toArray, List.set_cons_zero, List.set_cons_succ, List.getElem_toArray, List.getElem_cons_zero, List.getElem_cons_succ]
        refine wpAnyH_take (i := 10) (oi := _) (v := ?_) rfl (by kernel_rfl) (by kernel_rfl) (by kernel_rfl) (fun _ _ _ h => h) (Or.inl ⟨by rfl, ?_⟩) hHeld ?_
        rotate_left
        · (intro w hSw; obtain ⟨⟨t0, t1, t2, t3⟩, ⟨u0, u1, u2, u3⟩, ⟨v0, v1, v2, v3⟩, ⟨n0, n1, n2, n3⟩, _⟩ := hSw; go_simp; try with_reducible rfl)
        try simp only [Act.put, List.setIfInBounds_toArray, List.set_cons_zero, List.set_cons_succ, List.getElem_toArray, List.getElem_cons_zero, List.getElem_cons_succ]
        refine wpAnyH_take (i := 11) (oi := _) (v := ?_) rfl (by kernel_rfl) (by kernel_rfl) (by kernel_rfl) (fun _ _ _ h => h) (Or.inl ⟨by rfl, ?_⟩) hHeld ?_
        rotate_left
        · (intro w hSw; obtain ⟨⟨t0, t1, t2, t3⟩, ⟨u0, u1, u2, u3⟩, ⟨v0, v1, v2, v3⟩, ⟨n0, n1, n2, n3⟩, _⟩ := hSw; go_simp; try with_reducible rfl)
        try simp only [Act.put, List.setIfInBounds_toArray, List.set_cons_zero, List.set_cons_succ, List.getElem_toArray, List.getElem_cons_zero, List.getElem_cons_succ]
        refine wpAnyH_take (i := 12) (oi := _) (v := ?_) rfl (by kernel_rfl) (by kernel_rfl) (by kernel_rfl) (fun _ _ _ h => h) (Or.inl ⟨by rfl, ?_⟩) hHeld ?_
        rotate_left
        · (intro w hSw; obtain ⟨⟨t0, t1, t2, t3⟩, ⟨u0, u1, u2, u3⟩, ⟨v0, v1, v2, v3⟩, ⟨n0, n1, n2, n3⟩, _⟩ := hSw; go_simp; try with_reducible rfl)
        try simp only [Act.put, List.setIfInBounds_toArray, List.set_cons_zero, List.set_cons_succ, List.getElem_toArray, List.getElem_cons_zero, List.getElem_cons_succ]
        refine wpAnyH_take (i := 13) (oi := _) (v := ?_) rfl (by kernel_rfl) (by kernel_rfl) (by kernel_rfl) (fun _ _ _ h => h) (Or.inl ⟨by rfl, ?_⟩) hHeld ?_
        rotate_left
        · (intro w hSw; obtain ⟨⟨t0, t1, t2, t3⟩, ⟨u0, u1, u2, u3⟩, ⟨v0, v1, v2, v3⟩, ⟨n0, n1, n2, n3⟩, _⟩ := hSw; go_simp; try with_reducible rfl)
        try simp only [Act.put, List.setIfInBounds_toArray, List.set_cons_zero, List.set_cons_succ, List.getElem_toArray, List.getElem_cons_zero, List.getElem_cons_succ]
        refine wpAnyH_take (i := 14) (oi := _) (v := ?_) rfl (by kernel_rfl) (by kernel_rfl) (by kernel_rfl) (fun _ _ _ h => h) (Or.inl ⟨by rfl, ?_⟩) hHeld ?_
        rotate_left
        · (intro w hSw; obtain ⟨⟨t0, t1, t2, t3⟩, ⟨u0, u1, u2, u3⟩, ⟨v0, v1, v2, v3⟩, ⟨n0, n1, n2, n3⟩, _⟩ := hSw; go_simp; try with_reducible rfl)
        try simp only [Act.put, List.setIfInBounds_toArray, List.set_cons_zero, List.set_cons_succ, List.getElem_toArray, List.getElem_cons_zero, List.getElem_cons_succ]
        refine wpAnyH_take (i := 15) (oi := _) (v := ?_) rfl (by kernel_rfl) (by kernel_rfl) (by kernel_rfl) (fun _ _ _ h => h) (Or.inl ⟨by rfl, ?_⟩) hHeld ?_
        rotate_left
        · (intro w hSw; obtain ⟨⟨t0, t1, t2, t3⟩, ⟨u0, u1, u2, u3⟩, ⟨v0, v1, v2, v3⟩, ⟨n0, n1, n2, n3⟩, _⟩ := hSw; go_simp; try with_reducible rfl)
        try simp only [Act.put, List.setIfInBounds_toArray, List.set_cons_zero, List.set_cons_succ, List.getElem_toArray, List.getElem_cons_zero, List.getElem_cons_succ]
        refine wpAnyH_take (i := 16) (oi := _) (v := ?_) rfl (by kernel_rfl) (by kernel_rfl) (by kernel_rfl) (fun _ _ _ h => h) (Or.inl ⟨by rfl, ?_⟩) hHeld ?_
        rotate_left
        · (intro w hSw; obtain ⟨⟨t0, t1, t2, t3⟩, ⟨u0, u1, u2, u3⟩, ⟨v0, v1, v2, v3⟩, ⟨n0, n1, n2, n3⟩, _⟩ := hSw; go_simp; try with_reducible rfl)
        try simp only [Act.put, List.setIfInBounds_toArray, List.set_cons_zero, List.set_cons_succ, List.getElem_toArray, List.getElem_cons_zero, List.getElem_cons_succ]
        refine wpAnyH_take (i := 17) (oi := _) (v := ?_) rfl (by kernel_rfl) (by kernel_rfl) (by kernel_rfl) (fun _ _ _ h => h) (Or.inl ⟨by rfl, ?_⟩) hHeld ?_
        rotate_left
        · (intro w hSw; obtain ⟨⟨t0, t1, t2, t3⟩, ⟨u0, u1, u2, u3⟩, ⟨v0, v1, v2, v3⟩, ⟨n0, n1, n2, n3⟩, _⟩ := hSw; go_simp; try with_reducible rfl)
        try simp only [Act.put, List.setIfInBounds_toArray, List.set_cons_zero, List.set_cons_succ, List.getElem_toArray, List.getElem_cons_zero, List.getElem_cons_succ]
        refine wpAnyH_take (i := 18) (oi := _) (v := ?_) rfl (by kernel_rfl) (by kernel_rfl) (by kernel_rfl) (fun _ _ _ h => h) (Or.inl ⟨by rfl, ?_⟩) hHeld ?_
        rotate_left
        · (intro w hSw; obtain ⟨⟨t0, t1, t2, t3⟩, ⟨u0, u1, u2, u3⟩, ⟨v0, v1, v2, v3⟩, ⟨n0, n1, n2, n3⟩, _⟩ := hSw; go_simp; try with_reducible rfl)
        try simp only [Act.put, List.setIfInBounds_toArray, List.set_cons_zero, List.set_cons_succ, List.getElem_toArray, List.getElem_cons_zero, List.getElem_cons_succ]
        refine wpAnyH_take (i := 19) (oi := _) (v := ?_) rfl (by kernel_rfl) (by kernel_rfl) (by kernel_rfl) (fun _ _ _ h => h) (Or.inl ⟨by rfl, ?_⟩) hHeld ?_
        rotate_left
        · (intro w hSw; obtain ⟨⟨t0, t1, t2, t3⟩, ⟨u0, u1, u2, u3⟩, ⟨v0, v1, v2, v3⟩, ⟨n0, n1, n2, n3⟩, _⟩ := hSw; go_simp; try with_reducible rfl)
        try simp only [Act.put, List.setIfInBounds_toArray, List.set_cons_zero, List.set_cons_succ, List.getElem_toArray, List.getElem_cons_zero, List.getElem_cons_succ]
        refine wpAnyH_take (i := 20) (oi := _) (v := ?_) rfl (by kernel_rfl) (by kernel_rfl) (by kernel_rfl) (fun _ _ _ h => h) (Or.inl ⟨by rfl, ?_⟩) hHeld ?_
        rotate_left
        · (intro w hSw; obtain ⟨⟨t0, t1, t2, t3⟩, ⟨u0, u1, u2, u3⟩, ⟨v0, v1, v2, v3⟩, ⟨n0, n1, n2, n3⟩, _⟩ := hSw; go_simp; try with_reducible rfl)
        try simp only [Act.put, List.setIfInBounds_toArray, List.set_cons_zero, List.set_cons_succ, List.getElem_toArray, List.getElem_cons_zero, List.getElem_cons_succ]
        refine wpAnyH_take (i := 21) (oi := _) (v := ?_) rfl (by kernel_rfl) (by kernel_rfl) (by kernel_rfl) (fun _ _ _ h => h) (Or.inl ⟨by rfl, ?_⟩) hHeld ?_
        rotate_left
        · (intro w hSw; obtain ⟨⟨t0, t1, t2, t3⟩, ⟨u0, u1, u2, u3⟩, ⟨v0, v1, v2, v3⟩, ⟨n0, n1, n2, n3⟩, _⟩ := hSw; go_simp; try with_reducible rfl)
        try simp only [Act.put, List.setIfInBounds_toArray, List.set_cons_zero, List.set_cons_succ, List.getElem_toArray, List.getElem_cons_zero, List.getElem_cons_succ]
        refine wpAnyH_ready (rs := [22]) (by kernel_rfl) (by simp) ?_
        refine AllReadyH.cons (o := _) rfl (fun K hK => ?_) (AllReadyH.nil)
        go_simp
        have hsm := rsame_any X X _ _ _ _ (Nat.le_refl _) hHeld.2.2.2.2.t5.tt.2 hHeld.2.2.2.2.t5.tu.2
        rw [(Tm.same_iff X X).2 rfl] at hsm
        refine hsm.mono ?_
        rintro e U1 ⟨rfl, hbu⟩
        have HR1 := Lib.hid (C16.of (hHeld.2.2.2.2.next hbu))
        clear hbu hsm hHeld
        go_wp2_with fail
        refine hK.out _ _ (HR1.out) (fun hHeld => ?_)
        clear hK K
        try simp only [Act.put, List.setIfInBounds_toArray, List.set_cons_zero, List.set_cons_succ, List.getElem_toArray, List.getElem_cons_zero, List.getElem_cons_succ]
        clear HR1
        refine wpAnyH_take (i := 23) (oi := _) (v := ?_) rfl (by kernel_rfl) (by kernel_rfl) (by kernel_rfl) (fun _ _ _ h => h) (Or.inl ⟨by rfl, ?_⟩) hHeld ?_
        rotate_left
        · (intro w hSw; obtain ⟨⟨t0, t1, t2, t3⟩, ⟨u0, u1, u2, u3⟩, ⟨v0, v1, v2, v3⟩, ⟨n0, n1, n2, n3⟩, _⟩ := hSw; go_simp; try with_reducible rfl)
        try simp only [Act.put, List.setIfInBounds_toArray, List.set_cons_zero, List.set_cons_succ, List.getElem_toArray, List.getElem_cons_zero, List.getElem_cons_succ]
        refine wpAnyH_take (i := 24) (oi := _) (v := ?_) rfl (by kernel_rfl) (by kernel_rfl) (by kernel_rfl) (fun _ _ _ h => h) (Or.inl ⟨by rfl, ?_⟩) hHeld ?_
        rotate_left
        · (intro w hSw; obtain ⟨⟨t0, t1, t2, t3⟩, ⟨u0, u1, u2, u3⟩, ⟨v0, v1, v2, v3⟩, ⟨n0, n1, n2, n3⟩, _⟩ := hSw; go_simp; try with_reducible rfl)
        try simp only [Act.put, List.setIfInBounds_toArray, List.set_cons_zero, List.set_cons_succ, List.getElem_toArray, List.getElem_cons_zero, List.getElem_cons_succ]
        refine wpAnyH_take (i := 25) (oi := _) (v := ?_) rfl (by kernel_rfl) (by kernel_rfl) (by kernel_rfl) (fun _ _ _ h => h) (Or.inl ⟨by rfl, ?_⟩) hHeld ?_
        rotate_left
        · (intro w hSw; obtain ⟨⟨t0, t1, t2, t3⟩, ⟨u0, u1, u2, u3⟩, ⟨v0, v1, v2, v3⟩, ⟨n0, n1, n2, n3⟩, _⟩ := hSw; go_simp; try with_reducible rfl)
        try simp only [Act.put, List.setIfInBounds_toArray, List.set_cons_zero, List.set_cons_succ, List.getElem_toArray, List.getElem_cons_zero, List.getElem_cons_succ]
        refine wpAnyH_take (i := 26) (oi := _) (v := ?_) rfl (by kernel_rfl) (by kernel_rfl) (by kernel_rfl) (fun _ _ _ h => h) (Or.inl ⟨by rfl, ?_⟩) hHeld ?_
        rotate_left
        · (intro w hSw; obtain ⟨⟨t0, t1, t2, t3⟩, ⟨u0, u1, u2, u3⟩, ⟨v0, v1, v2, v3⟩, ⟨n0, n1, n2, n3⟩, _⟩ := hSw; go_simp; try with_reducible rfl)
        try simp only [Act.put, List.setIfInBounds_toArray, List.set_cons_zero, List.set_cons_succ, List.getElem_toArray, List.getElem_cons_zero, List.getElem_cons_succ]
        refine wpAnyH_take (i := 27) (oi := _) (v := ?_) rfl (by kernel_rfl) (by kernel_rfl) (by kernel_rfl) (fun _ _ _ h => h) (Or.inl ⟨by rfl, ?_⟩) hHeld ?_
        rotate_left
        · (intro w hSw; obtain ⟨⟨t0, t1, t2, t3⟩, ⟨u0, u1, u2, u3⟩, ⟨v0, v1, v2, v3⟩, ⟨n0, n1, n2, n3⟩, _⟩ := hSw; go_simp; try with_reducible rfl)
        try simp only [Act.put, List.setIfInBounds_toArray, List.set_cons_zero, List.set_cons_succ, List.getElem_toArray, List.getElem_cons_zero, List.getElem_cons_succ]
        refine wpAnyH_take (i := 28) (oi := _) (v := ?_) rfl (by kernel_rfl) (by kernel_rfl) (by kernel_rfl) (fun _ _ _ h => h) (Or.inl ⟨by rfl, ?_⟩) hHeld ?_
        rotate_left
        · (intro w hSw; obtain ⟨⟨t0, t1, t2, t3⟩, ⟨u0, u1, u2, u3⟩, ⟨v0, v1, v2, v3⟩, ⟨n0, n1, n2, n3⟩, _⟩ := hSw; go_simp; try with_reducible rfl)
        try simp only [Act.put, List.setIfInBounds_toArray, List.set_cons_zero, List.set_cons_succ, List.getElem_toArray, List.getElem_cons_zero, List.getElem_cons_succ]
        refine wpAnyH_take (i := 29) (oi := _) (v := ?_) rfl (by kernel_rfl) (by kernel_rfl) (by kernel_rfl) (fun _ _ _ h => h) (Or.inl ⟨by rfl, ?_⟩) hHeld ?_
        rotate_left
        · (intro w hSw; obtain ⟨⟨t0, t1, t2, t3⟩, ⟨u0, u1, u2, u3⟩, ⟨v0, v1, v2, v3⟩, ⟨n0, n1, n2, n3⟩, _⟩ := hSw; go_simp; try with_reducible rfl)
        try simp only [Act.put, List.setIfInBounds_toArray, List.set_cons_zero, List.set_cons_succ, List.getElem_toArray, List.getElem_cons_zero, List.getElem_cons_succ]
        refine wpAnyH_ready (rs := [30]) (by kernel_rfl) (by simp) ?_
        refine AllReadyH.cons (o := _) rfl (fun K hK => ?_) (AllReadyH.nil)
        go_simp
        have hsm := rsame_any V V _ _ _ _ (Nat.le_refl _) hHeld.2.2.2.2.t5.tv.2 hHeld.2.2.2.2.tn.inn
        rw [(Tm.same_iff V V).2 rfl] at hsm
        refine hsm.mono ?_
        rintro e U2 ⟨rfl, hbu⟩
        have HR1 := Lib.hid (C16.of (hHeld.2.2.2.2.next hbu))
        clear hbu hsm hHeld
        go_wp2_with fail
        refine hK.out _ _ (HR1.out) (fun hHeld => ?_)
        clear hK K
        try simp only [Act.put, List.setIfInBounds_toArray, List.set_cons_zero, List.set_cons_succ, List.getElem_toArray, List.getElem_cons_zero, List.getElem_cons_succ]
        clear HR1
        refine wpAnyH_take (i := 31) (oi := _) (v := ?_) rfl (by kernel_rfl) (by kernel_rfl) (by kernel_rfl) (fun _ _ _ h => h) (Or.inl ⟨by rfl, ?_⟩) hHeld ?_
        rotate_left
        · (intro w hSw; obtain ⟨⟨t0, t1, t2, t3⟩, ⟨u0, u1, u2, u3⟩, ⟨v0, v1, v2, v3⟩, ⟨n0, n1, n2, n3⟩, _⟩ := hSw; go_simp; try with_reducible rfl)
        try simp only [Act.put, List.setIfInBounds_toArray, List.set_cons_zero, List.set_cons_succ, List.getElem_toArray, List.getElem_cons_zero, List.getElem_cons_succ]
        refine wpAnyH_take (i := 32) (oi := _) (v := ?_) rfl (by kernel_rfl) (by kernel_rfl) (by kernel_rfl) (fun _ _ _ h => h) (Or.inl ⟨by rfl, ?_⟩) hHeld ?_
        rotate_left
        · (intro w hSw; obtain ⟨⟨t0, t1, t2, t3⟩, ⟨u0, u1, u2, u3⟩, ⟨v0, v1, v2, v3⟩, ⟨n0, n1, n2, n3⟩, _⟩ := hSw; go_simp; try with_reducible rfl)
        try simp only [Act.put, List.setIfInBounds_toArray, List.set_cons_zero, List.set_cons_succ, List.getElem_toArray, List.getElem_cons_zero, List.getElem_cons_succ]
        refine wpAnyH_done (by kernel_rfl) ?_ _
        have H8 := Lib.hid hHeld.2.2.2.2.t5
        have HS := Lib.hid (C16b.of (hHeld.2.2.2.2.t5.next ((Below.refl _ _).drew)))
        clear hHeld
        go_wp2_with fail
        obtain ⟨q, hq⟩ : ∃ q, inst b a = q := ⟨_, rfl⟩
        have hmi : (a.right && b.right && inst b a) = q := by rw [HRA.out, HRB.out, hq]; rfl
        have hzz : q = true → X = V := fun h => by rw [← HX.out, ← HV.out]; exact msg_of_inst (right_fair HRA.out) (hq.trans h)
        have HMI := Lib.hid hmi
        have HZZ := Lib.hid hzz
        have HS1 := Lib.hid (show X.size ≤ a.size by rw [← HX.out]; exact (gen_size a b).1)
        have HS2 := Lib.hid (show X.size ≤ b.size by rw [← HX.out]; exact (gen_size a b).2.1)
        have hs1 : (X.size : Int) ≤ (a.size : Int) := by have := HS1.out; omega
        have hs2 : (X.size : Int) ≤ (b.size : Int) := by have := HS2.out; omega
        have hs3 : X.size ≤ 4000 := by have := HS1.out; omega
        clear hq hmi hzz HX HV HY
        refine wp_region_held_drew (S := fun W' => C16b w a b (.slice ga a.args.length ca) (.slice gb b.args.length cb) tb ub vb X V (.slice g1 X.args.length c1) (.slice g2 X.args.length c2) (.slice g3 V.args.length c3) W') (by kernel_rfl) HS.out (fun hHeld => ?_)
        clear HS H8
        refine wpAnyH_take (i := 0) (oi := _) (v := ?_) rfl (by kernel_rfl) (by kernel_rfl) (by kernel_rfl) (fun _ _ _ h => h) (Or.inl ⟨by rfl, ?_⟩) hHeld ?_
        rotate_left
        · (intro w hSw; obtain ⟨⟨a0, a1, a2, a3⟩, ⟨b0, b1, b2, b3⟩, ⟨t0, t1, t2, t3⟩, ⟨v0, v1, v2, v3⟩, _⟩ := hSw; go_simp; try with_reducible rfl)
        try simp only [Act.put, List.setIfInBounds_toArray, List.set_cons_zero, List.set_cons_succ, List.getElem_toArray, List.getElem_cons_zero]
        refine wpAnyH_take (i := 1) (oi := _) (v := ?_) rfl (by kernel_rfl) (by kernel_rfl) (by kernel_rfl) (fun _ _ _ h => h) (Or.inl ⟨by rfl, ?_⟩) hHeld ?_
        rotate_left
        · (intro w hSw; obtain ⟨⟨a0, a1, a2, a3⟩, ⟨b0, b1, b2, b3⟩, ⟨t0, t1, t2, t3⟩, ⟨v0, v1, v2, v3⟩, _⟩ := hSw; go_simp; try with_reducible rfl)
        try simp only [Act.put, List.setIfInBounds_toArray, List.set_cons_zero, List.set_cons_succ, List.getElem_toArray, List.getElem_cons_zero, List.getElem_cons_succ]
        refine wpAnyH_ready (rs := [2]) (by kernel_rfl) (by simp) ?_
        refine AllReadyH.cons (o := _) rfl (fun K hK => ?_) (AllReadyH.nil)
        go_simp
        have hc := instance_any b a _ _ _ hHeld.2.2.2.2.ts.ib hHeld.2.2.2.2.ts.ia (by omega) (by omega)
        rw [HMI.out] at hc
        refine hc.mono ?_
        rintro e U ⟨rfl, hbu⟩
        have HR1 := Lib.hid (C16b.of (hHeld.2.2.2.2.next hbu))
        clear hbu hc hHeld
        go_wp2_with fail
        refine hK.out _ _ (HR1.out) (fun hHeld => ?_)
        clear hK K
        try simp only [Act.put, List.setIfInBounds_toArray, List.set_cons_zero, List.set_cons_succ, List.getElem_toArray, List.getElem_cons_zero, List.getElem_cons_succ]
        clear HR1
        cases q with
        | false =>
          refine wpAnyH_take (i := 3) (oi := _) (v := ?_) rfl (by kernel_rfl) (by kernel_rfl) (by kernel_rfl) (fun _ _ _ h => h) (Or.inl ⟨by rfl, ?_⟩) hHeld ?_
          rotate_left
          · (intro w hSw; obtain ⟨⟨a0, a1, a2, a3⟩, ⟨b0, b1, b2, b3⟩, ⟨t0, t1, t2, t3⟩, ⟨v0, v1, v2, v3⟩, _⟩ := hSw; go_simp; try with_reducible rfl)
          try simp only [Act.put, List.setIfInBounds_toArray, List.set_cons_zero, List.set_cons_succ, List.getElem_toArray, List.getElem_cons_zero, List.getElem_cons_succ]
          refine wpAnyH_take (i := 4) (oi := _) (v := ?_) rfl (by kernel_rfl) (by kernel_rfl) (by kernel_rfl) (fun _ _ _ h => h) (Or.inl ⟨by rfl, ?_⟩) hHeld ?_
          rotate_left
          · (intro w hSw; obtain ⟨⟨a0, a1, a2, a3⟩, ⟨b0, b1, b2, b3⟩, ⟨t0, t1, t2, t3⟩, ⟨v0, v1, v2, v3⟩, _⟩ := hSw; go_simp; try with_reducible rfl)
          try simp only [Act.put, List.setIfInBounds_toArray, List.set_cons_zero, List.set_cons_succ, List.getElem_toArray, List.getElem_cons_zero, List.getElem_cons_succ]
          refine wpAnyH_take (i := 5) (oi := _) (v := undef) rfl (by kernel_rfl) (by kernel_rfl) (by kernel_rfl) (fun _ _ _ h => h) (Or.inr ⟨by rfl, rfl⟩) hHeld ?_
          try simp only [Act.put, List.setIfInBounds_toArray, List.set_cons_zero, List.set_cons_succ, List.getElem_toArray, List.getElem_cons_zero, List.getElem_cons_succ]
          refine wpAnyH_take (i := 6) (oi := _) (v := undef) rfl (by kernel_rfl) (by kernel_rfl) (by kernel_rfl) (fun _ _ _ h => h) (Or.inr ⟨by rfl, rfl⟩) hHeld ?_
          try simp only [Act.put, List.setIfInBounds_toArray, List.set_cons_zero, List.set_cons_succ, List.getElem_toArray, List.getElem_cons_zero, List.getElem_cons_succ]
          refine wpAnyH_ready (rs := [7]) (by kernel_rfl) (by simp) ?_
          refine AllReadyH.cons (o := _) rfl (fun K hK => ?_) AllReadyH.nil
          go_simp
          refine hK.out _ _ hHeld (fun hHeld => ?_)
          clear hK K
          try simp only [Act.put, List.setIfInBounds_toArray, List.set_cons_zero, List.set_cons_succ, List.getElem_toArray, List.getElem_cons_zero, List.getElem_cons_succ]
          refine wpAnyH_take (i := 8) (oi := _) (v := ?_) rfl (by kernel_rfl) (by kernel_rfl) (by kernel_rfl) (fun _ _ _ h => h) (Or.inl ⟨by rfl, ?_⟩) hHeld ?_
          rotate_left
          · (intro w hSw; obtain ⟨⟨a0, a1, a2, a3⟩, ⟨b0, b1, b2, b3⟩, ⟨t0, t1, t2, t3⟩, ⟨v0, v1, v2, v3⟩, _⟩ := hSw; go_simp; try with_reducible rfl)
          try simp only [Act.put, List.setIfInBounds_toArray, List.set_cons_zero, List.set_cons_succ, List.getElem_toArray, List.getElem_cons_zero, List.getElem_cons_succ]
          refine wpAnyH_take (i := 9) (oi := _) (v := ?_) rfl (by kernel_rfl) (by kernel_rfl) (by kernel_rfl) (fun _ _ _ h => h) (Or.inl ⟨by rfl, ?_⟩) hHeld ?_
          rotate_left
          · (intro w hSw; obtain ⟨⟨a0, a1, a2, a3⟩, ⟨b0, b1, b2, b3⟩, ⟨t0, t1, t2, t3⟩, ⟨v0, v1, v2, v3⟩, _⟩ := hSw; go_simp; try with_reducible rfl)
          try simp only [Act.put, List.setIfInBounds_toArray, List.set_cons_zero, List.set_cons_succ, List.getElem_toArray, List.getElem_cons_zero, List.getElem_cons_succ]
          refine wpAnyH_take (i := 10) (oi := _) (v := ?_) rfl (by kernel_rfl) (by kernel_rfl) (by kernel_rfl) (fun _ _ _ h => h) (Or.inl ⟨by rfl, ?_⟩) hHeld ?_
          rotate_left
          · (intro w hSw; obtain ⟨⟨a0, a1, a2, a3⟩, ⟨b0, b1, b2, b3⟩, ⟨t0, t1, t2, t3⟩, ⟨v0, v1, v2, v3⟩, _⟩ := hSw; go_simp; try with_reducible rfl)
          try simp only [Act.put, List.setIfInBounds_toArray, List.set_cons_zero, List.set_cons_succ, List.getElem_toArray, List.getElem_cons_zero, List.getElem_cons_succ]
          refine wpAnyH_take (i := 12) (oi := _) (v := ?_) rfl (by kernel_rfl) (by kernel_rfl) (by kernel_rfl) (fun _ _ _ h => h) (Or.inl ⟨by rfl, ?_⟩) hHeld ?_
          rotate_left
          · (intro w hSw; obtain ⟨⟨a0, a1, a2, a3⟩, ⟨b0, b1, b2, b3⟩, ⟨t0, t1, t2, t3⟩, ⟨v0, v1, v2, v3⟩, _⟩ := hSw; go_simp; try with_reducible rfl)
          try simp only [Act.put, List.setIfInBounds_toArray, List.set_cons_zero, List.set_cons_succ, List.getElem_toArray, List.getElem_cons_zero, List.getElem_cons_succ]
          refine wpAnyH_ready (rs := [11]) (by kernel_rfl) (by simp) ?_
          refine AllReadyH.cons (o := _) rfl (fun K hK => ?_) (AllReadyH.nil)
          go_simp
          have hc := size6_any X _ _ hHeld.2.2.2.2.tt.2 (by omega)
          refine hc.mono ?_
          rintro e U ⟨rfl, hbu⟩
          have HR1 := Lib.hid (C16b.of (hHeld.2.2.2.2.next hbu))
          clear hbu hc hHeld
          go_wp2_with fail
          refine hK.out _ _ (HR1.out) (fun hHeld => ?_)
          clear hK K
          try simp only [Act.put, List.setIfInBounds_toArray, List.set_cons_zero, List.set_cons_succ, List.getElem_toArray, List.getElem_cons_zero, List.getElem_cons_succ]
          clear HR1
          refine wpAnyH_ready (rs := [13]) (by kernel_rfl) (by simp) ?_
          refine AllReadyH.cons (o := _) rfl (fun K hK => ?_) (AllReadyH.nil)
          go_simp
          have hc := size6_any a _ _ hHeld.2.2.2.2.ts.ia (by omega)
          refine hc.mono ?_
          rintro e U ⟨rfl, hbu⟩
          have HR1 := Lib.hid (C16b.of (hHeld.2.2.2.2.next hbu))
          clear hbu hc hHeld
          go_wp2_with fail
          refine hK.out _ _ (HR1.out) (fun hHeld => ?_)
          clear hK K
          try simp only [Act.put, List.setIfInBounds_toArray, List.set_cons_zero, List.set_cons_succ, List.getElem_toArray, List.getElem_cons_zero, List.getElem_cons_succ]
          clear HR1
          refine wpAnyH_take (i := 14) (oi := _) (v := ?_) rfl (by kernel_rfl) (by kernel_rfl) (by kernel_rfl) (fun _ _ _ h => h) (Or.inl ⟨by rfl, ?_⟩) hHeld ?_
          rotate_left
          · (intro w hSw; obtain ⟨⟨a0, a1, a2, a3⟩, ⟨b0, b1, b2, b3⟩, ⟨t0, t1, t2, t3⟩, ⟨v0, v1, v2, v3⟩, _⟩ := hSw; go_simp; try with_reducible rfl)
          try simp only [Act.put, List.setIfInBounds_toArray, List.set_cons_zero, List.set_cons_succ, List.getElem_toArray, List.getElem_cons_zero, List.getElem_cons_succ]
          refine wpAnyH_take (i := 15) (oi := _) (v := ?_) rfl (by kernel_rfl) (by kernel_rfl) (by kernel_rfl) (fun _ _ _ h => h) (Or.inl ⟨by rfl, ?_⟩) hHeld ?_
          rotate_left
          · (intro w hSw; obtain ⟨⟨a0, a1, a2, a3⟩, ⟨b0, b1, b2, b3⟩, ⟨t0, t1, t2, t3⟩, ⟨v0, v1, v2, v3⟩, _⟩ := hSw; go_simp; try with_reducible rfl)
          try simp only [Act.put, List.setIfInBounds_toArray, List.set_cons_zero, List.set_cons_succ, List.getElem_toArray, List.getElem_cons_zero, List.getElem_cons_succ]
          refine wpAnyH_take (i := 16) (oi := _) (v := ?_) rfl (by kernel_rfl) (by kernel_rfl) (by kernel_rfl) (fun _ _ _ h => h) (Or.inl ⟨by rfl, ?_⟩) hHeld ?_
          rotate_left
          · (intro w hSw; obtain ⟨⟨a0, a1, a2, a3⟩, ⟨b0, b1, b2, b3⟩, ⟨t0, t1, t2, t3⟩, ⟨v0, v1, v2, v3⟩, _⟩ := hSw; go_simp; try with_reducible rfl)
          try simp only [Act.put, List.setIfInBounds_toArray, List.set_cons_zero, List.set_cons_succ, List.getElem_toArray, List.getElem_cons_zero, List.getElem_cons_succ]
          refine wpAnyH_take (i := 17) (oi := _) (v := ?_) rfl (by kernel_rfl) (by kernel_rfl) (by kernel_rfl) (fun _ _ _ h => h) (Or.inl ⟨by rfl, ?_⟩) hHeld ?_
          rotate_left
          · (intro w hSw; obtain ⟨⟨a0, a1, a2, a3⟩, ⟨b0, b1, b2, b3⟩, ⟨t0, t1, t2, t3⟩, ⟨v0, v1, v2, v3⟩, _⟩ := hSw; go_simp; try with_reducible rfl)
          try simp only [Act.put, List.setIfInBounds_toArray, List.set_cons_zero, List.set_cons_succ, List.getElem_toArray, List.getElem_cons_zero, List.getElem_cons_succ]
          refine wpAnyH_take (i := 19) (oi := _) (v := ?_) rfl (by kernel_rfl) (by kernel_rfl) (by kernel_rfl) (fun _ _ _ h => h) (Or.inl ⟨by rfl, ?_⟩) hHeld ?_
          rotate_left
          · (intro w hSw; obtain ⟨⟨a0, a1, a2, a3⟩, ⟨b0, b1, b2, b3⟩, ⟨t0, t1, t2, t3⟩, ⟨v0, v1, v2, v3⟩, _⟩ := hSw; go_simp; try with_reducible rfl)
          try simp only [Act.put, List.setIfInBounds_toArray, List.set_cons_zero, List.set_cons_succ, List.getElem_toArray, List.getElem_cons_zero, List.getElem_cons_succ]
          refine wpAnyH_ready (rs := [18]) (by kernel_rfl) (by simp) ?_
          refine AllReadyH.cons (o := _) rfl (fun K hK => ?_) (AllReadyH.nil)
          go_simp
          have hc := size6_any X _ _ hHeld.2.2.2.2.tt.2 (by omega)
          refine hc.mono ?_
          rintro e U ⟨rfl, hbu⟩
          have HR1 := Lib.hid (C16b.of (hHeld.2.2.2.2.next hbu))
          clear hbu hc hHeld
          go_wp2_with fail
          refine hK.out _ _ (HR1.out) (fun hHeld => ?_)
          clear hK K
          try simp only [Act.put, List.setIfInBounds_toArray, List.set_cons_zero, List.set_cons_succ, List.getElem_toArray, List.getElem_cons_zero, List.getElem_cons_succ]
          clear HR1
          refine wpAnyH_ready (rs := [20]) (by kernel_rfl) (by simp) ?_
          refine AllReadyH.cons (o := _) rfl (fun K hK => ?_) (AllReadyH.nil)
          go_simp
          have hc := size6_any b _ _ hHeld.2.2.2.2.ts.ib (by omega)
          refine hc.mono ?_
          rintro e U ⟨rfl, hbu⟩
          have HR1 := Lib.hid (C16b.of (hHeld.2.2.2.2.next hbu))
          clear hbu hc hHeld
          go_wp2_with fail
          refine hK.out _ _ (HR1.out) (fun hHeld => ?_)
          clear hK K
          try simp only [Act.put, List.setIfInBounds_toArray, List.set_cons_zero, List.set_cons_succ, List.getElem_toArray, List.getElem_cons_zero, List.getElem_cons_succ]
          clear HR1
          refine wpAnyH_take (i := 21) (oi := _) (v := ?_) rfl (by kernel_rfl) (by kernel_rfl) (by kernel_rfl) (fun _ _ _ h => h) (Or.inl ⟨by rfl, ?_⟩) hHeld ?_
          rotate_left
          · (intro w hSw; obtain ⟨⟨a0, a1, a2, a3⟩, ⟨b0, b1, b2, b3⟩, ⟨t0, t1, t2, t3⟩, ⟨v0, v1, v2, v3⟩, _⟩ := hSw; go_simp; try with_reducible rfl)
          try simp only [Act.put, List.setIfInBounds_toArray, List.set_cons_zero, List.set_cons_succ, List.getElem_toArray, List.getElem_cons_zero, List.getElem_cons_succ]
          refine wpAnyH_take (i := 22) (oi := _) (v := ?_) rfl (by kernel_rfl) (by kernel_rfl) (by kernel_rfl) (fun _ _ _ h => h) (Or.inl ⟨by rfl, ?_⟩) hHeld ?_
          rotate_left
          · (intro w hSw; obtain ⟨⟨a0, a1, a2, a3⟩, ⟨b0, b1, b2, b3⟩, ⟨t0, t1, t2, t3⟩, ⟨v0, v1, v2, v3⟩, _⟩ := hSw; go_simp; try with_reducible rfl)
          try simp only [Act.put, List.setIfInBounds_toArray, List.set_cons_zero, List.set_cons_succ, List.getElem_toArray, List.getElem_cons_zero, List.getElem_cons_succ]
          refine wpAnyH_take (i := 23) (oi := _) (v := ?_) rfl (by kernel_rfl) (by kernel_rfl) (by kernel_rfl) (fun _ _ _ h => h) (Or.inl ⟨by rfl, ?_⟩) hHeld ?_
          rotate_left
          · (intro w hSw; obtain ⟨⟨a0, a1, a2, a3⟩, ⟨b0, b1, b2, b3⟩, ⟨t0, t1, t2, t3⟩, ⟨v0, v1, v2, v3⟩, _⟩ := hSw; go_simp; try with_reducible rfl)
          try simp only [Act.put, List.setIfInBounds_toArray, List.set_cons_zero, List.set_cons_succ, List.getElem_toArray, List.getElem_cons_zero, List.getElem_cons_succ]
          refine wpAnyH_ready (rs := [24]) (by kernel_rfl) (by simp) ?_
          refine AllReadyH.cons (o := _) rfl (fun K hK => ?_) (AllReadyH.nil)
          go_simp
          have hc := k6_any U
          refine hc.mono ?_
          rintro e U ⟨rfl, hbu⟩
          have HR1 := Lib.hid (C16b.of (hHeld.2.2.2.2.next hbu))
          clear hbu hc hHeld
          go_wp2_with fail
          refine hK.out _ _ (HR1.out) (fun hHeld => ?_)
          clear hK K
          try simp only [Act.put, List.setIfInBounds_toArray, List.set_cons_zero, List.set_cons_succ, List.getElem_toArray, List.getElem_cons_zero, List.getElem_cons_succ]
          clear HR1
          refine wpAnyH_take (i := 25) (oi := _) (v := ?_) rfl (by kernel_rfl) (by kernel_rfl) (by kernel_rfl) (fun _ _ _ h => h) (Or.inl ⟨by rfl, ?_⟩) hHeld ?_
          rotate_left
          · (intro w hSw; obtain ⟨⟨a0, a1, a2, a3⟩, ⟨b0, b1, b2, b3⟩, ⟨t0, t1, t2, t3⟩, ⟨v0, v1, v2, v3⟩, _⟩ := hSw; go_simp; try with_reducible rfl)
          try simp only [Act.put, List.setIfInBounds_toArray, List.set_cons_zero, List.set_cons_succ, List.getElem_toArray, List.getElem_cons_zero, List.getElem_cons_succ]
          refine wpAnyH_ready (rs := [26]) (by kernel_rfl) (by simp) ?_
          refine AllReadyH.cons (o := _) rfl (fun K hK => ?_) AllReadyH.nil
          go_simp
          refine hK.out _ _ (hHeld) (fun hHeld => ?_)
          clear hK K
          try simp only [Act.put, List.setIfInBounds_toArray, List.set_cons_zero, List.set_cons_succ, List.getElem_toArray, List.getElem_cons_zero, List.getElem_cons_succ]
          refine wpAnyH_done (by kernel_rfl) ?_ _
          have HB := Lib.hid hHeld.2.2.2.2.ts.below
          clear hHeld
          go_wp2_with fail
          go_ret
          exact ⟨rfl, HB.out⟩
        | true =>
          obtain rfl := HZZ.out (by simp)
          refine wpAnyH_take (i := 3) (oi := _) (v := ?_) rfl (by kernel_rfl) (by kernel_rfl) (by kernel_rfl) (fun _ _ _ h => h) (Or.inl ⟨by rfl, ?_⟩) hHeld ?_
          rotate_left
          · (intro w hSw; obtain ⟨⟨a0, a1, a2, a3⟩, ⟨b0, b1, b2, b3⟩, ⟨t0, t1, t2, t3⟩, ⟨v0, v1, v2, v3⟩, _⟩ := hSw; go_simp; try with_reducible rfl)
          try simp only [Act.put, List.setIfInBounds_toArray, List.set_cons_zero, List.set_cons_succ, List.getElem_toArray, List.getElem_cons_zero, List.getElem_cons_succ]
          refine wpAnyH_take (i := 4) (oi := _) (v := ?_) rfl (by kernel_rfl) (by kernel_rfl) (by kernel_rfl) (fun _ _ _ h => h) (Or.inl ⟨by rfl, ?_⟩) hHeld ?_
          rotate_left
          · (intro w hSw; obtain ⟨⟨a0, a1, a2, a3⟩, ⟨b0, b1, b2, b3⟩, ⟨t0, t1, t2, t3⟩, ⟨v0, v1, v2, v3⟩, _⟩ := hSw; go_simp; try with_reducible rfl)
          try simp only [Act.put, List.setIfInBounds_toArray, List.set_cons_zero, List.set_cons_succ, List.getElem_toArray, List.getElem_cons_zero, List.getElem_cons_succ]
          refine wpAnyH_take (i := 5) (oi := _) (v := ?_) rfl (by kernel_rfl) (by kernel_rfl) (by kernel_rfl) (fun _ _ _ h => h) (Or.inl ⟨by rfl, ?_⟩) hHeld ?_
          rotate_left
          · (intro w hSw; obtain ⟨⟨a0, a1, a2, a3⟩, ⟨b0, b1, b2, b3⟩, ⟨t0, t1, t2, t3⟩, ⟨v0, v1, v2, v3⟩, _⟩ := hSw; go_simp; try with_reducible rfl)
          try simp only [Act.put, List.setIfInBounds_toArray, List.set_cons_zero, List.set_cons_succ, List.getElem_toArray, List.getElem_cons_zero, List.getElem_cons_succ]
          refine wpAnyH_take (i := 6) (oi := _) (v := ?_) rfl (by kernel_rfl) (by kernel_rfl) (by kernel_rfl) (fun _ _ _ h => h) (Or.inl ⟨by rfl, ?_⟩) hHeld ?_
          rotate_left
          · (intro w hSw; obtain ⟨⟨a0, a1, a2, a3⟩, ⟨b0, b1, b2, b3⟩, ⟨t0, t1, t2, t3⟩, ⟨v0, v1, v2, v3⟩, _⟩ := hSw; go_simp; try with_reducible rfl)
          try simp only [Act.put, List.setIfInBounds_toArray, List.set_cons_zero, List.set_cons_succ, List.getElem_toArray, List.getElem_cons_zero, List.getElem_cons_succ]
          refine wpAnyH_ready (rs := [7]) (by kernel_rfl) (by simp) ?_
          refine AllReadyH.cons (o := _) rfl (fun K hK => ?_) (AllReadyH.nil)
          go_simp
          have hc := rsame_any X X _ _ _ _ (Nat.le_refl _) hHeld.2.2.2.2.tt.2 hHeld.2.2.2.2.tv.2
          rw [(Tm.same_iff X X).2 rfl] at hc
          refine hc.mono ?_
          rintro e U ⟨rfl, hbu⟩
          have HR1 := Lib.hid (C16b.of (hHeld.2.2.2.2.next hbu))
          clear hbu hc hHeld
          go_wp2_with fail
          refine hK.out _ _ (HR1.out) (fun hHeld => ?_)
          clear hK K
          try simp only [Act.put, List.setIfInBounds_toArray, List.set_cons_zero, List.set_cons_succ, List.getElem_toArray, List.getElem_cons_zero, List.getElem_cons_succ]
          clear HR1
          refine wpAnyH_take (i := 8) (oi := _) (v := ?_) rfl (by kernel_rfl) (by kernel_rfl) (by kernel_rfl) (fun _ _ _ h => h) (Or.inl ⟨by rfl, ?_⟩) hHeld ?_
          rotate_left
          · (intro w hSw; obtain ⟨⟨a0, a1, a2, a3⟩, ⟨b0, b1, b2, b3⟩, ⟨t0, t1, t2, t3⟩, ⟨v0, v1, v2, v3⟩, _⟩ := hSw; go_simp; try with_reducible rfl)
          try simp only [Act.put, List.setIfInBounds_toArray, List.set_cons_zero, List.set_cons_succ, List.getElem_toArray, List.getElem_cons_zero, List.getElem_cons_succ]
          refine wpAnyH_take (i := 9) (oi := _) (v := ?_) rfl (by kernel_rfl) (by kernel_rfl) (by kernel_rfl) (fun _ _ _ h => h) (Or.inl ⟨by rfl, ?_⟩) hHeld ?_
          rotate_left
          · (intro w hSw; obtain ⟨⟨a0, a1, a2, a3⟩, ⟨b0, b1, b2, b3⟩, ⟨t0, t1, t2, t3⟩, ⟨v0, v1, v2, v3⟩, _⟩ := hSw; go_simp; try with_reducible rfl)
          try simp only [Act.put, List.setIfInBounds_toArray, List.set_cons_zero, List.set_cons_succ, List.getElem_toArray, List.getElem_cons_zero, List.getElem_cons_succ]
          refine wpAnyH_take (i := 10) (oi := _) (v := ?_) rfl (by kernel_rfl) (by kernel_rfl) (by kernel_rfl) (fun _ _ _ h => h) (Or.inl ⟨by rfl, ?_⟩) hHeld ?_
          rotate_left
          · (intro w hSw; obtain ⟨⟨a0, a1, a2, a3⟩, ⟨b0, b1, b2, b3⟩, ⟨t0, t1, t2, t3⟩, ⟨v0, v1, v2, v3⟩, _⟩ := hSw; go_simp; try with_reducible rfl)
          try simp only [Act.put, List.setIfInBounds_toArray, List.set_cons_zero, List.set_cons_succ, List.getElem_toArray, List.getElem_cons_zero, List.getElem_cons_succ]
          refine wpAnyH_take (i := 12) (oi := _) (v := ?_) rfl (by kernel_rfl) (by kernel_rfl) (by kernel_rfl) (fun _ _ _ h => h) (Or.inl ⟨by rfl, ?_⟩) hHeld ?_
          rotate_left
          · (intro w hSw; obtain ⟨⟨a0, a1, a2, a3⟩, ⟨b0, b1, b2, b3⟩, ⟨t0, t1, t2, t3⟩, ⟨v0, v1, v2, v3⟩, _⟩ := hSw; go_simp; try with_reducible rfl)
          try simp only [Act.put, List.setIfInBounds_toArray, List.set_cons_zero, List.set_cons_succ, List.getElem_toArray, List.getElem_cons_zero, List.getElem_cons_succ]
          refine wpAnyH_ready (rs := [11]) (by kernel_rfl) (by simp) ?_
          refine AllReadyH.cons (o := _) rfl (fun K hK => ?_) (AllReadyH.nil)
          go_simp
          have hc := size6_any X _ _ hHeld.2.2.2.2.tt.2 (by omega)
          refine hc.mono ?_
          rintro e U ⟨rfl, hbu⟩
          have HR1 := Lib.hid (C16b.of (hHeld.2.2.2.2.next hbu))
          clear hbu hc hHeld
          go_wp2_with fail
          refine hK.out _ _ (HR1.out) (fun hHeld => ?_)
          clear hK K
          try simp only [Act.put, List.setIfInBounds_toArray, List.set_cons_zero, List.set_cons_succ, List.getElem_toArray, List.getElem_cons_zero, List.getElem_cons_succ]
          clear HR1
          refine wpAnyH_ready (rs := [13]) (by kernel_rfl) (by simp) ?_
          refine AllReadyH.cons (o := _) rfl (fun K hK => ?_) (AllReadyH.nil)
          go_simp
          have hc := size6_any a _ _ hHeld.2.2.2.2.ts.ia (by omega)
          refine hc.mono ?_
          rintro e U ⟨rfl, hbu⟩
          have HR1 := Lib.hid (C16b.of (hHeld.2.2.2.2.next hbu))
          clear hbu hc hHeld
          go_wp2_with fail
          refine hK.out _ _ (HR1.out) (fun hHeld => ?_)
          clear hK K
          try simp only [Act.put, List.setIfInBounds_toArray, List.set_cons_zero, List.set_cons_succ, List.getElem_toArray, List.getElem_cons_zero, List.getElem_cons_succ]
          clear HR1
          refine wpAnyH_take (i := 14) (oi := _) (v := ?_) rfl (by kernel_rfl) (by kernel_rfl) (by kernel_rfl) (fun _ _ _ h => h) (Or.inl ⟨by rfl, ?_⟩) hHeld ?_
          rotate_left
          · (intro w hSw; obtain ⟨⟨a0, a1, a2, a3⟩, ⟨b0, b1, b2, b3⟩, ⟨t0, t1, t2, t3⟩, ⟨v0, v1, v2, v3⟩, _⟩ := hSw; go_simp; try with_reducible rfl)
          try simp only [Act.put, List.setIfInBounds_toArray, List.set_cons_zero, List.set_cons_succ, List.getElem_toArray, List.getElem_cons_zero, List.getElem_cons_succ]
          refine wpAnyH_take (i := 15) (oi := _) (v := ?_) rfl (by kernel_rfl) (by kernel_rfl) (by kernel_rfl) (fun _ _ _ h => h) (Or.inl ⟨by rfl, ?_⟩) hHeld ?_
          rotate_left
          · (intro w hSw; obtain ⟨⟨a0, a1, a2, a3⟩, ⟨b0, b1, b2, b3⟩, ⟨t0, t1, t2, t3⟩, ⟨v0, v1, v2, v3⟩, _⟩ := hSw; go_simp; try with_reducible rfl)
          try simp only [Act.put, List.setIfInBounds_toArray, List.set_cons_zero, List.set_cons_succ, List.getElem_toArray, List.getElem_cons_zero, List.getElem_cons_succ]
          refine wpAnyH_take (i := 16) (oi := _) (v := ?_) rfl (by kernel_rfl) (by kernel_rfl) (by kernel_rfl) (fun _ _ _ h => h) (Or.inl ⟨by rfl, ?_⟩) hHeld ?_
          rotate_left
          · (intro w hSw; obtain ⟨⟨a0, a1, a2, a3⟩, ⟨b0, b1, b2, b3⟩, ⟨t0, t1, t2, t3⟩, ⟨v0, v1, v2, v3⟩, _⟩ := hSw; go_simp; try with_reducible rfl)
          try simp only [Act.put, List.setIfInBounds_toArray, List.set_cons_zero, List.set_cons_succ, List.getElem_toArray, List.getElem_cons_zero, List.getElem_cons_succ]
          refine wpAnyH_take (i := 17) (oi := _) (v := ?_) rfl (by kernel_rfl) (by kernel_rfl) (by kernel_rfl) (fun _ _ _ h => h) (Or.inl ⟨by rfl, ?_⟩) hHeld ?_
          rotate_left
          · (intro w hSw; obtain ⟨⟨a0, a1, a2, a3⟩, ⟨b0, b1, b2, b3⟩, ⟨t0, t1, t2, t3⟩, ⟨v0, v1, v2, v3⟩, _⟩ := hSw; go_simp; try with_reducible rfl)
          try simp only [Act.put, List.setIfInBounds_toArray, List.set_cons_zero, List.set_cons_succ, List.getElem_toArray, List.getElem_cons_zero, List.getElem_cons_succ]
          refine wpAnyH_take (i := 19) (oi := _) (v := ?_) rfl (by kernel_rfl) (by kernel_rfl) (by kernel_rfl) (fun _ _ _ h => h) (Or.inl ⟨by rfl, ?_⟩) hHeld ?_
          rotate_left
          · (intro w hSw; obtain ⟨⟨a0, a1, a2, a3⟩, ⟨b0, b1, b2, b3⟩, ⟨t0, t1, t2, t3⟩, ⟨v0, v1, v2, v3⟩, _⟩ := hSw; go_simp; try with_reducible rfl)
          try simp only [Act.put, List.setIfInBounds_toArray, List.set_cons_zero, List.set_cons_succ, List.getElem_toArray, List.getElem_cons_zero, List.getElem_cons_succ]
          refine wpAnyH_ready (rs := [18]) (by kernel_rfl) (by simp) ?_
          refine AllReadyH.cons (o := _) rfl (fun K hK => ?_) (AllReadyH.nil)
          go_simp
          have hc := size6_any X _ _ hHeld.2.2.2.2.tt.2 (by omega)
          refine hc.mono ?_
          rintro e U ⟨rfl, hbu⟩
          have HR1 := Lib.hid (C16b.of (hHeld.2.2.2.2.next hbu))
          clear hbu hc hHeld
          go_wp2_with fail
          refine hK.out _ _ (HR1.out) (fun hHeld => ?_)
          clear hK K
          try simp only [Act.put, List.setIfInBounds_toArray, List.set_cons_zero, List.set_cons_succ, List.getElem_toArray, List.getElem_cons_zero, List.getElem_cons_succ]
          clear HR1
          refine wpAnyH_ready (rs := [20]) (by kernel_rfl) (by simp) ?_
          refine AllReadyH.cons (o := _) rfl (fun K hK => ?_) (AllReadyH.nil)
          go_simp
          have hc := size6_any b _ _ hHeld.2.2.2.2.ts.ib (by omega)
          refine hc.mono ?_
          rintro e U ⟨rfl, hbu⟩
          have HR1 := Lib.hid (C16b.of (hHeld.2.2.2.2.next hbu))
          clear hbu hc hHeld
          go_wp2_with fail
          refine hK.out _ _ (HR1.out) (fun hHeld => ?_)
          clear hK K
          try simp only [Act.put, List.setIfInBounds_toArray, List.set_cons_zero, List.set_cons_succ, List.getElem_toArray, List.getElem_cons_zero, List.getElem_cons_succ]
          clear HR1
          refine wpAnyH_take (i := 21) (oi := _) (v := ?_) rfl (by kernel_rfl) (by kernel_rfl) (by kernel_rfl) (fun _ _ _ h => h) (Or.inl ⟨by rfl, ?_⟩) hHeld ?_
          rotate_left
          · (intro w hSw; obtain ⟨⟨a0, a1, a2, a3⟩, ⟨b0, b1, b2, b3⟩, ⟨t0, t1, t2, t3⟩, ⟨v0, v1, v2, v3⟩, _⟩ := hSw; go_simp; try with_reducible rfl)
          try simp only [Act.put, List.setIfInBounds_toArray, List.set_cons_zero, List.set_cons_succ, List.getElem_toArray, List.getElem_cons_zero, List.getElem_cons_succ]
          refine wpAnyH_take (i := 22) (oi := _) (v := ?_) rfl (by kernel_rfl) (by kernel_rfl) (by kernel_rfl) (fun _ _ _ h => h) (Or.inl ⟨by rfl, ?_⟩) hHeld ?_
          rotate_left
          · (intro w hSw; obtain ⟨⟨a0, a1, a2, a3⟩, ⟨b0, b1, b2, b3⟩, ⟨t0, t1, t2, t3⟩, ⟨v0, v1, v2, v3⟩, _⟩ := hSw; go_simp; try with_reducible rfl)
          try simp only [Act.put, List.setIfInBounds_toArray, List.set_cons_zero, List.set_cons_succ, List.getElem_toArray, List.getElem_cons_zero, List.getElem_cons_succ]
          refine wpAnyH_take (i := 23) (oi := _) (v := ?_) rfl (by kernel_rfl) (by kernel_rfl) (by kernel_rfl) (fun _ _ _ h => h) (Or.inl ⟨by rfl, ?_⟩) hHeld ?_
          rotate_left
          · (intro w hSw; obtain ⟨⟨a0, a1, a2, a3⟩, ⟨b0, b1, b2, b3⟩, ⟨t0, t1, t2, t3⟩, ⟨v0, v1, v2, v3⟩, _⟩ := hSw; go_simp; try with_reducible rfl)
          try simp only [Act.put, List.setIfInBounds_toArray, List.set_cons_zero, List.set_cons_succ, List.getElem_toArray, List.getElem_cons_zero, List.getElem_cons_succ]
          refine wpAnyH_ready (rs := [24]) (by kernel_rfl) (by simp) ?_
          refine AllReadyH.cons (o := _) rfl (fun K hK => ?_) (AllReadyH.nil)
          go_simp
          have hc := k6_any U
          refine hc.mono ?_
          rintro e U ⟨rfl, hbu⟩
          have HR1 := Lib.hid (C16b.of (hHeld.2.2.2.2.next hbu))
          clear hbu hc hHeld
          go_wp2_with fail
          refine hK.out _ _ (HR1.out) (fun hHeld => ?_)
          clear hK K
          try simp only [Act.put, List.setIfInBounds_toArray, List.set_cons_zero, List.set_cons_succ, List.getElem_toArray, List.getElem_cons_zero, List.getElem_cons_succ]
          clear HR1
          refine wpAnyH_take (i := 25) (oi := _) (v := ?_) rfl (by kernel_rfl) (by kernel_rfl) (by kernel_rfl) (fun _ _ _ h => h) (Or.inl ⟨by rfl, ?_⟩) hHeld ?_
          rotate_left
          · (intro w hSw; obtain ⟨⟨a0, a1, a2, a3⟩, ⟨b0, b1, b2, b3⟩, ⟨t0, t1, t2, t3⟩, ⟨v0, v1, v2, v3⟩, _⟩ := hSw; go_simp; try with_reducible rfl)
          try simp only [Act.put, List.setIfInBounds_toArray, List.set_cons_zero, List.set_cons_succ, List.getElem_toArray, List.getElem_cons_zero, List.getElem_cons_succ]
          refine wpAnyH_ready (rs := [26]) (by kernel_rfl) (by simp) ?_
          refine AllReadyH.cons (o := _) rfl (fun K hK => ?_) AllReadyH.nil
          go_simp
          refine hK.out _ _ (hHeld) (fun hHeld => ?_)
          clear hK K
          try simp only [Act.put, List.setIfInBounds_toArray, List.set_cons_zero, List.set_cons_succ, List.getElem_toArray, List.getElem_cons_zero, List.getElem_cons_succ]
          refine wpAnyH_done (by kernel_rfl) ?_ _
          have HB := Lib.hid hHeld.2.2.2.2.ts.below
          clear hHeld
          go_wp2_with fail
          go_ret
          exact ⟨rfl, HB.out⟩
end Go.Proofs.Ytjbicfimoiiglaa
