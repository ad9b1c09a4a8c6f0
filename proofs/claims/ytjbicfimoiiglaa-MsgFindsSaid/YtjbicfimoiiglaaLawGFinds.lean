/-
  The statement MsgFinds, walked: for any two terms that lie in memory the call returns true, and nothing that was there has turned.
-/
import Derived.Test.YtjbicfimoiiglaaMDoc
import Derived.Test.YtjbicfimoiiglaaMKn
namespace Go.Proofs.Ytjbicfimoiiglaa
open Go.RowKit Go.Shelf Go.Maps

/-- Both boxes, and a third one with a term. -/
structure T3 (w : World) (a b : Tm) (sva svb : Value) (tb : Nat) (X : Tm) (sx : Value) (W : World) : Prop where
  ts : TSt w a b sva svb W
  tx : TmBox W tb X sx
theorem T3.next {w : World} {a b : Tm} {sva svb : Value} {tb : Nat} {X : Tm} {sx : Value} {W W' : World} (h : T3 w a b sva svb tb X sx W) (hb : Below W.heap.size W W') : T3 w a b sva svb tb X sx W' := ⟨h.ts.next hb, h.tx.next hb⟩
/-- The cells that the laws read. -/
def C12 (w : World) (a b : Tm) (sva svb : Value) (tb : Nat) (X : Tm) (sx : Value) (W : World) : Prop :=
  (W.cell? ⟨w.heap.size, 0, none⟩ = some (.int .i64 a.kind) ∧ W.cell? ⟨w.heap.size, 1, none⟩ = some (.string a.name) ∧ W.cell? ⟨w.heap.size, 2, none⟩ = some (.int .i64 a.n) ∧ W.cell? ⟨w.heap.size, 3, none⟩ = some sva) ∧
  (W.cell? ⟨w.heap.size + 1, 0, none⟩ = some (.int .i64 b.kind) ∧ W.cell? ⟨w.heap.size + 1, 1, none⟩ = some (.string b.name) ∧ W.cell? ⟨w.heap.size + 1, 2, none⟩ = some (.int .i64 b.n) ∧ W.cell? ⟨w.heap.size + 1, 3, none⟩ = some svb) ∧
  (W.cell? ⟨tb, 0, none⟩ = some (.int .i64 X.kind) ∧ W.cell? ⟨tb, 1, none⟩ = some (.string X.name) ∧ W.cell? ⟨tb, 2, none⟩ = some (.int .i64 X.n) ∧ W.cell? ⟨tb, 3, none⟩ = some sx)
theorem T3.c12 {w : World} {a b : Tm} {sva svb : Value} {tb : Nat} {X : Tm} {sx : Value} {W : World} (h : T3 w a b sva svb tb X sx W) : C12 w a b sva svb tb X sx W := by
  obtain ⟨a0, a1, a2, a3, b0, b1, b2, b3, _⟩ := h.ts.cells
  exact ⟨⟨a0, a1, a2, a3⟩, ⟨b0, b1, b2, b3⟩, h.tx.cells⟩
/-- The state of a region: the cells, and what lies behind. -/
def R3 (w : World) (a b : Tm) (sva svb : Value) (tb : Nat) (X : Tm) (sx : Value) (W : World) : Prop := C12 w a b sva svb tb X sx W ∧ T3 w a b sva svb tb X sx W
theorem R3.of {w : World} {a b : Tm} {sva svb : Value} {tb : Nat} {X : Tm} {sx : Value} {W : World} (h : T3 w a b sva svb tb X sx W) : R3 w a b sva svb tb X sx W := ⟨h.c12, h⟩
theorem R3.next {w : World} {a b : Tm} {sva svb : Value} {tb : Nat} {X : Tm} {sx : Value} {W W' : World} (h : R3 w a b sva svb tb X sx W) (hb : Below W.heap.size W W') : R3 w a b sva svb tb X sx W' := R3.of (h.2.next hb)

theorem inn_kZ6' (W : World) : Tm.inn W W.heap.size (.mk 0 ⟨#[]⟩ 0 []) (.slice none 0 0) := inn_kZ6 W
set_option maxRecDepth 100000 in
set_option maxHeartbeats 8000000 in
theorem gfinds_any (a b : Tm) (w : World) (sva svb : Value) (hia : Tm.inn w w.heap.size a sva) (hib : Tm.inn w w.heap.size b svb) :
    Calls Try.prog 3 #[.agg #[.int .i64 a.kind, .string a.name, .int .i64 a.n, sva], .agg #[.int .i64 b.kind, .string b.name, .int .i64 b.n, svb]] w fun e w' => e = .returned (.bool true) ∧ Below w.heap.size w w' := by
  have hst := TSt.start hia hib
  obtain ⟨ga, ca, rfl⟩ := inn_sl6 hia
  obtain ⟨gb, cb, rfl⟩ := inn_sl6 hib
  have HST := Lib.hid hst
  clear hia hib hst
  go_enter Try.func3, Try.ntmps3
  go_wp2_with fail
  have hst0 := HST.out.next ((Below.refl _ _).alloc (Nat.le_refl _) (Obj.cells #[.int .i64 a.kind, .string a.name, .int .i64 a.n, .slice ga a.args.length ca, .int .i64 b.kind, .string b.name, .int .i64 b.n, .slice gb b.args.length cb] 24 (0, 0)))
  have hsl := two_slice (n := w.heap.size + 1 + 1) (newBlk (World.alloc _ _) (Obj.cells #[.int .i64 a.kind, .string a.name, .int .i64 a.n, .slice ga a.args.length ca, .int .i64 b.kind, .string b.name, .int .i64 b.n, .slice gb b.args.length cb] 24 (0, 0)) _ (by simp)) hst0.ia hst0.ib
  have A0 := Lib.hid hst0
  clear hst0 HST
  refine (some_any [a, b] _ _ _ (Nat.le_refl _) hsl).mono ?_
  rintro e W1 ⟨rfl, hb1⟩
  have A1 := Lib.hid (A0.out.next hb1)
  clear A0 hsl hb1
  cases hs : Tm.someB [a, b] with
  | false =>
    clear hs
    go_wp2_with fail
    refine (k6_any W1).mono ?_
    rintro e W2 ⟨rfl, hb2⟩
    have HB := Lib.hid (A1.out.next hb2).below
    clear hb2
    go_wp2_with fail
    go_ret
    exact ⟨rfl, HB.out⟩
  | true =>
    have hsa : a.size ≤ 4000 := Tm.some_size hs (by simp)
    have hsb : b.size ≤ 4000 := Tm.some_size hs (by simp)
    clear hs
    obtain ⟨a0, a1, a2, a3, b0, b1, b2, b3, _⟩ := A1.out.cells
    go_wp2_with fail
    refine (mof_any a b W1 _ _ A1.out.ia A1.out.ib (by omega) (by omega)).mono ?_
    rintro e W2 ⟨X, E, gx, cx, rfl, hpx, hb2, hcase⟩
    have hix := Tm.inn_of_P (B := W2.heap.size) (fun _ h => h.2) _ _ hpx
    have hal2 := (Below.refl W2.heap.size W2).alloc (Nat.le_refl _) (Obj.cells #[.int .i64 X.kind, .string X.name, .int .i64 X.n, .slice gx X.args.length cx] 24 (0, 0))
    have hT := T3.mk ((A1.out.next hb2).next hal2) (TmBox.new hix)
    have HT2 := Lib.hid hT
    have HC := Lib.hid hcase
    clear a0 a1 a2 a3 b0 b1 b2 b3 hb2 hix hal2 hT hcase hpx A1
    have hc12 := HT2.out.c12
    have lt2 := HT2.out.tx.lt
    have la2 := HT2.out.ts.size
    obtain ⟨⟨a0, a1, a2, a3⟩, ⟨b0, b1, b2, b3⟩, t0, t1, t2, t3⟩ := hc12
    go_wp2_with fail
    obtain ⟨tb, htb⟩ : ∃ b, W2.heap.size = b := ⟨_, rfl⟩
    obtain ⟨V0, hV0⟩ : ∃ V, W2.alloc (Obj.cells #[.int .i64 X.kind, .string X.name, .int .i64 X.n, .slice gx X.args.length cx] 24 (0, 0)) = V := ⟨_, rfl⟩
    rw [hV0, htb] at HT2
    simp only [hV0, htb]
    clear hV0 htb lt2 la2 a0 a1 a2 a3 b0 b1 b2 b3 t0 t1 t2 t3
    refine (mapart_any a b V0 _ _ HT2.out.ts.ia HT2.out.ts.ib (by omega) (by omega)).mono ?_
    rintro e V1 ⟨N, E2, rfl, hb1, hcase2⟩
    have HT3 := Lib.hid (HT2.out.next hb1)
    have HC2 := Lib.hid hcase2
    clear hb1 hcase2 HT2
    obtain ⟨⟨a0, a1, a2, a3⟩, ⟨b0, b1, b2, b3⟩, t0, t1, t2, t3⟩ := HT3.out.c12
    have hls := HT3.out.ts.size
    have hlt := HT3.out.tx.lt
    go_wp2_with fail
    refine (rright_any a V1 _ _ (Nat.le_refl _) HT3.out.ts.ia (by omega)).mono ?_
    rintro e V2 ⟨rfl, hb2⟩
    have HT4 := Lib.hid (HT3.out.next hb2)
    clear hb2 HT3 a0 a1 a2 a3 b0 b1 b2 b3 t0 t1 t2 t3 hls hlt
    cases hra : a.right with
    | false =>
      have HRA := Lib.hid hra
      clear hra
      have hX : X = kZ ∧ E = 1 ∧ N = 0 ∧ E2 = 1 := by
        have hr : (a.right && b.right) = false := by rw [HRA.out]; rfl
        refine ⟨?_, ?_, ?_, ?_⟩
        · rcases HC.out with ⟨h0, _⟩ | ⟨_, h1, h2⟩
          · rw [hr] at h0; cases h0
          · exact h1
        · rcases HC.out with ⟨h0, _⟩ | ⟨_, h1, h2⟩
          · rw [hr] at h0; cases h0
          · exact h2
        · rcases HC2.out with ⟨h0, _⟩ | ⟨_, h1, h2⟩
          · rw [hr] at h0; cases h0
          · exact h1
        · rcases HC2.out with ⟨h0, _⟩ | ⟨_, h1, h2⟩
          · rw [hr] at h0; cases h0
          · exact h2
      obtain ⟨rfl, rfl, rfl, rfl⟩ := hX
      obtain ⟨⟨a0, a1, a2, a3⟩, ⟨b0, b1, b2, b3⟩, t0, t1, t2, t3⟩ := HT4.out.c12
      have hlt := HT4.out.tx.lt
      clear HC HC2
      go_wp2_with fail
      have hsm := rsame_any kZ kZ V2 _ _ (.slice none 0 0) (Nat.le_refl _) HT4.out.tx.2 (inn_kZ6' V2)
      rw [show kZ.same kZ = true by kernel_rfl] at hsm
      refine hsm.mono ?_
      rintro e U1 ⟨rfl, hbu⟩
      have HTU := Lib.hid (HT4.out.next hbu)
      clear hbu hsm a0 a1 a2 a3 b0 b1 b2 b3 t0 t1 t2 t3 hlt
      go_wp2_with fail
      refine (k6_any U1).mono ?_
      rintro e U2 ⟨rfl, hbk⟩
      have HB := Lib.hid (HTU.out.next hbk).ts.below
      clear hbk
      go_wp2_with fail
      go_ret
      exact ⟨rfl, HB.out⟩
    | true =>
      have HRA := Lib.hid hra
      clear hra
      obtain ⟨⟨a0, a1, a2, a3⟩, ⟨b0, b1, b2, b3⟩, t0, t1, t2, t3⟩ := HT4.out.c12
      have hls := HT4.out.ts.size
      go_wp2_with fail
      refine (rright_any b V2 _ _ (Nat.le_refl _) HT4.out.ts.ib (by omega)).mono ?_
      rintro e V3 ⟨rfl, hb3⟩
      have HT5 := Lib.hid (HT4.out.next hb3)
      clear hb3 HT4 a0 a1 a2 a3 b0 b1 b2 b3 t0 t1 t2 t3 hls
      cases hrb : b.right with
      | false =>
        have HRB := Lib.hid hrb
        clear hrb
        have hX : X = kZ ∧ E = 1 ∧ N = 0 ∧ E2 = 1 := by
          have hr : (a.right && b.right) = false := by rw [HRA.out, HRB.out]; rfl
          refine ⟨?_, ?_, ?_, ?_⟩
          · rcases HC.out with ⟨h0, _⟩ | ⟨_, h1, h2⟩
            · rw [hr] at h0; cases h0
            · exact h1
          · rcases HC.out with ⟨h0, _⟩ | ⟨_, h1, h2⟩
            · rw [hr] at h0; cases h0
            · exact h2
          · rcases HC2.out with ⟨h0, _⟩ | ⟨_, h1, h2⟩
            · rw [hr] at h0; cases h0
            · exact h1
          · rcases HC2.out with ⟨h0, _⟩ | ⟨_, h1, h2⟩
            · rw [hr] at h0; cases h0
            · exact h2
        obtain ⟨rfl, rfl, rfl, rfl⟩ := hX
        obtain ⟨⟨a0, a1, a2, a3⟩, ⟨b0, b1, b2, b3⟩, t0, t1, t2, t3⟩ := HT5.out.c12
        have hlt := HT5.out.tx.lt
        clear HC HC2
        go_wp2_with fail
        have hsm := rsame_any kZ kZ V3 _ _ (.slice none 0 0) (Nat.le_refl _) HT5.out.tx.2 (inn_kZ6' V3)
        rw [show kZ.same kZ = true by kernel_rfl] at hsm
        refine hsm.mono ?_
        rintro e U1 ⟨rfl, hbu⟩
        have HTU := Lib.hid (HT5.out.next hbu)
        clear hbu hsm a0 a1 a2 a3 b0 b1 b2 b3 t0 t1 t2 t3 hlt
        go_wp2_with fail
        refine (k6_any U1).mono ?_
        rintro e U2 ⟨rfl, hbk⟩
        have HB := Lib.hid (HTU.out.next hbk).ts.below
        clear hbk
        go_wp2_with fail
        go_ret
        exact ⟨rfl, HB.out⟩
      | true =>
        have hr : (a.right && b.right) = true := by rw [HRA.out, hrb]; rfl
        have hX : X = msgT a b ∧ E = 0 ∧ N = ((prsT [] a b).length : Nat) ∧ E2 = 0 := by
          refine ⟨?_, ?_, ?_, ?_⟩
          · rcases HC.out with ⟨_, h1, h2⟩ | ⟨h0, _⟩
            · exact h1
            · rw [hr] at h0; cases h0
          · rcases HC.out with ⟨_, h1, h2⟩ | ⟨h0, _⟩
            · exact h2
            · rw [hr] at h0; cases h0
          · rcases HC2.out with ⟨_, h1, h2⟩ | ⟨h0, _⟩
            · exact h1
            · rw [hr] at h0; cases h0
          · rcases HC2.out with ⟨_, h1, h2⟩ | ⟨h0, _⟩
            · exact h2
            · rw [hr] at h0; cases h0
        obtain ⟨hXm, rfl, rfl, rfl⟩ := hX
        have HXM := Lib.hid hXm
        clear hXm hr hrb HC HC2
        have hs12 := R3.of (HT5.out.next ((Below.refl _ _).drew))
        have HS12 := Lib.hid hs12
        have HPL := Lib.hid (prs_length [] a b)
        clear hs12
        go_wp2_with fail
        refine wp_region_held_drew (S := fun W' => R3 w a b (.slice ga a.args.length ca) (.slice gb b.args.length cb) tb X (.slice gx X.args.length cx) W') (by kernel_rfl) HS12.out (fun hHeld => ?_)
        clear HS12 HT5
        refine wpAnyH_take (i := 0) (oi := _) (v := ?_) rfl (by kernel_rfl) (by kernel_rfl) (by kernel_rfl) (fun _ _ _ h => h) (Or.inl ⟨by rfl, ?_⟩) hHeld ?_
        rotate_left
        · (intro w hSw; obtain ⟨⟨⟨a0, a1, a2, a3⟩, ⟨b0, b1, b2, b3⟩, t0, t1, t2, t3⟩, _⟩ := hSw; go_simp; try with_reducible rfl)
        try simp only [Act.put, List.setIfInBounds_toArray, List.set_cons_zero, List.set_cons_succ, List.getElem_toArray, List.getElem_cons_zero]
        refine wpAnyH_take (i := 1) (oi := _) (v := ?_) rfl (by kernel_rfl) (by kernel_rfl) (by kernel_rfl) (fun _ _ _ h => h) (Or.inl ⟨by rfl, ?_⟩) hHeld ?_
        rotate_left
        · (intro w hSw; obtain ⟨⟨⟨a0, a1, a2, a3⟩, ⟨b0, b1, b2, b3⟩, t0, t1, t2, t3⟩, _⟩ := hSw; go_simp; try with_reducible rfl)
        try simp only [Act.put, List.setIfInBounds_toArray, List.set_cons_zero, List.set_cons_succ, List.getElem_toArray, List.getElem_cons_zero, List.getElem_cons_succ]
        refine wpAnyH_take (i := 2) (oi := _) (v := ?_) rfl (by kernel_rfl) (by kernel_rfl) (by kernel_rfl) (fun _ _ _ h => h) (Or.inl ⟨by rfl, ?_⟩) hHeld ?_
        rotate_left
        · (intro w hSw; obtain ⟨⟨⟨a0, a1, a2, a3⟩, ⟨b0, b1, b2, b3⟩, t0, t1, t2, t3⟩, _⟩ := hSw; go_simp; try with_reducible rfl)
        try simp only [Act.put, List.setIfInBounds_toArray, List.set_cons_zero, List.set_cons_succ, List.getElem_toArray, List.getElem_cons_zero, List.getElem_cons_succ]
        refine wpAnyH_ready (rs := [3]) (by kernel_rfl) (by simp) ?_
        refine AllReadyH.cons (o := _) rfl (fun K hK => ?_) (AllReadyH.nil)
        go_simp
        refine (rof_any a b _ _ _ hHeld.2.ts.ia hHeld.2.ts.ib (by omega)).mono ?_
        rintro e U1 ⟨g1, c1, rfl, hp1, hbu⟩
        have HP1 := Lib.hid (Tm.inn_of_P (B := U1.heap.size) (fun _ h => h.2) _ _ hp1)
        have HR1 := Lib.hid (hHeld.next hbu)
        clear hbu hp1 hHeld
        go_wp2_with fail
        refine hK.out _ _ (HR1.out) (fun hHeld => ?_)
        clear hK K
        try simp only [Act.put, List.setIfInBounds_toArray, List.set_cons_zero, List.set_cons_succ, List.getElem_toArray, List.getElem_cons_zero, List.getElem_cons_succ]
        clear HR1
        refine wpAnyH_ready (rs := [4]) (by kernel_rfl) (by simp) ?_
        refine AllReadyH.cons (o := _) rfl (fun K hK => ?_) (AllReadyH.nil)
        go_simp
        have hsm := rsame_any X (msgT a b) U1 _ _ _ (Nat.le_refl _) hHeld.2.tx.2 HP1.out
        rw [(Tm.same_iff X (msgT a b)).2 HXM.out] at hsm
        refine hsm.mono ?_
        rintro e U2 ⟨rfl, hbu⟩
        have HR1 := Lib.hid (hHeld.next hbu)
        clear hbu hsm hHeld HP1
        go_wp2_with fail
        refine hK.out _ _ (HR1.out) (fun hHeld => ?_)
        clear hK K
        try simp only [Act.put, List.setIfInBounds_toArray, List.set_cons_zero, List.set_cons_succ, List.getElem_toArray, List.getElem_cons_zero, List.getElem_cons_succ]
        clear HR1
        refine wpAnyH_take (i := 5) (oi := _) (v := ?_) rfl (by kernel_rfl) (by kernel_rfl) (by kernel_rfl) (fun _ _ _ h => h) (Or.inl ⟨by rfl, ?_⟩) hHeld ?_
        rotate_left
        · (intro w hSw; obtain ⟨⟨⟨a0, a1, a2, a3⟩, ⟨b0, b1, b2, b3⟩, t0, t1, t2, t3⟩, _⟩ := hSw; go_simp; try with_reducible rfl)
        try simp only [Act.put, List.setIfInBounds_toArray, List.set_cons_zero, List.set_cons_succ, List.getElem_toArray, List.getElem_cons_zero, List.getElem_cons_succ]
        refine wpAnyH_take (i := 6) (oi := _) (v := ?_) rfl (by kernel_rfl) (by kernel_rfl) (by kernel_rfl) (fun _ _ _ h => h) (Or.inl ⟨by rfl, ?_⟩) hHeld ?_
        rotate_left
        · (intro w hSw; obtain ⟨⟨⟨a0, a1, a2, a3⟩, ⟨b0, b1, b2, b3⟩, t0, t1, t2, t3⟩, _⟩ := hSw; go_simp; try with_reducible rfl)
        try simp only [Act.put, List.setIfInBounds_toArray, List.set_cons_zero, List.set_cons_succ, List.getElem_toArray, List.getElem_cons_zero, List.getElem_cons_succ]
        refine wpAnyH_take (i := 7) (oi := _) (v := ?_) rfl (by kernel_rfl) (by kernel_rfl) (by kernel_rfl) (fun _ _ _ h => h) (Or.inl ⟨by rfl, ?_⟩) hHeld ?_
        rotate_left
        · (intro w hSw; obtain ⟨⟨⟨a0, a1, a2, a3⟩, ⟨b0, b1, b2, b3⟩, t0, t1, t2, t3⟩, _⟩ := hSw; go_simp; try with_reducible rfl)
        try simp only [Act.put, List.setIfInBounds_toArray, List.set_cons_zero, List.set_cons_succ, List.getElem_toArray, List.getElem_cons_zero, List.getElem_cons_succ]
        refine wpAnyH_take (i := 8) (oi := _) (v := ?_) rfl (by kernel_rfl) (by kernel_rfl) (by kernel_rfl) (fun _ _ _ h => h) (Or.inl ⟨by rfl, ?_⟩) hHeld ?_
        rotate_left
        · (intro w hSw; obtain ⟨⟨⟨a0, a1, a2, a3⟩, ⟨b0, b1, b2, b3⟩, t0, t1, t2, t3⟩, _⟩ := hSw; go_simp; try with_reducible rfl)
        try simp only [Act.put, List.setIfInBounds_toArray, List.set_cons_zero, List.set_cons_succ, List.getElem_toArray, List.getElem_cons_zero, List.getElem_cons_succ]
        refine wpAnyH_take (i := 9) (oi := _) (v := ?_) rfl (by kernel_rfl) (by kernel_rfl) (by kernel_rfl) (fun _ _ _ h => h) (Or.inl ⟨by rfl, ?_⟩) hHeld ?_
        rotate_left
        · (intro w hSw; obtain ⟨⟨⟨a0, a1, a2, a3⟩, ⟨b0, b1, b2, b3⟩, t0, t1, t2, t3⟩, _⟩ := hSw; go_simp; try with_reducible rfl)
        try simp only [Act.put, List.setIfInBounds_toArray, List.set_cons_zero, List.set_cons_succ, List.getElem_toArray, List.getElem_cons_zero, List.getElem_cons_succ]
        refine wpAnyH_take (i := 10) (oi := _) (v := ?_) rfl (by kernel_rfl) (by kernel_rfl) (by kernel_rfl) (fun _ _ _ h => h) (Or.inl ⟨by rfl, ?_⟩) hHeld ?_
        rotate_left
        · (intro w hSw; obtain ⟨⟨⟨a0, a1, a2, a3⟩, ⟨b0, b1, b2, b3⟩, t0, t1, t2, t3⟩, _⟩ := hSw; go_simp; try with_reducible rfl)
        try simp only [Act.put, List.setIfInBounds_toArray, List.set_cons_zero, List.set_cons_succ, List.getElem_toArray, List.getElem_cons_zero, List.getElem_cons_succ]
        refine wpAnyH_take (i := 11) (oi := _) (v := ?_) rfl (by kernel_rfl) (by kernel_rfl) (by kernel_rfl) (fun _ _ _ h => h) (Or.inl ⟨by rfl, ?_⟩) hHeld ?_
        rotate_left
        · (intro w hSw; obtain ⟨⟨⟨a0, a1, a2, a3⟩, ⟨b0, b1, b2, b3⟩, t0, t1, t2, t3⟩, _⟩ := hSw; go_simp; try with_reducible rfl)
        try simp only [Act.put, List.setIfInBounds_toArray, List.set_cons_zero, List.set_cons_succ, List.getElem_toArray, List.getElem_cons_zero, List.getElem_cons_succ]
        refine wpAnyH_take (i := 12) (oi := _) (v := ?_) rfl (by kernel_rfl) (by kernel_rfl) (by kernel_rfl) (fun _ _ _ h => h) (Or.inl ⟨by rfl, ?_⟩) hHeld ?_
        rotate_left
        · (intro w hSw; obtain ⟨⟨⟨a0, a1, a2, a3⟩, ⟨b0, b1, b2, b3⟩, t0, t1, t2, t3⟩, _⟩ := hSw; go_simp; try with_reducible rfl)
        try simp only [Act.put, List.setIfInBounds_toArray, List.set_cons_zero, List.set_cons_succ, List.getElem_toArray, List.getElem_cons_zero, List.getElem_cons_succ]
        refine wpAnyH_ready (rs := [13]) (by kernel_rfl) (by simp) ?_
        refine AllReadyH.cons (o := _) rfl (fun K hK => ?_) (AllReadyH.nil)
        go_simp
        refine (rpairs_any a b [] U2 U2.heap.size (.slice none 0 0) _ _ (Nat.le_refl _) (prsM_nil _ _) hHeld.2.ts.ia hHeld.2.ts.ib (by simp; omega)).mono ?_
        rintro e U3 ⟨v3, rfl, hv3, hbu⟩
        obtain ⟨g3, c3, rfl, _, _, _⟩ := id hv3
        have HR1 := Lib.hid (hHeld.next hbu)
        clear hbu hv3 hHeld
        go_wp2_with fail
        refine hK.out _ _ (HR1.out) (fun hHeld => ?_)
        clear hK K
        try simp only [Act.put, List.setIfInBounds_toArray, List.set_cons_zero, List.set_cons_succ, List.getElem_toArray, List.getElem_cons_zero, List.getElem_cons_succ]
        clear HR1
        refine wpAnyH_take (i := 14) (oi := _) (v := ?_) rfl (by kernel_rfl) (by kernel_rfl) (by kernel_rfl) (fun _ _ _ h => h) (Or.inl ⟨by rfl, ?_⟩) hHeld ?_
        rotate_left
        · (intro w hSw; obtain ⟨⟨⟨a0, a1, a2, a3⟩, ⟨b0, b1, b2, b3⟩, t0, t1, t2, t3⟩, _⟩ := hSw; go_simp; try with_reducible rfl)
        try simp only [Act.put, List.setIfInBounds_toArray, List.set_cons_zero, List.set_cons_succ, List.getElem_toArray, List.getElem_cons_zero, List.getElem_cons_succ]
        refine wpAnyH_take (i := 15) (oi := _) (v := ?_) rfl (by kernel_rfl) (by kernel_rfl) (by kernel_rfl) (fun _ _ _ h => h) (Or.inl ⟨by rfl, ?_⟩) hHeld ?_
        rotate_left
        · (intro w hSw; obtain ⟨⟨⟨a0, a1, a2, a3⟩, ⟨b0, b1, b2, b3⟩, t0, t1, t2, t3⟩, _⟩ := hSw; go_simp; try with_reducible rfl)
        try simp only [Act.put, List.setIfInBounds_toArray, List.set_cons_zero, List.set_cons_succ, List.getElem_toArray, List.getElem_cons_zero, List.getElem_cons_succ]
        refine wpAnyH_take (i := 16) (oi := _) (v := ?_) rfl (by kernel_rfl) (by kernel_rfl) (by kernel_rfl) (fun _ _ _ h => h) (Or.inl ⟨by rfl, ?_⟩) hHeld ?_
        rotate_left
        · (intro w hSw; obtain ⟨⟨⟨a0, a1, a2, a3⟩, ⟨b0, b1, b2, b3⟩, t0, t1, t2, t3⟩, _⟩ := hSw; go_simp; try with_reducible rfl)
        try simp only [Act.put, List.setIfInBounds_toArray, List.set_cons_zero, List.set_cons_succ, List.getElem_toArray, List.getElem_cons_zero, List.getElem_cons_succ]
        refine wpAnyH_take (i := 17) (oi := _) (v := ?_) rfl (by kernel_rfl) (by kernel_rfl) (by kernel_rfl) (fun _ _ _ h => h) (Or.inl ⟨by rfl, ?_⟩) hHeld ?_
        rotate_left
        · (intro w hSw; obtain ⟨⟨⟨a0, a1, a2, a3⟩, ⟨b0, b1, b2, b3⟩, t0, t1, t2, t3⟩, _⟩ := hSw; go_simp; try with_reducible rfl)
        try simp only [Act.put, List.setIfInBounds_toArray, List.set_cons_zero, List.set_cons_succ, List.getElem_toArray, List.getElem_cons_zero, List.getElem_cons_succ]
        refine wpAnyH_take (i := 18) (oi := _) (v := ?_) rfl (by kernel_rfl) (by kernel_rfl) (by kernel_rfl) (fun _ _ _ h => h) (Or.inl ⟨by rfl, ?_⟩) hHeld ?_
        rotate_left
        · (intro w hSw; obtain ⟨⟨⟨a0, a1, a2, a3⟩, ⟨b0, b1, b2, b3⟩, t0, t1, t2, t3⟩, _⟩ := hSw; go_simp; try with_reducible rfl)
        try simp only [Act.put, List.setIfInBounds_toArray, List.set_cons_zero, List.set_cons_succ, List.getElem_toArray, List.getElem_cons_zero, List.getElem_cons_succ]
        refine wpAnyH_take (i := 19) (oi := _) (v := ?_) rfl (by kernel_rfl) (by kernel_rfl) (by kernel_rfl) (fun _ _ _ h => h) (Or.inl ⟨by rfl, ?_⟩) hHeld ?_
        rotate_left
        · (intro w hSw; obtain ⟨⟨⟨a0, a1, a2, a3⟩, ⟨b0, b1, b2, b3⟩, t0, t1, t2, t3⟩, _⟩ := hSw; go_simp; try with_reducible rfl)
        try simp only [Act.put, List.setIfInBounds_toArray, List.set_cons_zero, List.set_cons_succ, List.getElem_toArray, List.getElem_cons_zero, List.getElem_cons_succ]
        refine wpAnyH_take (i := 20) (oi := _) (v := ?_) rfl (by kernel_rfl) (by kernel_rfl) (by kernel_rfl) (fun _ _ _ h => h) (Or.inl ⟨by rfl, ?_⟩) hHeld ?_
        rotate_left
        · (intro w hSw; obtain ⟨⟨⟨a0, a1, a2, a3⟩, ⟨b0, b1, b2, b3⟩, t0, t1, t2, t3⟩, _⟩ := hSw; go_simp; try with_reducible rfl)
        try simp only [Act.put, List.setIfInBounds_toArray, List.set_cons_zero, List.set_cons_succ, List.getElem_toArray, List.getElem_cons_zero, List.getElem_cons_succ]
        refine wpAnyH_take (i := 21) (oi := _) (v := ?_) rfl (by kernel_rfl) (by kernel_rfl) (by kernel_rfl) (fun _ _ _ h => h) (Or.inl ⟨by rfl, ?_⟩) hHeld ?_
        rotate_left
        · (intro w hSw; obtain ⟨⟨⟨a0, a1, a2, a3⟩, ⟨b0, b1, b2, b3⟩, t0, t1, t2, t3⟩, _⟩ := hSw; go_simp; try with_reducible rfl)
        try simp only [Act.put, List.setIfInBounds_toArray, List.set_cons_zero, List.set_cons_succ, List.getElem_toArray, List.getElem_cons_zero, List.getElem_cons_succ]
        refine wpAnyH_ready (rs := [22]) (by kernel_rfl) (by simp) ?_
        refine AllReadyH.cons (o := _) rfl (fun K hK => ?_) (AllReadyH.nil)
        go_simp
        refine (k6_any _).mono ?_
        rintro e U4 ⟨rfl, hbu⟩
        have HR1 := Lib.hid (hHeld.next hbu)
        clear hbu hHeld
        go_wp2_with fail
        refine hK.out _ _ (HR1.out) (fun hHeld => ?_)
        clear hK K
        try simp only [Act.put, List.setIfInBounds_toArray, List.set_cons_zero, List.set_cons_succ, List.getElem_toArray, List.getElem_cons_zero, List.getElem_cons_succ]
        clear HR1
        refine wpAnyH_take (i := 23) (oi := _) (v := ?_) rfl (by kernel_rfl) (by kernel_rfl) (by kernel_rfl) (fun _ _ _ h => h) (Or.inl ⟨by rfl, ?_⟩) hHeld ?_
        rotate_left
        · (intro w hSw; obtain ⟨⟨⟨a0, a1, a2, a3⟩, ⟨b0, b1, b2, b3⟩, t0, t1, t2, t3⟩, _⟩ := hSw; go_simp; try with_reducible rfl)
        try simp only [Act.put, List.setIfInBounds_toArray, List.set_cons_zero, List.set_cons_succ, List.getElem_toArray, List.getElem_cons_zero, List.getElem_cons_succ]
        refine wpAnyH_ready (rs := [24]) (by kernel_rfl) (by simp) ?_
        refine AllReadyH.cons (o := _) rfl (fun K hK => ?_) AllReadyH.nil
        go_simp
        refine hK.out _ _ (hHeld) (fun hHeld => ?_)
        clear hK K
        try simp only [Act.put, List.setIfInBounds_toArray, List.set_cons_zero, List.set_cons_succ, List.getElem_toArray, List.getElem_cons_zero, List.getElem_cons_succ]
        refine wpAnyH_done (by kernel_rfl) ?_ _
        have HB := Lib.hid hHeld.2.ts.below
        clear hHeld
        go_wp2_with fail
        go_ret
        exact ⟨rfl, HB.out⟩
end Go.Proofs.Ytjbicfimoiiglaa
