/-
  The statement SubstRights, walked: for any row of binds that lies in memory and any number the call returns true, and nothing that was there has turned.
-/
import Derived.Test.YtpiflkgjmncijaaLawSApp
import Derived.Deep.RegionHeld3
namespace Go.Proofs.Ytpiflkgjmncijaa
open Go.RowKit Go.Shelf Go.Maps

/-- What stays between the calls: what lay ahead, the binds, the box of what was found. -/
structure RSt (w : World) (l : List Bd) (svl : Value) (Bx : Nat) (X : Tm) (svx : Value) (W : World) : Prop where
  hb : Below w.heap.size w W
  bl : bdsIn W W.heap.size l svl
  bx : TmBox W Bx X svx
theorem RSt.next {w : World} {l : List Bd} {svl : Value} {Bx : Nat} {X : Tm} {svx : Value} {W W' : World} (h : RSt w l svl Bx X svx W) (hb : Below W.heap.size W W') : RSt w l svl Bx X svx W' :=
  ⟨h.hb.trans (hb.mono h.hb.size), bdsIn_held h.bl hb, h.bx.next hb⟩
theorem RSt.stepN {w : World} {l : List Bd} {svl : Value} {Bx : Nat} {X : Tm} {svx : Value} {W W' : World} {p1 p2 p3 p4 : Prop} (hb : Below W.heap.size W W') (h : p1 ∧ p2 ∧ p3 ∧ p4 ∧ RSt w l svl Bx X svx W) :
    W'.cell? ⟨Bx, 0, none⟩ = some (.int .i64 X.kind) ∧ W'.cell? ⟨Bx, 1, none⟩ = some (.string X.name) ∧ W'.cell? ⟨Bx, 2, none⟩ = some (.int .i64 X.n) ∧ W'.cell? ⟨Bx, 3, none⟩ = some svx ∧ RSt w l svl Bx X svx W' := by
  have h' := h.2.2.2.2.next hb
  obtain ⟨c0, c1, c2, c3⟩ := h'.bx.cells
  exact ⟨c0, c1, c2, c3, h'⟩
theorem RSt.stepS {w : World} {l : List Bd} {svl : Value} {Bx : Nat} {X : Tm} {svx : Value} {W W' : World} {p1 p2 p3 p4 : Prop} {b o N : Nat} {t : Tm} {svt : Value} (hb : Below W.heap.size W W')
    (h : p1 ∧ p2 ∧ p3 ∧ p4 ∧ W.cell? ⟨b, o + 1, none⟩ = some (.int .i64 t.kind) ∧ W.cell? ⟨b, o + 2, none⟩ = some (.string t.name) ∧ W.cell? ⟨b, o + 3, none⟩ = some (.int .i64 t.n) ∧ W.cell? ⟨b, o + 4, none⟩ = some svt ∧ (N ≤ W.heap.size ∧ RSt w l svl Bx X svx W)) (hbx : b < N) :
    W'.cell? ⟨Bx, 0, none⟩ = some (.int .i64 X.kind) ∧ W'.cell? ⟨Bx, 1, none⟩ = some (.string X.name) ∧ W'.cell? ⟨Bx, 2, none⟩ = some (.int .i64 X.n) ∧ W'.cell? ⟨Bx, 3, none⟩ = some svx ∧
      W'.cell? ⟨b, o + 1, none⟩ = some (.int .i64 t.kind) ∧ W'.cell? ⟨b, o + 2, none⟩ = some (.string t.name) ∧ W'.cell? ⟨b, o + 3, none⟩ = some (.int .i64 t.n) ∧ W'.cell? ⟨b, o + 4, none⟩ = some svt ∧ (N ≤ W'.heap.size ∧ RSt w l svl Bx X svx W') := by
  obtain ⟨_, _, _, _, g1, g2, g3, g4, hN, hr⟩ := h
  have h' := hr.next hb
  obtain ⟨c0, c1, c2, c3⟩ := h'.bx.cells
  have hlt : b < W.heap.size := by omega
  exact ⟨c0, c1, c2, c3, (hb.cell (p := ⟨b, o + 1, none⟩) hlt).trans g1, (hb.cell (p := ⟨b, o + 2, none⟩) hlt).trans g2, (hb.cell (p := ⟨b, o + 3, none⟩) hlt).trans g3, (hb.cell (p := ⟨b, o + 4, none⟩) hlt).trans g4, Nat.le_trans hN hb.size, h'⟩
/-- The last lines: both say the same of the list, and the examples hold. -/
theorem eq_bool {a b : Bool} {p : Prop} (h : a = true ↔ p) (h' : b = true ↔ p) : a = b := by
  rw [Bool.eq_iff_iff, h, h']

set_option maxRecDepth 100000 in
set_option maxHeartbeats 8000000 in
theorem srights_any (l : List Bd) (v : Int) (w : World) (svl : Value) (hsl : bdsIn w w.heap.size l svl) (_hwf : (Lit.int .i64 v).wf = true) :
    Calls Try.prog 7 #[svl, .int .i64 v] w fun e w' => e = .returned (.bool true) ∧ Below w.heap.size w w' := by
  obtain ⟨gl, cl, rfl, _, _, _, _⟩ := id hsl
  have HSL := Lib.hid hsl
  clear hsl
  go_enter Try.func7, Try.ntmps7
  go_wp2_with fail
  refine (bsome_any l _ _ HSL.out).mono ?_
  rintro e W1 ⟨q, rfl, hq, hb1⟩
  have HB1 := Lib.hid hb1
  have HQ := Lib.hid hq
  clear hb1 hq
  cases q with
  | false =>
    go_wp2_with fail
    refine (knows3_any W1).mono ?_
    rintro e W2 ⟨rfl, hb2⟩
    have HB := Lib.hid (HB1.out.trans (hb2.mono HB1.out.size))
    clear hb2
    go_wp2_with fail
    go_ret
    exact ⟨rfl, HB.out⟩
  | true =>
    obtain ⟨hl60, hl4⟩ := HQ.out rfl
    have hl1 := Lib.hid (bdsIn_held HSL.out HB1.out)
    go_wp2_with fail
    refine (find_any l v W1 _ hl1.out (by omega)).mono ?_
    rintro e W2 ⟨hb2, hfind⟩
    have hl2 := bdsIn_held hl1.out hb2
    have HB2 := Lib.hid (HB1.out.trans (hb2.mono HB1.out.size))
    clear hb2 hl1
    rcases hfind with ⟨hp, rfl⟩ | ⟨p, sv', hp, rfl, hinp⟩
    · have hal : Below W2.heap.size W2 (W2.alloc (.cells #[.int .i64 0, .string ⟨#[]⟩, .int .i64 0, .slice none 0 0] 24)) := (Below.refl _ _).alloc (Nat.le_refl _) _
      have hl3 := bdsIn_held hl2 hal
      have hpi : placeI l v = -1 := by simp [placeI, hp]
      have hpa := place_any l v _ _ hl3 (by omega)
      rw [hpi] at hpa
      have hst : RSt w l (.slice gl l.length cl) W2.heap.size kZ (.slice none 0 0) (W2.alloc (.cells #[.int .i64 0, .string ⟨#[]⟩, .int .i64 0, .slice none 0 0] 24)) := ⟨HB2.out.trans (hal.mono HB2.out.size), hl3, TmBox.new (t := kZ) (inn_kZ _ _)⟩
      have HPA := Lib.hid hpa
      have HST := Lib.hid hst
      have HRS := Lib.hid (fun (W : World) (h : RSt w l (.slice gl l.length cl) W2.heap.size kZ (.slice none 0 0) W) => by
        have h1 := rsame_any kZ kZ W _ _ _ (Nat.le_refl _) h.bx.2 (inn_kZ W W.heap.size)
        rw [same_self kZ] at h1
        exact h1)
      clear hp hpi hpa hl3 hl2 hal hst
      go_wp2_with fail
      refine HPA.out.mono ?_
      rintro e w' ⟨rfl, rfl⟩
      go_wp2_with fail
      refine wp_region_held_drew (S := fun W' => W'.cell? ⟨W2.heap.size, 0, none⟩ = some (.int .i64 0) ∧ W'.cell? ⟨W2.heap.size, 1, none⟩ = some (.string ⟨#[]⟩) ∧ W'.cell? ⟨W2.heap.size, 2, none⟩ = some (.int .i64 0) ∧ W'.cell? ⟨W2.heap.size, 3, none⟩ = some (.slice none 0 0) ∧ RSt w l (.slice gl l.length cl) W2.heap.size kZ (.slice none 0 0) W') (by kernel_rfl)
        (RSt.stepN (p1 := True) (p2 := True) (p3 := True) (p4 := True) ((Below.refl _ _).drew) ⟨trivial, trivial, trivial, trivial, HST.out⟩) (fun hHeld => ?_)
      refine wpAnyH_take (i := 0) (oi := _) (v := ?_) rfl (by kernel_rfl) (by kernel_rfl) (by kernel_rfl) (fun _ _ _ h => h) (Or.inl ⟨by rfl, ?_⟩) hHeld ?_
      rotate_left
      · (intro w hSw; (try dsimp only at hSw); go_simp; try with_reducible rfl)
      try simp only [Act.put, List.setIfInBounds_toArray, List.set_cons_zero, List.set_cons_succ, List.getElem_toArray, List.getElem_cons_zero]
      refine wpAnyH_take (i := 1) (oi := _) (v := ?_) rfl (by kernel_rfl) (by kernel_rfl) (by kernel_rfl) (fun _ _ _ h => h) (Or.inl ⟨by rfl, ?_⟩) hHeld ?_
      rotate_left
      · (intro w hSw; (try dsimp only at hSw); go_simp; try with_reducible rfl)
      try simp only [Act.put, List.setIfInBounds_toArray, List.set_cons_zero, List.set_cons_succ, List.getElem_toArray, List.getElem_cons_zero, List.getElem_cons_succ]
      refine wpAnyH_take (i := 2) (oi := _) (v := ?_) rfl (by kernel_rfl) (by kernel_rfl) (by kernel_rfl) (fun _ _ _ h => h) (Or.inl ⟨by rfl, ?_⟩) hHeld ?_
      rotate_left
      · (intro w hSw; (try dsimp only at hSw); go_simp; try with_reducible rfl)
      try simp only [Act.put, List.setIfInBounds_toArray, List.set_cons_zero, List.set_cons_succ, List.getElem_toArray, List.getElem_cons_zero, List.getElem_cons_succ]
      refine wpAnyH_take (i := 3) (oi := _) (v := ?_) rfl (by kernel_rfl) (by kernel_rfl) (by kernel_rfl) (fun _ _ _ h => h) (Or.inl ⟨by rfl, ?_⟩) hHeld ?_
      rotate_left
      · (intro w hSw; (try dsimp only at hSw); go_simp; try with_reducible rfl)
      try simp only [Act.put, List.setIfInBounds_toArray, List.set_cons_zero, List.set_cons_succ, List.getElem_toArray, List.getElem_cons_zero, List.getElem_cons_succ]
      refine wpAnyH_take (i := 4) (oi := _) (v := ?_) rfl (by kernel_rfl) (by kernel_rfl) (by kernel_rfl) (fun _ _ _ h => h) (Or.inl ⟨by rfl, ?_⟩) hHeld ?_
      rotate_left
      · (intro w hSw; (try dsimp only at hSw); go_simp; try with_reducible rfl)
      try simp only [Act.put, List.setIfInBounds_toArray, List.set_cons_zero, List.set_cons_succ, List.getElem_toArray, List.getElem_cons_zero, List.getElem_cons_succ]
      refine wpAnyH_take (i := 5) (oi := _) (v := ?_) rfl (by kernel_rfl) (by kernel_rfl) (by kernel_rfl) (fun _ _ _ h => h) (Or.inl ⟨by rfl, ?_⟩) hHeld ?_
      rotate_left
      · (intro w hSw; (try dsimp only at hSw); go_simp; try with_reducible rfl)
      try simp only [Act.put, List.setIfInBounds_toArray, List.set_cons_zero, List.set_cons_succ, List.getElem_toArray, List.getElem_cons_zero, List.getElem_cons_succ]
      refine wpAnyH_take (i := 6) (oi := _) (v := ?_) rfl (by kernel_rfl) (by kernel_rfl) (by kernel_rfl) (fun _ _ _ h => h) (Or.inl ⟨by rfl, ?_⟩) hHeld ?_
      rotate_left
      · (intro w hSw; (try dsimp only at hSw); go_simp; try with_reducible rfl)
      try simp only [Act.put, List.setIfInBounds_toArray, List.set_cons_zero, List.set_cons_succ, List.getElem_toArray, List.getElem_cons_zero, List.getElem_cons_succ]
      refine wpAnyH_take (i := 7) (oi := _) (v := ?_) rfl (by kernel_rfl) (by kernel_rfl) (by kernel_rfl) (fun _ _ _ h => h) (Or.inl ⟨by rfl, ?_⟩) hHeld ?_
      rotate_left
      · (intro w hSw; (try dsimp only at hSw); go_simp; try with_reducible rfl)
      try simp only [Act.put, List.setIfInBounds_toArray, List.set_cons_zero, List.set_cons_succ, List.getElem_toArray, List.getElem_cons_zero, List.getElem_cons_succ]
      refine wpAnyH_take (i := 8) (oi := _) (v := ?_) rfl (by kernel_rfl) (by kernel_rfl) (by kernel_rfl) (fun _ _ _ h => h) (Or.inl ⟨by rfl, ?_⟩) hHeld ?_
      rotate_left
      · (intro w hSw; (try dsimp only at hSw); go_simp; try with_reducible rfl)
      try simp only [Act.put, List.setIfInBounds_toArray, List.set_cons_zero, List.set_cons_succ, List.getElem_toArray, List.getElem_cons_zero, List.getElem_cons_succ]
      refine wpAnyH_take (i := 9) (oi := _) (v := ?_) rfl (by kernel_rfl) (by kernel_rfl) (by kernel_rfl) (fun _ _ _ h => h) (Or.inl ⟨by rfl, ?_⟩) hHeld ?_
      rotate_left
      · (intro w hSw; (try dsimp only at hSw); go_simp; try with_reducible rfl)
      try simp only [Act.put, List.setIfInBounds_toArray, List.set_cons_zero, List.set_cons_succ, List.getElem_toArray, List.getElem_cons_zero, List.getElem_cons_succ]
      refine wpAnyH_ready (rs := [10]) (by kernel_rfl) (by simp) ?_
      refine AllReadyH.cons (o := _) rfl (fun K hK => ?_) AllReadyH.nil
      go_simp
      refine (HRS.out _ hHeld.2.2.2.2).mono ?_
      rintro e w' ⟨rfl, hb⟩
      go_wp2_with fail
      refine hK.out _ _ (RSt.stepN hb hHeld) (fun hHeld => ?_)
      clear hK K hb
      try simp only [Act.put, List.setIfInBounds_toArray, List.set_cons_zero, List.set_cons_succ, List.getElem_toArray, List.getElem_cons_zero, List.getElem_cons_succ]
      refine wpAnyH_take (i := 11) (oi := _) (v := ?_) rfl (by kernel_rfl) (by kernel_rfl) (by kernel_rfl) (fun _ _ _ h => h) (Or.inl ⟨by rfl, ?_⟩) hHeld ?_
      rotate_left
      · (intro w hSw; (try dsimp only at hSw); go_simp; try with_reducible rfl)
      try simp only [Act.put, List.setIfInBounds_toArray, List.set_cons_zero, List.set_cons_succ, List.getElem_toArray, List.getElem_cons_zero, List.getElem_cons_succ]
      refine wpAnyH_take (i := 12) (oi := _) (v := ?_) rfl (by kernel_rfl) (by kernel_rfl) (by kernel_rfl) (fun _ _ _ h => h) (Or.inl ⟨by rfl, ?_⟩) hHeld ?_
      rotate_left
      · (intro w hSw; (try dsimp only at hSw); go_simp; try with_reducible rfl)
      try simp only [Act.put, List.setIfInBounds_toArray, List.set_cons_zero, List.set_cons_succ, List.getElem_toArray, List.getElem_cons_zero, List.getElem_cons_succ]
      refine wpAnyH_take (i := 13) (oi := _) (v := ?_) rfl (by kernel_rfl) (by kernel_rfl) (by kernel_rfl) (fun _ _ _ h => h) (Or.inl ⟨by rfl, ?_⟩) hHeld ?_
      rotate_left
      · (intro w hSw; (try dsimp only at hSw); go_simp; try with_reducible rfl)
      try simp only [Act.put, List.setIfInBounds_toArray, List.set_cons_zero, List.set_cons_succ, List.getElem_toArray, List.getElem_cons_zero, List.getElem_cons_succ]
      refine wpAnyH_take (i := 14) (oi := _) (v := ?_) rfl (by kernel_rfl) (by kernel_rfl) (by kernel_rfl) (fun _ _ _ h => h) (Or.inl ⟨by rfl, ?_⟩) hHeld ?_
      rotate_left
      · (intro w hSw; (try dsimp only at hSw); go_simp; try with_reducible rfl)
      try simp only [Act.put, List.setIfInBounds_toArray, List.set_cons_zero, List.set_cons_succ, List.getElem_toArray, List.getElem_cons_zero, List.getElem_cons_succ]
      refine wpAnyH_take (i := 15) (oi := _) (v := ?_) rfl (by kernel_rfl) (by kernel_rfl) (by kernel_rfl) (fun _ _ _ h => h) (Or.inl ⟨by rfl, ?_⟩) hHeld ?_
      rotate_left
      · (intro w hSw; (try dsimp only at hSw); go_simp; try with_reducible rfl)
      try simp only [Act.put, List.setIfInBounds_toArray, List.set_cons_zero, List.set_cons_succ, List.getElem_toArray, List.getElem_cons_zero, List.getElem_cons_succ]
      refine wpAnyH_take (i := 16) (oi := _) (v := ?_) rfl (by kernel_rfl) (by kernel_rfl) (by kernel_rfl) (fun _ _ _ h => h) (Or.inl ⟨by rfl, ?_⟩) hHeld ?_
      rotate_left
      · (intro w hSw; (try dsimp only at hSw); go_simp; try with_reducible rfl)
      try simp only [Act.put, List.setIfInBounds_toArray, List.set_cons_zero, List.set_cons_succ, List.getElem_toArray, List.getElem_cons_zero, List.getElem_cons_succ]
      refine wpAnyH_take (i := 17) (oi := _) (v := undef) rfl (by kernel_rfl) (by kernel_rfl) (by kernel_rfl) (fun _ _ _ h => h) (Or.inr ⟨by rfl, rfl⟩) hHeld ?_
      try simp only [Act.put, List.setIfInBounds_toArray, List.set_cons_zero, List.set_cons_succ, List.getElem_toArray, List.getElem_cons_zero, List.getElem_cons_succ]
      refine wpAnyH_take (i := 18) (oi := _) (v := undef) rfl (by kernel_rfl) (by kernel_rfl) (by kernel_rfl) (fun _ _ _ h => h) (Or.inr ⟨by rfl, rfl⟩) hHeld ?_
      try simp only [Act.put, List.setIfInBounds_toArray, List.set_cons_zero, List.set_cons_succ, List.getElem_toArray, List.getElem_cons_zero, List.getElem_cons_succ]
      refine wpAnyH_take (i := 19) (oi := _) (v := undef) rfl (by kernel_rfl) (by kernel_rfl) (by kernel_rfl) (fun _ _ _ h => h) (Or.inr ⟨by rfl, rfl⟩) hHeld ?_
      try simp only [Act.put, List.setIfInBounds_toArray, List.set_cons_zero, List.set_cons_succ, List.getElem_toArray, List.getElem_cons_zero, List.getElem_cons_succ]
      refine wpAnyH_take (i := 20) (oi := _) (v := undef) rfl (by kernel_rfl) (by kernel_rfl) (by kernel_rfl) (fun _ _ _ h => h) (Or.inr ⟨by rfl, rfl⟩) hHeld ?_
      try simp only [Act.put, List.setIfInBounds_toArray, List.set_cons_zero, List.set_cons_succ, List.getElem_toArray, List.getElem_cons_zero, List.getElem_cons_succ]
      refine wpAnyH_take (i := 21) (oi := _) (v := undef) rfl (by kernel_rfl) (by kernel_rfl) (by kernel_rfl) (fun _ _ _ h => h) (Or.inr ⟨by rfl, rfl⟩) hHeld ?_
      try simp only [Act.put, List.setIfInBounds_toArray, List.set_cons_zero, List.set_cons_succ, List.getElem_toArray, List.getElem_cons_zero, List.getElem_cons_succ]
      refine wpAnyH_take (i := 22) (oi := _) (v := undef) rfl (by kernel_rfl) (by kernel_rfl) (by kernel_rfl) (fun _ _ _ h => h) (Or.inr ⟨by rfl, rfl⟩) hHeld ?_
      try simp only [Act.put, List.setIfInBounds_toArray, List.set_cons_zero, List.set_cons_succ, List.getElem_toArray, List.getElem_cons_zero, List.getElem_cons_succ]
      refine wpAnyH_ready (rs := [23]) (by kernel_rfl) (by simp) ?_
      refine AllReadyH.cons (o := _) rfl (fun K hK => ?_) AllReadyH.nil
      go_simp
      refine hK.out _ _ hHeld (fun hHeld => ?_)
      clear hK K
      try simp only [Act.put, List.setIfInBounds_toArray, List.set_cons_zero, List.set_cons_succ, List.getElem_toArray, List.getElem_cons_zero, List.getElem_cons_succ]
      refine wpAnyH_take (i := 24) (oi := _) (v := undef) rfl (by kernel_rfl) (by kernel_rfl) (by kernel_rfl) (fun _ _ _ h => h) (Or.inr ⟨by rfl, rfl⟩) hHeld ?_
      try simp only [Act.put, List.setIfInBounds_toArray, List.set_cons_zero, List.set_cons_succ, List.getElem_toArray, List.getElem_cons_zero, List.getElem_cons_succ]
      refine wpAnyH_take (i := 25) (oi := _) (v := ?_) rfl (by kernel_rfl) (by kernel_rfl) (by kernel_rfl) (fun _ _ _ h => h) (Or.inl ⟨by rfl, ?_⟩) hHeld ?_
      rotate_left
      · (intro w hSw; (try dsimp only at hSw); go_simp; try with_reducible rfl)
      try simp only [Act.put, List.setIfInBounds_toArray, List.set_cons_zero, List.set_cons_succ, List.getElem_toArray, List.getElem_cons_zero, List.getElem_cons_succ]
      refine wpAnyH_take (i := 26) (oi := _) (v := ?_) rfl (by kernel_rfl) (by kernel_rfl) (by kernel_rfl) (fun _ _ _ h => h) (Or.inl ⟨by rfl, ?_⟩) hHeld ?_
      rotate_left
      · (intro w hSw; (try dsimp only at hSw); go_simp; try with_reducible rfl)
      try simp only [Act.put, List.setIfInBounds_toArray, List.set_cons_zero, List.set_cons_succ, List.getElem_toArray, List.getElem_cons_zero, List.getElem_cons_succ]
      refine wpAnyH_done (by kernel_rfl) ?_ _
      have HR := Lib.hid (hHeld.2.2.2.2)
      clear hHeld
      go_wp2_with fail
      refine (sright_any l _ _ HR.out.bl (by omega) (by omega)).mono ?_
      rintro e W4 ⟨q1, rfl, hq1, hb4⟩
      have R4 := Lib.hid (HR.out.next hb4)
      have HQ1 := Lib.hid hq1
      clear hb4 hq1
      go_wp2_with fail
      refine (bright_any l _ _ R4.out.bl (by omega) (by omega)).mono ?_
      rintro e W5 ⟨q2, rfl, hq2, hb5⟩
      have R5 := Lib.hid (R4.out.next hb5)
      obtain rfl : q1 = q2 := eq_bool HQ1.out hq2
      clear hb5 hq2
      have hqq : (q1 == q1) = true := by cases q1 <;> rfl
      go_wp2_with fail
      refine (knows3_any W5).mono ?_
      rintro e W6 ⟨rfl, hb6⟩
      have HB := Lib.hid (R5.out.next hb6).hb
      clear hb6
      go_wp2_with fail
      go_ret
      exact ⟨rfl, HB.out⟩
    · have hal : Below W2.heap.size W2 (W2.alloc (.cells #[.int .i64 (tAt l p).kind, .string (tAt l p).name, .int .i64 (tAt l p).n, sv'] 24)) := (Below.refl _ _).alloc (Nat.le_refl _) _
      have hl3 := bdsIn_held hl2 hal
      obtain ⟨hpl, _, _⟩ := place_some hp
      have hta := tAt_get hpl
      have hpi : placeI l v = (p : Int) := by simp [placeI, hp]
      have hpa := place_any l v _ _ hl3 (by omega)
      rw [hpi] at hpa
      rw [hta] at hpa hinp hal hl3 ⊢
      obtain ⟨gx, cx, rfl⟩ := inn_slice hinp
      obtain ⟨b, off, svt, hgl, hbB, g0, g1, g2, g3, g4, hin'⟩ := bdsIn_get hl3 p hpl
      subst hgl
      obtain ⟨ga, capa, rfl⟩ := inn_slice hin'
      have hst : RSt w l (.slice (some ⟨b, off, none⟩) l.length cl) W2.heap.size l[p].t (.slice gx l[p].t.args.length cx) (W2.alloc (.cells #[.int .i64 l[p].t.kind, .string l[p].t.name, .int .i64 l[p].t.n, .slice gx l[p].t.args.length cx] 24)) := ⟨HB2.out.trans (hal.mono HB2.out.size), hl3, TmBox.new hinp⟩
      obtain ⟨N, hN⟩ : ∃ N, (W2.alloc (.cells #[.int .i64 l[p].t.kind, .string l[p].t.name, .int .i64 l[p].t.n, .slice gx l[p].t.args.length cx] 24)).heap.size = N := ⟨_, rfl⟩
      have hNle := Nat.le_of_eq hN.symm
      have hbx : b < N := by omega
      have hrs : ∀ (W : World), (N ≤ W.heap.size ∧ RSt w l (.slice (some ⟨b, off, none⟩) l.length cl) W2.heap.size l[p].t (.slice gx l[p].t.args.length cx) W) → W.cell? ⟨b, off + p * 5 + 4, none⟩ = some (.slice ga l[p].t.args.length capa) → Calls Try.prog 28 #[.agg #[.int .i64 l[p].t.kind, .string l[p].t.name, .int .i64 l[p].t.n, .slice gx l[p].t.args.length cx], .agg #[.int .i64 l[p].t.kind, .string l[p].t.name, .int .i64 l[p].t.n, .slice ga l[p].t.args.length capa]] W fun e w' => e = .returned (.bool true) ∧ Below W.heap.size W w' := fun W h hc => by
        obtain ⟨b', off', sv2, e1, _, _, _, _, _, q4, hin2⟩ := bdsIn_get h.2.bl p hpl
        injection e1 with e1
        injection e1 with e1 e2
        subst e1 e2
        rw [hc] at q4
        injection q4 with q4
        subst q4
        have h1 := rsame_any l[p].t l[p].t W _ _ _ (Nat.le_refl _) h.2.bx.2 hin2
        rw [same_self l[p].t] at h1
        exact h1
      have HPA := Lib.hid hpa
      have HST := Lib.hid hst
      have HRS := Lib.hid hrs
      have HG := Lib.hid (And.intro g1 (And.intro g2 (And.intro g3 g4)))
      have HNL := Lib.hid hNle
      clear hp hpi hpa hl3 hl2 hal hst hta hinp hin' hrs g0 g1 g2 g3 g4 hN hNle
      go_wp2_with fail
      refine HPA.out.mono ?_
      rintro e w' ⟨rfl, rfl⟩
      go_wp2_with fail
      refine wp_region_held_drew (S := fun W' => W'.cell? ⟨W2.heap.size, 0, none⟩ = some (.int .i64 l[p].t.kind) ∧ W'.cell? ⟨W2.heap.size, 1, none⟩ = some (.string l[p].t.name) ∧ W'.cell? ⟨W2.heap.size, 2, none⟩ = some (.int .i64 l[p].t.n) ∧ W'.cell? ⟨W2.heap.size, 3, none⟩ = some (.slice gx l[p].t.args.length cx) ∧
          W'.cell? ⟨b, off + p * 5 + 1, none⟩ = some (.int .i64 l[p].t.kind) ∧ W'.cell? ⟨b, off + p * 5 + 2, none⟩ = some (.string l[p].t.name) ∧ W'.cell? ⟨b, off + p * 5 + 3, none⟩ = some (.int .i64 l[p].t.n) ∧ W'.cell? ⟨b, off + p * 5 + 4, none⟩ = some (.slice ga l[p].t.args.length capa) ∧
          (N ≤ W'.heap.size ∧ RSt w l (.slice (some ⟨b, off, none⟩) l.length cl) W2.heap.size l[p].t (.slice gx l[p].t.args.length cx) W')) (by kernel_rfl)
        (RSt.stepS (p1 := True) (p2 := True) (p3 := True) (p4 := True) ((Below.refl _ _).drew) ⟨trivial, trivial, trivial, trivial, HG.out.1, HG.out.2.1, HG.out.2.2.1, HG.out.2.2.2, HNL.out, HST.out⟩ hbx) (fun hHeld => ?_)
      refine wpAnyH_take (i := 0) (oi := _) (v := ?_) rfl (by kernel_rfl) (by kernel_rfl) (by kernel_rfl) (fun _ _ _ h => h) (Or.inl ⟨by rfl, ?_⟩) hHeld ?_
      rotate_left
      · (intro w hSw; (try dsimp only at hSw); go_simp; try with_reducible rfl)
      try simp only [Act.put, List.setIfInBounds_toArray, List.set_cons_zero, List.set_cons_succ, List.getElem_toArray, List.getElem_cons_zero]
      refine wpAnyH_take (i := 1) (oi := _) (v := ?_) rfl (by kernel_rfl) (by kernel_rfl) (by kernel_rfl) (fun _ _ _ h => h) (Or.inl ⟨by rfl, ?_⟩) hHeld ?_
      rotate_left
      · (intro w hSw; (try dsimp only at hSw); go_simp; try with_reducible rfl)
      try simp only [Act.put, List.setIfInBounds_toArray, List.set_cons_zero, List.set_cons_succ, List.getElem_toArray, List.getElem_cons_zero, List.getElem_cons_succ]
      refine wpAnyH_take (i := 2) (oi := _) (v := ?_) rfl (by kernel_rfl) (by kernel_rfl) (by kernel_rfl) (fun _ _ _ h => h) (Or.inl ⟨by rfl, ?_⟩) hHeld ?_
      rotate_left
      · (intro w hSw; (try dsimp only at hSw); go_simp; try with_reducible rfl)
      try simp only [Act.put, List.setIfInBounds_toArray, List.set_cons_zero, List.set_cons_succ, List.getElem_toArray, List.getElem_cons_zero, List.getElem_cons_succ]
      refine wpAnyH_take (i := 3) (oi := _) (v := ?_) rfl (by kernel_rfl) (by kernel_rfl) (by kernel_rfl) (fun _ _ _ h => h) (Or.inl ⟨by rfl, ?_⟩) hHeld ?_
      rotate_left
      · (intro w hSw; (try dsimp only at hSw); go_simp; try with_reducible rfl)
      try simp only [Act.put, List.setIfInBounds_toArray, List.set_cons_zero, List.set_cons_succ, List.getElem_toArray, List.getElem_cons_zero, List.getElem_cons_succ]
      refine wpAnyH_take (i := 4) (oi := _) (v := ?_) rfl (by kernel_rfl) (by kernel_rfl) (by kernel_rfl) (fun _ _ _ h => h) (Or.inl ⟨by rfl, ?_⟩) hHeld ?_
      rotate_left
      · (intro w hSw; (try dsimp only at hSw); go_simp; try with_reducible rfl)
      try simp only [Act.put, List.setIfInBounds_toArray, List.set_cons_zero, List.set_cons_succ, List.getElem_toArray, List.getElem_cons_zero, List.getElem_cons_succ]
      refine wpAnyH_take (i := 5) (oi := _) (v := ?_) rfl (by kernel_rfl) (by kernel_rfl) (by kernel_rfl) (fun _ _ _ h => h) (Or.inl ⟨by rfl, ?_⟩) hHeld ?_
      rotate_left
      · (intro w hSw; (try dsimp only at hSw); go_simp; try with_reducible rfl)
      try simp only [Act.put, List.setIfInBounds_toArray, List.set_cons_zero, List.set_cons_succ, List.getElem_toArray, List.getElem_cons_zero, List.getElem_cons_succ]
      refine wpAnyH_take (i := 6) (oi := _) (v := ?_) rfl (by kernel_rfl) (by kernel_rfl) (by kernel_rfl) (fun _ _ _ h => h) (Or.inl ⟨by rfl, ?_⟩) hHeld ?_
      rotate_left
      · (intro w hSw; (try dsimp only at hSw); go_simp; try with_reducible rfl)
      try simp only [Act.put, List.setIfInBounds_toArray, List.set_cons_zero, List.set_cons_succ, List.getElem_toArray, List.getElem_cons_zero, List.getElem_cons_succ]
      refine wpAnyH_take (i := 7) (oi := _) (v := ?_) rfl (by kernel_rfl) (by kernel_rfl) (by kernel_rfl) (fun _ _ _ h => h) (Or.inl ⟨by rfl, ?_⟩) hHeld ?_
      rotate_left
      · (intro w hSw; (try dsimp only at hSw); go_simp; try with_reducible rfl)
      try simp only [Act.put, List.setIfInBounds_toArray, List.set_cons_zero, List.set_cons_succ, List.getElem_toArray, List.getElem_cons_zero, List.getElem_cons_succ]
      refine wpAnyH_take (i := 8) (oi := _) (v := undef) rfl (by kernel_rfl) (by kernel_rfl) (by kernel_rfl) (fun _ _ _ h => h) (Or.inr ⟨by rfl, rfl⟩) hHeld ?_
      try simp only [Act.put, List.setIfInBounds_toArray, List.set_cons_zero, List.set_cons_succ, List.getElem_toArray, List.getElem_cons_zero, List.getElem_cons_succ]
      refine wpAnyH_take (i := 9) (oi := _) (v := undef) rfl (by kernel_rfl) (by kernel_rfl) (by kernel_rfl) (fun _ _ _ h => h) (Or.inr ⟨by rfl, rfl⟩) hHeld ?_
      try simp only [Act.put, List.setIfInBounds_toArray, List.set_cons_zero, List.set_cons_succ, List.getElem_toArray, List.getElem_cons_zero, List.getElem_cons_succ]
      refine wpAnyH_ready (rs := [10]) (by kernel_rfl) (by simp) ?_
      refine AllReadyH.cons (o := _) rfl (fun K hK => ?_) AllReadyH.nil
      go_simp
      refine hK.out _ _ hHeld (fun hHeld => ?_)
      clear hK K
      try simp only [Act.put, List.setIfInBounds_toArray, List.set_cons_zero, List.set_cons_succ, List.getElem_toArray, List.getElem_cons_zero, List.getElem_cons_succ]
      refine wpAnyH_take (i := 11) (oi := _) (v := undef) rfl (by kernel_rfl) (by kernel_rfl) (by kernel_rfl) (fun _ _ _ h => h) (Or.inr ⟨by rfl, rfl⟩) hHeld ?_
      try simp only [Act.put, List.setIfInBounds_toArray, List.set_cons_zero, List.set_cons_succ, List.getElem_toArray, List.getElem_cons_zero, List.getElem_cons_succ]
      refine wpAnyH_take (i := 12) (oi := _) (v := ?_) rfl (by kernel_rfl) (by kernel_rfl) (by kernel_rfl) (fun _ _ _ h => h) (Or.inl ⟨by rfl, ?_⟩) hHeld ?_
      rotate_left
      · (intro w hSw; (try dsimp only at hSw); go_simp; try with_reducible rfl)
      try simp only [Act.put, List.setIfInBounds_toArray, List.set_cons_zero, List.set_cons_succ, List.getElem_toArray, List.getElem_cons_zero, List.getElem_cons_succ]
      refine wpAnyH_take (i := 13) (oi := _) (v := ?_) rfl (by kernel_rfl) (by kernel_rfl) (by kernel_rfl) (fun _ _ _ h => h) (Or.inl ⟨by rfl, ?_⟩) hHeld ?_
      rotate_left
      · (intro w hSw; (try dsimp only at hSw); go_simp; try with_reducible rfl)
      try simp only [Act.put, List.setIfInBounds_toArray, List.set_cons_zero, List.set_cons_succ, List.getElem_toArray, List.getElem_cons_zero, List.getElem_cons_succ]
      refine wpAnyH_take (i := 14) (oi := _) (v := ?_) rfl (by kernel_rfl) (by kernel_rfl) (by kernel_rfl) (fun _ _ _ h => h) (Or.inl ⟨by rfl, ?_⟩) hHeld ?_
      rotate_left
      · (intro w hSw; (try dsimp only at hSw); go_simp; try with_reducible rfl)
      try simp only [Act.put, List.setIfInBounds_toArray, List.set_cons_zero, List.set_cons_succ, List.getElem_toArray, List.getElem_cons_zero, List.getElem_cons_succ]
      refine wpAnyH_take (i := 15) (oi := _) (v := ?_) rfl (by kernel_rfl) (by kernel_rfl) (by kernel_rfl) (fun _ _ _ h => h) (Or.inl ⟨by rfl, ?_⟩) hHeld ?_
      rotate_left
      · (intro w hSw; (try dsimp only at hSw); go_simp; try with_reducible rfl)
      try simp only [Act.put, List.setIfInBounds_toArray, List.set_cons_zero, List.set_cons_succ, List.getElem_toArray, List.getElem_cons_zero, List.getElem_cons_succ]
      refine wpAnyH_take (i := 16) (oi := _) (v := ?_) rfl (by kernel_rfl) (by kernel_rfl) (by kernel_rfl) (fun _ _ _ h => h) (Or.inl ⟨by rfl, ?_⟩) hHeld ?_
      rotate_left
      · (intro w hSw; (try dsimp only at hSw); go_simp; try with_reducible rfl)
      try simp only [Act.put, List.setIfInBounds_toArray, List.set_cons_zero, List.set_cons_succ, List.getElem_toArray, List.getElem_cons_zero, List.getElem_cons_succ]
      refine wpAnyH_take (i := 17) (oi := _) (v := ?_) rfl (by kernel_rfl) (by kernel_rfl) (by kernel_rfl) (fun _ _ _ h => h) (Or.inl ⟨by rfl, ?_⟩) hHeld ?_
      rotate_left
      · (intro w hSw; (try dsimp only at hSw); go_simp; try with_reducible rfl)
      try simp only [Act.put, List.setIfInBounds_toArray, List.set_cons_zero, List.set_cons_succ, List.getElem_toArray, List.getElem_cons_zero, List.getElem_cons_succ]
      refine wpAnyH_take (i := 18) (oi := _) (v := ?_) rfl (by kernel_rfl) (by kernel_rfl) (by kernel_rfl) (fun _ _ _ h => h) (Or.inl ⟨by rfl, ?_⟩) hHeld ?_
      rotate_left
      · (intro w hSw; (try dsimp only at hSw); go_simp; try with_reducible rfl)
      try simp only [Act.put, List.setIfInBounds_toArray, List.set_cons_zero, List.set_cons_succ, List.getElem_toArray, List.getElem_cons_zero, List.getElem_cons_succ]
      refine wpAnyH_take (i := 19) (oi := _) (v := ?_) rfl (by kernel_rfl) (by kernel_rfl) (by kernel_rfl) (fun _ _ _ h => h) (Or.inl ⟨by rfl, ?_⟩) hHeld ?_
      rotate_left
      · (intro w hSw; (try dsimp only at hSw); go_simp; try with_reducible rfl)
      try simp only [Act.put, List.setIfInBounds_toArray, List.set_cons_zero, List.set_cons_succ, List.getElem_toArray, List.getElem_cons_zero, List.getElem_cons_succ]
      refine wpAnyH_take (i := 20) (oi := _) (v := ?_) rfl (by kernel_rfl) (by kernel_rfl) (by kernel_rfl) (fun _ _ _ h => h) (Or.inl ⟨by rfl, ?_⟩) hHeld ?_
      rotate_left
      · (intro w hSw; (try dsimp only at hSw); go_simp; try with_reducible rfl)
      try simp only [Act.put, List.setIfInBounds_toArray, List.set_cons_zero, List.set_cons_succ, List.getElem_toArray, List.getElem_cons_zero, List.getElem_cons_succ]
      refine wpAnyH_take (i := 21) (oi := _) (v := ?_) rfl (by kernel_rfl) (by kernel_rfl) (by kernel_rfl) (fun _ _ _ h => h) (Or.inl ⟨by rfl, ?_⟩) hHeld ?_
      rotate_left
      · (intro w hSw; (try dsimp only at hSw); go_simp; try with_reducible rfl)
      try simp only [Act.put, List.setIfInBounds_toArray, List.set_cons_zero, List.set_cons_succ, List.getElem_toArray, List.getElem_cons_zero, List.getElem_cons_succ]
      refine wpAnyH_take (i := 22) (oi := _) (v := ?_) rfl (by kernel_rfl) (by kernel_rfl) (by kernel_rfl) (fun _ _ _ h => h) (Or.inl ⟨by rfl, ?_⟩) hHeld ?_
      rotate_left
      · (intro w hSw; (try dsimp only at hSw); go_simp; try with_reducible rfl)
      try simp only [Act.put, List.setIfInBounds_toArray, List.set_cons_zero, List.set_cons_succ, List.getElem_toArray, List.getElem_cons_zero, List.getElem_cons_succ]
      refine wpAnyH_ready (rs := [23]) (by kernel_rfl) (by simp) ?_
      refine AllReadyH.cons (o := _) rfl (fun K hK => ?_) AllReadyH.nil
      go_simp
      refine (HRS.out _ hHeld.2.2.2.2.2.2.2.2 hHeld.2.2.2.2.2.2.2.1).mono ?_
      rintro e w' ⟨rfl, hb⟩
      go_wp2_with fail
      refine hK.out _ _ (RSt.stepS hb hHeld hbx) (fun hHeld => ?_)
      clear hK K hb
      try simp only [Act.put, List.setIfInBounds_toArray, List.set_cons_zero, List.set_cons_succ, List.getElem_toArray, List.getElem_cons_zero, List.getElem_cons_succ]
      refine wpAnyH_take (i := 24) (oi := _) (v := ?_) rfl (by kernel_rfl) (by kernel_rfl) (by kernel_rfl) (fun _ _ _ h => h) (Or.inl ⟨by rfl, ?_⟩) hHeld ?_
      rotate_left
      · (intro w hSw; (try dsimp only at hSw); go_simp; try with_reducible rfl)
      try simp only [Act.put, List.setIfInBounds_toArray, List.set_cons_zero, List.set_cons_succ, List.getElem_toArray, List.getElem_cons_zero, List.getElem_cons_succ]
      refine wpAnyH_take (i := 25) (oi := _) (v := ?_) rfl (by kernel_rfl) (by kernel_rfl) (by kernel_rfl) (fun _ _ _ h => h) (Or.inl ⟨by rfl, ?_⟩) hHeld ?_
      rotate_left
      · (intro w hSw; (try dsimp only at hSw); go_simp; try with_reducible rfl)
      try simp only [Act.put, List.setIfInBounds_toArray, List.set_cons_zero, List.set_cons_succ, List.getElem_toArray, List.getElem_cons_zero, List.getElem_cons_succ]
      refine wpAnyH_take (i := 26) (oi := _) (v := ?_) rfl (by kernel_rfl) (by kernel_rfl) (by kernel_rfl) (fun _ _ _ h => h) (Or.inl ⟨by rfl, ?_⟩) hHeld ?_
      rotate_left
      · (intro w hSw; (try dsimp only at hSw); go_simp; try with_reducible rfl)
      try simp only [Act.put, List.setIfInBounds_toArray, List.set_cons_zero, List.set_cons_succ, List.getElem_toArray, List.getElem_cons_zero, List.getElem_cons_succ]
      refine wpAnyH_done (by kernel_rfl) ?_ _
      have HR := Lib.hid (hHeld.2.2.2.2.2.2.2.2.2)
      clear hHeld
      go_wp2_with fail
      refine (sright_any l _ _ HR.out.bl (by omega) (by omega)).mono ?_
      rintro e W4 ⟨q1, rfl, hq1, hb4⟩
      have R4 := Lib.hid (HR.out.next hb4)
      have HQ1 := Lib.hid hq1
      clear hb4 hq1
      go_wp2_with fail
      refine (bright_any l _ _ R4.out.bl (by omega) (by omega)).mono ?_
      rintro e W5 ⟨q2, rfl, hq2, hb5⟩
      have R5 := Lib.hid (R4.out.next hb5)
      obtain rfl : q1 = q2 := eq_bool HQ1.out hq2
      clear hb5 hq2
      have hqq : (q1 == q1) = true := by cases q1 <;> rfl
      go_wp2_with fail
      refine (knows3_any W5).mono ?_
      rintro e W6 ⟨rfl, hb6⟩
      have HB := Lib.hid (R5.out.next hb6).hb
      clear hb6
      go_wp2_with fail
      go_ret
      exact ⟨rfl, HB.out⟩
end Go.Proofs.Ytpiflkgjmncijaa
