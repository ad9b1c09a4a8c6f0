/-
  The statement EmbedGrows, walked: for any two terms that lie in memory the call returns true, and nothing that was there has turned.
-/
import Derived.Test.YtomdccejgmhfoaaEKn
import Derived.Test.YtomdccejgmhfoaaEFew
import Derived.Test.YtomdccejgmhfoaaBlind
import Derived.Test.YtomdccejgmhfoaaTermA
namespace Go.Proofs.Ytomdccejgmhfoaa
open Go.RowKit Go.Shelf Go.Maps

theorem size7_any (t : Tm) (w : World) (sv : Value) (hin : Tm.inn w w.heap.size t sv) (hsz : t.size ≤ 1000000) : Calls Try.prog 37 #[.agg #[.int .i64 t.kind, .string t.name, .int .i64 t.n, sv]] w fun e w' => e = .returned (.int .i64 t.size) ∧ Below w.heap.size w w' :=
  (callsIn_wide.1 (tsize_in Fence.wide rfl (fun _ => trivial) rfl 9 (by omega) t w sv hin hsz)).mono fun e w' h => h
theorem few_is {t : Tm} {m d r : Int} (h : t.few m d = r) (w : World) (sv : Value) (hin : Tm.inn w w.heap.size t sv) (h0 : -1 ≤ m) (h1 : m ≤ 4000) (h2 : 0 ≤ d) (h3 : d ≤ 200) :
    Calls Try.prog 36 #[.agg #[.int .i64 t.kind, .string t.name, .int .i64 t.n, sv], .int .i64 m, .int .i64 d] w fun e w' => e = .returned (.int .i64 r) ∧ Below w.heap.size w w' := by
  subst h
  exact few2_any t w sv m d hin h0 h1 h2 h3
theorem same7_any (t : Tm) (w : World) (sv sv' : Value) (h : Tm.inn w w.heap.size t sv) (h' : Tm.inn w w.heap.size t sv') :
    Calls Try.prog 16 #[.agg #[.int .i64 t.kind, .string t.name, .int .i64 t.n, sv], .agg #[.int .i64 t.kind, .string t.name, .int .i64 t.n, sv']] w fun e w' => e = .returned (.bool true) ∧ Below w.heap.size w w' := by
  have hs : t.same t = true := (Tm.same_iff _ _).2 rfl
  have := rsame_any t t w _ sv sv' (Nat.le_refl _) h h'
  rw [hs] at this
  exact this
/-- What In tells of right terms. -/
theorem inB_says {a b : Tm} (h : inB a b = true) : a.fair = true ∧ b.fair = true ∧ a.right = true ∧ b.right = true ∧ b.emb a = true := by
  simp only [inB, Bool.and_eq_true] at h
  exact ⟨(right7 h.1.1).1, (right7 h.1.2).1, h.1.1, h.1.2, h.2⟩
set_option maxRecDepth 100000 in
set_option maxHeartbeats 8000000 in
theorem egrows_any (a b : Tm) (w : World) (sva svb : Value) (hia : Tm.inn w w.heap.size a sva) (hib : Tm.inn w w.heap.size b svb) :
    Calls Try.prog 11 #[.agg #[.int .i64 a.kind, .string a.name, .int .i64 a.n, sva], .agg #[.int .i64 b.kind, .string b.name, .int .i64 b.n, svb]] w fun e w' => e = .returned (.bool true) ∧ Below w.heap.size w w' := by
  have hst := TSt.start hia hib
  obtain ⟨ga, ca, rfl⟩ := inn_sl7 hia
  obtain ⟨gb, cb, rfl⟩ := inn_sl7 hib
  obtain ⟨W0, hW⟩ : ∃ W0, ((w.alloc (Obj.cells #[.int .i64 a.kind, .string a.name, .int .i64 a.n, .slice ga a.args.length ca] 27 (0, 0))).alloc (Obj.cells #[.int .i64 b.kind, .string b.name, .int .i64 b.n, .slice gb b.args.length cb] 27 (0, 0))) = W0 := ⟨_, rfl⟩
  rw [hW] at hst
  have HW := Lib.hid hW
  have HST := Lib.hid hst
  obtain ⟨m1, hm1⟩ : ∃ m1, a.few 500 200 = m1 := ⟨_, rfl⟩
  obtain ⟨m2, hm2⟩ : ∃ m2, b.few m1 200 = m2 := ⟨_, rfl⟩
  have r1 := few2_rng a 500 200 (by omega)
  rw [hm1] at r1
  have r2 := few2_rng b m1 200 (by omega)
  rw [hm2] at r2
  have HM1 := Lib.hid hm1
  have HM2 := Lib.hid hm2
  clear hia hib hW hst hm1 hm2
  go_enter Try.func11, Try.ntmps11
  go_wp2_with fail
  rw [HW.out]
  have hs0 : (fun W' => W'.cell? ⟨w.heap.size, 0, none⟩ = some (.int .i64 a.kind) ∧ W'.cell? ⟨w.heap.size, 1, none⟩ = some (.string a.name) ∧ W'.cell? ⟨w.heap.size, 2, none⟩ = some (.int .i64 a.n) ∧ W'.cell? ⟨w.heap.size, 3, none⟩ = some (.slice ga a.args.length ca) ∧ W'.cell? ⟨w.heap.size + 1, 0, none⟩ = some (.int .i64 b.kind) ∧ W'.cell? ⟨w.heap.size + 1, 1, none⟩ = some (.string b.name) ∧ W'.cell? ⟨w.heap.size + 1, 2, none⟩ = some (.int .i64 b.n) ∧ W'.cell? ⟨w.heap.size + 1, 3, none⟩ = some (.slice gb b.args.length cb) ∧ TSt w a b (.slice ga a.args.length ca) (.slice gb b.args.length cb) W') W0.drew := (HST.out.next ((Below.refl _ _).drew)).cells
  refine wp_region_held_drew (S := fun W' => W'.cell? ⟨w.heap.size, 0, none⟩ = some (.int .i64 a.kind) ∧ W'.cell? ⟨w.heap.size, 1, none⟩ = some (.string a.name) ∧ W'.cell? ⟨w.heap.size, 2, none⟩ = some (.int .i64 a.n) ∧ W'.cell? ⟨w.heap.size, 3, none⟩ = some (.slice ga a.args.length ca) ∧ W'.cell? ⟨w.heap.size + 1, 0, none⟩ = some (.int .i64 b.kind) ∧ W'.cell? ⟨w.heap.size + 1, 1, none⟩ = some (.string b.name) ∧ W'.cell? ⟨w.heap.size + 1, 2, none⟩ = some (.int .i64 b.n) ∧ W'.cell? ⟨w.heap.size + 1, 3, none⟩ = some (.slice gb b.args.length cb) ∧ TSt w a b (.slice ga a.args.length ca) (.slice gb b.args.length cb) W') (by kernel_rfl) hs0 (fun hHeld => ?_)
  clear hs0
  refine wpAnyH_take (i := 0) (oi := _) (v := ?_) rfl (by kernel_rfl) (by kernel_rfl) (by kernel_rfl) (fun _ _ _ h => h) (Or.inl ⟨by rfl, ?_⟩) hHeld ?_
  rotate_left
  · (intro w hSw; (try dsimp only at hSw); go_simp; try with_reducible rfl)
  try simp only [Act.put, List.setIfInBounds_toArray, List.set_cons_zero, List.set_cons_succ, List.getElem_toArray, List.getElem_cons_zero]
  refine wpAnyH_take (i := 1) (oi := _) (v := ?_) rfl (by kernel_rfl) (by kernel_rfl) (by kernel_rfl) (fun _ _ _ h => h) (Or.inl ⟨by rfl, ?_⟩) hHeld ?_
  rotate_left
  · (intro w hSw; (try dsimp only at hSw); go_simp; try with_reducible rfl)
  try simp only [Act.put, List.setIfInBounds_toArray, List.set_cons_zero, List.set_cons_succ, List.getElem_toArray, List.getElem_cons_zero, List.getElem_cons_succ]
  refine wpAnyH_ready (rs := [2]) (by kernel_rfl) (by simp) ?_
  refine AllReadyH.cons (o := _) rfl (fun K hK => ?_) AllReadyH.nil
  go_simp
  refine (few_is HM1.out _ _ (TSt.a' hHeld) (by omega) (by omega) (by omega) (by omega)).mono ?_
  rintro e w1 ⟨rfl, hb1⟩
  have hHeld2 := TSt.step hb1 hHeld
  clear hHeld
  go_wp2_with fail
  refine hK.out _ _ hHeld2 (fun hHeld => ?_)
  clear hK K hHeld2
  try simp only [Act.put, List.setIfInBounds_toArray, List.set_cons_zero, List.set_cons_succ, List.getElem_toArray, List.getElem_cons_zero, List.getElem_cons_succ]
  refine wpAnyH_ready (rs := [3]) (by kernel_rfl) (by simp) ?_
  refine AllReadyH.cons (o := _) rfl (fun K hK => ?_) AllReadyH.nil
  go_simp
  refine (few_is HM2.out _ _ (TSt.b' hHeld) (by omega) (by omega) (by omega) (by omega)).mono ?_
  rintro e w2 ⟨rfl, hb2⟩
  have hHeld2 := TSt.step hb2 hHeld
  clear hHeld
  go_wp2_with fail
  refine hK.out _ _ hHeld2 (fun hHeld => ?_)
  clear hK K hHeld2
  try simp only [Act.put, List.setIfInBounds_toArray, List.set_cons_zero, List.set_cons_succ, List.getElem_toArray, List.getElem_cons_zero, List.getElem_cons_succ]
  refine wpAnyH_ready (rs := [4]) (by kernel_rfl) (by simp) ?_
  refine AllReadyH.cons (o := _) rfl (fun K hK => ?_) AllReadyH.nil
  go_simp
  refine hK.out _ _ (hHeld) (fun hHeld => ?_)
  clear hK K
  try simp only [Act.put, List.setIfInBounds_toArray, List.set_cons_zero, List.set_cons_succ, List.getElem_toArray, List.getElem_cons_zero, List.getElem_cons_succ]
  refine wpAnyH_done (by kernel_rfl) ?_ _
  have A2 := Lib.hid hHeld.2.2.2.2.2.2.2.2
  obtain ⟨a0, a1, a2, a3, b0, b1, b2, b3, _⟩ := hHeld
  have la2 := A2.out.size
  by_cases hneg : m2 < 0
  · go_wp2_with fail
    refine (k7_any w2).mono ?_
    rintro e Wk ⟨rfl, hbk⟩
    have HB := Lib.hid (A2.out.next hbk).below
    clear hbk
    go_wp2_with fail
    go_ret
    exact ⟨rfl, HB.out⟩
  · have s2 := Tm.few_says b m1 200 (by rw [HM2.out]; omega)
    have s1 := Tm.few_says a 500 200 (by rw [HM1.out]; have := b.size_pos; omega)
    have hsa : a.size ≤ 1000000 := by omega
    have hsb : b.size ≤ 1000000 := by omega
    clear s1 s2 r1 r2
    cases hin : inB a b with
    | false =>
      have HI := Lib.hid hin
      clear hin
      go_wp2_with fail
      refine (in_is HI.out w2 _ _ A2.out.ia A2.out.ib hsa hsb).mono ?_
      rintro e w3 ⟨rfl, hb3⟩
      have A3 := Lib.hid (A2.out.next hb3)
      clear hb3 A2 a0 a1 a2 a3 b0 b1 b2 b3 la2
      go_wp2_with fail
      refine (k7_any w3).mono ?_
      rintro e Wk ⟨rfl, hbk⟩
      have HB := Lib.hid (A3.out.next hbk).below
      clear hbk
      go_wp2_with fail
      go_ret
      exact ⟨rfl, HB.out⟩
    | true =>
      have hs := inB_says hin
      have hg := Tm.emb_grows b hs.2.1 a hs.1 hs.2.2.2.2
      have HI := Lib.hid hin
      have HG := Lib.hid hg.2
      have hle := hg.1
      clear hin hs hg
      go_wp2_with fail
      refine (in_is HI.out w2 _ _ A2.out.ia A2.out.ib hsa hsb).mono ?_
      rintro e w3 ⟨rfl, hb3⟩
      have A3 := Lib.hid (A2.out.next hb3)
      clear hb3 A2 a0 a1 a2 a3 b0 b1 b2 b3 la2
      go_wp2_with fail
      have hs0 : (fun W' => W'.cell? ⟨w.heap.size, 0, none⟩ = some (.int .i64 a.kind) ∧ W'.cell? ⟨w.heap.size, 1, none⟩ = some (.string a.name) ∧ W'.cell? ⟨w.heap.size, 2, none⟩ = some (.int .i64 a.n) ∧ W'.cell? ⟨w.heap.size, 3, none⟩ = some (.slice ga a.args.length ca) ∧ W'.cell? ⟨w.heap.size + 1, 0, none⟩ = some (.int .i64 b.kind) ∧ W'.cell? ⟨w.heap.size + 1, 1, none⟩ = some (.string b.name) ∧ W'.cell? ⟨w.heap.size + 1, 2, none⟩ = some (.int .i64 b.n) ∧ W'.cell? ⟨w.heap.size + 1, 3, none⟩ = some (.slice gb b.args.length cb) ∧ TSt w a b (.slice ga a.args.length ca) (.slice gb b.args.length cb) W') w3.drew := (A3.out.next ((Below.refl _ _).drew)).cells
      refine wp_region_held_drew (S := fun W' => W'.cell? ⟨w.heap.size, 0, none⟩ = some (.int .i64 a.kind) ∧ W'.cell? ⟨w.heap.size, 1, none⟩ = some (.string a.name) ∧ W'.cell? ⟨w.heap.size, 2, none⟩ = some (.int .i64 a.n) ∧ W'.cell? ⟨w.heap.size, 3, none⟩ = some (.slice ga a.args.length ca) ∧ W'.cell? ⟨w.heap.size + 1, 0, none⟩ = some (.int .i64 b.kind) ∧ W'.cell? ⟨w.heap.size + 1, 1, none⟩ = some (.string b.name) ∧ W'.cell? ⟨w.heap.size + 1, 2, none⟩ = some (.int .i64 b.n) ∧ W'.cell? ⟨w.heap.size + 1, 3, none⟩ = some (.slice gb b.args.length cb) ∧ TSt w a b (.slice ga a.args.length ca) (.slice gb b.args.length cb) W') (by kernel_rfl) hs0 (fun hHeld => ?_)
      clear hs0 A3
      refine wpAnyH_take (i := 0) (oi := _) (v := ?_) rfl (by kernel_rfl) (by kernel_rfl) (by kernel_rfl) (fun _ _ _ h => h) (Or.inl ⟨by rfl, ?_⟩) hHeld ?_
      rotate_left
      · (intro w hSw; (try dsimp only at hSw); go_simp; try with_reducible rfl)
      try simp only [Act.put, List.setIfInBounds_toArray, List.set_cons_zero, List.set_cons_succ, List.getElem_toArray, List.getElem_cons_zero]
      refine wpAnyH_take (i := 2) (oi := _) (v := ?_) rfl (by kernel_rfl) (by kernel_rfl) (by kernel_rfl) (fun _ _ _ h => h) (Or.inl ⟨by rfl, ?_⟩) hHeld ?_
      rotate_left
      · (intro w hSw; (try dsimp only at hSw); go_simp; try with_reducible rfl)
      try simp only [Act.put, List.setIfInBounds_toArray, List.set_cons_zero, List.set_cons_succ, List.getElem_toArray, List.getElem_cons_zero, List.getElem_cons_succ]
      refine wpAnyH_ready (rs := [1]) (by kernel_rfl) (by simp) ?_
      refine AllReadyH.cons (o := _) rfl (fun K hK => ?_) AllReadyH.nil
      go_simp
      refine (size7_any a _ _ (TSt.a' hHeld) hsa).mono ?_
      rintro e w4 ⟨rfl, hb1⟩
      have hHeld2 := TSt.step hb1 hHeld
      clear hHeld
      go_wp2_with fail
      refine hK.out _ _ hHeld2 (fun hHeld => ?_)
      clear hK K hHeld2
      try simp only [Act.put, List.setIfInBounds_toArray, List.set_cons_zero, List.set_cons_succ, List.getElem_toArray, List.getElem_cons_zero, List.getElem_cons_succ]
      refine wpAnyH_ready (rs := [3]) (by kernel_rfl) (by simp) ?_
      refine AllReadyH.cons (o := _) rfl (fun K hK => ?_) AllReadyH.nil
      go_simp
      refine (size7_any b _ _ (TSt.b' hHeld) hsb).mono ?_
      rintro e w5 ⟨rfl, hb2⟩
      have hHeld2 := TSt.step hb2 hHeld
      clear hHeld
      go_wp2_with fail
      refine hK.out _ _ hHeld2 (fun hHeld => ?_)
      clear hK K hHeld2
      try simp only [Act.put, List.setIfInBounds_toArray, List.set_cons_zero, List.set_cons_succ, List.getElem_toArray, List.getElem_cons_zero, List.getElem_cons_succ]
      refine wpAnyH_ready (rs := [4]) (by kernel_rfl) (by simp) ?_
      refine AllReadyH.cons (o := _) rfl (fun K hK => ?_) AllReadyH.nil
      go_simp
      refine hK.out _ _ (hHeld) (fun hHeld => ?_)
      clear hK K
      try simp only [Act.put, List.setIfInBounds_toArray, List.set_cons_zero, List.set_cons_succ, List.getElem_toArray, List.getElem_cons_zero, List.getElem_cons_succ]
      refine wpAnyH_ready (rs := [5]) (by kernel_rfl) (by simp) ?_
      refine AllReadyH.cons (o := _) rfl (fun K hK => ?_) AllReadyH.nil
      go_simp
      refine hK.out _ _ (hHeld) (fun hHeld => ?_)
      clear hK K
      try simp only [Act.put, List.setIfInBounds_toArray, List.set_cons_zero, List.set_cons_succ, List.getElem_toArray, List.getElem_cons_zero, List.getElem_cons_succ]
      refine wpAnyH_done (by kernel_rfl) ?_ _
      have A5 := Lib.hid hHeld.2.2.2.2.2.2.2.2
      clear hHeld
      obtain ⟨na, hna⟩ : ∃ na, a.size = na := ⟨_, rfl⟩
      obtain ⟨nb, hnb⟩ : ∃ nb, b.size = nb := ⟨_, rfl⟩
      rw [hna] at HG hle hsa ⊢
      rw [hnb] at HG hle hsb ⊢
      clear hna hnb
      have hle' : decide ((na : Int) ≤ (nb : Int)) = true := by simpa using hle
      by_cases hlt : na < nb
      · skip
        have hlt' : decide ((na : Int) < (nb : Int)) = true := by simpa using hlt
        go_wp2_with fail
        have hs0 : (fun W' => W'.cell? ⟨w.heap.size, 0, none⟩ = some (.int .i64 a.kind) ∧ W'.cell? ⟨w.heap.size, 1, none⟩ = some (.string a.name) ∧ W'.cell? ⟨w.heap.size, 2, none⟩ = some (.int .i64 a.n) ∧ W'.cell? ⟨w.heap.size, 3, none⟩ = some (.slice ga a.args.length ca) ∧ W'.cell? ⟨w.heap.size + 1, 0, none⟩ = some (.int .i64 b.kind) ∧ W'.cell? ⟨w.heap.size + 1, 1, none⟩ = some (.string b.name) ∧ W'.cell? ⟨w.heap.size + 1, 2, none⟩ = some (.int .i64 b.n) ∧ W'.cell? ⟨w.heap.size + 1, 3, none⟩ = some (.slice gb b.args.length cb) ∧ TSt w a b (.slice ga a.args.length ca) (.slice gb b.args.length cb) W') w5.drew := (A5.out.next ((Below.refl _ _).drew)).cells
        refine wp_region_held_drew (S := fun W' => W'.cell? ⟨w.heap.size, 0, none⟩ = some (.int .i64 a.kind) ∧ W'.cell? ⟨w.heap.size, 1, none⟩ = some (.string a.name) ∧ W'.cell? ⟨w.heap.size, 2, none⟩ = some (.int .i64 a.n) ∧ W'.cell? ⟨w.heap.size, 3, none⟩ = some (.slice ga a.args.length ca) ∧ W'.cell? ⟨w.heap.size + 1, 0, none⟩ = some (.int .i64 b.kind) ∧ W'.cell? ⟨w.heap.size + 1, 1, none⟩ = some (.string b.name) ∧ W'.cell? ⟨w.heap.size + 1, 2, none⟩ = some (.int .i64 b.n) ∧ W'.cell? ⟨w.heap.size + 1, 3, none⟩ = some (.slice gb b.args.length cb) ∧ TSt w a b (.slice ga a.args.length ca) (.slice gb b.args.length cb) W') (by kernel_rfl) hs0 (fun hHeld => ?_)
        clear hs0 A5
        refine wpAnyH_take (i := 0) (oi := _) (v := ?_) rfl (by kernel_rfl) (by kernel_rfl) (by kernel_rfl) (fun _ _ _ h => h) (Or.inl ⟨by rfl, ?_⟩) hHeld ?_
        rotate_left
        · (intro w hSw; (try dsimp only at hSw); go_simp; try with_reducible rfl)
        try simp only [Act.put, List.setIfInBounds_toArray, List.set_cons_zero, List.set_cons_succ, List.getElem_toArray, List.getElem_cons_zero]
        refine wpAnyH_take (i := 1) (oi := _) (v := ?_) rfl (by kernel_rfl) (by kernel_rfl) (by kernel_rfl) (fun _ _ _ h => h) (Or.inl ⟨by rfl, ?_⟩) hHeld ?_
        rotate_left
        · (intro w hSw; (try dsimp only at hSw); go_simp; try with_reducible rfl)
        try simp only [Act.put, List.setIfInBounds_toArray, List.set_cons_zero, List.set_cons_succ, List.getElem_toArray, List.getElem_cons_zero, List.getElem_cons_succ]
        refine wpAnyH_take (i := 2) (oi := _) (v := ?_) rfl (by kernel_rfl) (by kernel_rfl) (by kernel_rfl) (fun _ _ _ h => h) (Or.inl ⟨by rfl, ?_⟩) hHeld ?_
        rotate_left
        · (intro w hSw; (try dsimp only at hSw); go_simp; try with_reducible rfl)
        try simp only [Act.put, List.setIfInBounds_toArray, List.set_cons_zero, List.set_cons_succ, List.getElem_toArray, List.getElem_cons_zero, List.getElem_cons_succ]
        refine wpAnyH_take (i := 3) (oi := _) (v := ?_) rfl (by kernel_rfl) (by kernel_rfl) (by kernel_rfl) (fun _ _ _ h => h) (Or.inl ⟨by rfl, ?_⟩) hHeld ?_
        rotate_left
        · (intro w hSw; (try dsimp only at hSw); go_simp; try with_reducible rfl)
        try simp only [Act.put, List.setIfInBounds_toArray, List.set_cons_zero, List.set_cons_succ, List.getElem_toArray, List.getElem_cons_zero, List.getElem_cons_succ]
        refine wpAnyH_take (i := 4) (oi := _) (v := ?_) rfl (by kernel_rfl) (by kernel_rfl) (by kernel_rfl) (fun _ _ _ h => h) (Or.inl ⟨by rfl, ?_⟩) hHeld ?_
        rotate_left
        · (intro w hSw; (try dsimp only at hSw); go_simp; try with_reducible rfl)
        try simp only [Act.put, List.setIfInBounds_toArray, List.set_cons_zero, List.set_cons_succ, List.getElem_toArray, List.getElem_cons_zero, List.getElem_cons_succ]
        refine wpAnyH_take (i := 5) (oi := _) (v := ?_) rfl (by kernel_rfl) (by kernel_rfl) (by kernel_rfl) (fun _ _ _ h => h) (Or.inl ⟨by rfl, ?_⟩) hHeld ?_
        rotate_left
        · (intro w hSw; (try dsimp only at hSw); go_simp; try with_reducible rfl)
        try simp only [Act.put, List.setIfInBounds_toArray, List.set_cons_zero, List.set_cons_succ, List.getElem_toArray, List.getElem_cons_zero, List.getElem_cons_succ]
        refine wpAnyH_take (i := 6) (oi := _) (v := ?_) rfl (by kernel_rfl) (by kernel_rfl) (by kernel_rfl) (fun _ _ _ h => h) (Or.inl ⟨by rfl, ?_⟩) hHeld ?_
        rotate_left
        · (intro w hSw; (try dsimp only at hSw); go_simp; try with_reducible rfl)
        try simp only [Act.put, List.setIfInBounds_toArray, List.set_cons_zero, List.set_cons_succ, List.getElem_toArray, List.getElem_cons_zero, List.getElem_cons_succ]
        refine wpAnyH_take (i := 7) (oi := _) (v := ?_) rfl (by kernel_rfl) (by kernel_rfl) (by kernel_rfl) (fun _ _ _ h => h) (Or.inl ⟨by rfl, ?_⟩) hHeld ?_
        rotate_left
        · (intro w hSw; (try dsimp only at hSw); go_simp; try with_reducible rfl)
        try simp only [Act.put, List.setIfInBounds_toArray, List.set_cons_zero, List.set_cons_succ, List.getElem_toArray, List.getElem_cons_zero, List.getElem_cons_succ]
        refine wpAnyH_take (i := 8) (oi := _) (v := undef) rfl (by kernel_rfl) (by kernel_rfl) (by kernel_rfl) (fun _ _ _ h => h) (Or.inr ⟨by rfl, rfl⟩) hHeld ?_
        try simp only [Act.put, List.setIfInBounds_toArray, List.set_cons_zero, List.set_cons_succ, List.getElem_toArray, List.getElem_cons_zero, List.getElem_cons_succ]
        refine wpAnyH_take (i := 10) (oi := _) (v := undef) rfl (by kernel_rfl) (by kernel_rfl) (by kernel_rfl) (fun _ _ _ h => h) (Or.inr ⟨by rfl, rfl⟩) hHeld ?_
        try simp only [Act.put, List.setIfInBounds_toArray, List.set_cons_zero, List.set_cons_succ, List.getElem_toArray, List.getElem_cons_zero, List.getElem_cons_succ]
        refine wpAnyH_ready (rs := [9]) (by kernel_rfl) (by simp) ?_
        refine AllReadyH.cons (o := _) rfl (fun K hK => ?_) AllReadyH.nil
        go_simp
        refine hK.out _ _ hHeld (fun hHeld => ?_)
        clear hK K
        try simp only [Act.put, List.setIfInBounds_toArray, List.set_cons_zero, List.set_cons_succ, List.getElem_toArray, List.getElem_cons_zero, List.getElem_cons_succ]
        refine wpAnyH_ready (rs := [11]) (by kernel_rfl) (by simp) ?_
        refine AllReadyH.cons (o := _) rfl (fun K hK => ?_) AllReadyH.nil
        go_simp
        refine hK.out _ _ hHeld (fun hHeld => ?_)
        clear hK K
        try simp only [Act.put, List.setIfInBounds_toArray, List.set_cons_zero, List.set_cons_succ, List.getElem_toArray, List.getElem_cons_zero, List.getElem_cons_succ]
        refine wpAnyH_ready (rs := [12]) (by kernel_rfl) (by simp) ?_
        refine AllReadyH.cons (o := _) rfl (fun K hK => ?_) AllReadyH.nil
        go_simp
        refine hK.out _ _ hHeld (fun hHeld => ?_)
        clear hK K
        try simp only [Act.put, List.setIfInBounds_toArray, List.set_cons_zero, List.set_cons_succ, List.getElem_toArray, List.getElem_cons_zero, List.getElem_cons_succ]
        refine wpAnyH_take (i := 13) (oi := _) (v := ?_) rfl (by kernel_rfl) (by kernel_rfl) (by kernel_rfl) (fun _ _ _ h => h) (Or.inl ⟨by rfl, ?_⟩) hHeld ?_
        rotate_left
        · (intro w hSw; (try dsimp only at hSw); go_simp; try with_reducible rfl)
        try simp only [Act.put, List.setIfInBounds_toArray, List.set_cons_zero, List.set_cons_succ, List.getElem_toArray, List.getElem_cons_zero, List.getElem_cons_succ]
        refine wpAnyH_take (i := 14) (oi := _) (v := ?_) rfl (by kernel_rfl) (by kernel_rfl) (by kernel_rfl) (fun _ _ _ h => h) (Or.inl ⟨by rfl, ?_⟩) hHeld ?_
        rotate_left
        · (intro w hSw; (try dsimp only at hSw); go_simp; try with_reducible rfl)
        try simp only [Act.put, List.setIfInBounds_toArray, List.set_cons_zero, List.set_cons_succ, List.getElem_toArray, List.getElem_cons_zero, List.getElem_cons_succ]
        refine wpAnyH_take (i := 15) (oi := _) (v := ?_) rfl (by kernel_rfl) (by kernel_rfl) (by kernel_rfl) (fun _ _ _ h => h) (Or.inl ⟨by rfl, ?_⟩) hHeld ?_
        rotate_left
        · (intro w hSw; (try dsimp only at hSw); go_simp; try with_reducible rfl)
        try simp only [Act.put, List.setIfInBounds_toArray, List.set_cons_zero, List.set_cons_succ, List.getElem_toArray, List.getElem_cons_zero, List.getElem_cons_succ]
        refine wpAnyH_ready (rs := [16]) (by kernel_rfl) (by simp) ?_
        refine AllReadyH.cons (o := _) rfl (fun K hK => ?_) AllReadyH.nil
        go_simp
        refine (k7_any _).mono ?_
        rintro e w9 ⟨rfl, hb4⟩
        have hHeld2 := TSt.step hb4 hHeld
        clear hHeld
        go_wp2_with fail
        refine hK.out _ _ hHeld2 (fun hHeld => ?_)
        clear hK K hHeld2
        try simp only [Act.put, List.setIfInBounds_toArray, List.set_cons_zero, List.set_cons_succ, List.getElem_toArray, List.getElem_cons_zero, List.getElem_cons_succ]
        refine wpAnyH_take (i := 17) (oi := _) (v := ?_) rfl (by kernel_rfl) (by kernel_rfl) (by kernel_rfl) (fun _ _ _ h => h) (Or.inl ⟨by rfl, ?_⟩) hHeld ?_
        rotate_left
        · (intro w hSw; (try dsimp only at hSw); go_simp; try with_reducible rfl)
        try simp only [Act.put, List.setIfInBounds_toArray, List.set_cons_zero, List.set_cons_succ, List.getElem_toArray, List.getElem_cons_zero, List.getElem_cons_succ]
        refine wpAnyH_ready (rs := [18]) (by kernel_rfl) (by simp) ?_
        refine AllReadyH.cons (o := _) rfl (fun K hK => ?_) AllReadyH.nil
        go_simp
        refine hK.out _ _ (hHeld) (fun hHeld => ?_)
        clear hK K
        try simp only [Act.put, List.setIfInBounds_toArray, List.set_cons_zero, List.set_cons_succ, List.getElem_toArray, List.getElem_cons_zero, List.getElem_cons_succ]
        refine wpAnyH_done (by kernel_rfl) ?_ _
        go_wp2_with fail
        go_ret
        exact ⟨rfl, TSt.b0 hHeld⟩
      · skip
        have hlt' : decide ((na : Int) < (nb : Int)) = false := by simpa using hlt
        have hbl := HG.out (by omega)
        obtain ⟨X, hX⟩ : ∃ X, b.blind = X := ⟨_, rfl⟩
        rw [hX] at hbl
        have HXA := Lib.hid hbl
        have HXB := Lib.hid hX
        clear hbl hX
        go_wp2_with fail
        have hs0 : (fun W' => W'.cell? ⟨w.heap.size, 0, none⟩ = some (.int .i64 a.kind) ∧ W'.cell? ⟨w.heap.size, 1, none⟩ = some (.string a.name) ∧ W'.cell? ⟨w.heap.size, 2, none⟩ = some (.int .i64 a.n) ∧ W'.cell? ⟨w.heap.size, 3, none⟩ = some (.slice ga a.args.length ca) ∧ W'.cell? ⟨w.heap.size + 1, 0, none⟩ = some (.int .i64 b.kind) ∧ W'.cell? ⟨w.heap.size + 1, 1, none⟩ = some (.string b.name) ∧ W'.cell? ⟨w.heap.size + 1, 2, none⟩ = some (.int .i64 b.n) ∧ W'.cell? ⟨w.heap.size + 1, 3, none⟩ = some (.slice gb b.args.length cb) ∧ TSt w a b (.slice ga a.args.length ca) (.slice gb b.args.length cb) W') w5.drew := (A5.out.next ((Below.refl _ _).drew)).cells
        refine wp_region_held_drew (S := fun W' => W'.cell? ⟨w.heap.size, 0, none⟩ = some (.int .i64 a.kind) ∧ W'.cell? ⟨w.heap.size, 1, none⟩ = some (.string a.name) ∧ W'.cell? ⟨w.heap.size, 2, none⟩ = some (.int .i64 a.n) ∧ W'.cell? ⟨w.heap.size, 3, none⟩ = some (.slice ga a.args.length ca) ∧ W'.cell? ⟨w.heap.size + 1, 0, none⟩ = some (.int .i64 b.kind) ∧ W'.cell? ⟨w.heap.size + 1, 1, none⟩ = some (.string b.name) ∧ W'.cell? ⟨w.heap.size + 1, 2, none⟩ = some (.int .i64 b.n) ∧ W'.cell? ⟨w.heap.size + 1, 3, none⟩ = some (.slice gb b.args.length cb) ∧ TSt w a b (.slice ga a.args.length ca) (.slice gb b.args.length cb) W') (by kernel_rfl) hs0 (fun hHeld => ?_)
        clear hs0 A5
        refine wpAnyH_take (i := 0) (oi := _) (v := ?_) rfl (by kernel_rfl) (by kernel_rfl) (by kernel_rfl) (fun _ _ _ h => h) (Or.inl ⟨by rfl, ?_⟩) hHeld ?_
        rotate_left
        · (intro w hSw; (try dsimp only at hSw); go_simp; try with_reducible rfl)
        try simp only [Act.put, List.setIfInBounds_toArray, List.set_cons_zero, List.set_cons_succ, List.getElem_toArray, List.getElem_cons_zero]
        refine wpAnyH_take (i := 1) (oi := _) (v := ?_) rfl (by kernel_rfl) (by kernel_rfl) (by kernel_rfl) (fun _ _ _ h => h) (Or.inl ⟨by rfl, ?_⟩) hHeld ?_
        rotate_left
        · (intro w hSw; (try dsimp only at hSw); go_simp; try with_reducible rfl)
        try simp only [Act.put, List.setIfInBounds_toArray, List.set_cons_zero, List.set_cons_succ, List.getElem_toArray, List.getElem_cons_zero, List.getElem_cons_succ]
        refine wpAnyH_take (i := 2) (oi := _) (v := ?_) rfl (by kernel_rfl) (by kernel_rfl) (by kernel_rfl) (fun _ _ _ h => h) (Or.inl ⟨by rfl, ?_⟩) hHeld ?_
        rotate_left
        · (intro w hSw; (try dsimp only at hSw); go_simp; try with_reducible rfl)
        try simp only [Act.put, List.setIfInBounds_toArray, List.set_cons_zero, List.set_cons_succ, List.getElem_toArray, List.getElem_cons_zero, List.getElem_cons_succ]
        refine wpAnyH_take (i := 3) (oi := _) (v := ?_) rfl (by kernel_rfl) (by kernel_rfl) (by kernel_rfl) (fun _ _ _ h => h) (Or.inl ⟨by rfl, ?_⟩) hHeld ?_
        rotate_left
        · (intro w hSw; (try dsimp only at hSw); go_simp; try with_reducible rfl)
        try simp only [Act.put, List.setIfInBounds_toArray, List.set_cons_zero, List.set_cons_succ, List.getElem_toArray, List.getElem_cons_zero, List.getElem_cons_succ]
        refine wpAnyH_take (i := 4) (oi := _) (v := ?_) rfl (by kernel_rfl) (by kernel_rfl) (by kernel_rfl) (fun _ _ _ h => h) (Or.inl ⟨by rfl, ?_⟩) hHeld ?_
        rotate_left
        · (intro w hSw; (try dsimp only at hSw); go_simp; try with_reducible rfl)
        try simp only [Act.put, List.setIfInBounds_toArray, List.set_cons_zero, List.set_cons_succ, List.getElem_toArray, List.getElem_cons_zero, List.getElem_cons_succ]
        refine wpAnyH_take (i := 5) (oi := _) (v := ?_) rfl (by kernel_rfl) (by kernel_rfl) (by kernel_rfl) (fun _ _ _ h => h) (Or.inl ⟨by rfl, ?_⟩) hHeld ?_
        rotate_left
        · (intro w hSw; (try dsimp only at hSw); go_simp; try with_reducible rfl)
        try simp only [Act.put, List.setIfInBounds_toArray, List.set_cons_zero, List.set_cons_succ, List.getElem_toArray, List.getElem_cons_zero, List.getElem_cons_succ]
        refine wpAnyH_take (i := 6) (oi := _) (v := ?_) rfl (by kernel_rfl) (by kernel_rfl) (by kernel_rfl) (fun _ _ _ h => h) (Or.inl ⟨by rfl, ?_⟩) hHeld ?_
        rotate_left
        · (intro w hSw; (try dsimp only at hSw); go_simp; try with_reducible rfl)
        try simp only [Act.put, List.setIfInBounds_toArray, List.set_cons_zero, List.set_cons_succ, List.getElem_toArray, List.getElem_cons_zero, List.getElem_cons_succ]
        refine wpAnyH_take (i := 7) (oi := _) (v := ?_) rfl (by kernel_rfl) (by kernel_rfl) (by kernel_rfl) (fun _ _ _ h => h) (Or.inl ⟨by rfl, ?_⟩) hHeld ?_
        rotate_left
        · (intro w hSw; (try dsimp only at hSw); go_simp; try with_reducible rfl)
        try simp only [Act.put, List.setIfInBounds_toArray, List.set_cons_zero, List.set_cons_succ, List.getElem_toArray, List.getElem_cons_zero, List.getElem_cons_succ]
        refine wpAnyH_take (i := 8) (oi := _) (v := ?_) rfl (by kernel_rfl) (by kernel_rfl) (by kernel_rfl) (fun _ _ _ h => h) (Or.inl ⟨by rfl, ?_⟩) hHeld ?_
        rotate_left
        · (intro w hSw; (try dsimp only at hSw); go_simp; try with_reducible rfl)
        try simp only [Act.put, List.setIfInBounds_toArray, List.set_cons_zero, List.set_cons_succ, List.getElem_toArray, List.getElem_cons_zero, List.getElem_cons_succ]
        refine wpAnyH_take (i := 10) (oi := _) (v := ?_) rfl (by kernel_rfl) (by kernel_rfl) (by kernel_rfl) (fun _ _ _ h => h) (Or.inl ⟨by rfl, ?_⟩) hHeld ?_
        rotate_left
        · (intro w hSw; (try dsimp only at hSw); go_simp; try with_reducible rfl)
        try simp only [Act.put, List.setIfInBounds_toArray, List.set_cons_zero, List.set_cons_succ, List.getElem_toArray, List.getElem_cons_zero, List.getElem_cons_succ]
        refine wpAnyH_ready (rs := [9]) (by kernel_rfl) (by simp) ?_
        refine AllReadyH.cons (o := _) rfl (fun K hK => ?_) AllReadyH.nil
        go_simp
        refine (blind_any a _ _ _ (Nat.le_refl _) (TSt.a' hHeld)).mono ?_
        rintro e w6 ⟨g1, c1, rfl, hp1, hb1⟩
        have hHeld2 := TSt.step hb1 hHeld
        have hi1 := Tm.inn_of_P (B := w6.heap.size) (fun _ h => h.2) _ _ hp1
        rw [HXA.out] at hi1 ⊢
        have HI1 := Lib.hid hi1
        clear hp1 hi1
        clear hHeld
        go_wp2_with fail
        refine hK.out _ _ hHeld2 (fun hHeld => ?_)
        clear hK K hHeld2
        try simp only [Act.put, List.setIfInBounds_toArray, List.set_cons_zero, List.set_cons_succ, List.getElem_toArray, List.getElem_cons_zero, List.getElem_cons_succ]
        refine wpAnyH_ready (rs := [11]) (by kernel_rfl) (by simp) ?_
        refine AllReadyH.cons (o := _) rfl (fun K hK => ?_) AllReadyH.nil
        go_simp
        refine (blind_any b _ _ _ (Nat.le_refl _) (TSt.b' hHeld)).mono ?_
        rintro e w7 ⟨g2, c2, rfl, hp2, hb2⟩
        have hHeld2 := TSt.step hb2 hHeld
        have hi2 := Tm.inn_of_P (B := w7.heap.size) (fun _ h => h.2) _ _ hp2
        rw [HXB.out] at hi2 ⊢
        have HI2 := Lib.hid hi2
        have HI3 := Lib.hid (Tm.inn_mono (Tm.inn_below HI1.out hb2 (Nat.le_refl _)) hb2.size)
        clear hp2 hi2
        clear hHeld
        go_wp2_with fail
        refine hK.out _ _ hHeld2 (fun hHeld => ?_)
        clear hK K hHeld2
        try simp only [Act.put, List.setIfInBounds_toArray, List.set_cons_zero, List.set_cons_succ, List.getElem_toArray, List.getElem_cons_zero, List.getElem_cons_succ]
        refine wpAnyH_ready (rs := [12]) (by kernel_rfl) (by simp) ?_
        refine AllReadyH.cons (o := _) rfl (fun K hK => ?_) AllReadyH.nil
        go_simp
        refine (same7_any X _ _ _ HI3.out HI2.out).mono ?_
        rintro e w8 ⟨rfl, hb3⟩
        have hHeld2 := TSt.step hb3 hHeld
        clear hHeld
        go_wp2_with fail
        refine hK.out _ _ hHeld2 (fun hHeld => ?_)
        clear hK K hHeld2
        try simp only [Act.put, List.setIfInBounds_toArray, List.set_cons_zero, List.set_cons_succ, List.getElem_toArray, List.getElem_cons_zero, List.getElem_cons_succ]
        refine wpAnyH_take (i := 13) (oi := _) (v := ?_) rfl (by kernel_rfl) (by kernel_rfl) (by kernel_rfl) (fun _ _ _ h => h) (Or.inl ⟨by rfl, ?_⟩) hHeld ?_
        rotate_left
        · (intro w hSw; (try dsimp only at hSw); go_simp; try with_reducible rfl)
        try simp only [Act.put, List.setIfInBounds_toArray, List.set_cons_zero, List.set_cons_succ, List.getElem_toArray, List.getElem_cons_zero, List.getElem_cons_succ]
        refine wpAnyH_take (i := 14) (oi := _) (v := ?_) rfl (by kernel_rfl) (by kernel_rfl) (by kernel_rfl) (fun _ _ _ h => h) (Or.inl ⟨by rfl, ?_⟩) hHeld ?_
        rotate_left
        · (intro w hSw; (try dsimp only at hSw); go_simp; try with_reducible rfl)
        try simp only [Act.put, List.setIfInBounds_toArray, List.set_cons_zero, List.set_cons_succ, List.getElem_toArray, List.getElem_cons_zero, List.getElem_cons_succ]
        refine wpAnyH_take (i := 15) (oi := _) (v := ?_) rfl (by kernel_rfl) (by kernel_rfl) (by kernel_rfl) (fun _ _ _ h => h) (Or.inl ⟨by rfl, ?_⟩) hHeld ?_
        rotate_left
        · (intro w hSw; (try dsimp only at hSw); go_simp; try with_reducible rfl)
        try simp only [Act.put, List.setIfInBounds_toArray, List.set_cons_zero, List.set_cons_succ, List.getElem_toArray, List.getElem_cons_zero, List.getElem_cons_succ]
        refine wpAnyH_ready (rs := [16]) (by kernel_rfl) (by simp) ?_
        refine AllReadyH.cons (o := _) rfl (fun K hK => ?_) AllReadyH.nil
        go_simp
        refine (k7_any _).mono ?_
        rintro e w9 ⟨rfl, hb4⟩
        have hHeld2 := TSt.step hb4 hHeld
        clear hHeld
        go_wp2_with fail
        refine hK.out _ _ hHeld2 (fun hHeld => ?_)
        clear hK K hHeld2
        try simp only [Act.put, List.setIfInBounds_toArray, List.set_cons_zero, List.set_cons_succ, List.getElem_toArray, List.getElem_cons_zero, List.getElem_cons_succ]
        refine wpAnyH_take (i := 17) (oi := _) (v := ?_) rfl (by kernel_rfl) (by kernel_rfl) (by kernel_rfl) (fun _ _ _ h => h) (Or.inl ⟨by rfl, ?_⟩) hHeld ?_
        rotate_left
        · (intro w hSw; (try dsimp only at hSw); go_simp; try with_reducible rfl)
        try simp only [Act.put, List.setIfInBounds_toArray, List.set_cons_zero, List.set_cons_succ, List.getElem_toArray, List.getElem_cons_zero, List.getElem_cons_succ]
        refine wpAnyH_ready (rs := [18]) (by kernel_rfl) (by simp) ?_
        refine AllReadyH.cons (o := _) rfl (fun K hK => ?_) AllReadyH.nil
        go_simp
        refine hK.out _ _ (hHeld) (fun hHeld => ?_)
        clear hK K
        try simp only [Act.put, List.setIfInBounds_toArray, List.set_cons_zero, List.set_cons_succ, List.getElem_toArray, List.getElem_cons_zero, List.getElem_cons_succ]
        refine wpAnyH_done (by kernel_rfl) ?_ _
        go_wp2_with fail
        go_ret
        exact ⟨rfl, TSt.b0 hHeld⟩
end Go.Proofs.Ytomdccejgmhfoaa
