/-
  The statement EmbedOrders, walked: for any three terms that lie in memory the call returns true, and nothing that was there has turned.
-/
import Derived.Test.YtomdccejgmhfoaaLawEGrows
import Derived.Test.YtomdccejgmhfoaaLawETells
namespace Go.Proofs.Ytomdccejgmhfoaa
open Go.RowKit Go.Shelf Go.Maps

theorem deep_mem {x : Tm} : ∀ {l : List Tm}, x ∈ l → x.deep ≤ Tm.deeps l
  | [], h => by cases h
  | t :: r, h => by
    simp only [Tm.deeps]
    rcases List.mem_cons.1 h with rfl | h
    · omega
    · have := deep_mem h
      omega
theorem right_arg {t x : Tm} (h : t.right = true) (hx : x ∈ t.args) : x.right = true := by
  have h1 := Tm.fair_mem (right7 h).1 hx
  have h2 := Tm.size_mem_le hx
  have h3 := deep_mem hx
  have h4 := Tm.size_args t
  have h5 : t.deep = Tm.deeps t.args + 1 := by cases t; simp [Tm.deep, Tm.args]
  unfold Tm.right at h ⊢
  simp only [Bool.and_eq_true, decide_eq_true_eq] at h ⊢
  obtain ⟨⟨_, h6⟩, h7⟩ := h
  exact ⟨⟨h1, by omega⟩, by omega⟩
theorem inB_self {a : Tm} (h : a.right = true) : inB a a = true := by simp [inB, h, Tm.emb_self]
theorem inB_arg {a x : Tm} (h : a.right = true) (hx : x ∈ a.args) : inB x a = true := by simp [inB, h, right_arg h hx, Tm.emb_args a hx]
theorem inB_trans {a b c : Tm} (h1 : inB a b = true) (h2 : inB b c = true) : inB a c = true := by
  have q1 := inB_says h1
  have q2 := inB_says h2
  simp [inB, q1.2.2.1, q2.2.2.2.1, Tm.emb_trans c q2.2.1 b a q1.2.1 q1.1 q2.2.2.2.2 q1.2.2.2.2]
theorem OSt.twelve {w : World} {a b c : Tm} {sva svb svc : Value} {W' : World} (h : OSt w a b c sva svb svc W') :
    (W'.cell? ⟨w.heap.size, 0, none⟩ = some (.int .i64 a.kind) ∧ W'.cell? ⟨w.heap.size, 1, none⟩ = some (.string a.name) ∧ W'.cell? ⟨w.heap.size, 2, none⟩ = some (.int .i64 a.n) ∧ W'.cell? ⟨w.heap.size, 3, none⟩ = some (sva)) ∧ (W'.cell? ⟨w.heap.size + 1, 0, none⟩ = some (.int .i64 b.kind) ∧ W'.cell? ⟨w.heap.size + 1, 1, none⟩ = some (.string b.name) ∧ W'.cell? ⟨w.heap.size + 1, 2, none⟩ = some (.int .i64 b.n) ∧ W'.cell? ⟨w.heap.size + 1, 3, none⟩ = some (svb)) ∧ (W'.cell? ⟨w.heap.size + 1 + 1, 0, none⟩ = some (.int .i64 c.kind) ∧ W'.cell? ⟨w.heap.size + 1 + 1, 1, none⟩ = some (.string c.name) ∧ W'.cell? ⟨w.heap.size + 1 + 1, 2, none⟩ = some (.int .i64 c.n) ∧ W'.cell? ⟨w.heap.size + 1 + 1, 3, none⟩ = some (svc)) ∧ OSt w a b c sva svb svc W' :=
  ⟨h.cells.1, h.cells.2.1, h.cells.2.2, h⟩
theorem OSt.step {w : World} {a b c : Tm} {sva svb svc : Value} {W W' : World} {p q r : Prop} (hb : Below W.heap.size W W') (h : p ∧ q ∧ r ∧ OSt w a b c sva svb svc W) :
    (W'.cell? ⟨w.heap.size, 0, none⟩ = some (.int .i64 a.kind) ∧ W'.cell? ⟨w.heap.size, 1, none⟩ = some (.string a.name) ∧ W'.cell? ⟨w.heap.size, 2, none⟩ = some (.int .i64 a.n) ∧ W'.cell? ⟨w.heap.size, 3, none⟩ = some (sva)) ∧ (W'.cell? ⟨w.heap.size + 1, 0, none⟩ = some (.int .i64 b.kind) ∧ W'.cell? ⟨w.heap.size + 1, 1, none⟩ = some (.string b.name) ∧ W'.cell? ⟨w.heap.size + 1, 2, none⟩ = some (.int .i64 b.n) ∧ W'.cell? ⟨w.heap.size + 1, 3, none⟩ = some (svb)) ∧ (W'.cell? ⟨w.heap.size + 1 + 1, 0, none⟩ = some (.int .i64 c.kind) ∧ W'.cell? ⟨w.heap.size + 1 + 1, 1, none⟩ = some (.string c.name) ∧ W'.cell? ⟨w.heap.size + 1 + 1, 2, none⟩ = some (.int .i64 c.n) ∧ W'.cell? ⟨w.heap.size + 1 + 1, 3, none⟩ = some (svc)) ∧ OSt w a b c sva svb svc W' := (h.2.2.2.next hb).twelve
/-- An Arg of the first term, as a round reads it. -/
theorem OSt.arg {w : World} {a b c x : Tm} {sva svb svc sx : Value} {W' : World} {bb oo : Nat} (h : OSt w a b c sva svb svc W') (hx : TmAt W' bb oo x sx) :
    (W'.cell? ⟨w.heap.size, 0, none⟩ = some (.int .i64 a.kind) ∧ W'.cell? ⟨w.heap.size, 1, none⟩ = some (.string a.name) ∧ W'.cell? ⟨w.heap.size, 2, none⟩ = some (.int .i64 a.n) ∧ W'.cell? ⟨w.heap.size, 3, none⟩ = some (sva)) ∧ (W'.cell? ⟨bb, oo, none⟩ = some (.int .i64 x.kind) ∧ W'.cell? ⟨bb, oo + 1, none⟩ = some (.string x.name) ∧ W'.cell? ⟨bb, oo + 2, none⟩ = some (.int .i64 x.n) ∧ W'.cell? ⟨bb, oo + 3, none⟩ = some (sx)) ∧ OSt w a b c sva svb svc W' ∧ TmAt W' bb oo x sx := ⟨h.cells.1, ⟨hx.c0, hx.c1, hx.c2, hx.c3⟩, h, hx⟩
theorem OSt.argStep {w : World} {a b c x : Tm} {sva svb svc sx : Value} {W W' : World} {bb oo : Nat} {p q : Prop} (hb : Below W.heap.size W W') (h : p ∧ q ∧ OSt w a b c sva svb svc W ∧ TmAt W bb oo x sx) :
    (W'.cell? ⟨w.heap.size, 0, none⟩ = some (.int .i64 a.kind) ∧ W'.cell? ⟨w.heap.size, 1, none⟩ = some (.string a.name) ∧ W'.cell? ⟨w.heap.size, 2, none⟩ = some (.int .i64 a.n) ∧ W'.cell? ⟨w.heap.size, 3, none⟩ = some (sva)) ∧ (W'.cell? ⟨bb, oo, none⟩ = some (.int .i64 x.kind) ∧ W'.cell? ⟨bb, oo + 1, none⟩ = some (.string x.name) ∧ W'.cell? ⟨bb, oo + 2, none⟩ = some (.int .i64 x.n) ∧ W'.cell? ⟨bb, oo + 3, none⟩ = some (sx)) ∧ OSt w a b c sva svb svc W' ∧ TmAt W' bb oo x sx := (h.2.2.1.next hb).arg (h.2.2.2.next hb)
set_option maxRecDepth 100000 in
set_option maxHeartbeats 8000000 in
theorem eorders_any (a b c : Tm) (w : World) (sva svb svc : Value) (hia : Tm.inn w w.heap.size a sva) (hib : Tm.inn w w.heap.size b svb) (hic : Tm.inn w w.heap.size c svc) :
    Calls Try.prog 10 #[.agg #[.int .i64 a.kind, .string a.name, .int .i64 a.n, sva], .agg #[.int .i64 b.kind, .string b.name, .int .i64 b.n, svb], .agg #[.int .i64 c.kind, .string c.name, .int .i64 c.n, svc]] w fun e w' => e = .returned (.bool true) ∧ Below w.heap.size w w' := by
  have hst := OSt.start hia hib hic
  obtain ⟨ga, ca, rfl⟩ := inn_sl7 hia
  obtain ⟨gb, cb, rfl⟩ := inn_sl7 hib
  obtain ⟨gc, cc, rfl⟩ := inn_sl7 hic
  obtain ⟨W0, hW⟩ : ∃ W0, (((w.alloc (Obj.cells #[.int .i64 a.kind, .string a.name, .int .i64 a.n, .slice ga a.args.length ca] 27 (0, 0))).alloc (Obj.cells #[.int .i64 b.kind, .string b.name, .int .i64 b.n, .slice gb b.args.length cb] 27 (0, 0))).alloc (Obj.cells #[.int .i64 c.kind, .string c.name, .int .i64 c.n, .slice gc c.args.length cc] 27 (0, 0))) = W0 := ⟨_, rfl⟩
  rw [hW] at hst
  have HW := Lib.hid hW
  have HST := Lib.hid hst
  obtain ⟨m1, hm1⟩ : ∃ m1, a.few 500 200 = m1 := ⟨_, rfl⟩
  obtain ⟨m2, hm2⟩ : ∃ m2, b.few m1 200 = m2 := ⟨_, rfl⟩
  obtain ⟨m3, hm3⟩ : ∃ m3, c.few m2 200 = m3 := ⟨_, rfl⟩
  have r1 := few2_rng a 500 200 (by omega)
  rw [hm1] at r1
  have r2 := few2_rng b m1 200 (by omega)
  rw [hm2] at r2
  have r3 := few2_rng c m2 200 (by omega)
  rw [hm3] at r3
  have HM1 := Lib.hid hm1
  have HM2 := Lib.hid hm2
  have HM3 := Lib.hid hm3
  clear hia hib hic hW hst hm1 hm2 hm3
  go_enter Try.func10, Try.ntmps10
  go_wp2_with fail
  rw [HW.out]
  have hs0 : (fun W' => (W'.cell? ⟨w.heap.size, 0, none⟩ = some (.int .i64 a.kind) ∧ W'.cell? ⟨w.heap.size, 1, none⟩ = some (.string a.name) ∧ W'.cell? ⟨w.heap.size, 2, none⟩ = some (.int .i64 a.n) ∧ W'.cell? ⟨w.heap.size, 3, none⟩ = some (.slice ga a.args.length ca)) ∧ (W'.cell? ⟨w.heap.size + 1, 0, none⟩ = some (.int .i64 b.kind) ∧ W'.cell? ⟨w.heap.size + 1, 1, none⟩ = some (.string b.name) ∧ W'.cell? ⟨w.heap.size + 1, 2, none⟩ = some (.int .i64 b.n) ∧ W'.cell? ⟨w.heap.size + 1, 3, none⟩ = some (.slice gb b.args.length cb)) ∧ (W'.cell? ⟨w.heap.size + 1 + 1, 0, none⟩ = some (.int .i64 c.kind) ∧ W'.cell? ⟨w.heap.size + 1 + 1, 1, none⟩ = some (.string c.name) ∧ W'.cell? ⟨w.heap.size + 1 + 1, 2, none⟩ = some (.int .i64 c.n) ∧ W'.cell? ⟨w.heap.size + 1 + 1, 3, none⟩ = some (.slice gc c.args.length cc)) ∧ OSt w a b c (.slice ga a.args.length ca) (.slice gb b.args.length cb) (.slice gc c.args.length cc) W') W0.drew := (HST.out.next ((Below.refl _ _).drew)).twelve
  refine wp_region_held_drew (S := fun W' => (W'.cell? ⟨w.heap.size, 0, none⟩ = some (.int .i64 a.kind) ∧ W'.cell? ⟨w.heap.size, 1, none⟩ = some (.string a.name) ∧ W'.cell? ⟨w.heap.size, 2, none⟩ = some (.int .i64 a.n) ∧ W'.cell? ⟨w.heap.size, 3, none⟩ = some (.slice ga a.args.length ca)) ∧ (W'.cell? ⟨w.heap.size + 1, 0, none⟩ = some (.int .i64 b.kind) ∧ W'.cell? ⟨w.heap.size + 1, 1, none⟩ = some (.string b.name) ∧ W'.cell? ⟨w.heap.size + 1, 2, none⟩ = some (.int .i64 b.n) ∧ W'.cell? ⟨w.heap.size + 1, 3, none⟩ = some (.slice gb b.args.length cb)) ∧ (W'.cell? ⟨w.heap.size + 1 + 1, 0, none⟩ = some (.int .i64 c.kind) ∧ W'.cell? ⟨w.heap.size + 1 + 1, 1, none⟩ = some (.string c.name) ∧ W'.cell? ⟨w.heap.size + 1 + 1, 2, none⟩ = some (.int .i64 c.n) ∧ W'.cell? ⟨w.heap.size + 1 + 1, 3, none⟩ = some (.slice gc c.args.length cc)) ∧ OSt w a b c (.slice ga a.args.length ca) (.slice gb b.args.length cb) (.slice gc c.args.length cc) W') (by kernel_rfl) hs0 (fun hHeld => ?_)
  clear hs0
  refine wpAnyH_take (i := 0) (oi := _) (v := ?_) rfl (by kernel_rfl) (by kernel_rfl) (by kernel_rfl) (fun _ _ _ h => h) (Or.inl ⟨by rfl, ?_⟩) hHeld ?_
  rotate_left
  · (intro w hSw; obtain ⟨⟨a0, a1, a2, a3⟩, ⟨b0, b1, b2, b3⟩, ⟨c0, c1, c2, c3⟩, _⟩ := hSw; go_simp; try with_reducible rfl)
  try simp only [Act.put, List.setIfInBounds_toArray, List.set_cons_zero, List.set_cons_succ, List.getElem_toArray, List.getElem_cons_zero]
  refine wpAnyH_take (i := 1) (oi := _) (v := ?_) rfl (by kernel_rfl) (by kernel_rfl) (by kernel_rfl) (fun _ _ _ h => h) (Or.inl ⟨by rfl, ?_⟩) hHeld ?_
  rotate_left
  · (intro w hSw; obtain ⟨⟨a0, a1, a2, a3⟩, ⟨b0, b1, b2, b3⟩, ⟨c0, c1, c2, c3⟩, _⟩ := hSw; go_simp; try with_reducible rfl)
  try simp only [Act.put, List.setIfInBounds_toArray, List.set_cons_zero, List.set_cons_succ, List.getElem_toArray, List.getElem_cons_zero, List.getElem_cons_succ]
  refine wpAnyH_take (i := 2) (oi := _) (v := ?_) rfl (by kernel_rfl) (by kernel_rfl) (by kernel_rfl) (fun _ _ _ h => h) (Or.inl ⟨by rfl, ?_⟩) hHeld ?_
  rotate_left
  · (intro w hSw; obtain ⟨⟨a0, a1, a2, a3⟩, ⟨b0, b1, b2, b3⟩, ⟨c0, c1, c2, c3⟩, _⟩ := hSw; go_simp; try with_reducible rfl)
  try simp only [Act.put, List.setIfInBounds_toArray, List.set_cons_zero, List.set_cons_succ, List.getElem_toArray, List.getElem_cons_zero, List.getElem_cons_succ]
  refine wpAnyH_ready (rs := [3]) (by kernel_rfl) (by simp) ?_
  refine AllReadyH.cons (o := _) rfl (fun K hK => ?_) AllReadyH.nil
  go_simp
  refine (few_is HM1.out _ _ hHeld.2.2.2.ba.2 (by omega) (by omega) (by omega) (by omega)).mono ?_
  rintro e w1 ⟨rfl, hb1⟩
  have hHeld2 := OSt.step hb1 hHeld
  clear hHeld
  go_wp2_with fail
  refine hK.out _ _ hHeld2 (fun hHeld => ?_)
  clear hK K hHeld2
  try simp only [Act.put, List.setIfInBounds_toArray, List.set_cons_zero, List.set_cons_succ, List.getElem_toArray, List.getElem_cons_zero, List.getElem_cons_succ]
  refine wpAnyH_ready (rs := [4]) (by kernel_rfl) (by simp) ?_
  refine AllReadyH.cons (o := _) rfl (fun K hK => ?_) AllReadyH.nil
  go_simp
  refine (few_is HM2.out _ _ hHeld.2.2.2.bb.2 (by omega) (by omega) (by omega) (by omega)).mono ?_
  rintro e w2 ⟨rfl, hb2⟩
  have hHeld2 := OSt.step hb2 hHeld
  clear hHeld
  go_wp2_with fail
  refine hK.out _ _ hHeld2 (fun hHeld => ?_)
  clear hK K hHeld2
  try simp only [Act.put, List.setIfInBounds_toArray, List.set_cons_zero, List.set_cons_succ, List.getElem_toArray, List.getElem_cons_zero, List.getElem_cons_succ]
  refine wpAnyH_ready (rs := [5]) (by kernel_rfl) (by simp) ?_
  refine AllReadyH.cons (o := _) rfl (fun K hK => ?_) AllReadyH.nil
  go_simp
  refine (few_is HM3.out _ _ hHeld.2.2.2.bc.2 (by omega) (by omega) (by omega) (by omega)).mono ?_
  rintro e w3 ⟨rfl, hb3⟩
  have hHeld2 := OSt.step hb3 hHeld
  clear hHeld
  go_wp2_with fail
  refine hK.out _ _ hHeld2 (fun hHeld => ?_)
  clear hK K hHeld2
  try simp only [Act.put, List.setIfInBounds_toArray, List.set_cons_zero, List.set_cons_succ, List.getElem_toArray, List.getElem_cons_zero, List.getElem_cons_succ]
  refine wpAnyH_ready (rs := [6]) (by kernel_rfl) (by simp) ?_
  refine AllReadyH.cons (o := _) rfl (fun K hK => ?_) AllReadyH.nil
  go_simp
  refine hK.out _ _ (hHeld) (fun hHeld => ?_)
  clear hK K
  try simp only [Act.put, List.setIfInBounds_toArray, List.set_cons_zero, List.set_cons_succ, List.getElem_toArray, List.getElem_cons_zero, List.getElem_cons_succ]
  refine wpAnyH_done (by kernel_rfl) ?_ _
  have A3 := Lib.hid hHeld.2.2.2
  clear hHeld
  obtain ⟨⟨a0, a1, a2, a3⟩, ⟨b0, b1, b2, b3⟩, c0, c1, c2, c3⟩ := A3.out.cells
  have la := A3.out.bc.lt
  by_cases hneg : m3 < 0
  · go_wp2_with fail
    refine (k7_any w3).mono ?_
    rintro e Wk ⟨rfl, hbk⟩
    have HB := Lib.hid (A3.out.next hbk).below
    clear hbk
    go_wp2_with fail
    go_ret
    exact ⟨rfl, HB.out⟩
  · have s3 := Tm.few_says c m2 200 (by rw [HM3.out]; omega)
    have s2 := Tm.few_says b m1 200 (by rw [HM2.out]; have := c.size_pos; omega)
    have s1 := Tm.few_says a 500 200 (by rw [HM1.out]; have := b.size_pos; omega)
    have hsa : a.size ≤ 1000000 := by omega
    have hsb : b.size ≤ 1000000 := by omega
    have hsc : c.size ≤ 1000000 := by omega
    clear s1 s2 s3 r1 r2 r3
    cases hra : a.right with
    | false =>
      have HRa := Lib.hid hra
      clear hra
      go_wp2_with fail
      refine (rright_is HRa.out w3 _ A3.out.ba.2 hsa).mono ?_
      rintro e va ⟨rfl, hbva⟩
      have Ba := Lib.hid (A3.out.next hbva)
      clear hbva A3 a0 a1 a2 a3 b0 b1 b2 b3 c0 c1 c2 c3 la
      obtain ⟨⟨a0, a1, a2, a3⟩, ⟨b0, b1, b2, b3⟩, c0, c1, c2, c3⟩ := Ba.out.cells
      have la := Ba.out.bc.lt
      go_wp2_with fail
      refine (k7_any va).mono ?_
      rintro e Wk ⟨rfl, hbk⟩
      have HB := Lib.hid (Ba.out.next hbk).below
      clear hbk
      go_wp2_with fail
      go_ret
      exact ⟨rfl, HB.out⟩
    | true =>
      have HRa := Lib.hid hra
      clear hra
      cases hrb : b.right with
      | false =>
        have HRb := Lib.hid hrb
        clear hrb
        go_wp2_with fail
        refine (rright_is HRa.out w3 _ A3.out.ba.2 hsa).mono ?_
        rintro e va ⟨rfl, hbva⟩
        have Ba := Lib.hid (A3.out.next hbva)
        clear hbva A3 a0 a1 a2 a3 b0 b1 b2 b3 c0 c1 c2 c3 la
        obtain ⟨⟨a0, a1, a2, a3⟩, ⟨b0, b1, b2, b3⟩, c0, c1, c2, c3⟩ := Ba.out.cells
        have la := Ba.out.bc.lt
        go_wp2_with fail
        refine (rright_is HRb.out va _ Ba.out.bb.2 hsb).mono ?_
        rintro e vb ⟨rfl, hbvb⟩
        have Bb := Lib.hid (Ba.out.next hbvb)
        clear hbvb Ba a0 a1 a2 a3 b0 b1 b2 b3 c0 c1 c2 c3 la
        obtain ⟨⟨a0, a1, a2, a3⟩, ⟨b0, b1, b2, b3⟩, c0, c1, c2, c3⟩ := Bb.out.cells
        have la := Bb.out.bc.lt
        go_wp2_with fail
        refine (k7_any vb).mono ?_
        rintro e Wk ⟨rfl, hbk⟩
        have HB := Lib.hid (Bb.out.next hbk).below
        clear hbk
        go_wp2_with fail
        go_ret
        exact ⟨rfl, HB.out⟩
      | true =>
        have HRb := Lib.hid hrb
        clear hrb
        cases hrc : c.right with
        | false =>
          have HRc := Lib.hid hrc
          clear hrc
          go_wp2_with fail
          refine (rright_is HRa.out w3 _ A3.out.ba.2 hsa).mono ?_
          rintro e va ⟨rfl, hbva⟩
          have Ba := Lib.hid (A3.out.next hbva)
          clear hbva A3 a0 a1 a2 a3 b0 b1 b2 b3 c0 c1 c2 c3 la
          obtain ⟨⟨a0, a1, a2, a3⟩, ⟨b0, b1, b2, b3⟩, c0, c1, c2, c3⟩ := Ba.out.cells
          have la := Ba.out.bc.lt
          go_wp2_with fail
          refine (rright_is HRb.out va _ Ba.out.bb.2 hsb).mono ?_
          rintro e vb ⟨rfl, hbvb⟩
          have Bb := Lib.hid (Ba.out.next hbvb)
          clear hbvb Ba a0 a1 a2 a3 b0 b1 b2 b3 c0 c1 c2 c3 la
          obtain ⟨⟨a0, a1, a2, a3⟩, ⟨b0, b1, b2, b3⟩, c0, c1, c2, c3⟩ := Bb.out.cells
          have la := Bb.out.bc.lt
          go_wp2_with fail
          refine (rright_is HRc.out vb _ Bb.out.bc.2 hsc).mono ?_
          rintro e vc ⟨rfl, hbvc⟩
          have Bc := Lib.hid (Bb.out.next hbvc)
          clear hbvc Bb a0 a1 a2 a3 b0 b1 b2 b3 c0 c1 c2 c3 la
          obtain ⟨⟨a0, a1, a2, a3⟩, ⟨b0, b1, b2, b3⟩, c0, c1, c2, c3⟩ := Bc.out.cells
          have la := Bc.out.bc.lt
          go_wp2_with fail
          refine (k7_any vc).mono ?_
          rintro e Wk ⟨rfl, hbk⟩
          have HB := Lib.hid (Bc.out.next hbk).below
          clear hbk
          go_wp2_with fail
          go_ret
          exact ⟨rfl, HB.out⟩
        | true =>
          have HRc := Lib.hid hrc
          clear hrc
          go_wp2_with fail
          refine (rright_is HRa.out w3 _ A3.out.ba.2 hsa).mono ?_
          rintro e va ⟨rfl, hbva⟩
          have Ba := Lib.hid (A3.out.next hbva)
          clear hbva A3 a0 a1 a2 a3 b0 b1 b2 b3 c0 c1 c2 c3 la
          obtain ⟨⟨a0, a1, a2, a3⟩, ⟨b0, b1, b2, b3⟩, c0, c1, c2, c3⟩ := Ba.out.cells
          have la := Ba.out.bc.lt
          go_wp2_with fail
          refine (rright_is HRb.out va _ Ba.out.bb.2 hsb).mono ?_
          rintro e vb ⟨rfl, hbvb⟩
          have Bb := Lib.hid (Ba.out.next hbvb)
          clear hbvb Ba a0 a1 a2 a3 b0 b1 b2 b3 c0 c1 c2 c3 la
          obtain ⟨⟨a0, a1, a2, a3⟩, ⟨b0, b1, b2, b3⟩, c0, c1, c2, c3⟩ := Bb.out.cells
          have la := Bb.out.bc.lt
          go_wp2_with fail
          refine (rright_is HRc.out vb _ Bb.out.bc.2 hsc).mono ?_
          rintro e vc ⟨rfl, hbvc⟩
          have Bc := Lib.hid (Bb.out.next hbvc)
          clear hbvc Bb a0 a1 a2 a3 b0 b1 b2 b3 c0 c1 c2 c3 la
          obtain ⟨⟨a0, a1, a2, a3⟩, ⟨b0, b1, b2, b3⟩, c0, c1, c2, c3⟩ := Bc.out.cells
          have la := Bc.out.bc.lt
          go_wp2_with fail
          go_loopw [8] (fun i wr => ∃ j : Nat, j ≤ a.args.length ∧ i = .int .i64 j ∧ Hid (OSt w a b c (.slice ga a.args.length ca) (.slice gb b.args.length cb) (.slice gc c.args.length cc) wr)) (fun i _ => a.args.length - (intOf i).toNat)
          case atStart => exact ⟨0, Nat.zero_le _, rfl, Bc⟩
          case round =>
            obtain ⟨wz, rfl⟩ : ∃ x, x = wr := ⟨_, rfl⟩
            obtain ⟨j, hj, rfl, hbl⟩ := hrel
            have A4 := Lib.hid hbl.out
            clear hbl Bc a0 a1 a2 a3 b0 b1 b2 b3 c0 c1 c2 c3 la
            obtain ⟨⟨a0, a1, a2, a3⟩, ⟨b0, b1, b2, b3⟩, c0, c1, c2, c3⟩ := A4.out.cells
            have la := A4.out.bc.lt
            have hlen : a.args.length ≤ 1000000 := by have h1 := Tm.length_le_sizes a.args; have h2 := Tm.size_args a; omega
            by_cases hlt : j < a.args.length
            · skip
              obtain ⟨bb, oo, sx, hga, hat⟩ := TmAt.of (Tm.inn_iff.1 A4.out.ba.2).2 j hlt
              subst hga
              have hin := inB_arg HRa.out (List.getElem_mem hlt)
              have hsx : a.args[j].size ≤ 1000000 := by have h1 := Tm.size_mem_le (List.getElem_mem hlt); have h2 := Tm.size_args a; omega
              obtain ⟨x, hx⟩ : ∃ x, a.args[j] = x := ⟨_, rfl⟩
              rw [hx] at hin hat hsx
              have HIN := Lib.hid hin
              have HAT := Lib.hid hat
              have lbb := hat.lt
              clear hin hat hx
              go_wp2_with fail
              have hs0 : (fun W' => (W'.cell? ⟨w.heap.size, 0, none⟩ = some (.int .i64 a.kind) ∧ W'.cell? ⟨w.heap.size, 1, none⟩ = some (.string a.name) ∧ W'.cell? ⟨w.heap.size, 2, none⟩ = some (.int .i64 a.n) ∧ W'.cell? ⟨w.heap.size, 3, none⟩ = some (.slice (some ⟨bb, oo, none⟩) a.args.length ca)) ∧ (W'.cell? ⟨bb, oo + j * 4, none⟩ = some (.int .i64 x.kind) ∧ W'.cell? ⟨bb, oo + j * 4 + 1, none⟩ = some (.string x.name) ∧ W'.cell? ⟨bb, oo + j * 4 + 2, none⟩ = some (.int .i64 x.n) ∧ W'.cell? ⟨bb, oo + j * 4 + 3, none⟩ = some (sx)) ∧ OSt w a b c (.slice (some ⟨bb, oo, none⟩) a.args.length ca) (.slice gb b.args.length cb) (.slice gc c.args.length cc) W' ∧ TmAt W' bb (oo + j * 4) x sx) wz.drew := (A4.out.next ((Below.refl _ _).drew)).arg (HAT.out.next ((Below.refl _ _).drew))
              have hlti : (j : Int) < (a.args.length : Int) := by omega
              have hwi : IntKind.i64.wrap (j : Int) = (j : Int) := by rw [IntKind.wrap_i64]; omega
              have hzi : (0 : Int) ≤ (j : Int) := by omega
              refine wp_region_held_drew (S := fun W' => (W'.cell? ⟨w.heap.size, 0, none⟩ = some (.int .i64 a.kind) ∧ W'.cell? ⟨w.heap.size, 1, none⟩ = some (.string a.name) ∧ W'.cell? ⟨w.heap.size, 2, none⟩ = some (.int .i64 a.n) ∧ W'.cell? ⟨w.heap.size, 3, none⟩ = some (.slice (some ⟨bb, oo, none⟩) a.args.length ca)) ∧ (W'.cell? ⟨bb, oo + j * 4, none⟩ = some (.int .i64 x.kind) ∧ W'.cell? ⟨bb, oo + j * 4 + 1, none⟩ = some (.string x.name) ∧ W'.cell? ⟨bb, oo + j * 4 + 2, none⟩ = some (.int .i64 x.n) ∧ W'.cell? ⟨bb, oo + j * 4 + 3, none⟩ = some (sx)) ∧ OSt w a b c (.slice (some ⟨bb, oo, none⟩) a.args.length ca) (.slice gb b.args.length cb) (.slice gc c.args.length cc) W' ∧ TmAt W' bb (oo + j * 4) x sx) (by kernel_rfl) hs0 (fun hHeld => ?_)
              clear hs0
              refine wpAnyH_take (i := 0) (oi := _) (v := ?_) rfl (by kernel_rfl) (by kernel_rfl) (by kernel_rfl) (fun _ _ _ h => h) (Or.inl ⟨by rfl, ?_⟩) hHeld ?_
              rotate_left
              · (intro w hSw; obtain ⟨⟨a0, a1, a2, a3⟩, ⟨x0, x1, x2, x3⟩, _⟩ := hSw; go_simp; try with_reducible rfl)
              try simp only [Act.put, List.setIfInBounds_toArray, List.set_cons_zero, List.set_cons_succ, List.getElem_toArray, List.getElem_cons_zero]
              refine wpAnyH_take (i := 1) (oi := _) (v := ?_) rfl (by kernel_rfl) (by kernel_rfl) (by kernel_rfl) (fun _ _ _ h => h) (Or.inl ⟨by rfl, ?_⟩) hHeld ?_
              rotate_left
              · (intro w hSw; obtain ⟨⟨a0, a1, a2, a3⟩, ⟨x0, x1, x2, x3⟩, _⟩ := hSw; go_simp; try with_reducible rfl)
              try simp only [Act.put, List.setIfInBounds_toArray, List.set_cons_zero, List.set_cons_succ, List.getElem_toArray, List.getElem_cons_zero, List.getElem_cons_succ]
              refine wpAnyH_take (i := 2) (oi := _) (v := ?_) rfl (by kernel_rfl) (by kernel_rfl) (by kernel_rfl) (fun _ _ _ h => h) (Or.inl ⟨by rfl, ?_⟩) hHeld ?_
              rotate_left
              · (intro w hSw; obtain ⟨⟨a0, a1, a2, a3⟩, ⟨x0, x1, x2, x3⟩, _⟩ := hSw; go_simp; try with_reducible rfl)
              try simp only [Act.put, List.setIfInBounds_toArray, List.set_cons_zero, List.set_cons_succ, List.getElem_toArray, List.getElem_cons_zero, List.getElem_cons_succ]
              refine wpAnyH_take (i := 3) (oi := _) (v := ?_) rfl (by kernel_rfl) (by kernel_rfl) (by kernel_rfl) (fun _ _ _ h => h) (Or.inl ⟨by rfl, ?_⟩) hHeld ?_
              rotate_left
              · (intro w hSw; obtain ⟨⟨a0, a1, a2, a3⟩, ⟨x0, x1, x2, x3⟩, _⟩ := hSw; go_simp; try with_reducible rfl)
              try simp only [Act.put, List.setIfInBounds_toArray, List.set_cons_zero, List.set_cons_succ, List.getElem_toArray, List.getElem_cons_zero, List.getElem_cons_succ]
              refine wpAnyH_take (i := 4) (oi := _) (v := ?_) rfl (by kernel_rfl) (by kernel_rfl) (by kernel_rfl) (fun _ _ _ h => h) (Or.inl ⟨by rfl, ?_⟩) hHeld ?_
              rotate_left
              · (intro w hSw; obtain ⟨⟨a0, a1, a2, a3⟩, ⟨x0, x1, x2, x3⟩, _⟩ := hSw; go_simp; try with_reducible rfl)
              try simp only [Act.put, List.setIfInBounds_toArray, List.set_cons_zero, List.set_cons_succ, List.getElem_toArray, List.getElem_cons_zero, List.getElem_cons_succ]
              refine wpAnyH_take (i := 5) (oi := _) (v := ?_) rfl (by kernel_rfl) (by kernel_rfl) (by kernel_rfl) (fun _ _ _ h => h) (Or.inl ⟨by rfl, ?_⟩) hHeld ?_
              rotate_left
              · (intro w hSw; obtain ⟨⟨a0, a1, a2, a3⟩, ⟨x0, x1, x2, x3⟩, _⟩ := hSw; go_simp; try with_reducible rfl)
              try simp only [Act.put, List.setIfInBounds_toArray, List.set_cons_zero, List.set_cons_succ, List.getElem_toArray, List.getElem_cons_zero, List.getElem_cons_succ]
              refine wpAnyH_ready (rs := [6]) (by kernel_rfl) (by simp) ?_
              refine AllReadyH.cons (o := _) rfl (fun K hK => ?_) AllReadyH.nil
              go_simp
              refine (in_is HIN.out _ _ _ hHeld.2.2.2.inn hHeld.2.2.1.ba.2 hsx hsa).mono ?_
              rintro e w5 ⟨rfl, hb5⟩
              have hHeld2 := OSt.argStep hb5 hHeld
              clear hHeld
              go_wp2_with fail
              refine hK.out _ _ hHeld2 (fun hHeld => ?_)
              clear hK K hHeld2
              try simp only [Act.put, List.setIfInBounds_toArray, List.set_cons_zero, List.set_cons_succ, List.getElem_toArray, List.getElem_cons_zero, List.getElem_cons_succ]
              refine wpAnyH_take (i := 7) (oi := _) (v := ?_) rfl (by kernel_rfl) (by kernel_rfl) (by kernel_rfl) (fun _ _ _ h => h) (Or.inl ⟨by rfl, ?_⟩) hHeld ?_
              rotate_left
              · (intro w hSw; (try dsimp only at hSw); go_simp; try with_reducible rfl)
              try simp only [Act.put, List.setIfInBounds_toArray, List.set_cons_zero, List.set_cons_succ, List.getElem_toArray, List.getElem_cons_zero, List.getElem_cons_succ]
              refine wpAnyH_done (by kernel_rfl) ?_ _
              have A5 := Lib.hid hHeld.2.2.1
              clear hHeld hlti hwi hzi
              go_wp2_with fail
              go_roundw
              case rel => exact ⟨j + 1, by omega, by go_num, A5⟩
              case measure => simp [intOf]; omega
            · obtain rfl : a.args.length = j := by omega
              have HSF := Lib.hid (inB_self HRa.out)
              cases hx : inB a b with
              | false =>
                have HX := Lib.hid hx
                clear hx
                go_wp2_with fail
                refine (in_is HSF.out wz _ _ A4.out.ba.2 A4.out.ba.2 hsa hsa).mono ?_
                rintro e u1 ⟨rfl, hbu1⟩
                have D1 := Lib.hid (A4.out.next hbu1)
                clear hbu1 A4 a0 a1 a2 a3 b0 b1 b2 b3 c0 c1 c2 c3 la
                obtain ⟨⟨a0, a1, a2, a3⟩, ⟨b0, b1, b2, b3⟩, c0, c1, c2, c3⟩ := D1.out.cells
                have la := D1.out.bc.lt
                go_wp2_with fail
                refine (in_is HX.out u1 _ _ D1.out.ba.2 D1.out.bb.2 hsa hsb).mono ?_
                rintro e u2 ⟨rfl, hbu2⟩
                have D2 := Lib.hid (D1.out.next hbu2)
                clear hbu2 D1 a0 a1 a2 a3 b0 b1 b2 b3 c0 c1 c2 c3 la
                obtain ⟨⟨a0, a1, a2, a3⟩, ⟨b0, b1, b2, b3⟩, c0, c1, c2, c3⟩ := D2.out.cells
                have la := D2.out.bc.lt
                go_wp2_with fail
                refine (k7_any u2).mono ?_
                rintro e Wk ⟨rfl, hbk⟩
                have HB := Lib.hid (D2.out.next hbk).below
                clear hbk
                go_wp2_with fail
                go_ret
                exact ⟨rfl, HB.out⟩
              | true =>
                cases hy : inB b c with
                | false =>
                  have HX := Lib.hid hx
                  have HY := Lib.hid hy
                  clear hx hy
                  go_wp2_with fail
                  refine (in_is HSF.out wz _ _ A4.out.ba.2 A4.out.ba.2 hsa hsa).mono ?_
                  rintro e u1 ⟨rfl, hbu1⟩
                  have D1 := Lib.hid (A4.out.next hbu1)
                  clear hbu1 A4 a0 a1 a2 a3 b0 b1 b2 b3 c0 c1 c2 c3 la
                  obtain ⟨⟨a0, a1, a2, a3⟩, ⟨b0, b1, b2, b3⟩, c0, c1, c2, c3⟩ := D1.out.cells
                  have la := D1.out.bc.lt
                  go_wp2_with fail
                  refine (in_is HX.out u1 _ _ D1.out.ba.2 D1.out.bb.2 hsa hsb).mono ?_
                  rintro e u2 ⟨rfl, hbu2⟩
                  have D2 := Lib.hid (D1.out.next hbu2)
                  clear hbu2 D1 a0 a1 a2 a3 b0 b1 b2 b3 c0 c1 c2 c3 la
                  obtain ⟨⟨a0, a1, a2, a3⟩, ⟨b0, b1, b2, b3⟩, c0, c1, c2, c3⟩ := D2.out.cells
                  have la := D2.out.bc.lt
                  go_wp2_with fail
                  refine (in_is HY.out u2 _ _ D2.out.bb.2 D2.out.bc.2 hsb hsc).mono ?_
                  rintro e u3 ⟨rfl, hbu3⟩
                  have D3 := Lib.hid (D2.out.next hbu3)
                  clear hbu3 D2 a0 a1 a2 a3 b0 b1 b2 b3 c0 c1 c2 c3 la
                  obtain ⟨⟨a0, a1, a2, a3⟩, ⟨b0, b1, b2, b3⟩, c0, c1, c2, c3⟩ := D3.out.cells
                  have la := D3.out.bc.lt
                  go_wp2_with fail
                  refine (k7_any u3).mono ?_
                  rintro e Wk ⟨rfl, hbk⟩
                  have HB := Lib.hid (D3.out.next hbk).below
                  clear hbk
                  go_wp2_with fail
                  go_ret
                  exact ⟨rfl, HB.out⟩
                | true =>
                  have HZ := Lib.hid (inB_trans hx hy)
                  have HX := Lib.hid hx
                  have HY := Lib.hid hy
                  clear hx hy
                  go_wp2_with fail
                  refine (in_is HSF.out wz _ _ A4.out.ba.2 A4.out.ba.2 hsa hsa).mono ?_
                  rintro e u1 ⟨rfl, hbu1⟩
                  have D1 := Lib.hid (A4.out.next hbu1)
                  clear hbu1 A4 a0 a1 a2 a3 b0 b1 b2 b3 c0 c1 c2 c3 la
                  obtain ⟨⟨a0, a1, a2, a3⟩, ⟨b0, b1, b2, b3⟩, c0, c1, c2, c3⟩ := D1.out.cells
                  have la := D1.out.bc.lt
                  go_wp2_with fail
                  refine (in_is HX.out u1 _ _ D1.out.ba.2 D1.out.bb.2 hsa hsb).mono ?_
                  rintro e u2 ⟨rfl, hbu2⟩
                  have D2 := Lib.hid (D1.out.next hbu2)
                  clear hbu2 D1 a0 a1 a2 a3 b0 b1 b2 b3 c0 c1 c2 c3 la
                  obtain ⟨⟨a0, a1, a2, a3⟩, ⟨b0, b1, b2, b3⟩, c0, c1, c2, c3⟩ := D2.out.cells
                  have la := D2.out.bc.lt
                  go_wp2_with fail
                  refine (in_is HY.out u2 _ _ D2.out.bb.2 D2.out.bc.2 hsb hsc).mono ?_
                  rintro e u3 ⟨rfl, hbu3⟩
                  have D3 := Lib.hid (D2.out.next hbu3)
                  clear hbu3 D2 a0 a1 a2 a3 b0 b1 b2 b3 c0 c1 c2 c3 la
                  obtain ⟨⟨a0, a1, a2, a3⟩, ⟨b0, b1, b2, b3⟩, c0, c1, c2, c3⟩ := D3.out.cells
                  have la := D3.out.bc.lt
                  go_wp2_with fail
                  refine (in_is HZ.out u3 _ _ D3.out.ba.2 D3.out.bc.2 hsa hsc).mono ?_
                  rintro e u4 ⟨rfl, hbu4⟩
                  have D4 := Lib.hid (D3.out.next hbu4)
                  clear hbu4 D3 a0 a1 a2 a3 b0 b1 b2 b3 c0 c1 c2 c3 la
                  obtain ⟨⟨a0, a1, a2, a3⟩, ⟨b0, b1, b2, b3⟩, c0, c1, c2, c3⟩ := D4.out.cells
                  have la := D4.out.bc.lt
                  go_wp2_with fail
                  refine (k7_any u4).mono ?_
                  rintro e Wk ⟨rfl, hbk⟩
                  have HB := Lib.hid (D4.out.next hbk).below
                  clear hbk
                  go_wp2_with fail
                  go_ret
                  exact ⟨rfl, HB.out⟩
end Go.Proofs.Ytomdccejgmhfoaa
