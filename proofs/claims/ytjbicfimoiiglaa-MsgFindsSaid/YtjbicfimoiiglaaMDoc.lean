/-
  The document's Of and All.
-/
import Derived.Test.YtjbicfimoiiglaaMBuild
import Derived.Test.YtjbicfimoiiglaaMAll
namespace Go.Proofs.Ytjbicfimoiiglaa
open Go.RowKit Go.Shelf Go.Maps

set_option maxRecDepth 100000 in
set_option maxHeartbeats 8000000 in
theorem rof_any (a b : Tm) (w : World) (sa sb : Value) (ha : Tm.inn w w.heap.size a sa) (hb : Tm.inn w w.heap.size b sb) (hmax : a.size ≤ 1000000) :
    Calls Try.prog 19 #[.agg #[.int .i64 a.kind, .string a.name, .int .i64 a.n, sa], .agg #[.int .i64 b.kind, .string b.name, .int .i64 b.n, sb]] w fun e w' => BuildPost w (msgT a b) e w' := by
  obtain ⟨ga, ca, rfl⟩ := inn_sl6 ha
  obtain ⟨gb, cb, rfl⟩ := inn_sl6 hb
  have heb := EB.start w a b (.slice ga a.args.length ca) (.slice gb b.args.length cb)
  obtain ⟨W0, hW⟩ : ∃ W0, (((w.alloc (Obj.cells #[.int .i64 a.kind, .string a.name, .int .i64 a.n, .slice ga a.args.length ca] 24 (0, 0))).alloc (Obj.cells #[.int .i64 b.kind, .string b.name, .int .i64 b.n, .slice gb b.args.length cb] 24 (0, 0))).alloc (Obj.cells #[.int .i64 0, .string ⟨#[]⟩, .int .i64 0, .slice none 0 0] 24 (0, 0))) = W0 := ⟨_, rfl⟩
  rw [hW] at heb
  have hs0 := heb.db.below.size
  have hpr := rpairs_any a b [] W0.drew w.heap.size (.slice none 0 0) _ _ hs0 (prsM_nil _ _) (Tm.inn_below ha heb.db.below.drew (Nat.le_refl _)) (Tm.inn_below hb heb.db.below.drew (Nat.le_refl _)) (by simpa using hmax)
  obtain ⟨⟨a0, a1, a2, a3⟩, _⟩ := row4 heb.db.ba
  obtain ⟨⟨b0, b1, b2, b3⟩, _⟩ := row4 heb.db.bb
  have hs8 : (fun W' : World => W'.cell? ⟨w.heap.size, 0, none⟩ = some (.int .i64 a.kind) ∧ W'.cell? ⟨w.heap.size, 1, none⟩ = some (.string a.name) ∧ W'.cell? ⟨w.heap.size, 2, none⟩ = some (.int .i64 a.n) ∧ W'.cell? ⟨w.heap.size, 3, none⟩ = some (.slice ga a.args.length ca) ∧ W'.cell? ⟨w.heap.size + 1, 0, none⟩ = some (.int .i64 b.kind) ∧ W'.cell? ⟨w.heap.size + 1, 1, none⟩ = some (.string b.name) ∧ W'.cell? ⟨w.heap.size + 1, 2, none⟩ = some (.int .i64 b.n) ∧ W'.cell? ⟨w.heap.size + 1, 3, none⟩ = some (.slice gb b.args.length cb)) W0.drew := ⟨a0, a1, a2, a3, b0, b1, b2, b3⟩
  have HPR := Lib.hid hpr
  have HW := Lib.hid hW
  have E0 := Lib.hid heb
  have HA := Lib.hid ha
  have HB := Lib.hid hb
  have HMX := Lib.hid hmax
  have HS8 := Lib.hid hs8
  have lr := heb.size
  clear hpr hW heb ha hb hmax hs8 a0 a1 a2 a3 b0 b1 b2 b3
  go_enter Try.func19, Try.ntmps19
  go_wp2_with fail
  rw [HW.out]
  refine wp_region_held_drew (S := fun W' => W'.cell? ⟨w.heap.size, 0, none⟩ = some (.int .i64 a.kind) ∧ W'.cell? ⟨w.heap.size, 1, none⟩ = some (.string a.name) ∧ W'.cell? ⟨w.heap.size, 2, none⟩ = some (.int .i64 a.n) ∧ W'.cell? ⟨w.heap.size, 3, none⟩ = some (.slice ga a.args.length ca) ∧ W'.cell? ⟨w.heap.size + 1, 0, none⟩ = some (.int .i64 b.kind) ∧ W'.cell? ⟨w.heap.size + 1, 1, none⟩ = some (.string b.name) ∧ W'.cell? ⟨w.heap.size + 1, 2, none⟩ = some (.int .i64 b.n) ∧ W'.cell? ⟨w.heap.size + 1, 3, none⟩ = some (.slice gb b.args.length cb)) (by kernel_rfl) HS8.out (fun hHeld => ?_)
  clear HS8
  refine wpAnyH_take (i := 0) (oi := _) (v := ?_) rfl (by kernel_rfl) (by kernel_rfl) (by kernel_rfl) (fun _ _ _ h => h) (Or.inl ⟨by rfl, ?_⟩) hHeld ?_
  rotate_left
  · (intro w hSw; (try dsimp only at hSw); go_simp; try with_reducible rfl)
  try simp only [Act.put, List.setIfInBounds_toArray, List.set_cons_zero, List.set_cons_succ, List.getElem_toArray, List.getElem_cons_zero]
  refine wpAnyH_take (i := 1) (oi := _) (v := ?_) rfl (by kernel_rfl) (by kernel_rfl) (by kernel_rfl) (fun _ _ _ h => h) (Or.inl ⟨by rfl, ?_⟩) hHeld ?_
  rotate_left
  · (intro w hSw; (try dsimp only at hSw); go_simp; try with_reducible rfl)
  try simp only [Act.put, List.setIfInBounds_toArray, List.set_cons_zero, List.set_cons_succ, List.getElem_toArray, List.getElem_cons_zero, List.getElem_cons_succ]
  refine wpAnyH_take (i := 3) (oi := _) (v := ?_) rfl (by kernel_rfl) (by kernel_rfl) (by kernel_rfl) (fun _ _ _ h => h) (Or.inl ⟨by rfl, ?_⟩) hHeld ?_
  rotate_left
  · (intro w hSw; (try dsimp only at hSw); go_simp; try with_reducible rfl)
  try simp only [Act.put, List.setIfInBounds_toArray, List.set_cons_zero, List.set_cons_succ, List.getElem_toArray, List.getElem_cons_zero, List.getElem_cons_succ]
  refine wpAnyH_take (i := 4) (oi := _) (v := ?_) rfl (by kernel_rfl) (by kernel_rfl) (by kernel_rfl) (fun _ _ _ h => h) (Or.inl ⟨by rfl, ?_⟩) hHeld ?_
  rotate_left
  · (intro w hSw; (try dsimp only at hSw); go_simp; try with_reducible rfl)
  try simp only [Act.put, List.setIfInBounds_toArray, List.set_cons_zero, List.set_cons_succ, List.getElem_toArray, List.getElem_cons_zero, List.getElem_cons_succ]
  refine wpAnyH_ready (rs := [2]) (by kernel_rfl) (by simp) ?_
  refine AllReadyH.cons (o := _) rfl (fun K hK => ?_) (AllReadyH.nil)
  go_simp
  refine HPR.out.mono ?_
  rintro e w1 ⟨v1, rfl, hv1, hb1⟩
  obtain ⟨g1, c1, rfl, _, _, _⟩ := id hv1
  have hb01 : Below W0.heap.size W0 w1 := ((Below.refl W0.heap.size W0).drew).trans hb1
  have E1 := Lib.hid (E0.out.next hb01)
  have hs1 := hb01.size
  have hpl := prs_length [] a b
  have hbu := rbuild_any a b (prsT [] a b) w1 w.heap.size _ _ _ E1.out.db.below.size hv1 (Tm.inn_below HA.out E1.out.db.below (Nat.le_refl _)) (Tm.inn_below HB.out E1.out.db.below (Nat.le_refl _)) (by have := HMX.out; simp at hpl; omega) (fun x hx => prs_mem.2 (.inr hx))
  have HBU := Lib.hid hbu
  have hsx := s8_keep (W := W0.drew) (W' := w1) (hb1.block _ (by show w.heap.size < W0.heap.size; omega)) (hb1.block _ (by show w.heap.size + 1 < W0.heap.size; omega)) hHeld
  have HSX := Lib.hid hsx
  clear hbu hsx hv1 hb1 hb01 hpl HPR
  go_wp2_with fail
  refine hK.out _ _ (HSX.out) (fun hHeld => ?_)
  clear hK K
  try simp only [Act.put, List.setIfInBounds_toArray, List.set_cons_zero, List.set_cons_succ, List.getElem_toArray, List.getElem_cons_zero, List.getElem_cons_succ]
  clear HSX
  refine wpAnyH_ready (rs := [5]) (by kernel_rfl) (by simp) ?_
  refine AllReadyH.cons (o := _) rfl (fun K hK => ?_) (AllReadyH.nil)
  go_simp
  refine HBU.out.mono ?_
  rintro e w2 ⟨g2, c2, rfl, hp2, hb2⟩
  obtain ⟨X, hX⟩ : ∃ X, a.gen (prsT [] a b) b = X := ⟨_, rfl⟩
  rw [hX] at hp2 ⊢
  have HX := Lib.hid (show msgT a b = X from hX)
  have E2 := Lib.hid (E1.out.next hb2)
  have lr2 := E2.out.size
  have hs2 := hb2.size
  have HP2 := Lib.hid hp2
  have hsx := s8_keep (W := w1) (W' := w2) (hb2.block _ (by omega)) (hb2.block _ (by omega)) hHeld
  have HSX := Lib.hid hsx
  obtain ⟨⟨r0, r1, r2, r3⟩, f0, f1, f2, f3⟩ := row4 E2.out.br
  clear hX hp2 hb2 hsx HBU
  go_wp2_with fail
  refine hK.out _ _ (HSX.out) (fun hHeld => ?_)
  clear hK K
  try simp only [Act.put, List.setIfInBounds_toArray, List.set_cons_zero, List.set_cons_succ, List.getElem_toArray, List.getElem_cons_zero, List.getElem_cons_succ]
  clear HSX
  refine wpAnyH_ready (rs := [6]) (by kernel_rfl) (by simp) ?_
  refine AllReadyH.cons (o := _) rfl (fun K hK => ?_) (AllReadyH.nil)
  go_simp
  refine hK.out _ _ (s8_keep (set4_other _ _ _ _ _ _ w.heap.size (by omega)) (set4_other _ _ _ _ _ _ (w.heap.size + 1) (by omega)) hHeld) (fun hHeld => ?_)
  clear hK K
  try simp only [Act.put, List.setIfInBounds_toArray, List.set_cons_zero, List.set_cons_succ, List.getElem_toArray, List.getElem_cons_zero, List.getElem_cons_succ]
  refine wpAnyH_done (by kernel_rfl) ?_ _
  go_wp2_with fail
  generalize hwf : World.setCell _ _ _ = wf
  obtain ⟨hbf, hrf, hsame, hsz⟩ := set4_fin E2.out.db.below (by omega) E2.out.br hwf
  obtain ⟨⟨z0, z1, z2, z3⟩, _⟩ := row4 hrf
  refine bodyPost_ret (v := .agg #[.int .i64 X.kind, .string X.name, .int .i64 X.n, .slice g2 X.args.length c2]) (by simp [results, Try.results19, go_sem, z0, z1, z2, z3]) rfl ?_
  rw [HX.out]
  exact ⟨g2, c2, rfl, Tm.innP_same (fun q hq => ⟨by have := hq.1; omega, by have := hq.2; omega⟩) (fun q o' u hq hc => (World.cell?_of_block (a := ⟨q, o', none⟩) (hsame q (by have := hq.1; omega))).trans hc) X _ HP2.out, hbf⟩

def RAllPost (w : World) (X : Tm) (e : Ending) (w' : World) : Prop :=
  ∃ g c, e = .returned (.agg #[.int .i64 X.kind, .string X.name, .int .i64 X.n, .slice g X.args.length c]) ∧ Tm.inn w' w'.heap.size X (.slice g X.args.length c) ∧ Below w.heap.size w w'
/-- A whole term is stored in its box. -/
theorem GB.store {w W1 wf : World} {ob : Nat} {X : Tm} {g : Option Addr} {c lo : Nat} {a0 a1 a2 a3 : Value} (hw : w.heap.size < lo) (hr : W1.heap[ob]? = some (Obj.cells #[a0, a1, a2, a3] 24 (0, 0))) (hp : Tm.innP W1 (fun q => lo ≤ q ∧ q < W1.heap.size ∧ q ≠ ob) X (.slice g X.args.length c))
    (hwf : ((((W1.setCell ⟨ob, 0, none⟩ (.int .i64 X.kind)).setCell ⟨ob, 1, none⟩ (.string X.name)).setCell ⟨ob, 2, none⟩ (.int .i64 X.n)).setCell ⟨ob, 3, none⟩ (.slice g X.args.length c)) = wf) : GB w ob X (.slice g X.args.length c) wf := by
  obtain ⟨_, hrf, hsame, hsz⟩ := set4_fin (Below.refl 0 W1) (Nat.zero_le _) hr hwf
  have h1 : Tm.innP wf (fun q => lo ≤ q ∧ q < wf.heap.size ∧ q ≠ ob) X (.slice g X.args.length c) := Tm.innP_same (fun q hq => ⟨hq.1, by have := hq.2.1; omega, hq.2.2⟩) (fun q o u hq hc => (World.cell?_of_block (a := ⟨q, o, none⟩) (hsame q hq.2.2)).trans hc) X _ hp
  exact ⟨⟨hrf, Tm.inn_of_P (fun q hq => hq.2.1) _ _ h1⟩, Tm.innP_same (fun q hq => ⟨hq.2.1, by have := hq.1; omega⟩) (fun _ _ _ _ hc => hc) _ _ h1⟩

set_option maxRecDepth 100000 in
set_option maxHeartbeats 8000000 in
theorem rall_any (l : List Tm) (w : World) (sv : Value) (hsl : Tm.sliceIn w w.heap.size l sv) (hmax : ∀ t ∈ l, t.size ≤ 1000000) (hlen : l.length ≤ 1000000) (hpos : 0 < l.length) :
    Calls Try.prog 23 #[sv] w fun e w' => RAllPost w (foldT l[0] l) e w' := by
  obtain ⟨p, po, sx, hga, hpB, c0, c1, c2, c3, hin⟩ : ∃ p po sx, sv = .slice (some ⟨p, po, none⟩) l.length (match sv with | .slice _ _ c => c | _ => 0) ∧ p < w.heap.size ∧ w.cell? ⟨p, po, none⟩ = some (.int .i64 l[0].kind) ∧ w.cell? ⟨p, po + 1, none⟩ = some (.string l[0].name) ∧ w.cell? ⟨p, po + 2, none⟩ = some (.int .i64 l[0].n) ∧ w.cell? ⟨p, po + 3, none⟩ = some sx ∧ Tm.inn w w.heap.size l[0] sx := by
    obtain ⟨g, cap, rfl, _⟩ := id hsl
    obtain ⟨p, po, sx, rfl, h1, h2, h3, h4, h5, h6⟩ := Tm.sliceIn_get hsl 0 hpos
    simp only [Nat.zero_mul, Nat.add_zero] at h2 h3 h4 h5
    exact ⟨p, po, sx, rfl, h1, h2, h3, h4, h5, h6⟩
  obtain ⟨cap, hcap⟩ : ∃ cap, (match sv with | .slice _ _ c => c | _ => 0) = cap := ⟨_, rfl⟩
  rw [hcap] at hga
  subst hga
  clear hcap
  obtain ⟨gx, cx, rfl⟩ := inn_sl6 hin
  obtain ⟨t0, ht0⟩ : ∃ t, l[0] = t := ⟨_, rfl⟩
  have hsz0 : t0.size ≤ 1000000 := by rw [← ht0]; exact hmax _ (List.getElem_mem hpos)
  rw [ht0] at c0 c1 c2 c3 hin ⊢
  obtain ⟨W0, hW⟩ : ∃ W0, w.alloc (Obj.cells #[.int .i64 0, .string ⟨#[]⟩, .int .i64 0, .slice none 0 0] 24 (0, 0)) = W0 := ⟨_, rfl⟩
  have hb0 : Below w.heap.size w W0 := by rw [← hW]; exact (Below.refl _ _).alloc (Nat.le_refl _) _
  have hr0 : W0.heap[w.heap.size]? = some (Obj.cells #[.int .i64 0, .string ⟨#[]⟩, .int .i64 0, .slice none 0 0] 24 (0, 0)) := by rw [← hW]; exact newBlk _ _ _ rfl
  have hz0 : W0.heap.size = w.heap.size + 1 := by rw [← hW]; simp
  have hs4 : (fun W' : World => W'.cell? ⟨p, po, none⟩ = some (.int .i64 t0.kind) ∧ W'.cell? ⟨p, po + 1, none⟩ = some (.string t0.name) ∧ W'.cell? ⟨p, po + 2, none⟩ = some (.int .i64 t0.n) ∧ W'.cell? ⟨p, po + 3, none⟩ = some (.slice gx t0.args.length cx)) W0.drew := ⟨(hb0.cell (p := ⟨p, po, none⟩) hpB).trans c0, (hb0.cell (p := ⟨p, po + 1, none⟩) hpB).trans c1, (hb0.cell (p := ⟨p, po + 2, none⟩) hpB).trans c2, (hb0.cell (p := ⟨p, po + 3, none⟩) hpB).trans c3⟩
  have HW := Lib.hid hW
  have HB0 := Lib.hid hb0
  have HR0 := Lib.hid hr0
  have HZ0 := Lib.hid hz0
  have HS4 := Lib.hid hs4
  have HSL := Lib.hid hsl
  have HMX := Lib.hid hmax
  have HIN := Lib.hid hin
  have HT0 := Lib.hid ht0
  have HSZ := Lib.hid hsz0
  clear hW hb0 hr0 hz0 hs4 hsl hmax hin ht0 hsz0 c0 c1 c2 c3
  go_enter Try.func23, Try.ntmps23
  go_wp2_with fail
  rw [HW.out]
  refine wp_region_held_drew (S := fun W' => W'.cell? ⟨p, po, none⟩ = some (.int .i64 t0.kind) ∧ W'.cell? ⟨p, po + 1, none⟩ = some (.string t0.name) ∧ W'.cell? ⟨p, po + 2, none⟩ = some (.int .i64 t0.n) ∧ W'.cell? ⟨p, po + 3, none⟩ = some (.slice gx t0.args.length cx)) (by kernel_rfl) HS4.out (fun hHeld => ?_)
  clear HS4
  refine wpAnyH_take (i := 0) (oi := _) (v := ?_) rfl (by kernel_rfl) (by kernel_rfl) (by kernel_rfl) (fun _ _ _ h => h) (Or.inl ⟨by rfl, ?_⟩) hHeld ?_
  rotate_left
  · (intro w hSw; (try dsimp only at hSw); go_simp; try with_reducible rfl)
  try simp only [Act.put, List.setIfInBounds_toArray, List.set_cons_zero, List.set_cons_succ, List.getElem_toArray, List.getElem_cons_zero]
  refine wpAnyH_take (i := 1) (oi := _) (v := ?_) rfl (by kernel_rfl) (by kernel_rfl) (by kernel_rfl) (fun _ _ _ h => h) (Or.inl ⟨by rfl, ?_⟩) hHeld ?_
  rotate_left
  · (intro w hSw; (try dsimp only at hSw); go_simp; try with_reducible rfl)
  try simp only [Act.put, List.setIfInBounds_toArray, List.set_cons_zero, List.set_cons_succ, List.getElem_toArray, List.getElem_cons_zero, List.getElem_cons_succ]
  refine wpAnyH_take (i := 2) (oi := _) (v := ?_) rfl (by kernel_rfl) (by kernel_rfl) (by kernel_rfl) (fun _ _ _ h => h) (Or.inl ⟨by rfl, ?_⟩) hHeld ?_
  rotate_left
  · (intro w hSw; (try dsimp only at hSw); go_simp; try with_reducible rfl)
  try simp only [Act.put, List.setIfInBounds_toArray, List.set_cons_zero, List.set_cons_succ, List.getElem_toArray, List.getElem_cons_zero, List.getElem_cons_succ]
  refine wpAnyH_take (i := 3) (oi := _) (v := ?_) rfl (by kernel_rfl) (by kernel_rfl) (by kernel_rfl) (fun _ _ _ h => h) (Or.inl ⟨by rfl, ?_⟩) hHeld ?_
  rotate_left
  · (intro w hSw; (try dsimp only at hSw); go_simp; try with_reducible rfl)
  try simp only [Act.put, List.setIfInBounds_toArray, List.set_cons_zero, List.set_cons_succ, List.getElem_toArray, List.getElem_cons_zero, List.getElem_cons_succ]
  refine wpAnyH_take (i := 4) (oi := _) (v := ?_) rfl (by kernel_rfl) (by kernel_rfl) (by kernel_rfl) (fun _ _ _ h => h) (Or.inl ⟨by rfl, ?_⟩) hHeld ?_
  rotate_left
  · (intro w hSw; (try dsimp only at hSw); go_simp; try with_reducible rfl)
  try simp only [Act.put, List.setIfInBounds_toArray, List.set_cons_zero, List.set_cons_succ, List.getElem_toArray, List.getElem_cons_zero, List.getElem_cons_succ]
  refine wpAnyH_take (i := 5) (oi := _) (v := ?_) rfl (by kernel_rfl) (by kernel_rfl) (by kernel_rfl) (fun _ _ _ h => h) (Or.inl ⟨by rfl, ?_⟩) hHeld ?_
  rotate_left
  · (intro w hSw; (try dsimp only at hSw); go_simp; try with_reducible rfl)
  try simp only [Act.put, List.setIfInBounds_toArray, List.set_cons_zero, List.set_cons_succ, List.getElem_toArray, List.getElem_cons_zero, List.getElem_cons_succ]
  refine wpAnyH_ready (rs := [6, 7]) (by kernel_rfl) (by simp) ?_
  refine AllReadyH.cons (o := _) rfl (fun K hK => ?_) (AllReadyH.cons (o := _) rfl (fun K hK => ?_) (AllReadyH.nil))
  · skip
    go_simp
    refine (rof_any t0 t0 _ _ _ (Tm.inn_mono (Tm.inn_below HIN.out (HB0.out.drew) (Nat.le_refl _)) (HB0.out.drew).size) (Tm.inn_mono (Tm.inn_below HIN.out (HB0.out.drew) (Nat.le_refl _)) (HB0.out.drew).size) HSZ.out).mono ?_
    rintro e w1 ⟨g1, c1, rfl, hp1, hb1⟩
    have hb01 : Below w.heap.size w w1 := HB0.out.drew.trans (hb1.mono HB0.out.size)
    have hzz : w.heap.size + 1 ≤ w1.heap.size := by have h1 := hb1.size; have h2 := HZ0.out; have h3 : W0.heap.size ≤ w1.heap.size := h1; omega
    obtain ⟨Y0, hY0⟩ : ∃ Y, msgT t0 t0 = Y := ⟨_, rfl⟩
    rw [hY0] at hp1 ⊢
    have HY0 := Lib.hid hY0
    have HP1 := Lib.hid hp1
    have HB01 := Lib.hid hb01
    have HR1 := Lib.hid ((hb1.block w.heap.size (by show w.heap.size < W0.heap.size; have := HZ0.out; omega)).trans HR0.out)
    have hsx : (fun W' : World => W'.cell? ⟨p, po, none⟩ = some (.int .i64 t0.kind) ∧ W'.cell? ⟨p, po + 1, none⟩ = some (.string t0.name) ∧ W'.cell? ⟨p, po + 2, none⟩ = some (.int .i64 t0.n) ∧ W'.cell? ⟨p, po + 3, none⟩ = some (.slice gx t0.args.length cx)) w1 := ⟨(World.cell?_of_block (a := ⟨p, po, none⟩) (hb1.block p (by show p < W0.heap.size; have := HZ0.out; omega))).trans hHeld.1, (World.cell?_of_block (a := ⟨p, po + 1, none⟩) (hb1.block p (by show p < W0.heap.size; have := HZ0.out; omega))).trans hHeld.2.1, (World.cell?_of_block (a := ⟨p, po + 2, none⟩) (hb1.block p (by show p < W0.heap.size; have := HZ0.out; omega))).trans hHeld.2.2.1, (World.cell?_of_block (a := ⟨p, po + 3, none⟩) (hb1.block p (by show p < W0.heap.size; have := HZ0.out; omega))).trans hHeld.2.2.2⟩
    have HSX := Lib.hid hsx
    have HLO := Lib.hid (show ∀ q, W0.drew.heap.size ≤ q → w.heap.size + 1 ≤ q from fun q hq => by have h2 := HZ0.out; have h3 : W0.heap.size ≤ q := hq; omega)
    clear hY0 hp1 hb1 hb01 hsx
    go_wp2_with fail
    refine hK.out _ _ (HSX.out) (fun hHeld => ?_)
    clear hK K
    try simp only [Act.put, List.setIfInBounds_toArray, List.set_cons_zero, List.set_cons_succ, List.getElem_toArray, List.getElem_cons_zero, List.getElem_cons_succ]
    clear HSX
    refine wpAnyH_ready (rs := [7]) (by kernel_rfl) (by simp) ?_
    refine AllReadyH.cons (o := _) rfl (fun K hK => ?_) (AllReadyH.nil)
    go_simp
    refine hK.out _ _ (⟨(World.cell?_of_block (a := ⟨p, po, none⟩) (Below.heap_alloc _ _ p (by omega))).trans hHeld.1, (World.cell?_of_block (a := ⟨p, po + 1, none⟩) (Below.heap_alloc _ _ p (by omega))).trans hHeld.2.1, (World.cell?_of_block (a := ⟨p, po + 2, none⟩) (Below.heap_alloc _ _ p (by omega))).trans hHeld.2.2.1, (World.cell?_of_block (a := ⟨p, po + 3, none⟩) (Below.heap_alloc _ _ p (by omega))).trans hHeld.2.2.2⟩) (fun hHeld => ?_)
    clear hK K
    try simp only [Act.put, List.setIfInBounds_toArray, List.set_cons_zero, List.set_cons_succ, List.getElem_toArray, List.getElem_cons_zero, List.getElem_cons_succ]
    refine wpAnyH_ready (rs := [8]) (by kernel_rfl) (by simp) ?_
    refine AllReadyH.cons (o := _) rfl (fun K hK => ?_) (AllReadyH.nil)
    go_simp
    refine hK.out _ _ (⟨(World.cell?_of_block (a := ⟨p, po, none⟩) ((Below.heap_alloc w1 _ p (by omega)).trans (Below.heap_alloc w1 _ p (by omega)).symm)).trans hHeld.1, (World.cell?_of_block (a := ⟨p, po + 1, none⟩) ((Below.heap_alloc w1 _ p (by omega)).trans (Below.heap_alloc w1 _ p (by omega)).symm)).trans hHeld.2.1, (World.cell?_of_block (a := ⟨p, po + 2, none⟩) ((Below.heap_alloc w1 _ p (by omega)).trans (Below.heap_alloc w1 _ p (by omega)).symm)).trans hHeld.2.2.1, (World.cell?_of_block (a := ⟨p, po + 3, none⟩) ((Below.heap_alloc w1 _ p (by omega)).trans (Below.heap_alloc w1 _ p (by omega)).symm)).trans hHeld.2.2.2⟩) (fun hHeld => ?_)
    clear hK K
    try simp only [Act.put, List.setIfInBounds_toArray, List.set_cons_zero, List.set_cons_succ, List.getElem_toArray, List.getElem_cons_zero, List.getElem_cons_succ]
    refine wpAnyH_done (by kernel_rfl) ?_ _
    generalize hwf : World.alloc _ _ = Wc
    have hnb : Wc.heap[w1.heap.size]? = some (Obj.cells #[.int .i64 Y0.kind, .string Y0.name, .int .i64 Y0.n, .slice g1 Y0.args.length c1] 24 (0, 0)) := by rw [← hwf]; exact newBlk _ _ _ rfl
    have HG := Lib.hid (show GB w w1.heap.size (foldT t0 (l.take 1)) (.slice g1 (foldT t0 (l.take 1)).args.length c1) Wc by
      rw [foldT_succ t0 l 0 hpos, HT0.out]
      show GB w w1.heap.size (msgT t0 t0) (.slice g1 (msgT t0 t0).args.length c1) Wc
      rw [HY0.out]
      have hP : Tm.innP Wc (fun q => w.heap.size + 1 ≤ q ∧ q < Wc.heap.size) Y0 (.slice g1 Y0.args.length c1) := by
        rw [← hwf]; exact Tm.innP_same (fun q hq => ⟨HLO.out q hq.1, by have := hq.2; simp; omega⟩) (fun q o' u hq hc => (World.cell?_alloc_lt w1 _ _ hq.2).trans hc) _ _ HP1.out
      exact ⟨⟨hnb, Tm.inn_of_P (fun q hq => hq.2) _ _ hP⟩, Tm.innP_same (fun q hq => ⟨hq.2, by have := hq.1; omega⟩) (fun _ _ _ _ hc => hc) _ _ hP⟩)
    have HBC := Lib.hid (show Below w.heap.size w Wc by rw [← hwf]; exact HB01.out.alloc HB01.out.size _)
    have HRC := Lib.hid (show Wc.heap[w.heap.size]? = some (Obj.cells #[.int .i64 0, .string ⟨#[]⟩, .int .i64 0, .slice none 0 0] 24 (0, 0)) by rw [← hwf]; exact (Below.heap_alloc _ _ _ (by omega)).trans HR1.out)
    have lob : w.heap.size < w1.heap.size := by omega
    have hpob : p < w1.heap.size := by omega
    clear hwf hnb hHeld
    go_wp2_with fail
    go_loopw [4] (fun i wr => ∃ k : Nat, 1 ≤ k ∧ k ≤ l.length ∧ i = .int .i64 k ∧ Hid (Below w.heap.size w wr) ∧ Hid (wr.heap[w.heap.size]? = some (Obj.cells #[.int .i64 0, .string ⟨#[]⟩, .int .i64 0, .slice none 0 0] 24 (0, 0))) ∧ Hid (∃ g1 c1, GB w w1.heap.size (foldT t0 (l.take k)) (.slice g1 (foldT t0 (l.take k)).args.length c1) wr)) (fun i _ => l.length - (intOf i).toNat)
    case atStart => exact ⟨1, Nat.le_refl _, hpos, rfl, HBC.out, HRC.out, g1, c1, HG.out⟩
    case round =>
      obtain ⟨wy, rfl⟩ : ∃ x, x = wr := ⟨_, rfl⟩
      obtain ⟨k, hk1, hk, rfl, hb, hr, hg⟩ := hrel
      have HBY := Lib.hid hb.out
      have HRY := Lib.hid hr.out
      obtain ⟨g2, c2, hg2⟩ := hg.out
      obtain ⟨X, hX⟩ : ∃ X, foldT t0 (l.take k) = X := ⟨_, rfl⟩
      have hXs := foldT_size (l.take k) t0
      rw [hX] at hg2 hXs
      have HX := Lib.hid hX
      obtain ⟨x0, x1, x2, x3⟩ := hg2.box.cells
      have lg := hg2.box.lt
      have HGY := Lib.hid hg2
      have hys := HBY.out.size
      have lry := (Array.getElem?_eq_some_iff.1 HRY.out).1
      clear hb hr hg hX hg2 HG
      by_cases hlt : k < l.length
      · obtain ⟨p', po', sy, hga, hpB', d0, d1, d2, d3, hiy⟩ := Tm.sliceIn_get (Tm.sliceIn_below HSL.out HBY.out (Nat.le_refl _)) k hlt
        injection hga with hga
        injection hga with e1 e2
        subst e1 e2
        obtain ⟨gy, cy, rfl⟩ := inn_sl6 hiy
        obtain ⟨t, ht⟩ : ∃ t, l[k] = t := ⟨_, rfl⟩
        rw [ht] at d0 d1 d2 d3 hiy
        have HT := Lib.hid ht
        have HIY := Lib.hid hiy
        have hsy : (fun W' : World => W'.cell? ⟨p, po + k * 4, none⟩ = some (.int .i64 t.kind) ∧ W'.cell? ⟨p, po + k * 4 + 1, none⟩ = some (.string t.name) ∧ W'.cell? ⟨p, po + k * 4 + 2, none⟩ = some (.int .i64 t.n) ∧ W'.cell? ⟨p, po + k * 4 + 3, none⟩ = some (.slice gy t.args.length cy)) wy.drew := ⟨d0, d1, d2, d3⟩
        have HSY := Lib.hid hsy
        have hzy : ∃ z, wy.heap.size = z := ⟨_, rfl⟩
        clear hsy ht hiy d0 d1 d2 d3 hzy
        go_wp2_with fail
        refine wp_region_held_drew (S := fun W' => W'.cell? ⟨p, po + k * 4, none⟩ = some (.int .i64 t.kind) ∧ W'.cell? ⟨p, po + k * 4 + 1, none⟩ = some (.string t.name) ∧ W'.cell? ⟨p, po + k * 4 + 2, none⟩ = some (.int .i64 t.n) ∧ W'.cell? ⟨p, po + k * 4 + 3, none⟩ = some (.slice gy t.args.length cy)) (by kernel_rfl) HSY.out (fun hHeld => ?_)
        clear HSY
        refine wpAnyH_take (i := 1) (oi := _) (v := ?_) rfl (by kernel_rfl) (by kernel_rfl) (by kernel_rfl) (fun _ _ _ h => h) (Or.inl ⟨by rfl, ?_⟩) hHeld ?_
        rotate_left
        · (intro w hSw; (try dsimp only at hSw); go_simp; try with_reducible rfl)
        try simp only [Act.put, List.setIfInBounds_toArray, List.getElem_toArray]
        refine wpAnyH_take (i := 2) (oi := _) (v := ?_) rfl (by kernel_rfl) (by kernel_rfl) (by kernel_rfl) (fun _ _ _ h => h) (Or.inl ⟨by rfl, ?_⟩) hHeld ?_
        rotate_left
        · (intro w hSw; (try dsimp only at hSw); go_simp; try with_reducible rfl)
        try simp only [Act.put, List.setIfInBounds_toArray, List.set_cons_zero, List.set_cons_succ, List.getElem_toArray, List.getElem_cons_zero, List.getElem_cons_succ]
        refine wpAnyH_take (i := 3) (oi := _) (v := ?_) rfl (by kernel_rfl) (by kernel_rfl) (by kernel_rfl) (fun _ _ _ h => h) (Or.inl ⟨by rfl, ?_⟩) hHeld ?_
        rotate_left
        · (intro w hSw; (try dsimp only at hSw); go_simp; try with_reducible rfl)
        try simp only [Act.put, List.setIfInBounds_toArray, List.set_cons_zero, List.set_cons_succ, List.getElem_toArray, List.getElem_cons_zero, List.getElem_cons_succ]
        refine wpAnyH_take (i := 4) (oi := _) (v := ?_) rfl (by kernel_rfl) (by kernel_rfl) (by kernel_rfl) (fun _ _ _ h => h) (Or.inl ⟨by rfl, ?_⟩) hHeld ?_
        rotate_left
        · (intro w hSw; (try dsimp only at hSw); go_simp; try with_reducible rfl)
        try simp only [Act.put, List.setIfInBounds_toArray, List.set_cons_zero, List.set_cons_succ, List.getElem_toArray, List.getElem_cons_zero, List.getElem_cons_succ]
        refine wpAnyH_ready (rs := [0]) (by kernel_rfl) (by simp) ?_
        refine AllReadyH.cons (o := _) rfl (fun K hK => ?_) (AllReadyH.nil)
        go_simp
        refine hK.out _ _ (hHeld) (fun hHeld => ?_)
        clear hK K
        try simp only [Act.put, List.setIfInBounds_toArray, List.set_cons_zero, List.set_cons_succ, List.getElem_toArray, List.getElem_cons_zero, List.getElem_cons_succ]
        refine wpAnyH_ready (rs := [5]) (by kernel_rfl) (by simp) ?_
        refine AllReadyH.cons (o := _) rfl (fun K hK => ?_) (AllReadyH.nil)
        go_simp
        have hdr := (Below.refl wy.heap.size wy).drew
        refine (rof_any X t wy.drew _ _ (HGY.out.next hdr).box.2 (Tm.inn_mono (Tm.inn_below HIY.out hdr (by omega)) (by show w.heap.size ≤ wy.heap.size; omega)) (by have := HSZ.out; omega)).mono ?_
        rintro e w2 ⟨g3, c3, rfl, hp3, hb3⟩
        have hb12 : Below wy.heap.size wy w2 := hdr.trans hb3
        have hg3 := HGY.out.next hb12
        obtain ⟨⟨_, _, _, _⟩, f0, f1, f2, f3⟩ := row4 hg3.box.1
        have lg2 := hg3.box.lt
        obtain ⟨Y, hY⟩ : ∃ Y, msgT X t = Y := ⟨_, rfl⟩
        rw [hY] at hp3 ⊢
        have HB12 := Lib.hid hb12
        have HG3 := Lib.hid hg3
        have HP3 := Lib.hid hp3
        have HY := Lib.hid hY
        have hsx : (fun W' : World => W'.cell? ⟨p, po + k * 4, none⟩ = some (.int .i64 t.kind) ∧ W'.cell? ⟨p, po + k * 4 + 1, none⟩ = some (.string t.name) ∧ W'.cell? ⟨p, po + k * 4 + 2, none⟩ = some (.int .i64 t.n) ∧ W'.cell? ⟨p, po + k * 4 + 3, none⟩ = some (.slice gy t.args.length cy)) w2 := ⟨(World.cell?_of_block (a := ⟨p, po + k * 4, none⟩) (hb3.block p (by show p < wy.heap.size; omega))).trans hHeld.1, (World.cell?_of_block (a := ⟨p, po + k * 4 + 1, none⟩) (hb3.block p (by show p < wy.heap.size; omega))).trans hHeld.2.1, (World.cell?_of_block (a := ⟨p, po + k * 4 + 2, none⟩) (hb3.block p (by show p < wy.heap.size; omega))).trans hHeld.2.2.1, (World.cell?_of_block (a := ⟨p, po + k * 4 + 3, none⟩) (hb3.block p (by show p < wy.heap.size; omega))).trans hHeld.2.2.2⟩
        have HSX := Lib.hid hsx
        clear hb12 hg3 hp3 hY hb3 hsx hdr
        go_wp2_with fail
        refine hK.out _ _ (HSX.out) (fun hHeld => ?_)
        clear hK K
        try simp only [Act.put, List.setIfInBounds_toArray, List.set_cons_zero, List.set_cons_succ, List.getElem_toArray, List.getElem_cons_zero, List.getElem_cons_succ]
        clear HSX
        refine wpAnyH_ready (rs := [6]) (by kernel_rfl) (by simp) ?_
        refine AllReadyH.cons (o := _) rfl (fun K hK => ?_) (AllReadyH.nil)
        go_simp
        refine hK.out _ _ (⟨(World.cell?_of_block (a := ⟨p, po + k * 4, none⟩) (set4_other _ _ _ _ _ _ p (by omega))).trans hHeld.1, (World.cell?_of_block (a := ⟨p, po + k * 4 + 1, none⟩) (set4_other _ _ _ _ _ _ p (by omega))).trans hHeld.2.1, (World.cell?_of_block (a := ⟨p, po + k * 4 + 2, none⟩) (set4_other _ _ _ _ _ _ p (by omega))).trans hHeld.2.2.1, (World.cell?_of_block (a := ⟨p, po + k * 4 + 3, none⟩) (set4_other _ _ _ _ _ _ p (by omega))).trans hHeld.2.2.2⟩) (fun hHeld => ?_)
        clear hK K
        try simp only [Act.put, List.setIfInBounds_toArray, List.set_cons_zero, List.set_cons_succ, List.getElem_toArray, List.getElem_cons_zero, List.getElem_cons_succ]
        refine wpAnyH_done (by kernel_rfl) ?_ _
        go_wp2_with fail
        go_roundw
        case rel =>
          have hgs := GB.store (w := w) (lo := wy.heap.size) (by omega) HG3.out.box.1 (Tm.innP_same (fun q hq => ⟨hq.1, hq.2, by have h9 := hq.1; have : wy.heap.size ≤ q := h9; omega⟩) (fun _ _ _ _ hc => hc) Y _ HP3.out) rfl
          generalize hwf : World.setCell _ _ _ = wf at hgs ⊢
          obtain ⟨hbf, _, hsame, hsz⟩ := set4_fin (HBY.out.trans (HB12.out.mono hys)) (by omega) HG3.out.box.1 hwf
          refine ⟨k + 1, by omega, by omega, by go_num, hbf, (hsame _ (by omega)).trans ((HB12.out.block _ lry).trans HRY.out), ?_⟩
          rw [foldT_succ t0 l k hlt, HT.out, HX.out, HY.out]
          exact ⟨g3, c3, hgs⟩
        case measure => simp [intOf]; omega
      · obtain rfl : k = l.length := by omega
        rw [List.take_length] at HX
        obtain ⟨⟨r0, r1, r2, r3⟩, f0, f1, f2, f3⟩ := row4 HRY.out
        clear hlt hk hk1
        go_wp2_with fail
        generalize hwf : World.setCell _ _ _ = wf
        obtain ⟨hbf, hrf, hsame, hsz⟩ := set4_fin HBY.out (Nat.le_refl _) HRY.out hwf
        obtain ⟨⟨y0, y1, y2, y3⟩, _⟩ := row4 hrf
        refine bodyPost_ret (v := .agg #[.int .i64 X.kind, .string X.name, .int .i64 X.n, .slice g2 X.args.length c2]) (by simp [results, Try.results23, go_sem, y0, y1, y2, y3]) rfl ?_
        rw [HX.out]
        exact ⟨g2, c2, rfl, Tm.inn_of_P (ok := fun q => q < wf.heap.size) (fun q hq => hq) _ _ (Tm.innP_same (fun q hq => by have := hq.1; omega) (fun q o' u hq hc => (World.cell?_of_block (a := ⟨q, o', none⟩) (hsame q hq.2)).trans hc) X _ HGY.out.far), hbf⟩
  · skip
    go_simp
    obtain ⟨Wa, hWa⟩ : ∃ Y, (W0.alloc (Obj.cells #[.int .i64 0, .string ⟨#[]⟩, .int .i64 0, .slice none 0 0] 24 (0, 0))).drew = Y := ⟨_, rfl⟩
    have hba : Below w.heap.size w Wa := by rw [← hWa]; exact (HB0.out.alloc HB0.out.size _).drew
    have hza : Wa.heap.size = w.heap.size + 2 := by rw [← hWa]; have := HZ0.out; show (W0.alloc _).heap.size = _; simp; omega
    have hra : Wa.heap[w.heap.size]? = some (Obj.cells #[.int .i64 0, .string ⟨#[]⟩, .int .i64 0, .slice none 0 0] 24 (0, 0)) := by rw [← hWa]; exact (Below.heap_alloc W0 _ _ (by have := HZ0.out; omega)).trans HR0.out
    have hoa : Wa.heap[w.heap.size + 1]? = some (Obj.cells #[.int .i64 0, .string ⟨#[]⟩, .int .i64 0, .slice none 0 0] 24 (0, 0)) := by rw [← hWa]; exact newBlk W0 _ _ HZ0.out.symm
    have hsx : (fun W' : World => W'.cell? ⟨p, po, none⟩ = some (.int .i64 t0.kind) ∧ W'.cell? ⟨p, po + 1, none⟩ = some (.string t0.name) ∧ W'.cell? ⟨p, po + 2, none⟩ = some (.int .i64 t0.n) ∧ W'.cell? ⟨p, po + 3, none⟩ = some (.slice gx t0.args.length cx)) Wa := by rw [← hWa]; exact ⟨(World.cell?_of_block (a := ⟨p, po, none⟩) (Below.heap_alloc W0 _ p (by have := HZ0.out; omega))).trans hHeld.1, (World.cell?_of_block (a := ⟨p, po + 1, none⟩) (Below.heap_alloc W0 _ p (by have := HZ0.out; omega))).trans hHeld.2.1, (World.cell?_of_block (a := ⟨p, po + 2, none⟩) (Below.heap_alloc W0 _ p (by have := HZ0.out; omega))).trans hHeld.2.2.1, (World.cell?_of_block (a := ⟨p, po + 3, none⟩) (Below.heap_alloc W0 _ p (by have := HZ0.out; omega))).trans hHeld.2.2.2⟩
    rw [hWa]
    have hob : W0.heap.size = w.heap.size + 1 := HZ0.out
    try rw [hob]
    have HBA := Lib.hid hba
    have HZA := Lib.hid hza
    have HRA := Lib.hid hra
    have HOA := Lib.hid hoa
    clear hWa hba hza hra hoa
    refine hK.out _ _ (hsx) (fun hHeld => ?_)
    clear hK K
    try simp only [Act.put, List.setIfInBounds_toArray, List.set_cons_zero, List.set_cons_succ, List.getElem_toArray, List.getElem_cons_zero, List.getElem_cons_succ]
    clear hsx
    refine wpAnyH_ready (rs := [6]) (by kernel_rfl) (by simp) ?_
    refine AllReadyH.cons (o := _) rfl (fun K hK => ?_) (AllReadyH.nil)
    go_simp
    refine (rof_any t0 t0 _ _ _ (Tm.inn_mono (Tm.inn_below HIN.out (HBA.out) (Nat.le_refl _)) (HBA.out).size) (Tm.inn_mono (Tm.inn_below HIN.out (HBA.out) (Nat.le_refl _)) (HBA.out).size) HSZ.out).mono ?_
    rintro e w1 ⟨g1, c1, rfl, hp1, hb1⟩
    have hb01 : Below w.heap.size w w1 := HBA.out.trans (hb1.mono HBA.out.size)
    have hz1 : w.heap.size + 2 ≤ w1.heap.size := by have h1 := hb1.size; have h2 := HZA.out; omega
    obtain ⟨Y0, hY0⟩ : ∃ Y, msgT t0 t0 = Y := ⟨_, rfl⟩
    rw [hY0] at hp1 ⊢
    have HY0 := Lib.hid hY0
    have HP1 := Lib.hid hp1
    have HB01 := Lib.hid hb01
    have HR1 := Lib.hid ((hb1.block w.heap.size (by have := HZA.out; omega)).trans HRA.out)
    have HO1 := Lib.hid ((hb1.block (w.heap.size + 1) (by have := HZA.out; omega)).trans HOA.out)
    have hsx : (fun W' : World => W'.cell? ⟨p, po, none⟩ = some (.int .i64 t0.kind) ∧ W'.cell? ⟨p, po + 1, none⟩ = some (.string t0.name) ∧ W'.cell? ⟨p, po + 2, none⟩ = some (.int .i64 t0.n) ∧ W'.cell? ⟨p, po + 3, none⟩ = some (.slice gx t0.args.length cx)) w1 := ⟨(World.cell?_of_block (a := ⟨p, po, none⟩) (hb1.block p (by have := HZA.out; omega))).trans hHeld.1, (World.cell?_of_block (a := ⟨p, po + 1, none⟩) (hb1.block p (by have := HZA.out; omega))).trans hHeld.2.1, (World.cell?_of_block (a := ⟨p, po + 2, none⟩) (hb1.block p (by have := HZA.out; omega))).trans hHeld.2.2.1, (World.cell?_of_block (a := ⟨p, po + 3, none⟩) (hb1.block p (by have := HZA.out; omega))).trans hHeld.2.2.2⟩
    have HSX := Lib.hid hsx
    obtain ⟨⟨_, _, _, _⟩, f0, f1, f2, f3⟩ := row4 HO1.out
    have lo1 : w.heap.size + 1 < w1.heap.size := by omega
    clear hY0 hp1 hb1 hb01 hsx hob
    go_wp2_with fail
    refine hK.out _ _ (HSX.out) (fun hHeld => ?_)
    clear hK K
    try simp only [Act.put, List.setIfInBounds_toArray, List.set_cons_zero, List.set_cons_succ, List.getElem_toArray, List.getElem_cons_zero, List.getElem_cons_succ]
    clear HSX
    refine wpAnyH_ready (rs := [8]) (by kernel_rfl) (by simp) ?_
    refine AllReadyH.cons (o := _) rfl (fun K hK => ?_) (AllReadyH.nil)
    go_simp
    refine hK.out _ _ (⟨(World.cell?_of_block (a := ⟨p, po, none⟩) (set4_other _ _ _ _ _ _ p (by omega))).trans hHeld.1, (World.cell?_of_block (a := ⟨p, po + 1, none⟩) (set4_other _ _ _ _ _ _ p (by omega))).trans hHeld.2.1, (World.cell?_of_block (a := ⟨p, po + 2, none⟩) (set4_other _ _ _ _ _ _ p (by omega))).trans hHeld.2.2.1, (World.cell?_of_block (a := ⟨p, po + 3, none⟩) (set4_other _ _ _ _ _ _ p (by omega))).trans hHeld.2.2.2⟩) (fun hHeld => ?_)
    clear hK K
    try simp only [Act.put, List.setIfInBounds_toArray, List.set_cons_zero, List.set_cons_succ, List.getElem_toArray, List.getElem_cons_zero, List.getElem_cons_succ]
    refine wpAnyH_done (by kernel_rfl) ?_ _
    have hgs := GB.store (w := w) (lo := w.heap.size + 2) (by omega) HO1.out (Tm.innP_same (fun q hq => ⟨by have h1 := hq.1; have h2 := HZA.out; omega, hq.2, by have h1 := hq.1; have h2 := HZA.out; omega⟩) (fun _ _ _ _ hc => hc) Y0 _ HP1.out) rfl
    generalize hwf : World.setCell _ _ _ = Wc at hgs ⊢
    obtain ⟨hbf, _, hsame, hsz⟩ := set4_fin HB01.out (by omega) HO1.out hwf
    have HG := Lib.hid (show GB w (w.heap.size + 1) (foldT t0 (l.take 1)) (.slice g1 (foldT t0 (l.take 1)).args.length c1) Wc by
      rw [foldT_succ t0 l 0 hpos, HT0.out]
      show GB w (w.heap.size + 1) (msgT t0 t0) (.slice g1 (msgT t0 t0).args.length c1) Wc
      rw [HY0.out]; exact hgs)
    have HBC := Lib.hid hbf
    have HRC := Lib.hid ((hsame w.heap.size (by omega)).trans HR1.out)
    have lob : w.heap.size < w.heap.size + 1 := by omega
    clear hwf hHeld hgs hbf hsame hsz f0 f1 f2 f3
    go_wp2_with fail
    go_loopw [4] (fun i wr => ∃ k : Nat, 1 ≤ k ∧ k ≤ l.length ∧ i = .int .i64 k ∧ Hid (Below w.heap.size w wr) ∧ Hid (wr.heap[w.heap.size]? = some (Obj.cells #[.int .i64 0, .string ⟨#[]⟩, .int .i64 0, .slice none 0 0] 24 (0, 0))) ∧ Hid (∃ g1 c1, GB w (w.heap.size + 1) (foldT t0 (l.take k)) (.slice g1 (foldT t0 (l.take k)).args.length c1) wr)) (fun i _ => l.length - (intOf i).toNat)
    case atStart => exact ⟨1, Nat.le_refl _, hpos, rfl, HBC.out, HRC.out, g1, c1, HG.out⟩
    case round =>
      obtain ⟨wy, rfl⟩ : ∃ x, x = wr := ⟨_, rfl⟩
      obtain ⟨k, hk1, hk, rfl, hb, hr, hg⟩ := hrel
      have HBY := Lib.hid hb.out
      have HRY := Lib.hid hr.out
      obtain ⟨g2, c2, hg2⟩ := hg.out
      obtain ⟨X, hX⟩ : ∃ X, foldT t0 (l.take k) = X := ⟨_, rfl⟩
      have hXs := foldT_size (l.take k) t0
      rw [hX] at hg2 hXs
      have HX := Lib.hid hX
      obtain ⟨x0, x1, x2, x3⟩ := hg2.box.cells
      have lg := hg2.box.lt
      have HGY := Lib.hid hg2
      have hys := HBY.out.size
      have lry := (Array.getElem?_eq_some_iff.1 HRY.out).1
      clear hb hr hg hX hg2 HG
      by_cases hlt : k < l.length
      · obtain ⟨p', po', sy, hga, hpB', d0, d1, d2, d3, hiy⟩ := Tm.sliceIn_get (Tm.sliceIn_below HSL.out HBY.out (Nat.le_refl _)) k hlt
        injection hga with hga
        injection hga with e1 e2
        subst e1 e2
        obtain ⟨gy, cy, rfl⟩ := inn_sl6 hiy
        obtain ⟨t, ht⟩ : ∃ t, l[k] = t := ⟨_, rfl⟩
        rw [ht] at d0 d1 d2 d3 hiy
        have HT := Lib.hid ht
        have HIY := Lib.hid hiy
        have hsy : (fun W' : World => W'.cell? ⟨p, po + k * 4, none⟩ = some (.int .i64 t.kind) ∧ W'.cell? ⟨p, po + k * 4 + 1, none⟩ = some (.string t.name) ∧ W'.cell? ⟨p, po + k * 4 + 2, none⟩ = some (.int .i64 t.n) ∧ W'.cell? ⟨p, po + k * 4 + 3, none⟩ = some (.slice gy t.args.length cy)) wy.drew := ⟨d0, d1, d2, d3⟩
        have HSY := Lib.hid hsy
        have hzy : ∃ z, wy.heap.size = z := ⟨_, rfl⟩
        clear hsy ht hiy d0 d1 d2 d3 hzy
        go_wp2_with fail
        refine wp_region_held_drew (S := fun W' => W'.cell? ⟨p, po + k * 4, none⟩ = some (.int .i64 t.kind) ∧ W'.cell? ⟨p, po + k * 4 + 1, none⟩ = some (.string t.name) ∧ W'.cell? ⟨p, po + k * 4 + 2, none⟩ = some (.int .i64 t.n) ∧ W'.cell? ⟨p, po + k * 4 + 3, none⟩ = some (.slice gy t.args.length cy)) (by kernel_rfl) HSY.out (fun hHeld => ?_)
        clear HSY
        refine wpAnyH_take (i := 1) (oi := _) (v := ?_) rfl (by kernel_rfl) (by kernel_rfl) (by kernel_rfl) (fun _ _ _ h => h) (Or.inl ⟨by rfl, ?_⟩) hHeld ?_
        rotate_left
        · (intro w hSw; (try dsimp only at hSw); go_simp; try with_reducible rfl)
        try simp only [Act.put, List.setIfInBounds_toArray, List.getElem_toArray]
        refine wpAnyH_take (i := 2) (oi := _) (v := ?_) rfl (by kernel_rfl) (by kernel_rfl) (by kernel_rfl) (fun _ _ _ h => h) (Or.inl ⟨by rfl, ?_⟩) hHeld ?_
        rotate_left
        · (intro w hSw; (try dsimp only at hSw); go_simp; try with_reducible rfl)
        try simp only [Act.put, List.setIfInBounds_toArray, List.set_cons_zero, List.set_cons_succ, List.getElem_toArray, List.getElem_cons_zero, List.getElem_cons_succ]
        refine wpAnyH_take (i := 3) (oi := _) (v := ?_) rfl (by kernel_rfl) (by kernel_rfl) (by kernel_rfl) (fun _ _ _ h => h) (Or.inl ⟨by rfl, ?_⟩) hHeld ?_
        rotate_left
        · (intro w hSw; (try dsimp only at hSw); go_simp; try with_reducible rfl)
        try simp only [Act.put, List.setIfInBounds_toArray, List.set_cons_zero, List.set_cons_succ, List.getElem_toArray, List.getElem_cons_zero, List.getElem_cons_succ]
        refine wpAnyH_take (i := 4) (oi := _) (v := ?_) rfl (by kernel_rfl) (by kernel_rfl) (by kernel_rfl) (fun _ _ _ h => h) (Or.inl ⟨by rfl, ?_⟩) hHeld ?_
        rotate_left
        · (intro w hSw; (try dsimp only at hSw); go_simp; try with_reducible rfl)
        try simp only [Act.put, List.setIfInBounds_toArray, List.set_cons_zero, List.set_cons_succ, List.getElem_toArray, List.getElem_cons_zero, List.getElem_cons_succ]
        refine wpAnyH_ready (rs := [0]) (by kernel_rfl) (by simp) ?_
        refine AllReadyH.cons (o := _) rfl (fun K hK => ?_) (AllReadyH.nil)
        go_simp
        refine hK.out _ _ (hHeld) (fun hHeld => ?_)
        clear hK K
        try simp only [Act.put, List.setIfInBounds_toArray, List.set_cons_zero, List.set_cons_succ, List.getElem_toArray, List.getElem_cons_zero, List.getElem_cons_succ]
        refine wpAnyH_ready (rs := [5]) (by kernel_rfl) (by simp) ?_
        refine AllReadyH.cons (o := _) rfl (fun K hK => ?_) (AllReadyH.nil)
        go_simp
        have hdr := (Below.refl wy.heap.size wy).drew
        refine (rof_any X t wy.drew _ _ (HGY.out.next hdr).box.2 (Tm.inn_mono (Tm.inn_below HIY.out hdr (by omega)) (by show w.heap.size ≤ wy.heap.size; omega)) (by have := HSZ.out; omega)).mono ?_
        rintro e w2 ⟨g3, c3, rfl, hp3, hb3⟩
        have hb12 : Below wy.heap.size wy w2 := hdr.trans hb3
        have hg3 := HGY.out.next hb12
        obtain ⟨⟨_, _, _, _⟩, f0, f1, f2, f3⟩ := row4 hg3.box.1
        have lg2 := hg3.box.lt
        obtain ⟨Y, hY⟩ : ∃ Y, msgT X t = Y := ⟨_, rfl⟩
        rw [hY] at hp3 ⊢
        have HB12 := Lib.hid hb12
        have HG3 := Lib.hid hg3
        have HP3 := Lib.hid hp3
        have HY := Lib.hid hY
        have hsx : (fun W' : World => W'.cell? ⟨p, po + k * 4, none⟩ = some (.int .i64 t.kind) ∧ W'.cell? ⟨p, po + k * 4 + 1, none⟩ = some (.string t.name) ∧ W'.cell? ⟨p, po + k * 4 + 2, none⟩ = some (.int .i64 t.n) ∧ W'.cell? ⟨p, po + k * 4 + 3, none⟩ = some (.slice gy t.args.length cy)) w2 := ⟨(World.cell?_of_block (a := ⟨p, po + k * 4, none⟩) (hb3.block p (by show p < wy.heap.size; omega))).trans hHeld.1, (World.cell?_of_block (a := ⟨p, po + k * 4 + 1, none⟩) (hb3.block p (by show p < wy.heap.size; omega))).trans hHeld.2.1, (World.cell?_of_block (a := ⟨p, po + k * 4 + 2, none⟩) (hb3.block p (by show p < wy.heap.size; omega))).trans hHeld.2.2.1, (World.cell?_of_block (a := ⟨p, po + k * 4 + 3, none⟩) (hb3.block p (by show p < wy.heap.size; omega))).trans hHeld.2.2.2⟩
        have HSX := Lib.hid hsx
        clear hb12 hg3 hp3 hY hb3 hsx hdr
        go_wp2_with fail
        refine hK.out _ _ (HSX.out) (fun hHeld => ?_)
        clear hK K
        try simp only [Act.put, List.setIfInBounds_toArray, List.set_cons_zero, List.set_cons_succ, List.getElem_toArray, List.getElem_cons_zero, List.getElem_cons_succ]
        clear HSX
        refine wpAnyH_ready (rs := [6]) (by kernel_rfl) (by simp) ?_
        refine AllReadyH.cons (o := _) rfl (fun K hK => ?_) (AllReadyH.nil)
        go_simp
        refine hK.out _ _ (⟨(World.cell?_of_block (a := ⟨p, po + k * 4, none⟩) (set4_other _ _ _ _ _ _ p (by omega))).trans hHeld.1, (World.cell?_of_block (a := ⟨p, po + k * 4 + 1, none⟩) (set4_other _ _ _ _ _ _ p (by omega))).trans hHeld.2.1, (World.cell?_of_block (a := ⟨p, po + k * 4 + 2, none⟩) (set4_other _ _ _ _ _ _ p (by omega))).trans hHeld.2.2.1, (World.cell?_of_block (a := ⟨p, po + k * 4 + 3, none⟩) (set4_other _ _ _ _ _ _ p (by omega))).trans hHeld.2.2.2⟩) (fun hHeld => ?_)
        clear hK K
        try simp only [Act.put, List.setIfInBounds_toArray, List.set_cons_zero, List.set_cons_succ, List.getElem_toArray, List.getElem_cons_zero, List.getElem_cons_succ]
        refine wpAnyH_done (by kernel_rfl) ?_ _
        go_wp2_with fail
        go_roundw
        case rel =>
          have hgs := GB.store (w := w) (lo := wy.heap.size) (by omega) HG3.out.box.1 (Tm.innP_same (fun q hq => ⟨hq.1, hq.2, by have h9 := hq.1; have : wy.heap.size ≤ q := h9; omega⟩) (fun _ _ _ _ hc => hc) Y _ HP3.out) rfl
          generalize hwf : World.setCell _ _ _ = wf at hgs ⊢
          obtain ⟨hbf, _, hsame, hsz⟩ := set4_fin (HBY.out.trans (HB12.out.mono hys)) (by omega) HG3.out.box.1 hwf
          refine ⟨k + 1, by omega, by omega, by go_num, hbf, (hsame _ (by omega)).trans ((HB12.out.block _ lry).trans HRY.out), ?_⟩
          rw [foldT_succ t0 l k hlt, HT.out, HX.out, HY.out]
          exact ⟨g3, c3, hgs⟩
        case measure => simp [intOf]; omega
      · obtain rfl : k = l.length := by omega
        rw [List.take_length] at HX
        obtain ⟨⟨r0, r1, r2, r3⟩, f0, f1, f2, f3⟩ := row4 HRY.out
        clear hlt hk hk1
        go_wp2_with fail
        generalize hwf : World.setCell _ _ _ = wf
        obtain ⟨hbf, hrf, hsame, hsz⟩ := set4_fin HBY.out (Nat.le_refl _) HRY.out hwf
        obtain ⟨⟨y0, y1, y2, y3⟩, _⟩ := row4 hrf
        refine bodyPost_ret (v := .agg #[.int .i64 X.kind, .string X.name, .int .i64 X.n, .slice g2 X.args.length c2]) (by simp [results, Try.results23, go_sem, y0, y1, y2, y3]) rfl ?_
        rw [HX.out]
        exact ⟨g2, c2, rfl, Tm.inn_of_P (ok := fun q => q < wf.heap.size) (fun q hq => hq) _ _ (Tm.innP_same (fun q hq => by have := hq.1; omega) (fun q o' u hq hc => (World.cell?_of_block (a := ⟨q, o', none⟩) (hsame q hq.2)).trans hc) X _ HGY.out.far), hbf⟩
end Go.Proofs.Ytjbicfimoiiglaa
