/-
  The program's Query.
  The tokens of a text by fuel: for texts that the kernel is to cut.
  What knows asks for, evaluated.
  The program's Builtin and Control; what knows asks for is so.
  The document's count for all goals; its Clause.
-/
import Derived.Test.YtkjnjahmlobjiaaGreatDoorG32
import Derived.RegionTactic
import Derived.Test.YtkjnjahmlobjiaaGreatDoorG00
import Derived.Test.YtkjnjahmlobjiaaGreatDoorG08
namespace Go.Proofs.YtkjnjahmlobjiaaGreatDoor
open Go.RowKit

/-- A query's code, its place, how many names it has. -/
def qyE (S : List UInt8) (p : List Pc) : Nat × Nat × Nat :=
  if (checkB p).2 = 0 then
    match oneE S with
    | .error e => (e.1, e.2, 0)
    | .ok x => if qE x p = 0 then (0, 0, x.2.length) else (qE x p, 0, 0)
  else ((checkB p).2, (checkB p).1, 0)
def QueryPost (w : World) (S : List UInt8) (p : List Pc) (e : Ending) (w' : World) : Prop :=
  Below w.heap.size w w' ∧ ∃ k nm n g m c gv mv cv q gn mn cn at' cd, e = .returned (.tuple #[.agg #[.int .i64 k, .string nm, .int .i64 n, .slice g m c, .slice gv mv cv, .int .i64 q], .slice gn mn cn, .int .i64 (at' : Nat), .int .i64 (cd : Nat)]) ∧
    cd = (qyE S p).1 ∧ at' = (qyE S p).2.1 ∧ m = (qyE S p).2.2 ∧ mn = (qyE S p).2.2
structure QT (w0 : World) (p : List Pc) (u : Value) (W : World) : Prop where
  low : Below w0.heap.size w0 W
  bp : W.heap[w0.heap.size]? = some (.cells #[u] 24 (0, 0))
  bz : W.heap[w0.heap.size + 1]? = some (.cells #[.int .i64 0, .string ⟨#[]⟩, .int .i64 0, .slice none 0 0, .slice none 0 0, .int .i64 0] 37 (0, 0))
  hp : Pc.sliceIn W W.heap.size p u
  tb : Tabs W
  rg : Rng W
section
variable {w0 : World} {p : List Pc} {u : Value} {W : World} (h : QT w0 p u W)
include h
theorem QT.lt : w0.heap.size + 1 < W.heap.size := (Array.getElem?_eq_some_iff.1 h.bz).1
theorem QT.cp : W.cell? ⟨w0.heap.size, 0, none⟩ = some u := by simp [World.cell?, h.bp]
theorem QT.next {W' : World} (hb : Below W.heap.size W W') : QT w0 p u W' :=
  ⟨h.low.trans (hb.mono h.low.size), (hb.block _ (by have := h.lt; omega)).trans h.bp, (hb.block _ h.lt).trans h.bz, Pc.sliceIn_next h.hp hb, h.tb.next hb, h.rg.next hb⟩
end
theorem QT.new {w : World} {p : List Pc} {u : Value} (hp : Pc.sliceIn w w.heap.size p u) (ht : Tabs w) (hr : Rng w) :
    QT w p u ((w.alloc (.cells #[u] 24)).alloc (.cells #[.int .i64 0, .string ⟨#[]⟩, .int .i64 0, .slice none 0 0, .slice none 0 0, .int .i64 0] 37)) := by
  have p2 := (Below.refl w.heap.size w).alloc (Nat.le_refl _) (.cells #[u] 24)
  have n2 := heap_alloc_new w (.cells #[u] 24)
  have z2 : (w.alloc (.cells #[u] 24)).heap.size = w.heap.size + 1 := by simp
  generalize w.alloc (.cells #[u] 24) = w2 at p2 n2 z2 ⊢
  have p3 := (Below.refl w2.heap.size w2).alloc (Nat.le_refl _) (.cells #[.int .i64 0, .string ⟨#[]⟩, .int .i64 0, .slice none 0 0, .slice none 0 0, .int .i64 0] 37)
  have n3 := heap_alloc_new w2 (.cells #[.int .i64 0, .string ⟨#[]⟩, .int .i64 0, .slice none 0 0, .slice none 0 0, .int .i64 0] 37)
  generalize w2.alloc (.cells #[.int .i64 0, .string ⟨#[]⟩, .int .i64 0, .slice none 0 0, .slice none 0 0, .int .i64 0] 37) = w3 at p3 n3 ⊢
  have h3 : Below w.heap.size w w3 := p2.trans (p3.mono p2.size)
  exact ⟨h3, (p3.block _ (by omega)).trans n2, by rw [← z2]; exact n3, Pc.sliceIn_next hp h3, ht.next h3, hr.next h3⟩
set_option maxRecDepth 100000 in
set_option maxHeartbeats 32000000 in
theorem pQuery_any (s : ByteArray) (p : List Pc) (w : World) (u : Value) (hp : Pc.sliceIn w w.heap.size p u) (ht : Tabs w) (hr : Rng w) (hs : s.size ≤ 1000000) (hz : ∀ c ∈ p, c.h.size ≤ 999999 ∧ Gl.sizes c.b ≤ 999999) :
    Calls Tryz.prog 17 #[.string s, .agg #[u]] w fun e w' => QueryPost w (bs s) p e w' := by
  obtain ⟨gp, cp, rfl, -, hpm, -⟩ := id hp
  have HQ := Lib.hid (QT.new hp ht hr)
  have HCK := Lib.hid (fun W (h : QT w p (.slice gp p.length cp) W) => pcheck_any p W _ h.hp h.tb hz)
  have HON := Lib.hid (fun W (h : QT w p (.slice gp p.length cp) W) => one_p s W h.rg hs)
  have HQI := Lib.hid (fun t ns W sv gn cn (h : QT w p (.slice gp p.length cp) W) (hi : Tm.inn W W.heap.size t sv) (hsz : t.size ≤ 1000000) => pquery_in (t, ns) p W sv (.slice gn ns.length cn) _ hi h.hp h.tb hsz gn cn rfl)
  have HX := Lib.hid (show qyE (bs s) p = if (checkB p).2 = 0 then
    match oneE (bs s) with
    | .error e => (e.1, e.2, 0)
    | .ok x => if qE x p = 0 then (0, 0, x.2.length) else (qE x p, 0, 0)
  else ((checkB p).2, (checkB p).1, 0) from rfl)
  clear hp ht hr hs hz
  obtain ⟨np, hnp⟩ : ∃ m, p.length = m := ⟨_, rfl⟩
  rw [hnp] at HQ HCK HON HQI hpm ⊢
  clear hnp
  obtain ⟨ci, ce, hcc⟩ : ∃ i e, checkB p = (i, e) := ⟨_, _, rfl⟩
  rw [hcc] at HCK HX
  clear hcc
  go_enter Tryz.func17, Tryz.ntmps17
  go_upto_region 1 with fail
  have HQ0 := Lib.hid (show QT w p (.slice gp np cp) ((w.alloc (.cells #[.slice gp np cp] 24)).alloc (.cells #[.int .i64 0, .string ⟨#[]⟩, .int .i64 0, .slice none 0 0, .slice none 0 0, .int .i64 0] 37)) from HQ.out)
  generalize (w.alloc (.cells #[.slice gp np cp] 24)).alloc (.cells #[.int .i64 0, .string ⟨#[]⟩, .int .i64 0, .slice none 0 0, .slice none 0 0, .int .i64 0] 37) = u0 at HQ0 ⊢
  clear HQ
  have x0 := HQ0.out.cp
  go_upto_region 2 with (go_at_call 8; (with_reducible refine (HCK.out _ HQ0.out).mono ?_); rintro e u1 ⟨rfl, hb⟩; have HQ1 := Lib.hid (HQ0.out.next hb); clear hb)
  clear x0
  obtain ⟨⟨z0, z1, z2, z3, z4, z5⟩, f0, f1, f2, f3, f4, f5⟩ := row6c HQ1.out.bz; have zl := HQ1.out.lt
  by_cases hc0 : ce = 0
  case neg =>
    have HXE := Lib.hid (show qyE (bs s) p = (ce, ci, 0) by rw [HX.out]; exact if_neg hc0)
    have kd : ((ce : Int) == 0) = false := by rw [beq_eq_false_iff_ne]; omega
    have kd2 : ((ce : Int) != 0) = true := by simp [bne, kd]
    clear hc0
    go_wp2_with fail
    have hz := set6_blk HQ1.out.bz (.int .i64 0) (.string ⟨#[]⟩) (.int .i64 0) (.slice none 0 0) (.slice none 0 0) (.int .i64 0)
    have hfr := FrP.set6 u1 (w.heap.size + 1) (.int .i64 0) (.string ⟨#[]⟩) (.int .i64 0) (.slice none 0 0) (.slice none 0 0) (.int .i64 0)
    change bodyPost _ _ _ _ _ (set6 u1 (w.heap.size + 1) (.int .i64 0) (.string ⟨#[]⟩) (.int .i64 0) (.slice none 0 0) (.slice none 0 0) (.int .i64 0))
    obtain ⟨V, hV⟩ : ∃ V, set6 u1 (w.heap.size + 1) (.int .i64 0) (.string ⟨#[]⟩) (.int .i64 0) (.slice none 0 0) (.slice none 0 0) (.int .i64 0) = V := ⟨_, rfl⟩
    rw [hV] at hz hfr ⊢
    obtain ⟨⟨r0, r1, r2, r3, r4, r5⟩, -⟩ := row6c hz
    refine bodyPost_ret (v := .tuple #[.agg #[.int .i64 0, .string ⟨#[]⟩, .int .i64 0, .slice none 0 0, .slice none 0 0, .int .i64 0], .slice none 0 0, .int .i64 (ci : Nat), .int .i64 (ce : Nat)]) (by simp [results, Tryz.results17, go_sem, r0, r1, r2, r3, r4, r5]) rfl ?_
    exact ⟨HQ1.out.low.trans ((hfr.mono (fun x _ e => by show w.heap.size ≤ x; omega)).to_below HQ1.out.low.size), 0, ⟨#[]⟩, 0, none, 0, 0, none, 0, 0, 0, none, 0, 0, ci, ce, rfl, by rw [HXE.out]; exact ⟨rfl, rfl, rfl, rfl⟩⟩
  have HY := Lib.hid (show qyE (bs s) p = match oneE (bs s) with
    | .error e => (e.1, e.2, 0)
    | .ok x => if qE x p = 0 then (0, 0, x.2.length) else (qE x p, 0, 0) by rw [HX.out]; exact if_pos hc0)
  clear HX
  subst hc0
  have kd0 : (((0 : Nat) : Int) != 0) = false := rfl
  go_upto_region 5 with (go_at_call 30; (with_reducible refine (HON.out _ HQ1.out).mono ?_); rintro e u2 ⟨hb, k, nm, n, g, m, c, gn, mn, cn, b, cd, rfl, hm⟩; have HQ2 := Lib.hid (HQ1.out.next hb); have HM := Lib.hid hm; clear hb hm)
  clear z0 z1 z2 z3 z4 z5 f0 f1 f2 f3 f4 f5 zl
  obtain ⟨u3, hu3⟩ : ∃ u3, u2.alloc (.cells #[.int .i64 k, .string nm, .int .i64 n, .slice g m c, .slice gn mn cn] 67) = u3 := ⟨_, rfl⟩
  have hb3 : Below u2.heap.size u2 u3 := hu3 ▸ (Below.refl _ u2).alloc (Nat.le_refl _) _
  have hn3 : u3.heap[u2.heap.size]? = some (.cells #[.int .i64 k, .string nm, .int .i64 n, .slice g m c, .slice gn mn cn] 67 (0, 0)) := hu3 ▸ heap_alloc_new u2 _
  rw [hu3]
  have HQ3 := Lib.hid (HQ2.out.next hb3)
  have HB3 := Lib.hid hb3
  have HN3 := Lib.hid hn3
  have HZ := Lib.hid HQ2.out.lt
  clear hu3 hb3 hn3
  cases ho : oneE (bs s) with
  | error q =>
    obtain ⟨q, pl⟩ := q
    have h9 := HM.out
    rw [ho] at h9
    obtain ⟨hq, rfl, rfl, -⟩ := h9
    have HXE := Lib.hid (show qyE (bs s) p = (cd, b, 0) by rw [HY.out, ho])
    have kd : ((cd : Int) == 0) = false := by rw [beq_eq_false_iff_ne]; omega
    have kd2 : ((cd : Int) != 0) = true := by simp [bne, kd]
    obtain ⟨⟨z0, z1, z2, z3, z4, z5⟩, f0, f1, f2, f3, f4, f5⟩ := row6c HQ3.out.bz; have zl := HQ3.out.lt
    clear ho hq
    go_wp2_with fail
    have hz := set6_blk HQ3.out.bz (.int .i64 0) (.string ⟨#[]⟩) (.int .i64 0) (.slice none 0 0) (.slice none 0 0) (.int .i64 0)
    have hfr := FrP.set6 u3 (w.heap.size + 1) (.int .i64 0) (.string ⟨#[]⟩) (.int .i64 0) (.slice none 0 0) (.slice none 0 0) (.int .i64 0)
    change bodyPost _ _ _ _ _ (set6 u3 (w.heap.size + 1) (.int .i64 0) (.string ⟨#[]⟩) (.int .i64 0) (.slice none 0 0) (.slice none 0 0) (.int .i64 0))
    obtain ⟨V, hV⟩ : ∃ V, set6 u3 (w.heap.size + 1) (.int .i64 0) (.string ⟨#[]⟩) (.int .i64 0) (.slice none 0 0) (.slice none 0 0) (.int .i64 0) = V := ⟨_, rfl⟩
    rw [hV] at hz hfr ⊢
    obtain ⟨⟨r0, r1, r2, r3, r4, r5⟩, -⟩ := row6c hz
    refine bodyPost_ret (v := .tuple #[.agg #[.int .i64 0, .string ⟨#[]⟩, .int .i64 0, .slice none 0 0, .slice none 0 0, .int .i64 0], .slice none 0 0, .int .i64 (b : Nat), .int .i64 (cd : Nat)]) (by simp [results, Tryz.results17, go_sem, r0, r1, r2, r3, r4, r5]) rfl ?_
    exact ⟨HQ3.out.low.trans ((hfr.mono (fun x _ e => by show w.heap.size ≤ x; omega)).to_below HQ3.out.low.size), 0, ⟨#[]⟩, 0, none, 0, 0, none, 0, 0, 0, none, 0, 0, b, cd, rfl, by rw [HXE.out]; exact ⟨rfl, rfl, rfl, rfl⟩⟩
  | ok x =>
  obtain ⟨t, ns⟩ := x
  have h9 := HM.out
  rw [ho] at h9
  obtain ⟨rfl, rfl, rfl, rfl, rfl, hin, hnm⟩ := h9
  have HX := Lib.hid (show qyE (bs s) p = if qE (t, ns) p = 0 then (0, 0, ns.length) else (qE (t, ns) p, 0, 0) by rw [HY.out, ho])
  have hts : t.size ≤ 1000000 := by
    unfold oneE at ho
    split at ho
    · cases ho
    · rename_i c9 hrd
      injection ho with ho
      subst ho
      have h1 : t.size ≤ 3000 := right_size ((read_len hrd).2 _ (List.mem_singleton.2 rfl)).1
      omega
    · cases ho
  obtain ⟨gn9, cn9, hnv, -⟩ := id hnm
  injection hnv with e1 e2 e3
  subst e1 e2 e3
  have HIN := Lib.hid (Tm.inn_mono (Tm.inn_below hin HB3.out (Nat.le_refl _)) HB3.out.size)
  have HQI3 := Lib.hid (HQI.out t ns u3 _ gn cn HQ3.out HIN.out hts)
  clear hin hnm ho hts
  obtain ⟨x0, x1, x2, x3, x4⟩ : u3.cell? ⟨u2.heap.size, 0, none⟩ = some (.int .i64 t.kind) ∧ u3.cell? ⟨u2.heap.size, 1, none⟩ = some (.string t.name) ∧ u3.cell? ⟨u2.heap.size, 2, none⟩ = some (.int .i64 t.n) ∧ u3.cell? ⟨u2.heap.size, 3, none⟩ = some (.slice g m c) ∧ u3.cell? ⟨u2.heap.size, 4, none⟩ = some (.slice gn ns.length cn) := by simp [World.cell?, HN3.out]
  have xl := (Array.getElem?_eq_some_iff.1 HN3.out).1
  have y0 := HQ3.out.cp
  have HQN := Lib.hid (show (ns.length : Nat) = ns.length from rfl)
  generalize hqn : ns.length = qn at HX HQI3 HN3 x4 ⊢
  go_upto_region 8 with (go_at_call 31; (with_reducible refine (HQI3.out).mono ?_); rintro e u4 ⟨hb, ck, cnm, cn9, cg, cm, cc, hv, hm, hc9, cq, cd, rfl, hcd, hcm⟩; have HQ4 := Lib.hid (HQ3.out.next hb); have HB4 := Lib.hid hb; have HCD := Lib.hid hcd; have HCM := Lib.hid hcm; clear hb hcd hcm)
  obtain ⟨u5, hu5⟩ : ∃ u5, u4.alloc (.cells #[.int .i64 ck, .string cnm, .int .i64 cn9, .slice cg cm cc, .slice hv hm hc9, .int .i64 cq] 37) = u5 := ⟨_, rfl⟩
  have hb5 : Below u4.heap.size u4 u5 := hu5 ▸ (Below.refl _ u4).alloc (Nat.le_refl _) _
  have hn5 : u5.heap[u4.heap.size]? = some (.cells #[.int .i64 ck, .string cnm, .int .i64 cn9, .slice cg cm cc, .slice hv hm hc9, .int .i64 cq] 37 (0, 0)) := hu5 ▸ heap_alloc_new u4 _
  rw [hu5]
  have HQ5 := Lib.hid (HQ4.out.next hb5)
  have hlt2 := HB4.out.size
  have x4 : u5.cell? ⟨u2.heap.size, 4, none⟩ = some (.slice gn qn cn) := ((hb5.cell (p := ⟨u2.heap.size, 4, none⟩) (by show u2.heap.size < u4.heap.size; omega)).trans (HB4.out.cell (p := ⟨u2.heap.size, 4, none⟩) xl)).trans x4
  obtain ⟨⟨c0, c1, c2, c3, c4, c5⟩, -⟩ := row6c hn5
  have cl := (Array.getElem?_eq_some_iff.1 hn5).1
  obtain ⟨⟨z0, z1, z2, z3, z4, z5⟩, f0, f1, f2, f3, f4, f5⟩ := row6c HQ5.out.bz; have zl := HQ5.out.lt
  clear hu5 hb5 hn5 x0 x1 x2 x3
  have hlz := HZ.out
  by_cases hc0 : cd = 0
  case neg =>
    have HXE := Lib.hid (show qyE (bs s) p = (cd, 0, 0) by rw [HX.out, if_neg (by rw [← HCD.out]; exact hc0), HCD.out])
    have kd : ((cd : Int) == 0) = false := by rw [beq_eq_false_iff_ne]; omega
    have kd2 : ((cd : Int) != 0) = true := by simp [bne, kd]
    clear hc0
    go_wp2_with fail
    have hz := set6_blk HQ5.out.bz (.int .i64 0) (.string ⟨#[]⟩) (.int .i64 0) (.slice none 0 0) (.slice none 0 0) (.int .i64 0)
    have hfr := FrP.set6 u5 (w.heap.size + 1) (.int .i64 0) (.string ⟨#[]⟩) (.int .i64 0) (.slice none 0 0) (.slice none 0 0) (.int .i64 0)
    change bodyPost _ _ _ _ _ (set6 u5 (w.heap.size + 1) (.int .i64 0) (.string ⟨#[]⟩) (.int .i64 0) (.slice none 0 0) (.slice none 0 0) (.int .i64 0))
    obtain ⟨V, hV⟩ : ∃ V, set6 u5 (w.heap.size + 1) (.int .i64 0) (.string ⟨#[]⟩) (.int .i64 0) (.slice none 0 0) (.slice none 0 0) (.int .i64 0) = V := ⟨_, rfl⟩
    rw [hV] at hz hfr ⊢
    obtain ⟨⟨r0, r1, r2, r3, r4, r5⟩, -⟩ := row6c hz
    refine bodyPost_ret (v := .tuple #[.agg #[.int .i64 0, .string ⟨#[]⟩, .int .i64 0, .slice none 0 0, .slice none 0 0, .int .i64 0], .slice none 0 0, .int .i64 ((0 : Nat) : Int), .int .i64 (cd : Nat)]) (by simp [results, Tryz.results17, go_sem, r0, r1, r2, r3, r4, r5]) rfl ?_
    exact ⟨HQ5.out.low.trans ((hfr.mono (fun x _ e => by show w.heap.size ≤ x; omega)).to_below HQ5.out.low.size), 0, ⟨#[]⟩, 0, none, 0, 0, none, 0, 0, 0, none, 0, 0, 0, cd, rfl, by rw [HXE.out]; exact ⟨rfl, rfl, rfl, rfl⟩⟩
  have HXE := Lib.hid (show qyE (bs s) p = (0, 0, qn) by rw [HX.out, if_pos (by rw [← HCD.out]; exact hc0)])
  have hm9 : cm = qn := (HCM.out hc0).trans hqn
  subst hc0 hm9
  go_wp2_with fail
  have q9 : u5.drew.cell? ⟨u4.heap.size, 0, none⟩ = some (.int .i64 ck) ∧ u5.drew.cell? ⟨u4.heap.size, 1, none⟩ = some (.string cnm) ∧ u5.drew.cell? ⟨u4.heap.size, 2, none⟩ = some (.int .i64 cn9) ∧ u5.drew.cell? ⟨u4.heap.size, 3, none⟩ = some (.slice cg cm cc) ∧ u5.drew.cell? ⟨u4.heap.size, 4, none⟩ = some (.slice hv hm hc9) ∧ u5.drew.cell? ⟨u4.heap.size, 5, none⟩ = some (.int .i64 cq) ∧ u5.drew.cell? ⟨u2.heap.size, 4, none⟩ = some (.slice gn cm cn) := ⟨c0, c1, c2, c3, c4, c5, x4⟩
  have HQ9 := Lib.hid q9
  have HQ6 := Lib.hid (HQ5.out.next ((Below.refl _ u5).drew))
  have hl24 : u2.heap.size < u4.heap.size := by have := HB4.out.size; omega
  refine wp_region_held_drew (S := fun W => W.cell? ⟨u4.heap.size, 0, none⟩ = some (.int .i64 ck) ∧ W.cell? ⟨u4.heap.size, 1, none⟩ = some (.string cnm) ∧ W.cell? ⟨u4.heap.size, 2, none⟩ = some (.int .i64 cn9) ∧ W.cell? ⟨u4.heap.size, 3, none⟩ = some (.slice cg cm cc) ∧ W.cell? ⟨u4.heap.size, 4, none⟩ = some (.slice hv hm hc9) ∧ W.cell? ⟨u4.heap.size, 5, none⟩ = some (.int .i64 cq) ∧ W.cell? ⟨u2.heap.size, 4, none⟩ = some (.slice gn cm cn)) (by kernel_rfl) q9 (fun hHeld => ?_)
  clear q9 c0 c1 c2 c3 c4 c5 x4 z0 z1 z2 z3 z4 z5 f0 f1 f2 f3 f4 f5 zl cl
  generalize u5.drew = X0 at HQ9 HQ6 hHeld ⊢
  refine wpAnyH_take (i := 0) (oi := _) (v := ?_) rfl (by kernel_rfl) (by kernel_rfl) (by kernel_rfl) (fun _ _ _ h => h) (Or.inl ⟨by rfl, ?_⟩) hHeld ?_
  rotate_left
  · (intro W hSw; obtain ⟨k0, k1, k2, k3, k4, k5, k6⟩ := hSw; go_simp; try with_reducible rfl)
  try simp only [Act.put, List.setIfInBounds_toArray, List.set_cons_zero, List.set_cons_succ, List.getElem_toArray, List.getElem_cons_zero]
  refine wpAnyH_take (i := 1) (oi := _) (v := ?_) rfl (by kernel_rfl) (by kernel_rfl) (by kernel_rfl) (fun _ _ _ h => h) (Or.inl ⟨by rfl, ?_⟩) hHeld ?_
  rotate_left
  · (intro W hSw; obtain ⟨k0, k1, k2, k3, k4, k5, k6⟩ := hSw; go_simp; try with_reducible rfl)
  try simp only [Act.put, List.setIfInBounds_toArray, List.set_cons_zero, List.set_cons_succ, List.getElem_toArray, List.getElem_cons_zero, List.getElem_cons_succ]
  refine wpAnyH_take (i := 2) (oi := _) (v := ?_) rfl (by kernel_rfl) (by kernel_rfl) (by kernel_rfl) (fun _ _ _ h => h) (Or.inl ⟨by rfl, ?_⟩) hHeld ?_
  rotate_left
  · (intro W hSw; obtain ⟨k0, k1, k2, k3, k4, k5, k6⟩ := hSw; go_simp; try with_reducible rfl)
  try simp only [Act.put, List.setIfInBounds_toArray, List.set_cons_zero, List.set_cons_succ, List.getElem_toArray, List.getElem_cons_zero, List.getElem_cons_succ]
  have hz := set6_blk HQ6.out.bz (.int .i64 ck) (.string cnm) (.int .i64 cn9) (.slice cg cm cc) (.slice hv hm hc9) (.int .i64 cq)
  have hfr := FrP.set6 X0 (w.heap.size + 1) (.int .i64 ck) (.string cnm) (.int .i64 cn9) (.slice cg cm cc) (.slice hv hm hc9) (.int .i64 cq)
  obtain ⟨⟨z0, z1, z2, z3, z4, z5⟩, f0, f1, f2, f3, f4, f5⟩ := row6c HQ6.out.bz; have zl := HQ6.out.lt
  obtain ⟨X1, hX1⟩ : ∃ X, set6 X0 (w.heap.size + 1) (.int .i64 ck) (.string cnm) (.int .i64 cn9) (.slice cg cm cc) (.slice hv hm hc9) (.int .i64 cq) = X := ⟨_, rfl⟩
  rw [hX1] at hz hfr
  obtain ⟨k0, k1, k2, k3, k4, k5, k6⟩ := HQ9.out
  have hn4 : u4.heap.size ≠ w.heap.size + 1 := by omega
  have hn2 : u2.heap.size ≠ w.heap.size + 1 := by omega
  have HQ1 := Lib.hid (And.intro (hfr.cell k0 hn4) (And.intro (hfr.cell k1 hn4) (And.intro (hfr.cell k2 hn4) (And.intro (hfr.cell k3 hn4) (And.intro (hfr.cell k4 hn4) (And.intro (hfr.cell k5 hn4) (hfr.cell k6 hn2)))))))
  have HFR := Lib.hid hfr
  have HZ9 := Lib.hid hz
  unfold set6 at hX1
  clear k0 k1 k2 k3 k4 k5 k6 hfr hz
  refine wpAnyH_ready (rs := [3]) (by kernel_rfl) (by simp) ?_
  refine AllReadyH.cons (o := _) rfl (fun K hK => ?_) AllReadyH.nil
  go_simp
  refine hK.out _ _ (HQ1.out) (fun hHeld => ?_)
  clear hK K
  try simp only [Act.put, List.setIfInBounds_toArray, List.set_cons_zero, List.set_cons_succ, List.getElem_toArray, List.getElem_cons_zero, List.getElem_cons_succ]
  clear hX1 z0 z1 z2 z3 z4 z5 f0 f1 f2 f3 f4 f5 zl
  refine wpAnyH_ready (rs := [4]) (by kernel_rfl) (by simp) ?_
  refine AllReadyH.cons (o := _) rfl (fun K hK => ?_) AllReadyH.nil
  go_simp
  refine hK.out _ _ (HQ1.out) (fun hHeld => ?_)
  clear hK K
  try simp only [Act.put, List.setIfInBounds_toArray, List.set_cons_zero, List.set_cons_succ, List.getElem_toArray, List.getElem_cons_zero, List.getElem_cons_succ]
  refine wpAnyH_ready (rs := [5]) (by kernel_rfl) (by simp) ?_
  refine AllReadyH.cons (o := _) rfl (fun K hK => ?_) AllReadyH.nil
  go_simp
  refine hK.out _ _ (HQ1.out) (fun hHeld => ?_)
  clear hK K
  try simp only [Act.put, List.setIfInBounds_toArray, List.set_cons_zero, List.set_cons_succ, List.getElem_toArray, List.getElem_cons_zero, List.getElem_cons_succ]
  refine wpAnyH_ready (rs := [6]) (by kernel_rfl) (by simp) ?_
  refine AllReadyH.cons (o := _) rfl (fun K hK => ?_) AllReadyH.nil
  go_simp
  refine hK.out _ _ (HQ1.out) (fun hHeld => ?_)
  clear hK K
  try simp only [Act.put, List.setIfInBounds_toArray, List.set_cons_zero, List.set_cons_succ, List.getElem_toArray, List.getElem_cons_zero, List.getElem_cons_succ]
  refine wpAnyH_done (by kernel_rfl) ?_ _
  clear hHeld
  obtain ⟨⟨r0, r1, r2, r3, r4, r5⟩, -⟩ := row6c HZ9.out
  go_wp2_with fail
  refine bodyPost_ret (v := .tuple #[.agg #[.int .i64 ck, .string cnm, .int .i64 cn9, .slice cg cm cc, .slice hv hm hc9, .int .i64 cq], .slice gn cm cn, .int .i64 ((0 : Nat) : Int), .int .i64 ((0 : Nat) : Int)]) (by simp [results, Tryz.results17, go_sem, r0, r1, r2, r3, r4, r5]) rfl ?_
  exact ⟨HQ6.out.low.trans ((HFR.out.mono (fun x _ e => by show w.heap.size ≤ x; omega)).to_below HQ6.out.low.size), _, _, _, _, cm, _, _, _, _, _, gn, cm, cn, 0, 0, rfl, by rw [HXE.out]; exact ⟨rfl, rfl, rfl, rfl⟩⟩
end Go.Proofs.YtkjnjahmlobjiaaGreatDoor

namespace Go.Proofs.YtkjnjahmlobjiaaGreatDoor

def lexF : Nat → Bool → Nat → List UInt8 → Sum Nat (List (Tk × Nat))
  | 0, _, _, _ => .inr []
  | _ + 1, _, _, [] => .inr []
  | f + 1, cm, at', c :: r =>
    if cm = true ∨ c = 37 then lexF f (decide (c ≠ 10)) (at' + 1) r
    else if srt c = 5 then lexF f false (at' + 1) r
    else match oneL (c :: r) with
      | none => .inl at'
      | some (t, k) => match lexF f false (at' + k) (r.drop (k - 1)) with
        | .inl b => .inl b
        | .inr l => .inr ((t, at') :: l)
theorem lexF_eq : ∀ (f : Nat) (cm : Bool) (at' : Nat) (s : List UInt8), s.length < f → lexF f cm at' s = lexL cm at' s
  | 0, _, _, _, h => absurd h (Nat.not_lt_zero _)
  | f + 1, cm, at', [], _ => by rw [lexF, lexL_nil]
  | f + 1, cm, at', c :: r, h => by
    have hr : r.length < f := by simpa using h
    rw [lexF, lexL, lexF_eq f _ _ r hr, lexF_eq f _ _ r hr]
    split
    · rfl
    split
    · rfl
    cases oneL (c :: r) with
    | none => rfl
    | some x =>
      obtain ⟨t, k⟩ := x
      simp only []
      rw [lexF_eq f _ _ (r.drop (k - 1)) (by simp; omega)]
      cases lexL false (at' + k) (r.drop (k - 1)) <;> rfl
end Go.Proofs.YtkjnjahmlobjiaaGreatDoor

namespace Go.Proofs.YtkjnjahmlobjiaaGreatDoor

/-- The reader with the cuts by fuel. -/
def readF (S : List UInt8) : Except (Nat × Nat) (List Cl) :=
  if 8000 < S.length then .error (3, 0)
  else match lexF (S.length + 1) false 0 S with
    | .inl b => .error (2, b)
    | .inr ts => clsE S (ts.length + 1) ts
theorem readF_eq (S : List UInt8) : readE S = readF S := by
  unfold readE readF
  rw [lexF_eq _ _ _ _ (Nat.lt_succ_self _)]
  all_goals rfl
def loadF (S : List UInt8) : Except (Nat × Nat) (List Pc) :=
  match readF S with
  | .error e => .error e
  | .ok l => match progE l 0 with
    | .error e => .error e
    | .ok p => if (checkB p).2 = 0 then .ok p else .error ((checkB p).2, (checkB p).1)
theorem loadF_eq (S : List UInt8) : loadE S = loadF S := by
  unfold loadE loadF
  rw [readF_eq]
  all_goals rfl
def oneF (S : List UInt8) : Except (Nat × Nat) Cl :=
  match readF S with
  | .error e => .error e
  | .ok [c] => .ok c
  | .ok _ => .error (2, S.length)
theorem oneF_eq (S : List UInt8) : oneE S = oneF S := by
  unfold oneE oneF
  rw [readF_eq]
  all_goals rfl
def qyF (S : List UInt8) (p : List Pc) : Nat × Nat × Nat :=
  if (checkB p).2 = 0 then
    match oneF S with
    | .error e => (e.1, e.2, 0)
    | .ok x => if qE x p = 0 then (0, 0, x.2.length) else (qE x p, 0, 0)
  else ((checkB p).2, (checkB p).1, 0)
theorem qyF_eq (S : List UInt8) (p : List Pc) : qyE S p = qyF S p := by
  unfold qyE qyF
  rw [oneF_eq]
  all_goals rfl
def txt1 : List UInt8 := [112, 40, 88, 41, 32, 58, 45, 32, 113, 40, 88, 41, 44, 32, 33, 46, 32, 113, 40, 97, 41, 46]
def txt2 : List UInt8 := [112, 32, 58, 45, 32, 113, 46]
def txt3 : List UInt8 := [112, 40, 89, 41, 46]
def goal2 (p : List Pc) : Bool :=
  match p with
  | [⟨_, [_, g], _⟩, _] => decide (g.kind = 3)
  | _ => false
def fitsB (p : List Pc) : Bool := p.all fun c => decide (c.h.size ≤ 999999) && decide (Gl.sizes c.b ≤ 999999)
theorem kn_one : (match loadF txt1 with
  | .ok p => goal2 p && (fitsB p && decide (qyF txt3 p = (0, 0, 1)))
  | .error _ => false) = true := by kernel_rfl
theorem kn_two : (match loadF txt2 with
  | .ok _ => false
  | .error e => decide (e = (9, 0))) = true := by kernel_rfl
/-- What knows' texts load. -/
theorem kn_load : ∃ h0 g0 g1 n0 c1, loadE txt1 = .ok [⟨h0, [g0, g1], n0⟩, c1] ∧ g1.kind = 3 ∧ (∀ c ∈ [(⟨h0, [g0, g1], n0⟩ : Pc), c1], c.h.size ≤ 999999 ∧ Gl.sizes c.b ≤ 999999) ∧ qyE txt3 [⟨h0, [g0, g1], n0⟩, c1] = (0, 0, 1) := by
  have h := kn_one
  rw [← loadF_eq] at h
  split at h
  · rename_i p hp
    simp only [Bool.and_eq_true, decide_eq_true_eq] at h
    obtain ⟨h1, h2, h3⟩ := h
    unfold goal2 at h1
    split at h1
    · rename_i h0 g0 g1 n0 c1
      refine ⟨h0, g0, g1, n0, c1, hp, by simpa using h1, fun c hc => ?_, by rw [qyF_eq]; exact h3⟩
      have h4 := List.all_eq_true.1 h2 c hc
      simpa using h4
    · cases h1
  · cases h
theorem kn_bad : loadE txt2 = .error (9, 0) := by
  have h := kn_two
  rw [← loadF_eq] at h
  split at h
  · cases h
  · rename_i e he
    rw [he, of_decide_eq_true h]
end Go.Proofs.YtkjnjahmlobjiaaGreatDoor

namespace Go.Proofs.YtkjnjahmlobjiaaGreatDoor
open Go.RowKit

set_option maxRecDepth 100000 in
theorem pBuiltin_any (s : ByteArray) (n : Int) (w : World) (ht : Tabs w) : Calls Tryz.prog 18 #[.string s, .int .i64 n] w fun e w' => e = .returned (.bool (bltn (bsN s) n)) ∧ Below w.heap.size w w' := by
  have HB := Lib.hid (pblt_any s n w ht.blt)
  clear ht
  go_enter Tryz.func18, Tryz.ntmps18
  go_wp2_with (go_at_call 32; (with_reducible refine (HB.out).mono ?_); rintro e u1 ⟨rfl, hb⟩; have HU := Lib.hid hb; clear hb)
  go_ret
  exact ⟨rfl, HU.out⟩
set_option maxRecDepth 100000 in
theorem pControl_any (s : ByteArray) (n : Int) (w : World) (ht : Tabs w) : Calls Tryz.prog 19 #[.string s, .int .i64 n] w fun e w' => e = .returned (.bool (ctlB (bsN s) n)) ∧ Below w.heap.size w w' := by
  have HB := Lib.hid (pctl_any s n w ht.ctl)
  clear ht
  go_enter Tryz.func19, Tryz.ntmps19
  go_wp2_with (go_at_call 33; (with_reducible refine (HB.out).mono ?_); rintro e u1 ⟨rfl, hb⟩; have HU := Lib.hid hb; clear hb)
  go_ret
  exact ⟨rfl, HU.out⟩
theorem blt_is : bltn (bsN ⟨#[105, 115]⟩) 2 = true := by kernel_rfl
theorem ctl_is : ctlB (bsN ⟨#[105, 115]⟩) 2 = false := by kernel_rfl
/-- The first text, loaded. -/
theorem kload1 {q : List Pc} (hq : loadE txt1 = .ok q) (w : World) (hr : Rng w) (ht : Tabs w) : Calls Tryz.prog 16 #[.string ⟨#[112, 40, 88, 41, 32, 58, 45, 32, 113, 40, 88, 41, 44, 32, 33, 46, 32, 113, 40, 97, 41, 46]⟩] w fun e w' =>
    Below w.heap.size w w' ∧ ∃ g c, e = .returned (.tuple #[.agg #[.slice g q.length c], .int .i64 0, .int .i64 0]) ∧ Pc.sliceIn w' w'.heap.size q (.slice g q.length c) := by
  refine (pload_any ⟨#[112, 40, 88, 41, 32, 58, 45, 32, 113, 40, 88, 41, 44, 32, 33, 46, 32, 113, 40, 97, 41, 46]⟩ w hr ht (show (22 : Nat) ≤ 1000000 by omega)).mono ?_
  rintro e w' ⟨hb, g, m, c, at', cd, rfl, hm⟩
  rw [show bs ⟨#[112, 40, 88, 41, 32, 58, 45, 32, 113, 40, 88, 41, 44, 32, 33, 46, 32, 113, 40, 97, 41, 46]⟩ = txt1 from rfl, hq] at hm
  obtain ⟨rfl, rfl, hs⟩ := hm
  obtain ⟨g', c', e, -⟩ := id hs
  injection e with e1 e2 e3
  subst e1 e2 e3
  exact ⟨hb, g, c, rfl, hs⟩
/-- The second isn't. -/
theorem kload2 (w : World) (hr : Rng w) (ht : Tabs w) : Calls Tryz.prog 16 #[.string ⟨#[112, 32, 58, 45, 32, 113, 46]⟩] w fun e w' =>
    Below w.heap.size w w' ∧ e = .returned (.tuple #[.agg #[.slice none 0 0], .int .i64 0, .int .i64 9]) := by
  refine (pload_any ⟨#[112, 32, 58, 45, 32, 113, 46]⟩ w hr ht (show (7 : Nat) ≤ 1000000 by omega)).mono ?_
  rintro e w' ⟨hb, g, m, c, at', cd, rfl, hm⟩
  rw [show bs ⟨#[112, 32, 58, 45, 32, 113, 46]⟩ = txt2 from rfl, kn_bad] at hm
  obtain ⟨rfl, -, rfl, rfl, rfl, rfl⟩ := hm
  exact ⟨hb, rfl⟩
/-- The query. -/
theorem kquery {q : List Pc} (hq : qyE txt3 q = (0, 0, 1)) (hz : ∀ c ∈ q, c.h.size ≤ 999999 ∧ Gl.sizes c.b ≤ 999999) (w : World) (u : Value) (hp : Pc.sliceIn w w.heap.size q u) (hr : Rng w) (ht : Tabs w) : Calls Tryz.prog 17 #[.string ⟨#[112, 40, 89, 41, 46]⟩, .agg #[u]] w fun e w' =>
    Below w.heap.size w w' ∧ ∃ k nm n g c gv mv cv r gn cn, e = .returned (.tuple #[.agg #[.int .i64 k, .string nm, .int .i64 n, .slice g 1 c, .slice gv mv cv, .int .i64 r], .slice gn 1 cn, .int .i64 0, .int .i64 0]) := by
  refine (pQuery_any ⟨#[112, 40, 89, 41, 46]⟩ q w u hp ht hr (show (5 : Nat) ≤ 1000000 by omega) hz).mono ?_
  rintro e w' ⟨hb, k, nm, n, g, m, c, gv, mv, cv, r, gn, mn, cn, at', cd, rfl, hm⟩
  rw [show bs ⟨#[112, 40, 89, 41, 46]⟩ = txt3 from rfl, hq] at hm
  obtain ⟨rfl, rfl, rfl, rfl⟩ := hm
  exact ⟨hb, k, nm, n, g, c, gv, mv, cv, r, gn, cn, rfl⟩
set_option maxRecDepth 100000 in
set_option maxHeartbeats 16000000 in
theorem knows_any (w : World) (hr : Rng w) (ht : Tabs w) : Calls Tryz.prog 7 #[] w fun e w' => e = .returned (.bool true) ∧ Below w.heap.size w w' := by
  obtain ⟨h0, g0, g1, n0, c1, hq, hg3, hz, hy⟩ := kn_load
  have HG3 := Lib.hid hg3
  have HL1 := Lib.hid (kload1 hq w hr ht)
  have HL2 := Lib.hid kload2
  have HQ := Lib.hid (kquery hy hz)
  have HR := Lib.hid hr
  have HT := Lib.hid ht
  have HBI := Lib.hid blt_is
  have HCI := Lib.hid ctl_is
  clear hr ht hq hz hy hg3
  rw [show [(⟨h0, [g0, g1], n0⟩ : Pc), c1].length = 2 from rfl] at HL1
  go_enter Tryz.func7, Tryz.ntmps7
  go_upto_region 2 with (go_at_call 16; (with_reducible refine (HL1.out).mono ?_); rintro e u1 ⟨hb, g, c, rfl, hs⟩; have HB1 := Lib.hid hb; have HS1 := Lib.hid hs; clear hb hs)
  obtain ⟨u2, hu2⟩ : ∃ u2, u1.alloc (.cells #[.slice g 2 c] 24) = u2 := ⟨_, rfl⟩
  have hb2 : Below u1.heap.size u1 u2 := hu2 ▸ (Below.refl _ u1).alloc (Nat.le_refl _) _
  have hn2 : u2.heap[u1.heap.size]? = some (.cells #[.slice g 2 c] 24 (0, 0)) := hu2 ▸ heap_alloc_new u1 _
  rw [hu2]
  have HB2 := Lib.hid (HB1.out.trans (hb2.mono HB1.out.size))
  have HN2 := Lib.hid hn2
  have HS2 := Lib.hid (Pc.sliceIn_next HS1.out hb2)
  have HT2 := Lib.hid (HT.out.next HB2.out)
  have HR2 := Lib.hid (HR.out.next HB2.out)
  clear hu2 hb2 hn2
  obtain ⟨px, hpx⟩ : ∃ px, u1.heap.size = px := ⟨_, rfl⟩
  rw [hpx] at HN2 ⊢
  clear hpx
  go_upto_region 3 with (go_at_call 16; (with_reducible refine (HL2.out u2 HR2.out HT2.out).mono ?_); rintro e u3 ⟨hb, rfl⟩; have HB3 := Lib.hid hb; clear hb)
  obtain ⟨u4, hu4⟩ : ∃ u4, u3.alloc (.cells #[.slice none 0 0] 24) = u4 := ⟨_, rfl⟩
  have hb4 : Below u3.heap.size u3 u4 := hu4 ▸ (Below.refl _ u3).alloc (Nat.le_refl _) _
  rw [hu4]
  have HB4 := Lib.hid (HB3.out.trans (hb4.mono HB3.out.size))
  have hlt2 := (Array.getElem?_eq_some_iff.1 HN2.out).1
  have HN4 := Lib.hid ((HB4.out.block _ hlt2).trans HN2.out)
  have HS4 := Lib.hid (Pc.sliceIn_next HS2.out HB4.out)
  have HT4 := Lib.hid (HT2.out.next HB4.out)
  have HR4 := Lib.hid (HR2.out.next HB4.out)
  have HW4 := Lib.hid (HB2.out.trans (HB4.out.mono HB2.out.size))
  clear hu4 hb4 hlt2
  generalize u3.heap.size = pz
  have p0 : u4.cell? ⟨px, 0, none⟩ = some (.slice g 2 c) := by simp [World.cell?, HN4.out]
  go_upto_region 4 with (go_at_call 17; (with_reducible refine (HQ.out u4 _ HS4.out HR4.out HT4.out).mono ?_); rintro e u5 ⟨hb, k, nm, n, gh, ch, gv, mv, cv, r, gn, cn, rfl⟩; have HB5 := Lib.hid hb; clear hb)
  obtain ⟨u6, hu6⟩ : ∃ u6, u5.alloc (.cells #[.int .i64 k, .string nm, .int .i64 n, .slice gh 1 ch, .slice gv mv cv, .int .i64 r] 37) = u6 := ⟨_, rfl⟩
  have hb6 : Below u5.heap.size u5 u6 := hu6 ▸ (Below.refl _ u5).alloc (Nat.le_refl _) _
  have hn6 : u6.heap[u5.heap.size]? = some (.cells #[.int .i64 k, .string nm, .int .i64 n, .slice gh 1 ch, .slice gv mv cv, .int .i64 r] 37 (0, 0)) := hu6 ▸ heap_alloc_new u5 _
  rw [hu6]
  have HB6 := Lib.hid (HB5.out.trans (hb6.mono HB5.out.size))
  have hlt4 := (Array.getElem?_eq_some_iff.1 HN4.out).1
  have hn4 := (HB6.out.block _ hlt4).trans HN4.out
  have hs6 := Pc.sliceIn_next HS4.out HB6.out
  have HT6 := Lib.hid (HT4.out.next HB6.out)
  have HW6 := Lib.hid (HW4.out.trans (HB6.out.mono HW4.out.size))
  clear hu6 hb6 p0 hlt4
  generalize u5.heap.size = cx at hn6 ⊢
  obtain ⟨⟨z0, z1, z2, z3, z4, z5⟩, -⟩ := row6c hn6
  have p0 : u6.cell? ⟨px, 0, none⟩ = some (.slice g 2 c) := by simp [World.cell?, hn4]
  obtain ⟨bk, off, cap, sv, u, ev, hbk, hat⟩ := Pc.sliceIn_get hs6 0 (Nat.zero_lt_succ _)
  injection ev with e1 e2 e3
  subst e1 e3
  obtain ⟨a0, a1, a2, a3, a4, a5, -, -, hgl⟩ := hat
  obtain ⟨bg, og, cg, sg, av, bv, cv9, eg, hbg, b0, b1, -⟩ := Gl.sliceIn_get hgl 1 (show 1 < 2 by omega)
  rw [show ([(⟨h0, [g0, g1], n0⟩ : Pc), c1][0]'(Nat.zero_lt_succ _)).b.length = 2 from rfl] at eg
  subst eg
  have a4 : u6.cell? ⟨bk, off + 4, none⟩ = some (.slice (some ⟨bg, og, none⟩) 2 cg) := by simpa using a4
  have b0 : u6.cell? ⟨bg, og + 8, none⟩ = some (.int .i64 3) := by rw [← HG3.out]; simpa using b0
  have HBC := Lib.hid (pBuiltin_any ⟨#[105, 115]⟩ 2)
  have HCC := Lib.hid (pControl_any ⟨#[105, 115]⟩ 2)
  rw [HBI.out] at HBC
  rw [HCI.out] at HCC
  clear a0 a1 a2 a3 a5 b1 hgl hs6 hn4 hn6 z0 z1 z2 z4 z5
  go_wp2_with (first
    | (go_at_call 18; (with_reducible refine (HBC.out _ HT6.out).mono ?_); rintro e u7 ⟨rfl, hb⟩; have HT7 := Lib.hid (HT6.out.next hb); have HW7 := Lib.hid (HW6.out.trans (hb.mono HW6.out.size)); clear hb)
    | (go_at_call 19; (with_reducible refine (HCC.out _ HT7.out).mono ?_); rintro e u8 ⟨rfl, hb⟩; have HW8 := Lib.hid (HW7.out.trans (hb.mono HW7.out.size)); clear hb))
  go_ret
  exact ⟨rfl, HW8.out⟩
end Go.Proofs.YtkjnjahmlobjiaaGreatDoor

namespace Go.Proofs.YtkjnjahmlobjiaaGreatDoor
open Go.RowKit

/-- A clause in a box of the call's own. -/
structure DCl (w0 : World) (c : Pc) (sv v : Value) (bx : Nat) (W : World) : Prop where
  low : Below w0.heap.size w0 W
  bk : W.heap[bx]? = some (.cells #[.int .i64 c.h.kind, .string c.h.name, .int .i64 c.h.n, sv, v, .int .i64 c.n] 37 (0, 0))
  hi : Tm.inn W W.heap.size c.h sv
  hs : Gl.sliceIn W W.heap.size c.b v
section
variable {w0 : World} {c : Pc} {sv v : Value} {bx : Nat} {W : World} (h : DCl w0 c sv v bx W)
include h
theorem DCl.lt : bx < W.heap.size := (Array.getElem?_eq_some_iff.1 h.bk).1
theorem DCl.cell0 : W.cell? ⟨bx, 0, none⟩ = some (.int .i64 c.h.kind) := by simp [World.cell?, h.bk]
theorem DCl.cell1 : W.cell? ⟨bx, 1, none⟩ = some (.string c.h.name) := by simp [World.cell?, h.bk]
theorem DCl.cell3 : W.cell? ⟨bx, 3, none⟩ = some sv := by simp [World.cell?, h.bk]
theorem DCl.next {W' : World} (hb : Below W.heap.size W W') : DCl w0 c sv v bx W' :=
  ⟨h.low.trans (hb.mono h.low.size), (hb.block _ h.lt).trans h.bk, dg_next h.hi hb, Gl.sliceIn_next h.hs hb⟩
end
theorem DCl.new {c : Pc} {sv v : Value} {w : World} (hin : Pc.inn w w.heap.size c sv v) : DCl w c sv v w.heap.size (w.alloc (.cells #[.int .i64 c.h.kind, .string c.h.name, .int .i64 c.h.n, sv, v, .int .i64 c.n] 37)) := by
  have hb := (Below.refl w.heap.size w).alloc (Nat.le_refl _) (.cells #[.int .i64 c.h.kind, .string c.h.name, .int .i64 c.h.n, sv, v, .int .i64 c.n] 37)
  exact ⟨hb, heap_alloc_new w _, dg_next hin.2.1 hb, Gl.sliceIn_next hin.2.2 hb⟩
end Go.Proofs.YtkjnjahmlobjiaaGreatDoor
