/-
  The document's Few of goals: what it lets through is small.
-/
import Derived.Test.YtliapkajonbndaaDoorDwH
namespace Go.Proofs.YtliapkajonbndaaDoor
open Go.RowKit

/-- What the document's Few of terms is to say. -/
def FewSays : Prop := ∀ (t : Tm) (w : World) (sv : Value) (most : Int), Tm.inn w w.heap.size t sv → 0 ≤ most → most ≤ 4000 → Calls Tryd.prog 11 #[.agg #[.int .i64 t.kind, .string t.name, .int .i64 t.n, sv], .int .i64 most, .int .i64 200] w fun e w' => (∃ n : Int, e = .returned (.int .i64 n) ∧ -1 ≤ n ∧ n ≤ most ∧ (0 ≤ n → (t.size : Int) + n ≤ most)) ∧ Below w.heap.size w w'
def GFewW (l : List Gl) : Prop := ∀ (w : World) (v : Value) (most deep : Int), Gl.sliceIn w w.heap.size l v → -1 ≤ most → most ≤ 4000 → -1000 ≤ deep → deep ≤ 1000 → Calls Tryd.prog 10 #[v, .int .i64 most, .int .i64 deep] w fun e w' => (∃ n : Int, e = .returned (.int .i64 n) ∧ -1 ≤ n ∧ n ≤ most ∧ (0 ≤ n → (Gl.sizes l : Int) + 2 * n ≤ 2 * most)) ∧ Below w.heap.size w w'
theorem gsizes_snoc (l : List Gl) (k : Nat) (h : k < l.length) : Gl.sizes (l.take (k + 1)) = Gl.sizes (l.take k) + l[k].size := by
  rw [List.take_succ_eq_append_getElem h]
  generalize l.take k = x
  induction x with
  | nil => simp [Gl.sizes]
  | cons g r ih => simp only [List.cons_append, Gl.sizes, ih]; omega
theorem gsize_is (g : Gl) : g.size = g.t.size + Gl.sizes g.a + Gl.sizes g.b + Gl.sizes g.c + 1 := by cases g; rfl
set_option maxRecDepth 100000 in
set_option maxHeartbeats 8000000 in
theorem gfew_of (HF : FewSays) (l : List Gl) (hl : ∀ g ∈ l, GFewW g.a ∧ GFewW g.b ∧ GFewW g.c) : GFewW l := by
  intro w v most deep hsl hm0 hm1 hd0 hd1
  obtain ⟨g0, cap, rfl, -, hlen, -⟩ := id hsl
  have hlen : l.length ≤ 1034834473200 := hlen
  have HL := Lib.hid hl
  have HSL := Lib.hid hsl
  clear hl hsl
  obtain ⟨m, hm⟩ : ∃ m, l.length = m := ⟨_, rfl⟩
  rw [hm] at hlen ⊢
  have HM := Lib.hid hm
  clear hm
  by_cases hdp : deep < 1
  · go_enter Tryd.func10, Tryd.ntmps10
    go_wp2_with fail
    go_ret
    exact ⟨⟨-1, rfl, by omega, by omega, fun h => by omega⟩, Below.refl _ _⟩
  have hdp2 : 1 ≤ deep := by omega
  have hdp3 : (deep < 1) = False := by simp only [eq_iff_iff, iff_false]; omega
  obtain ⟨d1, hd⟩ : ∃ d, deep - 1 = d := ⟨_, rfl⟩
  have hw1 : IntKind.i64.wrap d1 = d1 := by rw [IntKind.wrap_i64]; omega
  have hb1 : -1000 ≤ d1 := by omega
  have hb2 : d1 ≤ 1000 := by omega
  clear hdp
  go_enter Tryd.func10, Tryd.ntmps10
  go_wp2_with fail
  go_loopw [1, 7] (fun o i wr => ∃ (k : Nat) (n : Int), k ≤ m ∧ o = .int .i64 n ∧ i = .int .i64 k ∧ -1 ≤ n ∧ n ≤ most ∧ Hid (0 ≤ n → (Gl.sizes (l.take k) : Int) + 2 * n ≤ 2 * most) ∧ Hid (Below w.heap.size w wr)) (fun _ i _ => m - (intOf i).toNat)
  case atStart => exact ⟨0, most, Nat.zero_le _, rfl, rfl, hm0, Int.le_refl _, Lib.hid (fun _ => by simp [Gl.sizes]), Lib.hid (Below.refl _ _)⟩
  case round =>
    obtain ⟨k, n0, hk, rfl, rfl, hn0, hn1, hs, hbw⟩ := hrel
    have HS := Lib.hid hs.out
    have HBW := Lib.hid hbw.out
    clear hs hbw
    by_cases hlt : k < m
    · by_cases hneg : n0 < 0
      · have k1 : (0 ≤ n0) = False := by simp only [eq_iff_iff, iff_false]; omega
        have j1 : (k : Int) < (m : Int) := by omega
        go_wp2_with fail
        go_ret
        exact ⟨⟨n0, rfl, hn0, hn1, fun h => by omega⟩, HBW.out⟩
      · have k1 : 0 ≤ n0 := by omega
        have hlt' : k < l.length := by rw [HM.out]; exact hlt
        obtain ⟨b', o', cap', sv', av', bv', cv', e9, hga⟩ := GA9.of (Gl.sliceIn_mono (Gl.sliceIn_below HSL.out HBW.out (Nat.le_refl _)) HBW.out.size) k hlt'
        injection e9 with e9 _ e93
        subst e9 e93
        obtain ⟨u, hu⟩ : ∃ u, l[k] = u := ⟨_, rfl⟩
        have hmem : u ∈ l := hu ▸ List.getElem_mem hlt'
        have hsn := gsizes_snoc l k hlt'
        rw [hu] at hga hsn
        rw [gsize_is] at hsn
        have HSN := Lib.hid hsn
        have HU := Lib.hid (HL.out u hmem)
        have HG := Lib.hid hga
        have j0 : (0 : Int) ≤ (k : Int) := by omega
        have j1 : (k : Int) < (m : Int) := by omega
        have jz : (0 : Int) + (k : Int) = (k : Int) := by omega
        have jw : IntKind.i64.wrap (k : Int) = (k : Int) := by rw [IntKind.wrap_i64]; omega
        obtain ⟨gt, mt, ct, rfl⟩ : ∃ g m c, sv' = .slice g m c := by
          obtain ⟨_, g, c, e, _⟩ := Tm.inn_iff.1 (Gl.inn_iff.1 hga.hi).2.1
          exact ⟨_, _, _, e⟩
        obtain ⟨x0, x1, x2, x3, x4, x5, x6, x7, _⟩ := id hga
        have hbl := hga.lt
        have H1 := Lib.hid (HF u.t wr _ n0 (Gl.inn_iff.1 hga.hi).2.1 (by omega) (by omega))
        clear hga hu hmem hsn
        go_upto_region 7 with (go_at_call 11; (with_reducible refine (H1.out.mono ?_)); rintro e w1 ⟨⟨n1, rfl, hq1, hq2, hq3⟩, hb⟩; have B1 := Lib.hid hb; have Q1 := Lib.hid hq3; have G1 := Lib.hid (HG.out.next hb); clear hb hq3)
        clear x0 x1 x2 x3 x4 x5 x6 x7
        obtain ⟨x0, x1, x2, x3, x4, x5, x6, x7, _⟩ := id G1.out
        have H2 := Lib.hid (HU.out.1 w1 _ n1 d1 (Gl.inn_iff.1 G1.out.hi).2.2.1 (by omega) (by omega) hb1 hb2)
        have hbl1 := G1.out.lt
        go_upto_region 8 with (go_at_call 10; (with_reducible refine (H2.out.mono ?_)); rintro e w2 ⟨⟨n2, rfl, hr1, hr2, hr3⟩, hb⟩; have B2 := Lib.hid hb; have Q2 := Lib.hid hr3; have G2 := Lib.hid (G1.out.next hb); clear hb hr3)
        clear x0 x1 x2 x3 x4 x5 x6 x7
        obtain ⟨x0, x1, x2, x3, x4, x5, x6, x7, _⟩ := id G2.out
        have H3 := Lib.hid (HU.out.2.1 w2 _ n2 d1 (Gl.inn_iff.1 G2.out.hi).2.2.2.1 (by omega) (by omega) hb1 hb2)
        have hbl2 := G2.out.lt
        go_upto_region 9 with (go_at_call 10; (with_reducible refine (H3.out.mono ?_)); rintro e w3 ⟨⟨n3, rfl, hs1, hs2, hs3⟩, hb⟩; have B3 := Lib.hid hb; have Q3 := Lib.hid hs3; have G3 := Lib.hid (G2.out.next hb); clear hb hs3)
        clear x0 x1 x2 x3 x4 x5 x6 x7
        obtain ⟨x0, x1, x2, x3, x4, x5, x6, x7, _⟩ := id G3.out
        have H4 := Lib.hid (HU.out.2.2 w3 _ n3 d1 (Gl.inn_iff.1 G3.out.hi).2.2.2.2 (by omega) (by omega) hb1 hb2)
        have hbl3 := G3.out.lt
        go_wp2_with (go_at_call 10; (with_reducible refine (H4.out.mono ?_)); rintro e w4 ⟨⟨n4, rfl, ht1, ht2, ht3⟩, hb⟩; have B4 := Lib.hid hb; have Q4 := Lib.hid ht3; clear hb ht3)
        have HBF := Lib.hid (((((HBW.out.trans (B1.out.mono HBW.out.size))).trans (B2.out.mono (HBW.out.trans (B1.out.mono HBW.out.size)).size)).trans (B3.out.mono ((HBW.out.trans (B1.out.mono HBW.out.size)).trans (B2.out.mono (HBW.out.trans (B1.out.mono HBW.out.size)).size)).size)).trans (B4.out.mono (((HBW.out.trans (B1.out.mono HBW.out.size)).trans (B2.out.mono (HBW.out.trans (B1.out.mono HBW.out.size)).size)).trans (B3.out.mono ((HBW.out.trans (B1.out.mono HBW.out.size)).trans (B2.out.mono (HBW.out.trans (B1.out.mono HBW.out.size)).size)).size)).size))
        have HSF := Lib.hid (show 0 ≤ n4 → (Gl.sizes (l.take (k + 1)) : Int) + 2 * n4 ≤ 2 * most by
          intro h4
          have q0 := HS.out k1
          have q1 := Q1.out (by omega)
          have q2 := Q2.out (by omega)
          have q3 := Q3.out (by omega)
          have q4 := Q4.out h4
          have q5 := HSN.out
          have q6 := size_pos u.t
          omega)
        go_roundw
        case rel => exact ⟨k + 1, n4, by omega, rfl, by go_num, ht1, by omega, HSF, HBF⟩
        case measure => simp [intOf]; omega
    · obtain rfl : m = k := by omega
      go_wp2_with fail
      go_ret
      exact ⟨⟨n0, rfl, hn0, hn1, fun h => by have h1 := HS.out h; rw [← HM.out, List.take_length] at h1; exact h1⟩, HBW.out⟩
theorem gfew_in (HF : FewSays) : ∀ g : Gl, GFewW g.a ∧ GFewW g.b ∧ GFewW g.c := Gl.ind fun _ _ a b c ha hb hc =>
  ⟨gfew_of HF a ha, gfew_of HF b hb, gfew_of HF c hc⟩
theorem gfew_any (HF : FewSays) (l : List Gl) : GFewW l := gfew_of HF l (fun g _ => gfew_in HF g)
end Go.Proofs.YtliapkajonbndaaDoor
