/-
  The document's There: is each Call of goals one of a program's predicates?
  The document's There for all goals.
  The document's Check: what is amiss with a program first.
  The document's FewGoals, Some: what they let through is small.
  What the three laws stand on.
-/
import Derived.Test.YtkjnjahmlobjiaaGreatDoorG33
import Derived.Test.YtkjnjahmlobjiaaGreatDoorG28
import Derived.Deep.QuietTactic
import Derived.BigQuiet
import Derived.Test.YtkjnjahmlobjiaaGreatDoorG30
import Derived.Test.YtkjnjahmlobjiaaGreatDoorG09
import Derived.Deep.CutRange
import Derived.Deep.LoopGhost
import Derived.Deep.DeepCutAuto
import Derived.Test.YtkjnjahmlobjiaaGreatDoorG01
namespace Go.Proofs.YtkjnjahmlobjiaaGreatDoor
open Go.RowKit

/-- A program in a box of the call's own, and goals beside it. -/
structure DPb (w0 : World) (p : List Pc) (u : Value) (l : List Gl) (v : Value) (bx : Nat) (W : World) : Prop where
  low : Below w0.heap.size w0 W
  bk : W.heap[bx]? = some (.cells #[u] 24 (0, 0))
  hp : Pc.sliceIn W W.heap.size p u
  hs : Gl.sliceIn W W.heap.size l v
section
variable {w0 : World} {p : List Pc} {u : Value} {l : List Gl} {v : Value} {bx : Nat} {W : World} (h : DPb w0 p u l v bx W)
include h
theorem DPb.lt : bx < W.heap.size := (Array.getElem?_eq_some_iff.1 h.bk).1
theorem DPb.cell0 : W.cell? ⟨bx, 0, none⟩ = some u := by simp [World.cell?, h.bk]
theorem DPb.next {W' : World} (hb : Below W.heap.size W W') : DPb w0 p u l v bx W' :=
  ⟨h.low.trans (hb.mono h.low.size), (hb.block _ h.lt).trans h.bk, Pc.sliceIn_next h.hp hb, Gl.sliceIn_next h.hs hb⟩
end
theorem DPb.new {p : List Pc} {u : Value} {l : List Gl} {v : Value} {w : World} (hp : Pc.sliceIn w w.heap.size p u) (hs : Gl.sliceIn w w.heap.size l v) : DPb w p u l v w.heap.size (w.alloc (.cells #[u] 24)) := by
  have hb := (Below.refl w.heap.size w).alloc (Nat.le_refl _) (.cells #[u] 24)
  exact ⟨hb, heap_alloc_new w _, Pc.sliceIn_next hp hb, Gl.sliceIn_next hs hb⟩
/-- A program's box, a goal that lies in memory, and its cells at off + k * 8. -/
structure TH9 (w0 : World) (p : List Pc) (u : Value) (l : List Gl) (v : Value) (g : Gl) (sv av bv cv : Value) (o : Nat) (bx bk : Nat) (W : World) : Prop where
  d : DPb w0 p u l v bx W
  hi : Gl.inn W W.heap.size g sv av bv cv
  lt : bk < W.heap.size
  x5 : W.cell? ⟨bk, o + 5, none⟩ = some av
  x6 : W.cell? ⟨bk, o + 6, none⟩ = some bv
  x7 : W.cell? ⟨bk, o + 7, none⟩ = some cv
section
variable {w0 : World} {p : List Pc} {u : Value} {l : List Gl} {v : Value} {g : Gl} {sv av bv cv : Value} {o bx bk : Nat} {W : World} (h : TH9 w0 p u l v g sv av bv cv o bx bk W)
include h
theorem TH9.a : Gl.sliceIn W W.heap.size g.a av := (Gl.inn_iff.1 h.hi).2.2.1
theorem TH9.b : Gl.sliceIn W W.heap.size g.b bv := (Gl.inn_iff.1 h.hi).2.2.2.1
theorem TH9.c : Gl.sliceIn W W.heap.size g.c cv := (Gl.inn_iff.1 h.hi).2.2.2.2
theorem TH9.next {W' : World} (hb : Below W.heap.size W W') : TH9 w0 p u l v g sv av bv cv o bx bk W' :=
  ⟨h.d.next hb, Gl.inn_mono (Gl.inn_below h.hi hb (Nat.le_refl _)) hb.size, Nat.lt_of_lt_of_le h.lt hb.size, (hb.cell (p := ⟨bk, o + 5, none⟩) h.lt).trans h.x5, (hb.cell (p := ⟨bk, o + 6, none⟩) h.lt).trans h.x6, (hb.cell (p := ⟨bk, o + 7, none⟩) h.lt).trans h.x7⟩
theorem TH9.all : W.cell? ⟨bk, o + 5, none⟩ = some av ∧ W.cell? ⟨bk, o + 6, none⟩ = some bv ∧ W.cell? ⟨bk, o + 7, none⟩ = some cv ∧ W.cell? ⟨bx, 0, none⟩ = some u ∧ TH9 w0 p u l v g sv av bv cv o bx bk W := ⟨h.x5, h.x6, h.x7, h.d.cell0, h⟩
end
end Go.Proofs.YtkjnjahmlobjiaaGreatDoor

namespace Go.Proofs.YtkjnjahmlobjiaaGreatDoor
open Go.RowKit

end Go.Proofs.YtkjnjahmlobjiaaGreatDoor

namespace Go.Proofs.YtkjnjahmlobjiaaGreatDoor
open Go.RowKit

end Go.Proofs.YtkjnjahmlobjiaaGreatDoor

namespace Go.Proofs.YtkjnjahmlobjiaaGreatDoor
open Go.RowKit

/-- What the document's Few of terms is to say. -/
def FwSays : Prop := ∀ (t : Tm) (w : World) (sv : Value) (most : Int), Tm.inn w w.heap.size t sv → 0 ≤ most → most ≤ 4000 → Calls Tryz.prog 14 #[.agg #[.int .i64 t.kind, .string t.name, .int .i64 t.n, sv], .int .i64 most, .int .i64 200] w fun e w' => (∃ n : Int, e = .returned (.int .i64 n) ∧ -1 ≤ n ∧ n ≤ most ∧ (0 ≤ n → (t.size : Int) + n ≤ most)) ∧ Below w.heap.size w w'
def GFw (l : List Gl) : Prop := ∀ (w : World) (v : Value) (most deep : Int), Gl.sliceIn w w.heap.size l v → -1 ≤ most → most ≤ 4000 → -1000 ≤ deep → deep ≤ 1000 → Calls Tryz.prog 15 #[v, .int .i64 most, .int .i64 deep] w fun e w' => (∃ n : Int, e = .returned (.int .i64 n) ∧ -1 ≤ n ∧ n ≤ most ∧ (0 ≤ n → (Gl.sizes l : Int) + 2 * n ≤ 2 * most)) ∧ Below w.heap.size w w'
set_option maxRecDepth 100000 in
set_option maxHeartbeats 8000000 in
theorem gfw_of (HF : FwSays) (l : List Gl) (hl : ∀ g ∈ l, GFw g.a ∧ GFw g.b ∧ GFw g.c) : GFw l := by
  intro w v most deep hsl hm0 hm1 hd0 hd1
  obtain ⟨g0, cap, rfl, -, hlen, -⟩ := id hsl
  have hlen : l.length ≤ 1034834473200 := hlen
  have HL := Lib.hid hl
  have HSL := Lib.hid hsl
  clear hl hsl
  obtain ⟨m, hm⟩ : ∃ m, l.length = m := ⟨_, rfl⟩
  rw [hm] at hlen ⊢
  have HM := Lib.hid hm
  clear hm
  by_cases hdp : deep < 1
  · go_enter Tryz.func15, Tryz.ntmps15
    go_wp2_with fail
    go_ret
    exact ⟨⟨-1, rfl, by omega, by omega, fun h => by omega⟩, Below.refl _ _⟩
  have hdp2 : 1 ≤ deep := by omega
  have hdp3 : (deep < 1) = False := by simp only [eq_iff_iff, iff_false]; omega
  obtain ⟨d1, hd⟩ : ∃ d, deep - 1 = d := ⟨_, rfl⟩
  have hw1 : IntKind.i64.wrap d1 = d1 := by rw [IntKind.wrap_i64]; omega
  have hb1 : -1000 ≤ d1 := by omega
  have hb2 : d1 ≤ 1000 := by omega
  clear hdp
  go_enter Tryz.func15, Tryz.ntmps15
  go_wp2_with fail
  go_loopw [1, 7] (fun o i wr => ∃ (k : Nat) (n : Int), k ≤ m ∧ o = .int .i64 n ∧ i = .int .i64 k ∧ -1 ≤ n ∧ n ≤ most ∧ Hid (0 ≤ n → (Gl.sizes (l.take k) : Int) + 2 * n ≤ 2 * most) ∧ Hid (Below w.heap.size w wr)) (fun _ i _ => m - (intOf i).toNat)
  case atStart => exact ⟨0, most, Nat.zero_le _, rfl, rfl, hm0, Int.le_refl _, Lib.hid (fun _ => by simp [Gl.sizes]), Lib.hid (Below.refl _ _)⟩
  case round =>
    obtain ⟨k, n0, hk, rfl, rfl, hn0, hn1, hs, hbw⟩ := hrel
    have HS := Lib.hid hs.out
    have HBW := Lib.hid hbw.out
    clear hs hbw
    by_cases hlt : k < m
    · by_cases hneg : n0 < 0
      · have k1 : (0 ≤ n0) = False := by simp only [eq_iff_iff, iff_false]; omega
        have j1 : (k : Int) < (m : Int) := by omega
        go_wp2_with fail
        go_ret
        exact ⟨⟨n0, rfl, hn0, hn1, fun h => by omega⟩, HBW.out⟩
      · have k1 : 0 ≤ n0 := by omega
        have hlt' : k < l.length := by rw [HM.out]; exact hlt
        obtain ⟨b', o', cap', sv', av', bv', cv', e9, hga⟩ := GA9.of (Gl.sliceIn_mono (Gl.sliceIn_below HSL.out HBW.out (Nat.le_refl _)) HBW.out.size) k hlt'
        injection e9 with e91 e90 e92
        subst e91 e92
        clear e90
        obtain ⟨u, hu⟩ : ∃ u, l[k] = u := ⟨_, rfl⟩
        have hmem : u ∈ l := hu ▸ List.getElem_mem hlt'
        have hsn := gsizes_snoc l k hlt'
        rw [hu] at hga hsn
        rw [gsize_is] at hsn
        have HSN := Lib.hid hsn
        have HU := Lib.hid (HL.out u hmem)
        have HG := Lib.hid hga
        have j0 : (0 : Int) ≤ (k : Int) := by omega
        have j1 : (k : Int) < (m : Int) := by omega
        have jz : (0 : Int) + (k : Int) = (k : Int) := by omega
        have jw : IntKind.i64.wrap (k : Int) = (k : Int) := by rw [IntKind.wrap_i64]; omega
        obtain ⟨gt, mt, ct, rfl⟩ : ∃ g m c, sv' = .slice g m c := by
          obtain ⟨_, g, c, e, _⟩ := Tm.inn_iff.1 (Gl.inn_iff.1 hga.hi).2.1
          exact ⟨_, _, _, e⟩
        obtain ⟨x0, x1, x2, x3, x4, x5, x6, x7, _⟩ := id hga
        have hbl := hga.lt
        have H1 := Lib.hid (HF u.t wr _ n0 (Gl.inn_iff.1 hga.hi).2.1 (by omega) (by omega))
        clear hga hu hmem hsn
        go_upto_region 7 with (go_at_call 14; (with_reducible refine (H1.out.mono ?_)); rintro e w1 ⟨⟨n1, rfl, hq1, hq2, hq3⟩, hb⟩; have B1 := Lib.hid hb; have Q1 := Lib.hid hq3; have G1 := Lib.hid (HG.out.next hb); clear hb hq3)
        clear x0 x1 x2 x3 x4 x5 x6 x7
        obtain ⟨x0, x1, x2, x3, x4, x5, x6, x7, _⟩ := id G1.out
        have H2 := Lib.hid (HU.out.1 w1 _ n1 d1 (Gl.inn_iff.1 G1.out.hi).2.2.1 (by omega) (by omega) hb1 hb2)
        have hbl1 := G1.out.lt
        go_upto_region 8 with (go_at_call 15; (with_reducible refine (H2.out.mono ?_)); rintro e w2 ⟨⟨n2, rfl, hr1, hr2, hr3⟩, hb⟩; have B2 := Lib.hid hb; have Q2 := Lib.hid hr3; have G2 := Lib.hid (G1.out.next hb); clear hb hr3)
        clear x0 x1 x2 x3 x4 x5 x6 x7
        obtain ⟨x0, x1, x2, x3, x4, x5, x6, x7, _⟩ := id G2.out
        have H3 := Lib.hid (HU.out.2.1 w2 _ n2 d1 (Gl.inn_iff.1 G2.out.hi).2.2.2.1 (by omega) (by omega) hb1 hb2)
        have hbl2 := G2.out.lt
        go_upto_region 9 with (go_at_call 15; (with_reducible refine (H3.out.mono ?_)); rintro e w3 ⟨⟨n3, rfl, hs1, hs2, hs3⟩, hb⟩; have B3 := Lib.hid hb; have Q3 := Lib.hid hs3; have G3 := Lib.hid (G2.out.next hb); clear hb hs3)
        clear x0 x1 x2 x3 x4 x5 x6 x7
        obtain ⟨x0, x1, x2, x3, x4, x5, x6, x7, _⟩ := id G3.out
        have H4 := Lib.hid (HU.out.2.2 w3 _ n3 d1 (Gl.inn_iff.1 G3.out.hi).2.2.2.2 (by omega) (by omega) hb1 hb2)
        have hbl3 := G3.out.lt
        go_wp2_with (go_at_call 15; (with_reducible refine (H4.out.mono ?_)); rintro e w4 ⟨⟨n4, rfl, ht1, ht2, ht3⟩, hb⟩; have B4 := Lib.hid hb; have Q4 := Lib.hid ht3; clear hb ht3)
        have HBF := Lib.hid (((((HBW.out.trans (B1.out.mono HBW.out.size))).trans (B2.out.mono (HBW.out.trans (B1.out.mono HBW.out.size)).size)).trans (B3.out.mono ((HBW.out.trans (B1.out.mono HBW.out.size)).trans (B2.out.mono (HBW.out.trans (B1.out.mono HBW.out.size)).size)).size)).trans (B4.out.mono (((HBW.out.trans (B1.out.mono HBW.out.size)).trans (B2.out.mono (HBW.out.trans (B1.out.mono HBW.out.size)).size)).trans (B3.out.mono ((HBW.out.trans (B1.out.mono HBW.out.size)).trans (B2.out.mono (HBW.out.trans (B1.out.mono HBW.out.size)).size)).size)).size))
        have HSF := Lib.hid (show 0 ≤ n4 → (Gl.sizes (l.take (k + 1)) : Int) + 2 * n4 ≤ 2 * most by
          intro h4
          have q0 := HS.out k1
          have q1 := Q1.out (by omega)
          have q2 := Q2.out (by omega)
          have q3 := Q3.out (by omega)
          have q4 := Q4.out h4
          have q5 := HSN.out
          have q6 : 1 ≤ u.t.size := by cases u.t; simp [Tm.size]
          omega)
        go_roundw
        case rel => exact ⟨k + 1, n4, by omega, rfl, by go_num, ht1, by omega, HSF, HBF⟩
        case measure => simp [intOf]; omega
    · obtain rfl : m = k := by omega
      go_wp2_with fail
      go_ret
      exact ⟨⟨n0, rfl, hn0, hn1, fun h => by have h1 := HS.out h; rw [← HM.out, List.take_length] at h1; exact h1⟩, HBW.out⟩
theorem gfw_in (HF : FwSays) : ∀ g : Gl, GFw g.a ∧ GFw g.b ∧ GFw g.c := Gl.ind fun _ _ a b c ha hb hc =>
  ⟨gfw_of HF a ha, gfw_of HF b hb, gfw_of HF c hc⟩
theorem gfw_any (HF : FwSays) (l : List Gl) : GFw l := gfw_of HF l (fun g _ => gfw_in HF g)
theorem fw_says : FwSays := fun t w sv most hin h0 h1 => (few_any t w _ sv most 200 (Nat.le_refl _) hin h0 h1 (by omega) (by omega)).mono fun e w' ⟨he, hb⟩ => by
  have h2 := Tm.few_rng t most 200 h0
  exact ⟨⟨_, he, h2.1, by omega, fun h3 => by have h4 := Tm.few_says t most 200 h3; omega⟩, hb⟩
set_option maxRecDepth 100000 in
set_option maxHeartbeats 8000000 in
/-- What Some lets through is small. -/
theorem gsome_any (p : List Pc) (w : World) (u : Value) (hp : Pc.sliceIn w w.heap.size p u) :
    Calls Tryz.prog 6 #[.agg #[u]] w fun e w' => (∃ b : Bool, e = .returned (.bool b) ∧ (b = true → Pc.wts p ≤ 6000 ∧ p.length ≤ 210)) ∧ Below w.heap.size w w' := by
  obtain ⟨p0, pcap, rfl, -, hpm, -⟩ := id hp
  have hpm2 : p.length ≤ 1599289640354 := hpm
  obtain ⟨m, hm⟩ : ∃ m, p.length = m := ⟨_, rfl⟩
  rw [hm] at hp hpm2 ⊢
  have HM := Lib.hid hm
  have HK := Lib.hid (DPg.new hp)
  clear hm hpm hp
  go_enter Tryz.func6, Tryz.ntmps6
  go_upto_region 1 with fail
  have HK0 := Lib.hid (show DPg w p (.slice p0 m pcap) w.heap.size (w.alloc (.cells #[.slice p0 m pcap] 24)) from HK.out)
  generalize w.alloc (.cells #[.slice p0 m pcap] 24) = u0 at HK0 ⊢
  clear HK
  go_wp2_with fail
  go_loopw [3, 4] (fun n i wr => ∃ (k : Nat) (q : Int), k ≤ m ∧ n = .int .i64 q ∧ i = .int .i64 k ∧ -1 ≤ q ∧ q ≤ 3000 ∧ Hid (0 ≤ q → (Pc.wts (p.take k) : Int) + 2 * q ≤ 6000) ∧ Hid (DPg w p (.slice p0 m pcap) w.heap.size wr)) (fun _ i _ => m - (intOf i).toNat)
  case atStart => exact ⟨0, 3000, Nat.zero_le _, rfl, rfl, by omega, by omega, Lib.hid (fun _ => by simp [Pc.wts]), Lib.hid HK0.out⟩
  case round =>
    obtain ⟨k, q, hk, rfl, rfl, hq0, hq1, hs, hd⟩ := hrel
    have HS := Lib.hid hs.out
    have HD := Lib.hid hd.out
    have y0 : wr.cell? ⟨w.heap.size, 0, none⟩ = some (.slice p0 m pcap) := HD.out.cell0
    have yl := HD.out.lt
    clear hs hd
    by_cases hlt : k < m
    · by_cases hneg : q < 0
      · have k1 : (0 ≤ q) = False := by simp only [eq_iff_iff, iff_false]; omega
        have j1 : (k : Int) < (m : Int) := by omega
        go_wp2_with fail
        go_ret
        exact ⟨⟨false, rfl, fun h => by cases h⟩, HD.out.low⟩
      · have k1 : 0 ≤ q := by omega
        have hlt' : k < p.length := by rw [HM.out]; exact hlt
        obtain ⟨b', o', cap', sv', v', e9, hga⟩ := PA6.of HD.out.hp k hlt'
        injection e9 with e91 e90 e92
        subst e91 e92
        clear e90
        obtain ⟨c, hc⟩ : ∃ c, p[k] = c := ⟨_, rfl⟩
        have hsn := Pc.wts_snoc p k hlt'
        rw [hc] at hga hsn
        have HSN := Lib.hid hsn
        have HG := Lib.hid hga
        have j0 : (0 : Int) ≤ (k : Int) := by omega
        have j1 : (k : Int) < (m : Int) := by omega
        have jz : (0 : Int) + (k : Int) = (k : Int) := by omega
        have jw : IntKind.i64.wrap (k : Int) = (k : Int) := by rw [IntKind.wrap_i64]; omega
        obtain ⟨gt, mt, ct, rfl⟩ : ∃ g m c, sv' = .slice g m c := by
          obtain ⟨_, g, c, e, _⟩ := Tm.inn_iff.1 hga.hi.2.1
          exact ⟨_, _, _, e⟩
        obtain ⟨x0, x1, x2, x3, x4, x5, _⟩ := id hga
        have hbl := hga.lt
        have H1 := Lib.hid (fw_says c.h wr _ q hga.hi.2.1 (by omega) (by omega))
        clear hga hc hsn
        go_upto_region 6 with (go_at_call 14; (with_reducible refine (H1.out.mono ?_)); rintro e w1 ⟨⟨n1, rfl, hq1, hq2, hq3⟩, hb⟩; have B1 := Lib.hid hb; have Q1 := Lib.hid hq3; have G1 := Lib.hid (HG.out.next hb); have D1 := Lib.hid (HD.out.next hb); clear hb hq3)
        clear x0 x1 x2 x3 x4 x5 y0
        obtain ⟨x0, x1, x2, x3, x4, x5, _⟩ := id G1.out
        have y1 : w1.cell? ⟨w.heap.size, 0, none⟩ = some (.slice (some ⟨b', o', none⟩) m pcap) := D1.out.cell0
        have H2 := Lib.hid (gfw_any fw_says c.b w1 _ n1 30 G1.out.hi.2.2 (by omega) (by omega) (by omega) (by omega))
        have hbl1 := G1.out.lt
        have yl1 := D1.out.lt
        go_wp2_with (go_at_call 15; (with_reducible refine (H2.out.mono ?_)); rintro e w2 ⟨⟨n2, rfl, hr1, hr2, hr3⟩, hb⟩; have Q2 := Lib.hid hr3; have D2 := Lib.hid (D1.out.next hb); clear hb hr3)
        have HSF := Lib.hid (show 0 ≤ n2 → (Pc.wts (p.take (k + 1)) : Int) + 2 * n2 ≤ 6000 by
          intro h2
          have q0 := HS.out k1
          have q2 := Q2.out h2
          have q1 := Q1.out (by omega)
          have q5 := HSN.out
          unfold Pc.wt at q5
          omega)
        go_roundw
        case rel => exact ⟨k + 1, n2, by omega, rfl, by go_num, hr1, by omega, HSF, Lib.hid D2.out⟩
        case measure => simp [intOf]; omega
    · obtain rfl : m = k := by omega
      have jn : ((m : Int) < (m : Int)) = False := by simp only [eq_iff_iff, iff_false]; omega
      by_cases hq : 0 ≤ q
      · by_cases hm2 : m ≤ 210
        · have k3 : (m : Int) ≤ 210 := by omega
          go_wp2_with fail
          go_ret
          exact ⟨⟨true, rfl, fun _ => by
            have h1 := HS.out hq
            rw [← HM.out, List.take_length] at h1
            exact ⟨by omega, hm2⟩⟩, HD.out.low⟩
        · have k3 : ((m : Int) ≤ 210) = False := by simp only [eq_iff_iff, iff_false]; omega
          go_wp2_with fail
          go_ret
          exact ⟨⟨false, rfl, fun h => by cases h⟩, HD.out.low⟩
      · have k1 : (0 ≤ q) = False := by simp only [eq_iff_iff, iff_false]; exact hq
        have hneg : q < 0 := by omega
        clear hq
        go_wp2_with fail
        go_ret
        exact ⟨⟨false, rfl, fun h => by cases h⟩, HD.out.low⟩
end Go.Proofs.YtkjnjahmlobjiaaGreatDoor

namespace Go.Proofs.YtkjnjahmlobjiaaGreatDoor
open Go.RowKit

theorem fits_of {p : List Pc} (h : Pc.wts p ≤ 6000) : ∀ c ∈ p, c.h.size ≤ 999999 ∧ Gl.sizes c.b ≤ 999999 := fun c hc => by
  have h1 := Pc.wt_le hc
  unfold Pc.wt at h1
  omega
structure LP (w0 : World) (p : List Pc) (u : Value) (bx : Nat) (W : World) : Prop where
  dp : DPg w0 p u bx W
  tb : Tabs W
  rg : Rng W
section
variable {w0 : World} {p : List Pc} {u : Value} {bx : Nat} {W : World} (h : LP w0 p u bx W)
include h
theorem LP.next {W' : World} (hb : Below W.heap.size W W') : LP w0 p u bx W' := ⟨h.dp.next hb, h.tb.next hb, h.rg.next hb⟩
end
theorem LP.new {p : List Pc} {u : Value} {w : World} (hp : Pc.sliceIn w w.heap.size p u) (ht : Tabs w) (hr : Rng w) : LP w p u w.heap.size (w.alloc (.cells #[u] 24)) :=
  ⟨DPg.new hp, ht.next ((Below.refl _ w).alloc (Nat.le_refl _) _), hr.next ((Below.refl _ w).alloc (Nat.le_refl _) _)⟩
theorem findNo_all {α : Type} {f : α → Bool} : ∀ {l : List α} {i : Nat}, findNo f l i = none → ∀ c ∈ l, f c = true
  | [], _, _, c, hc => by cases hc
  | x :: r, i, h, c, hc => by
    rw [findNo] at h
    split at h
    · rename_i h0
      rcases List.mem_cons.1 hc with rfl | hc
      · exact h0
      · exact findNo_all h c hc
    · cases h
/-- Without its last clause a program has no other fault than a name that is no more. -/
theorem check_less {p : List Pc} {k : Nat} (h : (checkB p).2 = 0) : checkB (p.take k) = (0, 0) ∨ ((checkB (p.take k)).2 = 9 ∧ (checkB (p.take k)).1 < (p.take k).length) := by
  unfold checkB at h
  split at h
  · cases h
  · rename_i hl
    split at h
    · cases h
    · rename_i hn
      have hc : ∀ c ∈ p, clauseB c = true := by
        intro c hc
        exact findNo_all hn c hc
      have hl2 : (p.take k).length ≤ p.length := by rw [List.length_take]; omega
      have hn2 : findNo clauseB (p.take k) 0 = none := findNo_none 0 fun j hj => hc _ (List.mem_of_mem_take (List.getElem_mem hj))
      unfold checkB
      rw [if_neg (by omega), hn2]
      simp only []
      cases hf : findNo (fun c => thL (p.take k) c.b) (p.take k) 0 with
      | none => exact .inl rfl
      | some i =>
        have h8 := findNo_some hf
        exact .inr ⟨rfl, by show i < _; omega⟩
end Go.Proofs.YtkjnjahmlobjiaaGreatDoor
