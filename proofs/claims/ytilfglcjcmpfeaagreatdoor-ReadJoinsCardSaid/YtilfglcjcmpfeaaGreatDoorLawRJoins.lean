/-
  ReadJoins' body.
-/
import Derived.Test.YtilfglcjcmpfeaaGreatDoorChR
import Derived.Test.YtilfglcjcmpfeaaGreatDoorJn
namespace Go.Proofs.YtilfglcjcmpfeaaGreatDoor
open Go.RowKit

theorem clsP_any (s : ByteArray) (w : World) (hr : Rng w) (hs : s.size ≤ 1000000) : Calls Tryz.prog 8 #[.string s] w fun e w' => (∃ g n cap b c, e = .returned (.tuple #[.slice g (n : Nat) cap, .int .i64 (b : Nat), .int .i64 (c : Nat)])) ∧ Below w.heap.size w w' :=
  (clauses_all s w hr hs).mono fun e w' hp => by
    obtain ⟨hb, l, sv, b, c, rfl, hl, _, _⟩ := hp
    obtain ⟨g, cap, rfl, _⟩ := hl
    exact ⟨⟨g, _, cap, b, c, rfl⟩, hb⟩
theorem join_sz (a b : ByteArray) (h1 : a.size ≤ 3000) (h2 : b.size ≤ 3000) : (a ++ ⟨#[10]⟩ ++ b).size ≤ 1000000 := Nat.le_trans (join_size a b h1 h2) (by omega)
set_option maxRecDepth 100000 in
set_option maxHeartbeats 8000000 in
theorem rjo_big (a b : ByteArray) (w : World) (hr : Rng w) (hz : 3000 < a.size ∨ 3000 < b.size) :
    Calls Tryz.prog 6 #[.string a, .string b] w fun e w' => e = .returned (.bool true) ∧ Below w.heap.size w w' := by
  have HK := Lib.hid (fun u h => rknows_any u h)
  have HB := Lib.hid (Below.refl w.heap.size w)
  have HR := Lib.hid hr
  clear hr
  by_cases h1 : 3000 < a.size
  · clear hz
    go_enter Tryz.func6, Tryz.ntmps6
    go_wp2_with (go_at_call 7; (with_reducible refine (HK.out _ HR.out).mono ?_); rintro e w4 ⟨rfl, hb4⟩; have HB := Lib.hid (HB.out.trans (hb4.mono HB.out.size)); have HR := Lib.hid (HR.out.next hb4); clear hb4)
    go_ret
    exact ⟨rfl, HB.out⟩
  · have h2 : 3000 < b.size := by omega
    have h3 : a.size ≤ 3000 := by omega
    clear hz h1
    go_enter Tryz.func6, Tryz.ntmps6
    go_wp2_with (go_at_call 7; (with_reducible refine (HK.out _ HR.out).mono ?_); rintro e w4 ⟨rfl, hb4⟩; have HB := Lib.hid (HB.out.trans (hb4.mono HB.out.size)); have HR := Lib.hid (HR.out.next hb4); clear hb4)
    go_ret
    exact ⟨rfl, HB.out⟩
set_option maxRecDepth 100000 in
set_option maxHeartbeats 8000000 in
theorem rjo_no1 (a b : ByteArray) (w : World) (hr : Rng w) (h1 : a.size ≤ 3000) (h2 : b.size ≤ 3000) {k pl : Nat} (ha : readE (bs a) = .error (k, pl)) :
    Calls Tryz.prog 6 #[.string a, .string b] w fun e w' => e = .returned (.bool true) ∧ Below w.heap.size w w' := by
  have H1 := Lib.hid (fun u h => clsP_no (w := u) h (by omega) ha)
  have H2 := Lib.hid (fun u h => clsP_any b u h (by omega))
  have H3 := Lib.hid (fun u h => clsP_any (a ++ ⟨#[10]⟩ ++ b) u h (join_sz a b h1 h2))
  have HK := Lib.hid (fun u h => rknows_any u h)
  have HB := Lib.hid (Below.refl w.heap.size w)
  have HR := Lib.hid hr
  clear hr
  clear ha
  go_enter Tryz.func6, Tryz.ntmps6
  go_upto_region 4 with (go_at_call 8; (with_reducible refine (H1.out _ HR.out).mono ?_); rintro e w1 ⟨⟨g1, c1, rfl, hk⟩, hb⟩; have HB := Lib.hid (HB.out.trans (hb.mono HB.out.size)); have HR := Lib.hid (HR.out.next hb); clear hb)
  have kd2 : ((k : Int) != 0) = true := by rw [bne_iff_ne]; omega
  have kd3 : ((k : Int) == 0) = false := by rw [beq_eq_false_iff_ne]; omega
  clear hk
  go_wp2_with (first
    | (go_at_call 8; (with_reducible refine (H2.out _ HR.out).mono ?_); rintro e w2 ⟨⟨g2, n2, c2, p2, q2, rfl⟩, hb⟩; have HB := Lib.hid (HB.out.trans (hb.mono HB.out.size)); have HR := Lib.hid (HR.out.next hb); clear hb)
    | (go_at_call 8; refine (H3.out _ HR.out).mono ?_; rintro e w3 ⟨⟨g3, n3, c3, p3, q3, rfl⟩, hb⟩; have HB := Lib.hid (HB.out.trans (hb.mono HB.out.size)); have HR := Lib.hid (HR.out.next hb); clear hb)
    | (go_at_call 7; (with_reducible refine (HK.out _ HR.out).mono ?_); rintro e w4 ⟨rfl, hb4⟩; have HB := Lib.hid (HB.out.trans (hb4.mono HB.out.size)); have HR := Lib.hid (HR.out.next hb4); clear hb4))
  go_ret
  exact ⟨rfl, HB.out⟩
set_option maxRecDepth 100000 in
set_option maxHeartbeats 8000000 in
theorem rjo_no2 (a b : ByteArray) (w : World) (hr : Rng w) (h1 : a.size ≤ 3000) (h2 : b.size ≤ 3000) {la : List Cl} (ha : readE (bs a) = .ok la) {k pl : Nat} (hb : readE (bs b) = .error (k, pl)) :
    Calls Tryz.prog 6 #[.string a, .string b] w fun e w' => e = .returned (.bool true) ∧ Below w.heap.size w w' := by
  have H1 := Lib.hid (fun u h => clsP_ok (w := u) h (by omega) ha)
  have H2 := Lib.hid (fun u h => clsP_no (w := u) h (by omega) hb)
  have hj := read_join a b h1 h2 ha
  rw [hb] at hj
  obtain ⟨i0, hi0⟩ : ∃ i0, pl + (a.size + 1) = i0 := ⟨_, rfl⟩
  have hpl : pl ≤ 3000 := by have := read_bad hb; rw [bs_length] at this; dsimp only at this; omega
  have hi1 : ((i0 : Int) == (pl : Int) + (a.size : Int) + 1) = true := by rw [beq_iff_eq]; omega
  have H3 := Lib.hid (fun u h (hk : k = 2 ∨ k = 3) => clsP_no (s := a ++ ⟨#[10]⟩ ++ b) (w := u) h (join_sz a b h1 h2) (k := k) (pl := i0) (by rw [hj, ← hi0]; show Except.error (shE _ _) = _; unfold shE; rw [if_neg (by dsimp only; omega)]))
  have HK := Lib.hid (fun u h => rknows_any u h)
  have HB := Lib.hid (Below.refl w.heap.size w)
  have HR := Lib.hid hr
  clear hr
  clear ha hb hj hi0
  go_enter Tryz.func6, Tryz.ntmps6
  go_upto_region 5 with (first
    | (go_at_call 8; (with_reducible refine (H1.out _ HR.out).mono ?_); rintro e w1 ⟨⟨g1, c1, rfl, -⟩, hb⟩; have HB := Lib.hid (HB.out.trans (hb.mono HB.out.size)); have HR := Lib.hid (HR.out.next hb); clear hb)
    | (go_at_call 8; (with_reducible refine (H2.out _ HR.out).mono ?_); rintro e w2 ⟨⟨g2, c2, rfl, hk⟩, hb⟩; have HB := Lib.hid (HB.out.trans (hb.mono HB.out.size)); have HR := Lib.hid (HR.out.next hb); clear hb))
  have HKK := Lib.hid hk
  have kd2 : ((k : Int) != 0) = true := by rw [bne_iff_ne]; omega
  have kd3 : ((k : Int) == 0) = false := by rw [beq_eq_false_iff_ne]; omega
  clear hk
  go_wp2_with (first
    | (go_at_call 8; refine (H3.out _ HR.out HKK.out).mono ?_; rintro e w3 ⟨⟨g3, c3, rfl, -⟩, hb⟩; have HB := Lib.hid (HB.out.trans (hb.mono HB.out.size)); have HR := Lib.hid (HR.out.next hb); clear hb)
    | (go_at_call 7; (with_reducible refine (HK.out _ HR.out).mono ?_); rintro e w4 ⟨rfl, hb4⟩; have HB := Lib.hid (HB.out.trans (hb4.mono HB.out.size)); have HR := Lib.hid (HR.out.next hb4); clear hb4))
  go_ret
  exact ⟨rfl, HB.out⟩
set_option maxRecDepth 100000 in
set_option maxHeartbeats 8000000 in
theorem rjo_yes (a b : ByteArray) (w : World) (hr : Rng w) (h1 : a.size ≤ 3000) (h2 : b.size ≤ 3000) {la lb : List Cl} (ha : readE (bs a) = .ok la) (hb : readE (bs b) = .ok lb) :
    Calls Tryz.prog 6 #[.string a, .string b] w fun e w' => e = .returned (.bool true) ∧ Below w.heap.size w w' := by
  have H1 := Lib.hid (fun u h => clsP_ok (w := u) h (by omega) ha)
  have H2 := Lib.hid (fun u h => clsP_ok (w := u) h (by omega) hb)
  have hj := read_join a b h1 h2 ha
  rw [hb] at hj
  obtain ⟨lc, hlc⟩ : ∃ lc, la ++ lb = lc := ⟨_, rfl⟩
  have hj : readE (bs (a ++ ⟨#[10]⟩ ++ b)) = .ok lc := by rw [hj, ← hlc]; rfl
  have H3 := Lib.hid (fun u h => clsP_ok (s := a ++ ⟨#[10]⟩ ++ b) (w := u) h (join_sz a b h1 h2) hj)
  have HK := Lib.hid (fun u h => rknows_any u h)
  have HB := Lib.hid (Below.refl w.heap.size w)
  have HR := Lib.hid hr
  clear hr
  have hll : lc.length = la.length + lb.length := by rw [← hlc]; simp
  have hla := (read_len ha).1
  have hlb := (read_len hb).1
  have hlcn := (read_len hj).2
  have hlc8 := (read_len hj).1
  have HLN := Lib.hid hlcn
  have HLC := Lib.hid hlc
  have HLL := Lib.hid hll
  have hpl : ((lc.length : Int) != (la.length : Int) + (lb.length : Int)) = false := by rw [bne_eq_false_iff_eq]; omega
  clear ha hb hj hlc hlcn hll
  go_enter Tryz.func6, Tryz.ntmps6
  go_wp2_with (first
    | (go_at_call 8; (with_reducible refine (H1.out _ HR.out).mono ?_); rintro e w1 ⟨⟨g1, c1, rfl, hl⟩, hb⟩; have HT1 := Lib.hid hl; clear hl; have HB := Lib.hid (HB.out.trans (hb.mono HB.out.size)); have HR := Lib.hid (HR.out.next hb); clear hb)
    | (go_at_call 8; (with_reducible refine (H2.out _ HR.out).mono ?_); rintro e w2 ⟨⟨g2, c2, rfl, hl⟩, hb⟩; have HT2 := Lib.hid hl; have HT1 := Lib.hid (clsIn_below HT1.out hb.size hb); clear hl; have HB := Lib.hid (HB.out.trans (hb.mono HB.out.size)); have HR := Lib.hid (HR.out.next hb); clear hb)
    | (go_at_call 8; refine (H3.out _ HR.out).mono ?_; rintro e w3 ⟨⟨g3, c3, rfl, hl⟩, hb⟩; have HT3 := Lib.hid hl; have HT1 := Lib.hid (clsIn_below HT1.out hb.size hb); have HT2 := Lib.hid (clsIn_below HT2.out hb.size hb); clear hl; have HB := Lib.hid (HB.out.trans (hb.mono HB.out.size)); have HR := Lib.hid (HR.out.next hb); clear hb))
  have HBW := HB
  go_loopw [14] (fun i wr => ∃ q : Nat, q ≤ lc.length ∧ i = .int .i64 q ∧ Below w3.heap.size w3 wr) (fun i _ => lc.length - (intOf i).toNat)
  case atStart => exact ⟨0, Nat.zero_le _, rfl, Below.refl _ _⟩
  case round =>
    obtain ⟨q, hq, rfl, hb⟩ := hrel
    obtain ⟨wx, rfl⟩ : ∃ wx, wx = wr := ⟨_, rfl⟩
    have HB := Lib.hid hb
    clear hb
    by_cases hlt : q < lc.length
    · obtain ⟨b3, o3, cap3, g3, m3, c3, gn3, cn3, e3, hb3, -, y0, y1, y2, y3, y4, y5, y6⟩ := clsIn_at (clsIn_below HT3.out HB.out.size HB.out) q hlt
      injection e3 with e3 _ e6
      subst e3 e6
      have hns := (HLN.out _ (List.getElem_mem hlt)).2
      obtain ⟨⟨t, ns⟩, htn⟩ : ∃ c, lc[q] = c := ⟨_, rfl⟩
      rw [htn] at y0 y1 y2 y4 y5 y6 hns
      dsimp only at y0 y1 y2 y4 y5 y6 hns
      have j0 : (0 : Int) ≤ (q : Int) := by omega
      have j2 : (q : Int) < (lc.length : Int) := by omega
      have jz : (0 : Int) + (q : Int) = (q : Int) := by omega
      have jw : IntKind.i64.wrap (q : Int) = (q : Int) := by rw [IntKind.wrap_i64]; omega
      by_cases hla' : q < la.length
      · obtain ⟨b1, o1, cap1, g1, m1, c1, gn1, cn1, e1, hb1, -, x0, x1, x2, x3, x4, x5, x6⟩ := clsIn_at (clsIn_below HT1.out HB.out.size HB.out) q hla'
        injection e1 with e1 _ e4
        subst e1 e4
        have hg : la[q] = (t, ns) := by
          rw [← htn]
          have h := HLC.out
          subst h
          exact (List.getElem_append_left hla').symm
        rw [hg] at x0 x1 x2 x4 x5 x6
        dsimp only at x0 x1 x2 x4 x5 x6
        have hch : CH w3 t ns b3 (o3 + q * 5) b1 (o1 + q * 5) (.slice g3 m3 c3) (.slice gn3 ns.length cn3) (.slice g1 m1 c1) (.slice gn1 ns.length cn1) wx := ⟨⟨y0, y1, y2, y3, y4⟩, ⟨x0, x1, x2, x3, x4⟩, hb3, hb1, y5, x5, y6, x6, HB.out, HR.out.next HB.out⟩
        clear x0 x1 x2 x3 x4 x5 x6 y0 y1 y2 y3 y4 y5 y6 htn hg hb1 hb3
        have j1 : (q : Int) < (la.length : Int) := by omega
        have j8 : ((la.length : Int) ≤ (q : Int)) = False := by simp only [eq_iff_iff, iff_false]; omega
        have hch' := hch.next (Below.refl wx.heap.size wx).drew
        obtain ⟨x0, x1, x2, x3, x4⟩ := hch.c1
        obtain ⟨y0, y1, y2, y3, y4⟩ := hch.c2
        have hl1 := hch.l1
        have hl2 := hch.l2
        have HSC := Lib.hid (fun W1 (h : CH w3 t ns b3 (o3 + q * 5) b1 (o1 + q * 5) (.slice g3 m3 c3) (.slice gn3 ns.length cn3) (.slice g1 m1 c1) (.slice gn1 ns.length cn1) W1) => (⟨h.c1.1, h.c1.2.1, h.c1.2.2.1, h.c1.2.2.2.1, h.c1.2.2.2.2, h.c2.1, h.c2.2.1, h.c2.2.2.1, h.c2.2.2.2.1, h.c2.2.2.2.2, h⟩ : W1.cell? ⟨b3, o3 + q * 5, none⟩ = some (.int .i64 t.kind) ∧ W1.cell? ⟨b3, o3 + q * 5 + 1, none⟩ = some (.string t.name) ∧ W1.cell? ⟨b3, o3 + q * 5 + 2, none⟩ = some (.int .i64 t.n) ∧ W1.cell? ⟨b3, o3 + q * 5 + 3, none⟩ = some (.slice g3 m3 c3) ∧ W1.cell? ⟨b3, o3 + q * 5 + 4, none⟩ = some (.slice gn3 ns.length cn3) ∧ W1.cell? ⟨b1, o1 + q * 5, none⟩ = some (.int .i64 t.kind) ∧ W1.cell? ⟨b1, o1 + q * 5 + 1, none⟩ = some (.string t.name) ∧ W1.cell? ⟨b1, o1 + q * 5 + 2, none⟩ = some (.int .i64 t.n) ∧ W1.cell? ⟨b1, o1 + q * 5 + 3, none⟩ = some (.slice g1 m1 c1) ∧ W1.cell? ⟨b1, o1 + q * 5 + 4, none⟩ = some (.slice gn1 ns.length cn1) ∧ CH w3 t ns b3 (o3 + q * 5) b1 (o1 + q * 5) (.slice g3 m3 c3) (.slice gn3 ns.length cn3) (.slice g1 m1 c1) (.slice gn1 ns.length cn1) W1))
        have hs : wx.drew.cell? ⟨b3, o3 + q * 5, none⟩ = some (.int .i64 t.kind) ∧ wx.drew.cell? ⟨b3, o3 + q * 5 + 1, none⟩ = some (.string t.name) ∧ wx.drew.cell? ⟨b3, o3 + q * 5 + 2, none⟩ = some (.int .i64 t.n) ∧ wx.drew.cell? ⟨b3, o3 + q * 5 + 3, none⟩ = some (.slice g3 m3 c3) ∧ wx.drew.cell? ⟨b3, o3 + q * 5 + 4, none⟩ = some (.slice gn3 ns.length cn3) ∧ wx.drew.cell? ⟨b1, o1 + q * 5, none⟩ = some (.int .i64 t.kind) ∧ wx.drew.cell? ⟨b1, o1 + q * 5 + 1, none⟩ = some (.string t.name) ∧ wx.drew.cell? ⟨b1, o1 + q * 5 + 2, none⟩ = some (.int .i64 t.n) ∧ wx.drew.cell? ⟨b1, o1 + q * 5 + 3, none⟩ = some (.slice g1 m1 c1) ∧ wx.drew.cell? ⟨b1, o1 + q * 5 + 4, none⟩ = some (.slice gn1 ns.length cn1) ∧ CH w3 t ns b3 (o3 + q * 5) b1 (o1 + q * 5) (.slice g3 m3 c3) (.slice gn3 ns.length cn3) (.slice g1 m1 c1) (.slice gn1 ns.length cn1) wx.drew := HSC.out _ hch'
        have HST := Lib.hid (fun W1 W2 (h : W1.cell? ⟨b3, o3 + q * 5, none⟩ = some (.int .i64 t.kind) ∧ W1.cell? ⟨b3, o3 + q * 5 + 1, none⟩ = some (.string t.name) ∧ W1.cell? ⟨b3, o3 + q * 5 + 2, none⟩ = some (.int .i64 t.n) ∧ W1.cell? ⟨b3, o3 + q * 5 + 3, none⟩ = some (.slice g3 m3 c3) ∧ W1.cell? ⟨b3, o3 + q * 5 + 4, none⟩ = some (.slice gn3 ns.length cn3) ∧ W1.cell? ⟨b1, o1 + q * 5, none⟩ = some (.int .i64 t.kind) ∧ W1.cell? ⟨b1, o1 + q * 5 + 1, none⟩ = some (.string t.name) ∧ W1.cell? ⟨b1, o1 + q * 5 + 2, none⟩ = some (.int .i64 t.n) ∧ W1.cell? ⟨b1, o1 + q * 5 + 3, none⟩ = some (.slice g1 m1 c1) ∧ W1.cell? ⟨b1, o1 + q * 5 + 4, none⟩ = some (.slice gn1 ns.length cn1) ∧ CH w3 t ns b3 (o3 + q * 5) b1 (o1 + q * 5) (.slice g3 m3 c3) (.slice gn3 ns.length cn3) (.slice g1 m1 c1) (.slice gn1 ns.length cn1) W1) (hb : Below W1.heap.size W1 W2) => HSC.out W2 (h.2.2.2.2.2.2.2.2.2.2.next hb))
        have HSM := Lib.hid (fun W1 (h : W1.cell? ⟨b3, o3 + q * 5, none⟩ = some (.int .i64 t.kind) ∧ W1.cell? ⟨b3, o3 + q * 5 + 1, none⟩ = some (.string t.name) ∧ W1.cell? ⟨b3, o3 + q * 5 + 2, none⟩ = some (.int .i64 t.n) ∧ W1.cell? ⟨b3, o3 + q * 5 + 3, none⟩ = some (.slice g3 m3 c3) ∧ W1.cell? ⟨b3, o3 + q * 5 + 4, none⟩ = some (.slice gn3 ns.length cn3) ∧ W1.cell? ⟨b1, o1 + q * 5, none⟩ = some (.int .i64 t.kind) ∧ W1.cell? ⟨b1, o1 + q * 5 + 1, none⟩ = some (.string t.name) ∧ W1.cell? ⟨b1, o1 + q * 5 + 2, none⟩ = some (.int .i64 t.n) ∧ W1.cell? ⟨b1, o1 + q * 5 + 3, none⟩ = some (.slice g1 m1 c1) ∧ W1.cell? ⟨b1, o1 + q * 5 + 4, none⟩ = some (.slice gn1 ns.length cn1) ∧ CH w3 t ns b3 (o3 + q * 5) b1 (o1 + q * 5) (.slice g3 m3 c3) (.slice gn3 ns.length cn3) (.slice g1 m1 c1) (.slice gn1 ns.length cn1) W1) => h.2.2.2.2.2.2.2.2.2.2.same)
        clear hch hch'
        go_wp2_with fail
        refine wp_region_held_drew (S := fun W1 => W1.cell? ⟨b3, o3 + q * 5, none⟩ = some (.int .i64 t.kind) ∧ W1.cell? ⟨b3, o3 + q * 5 + 1, none⟩ = some (.string t.name) ∧ W1.cell? ⟨b3, o3 + q * 5 + 2, none⟩ = some (.int .i64 t.n) ∧ W1.cell? ⟨b3, o3 + q * 5 + 3, none⟩ = some (.slice g3 m3 c3) ∧ W1.cell? ⟨b3, o3 + q * 5 + 4, none⟩ = some (.slice gn3 ns.length cn3) ∧ W1.cell? ⟨b1, o1 + q * 5, none⟩ = some (.int .i64 t.kind) ∧ W1.cell? ⟨b1, o1 + q * 5 + 1, none⟩ = some (.string t.name) ∧ W1.cell? ⟨b1, o1 + q * 5 + 2, none⟩ = some (.int .i64 t.n) ∧ W1.cell? ⟨b1, o1 + q * 5 + 3, none⟩ = some (.slice g1 m1 c1) ∧ W1.cell? ⟨b1, o1 + q * 5 + 4, none⟩ = some (.slice gn1 ns.length cn1) ∧ CH w3 t ns b3 (o3 + q * 5) b1 (o1 + q * 5) (.slice g3 m3 c3) (.slice gn3 ns.length cn3) (.slice g1 m1 c1) (.slice gn1 ns.length cn1) W1) (by kernel_rfl) hs (fun hHeld => ?_)
        clear hs x0 x1 x2 x3 x4 y0 y1 y2 y3 y4
        refine wpAnyH_take (i := 0) (oi := _) (v := ?_) rfl (by kernel_rfl) (by kernel_rfl) (by kernel_rfl) (fun _ _ _ h => h) (Or.inl ⟨by rfl, ?_⟩) hHeld ?_
        rotate_left
        · (intro w hSw; obtain ⟨x0, x1, x2, x3, x4, y0, y1, y2, y3, y4, hch9⟩ := hSw; clear hch9; go_simp; try with_reducible rfl)
        try simp only [Act.put, List.setIfInBounds_toArray, List.set_cons_zero, List.set_cons_succ, List.getElem_toArray, List.getElem_cons_zero]
        refine wpAnyH_take (i := 1) (oi := _) (v := ?_) rfl (by kernel_rfl) (by kernel_rfl) (by kernel_rfl) (fun _ _ _ h => h) (Or.inl ⟨by rfl, ?_⟩) hHeld ?_
        rotate_left
        · (intro w hSw; obtain ⟨x0, x1, x2, x3, x4, y0, y1, y2, y3, y4, hch9⟩ := hSw; clear hch9; go_simp; try with_reducible rfl)
        try simp only [Act.put, List.setIfInBounds_toArray, List.set_cons_zero, List.set_cons_succ, List.getElem_toArray, List.getElem_cons_zero, List.getElem_cons_succ]
        refine wpAnyH_take (i := 2) (oi := _) (v := ?_) rfl (by kernel_rfl) (by kernel_rfl) (by kernel_rfl) (fun _ _ _ h => h) (Or.inl ⟨by rfl, ?_⟩) hHeld ?_
        rotate_left
        · (intro w hSw; obtain ⟨x0, x1, x2, x3, x4, y0, y1, y2, y3, y4, hch9⟩ := hSw; clear hch9; go_simp; try with_reducible rfl)
        try simp only [Act.put, List.setIfInBounds_toArray, List.set_cons_zero, List.set_cons_succ, List.getElem_toArray, List.getElem_cons_zero, List.getElem_cons_succ]
        refine wpAnyH_take (i := 3) (oi := _) (v := ?_) rfl (by kernel_rfl) (by kernel_rfl) (by kernel_rfl) (fun _ _ _ h => h) (Or.inl ⟨by rfl, ?_⟩) hHeld ?_
        rotate_left
        · (intro w hSw; obtain ⟨x0, x1, x2, x3, x4, y0, y1, y2, y3, y4, hch9⟩ := hSw; clear hch9; go_simp; try with_reducible rfl)
        try simp only [Act.put, List.setIfInBounds_toArray, List.set_cons_zero, List.set_cons_succ, List.getElem_toArray, List.getElem_cons_zero, List.getElem_cons_succ]
        refine wpAnyH_take (i := 4) (oi := _) (v := ?_) rfl (by kernel_rfl) (by kernel_rfl) (by kernel_rfl) (fun _ _ _ h => h) (Or.inl ⟨by rfl, ?_⟩) hHeld ?_
        rotate_left
        · (intro w hSw; obtain ⟨x0, x1, x2, x3, x4, y0, y1, y2, y3, y4, hch9⟩ := hSw; clear hch9; go_simp; try with_reducible rfl)
        try simp only [Act.put, List.setIfInBounds_toArray, List.set_cons_zero, List.set_cons_succ, List.getElem_toArray, List.getElem_cons_zero, List.getElem_cons_succ]
        refine wpAnyH_take (i := 5) (oi := _) (v := ?_) rfl (by kernel_rfl) (by kernel_rfl) (by kernel_rfl) (fun _ _ _ h => h) (Or.inl ⟨by rfl, ?_⟩) hHeld ?_
        rotate_left
        · (intro w hSw; obtain ⟨x0, x1, x2, x3, x4, y0, y1, y2, y3, y4, hch9⟩ := hSw; clear hch9; go_simp; try with_reducible rfl)
        try simp only [Act.put, List.setIfInBounds_toArray, List.set_cons_zero, List.set_cons_succ, List.getElem_toArray, List.getElem_cons_zero, List.getElem_cons_succ]
        refine wpAnyH_take (i := 6) (oi := _) (v := ?_) rfl (by kernel_rfl) (by kernel_rfl) (by kernel_rfl) (fun _ _ _ h => h) (Or.inl ⟨by rfl, ?_⟩) hHeld ?_
        rotate_left
        · (intro w hSw; obtain ⟨x0, x1, x2, x3, x4, y0, y1, y2, y3, y4, hch9⟩ := hSw; clear hch9; go_simp; try with_reducible rfl)
        try simp only [Act.put, List.setIfInBounds_toArray, List.set_cons_zero, List.set_cons_succ, List.getElem_toArray, List.getElem_cons_zero, List.getElem_cons_succ]
        refine wpAnyH_take (i := 7) (oi := _) (v := ?_) rfl (by kernel_rfl) (by kernel_rfl) (by kernel_rfl) (fun _ _ _ h => h) (Or.inl ⟨by rfl, ?_⟩) hHeld ?_
        rotate_left
        · (intro w hSw; obtain ⟨x0, x1, x2, x3, x4, y0, y1, y2, y3, y4, hch9⟩ := hSw; clear hch9; go_simp; try with_reducible rfl)
        try simp only [Act.put, List.setIfInBounds_toArray, List.set_cons_zero, List.set_cons_succ, List.getElem_toArray, List.getElem_cons_zero, List.getElem_cons_succ]
        refine wpAnyH_take (i := 8) (oi := _) (v := ?_) rfl (by kernel_rfl) (by kernel_rfl) (by kernel_rfl) (fun _ _ _ h => h) (Or.inl ⟨by rfl, ?_⟩) hHeld ?_
        rotate_left
        · (intro w hSw; obtain ⟨x0, x1, x2, x3, x4, y0, y1, y2, y3, y4, hch9⟩ := hSw; clear hch9; go_simp; try with_reducible rfl)
        try simp only [Act.put, List.setIfInBounds_toArray, List.set_cons_zero, List.set_cons_succ, List.getElem_toArray, List.getElem_cons_zero, List.getElem_cons_succ]
        refine wpAnyH_take (i := 9) (oi := _) (v := ?_) rfl (by kernel_rfl) (by kernel_rfl) (by kernel_rfl) (fun _ _ _ h => h) (Or.inl ⟨by rfl, ?_⟩) hHeld ?_
        rotate_left
        · (intro w hSw; obtain ⟨x0, x1, x2, x3, x4, y0, y1, y2, y3, y4, hch9⟩ := hSw; clear hch9; go_simp; try with_reducible rfl)
        try simp only [Act.put, List.setIfInBounds_toArray, List.set_cons_zero, List.set_cons_succ, List.getElem_toArray, List.getElem_cons_zero, List.getElem_cons_succ]
        refine wpAnyH_take (i := 10) (oi := _) (v := ?_) rfl (by kernel_rfl) (by kernel_rfl) (by kernel_rfl) (fun _ _ _ h => h) (Or.inl ⟨by rfl, ?_⟩) hHeld ?_
        rotate_left
        · (intro w hSw; obtain ⟨x0, x1, x2, x3, x4, y0, y1, y2, y3, y4, hch9⟩ := hSw; clear hch9; go_simp; try with_reducible rfl)
        try simp only [Act.put, List.setIfInBounds_toArray, List.set_cons_zero, List.set_cons_succ, List.getElem_toArray, List.getElem_cons_zero, List.getElem_cons_succ]
        refine wpAnyH_take (i := 11) (oi := _) (v := ?_) rfl (by kernel_rfl) (by kernel_rfl) (by kernel_rfl) (fun _ _ _ h => h) (Or.inl ⟨by rfl, ?_⟩) hHeld ?_
        rotate_left
        · (intro w hSw; obtain ⟨x0, x1, x2, x3, x4, y0, y1, y2, y3, y4, hch9⟩ := hSw; clear hch9; go_simp; try with_reducible rfl)
        try simp only [Act.put, List.setIfInBounds_toArray, List.set_cons_zero, List.set_cons_succ, List.getElem_toArray, List.getElem_cons_zero, List.getElem_cons_succ]
        refine wpAnyH_take (i := 12) (oi := _) (v := ?_) rfl (by kernel_rfl) (by kernel_rfl) (by kernel_rfl) (fun _ _ _ h => h) (Or.inl ⟨by rfl, ?_⟩) hHeld ?_
        rotate_left
        · (intro w hSw; obtain ⟨x0, x1, x2, x3, x4, y0, y1, y2, y3, y4, hch9⟩ := hSw; clear hch9; go_simp; try with_reducible rfl)
        try simp only [Act.put, List.setIfInBounds_toArray, List.set_cons_zero, List.set_cons_succ, List.getElem_toArray, List.getElem_cons_zero, List.getElem_cons_succ]
        refine wpAnyH_take (i := 13) (oi := _) (v := ?_) rfl (by kernel_rfl) (by kernel_rfl) (by kernel_rfl) (fun _ _ _ h => h) (Or.inl ⟨by rfl, ?_⟩) hHeld ?_
        rotate_left
        · (intro w hSw; obtain ⟨x0, x1, x2, x3, x4, y0, y1, y2, y3, y4, hch9⟩ := hSw; clear hch9; go_simp; try with_reducible rfl)
        try simp only [Act.put, List.setIfInBounds_toArray, List.set_cons_zero, List.set_cons_succ, List.getElem_toArray, List.getElem_cons_zero, List.getElem_cons_succ]
        refine wpAnyH_take (i := 14) (oi := _) (v := ?_) rfl (by kernel_rfl) (by kernel_rfl) (by kernel_rfl) (fun _ _ _ h => h) (Or.inl ⟨by rfl, ?_⟩) hHeld ?_
        rotate_left
        · (intro w hSw; obtain ⟨x0, x1, x2, x3, x4, y0, y1, y2, y3, y4, hch9⟩ := hSw; clear hch9; go_simp; try with_reducible rfl)
        try simp only [Act.put, List.setIfInBounds_toArray, List.set_cons_zero, List.set_cons_succ, List.getElem_toArray, List.getElem_cons_zero, List.getElem_cons_succ]
        refine wpAnyH_ready (rs := [15]) (by kernel_rfl) (by simp) ?_
        refine AllReadyH.cons (o := _) rfl (fun K hK => ?_) AllReadyH.nil
        go_simp
        with_reducible refine (HSM.out _ hHeld).mono ?_
        rintro e w' ⟨rfl, hb⟩
        have hHeld' := HST.out _ _ hHeld hb
        go_wp2_with fail
        refine hK.out _ _ hHeld' (fun hHeld => ?_)
        clear hK K hb hHeld'
        try simp only [Act.put, List.setIfInBounds_toArray, List.set_cons_zero, List.set_cons_succ, List.getElem_toArray, List.getElem_cons_zero, List.getElem_cons_succ]
        refine wpAnyH_take (i := 16) (oi := _) (v := ?_) rfl (by kernel_rfl) (by kernel_rfl) (by kernel_rfl) (fun _ _ _ h => h) (Or.inl ⟨by rfl, ?_⟩) hHeld ?_
        rotate_left
        · (intro w hSw; obtain ⟨x0, x1, x2, x3, x4, y0, y1, y2, y3, y4, hch9⟩ := hSw; clear hch9; go_simp; try with_reducible rfl)
        try simp only [Act.put, List.setIfInBounds_toArray, List.set_cons_zero, List.set_cons_succ, List.getElem_toArray, List.getElem_cons_zero, List.getElem_cons_succ]
        refine wpAnyH_take (i := 17) (oi := _) (v := ?_) rfl (by kernel_rfl) (by kernel_rfl) (by kernel_rfl) (fun _ _ _ h => h) (Or.inl ⟨by rfl, ?_⟩) hHeld ?_
        rotate_left
        · (intro w hSw; obtain ⟨x0, x1, x2, x3, x4, y0, y1, y2, y3, y4, hch9⟩ := hSw; clear hch9; go_simp; try with_reducible rfl)
        try simp only [Act.put, List.setIfInBounds_toArray, List.set_cons_zero, List.set_cons_succ, List.getElem_toArray, List.getElem_cons_zero, List.getElem_cons_succ]
        refine wpAnyH_take (i := 18) (oi := _) (v := ?_) rfl (by kernel_rfl) (by kernel_rfl) (by kernel_rfl) (fun _ _ _ h => h) (Or.inl ⟨by rfl, ?_⟩) hHeld ?_
        rotate_left
        · (intro w hSw; obtain ⟨x0, x1, x2, x3, x4, y0, y1, y2, y3, y4, hch9⟩ := hSw; clear hch9; go_simp; try with_reducible rfl)
        try simp only [Act.put, List.setIfInBounds_toArray, List.set_cons_zero, List.set_cons_succ, List.getElem_toArray, List.getElem_cons_zero, List.getElem_cons_succ]
        refine wpAnyH_take (i := 19) (oi := _) (v := ?_) rfl (by kernel_rfl) (by kernel_rfl) (by kernel_rfl) (fun _ _ _ h => h) (Or.inl ⟨by rfl, ?_⟩) hHeld ?_
        rotate_left
        · (intro w hSw; obtain ⟨x0, x1, x2, x3, x4, y0, y1, y2, y3, y4, hch9⟩ := hSw; clear hch9; go_simp; try with_reducible rfl)
        try simp only [Act.put, List.setIfInBounds_toArray, List.set_cons_zero, List.set_cons_succ, List.getElem_toArray, List.getElem_cons_zero, List.getElem_cons_succ]
        refine wpAnyH_take (i := 20) (oi := _) (v := ?_) rfl (by kernel_rfl) (by kernel_rfl) (by kernel_rfl) (fun _ _ _ h => h) (Or.inl ⟨by rfl, ?_⟩) hHeld ?_
        rotate_left
        · (intro w hSw; obtain ⟨x0, x1, x2, x3, x4, y0, y1, y2, y3, y4, hch9⟩ := hSw; clear hch9; go_simp; try with_reducible rfl)
        try simp only [Act.put, List.setIfInBounds_toArray, List.set_cons_zero, List.set_cons_succ, List.getElem_toArray, List.getElem_cons_zero, List.getElem_cons_succ]
        refine wpAnyH_take (i := 21) (oi := _) (v := ?_) rfl (by kernel_rfl) (by kernel_rfl) (by kernel_rfl) (fun _ _ _ h => h) (Or.inl ⟨by rfl, ?_⟩) hHeld ?_
        rotate_left
        · (intro w hSw; obtain ⟨x0, x1, x2, x3, x4, y0, y1, y2, y3, y4, hch9⟩ := hSw; clear hch9; go_simp; try with_reducible rfl)
        try simp only [Act.put, List.setIfInBounds_toArray, List.set_cons_zero, List.set_cons_succ, List.getElem_toArray, List.getElem_cons_zero, List.getElem_cons_succ]
        refine wpAnyH_take (i := 22) (oi := _) (v := ?_) rfl (by kernel_rfl) (by kernel_rfl) (by kernel_rfl) (fun _ _ _ h => h) (Or.inl ⟨by rfl, ?_⟩) hHeld ?_
        rotate_left
        · (intro w hSw; obtain ⟨x0, x1, x2, x3, x4, y0, y1, y2, y3, y4, hch9⟩ := hSw; clear hch9; go_simp; try with_reducible rfl)
        try simp only [Act.put, List.setIfInBounds_toArray, List.set_cons_zero, List.set_cons_succ, List.getElem_toArray, List.getElem_cons_zero, List.getElem_cons_succ]
        refine wpAnyH_take (i := 23) (oi := _) (v := ?_) rfl (by kernel_rfl) (by kernel_rfl) (by kernel_rfl) (fun _ _ _ h => h) (Or.inl ⟨by rfl, ?_⟩) hHeld ?_
        rotate_left
        · (intro w hSw; obtain ⟨x0, x1, x2, x3, x4, y0, y1, y2, y3, y4, hch9⟩ := hSw; clear hch9; go_simp; try with_reducible rfl)
        try simp only [Act.put, List.setIfInBounds_toArray, List.set_cons_zero, List.set_cons_succ, List.getElem_toArray, List.getElem_cons_zero, List.getElem_cons_succ]
        refine wpAnyH_take (i := 24) (oi := _) (v := undef) rfl (by kernel_rfl) (by kernel_rfl) (by kernel_rfl) (fun _ _ _ h => h) (Or.inr ⟨by rfl, rfl⟩) hHeld ?_
        try simp only [Act.put, List.setIfInBounds_toArray, List.set_cons_zero, List.set_cons_succ, List.getElem_toArray, List.getElem_cons_zero, List.getElem_cons_succ]
        refine wpAnyH_take (i := 25) (oi := _) (v := undef) rfl (by kernel_rfl) (by kernel_rfl) (by kernel_rfl) (fun _ _ _ h => h) (Or.inr ⟨by rfl, rfl⟩) hHeld ?_
        try simp only [Act.put, List.setIfInBounds_toArray, List.set_cons_zero, List.set_cons_succ, List.getElem_toArray, List.getElem_cons_zero, List.getElem_cons_succ]
        refine wpAnyH_take (i := 26) (oi := _) (v := undef) rfl (by kernel_rfl) (by kernel_rfl) (by kernel_rfl) (fun _ _ _ h => h) (Or.inr ⟨by rfl, rfl⟩) hHeld ?_
        try simp only [Act.put, List.setIfInBounds_toArray, List.set_cons_zero, List.set_cons_succ, List.getElem_toArray, List.getElem_cons_zero, List.getElem_cons_succ]
        refine wpAnyH_take (i := 27) (oi := _) (v := undef) rfl (by kernel_rfl) (by kernel_rfl) (by kernel_rfl) (fun _ _ _ h => h) (Or.inr ⟨by rfl, rfl⟩) hHeld ?_
        try simp only [Act.put, List.setIfInBounds_toArray, List.set_cons_zero, List.set_cons_succ, List.getElem_toArray, List.getElem_cons_zero, List.getElem_cons_succ]
        refine wpAnyH_take (i := 28) (oi := _) (v := undef) rfl (by kernel_rfl) (by kernel_rfl) (by kernel_rfl) (fun _ _ _ h => h) (Or.inr ⟨by rfl, rfl⟩) hHeld ?_
        try simp only [Act.put, List.setIfInBounds_toArray, List.set_cons_zero, List.set_cons_succ, List.getElem_toArray, List.getElem_cons_zero, List.getElem_cons_succ]
        refine wpAnyH_take (i := 29) (oi := _) (v := undef) rfl (by kernel_rfl) (by kernel_rfl) (by kernel_rfl) (fun _ _ _ h => h) (Or.inr ⟨by rfl, rfl⟩) hHeld ?_
        try simp only [Act.put, List.setIfInBounds_toArray, List.set_cons_zero, List.set_cons_succ, List.getElem_toArray, List.getElem_cons_zero, List.getElem_cons_succ]
        refine wpAnyH_take (i := 30) (oi := _) (v := undef) rfl (by kernel_rfl) (by kernel_rfl) (by kernel_rfl) (fun _ _ _ h => h) (Or.inr ⟨by rfl, rfl⟩) hHeld ?_
        try simp only [Act.put, List.setIfInBounds_toArray, List.set_cons_zero, List.set_cons_succ, List.getElem_toArray, List.getElem_cons_zero, List.getElem_cons_succ]
        refine wpAnyH_take (i := 31) (oi := _) (v := undef) rfl (by kernel_rfl) (by kernel_rfl) (by kernel_rfl) (fun _ _ _ h => h) (Or.inr ⟨by rfl, rfl⟩) hHeld ?_
        try simp only [Act.put, List.setIfInBounds_toArray, List.set_cons_zero, List.set_cons_succ, List.getElem_toArray, List.getElem_cons_zero, List.getElem_cons_succ]
        refine wpAnyH_take (i := 32) (oi := _) (v := undef) rfl (by kernel_rfl) (by kernel_rfl) (by kernel_rfl) (fun _ _ _ h => h) (Or.inr ⟨by rfl, rfl⟩) hHeld ?_
        try simp only [Act.put, List.setIfInBounds_toArray, List.set_cons_zero, List.set_cons_succ, List.getElem_toArray, List.getElem_cons_zero, List.getElem_cons_succ]
        refine wpAnyH_take (i := 33) (oi := _) (v := undef) rfl (by kernel_rfl) (by kernel_rfl) (by kernel_rfl) (fun _ _ _ h => h) (Or.inr ⟨by rfl, rfl⟩) hHeld ?_
        try simp only [Act.put, List.setIfInBounds_toArray, List.set_cons_zero, List.set_cons_succ, List.getElem_toArray, List.getElem_cons_zero, List.getElem_cons_succ]
        refine wpAnyH_take (i := 34) (oi := _) (v := undef) rfl (by kernel_rfl) (by kernel_rfl) (by kernel_rfl) (fun _ _ _ h => h) (Or.inr ⟨by rfl, rfl⟩) hHeld ?_
        try simp only [Act.put, List.setIfInBounds_toArray, List.set_cons_zero, List.set_cons_succ, List.getElem_toArray, List.getElem_cons_zero, List.getElem_cons_succ]
        refine wpAnyH_take (i := 35) (oi := _) (v := undef) rfl (by kernel_rfl) (by kernel_rfl) (by kernel_rfl) (fun _ _ _ h => h) (Or.inr ⟨by rfl, rfl⟩) hHeld ?_
        try simp only [Act.put, List.setIfInBounds_toArray, List.set_cons_zero, List.set_cons_succ, List.getElem_toArray, List.getElem_cons_zero, List.getElem_cons_succ]
        refine wpAnyH_take (i := 36) (oi := _) (v := undef) rfl (by kernel_rfl) (by kernel_rfl) (by kernel_rfl) (fun _ _ _ h => h) (Or.inr ⟨by rfl, rfl⟩) hHeld ?_
        try simp only [Act.put, List.setIfInBounds_toArray, List.set_cons_zero, List.set_cons_succ, List.getElem_toArray, List.getElem_cons_zero, List.getElem_cons_succ]
        refine wpAnyH_ready (rs := [37]) (by kernel_rfl) (by simp) ?_
        refine AllReadyH.cons (o := _) rfl (fun K hK => ?_) AllReadyH.nil
        go_simp
        refine hK.out _ _ hHeld (fun hHeld => ?_)
        clear hK K
        try simp only [Act.put, List.setIfInBounds_toArray, List.set_cons_zero, List.set_cons_succ, List.getElem_toArray, List.getElem_cons_zero, List.getElem_cons_succ]
        refine wpAnyH_take (i := 38) (oi := _) (v := undef) rfl (by kernel_rfl) (by kernel_rfl) (by kernel_rfl) (fun _ _ _ h => h) (Or.inr ⟨by rfl, rfl⟩) hHeld ?_
        try simp only [Act.put, List.setIfInBounds_toArray, List.set_cons_zero, List.set_cons_succ, List.getElem_toArray, List.getElem_cons_zero, List.getElem_cons_succ]
        refine wpAnyH_take (i := 39) (oi := _) (v := ?_) rfl (by kernel_rfl) (by kernel_rfl) (by kernel_rfl) (fun _ _ _ h => h) (Or.inl ⟨by rfl, ?_⟩) hHeld ?_
        rotate_left
        · (intro w hSw; obtain ⟨x0, x1, x2, x3, x4, y0, y1, y2, y3, y4, hch9⟩ := hSw; clear hch9; go_simp; try with_reducible rfl)
        try simp only [Act.put, List.setIfInBounds_toArray, List.set_cons_zero, List.set_cons_succ, List.getElem_toArray, List.getElem_cons_zero, List.getElem_cons_succ]
        refine wpAnyH_take (i := 40) (oi := _) (v := ?_) rfl (by kernel_rfl) (by kernel_rfl) (by kernel_rfl) (fun _ _ _ h => h) (Or.inl ⟨by rfl, ?_⟩) hHeld ?_
        rotate_left
        · (intro w hSw; obtain ⟨x0, x1, x2, x3, x4, y0, y1, y2, y3, y4, hch9⟩ := hSw; clear hch9; go_simp; try with_reducible rfl)
        try simp only [Act.put, List.setIfInBounds_toArray, List.set_cons_zero, List.set_cons_succ, List.getElem_toArray, List.getElem_cons_zero, List.getElem_cons_succ]
        refine wpAnyH_done (by kernel_rfl) ?_ _
        have HX := Lib.hid hHeld.2.2.2.2.2.2.2.2.2.2.low
        clear hHeld HSC HST HSM
        go_wp2_with fail
        go_roundw
        case rel => exact ⟨q + 1, by omega, by go_num, HX.out⟩
        case measure => simp [intOf]; omega
      · obtain ⟨p, hp⟩ : ∃ p, q = la.length + p := ⟨q - la.length, by omega⟩
        have hlp : p < lb.length := by have := HLL.out; omega
        obtain ⟨b2, o2, cap2, g2, m2, c2, gn2, cn2, e2, hb2, -, x0, x1, x2, x3, x4, x5, x6⟩ := clsIn_at (clsIn_below HT2.out HB.out.size HB.out) p hlp
        injection e2 with e2 _ e4
        subst e2 e4
        have hg : lb[p] = (t, ns) := by
          rw [← htn]
          have h := HLC.out
          subst h hp
          rw [List.getElem_append_right (by omega)]
          simp
        rw [hg] at x0 x1 x2 x4 x5 x6
        dsimp only at x0 x1 x2 x4 x5 x6
        have hch : CH w3 t ns b3 (o3 + q * 5) b2 (o2 + p * 5) (.slice g3 m3 c3) (.slice gn3 ns.length cn3) (.slice g2 m2 c2) (.slice gn2 ns.length cn2) wx := ⟨⟨y0, y1, y2, y3, y4⟩, ⟨x0, x1, x2, x3, x4⟩, hb3, hb2, y5, x5, y6, x6, HB.out, HR.out.next HB.out⟩
        clear x0 x1 x2 x3 x4 x5 x6 y0 y1 y2 y3 y4 y5 y6 htn hg hb2 hb3
        have j1 : ((q : Int) < (la.length : Int)) = False := by simp only [eq_iff_iff, iff_false]; omega
        have j4 : (la.length : Int) ≤ (q : Int) := by omega
        have j5 : (q : Int) - (la.length : Int) = (p : Int) := by omega
        have j6 : (0 : Int) ≤ (p : Int) := by omega
        have j7 : (p : Int) < (lb.length : Int) := by omega
        have jw2 : IntKind.i64.wrap (p : Int) = (p : Int) := by rw [IntKind.wrap_i64]; omega
        have HQ := Lib.hid hp
        clear hp
        have hch' := hch.next (Below.refl wx.heap.size wx).drew
        obtain ⟨x0, x1, x2, x3, x4⟩ := hch.c1
        obtain ⟨y0, y1, y2, y3, y4⟩ := hch.c2
        have hl1 := hch.l1
        have hl2 := hch.l2
        have HSC := Lib.hid (fun W1 (h : CH w3 t ns b3 (o3 + q * 5) b2 (o2 + p * 5) (.slice g3 m3 c3) (.slice gn3 ns.length cn3) (.slice g2 m2 c2) (.slice gn2 ns.length cn2) W1) => (⟨h.c1.1, h.c1.2.1, h.c1.2.2.1, h.c1.2.2.2.1, h.c1.2.2.2.2, h.c2.1, h.c2.2.1, h.c2.2.2.1, h.c2.2.2.2.1, h.c2.2.2.2.2, h⟩ : W1.cell? ⟨b3, o3 + q * 5, none⟩ = some (.int .i64 t.kind) ∧ W1.cell? ⟨b3, o3 + q * 5 + 1, none⟩ = some (.string t.name) ∧ W1.cell? ⟨b3, o3 + q * 5 + 2, none⟩ = some (.int .i64 t.n) ∧ W1.cell? ⟨b3, o3 + q * 5 + 3, none⟩ = some (.slice g3 m3 c3) ∧ W1.cell? ⟨b3, o3 + q * 5 + 4, none⟩ = some (.slice gn3 ns.length cn3) ∧ W1.cell? ⟨b2, o2 + p * 5, none⟩ = some (.int .i64 t.kind) ∧ W1.cell? ⟨b2, o2 + p * 5 + 1, none⟩ = some (.string t.name) ∧ W1.cell? ⟨b2, o2 + p * 5 + 2, none⟩ = some (.int .i64 t.n) ∧ W1.cell? ⟨b2, o2 + p * 5 + 3, none⟩ = some (.slice g2 m2 c2) ∧ W1.cell? ⟨b2, o2 + p * 5 + 4, none⟩ = some (.slice gn2 ns.length cn2) ∧ CH w3 t ns b3 (o3 + q * 5) b2 (o2 + p * 5) (.slice g3 m3 c3) (.slice gn3 ns.length cn3) (.slice g2 m2 c2) (.slice gn2 ns.length cn2) W1))
        have hs : wx.drew.cell? ⟨b3, o3 + q * 5, none⟩ = some (.int .i64 t.kind) ∧ wx.drew.cell? ⟨b3, o3 + q * 5 + 1, none⟩ = some (.string t.name) ∧ wx.drew.cell? ⟨b3, o3 + q * 5 + 2, none⟩ = some (.int .i64 t.n) ∧ wx.drew.cell? ⟨b3, o3 + q * 5 + 3, none⟩ = some (.slice g3 m3 c3) ∧ wx.drew.cell? ⟨b3, o3 + q * 5 + 4, none⟩ = some (.slice gn3 ns.length cn3) ∧ wx.drew.cell? ⟨b2, o2 + p * 5, none⟩ = some (.int .i64 t.kind) ∧ wx.drew.cell? ⟨b2, o2 + p * 5 + 1, none⟩ = some (.string t.name) ∧ wx.drew.cell? ⟨b2, o2 + p * 5 + 2, none⟩ = some (.int .i64 t.n) ∧ wx.drew.cell? ⟨b2, o2 + p * 5 + 3, none⟩ = some (.slice g2 m2 c2) ∧ wx.drew.cell? ⟨b2, o2 + p * 5 + 4, none⟩ = some (.slice gn2 ns.length cn2) ∧ CH w3 t ns b3 (o3 + q * 5) b2 (o2 + p * 5) (.slice g3 m3 c3) (.slice gn3 ns.length cn3) (.slice g2 m2 c2) (.slice gn2 ns.length cn2) wx.drew := HSC.out _ hch'
        have HST := Lib.hid (fun W1 W2 (h : W1.cell? ⟨b3, o3 + q * 5, none⟩ = some (.int .i64 t.kind) ∧ W1.cell? ⟨b3, o3 + q * 5 + 1, none⟩ = some (.string t.name) ∧ W1.cell? ⟨b3, o3 + q * 5 + 2, none⟩ = some (.int .i64 t.n) ∧ W1.cell? ⟨b3, o3 + q * 5 + 3, none⟩ = some (.slice g3 m3 c3) ∧ W1.cell? ⟨b3, o3 + q * 5 + 4, none⟩ = some (.slice gn3 ns.length cn3) ∧ W1.cell? ⟨b2, o2 + p * 5, none⟩ = some (.int .i64 t.kind) ∧ W1.cell? ⟨b2, o2 + p * 5 + 1, none⟩ = some (.string t.name) ∧ W1.cell? ⟨b2, o2 + p * 5 + 2, none⟩ = some (.int .i64 t.n) ∧ W1.cell? ⟨b2, o2 + p * 5 + 3, none⟩ = some (.slice g2 m2 c2) ∧ W1.cell? ⟨b2, o2 + p * 5 + 4, none⟩ = some (.slice gn2 ns.length cn2) ∧ CH w3 t ns b3 (o3 + q * 5) b2 (o2 + p * 5) (.slice g3 m3 c3) (.slice gn3 ns.length cn3) (.slice g2 m2 c2) (.slice gn2 ns.length cn2) W1) (hb : Below W1.heap.size W1 W2) => HSC.out W2 (h.2.2.2.2.2.2.2.2.2.2.next hb))
        have HSM := Lib.hid (fun W1 (h : W1.cell? ⟨b3, o3 + q * 5, none⟩ = some (.int .i64 t.kind) ∧ W1.cell? ⟨b3, o3 + q * 5 + 1, none⟩ = some (.string t.name) ∧ W1.cell? ⟨b3, o3 + q * 5 + 2, none⟩ = some (.int .i64 t.n) ∧ W1.cell? ⟨b3, o3 + q * 5 + 3, none⟩ = some (.slice g3 m3 c3) ∧ W1.cell? ⟨b3, o3 + q * 5 + 4, none⟩ = some (.slice gn3 ns.length cn3) ∧ W1.cell? ⟨b2, o2 + p * 5, none⟩ = some (.int .i64 t.kind) ∧ W1.cell? ⟨b2, o2 + p * 5 + 1, none⟩ = some (.string t.name) ∧ W1.cell? ⟨b2, o2 + p * 5 + 2, none⟩ = some (.int .i64 t.n) ∧ W1.cell? ⟨b2, o2 + p * 5 + 3, none⟩ = some (.slice g2 m2 c2) ∧ W1.cell? ⟨b2, o2 + p * 5 + 4, none⟩ = some (.slice gn2 ns.length cn2) ∧ CH w3 t ns b3 (o3 + q * 5) b2 (o2 + p * 5) (.slice g3 m3 c3) (.slice gn3 ns.length cn3) (.slice g2 m2 c2) (.slice gn2 ns.length cn2) W1) => h.2.2.2.2.2.2.2.2.2.2.same)
        clear hch hch'
        go_wp2_with fail
        refine wp_region_held_drew (S := fun W1 => W1.cell? ⟨b3, o3 + q * 5, none⟩ = some (.int .i64 t.kind) ∧ W1.cell? ⟨b3, o3 + q * 5 + 1, none⟩ = some (.string t.name) ∧ W1.cell? ⟨b3, o3 + q * 5 + 2, none⟩ = some (.int .i64 t.n) ∧ W1.cell? ⟨b3, o3 + q * 5 + 3, none⟩ = some (.slice g3 m3 c3) ∧ W1.cell? ⟨b3, o3 + q * 5 + 4, none⟩ = some (.slice gn3 ns.length cn3) ∧ W1.cell? ⟨b2, o2 + p * 5, none⟩ = some (.int .i64 t.kind) ∧ W1.cell? ⟨b2, o2 + p * 5 + 1, none⟩ = some (.string t.name) ∧ W1.cell? ⟨b2, o2 + p * 5 + 2, none⟩ = some (.int .i64 t.n) ∧ W1.cell? ⟨b2, o2 + p * 5 + 3, none⟩ = some (.slice g2 m2 c2) ∧ W1.cell? ⟨b2, o2 + p * 5 + 4, none⟩ = some (.slice gn2 ns.length cn2) ∧ CH w3 t ns b3 (o3 + q * 5) b2 (o2 + p * 5) (.slice g3 m3 c3) (.slice gn3 ns.length cn3) (.slice g2 m2 c2) (.slice gn2 ns.length cn2) W1) (by kernel_rfl) hs (fun hHeld => ?_)
        clear hs x0 x1 x2 x3 x4 y0 y1 y2 y3 y4
        refine wpAnyH_take (i := 0) (oi := _) (v := ?_) rfl (by kernel_rfl) (by kernel_rfl) (by kernel_rfl) (fun _ _ _ h => h) (Or.inl ⟨by rfl, ?_⟩) hHeld ?_
        rotate_left
        · (intro w hSw; obtain ⟨x0, x1, x2, x3, x4, y0, y1, y2, y3, y4, hch9⟩ := hSw; clear hch9; go_simp; try with_reducible rfl)
        try simp only [Act.put, List.setIfInBounds_toArray, List.set_cons_zero, List.set_cons_succ, List.getElem_toArray, List.getElem_cons_zero]
        refine wpAnyH_take (i := 1) (oi := _) (v := ?_) rfl (by kernel_rfl) (by kernel_rfl) (by kernel_rfl) (fun _ _ _ h => h) (Or.inl ⟨by rfl, ?_⟩) hHeld ?_
        rotate_left
        · (intro w hSw; obtain ⟨x0, x1, x2, x3, x4, y0, y1, y2, y3, y4, hch9⟩ := hSw; clear hch9; go_simp; try with_reducible rfl)
        try simp only [Act.put, List.setIfInBounds_toArray, List.set_cons_zero, List.set_cons_succ, List.getElem_toArray, List.getElem_cons_zero, List.getElem_cons_succ]
        refine wpAnyH_take (i := 2) (oi := _) (v := ?_) rfl (by kernel_rfl) (by kernel_rfl) (by kernel_rfl) (fun _ _ _ h => h) (Or.inl ⟨by rfl, ?_⟩) hHeld ?_
        rotate_left
        · (intro w hSw; obtain ⟨x0, x1, x2, x3, x4, y0, y1, y2, y3, y4, hch9⟩ := hSw; clear hch9; go_simp; try with_reducible rfl)
        try simp only [Act.put, List.setIfInBounds_toArray, List.set_cons_zero, List.set_cons_succ, List.getElem_toArray, List.getElem_cons_zero, List.getElem_cons_succ]
        refine wpAnyH_take (i := 3) (oi := _) (v := ?_) rfl (by kernel_rfl) (by kernel_rfl) (by kernel_rfl) (fun _ _ _ h => h) (Or.inl ⟨by rfl, ?_⟩) hHeld ?_
        rotate_left
        · (intro w hSw; obtain ⟨x0, x1, x2, x3, x4, y0, y1, y2, y3, y4, hch9⟩ := hSw; clear hch9; go_simp; try with_reducible rfl)
        try simp only [Act.put, List.setIfInBounds_toArray, List.set_cons_zero, List.set_cons_succ, List.getElem_toArray, List.getElem_cons_zero, List.getElem_cons_succ]
        refine wpAnyH_take (i := 4) (oi := _) (v := ?_) rfl (by kernel_rfl) (by kernel_rfl) (by kernel_rfl) (fun _ _ _ h => h) (Or.inl ⟨by rfl, ?_⟩) hHeld ?_
        rotate_left
        · (intro w hSw; obtain ⟨x0, x1, x2, x3, x4, y0, y1, y2, y3, y4, hch9⟩ := hSw; clear hch9; go_simp; try with_reducible rfl)
        try simp only [Act.put, List.setIfInBounds_toArray, List.set_cons_zero, List.set_cons_succ, List.getElem_toArray, List.getElem_cons_zero, List.getElem_cons_succ]
        refine wpAnyH_take (i := 5) (oi := _) (v := undef) rfl (by kernel_rfl) (by kernel_rfl) (by kernel_rfl) (fun _ _ _ h => h) (Or.inr ⟨by rfl, rfl⟩) hHeld ?_
        try simp only [Act.put, List.setIfInBounds_toArray, List.set_cons_zero, List.set_cons_succ, List.getElem_toArray, List.getElem_cons_zero, List.getElem_cons_succ]
        refine wpAnyH_take (i := 6) (oi := _) (v := undef) rfl (by kernel_rfl) (by kernel_rfl) (by kernel_rfl) (fun _ _ _ h => h) (Or.inr ⟨by rfl, rfl⟩) hHeld ?_
        try simp only [Act.put, List.setIfInBounds_toArray, List.set_cons_zero, List.set_cons_succ, List.getElem_toArray, List.getElem_cons_zero, List.getElem_cons_succ]
        refine wpAnyH_take (i := 7) (oi := _) (v := undef) rfl (by kernel_rfl) (by kernel_rfl) (by kernel_rfl) (fun _ _ _ h => h) (Or.inr ⟨by rfl, rfl⟩) hHeld ?_
        try simp only [Act.put, List.setIfInBounds_toArray, List.set_cons_zero, List.set_cons_succ, List.getElem_toArray, List.getElem_cons_zero, List.getElem_cons_succ]
        refine wpAnyH_take (i := 8) (oi := _) (v := undef) rfl (by kernel_rfl) (by kernel_rfl) (by kernel_rfl) (fun _ _ _ h => h) (Or.inr ⟨by rfl, rfl⟩) hHeld ?_
        try simp only [Act.put, List.setIfInBounds_toArray, List.set_cons_zero, List.set_cons_succ, List.getElem_toArray, List.getElem_cons_zero, List.getElem_cons_succ]
        refine wpAnyH_take (i := 9) (oi := _) (v := undef) rfl (by kernel_rfl) (by kernel_rfl) (by kernel_rfl) (fun _ _ _ h => h) (Or.inr ⟨by rfl, rfl⟩) hHeld ?_
        try simp only [Act.put, List.setIfInBounds_toArray, List.set_cons_zero, List.set_cons_succ, List.getElem_toArray, List.getElem_cons_zero, List.getElem_cons_succ]
        refine wpAnyH_take (i := 10) (oi := _) (v := undef) rfl (by kernel_rfl) (by kernel_rfl) (by kernel_rfl) (fun _ _ _ h => h) (Or.inr ⟨by rfl, rfl⟩) hHeld ?_
        try simp only [Act.put, List.setIfInBounds_toArray, List.set_cons_zero, List.set_cons_succ, List.getElem_toArray, List.getElem_cons_zero, List.getElem_cons_succ]
        refine wpAnyH_take (i := 11) (oi := _) (v := undef) rfl (by kernel_rfl) (by kernel_rfl) (by kernel_rfl) (fun _ _ _ h => h) (Or.inr ⟨by rfl, rfl⟩) hHeld ?_
        try simp only [Act.put, List.setIfInBounds_toArray, List.set_cons_zero, List.set_cons_succ, List.getElem_toArray, List.getElem_cons_zero, List.getElem_cons_succ]
        refine wpAnyH_take (i := 12) (oi := _) (v := undef) rfl (by kernel_rfl) (by kernel_rfl) (by kernel_rfl) (fun _ _ _ h => h) (Or.inr ⟨by rfl, rfl⟩) hHeld ?_
        try simp only [Act.put, List.setIfInBounds_toArray, List.set_cons_zero, List.set_cons_succ, List.getElem_toArray, List.getElem_cons_zero, List.getElem_cons_succ]
        refine wpAnyH_take (i := 13) (oi := _) (v := undef) rfl (by kernel_rfl) (by kernel_rfl) (by kernel_rfl) (fun _ _ _ h => h) (Or.inr ⟨by rfl, rfl⟩) hHeld ?_
        try simp only [Act.put, List.setIfInBounds_toArray, List.set_cons_zero, List.set_cons_succ, List.getElem_toArray, List.getElem_cons_zero, List.getElem_cons_succ]
        refine wpAnyH_take (i := 14) (oi := _) (v := undef) rfl (by kernel_rfl) (by kernel_rfl) (by kernel_rfl) (fun _ _ _ h => h) (Or.inr ⟨by rfl, rfl⟩) hHeld ?_
        try simp only [Act.put, List.setIfInBounds_toArray, List.set_cons_zero, List.set_cons_succ, List.getElem_toArray, List.getElem_cons_zero, List.getElem_cons_succ]
        refine wpAnyH_ready (rs := [15]) (by kernel_rfl) (by simp) ?_
        refine AllReadyH.cons (o := _) rfl (fun K hK => ?_) AllReadyH.nil
        go_simp
        refine hK.out _ _ hHeld (fun hHeld => ?_)
        clear hK K
        try simp only [Act.put, List.setIfInBounds_toArray, List.set_cons_zero, List.set_cons_succ, List.getElem_toArray, List.getElem_cons_zero, List.getElem_cons_succ]
        refine wpAnyH_take (i := 16) (oi := _) (v := undef) rfl (by kernel_rfl) (by kernel_rfl) (by kernel_rfl) (fun _ _ _ h => h) (Or.inr ⟨by rfl, rfl⟩) hHeld ?_
        try simp only [Act.put, List.setIfInBounds_toArray, List.set_cons_zero, List.set_cons_succ, List.getElem_toArray, List.getElem_cons_zero, List.getElem_cons_succ]
        refine wpAnyH_take (i := 17) (oi := _) (v := ?_) rfl (by kernel_rfl) (by kernel_rfl) (by kernel_rfl) (fun _ _ _ h => h) (Or.inl ⟨by rfl, ?_⟩) hHeld ?_
        rotate_left
        · (intro w hSw; obtain ⟨x0, x1, x2, x3, x4, y0, y1, y2, y3, y4, hch9⟩ := hSw; clear hch9; go_simp; try with_reducible rfl)
        try simp only [Act.put, List.setIfInBounds_toArray, List.set_cons_zero, List.set_cons_succ, List.getElem_toArray, List.getElem_cons_zero, List.getElem_cons_succ]
        refine wpAnyH_take (i := 18) (oi := _) (v := ?_) rfl (by kernel_rfl) (by kernel_rfl) (by kernel_rfl) (fun _ _ _ h => h) (Or.inl ⟨by rfl, ?_⟩) hHeld ?_
        rotate_left
        · (intro w hSw; obtain ⟨x0, x1, x2, x3, x4, y0, y1, y2, y3, y4, hch9⟩ := hSw; clear hch9; go_simp; try with_reducible rfl)
        try simp only [Act.put, List.setIfInBounds_toArray, List.set_cons_zero, List.set_cons_succ, List.getElem_toArray, List.getElem_cons_zero, List.getElem_cons_succ]
        refine wpAnyH_take (i := 19) (oi := _) (v := ?_) rfl (by kernel_rfl) (by kernel_rfl) (by kernel_rfl) (fun _ _ _ h => h) (Or.inl ⟨by rfl, ?_⟩) hHeld ?_
        rotate_left
        · (intro w hSw; obtain ⟨x0, x1, x2, x3, x4, y0, y1, y2, y3, y4, hch9⟩ := hSw; clear hch9; go_simp; try with_reducible rfl)
        try simp only [Act.put, List.setIfInBounds_toArray, List.set_cons_zero, List.set_cons_succ, List.getElem_toArray, List.getElem_cons_zero, List.getElem_cons_succ]
        refine wpAnyH_take (i := 20) (oi := _) (v := ?_) rfl (by kernel_rfl) (by kernel_rfl) (by kernel_rfl) (fun _ _ _ h => h) (Or.inl ⟨by rfl, ?_⟩) hHeld ?_
        rotate_left
        · (intro w hSw; obtain ⟨x0, x1, x2, x3, x4, y0, y1, y2, y3, y4, hch9⟩ := hSw; clear hch9; go_simp; try with_reducible rfl)
        try simp only [Act.put, List.setIfInBounds_toArray, List.set_cons_zero, List.set_cons_succ, List.getElem_toArray, List.getElem_cons_zero, List.getElem_cons_succ]
        refine wpAnyH_take (i := 21) (oi := _) (v := ?_) rfl (by kernel_rfl) (by kernel_rfl) (by kernel_rfl) (fun _ _ _ h => h) (Or.inl ⟨by rfl, ?_⟩) hHeld ?_
        rotate_left
        · (intro w hSw; obtain ⟨x0, x1, x2, x3, x4, y0, y1, y2, y3, y4, hch9⟩ := hSw; clear hch9; go_simp; try with_reducible rfl)
        try simp only [Act.put, List.setIfInBounds_toArray, List.set_cons_zero, List.set_cons_succ, List.getElem_toArray, List.getElem_cons_zero, List.getElem_cons_succ]
        refine wpAnyH_take (i := 22) (oi := _) (v := ?_) rfl (by kernel_rfl) (by kernel_rfl) (by kernel_rfl) (fun _ _ _ h => h) (Or.inl ⟨by rfl, ?_⟩) hHeld ?_
        rotate_left
        · (intro w hSw; obtain ⟨x0, x1, x2, x3, x4, y0, y1, y2, y3, y4, hch9⟩ := hSw; clear hch9; go_simp; try with_reducible rfl)
        try simp only [Act.put, List.setIfInBounds_toArray, List.set_cons_zero, List.set_cons_succ, List.getElem_toArray, List.getElem_cons_zero, List.getElem_cons_succ]
        refine wpAnyH_take (i := 23) (oi := _) (v := ?_) rfl (by kernel_rfl) (by kernel_rfl) (by kernel_rfl) (fun _ _ _ h => h) (Or.inl ⟨by rfl, ?_⟩) hHeld ?_
        rotate_left
        · (intro w hSw; obtain ⟨x0, x1, x2, x3, x4, y0, y1, y2, y3, y4, hch9⟩ := hSw; clear hch9; go_simp; try with_reducible rfl)
        try simp only [Act.put, List.setIfInBounds_toArray, List.set_cons_zero, List.set_cons_succ, List.getElem_toArray, List.getElem_cons_zero, List.getElem_cons_succ]
        refine wpAnyH_take (i := 24) (oi := _) (v := ?_) rfl (by kernel_rfl) (by kernel_rfl) (by kernel_rfl) (fun _ _ _ h => h) (Or.inl ⟨by rfl, ?_⟩) hHeld ?_
        rotate_left
        · (intro w hSw; obtain ⟨x0, x1, x2, x3, x4, y0, y1, y2, y3, y4, hch9⟩ := hSw; clear hch9; go_simp; try with_reducible rfl)
        try simp only [Act.put, List.setIfInBounds_toArray, List.set_cons_zero, List.set_cons_succ, List.getElem_toArray, List.getElem_cons_zero, List.getElem_cons_succ]
        refine wpAnyH_take (i := 25) (oi := _) (v := ?_) rfl (by kernel_rfl) (by kernel_rfl) (by kernel_rfl) (fun _ _ _ h => h) (Or.inl ⟨by rfl, ?_⟩) hHeld ?_
        rotate_left
        · (intro w hSw; obtain ⟨x0, x1, x2, x3, x4, y0, y1, y2, y3, y4, hch9⟩ := hSw; clear hch9; go_simp; try with_reducible rfl)
        try simp only [Act.put, List.setIfInBounds_toArray, List.set_cons_zero, List.set_cons_succ, List.getElem_toArray, List.getElem_cons_zero, List.getElem_cons_succ]
        refine wpAnyH_take (i := 26) (oi := _) (v := ?_) rfl (by kernel_rfl) (by kernel_rfl) (by kernel_rfl) (fun _ _ _ h => h) (Or.inl ⟨by rfl, ?_⟩) hHeld ?_
        rotate_left
        · (intro w hSw; obtain ⟨x0, x1, x2, x3, x4, y0, y1, y2, y3, y4, hch9⟩ := hSw; clear hch9; go_simp; try with_reducible rfl)
        try simp only [Act.put, List.setIfInBounds_toArray, List.set_cons_zero, List.set_cons_succ, List.getElem_toArray, List.getElem_cons_zero, List.getElem_cons_succ]
        refine wpAnyH_take (i := 27) (oi := _) (v := ?_) rfl (by kernel_rfl) (by kernel_rfl) (by kernel_rfl) (fun _ _ _ h => h) (Or.inl ⟨by rfl, ?_⟩) hHeld ?_
        rotate_left
        · (intro w hSw; obtain ⟨x0, x1, x2, x3, x4, y0, y1, y2, y3, y4, hch9⟩ := hSw; clear hch9; go_simp; try with_reducible rfl)
        try simp only [Act.put, List.setIfInBounds_toArray, List.set_cons_zero, List.set_cons_succ, List.getElem_toArray, List.getElem_cons_zero, List.getElem_cons_succ]
        refine wpAnyH_take (i := 28) (oi := _) (v := ?_) rfl (by kernel_rfl) (by kernel_rfl) (by kernel_rfl) (fun _ _ _ h => h) (Or.inl ⟨by rfl, ?_⟩) hHeld ?_
        rotate_left
        · (intro w hSw; obtain ⟨x0, x1, x2, x3, x4, y0, y1, y2, y3, y4, hch9⟩ := hSw; clear hch9; go_simp; try with_reducible rfl)
        try simp only [Act.put, List.setIfInBounds_toArray, List.set_cons_zero, List.set_cons_succ, List.getElem_toArray, List.getElem_cons_zero, List.getElem_cons_succ]
        refine wpAnyH_take (i := 29) (oi := _) (v := ?_) rfl (by kernel_rfl) (by kernel_rfl) (by kernel_rfl) (fun _ _ _ h => h) (Or.inl ⟨by rfl, ?_⟩) hHeld ?_
        rotate_left
        · (intro w hSw; obtain ⟨x0, x1, x2, x3, x4, y0, y1, y2, y3, y4, hch9⟩ := hSw; clear hch9; go_simp; try with_reducible rfl)
        try simp only [Act.put, List.setIfInBounds_toArray, List.set_cons_zero, List.set_cons_succ, List.getElem_toArray, List.getElem_cons_zero, List.getElem_cons_succ]
        refine wpAnyH_take (i := 30) (oi := _) (v := ?_) rfl (by kernel_rfl) (by kernel_rfl) (by kernel_rfl) (fun _ _ _ h => h) (Or.inl ⟨by rfl, ?_⟩) hHeld ?_
        rotate_left
        · (intro w hSw; obtain ⟨x0, x1, x2, x3, x4, y0, y1, y2, y3, y4, hch9⟩ := hSw; clear hch9; go_simp; try with_reducible rfl)
        try simp only [Act.put, List.setIfInBounds_toArray, List.set_cons_zero, List.set_cons_succ, List.getElem_toArray, List.getElem_cons_zero, List.getElem_cons_succ]
        refine wpAnyH_take (i := 31) (oi := _) (v := ?_) rfl (by kernel_rfl) (by kernel_rfl) (by kernel_rfl) (fun _ _ _ h => h) (Or.inl ⟨by rfl, ?_⟩) hHeld ?_
        rotate_left
        · (intro w hSw; obtain ⟨x0, x1, x2, x3, x4, y0, y1, y2, y3, y4, hch9⟩ := hSw; clear hch9; go_simp; try with_reducible rfl)
        try simp only [Act.put, List.setIfInBounds_toArray, List.set_cons_zero, List.set_cons_succ, List.getElem_toArray, List.getElem_cons_zero, List.getElem_cons_succ]
        refine wpAnyH_take (i := 32) (oi := _) (v := ?_) rfl (by kernel_rfl) (by kernel_rfl) (by kernel_rfl) (fun _ _ _ h => h) (Or.inl ⟨by rfl, ?_⟩) hHeld ?_
        rotate_left
        · (intro w hSw; obtain ⟨x0, x1, x2, x3, x4, y0, y1, y2, y3, y4, hch9⟩ := hSw; clear hch9; go_simp; try with_reducible rfl)
        try simp only [Act.put, List.setIfInBounds_toArray, List.set_cons_zero, List.set_cons_succ, List.getElem_toArray, List.getElem_cons_zero, List.getElem_cons_succ]
        refine wpAnyH_take (i := 33) (oi := _) (v := ?_) rfl (by kernel_rfl) (by kernel_rfl) (by kernel_rfl) (fun _ _ _ h => h) (Or.inl ⟨by rfl, ?_⟩) hHeld ?_
        rotate_left
        · (intro w hSw; obtain ⟨x0, x1, x2, x3, x4, y0, y1, y2, y3, y4, hch9⟩ := hSw; clear hch9; go_simp; try with_reducible rfl)
        try simp only [Act.put, List.setIfInBounds_toArray, List.set_cons_zero, List.set_cons_succ, List.getElem_toArray, List.getElem_cons_zero, List.getElem_cons_succ]
        refine wpAnyH_take (i := 34) (oi := _) (v := ?_) rfl (by kernel_rfl) (by kernel_rfl) (by kernel_rfl) (fun _ _ _ h => h) (Or.inl ⟨by rfl, ?_⟩) hHeld ?_
        rotate_left
        · (intro w hSw; obtain ⟨x0, x1, x2, x3, x4, y0, y1, y2, y3, y4, hch9⟩ := hSw; clear hch9; go_simp; try with_reducible rfl)
        try simp only [Act.put, List.setIfInBounds_toArray, List.set_cons_zero, List.set_cons_succ, List.getElem_toArray, List.getElem_cons_zero, List.getElem_cons_succ]
        refine wpAnyH_take (i := 35) (oi := _) (v := ?_) rfl (by kernel_rfl) (by kernel_rfl) (by kernel_rfl) (fun _ _ _ h => h) (Or.inl ⟨by rfl, ?_⟩) hHeld ?_
        rotate_left
        · (intro w hSw; obtain ⟨x0, x1, x2, x3, x4, y0, y1, y2, y3, y4, hch9⟩ := hSw; clear hch9; go_simp; try with_reducible rfl)
        try simp only [Act.put, List.setIfInBounds_toArray, List.set_cons_zero, List.set_cons_succ, List.getElem_toArray, List.getElem_cons_zero, List.getElem_cons_succ]
        refine wpAnyH_take (i := 36) (oi := _) (v := ?_) rfl (by kernel_rfl) (by kernel_rfl) (by kernel_rfl) (fun _ _ _ h => h) (Or.inl ⟨by rfl, ?_⟩) hHeld ?_
        rotate_left
        · (intro w hSw; obtain ⟨x0, x1, x2, x3, x4, y0, y1, y2, y3, y4, hch9⟩ := hSw; clear hch9; go_simp; try with_reducible rfl)
        try simp only [Act.put, List.setIfInBounds_toArray, List.set_cons_zero, List.set_cons_succ, List.getElem_toArray, List.getElem_cons_zero, List.getElem_cons_succ]
        refine wpAnyH_ready (rs := [37]) (by kernel_rfl) (by simp) ?_
        refine AllReadyH.cons (o := _) rfl (fun K hK => ?_) AllReadyH.nil
        go_simp
        with_reducible refine (HSM.out _ hHeld).mono ?_
        rintro e w' ⟨rfl, hb⟩
        have hHeld' := HST.out _ _ hHeld hb
        go_wp2_with fail
        refine hK.out _ _ hHeld' (fun hHeld => ?_)
        clear hK K hb hHeld'
        try simp only [Act.put, List.setIfInBounds_toArray, List.set_cons_zero, List.set_cons_succ, List.getElem_toArray, List.getElem_cons_zero, List.getElem_cons_succ]
        refine wpAnyH_take (i := 38) (oi := _) (v := ?_) rfl (by kernel_rfl) (by kernel_rfl) (by kernel_rfl) (fun _ _ _ h => h) (Or.inl ⟨by rfl, ?_⟩) hHeld ?_
        rotate_left
        · (intro w hSw; obtain ⟨x0, x1, x2, x3, x4, y0, y1, y2, y3, y4, hch9⟩ := hSw; clear hch9; go_simp; try with_reducible rfl)
        try simp only [Act.put, List.setIfInBounds_toArray, List.set_cons_zero, List.set_cons_succ, List.getElem_toArray, List.getElem_cons_zero, List.getElem_cons_succ]
        refine wpAnyH_take (i := 39) (oi := _) (v := ?_) rfl (by kernel_rfl) (by kernel_rfl) (by kernel_rfl) (fun _ _ _ h => h) (Or.inl ⟨by rfl, ?_⟩) hHeld ?_
        rotate_left
        · (intro w hSw; obtain ⟨x0, x1, x2, x3, x4, y0, y1, y2, y3, y4, hch9⟩ := hSw; clear hch9; go_simp; try with_reducible rfl)
        try simp only [Act.put, List.setIfInBounds_toArray, List.set_cons_zero, List.set_cons_succ, List.getElem_toArray, List.getElem_cons_zero, List.getElem_cons_succ]
        refine wpAnyH_take (i := 40) (oi := _) (v := ?_) rfl (by kernel_rfl) (by kernel_rfl) (by kernel_rfl) (fun _ _ _ h => h) (Or.inl ⟨by rfl, ?_⟩) hHeld ?_
        rotate_left
        · (intro w hSw; obtain ⟨x0, x1, x2, x3, x4, y0, y1, y2, y3, y4, hch9⟩ := hSw; clear hch9; go_simp; try with_reducible rfl)
        try simp only [Act.put, List.setIfInBounds_toArray, List.set_cons_zero, List.set_cons_succ, List.getElem_toArray, List.getElem_cons_zero, List.getElem_cons_succ]
        refine wpAnyH_done (by kernel_rfl) ?_ _
        have HX := Lib.hid hHeld.2.2.2.2.2.2.2.2.2.2.low
        clear hHeld HSC HST HSM
        go_wp2_with fail
        go_roundw
        case rel => exact ⟨q + 1, by omega, by go_num, HX.out⟩
        case measure => simp [intOf]; omega
    · obtain rfl : lc.length = q := by omega
      have HR := Lib.hid (HR.out.next HB.out)
      have HB := Lib.hid (HBW.out.trans (HB.out.mono HBW.out.size))
      go_wp2_with (go_at_call 7; (with_reducible refine (HK.out _ HR.out).mono ?_); rintro e w4 ⟨rfl, hb4⟩; have HB := Lib.hid (HB.out.trans (hb4.mono HB.out.size)); have HR := Lib.hid (HR.out.next hb4); clear hb4)
      go_ret
      exact ⟨rfl, HB.out⟩
theorem rjoins_any (a b : ByteArray) (w : World) (hr : Rng w) :
    Calls Tryz.prog 6 #[.string a, .string b] w fun e w' => e = .returned (.bool true) ∧ Below w.heap.size w w' := by
  by_cases hz : 3000 < a.size ∨ 3000 < b.size
  · exact rjo_big a b w hr hz
  cases ha : readE (bs a) with
  | error e => exact rjo_no1 a b w hr (by omega) (by omega) ha
  | ok la =>
    cases hb : readE (bs b) with
    | error e => exact rjo_no2 a b w hr (by omega) (by omega) ha hb
    | ok lb => exact rjo_yes a b w hr (by omega) (by omega) ha hb
end Go.Proofs.YtilfglcjcmpfeaaGreatDoor
