/-
  ReadClauses' body.
-/
import Derived.Test.YtilfglcjcmpfeaaGreatDoorChR
namespace Go.Proofs.YtilfglcjcmpfeaaGreatDoor
open Go.RowKit

set_option maxRecDepth 100000 in
set_option maxHeartbeats 4000000 in
theorem rcl_no (s : ByteArray) (w : World) (hr : Rng w) (hs : s.size ≤ 9000) {k pl : Nat} (hrd : readE (bs s) = .error (k, pl)) :
    Calls Tryz.prog 3 #[.string s] w fun e w' => e = .returned (.bool true) ∧ Below w.heap.size w w' := by
  have hpl : pl ≤ 9000 := by have := read_bad hrd; rw [bs_length] at this; dsimp only at this; omega
  have hone : oneE (bs s) = .error (k, pl) := by unfold oneE; rw [hrd]
  have H1 := Lib.hid (fun u h => clsP_no (w := u) h (by omega) hrd)
  have H2 := Lib.hid (fun u => clsD_no (w := u) (by omega) hrd)
  have H3 := Lib.hid (fun u h => oneP_no (w := u) h (by omega) hone)
  have HK := Lib.hid (fun u h => rknows_any u h)
  have HR := Lib.hid hr
  clear hr hrd hone
  go_enter Tryz.func3, Tryz.ntmps3
  go_upto_region 4 with (go_at_call 8; (with_reducible refine (H1.out _ HR.out).mono ?_); rintro e w1 ⟨⟨g1, c1, rfl, hk⟩, hb⟩; have HB1 := Lib.hid hb; have HR1 := Lib.hid (HR.out.next hb); clear hb)
  have HKK := Lib.hid hk
  have hk3 : k ≤ 3 := by omega
  have kd2 : ((k : Int) != 0) = true := by rw [bne_iff_ne]; omega
  have kd3 : ((k : Int) == 0) = false := by rw [beq_eq_false_iff_ne]; omega
  clear hk
  go_wp2_with (go_at_call 9; (with_reducible refine (H2.out _).mono ?_); rintro e w2 ⟨⟨g2, c2, rfl, -⟩, hb⟩; have HB2 := Lib.hid hb; have HR2 := Lib.hid (HR1.out.next hb); clear hb)
  have HL2 := Lib.hid (HB1.out.trans (HB2.out.mono HB1.out.size))
  go_loopw [9] (fun i wr => i = .int .i64 0 ∧ wr = w2) (fun i _ => 0)
  case atStart => exact ⟨rfl, rfl⟩
  case round =>
    obtain ⟨rfl, rfl⟩ := hrel
    go_upto_region 13 with (go_at_call 12; (with_reducible refine (H3.out _ HR2.out).mono ?_); rintro e w3 ⟨⟨rfl, -⟩, hb⟩; have HB3 := Lib.hid hb; have HR3 := Lib.hid (HR2.out.next hb); clear hb)
    have hv := (Below.refl w3.heap.size w3).alloc (Nat.le_refl _) (.cells #[.int .i64 0, .string ⟨#[]⟩, .int .i64 0, .slice none 0 0, .slice none 0 0] 36)
    have hz := newBlk w3 (.cells #[.int .i64 0, .string ⟨#[]⟩, .int .i64 0, .slice none 0 0, .slice none 0 0] 36) w3.heap.size rfl
    have hzl : w3.heap.size < (w3.alloc (.cells #[.int .i64 0, .string ⟨#[]⟩, .int .i64 0, .slice none 0 0, .slice none 0 0] 36)).heap.size := by simp
    obtain ⟨v3, hv3⟩ : ∃ v3, w3.alloc (.cells #[.int .i64 0, .string ⟨#[]⟩, .int .i64 0, .slice none 0 0, .slice none 0 0] 36) = v3 := ⟨_, rfl⟩
    rw [hv3] at hv hz hzl ⊢
    clear hv3
    obtain ⟨⟨a0, a1, a2, a3, a4⟩, -⟩ := row5f hz
    have HV := Lib.hid hv
    have HR4 := Lib.hid (HR3.out.next hv)
    have HZ := Lib.hid hz
    clear hv hz
    go_upto_region 15 with (first
      | (go_at_call 10; (with_reducible refine (same_z9 _).mono ?_); rintro e w4 ⟨rfl, hb⟩; have HB4 := Lib.hid hb; obtain ⟨⟨e0, e1, e2, e3, e4⟩, -⟩ := row5f ((hb.block _ hzl).trans HZ.out); have HR5 := Lib.hid (HR4.out.next hb); clear hb)
      | (go_at_call 7; (with_reducible refine (HK.out _ HR5.out).mono ?_); rintro e w5 ⟨rfl, hb⟩; have HB5 := Lib.hid hb; clear hb))
    have HF : Hid (Below w.heap.size w w5) := Lib.hid (((((HL2.out.trans (HB3.out.mono HL2.out.size)).trans (HV.out.mono (HL2.out.trans (HB3.out.mono HL2.out.size)).size)).trans (HB4.out.mono ((HL2.out.trans (HB3.out.mono HL2.out.size)).trans (HV.out.mono (HL2.out.trans (HB3.out.mono HL2.out.size)).size)).size))).trans (HB5.out.mono (((HL2.out.trans (HB3.out.mono HL2.out.size)).trans (HV.out.mono (HL2.out.trans (HB3.out.mono HL2.out.size)).size)).trans (HB4.out.mono ((HL2.out.trans (HB3.out.mono HL2.out.size)).trans (HV.out.mono (HL2.out.trans (HB3.out.mono HL2.out.size)).size)).size)).size))
    go_ret
    exact ⟨rfl, HF.out⟩
set_option maxRecDepth 100000 in
set_option maxHeartbeats 8000000 in
theorem rcl_ok (s : ByteArray) (w : World) (hr : Rng w) (hs : s.size ≤ 9000) {l : List Cl} (hrd : readE (bs s) = .ok l) :
    Calls Tryz.prog 3 #[.string s] w fun e w' => e = .returned (.bool true) ∧ Below w.heap.size w w' := by
  have hbs := bs_length s
  obtain ⟨hl8, hlc⟩ := read_len hrd
  have H1 := Lib.hid (fun u h => clsP_ok (w := u) h (by omega) hrd)
  have H2 := Lib.hid (fun u => clsD_ok (w := u) (by omega) hrd)
  have HRD := Lib.hid hrd
  have HLC := Lib.hid hlc
  have HBS := Lib.hid hbs
  have HK := Lib.hid (fun u h => rknows_any u h)
  have HR := Lib.hid hr
  clear hr hrd hlc hbs
  go_enter Tryz.func3, Tryz.ntmps3
  go_wp2_with (first
    | (go_at_call 8; (with_reducible refine (H1.out _ HR.out).mono ?_); rintro e w1 ⟨⟨gl1, cl1, rfl, hl⟩, hb⟩; have HC1 := Lib.hid hl; have HB1 := Lib.hid hb; have HR1 := Lib.hid (HR.out.next hb); clear hb hl)
    | (go_at_call 9; (with_reducible refine (H2.out _).mono ?_); rintro e w2 ⟨⟨gl2, cl2, rfl, hl⟩, hb⟩; have HC2 := Lib.hid hl; have HC1 := Lib.hid (clsIn_below HC1.out hb.size hb); have HB2 := Lib.hid hb; have HR2 := Lib.hid (HR1.out.next hb); clear hb hl))
  have HL2 := Lib.hid (HB1.out.trans (HB2.out.mono HB1.out.size))
  go_loopw [9] (fun i wr => ∃ q : Nat, q ≤ l.length ∧ i = .int .i64 q ∧ Below w2.heap.size w2 wr) (fun i _ => l.length - (intOf i).toNat)
  case atStart => exact ⟨0, Nat.zero_le _, rfl, Below.refl _ _⟩
  case round =>
    obtain ⟨q, hq, rfl, hb⟩ := hrel
    obtain ⟨wx, rfl⟩ : ∃ wx, wx = wr := ⟨_, rfl⟩
    have HB := Lib.hid hb
    clear hb
    by_cases hlt : q < l.length
    · have h1 := clsIn_below HC1.out HB.out.size HB.out
      have h2 := clsIn_below HC2.out HB.out.size HB.out
      obtain ⟨b1, o1, cap1, g1, m1, c1, gn1, cn1, e1, hb1, -, x0, x1, x2, x3, x4, x5, x6⟩ := clsIn_at h1 q hlt
      obtain ⟨b2, o2, cap2, g2, m2, c2, gn2, cn2, e2, hb2, -, y0, y1, y2, y3, y4, y5, y6⟩ := clsIn_at h2 q hlt
      injection e1 with e1 _ e3
      injection e2 with e2 _ e4
      subst e1 e2 e3 e4
      have hns := (HLC.out _ (List.getElem_mem hlt)).2
      obtain ⟨⟨t, ns⟩, htn⟩ : ∃ c, l[q] = c := ⟨_, rfl⟩
      rw [htn] at x0 x1 x2 x4 x5 x6 y0 y1 y2 y4 y5 y6 hns
      dsimp only at x0 x1 x2 x4 x5 x6 y0 y1 y2 y4 y5 y6 hns
      have hch : CH w2 t ns b1 (o1 + q * 5) b2 (o2 + q * 5) (.slice g1 m1 c1) (.slice gn1 ns.length cn1) (.slice g2 m2 c2) (.slice gn2 ns.length cn2) wx := ⟨⟨x0, x1, x2, x3, x4⟩, ⟨y0, y1, y2, y3, y4⟩, hb1, hb2, x5, y5, x6, y6, HB.out, HR2.out.next HB.out⟩
      clear x0 x1 x2 x3 x4 x5 x6 y0 y1 y2 y3 y4 y5 y6 h1 h2 htn hb1 hb2
      have j0 : (0 : Int) ≤ (q : Int) := by omega
      have j1 : (q : Int) < (l.length : Int) := by omega
      have jz : (0 : Int) + (q : Int) = (q : Int) := by omega
      have jw : IntKind.i64.wrap (q : Int) = (q : Int) := by rw [IntKind.wrap_i64]; omega
      have hch' := hch.next (Below.refl wx.heap.size wx).drew
      obtain ⟨x0, x1, x2, x3, x4⟩ := hch.c1
      obtain ⟨y0, y1, y2, y3, y4⟩ := hch.c2
      have hl1 := hch.l1
      have hl2 := hch.l2
      have HSC := Lib.hid (fun W1 (h : CH w2 t ns b1 (o1 + q * 5) b2 (o2 + q * 5) (.slice g1 m1 c1) (.slice gn1 ns.length cn1) (.slice g2 m2 c2) (.slice gn2 ns.length cn2) W1) => (⟨h.c1.1, h.c1.2.1, h.c1.2.2.1, h.c1.2.2.2.1, h.c1.2.2.2.2, h.c2.1, h.c2.2.1, h.c2.2.2.1, h.c2.2.2.2.1, h.c2.2.2.2.2, h⟩ : W1.cell? ⟨b1, o1 + q * 5, none⟩ = some (.int .i64 t.kind) ∧ W1.cell? ⟨b1, o1 + q * 5 + 1, none⟩ = some (.string t.name) ∧ W1.cell? ⟨b1, o1 + q * 5 + 2, none⟩ = some (.int .i64 t.n) ∧ W1.cell? ⟨b1, o1 + q * 5 + 3, none⟩ = some (.slice g1 m1 c1) ∧ W1.cell? ⟨b1, o1 + q * 5 + 4, none⟩ = some (.slice gn1 ns.length cn1) ∧ W1.cell? ⟨b2, o2 + q * 5, none⟩ = some (.int .i64 t.kind) ∧ W1.cell? ⟨b2, o2 + q * 5 + 1, none⟩ = some (.string t.name) ∧ W1.cell? ⟨b2, o2 + q * 5 + 2, none⟩ = some (.int .i64 t.n) ∧ W1.cell? ⟨b2, o2 + q * 5 + 3, none⟩ = some (.slice g2 m2 c2) ∧ W1.cell? ⟨b2, o2 + q * 5 + 4, none⟩ = some (.slice gn2 ns.length cn2) ∧ CH w2 t ns b1 (o1 + q * 5) b2 (o2 + q * 5) (.slice g1 m1 c1) (.slice gn1 ns.length cn1) (.slice g2 m2 c2) (.slice gn2 ns.length cn2) W1))
      have hs : wx.drew.cell? ⟨b1, o1 + q * 5, none⟩ = some (.int .i64 t.kind) ∧ wx.drew.cell? ⟨b1, o1 + q * 5 + 1, none⟩ = some (.string t.name) ∧ wx.drew.cell? ⟨b1, o1 + q * 5 + 2, none⟩ = some (.int .i64 t.n) ∧ wx.drew.cell? ⟨b1, o1 + q * 5 + 3, none⟩ = some (.slice g1 m1 c1) ∧ wx.drew.cell? ⟨b1, o1 + q * 5 + 4, none⟩ = some (.slice gn1 ns.length cn1) ∧ wx.drew.cell? ⟨b2, o2 + q * 5, none⟩ = some (.int .i64 t.kind) ∧ wx.drew.cell? ⟨b2, o2 + q * 5 + 1, none⟩ = some (.string t.name) ∧ wx.drew.cell? ⟨b2, o2 + q * 5 + 2, none⟩ = some (.int .i64 t.n) ∧ wx.drew.cell? ⟨b2, o2 + q * 5 + 3, none⟩ = some (.slice g2 m2 c2) ∧ wx.drew.cell? ⟨b2, o2 + q * 5 + 4, none⟩ = some (.slice gn2 ns.length cn2) ∧ CH w2 t ns b1 (o1 + q * 5) b2 (o2 + q * 5) (.slice g1 m1 c1) (.slice gn1 ns.length cn1) (.slice g2 m2 c2) (.slice gn2 ns.length cn2) wx.drew := HSC.out _ hch'
      have HST := Lib.hid (fun W1 W2 (h : W1.cell? ⟨b1, o1 + q * 5, none⟩ = some (.int .i64 t.kind) ∧ W1.cell? ⟨b1, o1 + q * 5 + 1, none⟩ = some (.string t.name) ∧ W1.cell? ⟨b1, o1 + q * 5 + 2, none⟩ = some (.int .i64 t.n) ∧ W1.cell? ⟨b1, o1 + q * 5 + 3, none⟩ = some (.slice g1 m1 c1) ∧ W1.cell? ⟨b1, o1 + q * 5 + 4, none⟩ = some (.slice gn1 ns.length cn1) ∧ W1.cell? ⟨b2, o2 + q * 5, none⟩ = some (.int .i64 t.kind) ∧ W1.cell? ⟨b2, o2 + q * 5 + 1, none⟩ = some (.string t.name) ∧ W1.cell? ⟨b2, o2 + q * 5 + 2, none⟩ = some (.int .i64 t.n) ∧ W1.cell? ⟨b2, o2 + q * 5 + 3, none⟩ = some (.slice g2 m2 c2) ∧ W1.cell? ⟨b2, o2 + q * 5 + 4, none⟩ = some (.slice gn2 ns.length cn2) ∧ CH w2 t ns b1 (o1 + q * 5) b2 (o2 + q * 5) (.slice g1 m1 c1) (.slice gn1 ns.length cn1) (.slice g2 m2 c2) (.slice gn2 ns.length cn2) W1) (hb : Below W1.heap.size W1 W2) => HSC.out W2 (h.2.2.2.2.2.2.2.2.2.2.next hb))
      have HSM := Lib.hid (fun W1 (h : W1.cell? ⟨b1, o1 + q * 5, none⟩ = some (.int .i64 t.kind) ∧ W1.cell? ⟨b1, o1 + q * 5 + 1, none⟩ = some (.string t.name) ∧ W1.cell? ⟨b1, o1 + q * 5 + 2, none⟩ = some (.int .i64 t.n) ∧ W1.cell? ⟨b1, o1 + q * 5 + 3, none⟩ = some (.slice g1 m1 c1) ∧ W1.cell? ⟨b1, o1 + q * 5 + 4, none⟩ = some (.slice gn1 ns.length cn1) ∧ W1.cell? ⟨b2, o2 + q * 5, none⟩ = some (.int .i64 t.kind) ∧ W1.cell? ⟨b2, o2 + q * 5 + 1, none⟩ = some (.string t.name) ∧ W1.cell? ⟨b2, o2 + q * 5 + 2, none⟩ = some (.int .i64 t.n) ∧ W1.cell? ⟨b2, o2 + q * 5 + 3, none⟩ = some (.slice g2 m2 c2) ∧ W1.cell? ⟨b2, o2 + q * 5 + 4, none⟩ = some (.slice gn2 ns.length cn2) ∧ CH w2 t ns b1 (o1 + q * 5) b2 (o2 + q * 5) (.slice g1 m1 c1) (.slice gn1 ns.length cn1) (.slice g2 m2 c2) (.slice gn2 ns.length cn2) W1) => h.2.2.2.2.2.2.2.2.2.2.same)
      have HSW := Lib.hid (fun W1 (h : W1.cell? ⟨b1, o1 + q * 5, none⟩ = some (.int .i64 t.kind) ∧ W1.cell? ⟨b1, o1 + q * 5 + 1, none⟩ = some (.string t.name) ∧ W1.cell? ⟨b1, o1 + q * 5 + 2, none⟩ = some (.int .i64 t.n) ∧ W1.cell? ⟨b1, o1 + q * 5 + 3, none⟩ = some (.slice g1 m1 c1) ∧ W1.cell? ⟨b1, o1 + q * 5 + 4, none⟩ = some (.slice gn1 ns.length cn1) ∧ W1.cell? ⟨b2, o2 + q * 5, none⟩ = some (.int .i64 t.kind) ∧ W1.cell? ⟨b2, o2 + q * 5 + 1, none⟩ = some (.string t.name) ∧ W1.cell? ⟨b2, o2 + q * 5 + 2, none⟩ = some (.int .i64 t.n) ∧ W1.cell? ⟨b2, o2 + q * 5 + 3, none⟩ = some (.slice g2 m2 c2) ∧ W1.cell? ⟨b2, o2 + q * 5 + 4, none⟩ = some (.slice gn2 ns.length cn2) ∧ CH w2 t ns b1 (o1 + q * 5) b2 (o2 + q * 5) (.slice g1 m1 c1) (.slice gn1 ns.length cn1) (.slice g2 m2 c2) (.slice gn2 ns.length cn2) W1) => h.2.2.2.2.2.2.2.2.2.2.words (by omega))
      clear hch hch'
      go_wp2_with fail
      go_region_held3 (fun W1 => W1.cell? ⟨b1, o1 + q * 5, none⟩ = some (.int .i64 t.kind) ∧ W1.cell? ⟨b1, o1 + q * 5 + 1, none⟩ = some (.string t.name) ∧ W1.cell? ⟨b1, o1 + q * 5 + 2, none⟩ = some (.int .i64 t.n) ∧ W1.cell? ⟨b1, o1 + q * 5 + 3, none⟩ = some (.slice g1 m1 c1) ∧ W1.cell? ⟨b1, o1 + q * 5 + 4, none⟩ = some (.slice gn1 ns.length cn1) ∧ W1.cell? ⟨b2, o2 + q * 5, none⟩ = some (.int .i64 t.kind) ∧ W1.cell? ⟨b2, o2 + q * 5 + 1, none⟩ = some (.string t.name) ∧ W1.cell? ⟨b2, o2 + q * 5 + 2, none⟩ = some (.int .i64 t.n) ∧ W1.cell? ⟨b2, o2 + q * 5 + 3, none⟩ = some (.slice g2 m2 c2) ∧ W1.cell? ⟨b2, o2 + q * 5 + 4, none⟩ = some (.slice gn2 ns.length cn2) ∧ CH w2 t ns b1 (o1 + q * 5) b2 (o2 + q * 5) (.slice g1 m1 c1) (.slice gn1 ns.length cn1) (.slice g2 m2 c2) (.slice gn2 ns.length cn2) W1)
        (first | with_reducible exact hs | exact HST.out _ _ (by assumption) (by assumption))
        (first
          | (go_at_call 10; (with_reducible refine (HSM.out _ (by assumption)).mono ?_); rintro e w' ⟨rfl, hb⟩)
          | (go_at_call 11; (with_reducible refine (HSW.out _ (by assumption)).mono ?_); rintro e w' ⟨rfl, hb⟩))
      rename_i hheld
      have HX := Lib.hid hheld.2.2.2.2.2.2.2.2.2.2.low
      clear hheld hs HSC HST HSM HSW
      go_wp2_with fail
      go_roundw
      case rel => exact ⟨q + 1, by omega, by go_num, HX.out⟩
      case measure => simp [intOf]; omega
    · obtain rfl : l.length = q := by omega
      have HR3 := Lib.hid (HR2.out.next HB.out)
      have HL3 := Lib.hid (HL2.out.trans (HB.out.mono HL2.out.size))
      have HC3 := Lib.hid (clsIn_below HC1.out HB.out.size HB.out)
      by_cases h1 : l.length = 1
      · obtain ⟨⟨t, ns⟩, rfl⟩ : ∃ c, l = [c] := List.length_eq_one_iff.1 h1
        have hone : oneE (bs s) = .ok (t, ns) := by unfold oneE; rw [HRD.out]
        have H3 := Lib.hid (fun u h => oneP_ok (w := u) h (by omega) hone)
        have hns : ns.length ≤ 8000 := (HLC.out (t, ns) (by simp)).2
        clear hone h1 hq hlt
        go_upto_region 13 with (go_at_call 12; (with_reducible refine (H3.out _ HR3.out).mono ?_); rintro e w3 ⟨⟨g3, c3, gn3, cn3, rfl, hi, hn⟩, hb⟩; have HI3 := Lib.hid hi; have HN3 := Lib.hid hn; have HC3 := Lib.hid (clsIn_below HC3.out hb.size hb); have HL3 := Lib.hid (HL3.out.trans (hb.mono HL3.out.size)); have HR3 := Lib.hid (HR3.out.next hb); clear hb hi hn)
        have hv := (Below.refl w3.heap.size w3).alloc (Nat.le_refl _) (.cells #[.int .i64 t.kind, .string t.name, .int .i64 t.n, .slice g3 t.args.length c3, .slice gn3 ns.length cn3] 36)
        have hz := newBlk w3 (.cells #[.int .i64 t.kind, .string t.name, .int .i64 t.n, .slice g3 t.args.length c3, .slice gn3 ns.length cn3] 36) w3.heap.size rfl
        have hzl : w3.heap.size < (w3.alloc (.cells #[.int .i64 t.kind, .string t.name, .int .i64 t.n, .slice g3 t.args.length c3, .slice gn3 ns.length cn3] 36)).heap.size := by simp
        obtain ⟨v3, hv3⟩ : ∃ v3, w3.alloc (.cells #[.int .i64 t.kind, .string t.name, .int .i64 t.n, .slice g3 t.args.length c3, .slice gn3 ns.length cn3] 36) = v3 := ⟨_, rfl⟩
        rw [hv3] at hv hz hzl ⊢
        clear hv3
        obtain ⟨⟨z0, z1, z2, z3, z4⟩, -⟩ := row5f hz
        obtain ⟨b1, o1, cap1, g1, m1, c1, gn1, cn1, e1, hb1, -, x0, x1, x2, x3, x4, x5, x6⟩ := clsIn_at (clsIn_below HC3.out hv.size hv) 0 (by simp)
        injection e1 with e1 _ e3
        subst e1 e3
        rw [Nat.zero_mul, Nat.add_zero] at x0 x1 x2 x3 x4
        have x0 : v3.cell? ⟨b1, o1, none⟩ = some (.int .i64 t.kind) := x0
        have x1 : v3.cell? ⟨b1, o1 + 1, none⟩ = some (.string t.name) := x1
        have x2 : v3.cell? ⟨b1, o1 + 2, none⟩ = some (.int .i64 t.n) := x2
        have x4 : v3.cell? ⟨b1, o1 + 4, none⟩ = some (.slice gn1 ns.length cn1) := x4
        have x5 : Tm.inn v3 v3.heap.size t (.slice g1 m1 c1) := x5
        have x6 : namesP v3 (fun x => x < v3.heap.size) ns (.slice gn1 ns.length cn1) := x6
        have hch : CH w t ns w3.heap.size 0 b1 o1 (.slice g3 t.args.length c3) (.slice gn3 ns.length cn3) (.slice g1 m1 c1) (.slice gn1 ns.length cn1) v3 := ⟨⟨z0, z1, z2, z3, z4⟩, ⟨x0, x1, x2, x3, x4⟩, hzl, hb1, Tm.inn_mono (Tm.inn_below HI3.out hv (Nat.le_refl _)) hv.size, x5, names_next HN3.out hv, x6, HL3.out.trans (hv.mono HL3.out.size), HR3.out.next hv⟩
        clear hz z0 z1 z2 z3 z4 x0 x1 x2 x3 x4 x5 x6 hv hzl hb1
        have hch' := hch.next (Below.refl v3.heap.size v3).drew
        obtain ⟨x0, x1, x2, x3, x4⟩ := hch.c1
        obtain ⟨y0, y1, y2, y3, y4⟩ := hch.c2
        have hl1 := hch.l1
        have hl2 := hch.l2
        have HSC := Lib.hid (fun W1 (h : CH w t ns w3.heap.size (0) b1 (o1) (.slice g3 t.args.length c3) (.slice gn3 ns.length cn3) (.slice g1 m1 c1) (.slice gn1 ns.length cn1) W1) => (⟨h.c1.1, h.c1.2.1, h.c1.2.2.1, h.c1.2.2.2.1, h.c1.2.2.2.2, h.c2.1, h.c2.2.1, h.c2.2.2.1, h.c2.2.2.2.1, h.c2.2.2.2.2, h⟩ : W1.cell? ⟨w3.heap.size, 0, none⟩ = some (.int .i64 t.kind) ∧ W1.cell? ⟨w3.heap.size, 1, none⟩ = some (.string t.name) ∧ W1.cell? ⟨w3.heap.size, 2, none⟩ = some (.int .i64 t.n) ∧ W1.cell? ⟨w3.heap.size, 3, none⟩ = some (.slice g3 t.args.length c3) ∧ W1.cell? ⟨w3.heap.size, 4, none⟩ = some (.slice gn3 ns.length cn3) ∧ W1.cell? ⟨b1, o1, none⟩ = some (.int .i64 t.kind) ∧ W1.cell? ⟨b1, o1 + 1, none⟩ = some (.string t.name) ∧ W1.cell? ⟨b1, o1 + 2, none⟩ = some (.int .i64 t.n) ∧ W1.cell? ⟨b1, o1 + 3, none⟩ = some (.slice g1 m1 c1) ∧ W1.cell? ⟨b1, o1 + 4, none⟩ = some (.slice gn1 ns.length cn1) ∧ CH w t ns w3.heap.size (0) b1 (o1) (.slice g3 t.args.length c3) (.slice gn3 ns.length cn3) (.slice g1 m1 c1) (.slice gn1 ns.length cn1) W1))
        have hs : v3.drew.cell? ⟨w3.heap.size, 0, none⟩ = some (.int .i64 t.kind) ∧ v3.drew.cell? ⟨w3.heap.size, 1, none⟩ = some (.string t.name) ∧ v3.drew.cell? ⟨w3.heap.size, 2, none⟩ = some (.int .i64 t.n) ∧ v3.drew.cell? ⟨w3.heap.size, 3, none⟩ = some (.slice g3 t.args.length c3) ∧ v3.drew.cell? ⟨w3.heap.size, 4, none⟩ = some (.slice gn3 ns.length cn3) ∧ v3.drew.cell? ⟨b1, o1, none⟩ = some (.int .i64 t.kind) ∧ v3.drew.cell? ⟨b1, o1 + 1, none⟩ = some (.string t.name) ∧ v3.drew.cell? ⟨b1, o1 + 2, none⟩ = some (.int .i64 t.n) ∧ v3.drew.cell? ⟨b1, o1 + 3, none⟩ = some (.slice g1 m1 c1) ∧ v3.drew.cell? ⟨b1, o1 + 4, none⟩ = some (.slice gn1 ns.length cn1) ∧ CH w t ns w3.heap.size (0) b1 (o1) (.slice g3 t.args.length c3) (.slice gn3 ns.length cn3) (.slice g1 m1 c1) (.slice gn1 ns.length cn1) v3.drew := HSC.out _ hch'
        have HST := Lib.hid (fun W1 W2 (h : W1.cell? ⟨w3.heap.size, 0, none⟩ = some (.int .i64 t.kind) ∧ W1.cell? ⟨w3.heap.size, 1, none⟩ = some (.string t.name) ∧ W1.cell? ⟨w3.heap.size, 2, none⟩ = some (.int .i64 t.n) ∧ W1.cell? ⟨w3.heap.size, 3, none⟩ = some (.slice g3 t.args.length c3) ∧ W1.cell? ⟨w3.heap.size, 4, none⟩ = some (.slice gn3 ns.length cn3) ∧ W1.cell? ⟨b1, o1, none⟩ = some (.int .i64 t.kind) ∧ W1.cell? ⟨b1, o1 + 1, none⟩ = some (.string t.name) ∧ W1.cell? ⟨b1, o1 + 2, none⟩ = some (.int .i64 t.n) ∧ W1.cell? ⟨b1, o1 + 3, none⟩ = some (.slice g1 m1 c1) ∧ W1.cell? ⟨b1, o1 + 4, none⟩ = some (.slice gn1 ns.length cn1) ∧ CH w t ns w3.heap.size (0) b1 (o1) (.slice g3 t.args.length c3) (.slice gn3 ns.length cn3) (.slice g1 m1 c1) (.slice gn1 ns.length cn1) W1) (hb : Below W1.heap.size W1 W2) => HSC.out W2 (h.2.2.2.2.2.2.2.2.2.2.next hb))
        have HSM := Lib.hid (fun W1 (h : W1.cell? ⟨w3.heap.size, 0, none⟩ = some (.int .i64 t.kind) ∧ W1.cell? ⟨w3.heap.size, 1, none⟩ = some (.string t.name) ∧ W1.cell? ⟨w3.heap.size, 2, none⟩ = some (.int .i64 t.n) ∧ W1.cell? ⟨w3.heap.size, 3, none⟩ = some (.slice g3 t.args.length c3) ∧ W1.cell? ⟨w3.heap.size, 4, none⟩ = some (.slice gn3 ns.length cn3) ∧ W1.cell? ⟨b1, o1, none⟩ = some (.int .i64 t.kind) ∧ W1.cell? ⟨b1, o1 + 1, none⟩ = some (.string t.name) ∧ W1.cell? ⟨b1, o1 + 2, none⟩ = some (.int .i64 t.n) ∧ W1.cell? ⟨b1, o1 + 3, none⟩ = some (.slice g1 m1 c1) ∧ W1.cell? ⟨b1, o1 + 4, none⟩ = some (.slice gn1 ns.length cn1) ∧ CH w t ns w3.heap.size (0) b1 (o1) (.slice g3 t.args.length c3) (.slice gn3 ns.length cn3) (.slice g1 m1 c1) (.slice gn1 ns.length cn1) W1) => h.2.2.2.2.2.2.2.2.2.2.same)
        have HSW := Lib.hid (fun W1 (h : W1.cell? ⟨w3.heap.size, 0, none⟩ = some (.int .i64 t.kind) ∧ W1.cell? ⟨w3.heap.size, 1, none⟩ = some (.string t.name) ∧ W1.cell? ⟨w3.heap.size, 2, none⟩ = some (.int .i64 t.n) ∧ W1.cell? ⟨w3.heap.size, 3, none⟩ = some (.slice g3 t.args.length c3) ∧ W1.cell? ⟨w3.heap.size, 4, none⟩ = some (.slice gn3 ns.length cn3) ∧ W1.cell? ⟨b1, o1, none⟩ = some (.int .i64 t.kind) ∧ W1.cell? ⟨b1, o1 + 1, none⟩ = some (.string t.name) ∧ W1.cell? ⟨b1, o1 + 2, none⟩ = some (.int .i64 t.n) ∧ W1.cell? ⟨b1, o1 + 3, none⟩ = some (.slice g1 m1 c1) ∧ W1.cell? ⟨b1, o1 + 4, none⟩ = some (.slice gn1 ns.length cn1) ∧ CH w t ns w3.heap.size (0) b1 (o1) (.slice g3 t.args.length c3) (.slice gn3 ns.length cn3) (.slice g1 m1 c1) (.slice gn1 ns.length cn1) W1) => h.2.2.2.2.2.2.2.2.2.2.words (by omega))
        have HSK := Lib.hid (fun W1 (h : W1.cell? ⟨w3.heap.size, 0, none⟩ = some (.int .i64 t.kind) ∧ W1.cell? ⟨w3.heap.size, 1, none⟩ = some (.string t.name) ∧ W1.cell? ⟨w3.heap.size, 2, none⟩ = some (.int .i64 t.n) ∧ W1.cell? ⟨w3.heap.size, 3, none⟩ = some (.slice g3 t.args.length c3) ∧ W1.cell? ⟨w3.heap.size, 4, none⟩ = some (.slice gn3 ns.length cn3) ∧ W1.cell? ⟨b1, o1, none⟩ = some (.int .i64 t.kind) ∧ W1.cell? ⟨b1, o1 + 1, none⟩ = some (.string t.name) ∧ W1.cell? ⟨b1, o1 + 2, none⟩ = some (.int .i64 t.n) ∧ W1.cell? ⟨b1, o1 + 3, none⟩ = some (.slice g1 m1 c1) ∧ W1.cell? ⟨b1, o1 + 4, none⟩ = some (.slice gn1 ns.length cn1) ∧ CH w t ns w3.heap.size (0) b1 (o1) (.slice g3 t.args.length c3) (.slice gn3 ns.length cn3) (.slice g1 m1 c1) (.slice gn1 ns.length cn1) W1) => HK.out W1 h.2.2.2.2.2.2.2.2.2.2.rng)
        clear hch hch'
        go_wp2_with fail
        go_region_held3 (fun W1 => W1.cell? ⟨w3.heap.size, 0, none⟩ = some (.int .i64 t.kind) ∧ W1.cell? ⟨w3.heap.size, 1, none⟩ = some (.string t.name) ∧ W1.cell? ⟨w3.heap.size, 2, none⟩ = some (.int .i64 t.n) ∧ W1.cell? ⟨w3.heap.size, 3, none⟩ = some (.slice g3 t.args.length c3) ∧ W1.cell? ⟨w3.heap.size, 4, none⟩ = some (.slice gn3 ns.length cn3) ∧ W1.cell? ⟨b1, o1, none⟩ = some (.int .i64 t.kind) ∧ W1.cell? ⟨b1, o1 + 1, none⟩ = some (.string t.name) ∧ W1.cell? ⟨b1, o1 + 2, none⟩ = some (.int .i64 t.n) ∧ W1.cell? ⟨b1, o1 + 3, none⟩ = some (.slice g1 m1 c1) ∧ W1.cell? ⟨b1, o1 + 4, none⟩ = some (.slice gn1 ns.length cn1) ∧ CH w t ns w3.heap.size (0) b1 (o1) (.slice g3 t.args.length c3) (.slice gn3 ns.length cn3) (.slice g1 m1 c1) (.slice gn1 ns.length cn1) W1)
          (first | with_reducible exact hs | exact HST.out _ _ (by assumption) (by assumption))
          (first
            | (go_at_call 10; (with_reducible refine (HSM.out _ (by assumption)).mono ?_); rintro e w' ⟨rfl, hb⟩)
            | (go_at_call 11; (with_reducible refine (HSW.out _ (by assumption)).mono ?_); rintro e w' ⟨rfl, hb⟩)
            | (go_at_call 7; (with_reducible refine (HSK.out _ (by assumption)).mono ?_); rintro e w' ⟨rfl, hb⟩))
        rename_i hheld
        have HX := Lib.hid hheld.2.2.2.2.2.2.2.2.2.2.low
        clear hheld hs HSC HST HSM HSW HSK
        go_wp2_with fail
        go_ret
        exact ⟨rfl, HX.out⟩
      · have hone : oneE (bs s) = .error (2, s.size) := by
          have hrd := HRD.out
          unfold oneE
          rw [hrd, ← HBS.out]
          cases l with
          | nil => rfl
          | cons x r =>
            cases r with
            | nil => exact absurd rfl h1
            | cons y q => rfl
        have H3 := Lib.hid (fun u h => oneP_no (w := u) h (by omega) hone)
        have k1 : ((l.length : Int) == 1) = false := by rw [beq_eq_false_iff_ne]; omega
        have k2 : ((l.length : Int) != 1) = true := by simp [bne, k1]
        clear hone h1 hq hlt
        go_upto_region 13 with (go_at_call 12; (with_reducible refine (H3.out _ HR3.out).mono ?_); rintro e w3 ⟨⟨rfl, -⟩, hb⟩; have HL3 := Lib.hid (HL3.out.trans (hb.mono HL3.out.size)); have HR3 := Lib.hid (HR3.out.next hb); clear hb)
        have hv := (Below.refl w3.heap.size w3).alloc (Nat.le_refl _) (.cells #[.int .i64 0, .string ⟨#[]⟩, .int .i64 0, .slice none 0 0, .slice none 0 0] 36)
        have hz := newBlk w3 (.cells #[.int .i64 0, .string ⟨#[]⟩, .int .i64 0, .slice none 0 0, .slice none 0 0] 36) w3.heap.size rfl
        have hzl : w3.heap.size < (w3.alloc (.cells #[.int .i64 0, .string ⟨#[]⟩, .int .i64 0, .slice none 0 0, .slice none 0 0] 36)).heap.size := by simp
        obtain ⟨v3, hv3⟩ : ∃ v3, w3.alloc (.cells #[.int .i64 0, .string ⟨#[]⟩, .int .i64 0, .slice none 0 0, .slice none 0 0] 36) = v3 := ⟨_, rfl⟩
        rw [hv3] at hv hz hzl ⊢
        clear hv3
        obtain ⟨⟨a0, a1, a2, a3, a4⟩, -⟩ := row5f hz
        have HR4 := Lib.hid (HR3.out.next hv)
        have HL4 := Lib.hid (HL3.out.trans (hv.mono HL3.out.size))
        clear hv hz
        go_upto_region 17 with (first
          | (go_at_call 10; (with_reducible refine (same_z9 _).mono ?_); rintro e w4 ⟨rfl, hb⟩; have HL5 := Lib.hid (HL4.out.trans (hb.mono HL4.out.size)); have HR5 := Lib.hid (HR4.out.next hb); clear hb)
          | (go_at_call 7; (with_reducible refine (HK.out _ HR5.out).mono ?_); rintro e w5 ⟨rfl, hb⟩; have HL6 := Lib.hid (HL5.out.trans (hb.mono HL5.out.size)); clear hb))
        go_ret
        exact ⟨rfl, HL6.out⟩
theorem rclauses_any (s : ByteArray) (w : World) (hr : Rng w) :
    Calls Tryz.prog 3 #[.string s] w fun e w' => e = .returned (.bool true) ∧ Below w.heap.size w w' := by
  by_cases hz : 9000 < s.size
  · have HK := Lib.hid (fun u h => rknows_any u h)
    have HR := Lib.hid hr
    clear hr
    go_enter Tryz.func3, Tryz.ntmps3
    go_wp2_with (go_at_call 7; refine (HK.out _ HR.out).mono ?_; rintro e w1 ⟨rfl, hb1⟩; have HB1 := Lib.hid hb1; clear hb1)
    go_ret
    exact ⟨rfl, HB1.out⟩
  · cases hrd : readE (bs s) with
    | error e => exact rcl_no s w hr (by omega) hrd
    | ok l => exact rcl_ok s w hr (by omega) hrd
end Go.Proofs.YtilfglcjcmpfeaaGreatDoor
