/-
  ReadNumbers' body.
-/
import Derived.Test.YtilfglcjcmpfeaaGreatDoorChR
import Derived.Test.YtilfglcjcmpfeaaGreatDoorNumR
namespace Go.Proofs.YtilfglcjcmpfeaaGreatDoor
open Go.RowKit

theorem right_sz9 {t : Tm} (h : t.right = true) : t.size ≤ 3000 := by
  simp only [Tm.right, Bool.and_eq_true, decide_eq_true_eq] at h
  exact h.1.2
/-- A clause's term that is numbered already, by Number. -/
theorem num_one9 (t : Tm) (n : Nat) (hr : t.right = true) (hv : vsT t [] = places n) (w : World) (sv : Value) (hsl : Tm.sliceIn w w.heap.size [t] sv) :
    Calls Tryz.prog 13 #[sv] w fun e w' => ∃ b o c sv', (e = .returned (.tuple #[.slice (some ⟨b, o, none⟩) 1 c, .int .i64 (n : Nat), .int .i64 0]) ∧ TmAt w' b o t sv') ∧ Below w.heap.size w w' := by
  have hsz : t.size ≤ 3000 := right_sz9 hr
  refine (number_all [t] w sv hsl (by simp only [Tm.sizes]; omega)).mono ?_
  rintro e w' ⟨⟨g, c, rfl, hs⟩, hb⟩
  obtain ⟨h1, h2, h3⟩ := num_self hr hv
  rw [h1] at hs ⊢
  rw [h2, h3]
  obtain ⟨b, o, sv', rfl, hat⟩ := TmAt.of hs 0 (by simp)
  exact ⟨b, o, c, sv', ⟨rfl, by simpa using hat⟩, hb⟩
theorem rright_t9 {t : Tm} (hr : t.right = true) (w : World) (sv : Value) (h : Tm.inn w w.heap.size t sv) : Calls Tryz.prog 14 #[.agg #[.int .i64 t.kind, .string t.name, .int .i64 t.n, sv]] w fun e w' => e = .returned (.bool true) ∧ Below w.heap.size w w' :=
  (rright_any t w _ sv (Nat.le_refl _) h (by have := right_sz9 hr; omega)).mono fun e w' h => by
    rw [hr] at h
    exact h
/-- What the law holds behind Number. -/
structure NH (w0 : World) (t : Tm) (ns : Names) (b1 b2 o2 b3 p3 : Nat) (sv1 sv2 nv : Value) (W : World) : Prop where
  a1 : TmAt W b1 0 t sv1
  a2 : TmAt W b2 o2 t sv2
  l3 : b3 < W.heap.size
  c3 : W.cell? ⟨b3, p3, none⟩ = some nv
  low : Below w0.heap.size w0 W
  rng : Rng W
theorem NH.next {w0 : World} {t : Tm} {ns : Names} {b1 b2 o2 b3 p3 : Nat} {sv1 sv2 nv : Value} {W W' : World} (h : NH w0 t ns b1 b2 o2 b3 p3 sv1 sv2 nv W) (hb : Below W.heap.size W W') : NH w0 t ns b1 b2 o2 b3 p3 sv1 sv2 nv W' :=
  ⟨h.a1.next hb, h.a2.next hb, Nat.lt_of_lt_of_le h.l3 hb.size, (World.cell?_of_block (a := ⟨b3, p3, none⟩) (hb.block b3 h.l3)).trans h.c3, h.low.trans (hb.mono h.low.size), h.rng.next hb⟩
set_option maxRecDepth 100000 in
set_option maxHeartbeats 8000000 in
theorem rnu_no (s : ByteArray) (w : World) (hr : Rng w) (hs : s.size ≤ 9000) {k pl : Nat} (hrd : readE (bs s) = .error (k, pl)) :
    Calls Tryz.prog 4 #[.string s] w fun e w' => e = .returned (.bool true) ∧ Below w.heap.size w w' := by
  have hpl := read_bad hrd
  rw [bs_length] at hpl
  dsimp only at hpl
  have H1 := Lib.hid (fun u h => clsP_no (w := u) h (by omega) hrd)
  have HK := Lib.hid (fun u h => rknows_any u h)
  have HB := Lib.hid (Below.refl w.heap.size w)
  have HR := Lib.hid hr
  clear hr
  have hpl1 : (0 : Int) ≤ (pl : Int) := by omega
  have hpl2 : (pl : Int) ≤ (s.size : Int) := by omega
  clear hrd hpl
  go_enter Tryz.func4, Tryz.ntmps4
  go_upto_region 4 with (go_at_call 8; (with_reducible refine (H1.out _ HR.out).mono ?_); rintro e w1 ⟨⟨g1, c1, rfl, hk⟩, hb⟩; have HB := Lib.hid (HB.out.trans (hb.mono HB.out.size)); have HR := Lib.hid (HR.out.next hb); clear hb)
  have kd2 : ((k : Int) != 0) = true := by rw [bne_iff_ne]; omega
  have kd3 : ((k : Int) == 0) = false := by rw [beq_eq_false_iff_ne]; omega
  clear hk
  go_wp2_with (go_at_call 7; (with_reducible refine (HK.out _ HR.out).mono ?_); rintro e w4 ⟨rfl, hb4⟩; have HB := Lib.hid (HB.out.trans (hb4.mono HB.out.size)); have HR := Lib.hid (HR.out.next hb4); clear hb4)
  go_ret
  exact ⟨rfl, HB.out⟩
set_option maxRecDepth 100000 in
set_option maxHeartbeats 8000000 in
theorem rnu_ok (s : ByteArray) (w : World) (hr : Rng w) (hs : s.size ≤ 9000) {l : List Cl} (hrd : readE (bs s) = .ok l) :
    Calls Tryz.prog 4 #[.string s] w fun e w' => e = .returned (.bool true) ∧ Below w.heap.size w w' := by
  obtain ⟨hl8, hlc⟩ := read_len hrd
  have HNU := Lib.hid (read_num hrd)
  have HLC := Lib.hid hlc
  have H1 := Lib.hid (fun u h => clsP_ok (w := u) h (by omega) hrd)
  have HK := Lib.hid (fun u h => rknows_any u h)
  have HB := Lib.hid (Below.refl w.heap.size w)
  have HR := Lib.hid hr
  clear hr
  clear hrd hlc
  go_enter Tryz.func4, Tryz.ntmps4
  go_wp2_with (go_at_call 8; (with_reducible refine (H1.out _ HR.out).mono ?_); rintro e w1 ⟨⟨gl1, cl1, rfl, hl⟩, hb⟩; have HT1 := Lib.hid hl; clear hl; have HB := Lib.hid (HB.out.trans (hb.mono HB.out.size)); have HR := Lib.hid (HR.out.next hb); clear hb)
  have HBW := HB
  go_loopw [6] (fun i wr => ∃ q : Nat, q ≤ l.length ∧ i = .int .i64 q ∧ Below w1.heap.size w1 wr) (fun i _ => l.length - (intOf i).toNat)
  case atStart => exact ⟨0, Nat.zero_le _, rfl, Below.refl _ _⟩
  case round =>
    obtain ⟨q, hq, rfl, hb⟩ := hrel
    obtain ⟨wx, rfl⟩ : ∃ wx, wx = wr := ⟨_, rfl⟩
    have HB := Lib.hid hb
    clear hb
    by_cases hlt : q < l.length
    · obtain ⟨b1, o1, cap1, g1, m1, c1, gn1, cn1, e1, hb1, -, x0, x1, x2, x3, x4, x5, x6⟩ := clsIn_at (clsIn_below HT1.out HB.out.size HB.out) q hlt
      injection e1 with e1 _ e4
      subst e1 e4
      have hns := (HLC.out _ (List.getElem_mem hlt)).2
      have hri := (HLC.out _ (List.getElem_mem hlt)).1
      have hvs := (HNU.out _ (List.getElem_mem hlt)).2
      obtain ⟨⟨t, ns⟩, htn⟩ : ∃ c, l[q] = c := ⟨_, rfl⟩
      rw [htn] at x0 x1 x2 x4 x5 x6 hns hri hvs
      dsimp only at x0 x1 x2 x4 x5 x6 hns hri hvs
      have j0 : (0 : Int) ≤ (q : Int) := by omega
      have j1 : (q : Int) < (l.length : Int) := by omega
      have jz : (0 : Int) + (q : Int) = (q : Int) := by omega
      have jw : IntKind.i64.wrap (q : Int) = (q : Int) := by rw [IntKind.wrap_i64]; omega
      have HN1 := Lib.hid (fun w sv h => num_one9 t ns.length hri hvs w sv h)
      have HX5 := Lib.hid x5
      have HRI := Lib.hid hri
      clear htn hvs x5 x6 hri
      go_upto_region 10 with fail
      have hv := (Below.refl wx.heap.size wx).alloc (Nat.le_refl _) (.cells #[.int .i64 t.kind, .string t.name, .int .i64 t.n, .slice g1 m1 c1] 33)
      have hz := newBlk wx (.cells #[.int .i64 t.kind, .string t.name, .int .i64 t.n, .slice g1 m1 c1] 33) wx.heap.size rfl
      have hzl : wx.heap.size < (wx.alloc (.cells #[.int .i64 t.kind, .string t.name, .int .i64 t.n, .slice g1 m1 c1] 33)).heap.size := by simp
      obtain ⟨v, hv1⟩ : ∃ v, wx.alloc (.cells #[.int .i64 t.kind, .string t.name, .int .i64 t.n, .slice g1 m1 c1] 33) = v := ⟨_, rfl⟩
      rw [hv1] at hv hz hzl ⊢
      clear hv1
      have a1 : TmAt v wx.heap.size 0 t (.slice g1 m1 c1) := by
        obtain ⟨⟨z0, z1, z2, z3⟩, -⟩ := row4 hz
        exact ⟨z0, z1, z2, z3, Tm.inn_mono (Tm.inn_below HX5.out hv (Nat.le_refl _)) hv.size⟩
      obtain ⟨z0, z1, z2, z3, _⟩ := id a1
      have hb1v : b1 < v.heap.size := Nat.lt_of_lt_of_le hb1 hv.size
      have hnv : v.cell? ⟨b1, o1 + q * 5 + 4, none⟩ = some (.slice gn1 ns.length cn1) := (World.cell?_of_block (a := ⟨b1, o1 + q * 5 + 4, none⟩) (hv.block b1 hb1)).trans x4
      have HLV := Lib.hid (HB.out.trans (hv.mono HB.out.size))
      have HRV := Lib.hid ((HR.out.next HB.out).next hv)
      have hv2 := (Below.refl v.heap.size v).alloc (Nat.le_refl _) (.cells #[.int .i64 t.kind, .string t.name, .int .i64 t.n, .slice g1 m1 c1] 33)
      have hone := one_slice1 (newBlk v (.cells #[.int .i64 t.kind, .string t.name, .int .i64 t.n, .slice g1 m1 c1] 33) v.heap.size rfl) (Tm.inn_mono (Tm.inn_below a1.inn hv2 (Nat.le_refl _)) hv2.size)
      have HONE := Lib.hid hone
      have A1 := Lib.hid a1
      have HV2 := Lib.hid hv2
      have HNV := Lib.hid hnv
      clear hv hz hv2 hone a1 hnv x0 x1 x2 x3 x4 hb1
      go_upto_region 11 with (go_at_call 13; (with_reducible refine (HN1.out _ _ HONE.out).mono ?_); rintro e w2 ⟨b2, o2, c2, sv2, ⟨rfl, ha2⟩, hb⟩; have HB2 := Lib.hid (HV2.out.trans (hb.mono HV2.out.size)); have HA2 := Lib.hid ha2; clear ha2 hb)
      have hh : NH w1 t ns wx.heap.size b2 o2 b1 (o1 + q * 5 + 4) (.slice g1 m1 c1) sv2 (.slice gn1 ns.length cn1) w2 := ⟨A1.out.next HB2.out, HA2.out, Nat.lt_of_lt_of_le hb1v HB2.out.size, (World.cell?_of_block (a := ⟨b1, o1 + q * 5 + 4, none⟩) (HB2.out.block b1 hb1v)).trans HNV.out, HLV.out.trans (HB2.out.mono HLV.out.size), HRV.out.next HB2.out⟩
      obtain ⟨x0, x1, x2, x3, _⟩ := id hh.a1
      obtain ⟨y0, y1, y2, y3, _⟩ := id hh.a2
      have xn := hh.c3
      have HSC := Lib.hid (fun W1 (h : NH w1 t ns wx.heap.size b2 o2 b1 (o1 + q * 5 + 4) (.slice g1 m1 c1) sv2 (.slice gn1 ns.length cn1) W1) => (⟨h.a1.c0, h.a1.c1, h.a1.c2, h.a1.c3, h.a2.c0, h.a2.c1, h.a2.c2, h.a2.c3, h.c3, h⟩ : W1.cell? ⟨wx.heap.size, 0, none⟩ = some (.int .i64 t.kind) ∧ W1.cell? ⟨wx.heap.size, 1, none⟩ = some (.string t.name) ∧ W1.cell? ⟨wx.heap.size, 2, none⟩ = some (.int .i64 t.n) ∧ W1.cell? ⟨wx.heap.size, 3, none⟩ = some (.slice g1 m1 c1) ∧ W1.cell? ⟨b2, o2, none⟩ = some (.int .i64 t.kind) ∧ W1.cell? ⟨b2, o2 + 1, none⟩ = some (.string t.name) ∧ W1.cell? ⟨b2, o2 + 2, none⟩ = some (.int .i64 t.n) ∧ W1.cell? ⟨b2, o2 + 3, none⟩ = some sv2 ∧ W1.cell? ⟨b1, o1 + q * 5 + 4, none⟩ = some (.slice gn1 ns.length cn1) ∧ NH w1 t ns wx.heap.size b2 o2 b1 (o1 + q * 5 + 4) (.slice g1 m1 c1) sv2 (.slice gn1 ns.length cn1) W1))
      have hs : w2.drew.cell? ⟨wx.heap.size, 0, none⟩ = some (.int .i64 t.kind) ∧ w2.drew.cell? ⟨wx.heap.size, 1, none⟩ = some (.string t.name) ∧ w2.drew.cell? ⟨wx.heap.size, 2, none⟩ = some (.int .i64 t.n) ∧ w2.drew.cell? ⟨wx.heap.size, 3, none⟩ = some (.slice g1 m1 c1) ∧ w2.drew.cell? ⟨b2, o2, none⟩ = some (.int .i64 t.kind) ∧ w2.drew.cell? ⟨b2, o2 + 1, none⟩ = some (.string t.name) ∧ w2.drew.cell? ⟨b2, o2 + 2, none⟩ = some (.int .i64 t.n) ∧ w2.drew.cell? ⟨b2, o2 + 3, none⟩ = some sv2 ∧ w2.drew.cell? ⟨b1, o1 + q * 5 + 4, none⟩ = some (.slice gn1 ns.length cn1) ∧ NH w1 t ns wx.heap.size b2 o2 b1 (o1 + q * 5 + 4) (.slice g1 m1 c1) sv2 (.slice gn1 ns.length cn1) w2.drew := HSC.out _ (hh.next (Below.refl w2.heap.size w2).drew)
      have HST := Lib.hid (fun W1 W2 (h : W1.cell? ⟨wx.heap.size, 0, none⟩ = some (.int .i64 t.kind) ∧ W1.cell? ⟨wx.heap.size, 1, none⟩ = some (.string t.name) ∧ W1.cell? ⟨wx.heap.size, 2, none⟩ = some (.int .i64 t.n) ∧ W1.cell? ⟨wx.heap.size, 3, none⟩ = some (.slice g1 m1 c1) ∧ W1.cell? ⟨b2, o2, none⟩ = some (.int .i64 t.kind) ∧ W1.cell? ⟨b2, o2 + 1, none⟩ = some (.string t.name) ∧ W1.cell? ⟨b2, o2 + 2, none⟩ = some (.int .i64 t.n) ∧ W1.cell? ⟨b2, o2 + 3, none⟩ = some sv2 ∧ W1.cell? ⟨b1, o1 + q * 5 + 4, none⟩ = some (.slice gn1 ns.length cn1) ∧ NH w1 t ns wx.heap.size b2 o2 b1 (o1 + q * 5 + 4) (.slice g1 m1 c1) sv2 (.slice gn1 ns.length cn1) W1) (hb : Below W1.heap.size W1 W2) => HSC.out W2 (h.2.2.2.2.2.2.2.2.2.next hb))
      have HSM := Lib.hid (fun W1 (h : W1.cell? ⟨wx.heap.size, 0, none⟩ = some (.int .i64 t.kind) ∧ W1.cell? ⟨wx.heap.size, 1, none⟩ = some (.string t.name) ∧ W1.cell? ⟨wx.heap.size, 2, none⟩ = some (.int .i64 t.n) ∧ W1.cell? ⟨wx.heap.size, 3, none⟩ = some (.slice g1 m1 c1) ∧ W1.cell? ⟨b2, o2, none⟩ = some (.int .i64 t.kind) ∧ W1.cell? ⟨b2, o2 + 1, none⟩ = some (.string t.name) ∧ W1.cell? ⟨b2, o2 + 2, none⟩ = some (.int .i64 t.n) ∧ W1.cell? ⟨b2, o2 + 3, none⟩ = some sv2 ∧ W1.cell? ⟨b1, o1 + q * 5 + 4, none⟩ = some (.slice gn1 ns.length cn1) ∧ NH w1 t ns wx.heap.size b2 o2 b1 (o1 + q * 5 + 4) (.slice g1 m1 c1) sv2 (.slice gn1 ns.length cn1) W1) => same_t9 t W1 sv2 (.slice g1 m1 c1) h.2.2.2.2.2.2.2.2.2.a2.inn h.2.2.2.2.2.2.2.2.2.a1.inn)
      have HSR := Lib.hid (fun W1 (h : W1.cell? ⟨wx.heap.size, 0, none⟩ = some (.int .i64 t.kind) ∧ W1.cell? ⟨wx.heap.size, 1, none⟩ = some (.string t.name) ∧ W1.cell? ⟨wx.heap.size, 2, none⟩ = some (.int .i64 t.n) ∧ W1.cell? ⟨wx.heap.size, 3, none⟩ = some (.slice g1 m1 c1) ∧ W1.cell? ⟨b2, o2, none⟩ = some (.int .i64 t.kind) ∧ W1.cell? ⟨b2, o2 + 1, none⟩ = some (.string t.name) ∧ W1.cell? ⟨b2, o2 + 2, none⟩ = some (.int .i64 t.n) ∧ W1.cell? ⟨b2, o2 + 3, none⟩ = some sv2 ∧ W1.cell? ⟨b1, o1 + q * 5 + 4, none⟩ = some (.slice gn1 ns.length cn1) ∧ NH w1 t ns wx.heap.size b2 o2 b1 (o1 + q * 5 + 4) (.slice g1 m1 c1) sv2 (.slice gn1 ns.length cn1) W1) => rright_t9 HRI.out W1 (.slice g1 m1 c1) h.2.2.2.2.2.2.2.2.2.a1.inn)
      have hl1 := hh.l3
      have hl2 := hh.a1.lt
      have hl3 := hh.a2.lt
      clear hh
      go_wp2_with fail
      go_region_held3 (fun W1 => W1.cell? ⟨wx.heap.size, 0, none⟩ = some (.int .i64 t.kind) ∧ W1.cell? ⟨wx.heap.size, 1, none⟩ = some (.string t.name) ∧ W1.cell? ⟨wx.heap.size, 2, none⟩ = some (.int .i64 t.n) ∧ W1.cell? ⟨wx.heap.size, 3, none⟩ = some (.slice g1 m1 c1) ∧ W1.cell? ⟨b2, o2, none⟩ = some (.int .i64 t.kind) ∧ W1.cell? ⟨b2, o2 + 1, none⟩ = some (.string t.name) ∧ W1.cell? ⟨b2, o2 + 2, none⟩ = some (.int .i64 t.n) ∧ W1.cell? ⟨b2, o2 + 3, none⟩ = some sv2 ∧ W1.cell? ⟨b1, o1 + q * 5 + 4, none⟩ = some (.slice gn1 ns.length cn1) ∧ NH w1 t ns wx.heap.size b2 o2 b1 (o1 + q * 5 + 4) (.slice g1 m1 c1) sv2 (.slice gn1 ns.length cn1) W1)
        (first | with_reducible exact hs | exact HST.out _ _ (by assumption) (by assumption))
        (first
          | (go_at_call 10; (with_reducible refine (HSM.out _ (by assumption)).mono ?_); rintro e w' ⟨rfl, hb⟩)
          | (go_at_call 14; (with_reducible refine (HSR.out _ (by assumption)).mono ?_); rintro e w' ⟨rfl, hb⟩))
      rename_i hheld
      have HX := Lib.hid hheld.2.2.2.2.2.2.2.2.2.low
      clear hheld hs HSC HST HSM HSR
      go_wp2_with fail
      go_roundw
      case rel => exact ⟨q + 1, by omega, by go_num, HX.out⟩
      case measure => simp [intOf]; omega
    · obtain rfl : l.length = q := by omega
      have HR := Lib.hid (HR.out.next HB.out)
      have HB := Lib.hid (HBW.out.trans (HB.out.mono HBW.out.size))
      go_wp2_with (go_at_call 7; (with_reducible refine (HK.out _ HR.out).mono ?_); rintro e w4 ⟨rfl, hb4⟩; have HB := Lib.hid (HB.out.trans (hb4.mono HB.out.size)); have HR := Lib.hid (HR.out.next hb4); clear hb4)
      go_ret
      exact ⟨rfl, HB.out⟩
theorem rnumbers_any (s : ByteArray) (w : World) (hr : Rng w) :
    Calls Tryz.prog 4 #[.string s] w fun e w' => e = .returned (.bool true) ∧ Below w.heap.size w w' := by
  by_cases hz : 9000 < s.size
  · have HK := Lib.hid (fun u h => rknows_any u h)
    have HB := Lib.hid (Below.refl w.heap.size w)
    have HR := Lib.hid hr
    clear hr
    go_enter Tryz.func4, Tryz.ntmps4
    go_wp2_with (go_at_call 7; (with_reducible refine (HK.out _ HR.out).mono ?_); rintro e w4 ⟨rfl, hb4⟩; have HB := Lib.hid (HB.out.trans (hb4.mono HB.out.size)); have HR := Lib.hid (HR.out.next hb4); clear hb4)
    go_ret
    exact ⟨rfl, HB.out⟩
  · cases hrd : readE (bs s) with
    | error e => exact rnu_no s w hr (by omega) hrd
    | ok l => exact rnu_ok s w hr (by omega) hrd
end Go.Proofs.YtilfglcjcmpfeaaGreatDoor
