/-
  The program's together: are two parts alike, and each Arg of the one embedded in that of the other, as the table tells?
-/
import Derived.Test.YtomdccejgmhfoaaEBits
import Derived.BigQuiet
import Derived.Deep.QuietTactic
namespace Go.Proofs.Ytomdccejgmhfoaa
open Go.RowKit Go.Shelf Go.Maps

/-- Does the table tell that part i is embedded in part j? -/
def hasT (bt : Nat → Nat) (j i : Nat) : Bool := (bt (47 * j + i / 64)).testBit (i % 64)
def headB (x y : Pt) : Bool := decide (x.t.kind = y.t.kind ∧ x.t.name = y.t.name ∧ x.at'.length = y.at'.length)
/-- The first k Args. -/
def togTo (bt : Nat → Nat) (x y : Pt) (k : Nat) : Bool := decide (∀ i (_ : i < k) (h : i < y.at'.length) (h' : i < x.at'.length), hasT bt y.at'[i] x.at'[i] = true)
def togB (bt : Nat → Nat) (x y : Pt) : Bool := headB x y && togTo bt x y y.at'.length
theorem togTo_succ {bt : Nat → Nat} {x y : Pt} {k : Nat} (hy : k < y.at'.length) (hx : k < x.at'.length) : togTo bt x y (k + 1) = (togTo bt x y k && hasT bt y.at'[k] x.at'[k]) := by
  rw [Bool.eq_iff_iff]
  simp only [togTo, Bool.and_eq_true, decide_eq_true_eq]
  constructor
  · intro h
    exact ⟨fun i hi a b => h i (by omega) a b, h k (by omega) hy hx⟩
  · rintro ⟨h1, h2⟩ i hi a b
    by_cases e : i < k
    · exact h1 i e a b
    · obtain rfl : i = k := by omega
      exact h2
theorem togTo_stop {bt : Nat → Nat} {x y : Pt} {k n : Nat} (hk : k ≤ n) (h : togTo bt x y k = false) : togTo bt x y n = false := by
  rw [Bool.eq_false_iff] at h ⊢
  intro h2
  refine h ?_
  simp only [togTo, decide_eq_true_eq] at h2 ⊢
  exact fun i hi a b => h2 i (by omega) a b
def TogPost (w : World) (r : Bool) (e : Ending) (w' : World) : Prop := e = .returned (.bool r) ∧ ∃ n, w' = w.drewN n

set_option maxRecDepth 100000 in
set_option maxHeartbeats 1600000 in
theorem tog_core (kx ky mx my : Int) (sx sy : ByteArray) (lx ly : List Tm) (ax ay : List Nat) (gx gy : Option Addr) (cx cy : Nat) (ux uy : Value) (b1 b2 o1 o2 tb tc m n1 : Nat) (ok1 ok2 : Nat → Prop) (bt : Nat → Nat) (w : World)
    (x0 : w.cell? ⟨b1, o1, none⟩ = some (.int .i64 kx)) (x1 : w.cell? ⟨b1, o1 + 1, none⟩ = some (.string sx)) (_x2 : w.cell? ⟨b1, o1 + 2, none⟩ = some (.int .i64 mx)) (_x3 : w.cell? ⟨b1, o1 + 3, none⟩ = some ux) (x4 : w.cell? ⟨b1, o1 + 4, none⟩ = some (.slice gx ax.length cx))
    (y0 : w.cell? ⟨b2, o2, none⟩ = some (.int .i64 ky)) (y1 : w.cell? ⟨b2, o2 + 1, none⟩ = some (.string sy)) (_y2 : w.cell? ⟨b2, o2 + 2, none⟩ = some (.int .i64 my)) (_y3 : w.cell? ⟨b2, o2 + 3, none⟩ = some uy) (y4 : w.cell? ⟨b2, o2 + 4, none⟩ = some (.slice gy ay.length cy))
    (k1 : atIn w ok1 ax (.slice gx ax.length cx)) (k2 : atIn w ok2 ay (.slice gy ay.length cy)) (hbt : BTab w tb (47 * m) bt) (hn1 : n1 ≤ 3000) (_hm : m ≤ 3000) (p1 : ∀ k (h : k < ax.length), ax[k] < n1) (p2 : ∀ k (h : k < ay.length), ay[k] < m) (_hlen : ax.length ≤ 1000000) (_hlen2 : ay.length ≤ 1000000) :
    Calls Try.prog 75 #[.pointer (some ⟨b1, o1, none⟩), .pointer (some ⟨b2, o2, none⟩), .slice (some ⟨tb, 0, none⟩) m tc] w fun e w' => TogPost w (togB bt ⟨.mk kx sx mx lx, ax⟩ ⟨.mk ky sy my ly, ay⟩) e w' := by
  have K1 := Lib.hid k1
  have K2 := Lib.hid k2
  have P1 := Lib.hid p1
  have P2 := Lib.hid p2
  have BT := Lib.hid hbt
  clear k1 k2 p1 p2 hbt
  by_cases hk : kx = ky
  · subst hk
    by_cases hs : sx = sy
    · subst hs
      by_cases hl : ax.length = ay.length
      · obtain ⟨n, en⟩ : ∃ n, ay.length = n := ⟨_, rfl⟩
        rw [en] at hl y4
        rw [hl] at x4
        have HX := Lib.hid hl
        have HY := Lib.hid en
        have hr : togB bt ⟨.mk kx sx mx lx, ax⟩ ⟨.mk kx sx my ly, ay⟩ = togTo bt ⟨.mk kx sx mx lx, ax⟩ ⟨.mk kx sx my ly, ay⟩ n := by simp [togB, headB, Tm.kind, Tm.name, hl, en]
        rw [hr]
        clear hr hl en
        go_enter Try.func75, Try.ntmps75
        go_wp2_with fail
        go_region
        go_wp2_with fail
        go_loopw [7, 8, 51] (fun _ _ i wr => ∃ k : Nat, k ≤ n ∧ i = .int .i64 k ∧ Hid ((∃ q, wr = w.drewN q) ∧ togTo bt ⟨.mk kx sx mx lx, ax⟩ ⟨.mk kx sx my ly, ay⟩ k = true)) (fun _ _ i _ => n - (intOf i).toNat)
        case atStart => exact ⟨0, Nat.zero_le _, rfl, Lib.hid ⟨⟨1, rfl⟩, by simp [togTo]⟩⟩
        case round =>
          obtain ⟨wz, rfl⟩ : ∃ x, x = wr := ⟨_, rfl⟩
          obtain ⟨k, hk, rfl, hbl⟩ := hrel
          have HBL := Lib.hid hbl.out
          have hcl : ∀ a, wz.cell? a = w.cell? a := fun a => by obtain ⟨⟨q, hq⟩, _⟩ := HBL.out; rw [hq]; rfl
          have z4 := (hcl _).trans x4
          clear hbl x0 x1 _x2 _x3 x4 y0 y1 _y2 _y3 y4
          by_cases hlt : k < n
          · have hka : k < ay.length := by rw [HY.out]; exact hlt
            have hkx : k < ax.length := by rw [HX.out]; exact hlt
            obtain ⟨by', rfl, _, _, hcy⟩ := K2.out.get hka
            obtain ⟨bx', rfl, _, _, hcx⟩ := K1.out.get hkx
            have hpx := P1.out k hkx
            have hpy := P2.out k hka
            obtain ⟨i, hi⟩ : ∃ i, ax[k] = i := ⟨_, rfl⟩
            obtain ⟨j, hj⟩ : ∃ j, ay[k] = j := ⟨_, rfl⟩
            rw [hi] at hcx hpx
            rw [hj] at hcy hpy
            have zx := (hcl _).trans hcx
            have zy := (hcl _).trans hcy
            have hbt : wz.cell? ⟨tb, 47 * j + i / 64, none⟩ = some (.int .u64 (bt (47 * j + i / 64) : Nat)) := (hcl _).trans (BT.out.cell (by omega))
            have hh : ∀ u : World, u.cell? ⟨tb, 47 * j + i / 64, none⟩ = some (.int .u64 (bt (47 * j + i / 64) : Nat)) → Calls Try.prog 77 #[.pointer (some ⟨tb, j * 47, none⟩), .int .i64 (i : Nat)] u fun e w' => e = .returned (.bool (hasT bt j i)) ∧ w' = u := fun u hu =>
              (has_any tb (j * 47) i _ u (by omega) (BT.out.2 _) (by rw [show j * 47 + i / 64 = 47 * j + i / 64 by omega]; exact hu)).mono fun e w' ⟨h1, h2⟩ => ⟨h1, h2.symm⟩
            have HH := Lib.hid hh
            have HBT := Lib.hid hbt
            have HI := Lib.hid hi
            have HJ := Lib.hid hj
            have hsucc : togTo bt ⟨.mk kx sx mx lx, ax⟩ ⟨.mk kx sx my ly, ay⟩ (k + 1) = (togTo bt ⟨.mk kx sx mx lx, ax⟩ ⟨.mk kx sx my ly, ay⟩ k && hasT bt ay[k] ax[k]) := togTo_succ hka hkx
            rw [hi, hj, HBL.out.2, Bool.true_and] at hsucc
            have HSU := Lib.hid hsucc
            clear hcl hcx hcy hbt hh hi hj hsucc
            cases hb : hasT bt j i with
            | true =>
              rw [hb] at HH HSU
              clear hb
              go_wp2_with fail
              go_quiet ((go_at_call 77; exact Calls.quiet_of_same (HH.out _ HBT.out)))
              go_wp2_with fail
              refine ⟨⟨k + 1, by omega, by go_num, Lib.hid ⟨?_, HSU.out⟩⟩, by simp [intOf]; omega⟩
              obtain ⟨⟨q, hq⟩, _⟩ := HBL.out
              exact ⟨q + nq, by rw [hq, World.drewN_drewN]⟩
            | false =>
              rw [hb] at HH HSU
              clear hb
              go_wp2_with fail
              go_quiet ((go_at_call 77; exact Calls.quiet_of_same (HH.out _ HBT.out)))
              go_wp2_with fail
              go_ret
              rw [togTo_stop (show k + 1 ≤ n by omega) HSU.out]
              obtain ⟨⟨q, hq⟩, _⟩ := HBL.out
              exact ⟨rfl, q + nq, by rw [hq, World.drewN_drewN]⟩
          · obtain rfl : n = k := by omega
            clear hcl
            go_wp2_with fail
            go_ret
            obtain ⟨hq, ht⟩ := HBL.out
            rw [ht]
            exact ⟨rfl, hq⟩
      · have hr : togB bt ⟨.mk kx sx mx lx, ax⟩ ⟨.mk kx sx my ly, ay⟩ = false := by simp [togB, headB, Tm.kind, hl]
        have hb : ((ax.length : Int) == (ay.length : Int)) = false := by rw [beq_eq_false_iff_ne]; omega
        have hb' : ((ax.length : Int) != (ay.length : Int)) = true := by rw [bne_iff_ne]; omega
        rw [hr]
        clear hr hl
        go_enter Try.func75, Try.ntmps75
        go_wp2_with fail
        go_region
        go_wp2_with fail
        go_ret
        exact ⟨rfl, 1, rfl⟩
    · have hr : togB bt ⟨.mk kx sx mx lx, ax⟩ ⟨.mk kx sy my ly, ay⟩ = false := by simp [togB, headB, Tm.kind, Tm.name, hs]
      have hb0 := neS hs
      have hb1 : (sx.toList == sy.toList) = false := by simpa using hb0
      have hb2 : (sx.toList != sy.toList) = true := by simpa using hb0
      rw [hr]
      clear hr hs
      go_enter Try.func75, Try.ntmps75
      go_wp2_with fail
      go_region
      go_wp2_with fail
      go_ret
      exact ⟨rfl, 1, rfl⟩
  · have hr : togB bt ⟨.mk kx sx mx lx, ax⟩ ⟨.mk ky sy my ly, ay⟩ = false := by simp [togB, headB, Tm.kind, hk]
    have hb : (kx == ky) = false := by simpa using hk
    have hb' : (kx != ky) = true := by simpa using hk
    rw [hr]
    clear hr hk
    go_enter Try.func75, Try.ntmps75
    go_wp2_with fail
    go_region
    go_wp2_with fail
    go_ret
    exact ⟨rfl, 1, rfl⟩
theorem together_any (M1 M2 : List QM) (h1 h2 b1 b2 c1 c2 n1 n2 tb tc m : Nat) (bt : Nat → Nat) (w : World) (i j : Nat) (hi : i < M1.length) (hj : j < M2.length)
    (q1 : QAt w h1 M1 (.slice (some ⟨b1, 0, none⟩) n1 c1)) (q2 : QAt w h2 M2 (.slice (some ⟨b2, 0, none⟩) n2 c2)) (hbt : BTab w tb (47 * m) bt) (hm : M1.length ≤ 3000) (hm2 : m ≤ 3000)
    (p1 : ∀ k (h : k < M1[i].p.at'.length), M1[i].p.at'[k] < M1.length) (p2 : ∀ k (h : k < M2[j].p.at'.length), M2[j].p.at'[k] < m) (l1 : M1[i].p.at'.length ≤ 1000000) (l2 : M2[j].p.at'.length ≤ 1000000) :
    Calls Try.prog 75 #[.pointer (some ⟨b1, i * 5, none⟩), .pointer (some ⟨b2, j * 5, none⟩), .slice (some ⟨tb, 0, none⟩) m tc] w fun e w' => TogPost w (togB bt M1[i].p M2[j].p) e w' := by
  obtain ⟨_, x0, x1, x2, x3, x4⟩ := q1.get i hi
  obtain ⟨_, y0, y1, y2, y3, y4⟩ := q2.get j hj
  have k1 := q1.ks M1[i] (List.getElem_mem hi)
  have k2 := q2.ks M2[j] (List.getElem_mem hj)
  revert p1 p2 l1 l2 x0 x1 x2 x3 x4 y0 y1 y2 y3 y4 k1 k2
  generalize M1[i] = x
  generalize M2[j] = y
  intro p1 p2 l1 l2 x0 x1 x2 x3 x4 y0 y1 y2 y3 y4 k1 k2
  obtain ⟨⟨⟨kx, sx, mx, lx⟩, ax⟩, tx, zx⟩ := x
  obtain ⟨⟨⟨ky, sy, my, ly⟩, ay⟩, ty, zy⟩ := y
  obtain ⟨gx, cx, ex, _⟩ := id k1
  obtain ⟨gy, cy, ey, _⟩ := id k2
  simp only at ex ey
  subst ex ey
  exact tog_core kx ky mx my sx sy lx ly ax ay gx gy cx cy tx ty b1 b2 (i * 5) (j * 5) tb tc m M1.length _ _ bt w x0 x1 x2 x3 x4 y0 y1 y2 y3 y4 k1 k2 hbt hm hm2 p1 p2 l1 l2
end Go.Proofs.Ytomdccejgmhfoaa
