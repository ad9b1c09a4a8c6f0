/-
  The document's Numbered and Variant.
-/
import Derived.Test.YtpiflkgjmncijaaTwo
import Derived.Test.YtpiflkgjmncijaaRVars
import Derived.Test.YtpiflkgjmncijaaRefC
import Derived.Test.YtpiflkgjmncijaaRefE
import Derived.Test.YtpiflkgjmncijaaCp
import Derived.Test.YtpiflkgjmncijaaPlaces
import Derived.Deep.RegionHeld3
namespace Go.Proofs.Ytpiflkgjmncijaa
open Go.RowKit

theorem numT_turn {t : Tm} (h : t.right = true) : t.ren (toOf (varsOf [t]) (places (varsOf [t]).length)) = numT t := by
  have h1 := turn_places (l := [t]) (by simp [h])
  rw [numTms_one h] at h1
  simpa using h1

/-- What a call that makes a term answers. -/
def TmPost (t : Tm) (w : World) (e : Ending) (w' : World) : Prop :=
  (∃ g c, e = .returned (.agg #[.int .i64 t.kind, .string t.name, .int .i64 t.n, .slice g t.args.length c]) ∧ Tm.inn w' w'.heap.size t (.slice g t.args.length c)) ∧ Below w.heap.size w w'

set_option maxRecDepth 100000 in
set_option maxHeartbeats 2000000 in
theorem rnumbered_any (t : Tm) (w : World) (sv : Value) (hin : Tm.inn w w.heap.size t sv) (hr : t.right = true) :
    Calls Try.prog 40 #[.agg #[.int .i64 t.kind, .string t.name, .int .i64 t.n, sv]] w fun e w' => TmPost (numT t) w e w' := by
  have hsz : t.size ≤ 3000 := by
    have := hr
    simp only [Tm.right, Bool.and_eq_true, decide_eq_true_eq] at this
    omega
  have hbox := TmBox.new hin
  obtain ⟨_, ga, ca, rfl, _, _, _⟩ := Tm.inn_iff.1 hin
  have HR := Lib.hid hr
  have HIN := Lib.hid hin
  have HBOX := Lib.hid hbox
  clear hr hin hbox
  go_enter Try.func40, Try.ntmps40
  go_wp2_with fail
  have hb1 := HBOX.out.alloc (Obj.cells #[.int .i64 0, .string ⟨#[]⟩, .int .i64 0, .slice none 0 0] 24 (0, 0))
  have hb2 := hb1.alloc (Obj.cells #[.int .i64 t.kind, .string t.name, .int .i64 t.n, .slice ga t.args.length ca] 24 (0, 0))
  have hsl := one_slice (b := w.heap.size + 1 + 1) (W := World.alloc _ _) (newBlk (World.alloc _ _) (Obj.cells #[.int .i64 t.kind, .string t.name, .int .i64 t.n, .slice ga t.args.length ca] 24 (0, 0)) _ (by simp)) hb2.2
  have hres : ((((w.alloc (Obj.cells #[.int .i64 t.kind, .string t.name, .int .i64 t.n, .slice ga t.args.length ca] 24 (0, 0))).alloc (Obj.cells #[.int .i64 0, .string ⟨#[]⟩, .int .i64 0, .slice none 0 0] 24 (0, 0))).alloc (Obj.cells #[.int .i64 t.kind, .string t.name, .int .i64 t.n, .slice ga t.args.length ca] 24 (0, 0)))).heap[w.heap.size + 1]? = some (Obj.cells #[.int .i64 0, .string ⟨#[]⟩, .int .i64 0, .slice none 0 0] 24 (0, 0)) := by
    rw [Below.heap_alloc _ _ _ (by simp)]; exact newBlk _ _ _ (by simp)
  have hB0 : Below w.heap.size w (((w.alloc (Obj.cells #[.int .i64 t.kind, .string t.name, .int .i64 t.n, .slice ga t.args.length ca] 24 (0, 0))).alloc (Obj.cells #[.int .i64 0, .string ⟨#[]⟩, .int .i64 0, .slice none 0 0] 24 (0, 0))).alloc (Obj.cells #[.int .i64 t.kind, .string t.name, .int .i64 t.n, .slice ga t.args.length ca] 24 (0, 0))) := (((Below.refl _ w).alloc (Nat.le_refl _) _).alloc (by simp) _).alloc (by simp; omega) _
  clear hb1
  revert hb2 hsl hres hB0
  generalize (((w.alloc (Obj.cells #[.int .i64 t.kind, .string t.name, .int .i64 t.n, .slice ga t.args.length ca] 24 (0, 0))).alloc (Obj.cells #[.int .i64 0, .string ⟨#[]⟩, .int .i64 0, .slice none 0 0] 24 (0, 0))).alloc (Obj.cells #[.int .i64 t.kind, .string t.name, .int .i64 t.n, .slice ga t.args.length ca] 24 (0, 0))) = W0
  intro hb2 hsl hres hB0
  refine (rvars_any [t] W0 _ _ (Nat.le_refl _) hsl (by simp [Tm.sizes]; omega)).mono ?_
  rintro e W1 ⟨vf, rfl, hvf, hb3⟩
  rw [withs_vars [t] (by simp [Tm.plain, right_noArgs HR.out])] at hvf
  have hbox1 := hb2.next hb3
  have hres1 := (hb3.block _ (Array.getElem?_eq_some_iff.1 hres).1).trans hres
  have hB1 := hB0.trans (hb3.mono hB0.size)
  have hNT := numT_turn HR.out
  have hlen : (varsOf [t]).length ≤ 3000 := by have := varsOf_length [t]; simp [Tm.sizes] at this; omega
  have hcov := fun d x hx hk => vars_cover (l := [t]) (t := t) (by simp) d x hx hk
  obtain ⟨vs, hvs⟩ : ∃ vs, varsOf [t] = vs := ⟨_, rfl⟩
  rw [hvs] at hvf hNT hlen hcov
  obtain ⟨gf, cf, rfl, _, _, _⟩ := id hvf
  have HVF := Lib.hid hvf
  have HBOX1 := Lib.hid hbox1
  have HRES1 := Lib.hid hres1
  have HB1 := Lib.hid hB1
  have HNT := Lib.hid hNT
  have HCOV := Lib.hid hcov
  clear hvs hvf hbox1 hres1 hB1 hb2 hsl hres hB0 hb3 hNT hcov HBOX HIN
  go_wp2_with fail
  go_loopw [4, 5] (fun v i wr => ∃ k : Nat, k ≤ vs.length ∧ i = .int .i64 k ∧ Hid (ownInts wr W1.heap.size v ((places vs.length).take k)) ∧ Hid (Below W1.heap.size W1 wr)) (fun _ i _ => vs.length - (intOf i).toNat)
  case atStart => exact ⟨0, Nat.zero_le _, rfl, World.ownsRow_nil _ _ _ _, Below.refl _ _⟩
  case round =>
    obtain ⟨k, hk, rfl, hown, hbw⟩ := hrel
    have hws := hbw.out.size
    have hkl : ((places vs.length).take k).length = k := by rw [List.length_take, places_length]; omega
    by_cases hlt : k < vs.length
    · have HPT := Lib.hid (places_take vs.length k hlt)
      have HKL := Lib.hid hkl
      clear hkl
      go_wp2_with (at_builtin; refine wpList_append_ints rfl _ _ rfl W1.heap.size u4 ((places vs.length).take k) rfl (hown.out.alloc _) [(k : Int)] (some ⟨wr.heap.size, 0, none⟩) 1 rfl (src1 _ rfl) (by rw [HKL.out]; simp; omega) (by simp; omega) ?_; intro v' w' hown' hgrow hlow)
      go_roundw
      case rel => exact ⟨k + 1, by omega, by go_num, by rw [HPT.out]; exact hown', (hbw.out.alloc (by omega) _).grown hgrow (by simp; omega) (fun j e => hlow j e)⟩
      case measure => simp [intOf]; omega
    · obtain rfl : k = vs.length := by omega
      rw [List.take_of_length_le (by rw [places_length]; omega)] at hown hkl
      obtain ⟨gp, cp, rfl⟩ := owns_slice hown.out
      have hpi := ints_of_own hown.out (by rw [hkl]; omega)
      have hbx := HBOX1.out.next hbw.out
      have hrs := (hbw.out.block _ (Array.getElem?_eq_some_iff.1 HRES1.out).1).trans HRES1.out
      have hB := HB1.out.trans (hbw.out.mono HB1.out.size)
      obtain ⟨c0, c1, c2, c3⟩ := hbx.cells
      have HT := Lib.hid (turn_any vs (places vs.length) (by rw [hkl]; omega) (places_wf (by omega)) t wr wr.heap.size _ _ _ (Nat.le_refl _) hbx.2 (intsIn_mono (intsIn_below HVF.out hbw.out (Nat.le_refl _)) hws) hpi HCOV.out)
      have HRS := Lib.hid hrs
      have HB := Lib.hid hB
      clear hpi hbx hrs hB hown hkl
      go_wp2_with fail
      refine HT.out.mono ?_
      rintro e W2 ⟨g', c', rfl, hp, hb2⟩
      rw [HNT.out] at hp ⊢
      have hrs2 := (hb2.block _ (Array.getElem?_eq_some_iff.1 HRS.out).1).trans HRS.out
      obtain ⟨⟨e0, e1, e2, e3⟩, f0, f1, f2, f3⟩ := row4 hrs2
      have HP := Lib.hid hp
      have HB2 := Lib.hid (HB.out.trans (hb2.mono HB.out.size))
      have hwr := (Array.getElem?_eq_some_iff.1 HRS.out).1
      clear hp hb2 hrs2 c0 c1 c2 c3
      go_wp2_with fail
      refine bodyPost_ret (v := .agg #[.int .i64 (numT t).kind, .string (numT t).name, .int .i64 (numT t).n, .slice g' (numT t).args.length c']) (by simp [results, Try.results40, go_sem, e0, e1, e2, e3]) rfl ?_
      refine ⟨⟨g', c', rfl, ?_⟩, (((HB2.out.setCell (p := ⟨w.heap.size + 1, 0, none⟩) (by simp) _).setCell (p := ⟨w.heap.size + 1, 1, none⟩) (by simp) _).setCell (p := ⟨w.heap.size + 1, 2, none⟩) (by simp) _).setCell (p := ⟨w.heap.size + 1, 3, none⟩) (by simp) _⟩
      refine Tm.inn_of_P (ok := fun b => wr.heap.size ≤ b ∧ b < W2.heap.size) (fun b hb => by simp; exact hb.2) _ _ (Tm.innP_same (fun _ h => h) (fun b o v hb hc => ?_) _ _ HP.out)
      have hne : w.heap.size + 1 ≠ b := by omega
      rw [World.cell?_setCell_other _ _ _ _ (by intro e'; simp only [Addr.mk.injEq] at e'; omega), World.cell?_setCell_other _ _ _ _ (by intro e'; simp only [Addr.mk.injEq] at e'; omega), World.cell?_setCell_other _ _ _ _ (by intro e'; simp only [Addr.mk.injEq] at e'; omega), World.cell?_setCell_other _ _ _ _ (by intro e'; simp only [Addr.mk.injEq] at e'; omega)]
      exact hc

theorem rright_true {t : Tm} (h : t.right = true) (w : World) (sv : Value) (hin : Tm.inn w w.heap.size t sv) (hsz : t.size ≤ 1000000) :
    Calls Try.prog 16 #[.agg #[.int .i64 t.kind, .string t.name, .int .i64 t.n, sv]] w fun e w' => e = .returned (.bool true) ∧ Below w.heap.size w w' := by
  have := rright_any t w w.heap.size sv (Nat.le_refl _) hin hsz
  rwa [h] at this
theorem rright_false {t : Tm} (h : t.right = false) (w : World) (sv : Value) (hin : Tm.inn w w.heap.size t sv) (hsz : t.size ≤ 1000000) :
    Calls Try.prog 16 #[.agg #[.int .i64 t.kind, .string t.name, .int .i64 t.n, sv]] w fun e w' => e = .returned (.bool false) ∧ Below w.heap.size w w' := by
  have := rright_any t w w.heap.size sv (Nat.le_refl _) hin hsz
  rwa [h] at this
theorem held_inn {w1 w2 : World} {t : Tm} {sv : Value} (h : Tm.inn w1 w1.heap.size t sv) (hb : Below w1.heap.size w1 w2) : Tm.inn w2 w2.heap.size t sv := Tm.inn_mono (Tm.inn_below h hb (Nat.le_refl _)) hb.size

set_option maxRecDepth 100000 in
set_option maxHeartbeats 4000000 in
theorem rvariant_any (a b : Tm) (w : World) (sva svb : Value) (hia : Tm.inn w w.heap.size a sva) (hib : Tm.inn w w.heap.size b svb) (hsa : a.size ≤ 1000000) (hsb : b.size ≤ 1000000) :
    Calls Try.prog 15 #[.agg #[.int .i64 a.kind, .string a.name, .int .i64 a.n, sva], .agg #[.int .i64 b.kind, .string b.name, .int .i64 b.n, svb]] w
      fun e w' => e = .returned (.bool (isVar a b)) ∧ Below w.heap.size w w' := by
  have HV := Lib.hid (show isVar a b = (a.right && b.right && (numT a).same (numT b)) from rfl)
  have hst := TSt.start hia hib
  obtain ⟨_, ga, ca, rfl, _, _, _⟩ := Tm.inn_iff.1 hia
  obtain ⟨_, gb, cb, rfl, _, _, _⟩ := Tm.inn_iff.1 hib
  clear hia hib
  cases har : a.right with
  | false =>
    have hv := Lib.hid (show isVar a b = false from HV.out.trans (by rw [har]; simp))
    have HRA := Lib.hid (fun W h => rright_false har W (.slice ga a.args.length ca) h hsa)
    clear har HV
    go_enter Try.func15, Try.ntmps15
    go_wp2_with fail
    revert hst
    generalize ((w.alloc (Obj.cells #[.int .i64 a.kind, .string a.name, .int .i64 a.n, .slice ga a.args.length ca] 24 (0, 0))).alloc (Obj.cells #[.int .i64 b.kind, .string b.name, .int .i64 b.n, .slice gb b.args.length cb] 24 (0, 0))) = W0
    intro hst
    obtain ⟨a0, a1, a2, a3, d0, d1, d2, d3, _⟩ := hst.cells
    go_region_with (first
        | (go_at_call 16; refine (HRA.out _ (hst.next ((Below.refl _ _).drew)).ia).mono ?_; rintro e w' ⟨rfl, hb⟩))
    all_goals
      go_wp2_with fail
      go_ret
      exact ⟨ret_bool hv.out.symm, ((hst.next ((Below.refl _ _).drew)).next (by assumption)).below⟩
  | true =>
    cases hbr : b.right with
    | false =>
      have hv := Lib.hid (show isVar a b = false from HV.out.trans (by rw [har, hbr]; simp))
      have HRA := Lib.hid (fun W h => rright_true har W (.slice ga a.args.length ca) h hsa)
      have HRB := Lib.hid (fun W h => rright_false hbr W (.slice gb b.args.length cb) h hsb)
      clear har hbr HV
      go_enter Try.func15, Try.ntmps15
      go_wp2_with fail
      revert hst
      generalize ((w.alloc (Obj.cells #[.int .i64 a.kind, .string a.name, .int .i64 a.n, .slice ga a.args.length ca] 24 (0, 0))).alloc (Obj.cells #[.int .i64 b.kind, .string b.name, .int .i64 b.n, .slice gb b.args.length cb] 24 (0, 0))) = W0
      intro hst
      obtain ⟨a0, a1, a2, a3, d0, d1, d2, d3, _⟩ := hst.cells
      go_region_with (first
        | (go_at_call 16; ((with_reducible refine (HRA.out _ (hst.next ((Below.refl _ _).drew)).ia).mono ?_); rintro e w' ⟨rfl, hb⟩; have hst2 := (hst.next ((Below.refl _ _).drew)).next hb; obtain ⟨a0, a1, a2, a3, d0, d1, d2, d3, _⟩ := hst2.cells))
        | (go_at_call 16; ((with_reducible refine (HRB.out _ (TSt.ib (by assumption))).mono ?_); rintro e w'' ⟨rfl, hb'⟩)))
      all_goals
        go_wp2_with fail
        go_ret
        exact ⟨ret_bool hv.out.symm, (TSt.next (by assumption) (by assumption)).below⟩
    | true =>
      have hv := Lib.hid (show isVar a b = (numT a).same (numT b) from HV.out.trans (by rw [har, hbr]; simp))
      have HRA := Lib.hid (fun W h => rright_true har W (.slice ga a.args.length ca) h hsa)
      have HRB := Lib.hid (fun W h => rright_true hbr W (.slice gb b.args.length cb) h hsb)
      have HNA := Lib.hid (fun W h => rnumbered_any a W (.slice ga a.args.length ca) h har)
      have HNB := Lib.hid (fun W h => rnumbered_any b W (.slice gb b.args.length cb) h hbr)
      clear har hbr HV
      go_enter Try.func15, Try.ntmps15
      go_wp2_with fail
      revert hst
      generalize ((w.alloc (Obj.cells #[.int .i64 a.kind, .string a.name, .int .i64 a.n, .slice ga a.args.length ca] 24 (0, 0))).alloc (Obj.cells #[.int .i64 b.kind, .string b.name, .int .i64 b.n, .slice gb b.args.length cb] 24 (0, 0))) = W0
      intro hst
      go_region_held3 (fun W' => W'.cell? ⟨w.heap.size, 0, none⟩ = some (.int .i64 a.kind) ∧ W'.cell? ⟨w.heap.size, 1, none⟩ = some (.string a.name) ∧ W'.cell? ⟨w.heap.size, 2, none⟩ = some (.int .i64 a.n) ∧ W'.cell? ⟨w.heap.size, 3, none⟩ = some (.slice ga a.args.length ca) ∧
        W'.cell? ⟨w.heap.size + 1, 0, none⟩ = some (.int .i64 b.kind) ∧ W'.cell? ⟨w.heap.size + 1, 1, none⟩ = some (.string b.name) ∧ W'.cell? ⟨w.heap.size + 1, 2, none⟩ = some (.int .i64 b.n) ∧ W'.cell? ⟨w.heap.size + 1, 3, none⟩ = some (.slice gb b.args.length cb) ∧ TSt w a b (.slice ga a.args.length ca) (.slice gb b.args.length cb) W')
        (first | exact (hst.next ((Below.refl _ _).drew)).cells | exact TSt.step (by assumption) (by assumption))
        (first
          | (go_at_call 16; ((with_reducible refine (HRA.out _ (TSt.a' (w := w) (b := b) (svb := .slice gb b.args.length cb) (by assumption))).mono ?_); rintro e w' ⟨rfl, hb⟩))
          | (go_at_call 16; ((with_reducible refine (HRB.out _ (TSt.b' (w := w) (a := a) (sva := .slice ga a.args.length ca) (by assumption))).mono ?_); rintro e w' ⟨rfl, hb⟩))
          | (go_at_call 40; ((with_reducible refine (HNA.out _ (TSt.a' (w := w) (b := b) (svb := .slice gb b.args.length cb) (by assumption))).mono ?_); rintro e w' ⟨⟨gx, cx, rfl, hx⟩, hb⟩))
          | (go_at_call 40; ((with_reducible refine (HNB.out _ (TSt.b' (w := w) (a := a) (sva := .slice ga a.args.length ca) (by assumption))).mono ?_); rintro e w' ⟨⟨gy, cy, rfl, hy⟩, hb⟩))
          | (go_at_call 28; refine (rsame_any (numT a) (numT b) _ _ _ _ (Nat.le_refl _) (held_inn (by assumption) (by assumption)) (by assumption)).mono ?_; rintro e w' ⟨rfl, hb⟩))
      go_wp2_with fail
      go_ret
      rename_i hst
      exact ⟨ret_bool hv.out.symm, hst.2.2.2.2.2.2.2.2.below⟩
end Go.Proofs.Ytpiflkgjmncijaa
