/-
  The program's Term; its anyTerm.
-/
import Derived.Test.YtliapkajonbndaaDoorPwE
import Derived.Test.YtliapkajonbndaaDoorTermB
import Derived.Test.YtliapkajonbndaaDoorGlT
namespace Go.Proofs.YtliapkajonbndaaDoor
open Go.RowKit

def wtX (t : Tm) : List UInt8 × Nat := if t.right = false then ([], 1) else if 8000 < (tx t).length then ([], 3) else (tx t, 0)
theorem dgz_ne (n : Int) : dgz n ≠ [] := by
  unfold dgz
  split
  · simp
  · intro h
    have := dgs_pos n.toNat
    rw [h] at this
    simp at this
theorem nmX_ne {s : ByteArray} (h : 0 < s.size) : nmX (bsN s) ≠ [] := by
  unfold nmX
  split
  · intro e
    have := bsN_length s
    rw [e] at this
    simp at this
    omega
  · simp
theorem tx_ne {t : Tm} (hf : t.fair = true) : tx t ≠ [] := by
  obtain ⟨k, s, n, l⟩ := t
  rcases fair_sort hf with ⟨rfl, h0, rfl, rfl⟩ | ⟨rfl, rfl, rfl⟩ | ⟨rfl, rfl, h0, h20, h8⟩
  · simp [tx, wr, txO]
  · have : tx (.mk 2 ⟨#[]⟩ n []) = dgz n := by simp [tx, wr, txO, dgz]
    rw [this]
    exact dgz_ne n
  · by_cases hp : bsN s = [46] ∧ l.length = 2
    · obtain ⟨a, d, rfl⟩ := two_of hp.2
      show txO 3 (bsN s) 0 (wrs [a, d]) ≠ []
      simp [txO, wrs, dotO, hp.1]
    · rw [tx_fun hp]
      intro e
      exact nmX_ne h0 (List.append_eq_nil_iff.1 e).1
theorem Pr.fresh (w : World) : Pr w.heap.size [] (w.alloc (.cells #[.pointer none, .slice none 0 0] 48)) := Lib.fresh_isBuilder _ _ w
set_option maxRecDepth 100000 in
set_option maxHeartbeats 4000000 in
theorem wterm_any (t : Tm) (w : World) (sv : Value) (hin : Tm.inn w w.heap.size t sv) (hsz : t.size ≤ 1000000) (hpw : Pow w) :
    Calls Tryd.prog 7 #[.agg #[.int .i64 t.kind, .string t.name, .int .i64 t.n, sv]] w fun e w' => e = .returned (.tuple #[.string ⟨(wtX t).1.toArray⟩, .int .i64 ((wtX t).2 : Nat)]) ∧ Below w.heap.size w w' := by
  obtain ⟨_, g, cap, rfl, _, _, _⟩ := Tm.inn_iff.1 hin
  have hpl := hpw.lt
  have HIN := Lib.hid hin
  have HPW := Lib.hid hpw
  have HLX := Lib.hid (show t.right = true → (tx t).length ≤ 180000 from fun h => by
    simp only [Tm.right, Bool.and_eq_true, decide_eq_true_eq] at h
    have := (inn_len t h.1.1 w _ _ hin).1
    omega)
  have HFA := Lib.hid (show t.right = true → t.fair = true from fun h => by
    simp only [Tm.right, Bool.and_eq_true] at h
    exact h.1.1)
  have HX := Lib.hid (show wtX t = if t.right = false then ([], 1) else if 8000 < (tx t).length then ([], 3) else (tx t, 0) from rfl)
  obtain ⟨tk, htk⟩ : ∃ k, t.kind = k := ⟨_, rfl⟩
  clear hin hpw
  obtain ⟨m, hm⟩ : ∃ m, t.args.length = m := ⟨_, rfl⟩
  rw [hm] at HIN ⊢
  clear htk tk
  go_enter Tryd.func7, Tryd.ntmps7
  go_upto_region 1 with fail
  have hv := (Below.refl w.heap.size w).alloc (Nat.le_refl _) (.cells #[.int .i64 t.kind, .string t.name, .int .i64 t.n, .slice g m cap] 24)
  have hz := newBlk w (.cells #[.int .i64 t.kind, .string t.name, .int .i64 t.n, .slice g m cap] 24) w.heap.size rfl
  have hzl : w.heap.size < (w.alloc (.cells #[.int .i64 t.kind, .string t.name, .int .i64 t.n, .slice g m cap] 24)).heap.size := by simp
  obtain ⟨v, hv1⟩ : ∃ v, w.alloc (.cells #[.int .i64 t.kind, .string t.name, .int .i64 t.n, .slice g m cap] 24) = v := ⟨_, rfl⟩
  rw [hv1] at hv hz hzl ⊢
  clear hv1
  obtain ⟨⟨a0, a1, a2, a3⟩, -⟩ := row4 hz
  have HV := Lib.hid hv
  have HZ := Lib.hid hz
  have HI := Lib.hid (Tm.inn_mono (Tm.inn_below HIN.out hv (Nat.le_refl _)) hv.size)
  have HRC := Lib.hid (tright_any t v _ HI.out hsz)
  clear hv hz
  cases hrt : t.right with
  | false =>
    rw [hrt] at HRC HX
    have HX2 := Lib.hid (show wtX t = ([], 1) from HX.out)
    clear hrt
    go_wp2_with (go_at_call 17; (with_reducible refine (HRC.out.mono ?_)); rintro e w' ⟨rfl, hb⟩; have HB := Lib.hid hb; clear hb)
    go_ret2
    exact ⟨by rw [HX2.out]; rfl, HV.out.trans (HB.out.mono HV.out.size)⟩
  | true =>
    rw [hrt] at HRC HX
    have hxl := HLX.out hrt
    have hfa := HFA.out hrt
    clear hrt
    go_upto_region 4 with (go_at_call 17; (with_reducible refine (HRC.out.mono ?_)); rintro e w1 ⟨rfl, hb⟩; have HB := Lib.hid hb; clear hb)
    have hs1 := HB.out.size
    have hb2 := (Below.refl w1.heap.size w1).alloc (Nat.le_refl _) (.cells #[.pointer none, .slice none 0 0] 48)
    have HB2 := Lib.hid (HB.out.trans (hb2.mono hs1))
    have HP := Lib.hid (Pr.fresh w1)
    have HZ2 := Lib.hid ((hb2.block w.heap.size (by omega)).trans ((HB.out.block w.heap.size (by omega)).trans HZ.out))
    have HI2 := Lib.hid (Tm.inn_mono (Tm.inn_below (Tm.inn_below HI.out HB.out (Nat.le_refl _)) hb2 hs1) hs1)
    have HPW2 := Lib.hid (((HPW.out.next HV.out hpl).next HB.out (by omega)).next hb2 (by omega))
    obtain ⟨u, hu⟩ : ∃ u, w1.alloc (.cells #[.pointer none, .slice none 0 0] 48) = u := ⟨_, rfl⟩
    rw [hu] at hb2 HB2 HP HZ2 HI2 HPW2 ⊢
    clear hu hb2
    have hul := HP.out.lt
    obtain ⟨⟨d0, d1, d2, d3⟩, -⟩ := row4 HZ2.out
    have HT := Lib.hid (pterm_any t hfa w1.heap.size [] u _ HP.out HI2.out HPW2.out (by omega) (by rw [List.nil_append]; omega))
    clear a0 a1 a2 a3
    go_upto_region 5 with (go_at_call 18; (with_reducible refine (HT.out.mono ?_)); rintro e w2 ⟨rfl, hp, hf⟩; have HP2 := Lib.hid (show Pr w1.heap.size (tx t) w2 from hp); have HF2 := Lib.hid hf; clear hp hf)
    have HBW := Lib.hid (HV.out.trans ((HB2.out.trans (HF2.out.low.mono hs1)).mono (by omega)))
    have HLN := Lib.hid (plen_any w1.heap.size (tx t) w2 HP2.out)
    by_cases hl : 8000 < (tx t).length
    · have k1 : (8000 : Int) < ((tx t).length : Int) := by omega
      have HX2 := Lib.hid (show wtX t = ([], 3) by rw [HX.out]; simp [hl])
      go_wp2_with (go_at_call 19; (with_reducible refine (HLN.out.mono ?_)); rintro e w3 ⟨rfl, rfl⟩)
      go_ret2
      exact ⟨by rw [HX2.out]; rfl, HBW.out⟩
    · have k1 : ((8000 : Int) < ((tx t).length : Int)) = False := by simp only [eq_iff_iff, iff_false]; omega
      have HX2 := Lib.hid (show wtX t = (tx t, 0) by rw [HX.out]; simp [hl])
      have HTX := Lib.hid (ptext_any w1.heap.size (tx t) w2 HP2.out (tx_ne hfa))
      go_wp2_with (first
        | (go_at_call 19; (with_reducible refine (HLN.out.mono ?_)); rintro e w3 ⟨rfl, rfl⟩)
        | (go_at_call 20; (with_reducible refine (HTX.out.mono ?_)); rintro e w4 ⟨rfl, hb⟩; have HB4 := Lib.hid hb; clear hb))
      go_ret2
      exact ⟨by rw [HX2.out]; rfl, HBW.out.trans (HB4.out.mono (by omega))⟩
set_option maxRecDepth 100000 in
set_option maxHeartbeats 4000000 in
theorem pany_any (t : Tm) (b : Nat) (x : List UInt8) (w : World) (sv : Value) (hpr : Pr b x w) (hin : Tm.inn w b t sv) (hpw : Pow w) (hpg : 0 < b) (hsz : t.size ≤ 1000000) (hlx : (x ++ sureX t).length ≤ 8000000000) :
    Calls Tryd.prog 29 #[.pointer (some ⟨b, 0, none⟩), .agg #[.int .i64 t.kind, .string t.name, .int .i64 t.n, sv]] w fun e w' => e = .returned (.tuple #[]) ∧ Pr b (x ++ sureX t) w' ∧ PFr b w w' := by
  obtain ⟨_, g, cap, rfl, _, _, _⟩ := Tm.inn_iff.1 hin
  have HS := Lib.hid (PS.new hpr hin hpw hpg)
  have hl9 : x.length + (sureX t).length ≤ 8000000000 := by rw [List.length_append] at hlx; exact hlx
  clear hpr hin hpw hlx
  obtain ⟨m, hm⟩ : ∃ m, t.args.length = m := ⟨_, rfl⟩
  rw [hm] at HS ⊢
  clear hm
  go_enter Tryd.func29, Tryd.ntmps29
  go_upto_region 1 with fail
  have HS1 := Lib.hid HS.out
  clear HS
  generalize w.alloc (.cells #[.int .i64 t.kind, .string t.name, .int .i64 t.n, .slice g m cap] 24) = v at HS1 ⊢
  have c0 : v.cell? ⟨w.heap.size, 0, none⟩ = some (.int .i64 t.kind) := HS1.out.cells.1; have c1 : v.cell? ⟨w.heap.size, 1, none⟩ = some (.string t.name) := HS1.out.cells.2.1; have c2 : v.cell? ⟨w.heap.size, 2, none⟩ = some (.int .i64 t.n) := HS1.out.cells.2.2.1; have c3 : v.cell? ⟨w.heap.size, 3, none⟩ = some (.slice g m cap) := HS1.out.cells.2.2.2.1; have cl := HS1.out.cells.2.2.2.2
  have HT := Lib.hid (wterm_any t v _ (Tm.inn_mono HS1.out.hi (Nat.le_of_lt HS1.out.pr.lt)) hsz HS1.out.pw)
  by_cases hok : t.right = true ∧ (tx t).length ≤ 8000
  · have HX := Lib.hid (show sureX t = tx t by unfold sureX; rw [if_pos hok])
    have hwt : wtX t = (tx t, 0) := by
      have : ¬ 8000 < (tx t).length := by omega
      simp [wtX, hok.1, this]
    rw [hwt] at HT
    clear hwt hok
    rw [HX.out] at hl9
    go_wp2_with (first
      | (go_at_call 7; (refine (HT.out.mono ?_)); rintro e w2 ⟨rfl, hb⟩; have HS2 := Lib.hid (HS1.out.quiet hb); clear hb)
      | (go_at_call 30; (with_reducible refine (pstr_any b x (tx t) _ HS2.out.pr (by omega)).mono ?_); rintro e w3 ⟨rfl, hp, hf⟩; have HS3 := Lib.hid (HS2.out.next hp hf); clear hp hf))
    go_end0
    exact ⟨rfl, by rw [HX.out]; exact HS3.out.pr, HS3.out.fr⟩
  · have HX := Lib.hid (show sureX t = [63] by unfold sureX; rw [if_neg hok])
    have hwt : ∃ n : Nat, wtX t = ([], n) ∧ 0 < n := by
      unfold wtX
      cases hr : t.right with
      | false => exact ⟨1, rfl, by omega⟩
      | true =>
        have : 8000 < (tx t).length := by
          rw [hr] at hok
          simp at hok
          exact hok
        exact ⟨3, by simp [this], by omega⟩
    obtain ⟨n, hwt, hn⟩ := hwt
    rw [hwt] at HT
    clear hwt hok
    rw [HX.out] at hl9
    simp only [List.length_cons, List.length_nil] at hl9
    have k1 : ((n : Int) != 0) = true := by rw [bne_iff_ne]; omega
    have hq : ∀ W, Pr b x W → Calls Tryd.prog 30 #[.pointer (some ⟨b, 0, none⟩), .string ⟨#[63]⟩] W _ := fun W h => pstr_any b x [63] W h (by simp; omega)
    have HQ := Lib.hid hq
    clear hq
    go_wp2_with (first
      | (go_at_call 7; (refine (HT.out.mono ?_)); rintro e w2 ⟨rfl, hb⟩; have HS2 := Lib.hid (HS1.out.quiet hb); clear hb)
      | (go_at_call 30; (with_reducible refine (HQ.out _ HS2.out.pr).mono ?_); rintro e w3 ⟨rfl, hp, hf⟩; have HS3 := Lib.hid (HS2.out.next hp hf); clear hp hf))
    go_end0
    exact ⟨rfl, by rw [HX.out]; exact HS3.out.pr, HS3.out.fr⟩
end Go.Proofs.YtliapkajonbndaaDoor
