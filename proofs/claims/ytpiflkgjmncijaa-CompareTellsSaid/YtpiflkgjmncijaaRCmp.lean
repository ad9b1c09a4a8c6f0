/-
  The document's order of two terms that are fair: it is the order.
-/
import Derived.Test.YtpiflkgjmncijaaOrd
import Derived.Test.YtpiflkgjmncijaaChecked
import Derived.Lib.Hide
import Derived.StillTailTactics
import Derived.WalkLawsBesides
namespace Go.Proofs.Ytpiflkgjmncijaa
open Go.RowKit

/-- Terms of one kind that are fair: their numbers are alike, or they have no Args. -/
theorem fair_either {k n n' : Int} {s s' : ByteArray} {l l' : List Tm} (h : Tm.fair (.mk k s n l) = true) (h' : Tm.fair (.mk k s' n' l') = true) : n = n' ∨ (l.length = 0 ∧ l'.length = 0) := by
  simp only [Tm.fair, Bool.and_eq_true] at h h'
  have h1 := h.2
  have h2 := h'.2
  unfold Tm.alone at h1 h2
  by_cases h3 : k = 1
  · subst h3
    simp at h1 h2
    exact .inr ⟨by simp [h1.2], by simp [h2.2]⟩
  · by_cases h4 : k = 2
    · subst h4
      simp at h1 h2
      exact .inr ⟨by simp [h1.2], by simp [h2.2]⟩
    · by_cases h5 : k = 3
      · subst h5
        simp at h1 h2
        exact .inl (by omega)
      · simp [h3, h4, h5] at h1
theorem fair_args {k n : Int} {s : ByteArray} {l : List Tm} (h : Tm.fair (.mk k s n l) = true) : ∀ t ∈ l, t.fair = true := by
  simp only [Tm.fair, Bool.and_eq_true, Tm.fairs_all, List.all_eq_true] at h
  exact h.1.2

set_option maxRecDepth 100000 in
set_option maxHeartbeats 1000000 in
theorem rcmp_any : ∀ (t : Tm) (u : Tm) (w : World) (B : Nat) (sv sv' : Value), t.fair = true → u.fair = true → B ≤ w.heap.size → Tm.inn w B t sv → Tm.inn w B u sv' →
    Calls Try.prog 17 #[.agg #[.int .i64 t.kind, .string t.name, .int .i64 t.n, sv], .agg #[.int .i64 u.kind, .string u.name, .int .i64 u.n, sv']] w
      fun e w' => e = .returned (.int .i64 (t.cmp u)) ∧ Below w.heap.size w w' := by
  refine Tm.ind fun k s n l ih u w B sv sv' hft hfu hB hin hin' => ?_
  obtain ⟨k', s', n', l'⟩ := u
  obtain ⟨_, hsl⟩ := Tm.inn_mk.1 hin
  obtain ⟨_, hsl'⟩ := Tm.inn_mk.1 hin'
  have hsl0 := hsl
  have hsl1 := hsl'
  obtain ⟨g, cap, rfl, hcap, hlen, _⟩ := hsl0
  obtain ⟨g', cap', rfl, hcap', hlen', _⟩ := hsl1
  have hf := cmp_eq (.mk k s n l) (.mk k' s' n' l')
  simp only [cmpA, Tm.kind, Tm.name, Tm.n, Tm.args] at hf ⊢
  clear hin hin'
  have hB2 := ((Below.refl w.heap.size w).alloc (Nat.le_refl _) (.cells #[.int .i64 k, .string s, .int .i64 n, .slice g l.length cap] 24)).alloc (by simp) (.cells #[.int .i64 k', .string s', .int .i64 n', .slice g' l'.length cap'] 24)
  have hz : True := trivial
  rcases Int.lt_trichotomy k k' with hk | hk | hk
  · have hr : Tm.cmp (.mk k s n l) (.mk k' s' n' l') = -1 := by rw [hf, cmpI_lt hk]; simp [orI]
    have HR := Lib.hid hr
    clear hr hf ih hz
    go_enter Try.func17, Try.ntmps17
    go_wp2_with fail
    go_ret
    exact ⟨ret_int HR.out.symm, hB2⟩
  · subst hk
    have hei := fair_either hft hfu
    rcases Int.lt_trichotomy n n' with hn | hn | hn
    · have hl0 : ¬ l.length < l'.length := by omega
      have hr : Tm.cmp (.mk k s n l) (.mk k s' n' l') = -1 := by rw [hf, cmpI_eq0.2 rfl, cmpI_lt hn]; simp [orI]
      have HR := Lib.hid hr
      clear hr hf ih hz
      go_enter Try.func17, Try.ntmps17
      go_wp2_with fail
      go_ret
      exact ⟨ret_int HR.out.symm, hB2⟩
    · subst hn
      rcases Nat.lt_trichotomy l.length l'.length with hl | hl | hl
      · have hr : Tm.cmp (.mk k s n l) (.mk k s' n l') = -1 := by rw [hf, cmpI_eq0.2 rfl, cmpI_eq0.2 rfl, cmpI_lt (by omega)]; simp [orI]
        have HR := Lib.hid hr
        clear hr hf ih hz
        go_enter Try.func17, Try.ntmps17
        go_wp2_with fail
        go_ret
        exact ⟨ret_int HR.out.symm, hB2⟩
      · by_cases hbl : Op.bytesLess s.toList s'.toList = true
        · have hnl : ¬ l.length < l'.length := by omega
          have hnl2 : ¬ l'.length < l.length := by omega
          have hr : Tm.cmp (.mk k s n l) (.mk k s' n l') = -1 := by rw [hf, cmpI_eq0.2 rfl, cmpI_eq0.2 rfl, cmpI_eq0.2 (by omega), cmpS_less hbl]; simp [orI]
          clear hl
          have HR := Lib.hid hr
          clear hr hf ih hz
          go_enter Try.func17, Try.ntmps17
          go_wp2_with fail
          go_ret
          exact ⟨ret_int HR.out.symm, hB2⟩
        · have hbf : Op.bytesLess s.toList s'.toList = false := by simpa using hbl
          by_cases hse : s.toList = s'.toList
          · obtain rfl := toList_inj hse
            have hr : Tm.cmp (.mk k s n l) (.mk k s n l') = Tm.cmps l l' := by rw [hf, cmpI_eq0.2 rfl, cmpI_eq0.2 rfl, cmpI_eq0.2 (by omega), cmpS_same hbf rfl]; simp [orI]
            have HR := Lib.hid hr
            have HFT := Lib.hid (fair_args hft)
            have HFU := Lib.hid (fair_args hfu)
            have HIH := Lib.hid ih
            clear hr hf hz hei hft hfu ih
            have hsl2 := Lib.hid hsl
            have hsl2' := Lib.hid hsl'
            clear hsl hsl'
            obtain ⟨m, hm1, hm2⟩ : ∃ m, l.length = m ∧ l'.length = m := ⟨_, hl, rfl⟩
            rw [hm1] at hcap hlen hB2 ⊢
            rw [hm2] at hcap' hlen' hB2 ⊢
            have HL := Lib.hid hm1
            have HM := Lib.hid hm2
            clear hl hm1 hm2
            go_enter Try.func17, Try.ntmps17
            go_wp2_with fail
            go_loopw [5, 6] (fun i _ wr => ∃ k : Nat, k ≤ m ∧ i = .int .i64 k ∧ Hid (Tm.cmps l l' = Tm.cmps (l.drop k) (l'.drop k)) ∧ Below w.heap.size w wr ∧ w.heap.size + 1 < wr.heap.size ∧ wr.cell? ⟨w.heap.size, 3, none⟩ = some (.slice g m cap) ∧ wr.cell? ⟨w.heap.size + 1, 3, none⟩ = some (.slice g' m cap')) (fun i _ _ => m - (intOf i).toNat)
            case atStart => exact ⟨0, Nat.zero_le _, rfl, (by simp [Hid]), hB2, by simp, by simp [go_sem], by simp [go_sem]⟩
            case round =>
              obtain ⟨k, hk, rfl, hp, hb, hs, hcc, hcc'⟩ := hrel
              by_cases hlt : k < m
              · have hl1 : k < l.length := by rw [HL.out]; exact hlt
                have hl2 : k < l'.length := by rw [HM.out]; exact hlt
                have hsl3 := Tm.sliceIn_below hsl2.out hb hB
                have hsl3' := Tm.sliceIn_below hsl2'.out hb hB
                obtain ⟨b, off, sv, rfl, hbB, g0, g1, g2, g3, hin⟩ := Tm.sliceIn_get hsl3 k hl1
                obtain ⟨b', off', sv', rfl, hbB', g0', g1', g2', g3', hin'⟩ := Tm.sliceIn_get hsl3' k hl2
                have hst := Lib.hid (hp.out.trans (cmps_step hl1 hl2))
                have hih := HIH.out _ (List.getElem_mem hl1) _ wr.drew B sv sv' (HFT.out _ (List.getElem_mem hl1)) (HFU.out _ (List.getElem_mem hl2)) (by have := hb.size; simp; omega) (Tm.inn_below hin (n₀ := wr.heap.size) ((Below.refl _ _).drew) (by omega)) (Tm.inn_below hin' (n₀ := wr.heap.size) ((Below.refl _ _).drew) (by omega))
                clear HIH hB2 hin hin' hsl3 hsl3' hp
                have hih2 := Lib.hid hih
                clear hih
                go_wp2_with fail
                go_still_tail 10, (by kernel_rfl)
                go_wp2_with fail
                refine (hih2.out).mono ?_
                rintro e w1 ⟨rfl, hb1⟩
                have hb2 : Below wr.heap.size wr w1 := ((Below.refl _ _).drew).trans hb1
                have hcc1 := (hb2.cell (p := ⟨w.heap.size, 3, none⟩) (by simp; omega)).trans hcc
                have hcc2 := (hb2.cell (p := ⟨w.heap.size + 1, 3, none⟩) hs).trans hcc'
                by_cases h0 : (l[k]'hl1).cmp (l'[k]'hl2) = 0
                · have hr := Lib.hid (hst.out.trans (by rw [h0, orI_zero]))
                  rw [h0]
                  clear hst h0 hih2
                  go_wp2_with fail
                  go_roundw
                  case rel =>
                    exact ⟨k + 1, by omega, by go_num, hr, hb.trans (hb2.mono (by omega)), by have := hb2.size; omega, hcc1, hcc2⟩
                  case measure => simp [intOf]; omega
                · have hr := Lib.hid (hst.out.trans (orI_ne h0 _))
                  have hbn : ((l[k]'hl1).cmp (l'[k]'hl2) == 0) = false := by simpa using h0
                  clear hst h0 hih2
                  go_wp2_with fail
                  go_ret
                  exact ⟨ret_int (HR.out.trans hr.out).symm, hb.trans (hb2.mono (by omega))⟩
              · have hst := hp.out.trans (cmps_end (by rw [HL.out]; omega) (by rw [HM.out]; omega) (by rw [HL.out]; omega))
                rw [HL.out, HM.out, if_neg (by omega)] at hst
                have hr := Lib.hid hst
                clear hst HIH hB2 hp
                go_wp2_with fail
                go_ret
                exact ⟨ret_int (HR.out.trans hr.out).symm, hb⟩
          · have hnl : ¬ l.length < l'.length := by omega
            have hnl2 : ¬ l'.length < l.length := by omega
            have hr : Tm.cmp (.mk k s n l) (.mk k s' n l') = 1 := by rw [hf, cmpI_eq0.2 rfl, cmpI_eq0.2 rfl, cmpI_eq0.2 (by omega), cmpS_more hbf hse]; simp [orI]
            have hbe : (!s.toList == s'.toList) = true := by simpa using hse
            clear hl hse hei
            have HR := Lib.hid hr
            clear hr hf ih hz
            go_enter Try.func17, Try.ntmps17
            go_wp2_with fail
            go_ret
            exact ⟨ret_int HR.out.symm, hB2⟩
      · have hr : Tm.cmp (.mk k s n l) (.mk k s' n l') = 1 := by rw [hf, cmpI_eq0.2 rfl, cmpI_eq0.2 rfl, cmpI_gt (by omega)]; simp [orI]
        have HR := Lib.hid hr
        clear hr hf ih hz
        go_enter Try.func17, Try.ntmps17
        go_wp2_with fail
        go_ret
        exact ⟨ret_int HR.out.symm, hB2⟩
    · have hl0 : ¬ l.length < l'.length := by omega
      have hr : Tm.cmp (.mk k s n l) (.mk k s' n' l') = 1 := by rw [hf, cmpI_eq0.2 rfl, cmpI_gt hn]; simp [orI]
      have HR := Lib.hid hr
      clear hr hf ih hz
      go_enter Try.func17, Try.ntmps17
      go_wp2_with fail
      go_ret
      exact ⟨ret_int HR.out.symm, hB2⟩
  · have hr : Tm.cmp (.mk k s n l) (.mk k' s' n' l') = 1 := by rw [hf, cmpI_gt hk]; simp [orI]
    have HR := Lib.hid hr
    clear hr hf ih hz
    go_enter Try.func17, Try.ntmps17
    go_wp2_with fail
    go_ret
    exact ⟨ret_int HR.out.symm, hB2⟩
end Go.Proofs.Ytpiflkgjmncijaa
