/-
  The document's own answers: whether two terms are alike.
-/
import Derived.Test.YtpiflkgjmncijaaTm
import Derived.Test.YtpiflkgjmncijaaChecked
import Derived.Lib.Hide
import Derived.StillTailTactics
namespace Go.Proofs.Ytpiflkgjmncijaa
open Go.RowKit

theorem sames_take_succ {l l' : List Tm} (hl : l.length = l'.length) {k : Nat} (hk : k < l.length) (hp : l.take k = l'.take k) :
    (Tm.same l[k] (l'[k]'(hl ▸ hk)) = true → l.take (k + 1) = l'.take (k + 1)) ∧ (Tm.same l[k] (l'[k]'(hl ▸ hk)) = false → l ≠ l') := by
  constructor
  · intro h
    rw [List.take_succ_eq_append_getElem hk, List.take_succ_eq_append_getElem (hl ▸ hk), hp, (Tm.same_iff _ _).1 h]
  · intro h e
    subst e
    rw [(Tm.same_iff _ _).2 rfl] at h
    cases h

set_option maxRecDepth 100000 in
set_option maxHeartbeats 400000 in
theorem rsame_any : ∀ (t : Tm) (u : Tm) (w : World) (B : Nat) (sv sv' : Value), B ≤ w.heap.size → Tm.inn w B t sv → Tm.inn w B u sv' →
    Calls Try.prog 28 #[.agg #[.int .i64 t.kind, .string t.name, .int .i64 t.n, sv], .agg #[.int .i64 u.kind, .string u.name, .int .i64 u.n, sv']] w
      fun e w' => e = .returned (.bool (t.same u)) ∧ Below w.heap.size w w' := by
  refine Tm.ind fun k s n l ih u w B sv sv' hB hin hin' => ?_
  obtain ⟨k', s', n', l'⟩ := u
  obtain ⟨_, hsl⟩ := Tm.inn_mk.1 hin
  obtain ⟨_, hsl'⟩ := Tm.inn_mk.1 hin'
  have hsl0 := hsl
  have hsl1 := hsl'
  obtain ⟨g, cap, rfl, hcap, hlen, _⟩ := hsl0
  obtain ⟨g', cap', rfl, hcap', hlen', _⟩ := hsl1
  simp only [Tm.kind, Tm.name, Tm.n]
  clear hin hin'
  have hf : Tm.same (.mk k s n l) (.mk k' s' n' l') = (decide (k = k') && decide (n = n') && decide (s = s') && decide (l = l')) := by
    rw [Tm.same_eq, Bool.eq_iff_iff]
    simp only [Tm.mk.injEq, decide_eq_true_eq, Bool.and_eq_true]
    constructor
    · rintro ⟨h1, h2, h3, h4⟩; exact ⟨⟨⟨h1, h3⟩, h2⟩, h4⟩
    · rintro ⟨⟨⟨h1, h3⟩, h2⟩, h4⟩; exact ⟨h1, h2, h3, h4⟩
  have hB2 := ((Below.refl w.heap.size w).alloc (Nat.le_refl _) (.cells #[.int .i64 k, .string s, .int .i64 n, .slice g l.length cap] 24)).alloc (by simp) (.cells #[.int .i64 k', .string s', .int .i64 n', .slice g' l'.length cap'] 24)
  by_cases hk : k = k'
  · subst hk
    by_cases hn : n = n'
    · subst hn
      by_cases hs : s = s'
      · subst hs
        by_cases hl : l.length = l'.length
        · rw [hf]
          simp only [decide_true, Bool.true_and]
          clear hf
          have hsl2 := Lib.hid hsl
          have hsl2' := Lib.hid hsl'
          clear hsl hsl'
          obtain ⟨m, hm1, hm2⟩ : ∃ m, l.length = m ∧ l'.length = m := ⟨_, hl, rfl⟩
          rw [hm1] at hcap hlen hB2 ⊢
          rw [hm2] at hcap' hlen' hB2 ⊢
          have HL := Lib.hid hm1
          have HM := Lib.hid hm2
          clear hl hm1 hm2
          go_enter Try.func28, Try.ntmps28
          go_wp2_with fail
          go_loopw [5] (fun i wr => ∃ k : Nat, k ≤ m ∧ i = .int .i64 k ∧ Hid (l.take k = l'.take k) ∧ Below w.heap.size w wr ∧ w.heap.size + 1 < wr.heap.size ∧ wr.cell? ⟨w.heap.size, 3, none⟩ = some (.slice g m cap) ∧ wr.cell? ⟨w.heap.size + 1, 3, none⟩ = some (.slice g' m cap')) (fun i _ => m - (intOf i).toNat)
          case atStart => exact ⟨0, Nat.zero_le _, rfl, (by simp [Hid]), hB2, by simp, by simp [go_sem], by simp [go_sem]⟩
          case round =>
            obtain ⟨k, hk, rfl, hp, hb, hs, hcc, hcc'⟩ := hrel
            by_cases hlt : k < m
            · obtain ⟨b, off, sv, rfl, hbB, g0, g1, g2, g3, hin⟩ := Tm.sliceIn_get (Tm.sliceIn_below hsl2.out hb hB) k (by rw [HL.out]; exact hlt)
              obtain ⟨b', off', sv', rfl, hbB', g0', g1', g2', g3', hin'⟩ := Tm.sliceIn_get (Tm.sliceIn_below hsl2'.out hb hB) k (by rw [HM.out]; exact hlt)
              have hst := Lib.hid (sames_take_succ (l := l) (l' := l') (by rw [HL.out, HM.out]) (k := k) (by rw [HL.out]; exact hlt) hp.out)
              have hih := ih _ (List.getElem_mem (by rw [HL.out]; exact hlt)) _ wr.drew B sv sv' (by have := hb.size; simp; omega) (Tm.inn_below hin (n₀ := wr.heap.size) ((Below.refl _ _).drew) (by omega)) (Tm.inn_below hin' (n₀ := wr.heap.size) ((Below.refl _ _).drew) (by omega))
              clear ih hB2 hin hin'
              have hih2 := Lib.hid hih
              clear hih
              go_wp2_with fail
              go_still_tail 10, (by kernel_rfl)
              go_wp2_with fail
              refine (hih2.out).mono ?_
              rintro e w1 ⟨rfl, hb1⟩
              have hb2 : Below wr.heap.size wr w1 := ((Below.refl _ _).drew).trans hb1
              have hcc1 := (hb2.cell (p := ⟨w.heap.size, 3, none⟩) (by simp; omega)).trans hcc
              have hcc2 := (hb2.cell (p := ⟨w.heap.size + 1, 3, none⟩) hs).trans hcc'
              cases hq : Tm.same (l[k]'(by rw [HL.out]; exact hlt)) (l'[k]'(by rw [HM.out]; exact hlt)) with
              | true =>
                have hr := Lib.hid (hst.out.1 hq)
                go_wp2_with fail
                go_roundw
                case rel =>
                  exact ⟨k + 1, by omega, by go_num, hr, hb.trans (hb2.mono (by omega)), by have := hb2.size; omega, hcc1, hcc2⟩
                case measure => simp [intOf]; omega
              | false =>
                have hr := Lib.hid (decide_eq_false (hst.out.2 hq))
                go_wp2_with fail
                go_ret
                exact ⟨by rw [hr.out]; rfl, hb.trans (hb2.mono (by omega))⟩
            · have : k = m := by omega
              have hll : l = l' := by
                have := hp.out
                rwa [List.take_of_length_le (by rw [HL.out]; omega), List.take_of_length_le (by rw [HM.out]; omega)] at this
              have hr := Lib.hid (decide_eq_true hll)
              clear ih hB2 hll
              subst this
              go_wp2_with fail
              go_ret
              exact ⟨by rw [hr.out]; rfl, hb⟩
        · have hr : Tm.same (.mk k s n l) (.mk k s n l') = false := by rw [hf]; simp; intro e; exact hl (by rw [e])
          have hr2 := Lib.hid hr
          clear hr hf ih
          have hl2 : ((l.length : Int) != (l'.length : Int)) = true := by rw [bne_iff_ne]; omega
          go_enter Try.func28, Try.ntmps28
          go_wp2_with fail
          go_ret
          exact ⟨by rw [hr2.out]; rfl, hB2⟩
      · have hr : Tm.same (.mk k s n l) (.mk k s' n l') = false := by rw [hf]; simp [hs]
        have hr2 := Lib.hid hr
        clear hr hf ih
        have hl2 := neS hs
        go_enter Try.func28, Try.ntmps28
        go_wp2_with fail
        go_ret
        exact ⟨by rw [hr2.out]; rfl, hB2⟩
    · have hr : Tm.same (.mk k s n l) (.mk k s' n' l') = false := by rw [hf]; simp [hn]
      have hr2 := Lib.hid hr
      clear hr hf ih
      have hl2 : (n != n') = true := by rw [bne_iff_ne]; exact hn
      go_enter Try.func28, Try.ntmps28
      go_wp2_with fail
      go_ret
      exact ⟨by rw [hr2.out]; rfl, hB2⟩
  · have hr : Tm.same (.mk k s n l) (.mk k' s' n' l') = false := by rw [hf]; simp [hk]
    have hr2 := Lib.hid hr
    clear hr hf ih
    have hl2 : (k != k') = true := by rw [bne_iff_ne]; exact hk
    go_enter Try.func28, Try.ntmps28
    go_wp2_with fail
    go_ret
    exact ⟨by rw [hr2.out]; rfl, hB2⟩
end Go.Proofs.Ytpiflkgjmncijaa
