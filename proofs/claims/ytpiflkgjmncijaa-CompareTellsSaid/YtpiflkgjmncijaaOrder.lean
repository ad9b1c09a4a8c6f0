/-
  The program's order of two terms, and the library's CompareFunc, which calls it.
-/
import Derived.Test.YtpiflkgjmncijaaCmp
import Derived.StillTailTactics
namespace Go.Proofs.Ytpiflkgjmncijaa
open Go.RowKit

def OrdAt (t : Tm) : Prop := ∀ (u : Tm) (w : World) (B : Nat) (sv sv' : Value), B ≤ w.heap.size → Tm.inn w B t sv → Tm.inn w B u sv' →
    Calls Try.prog 39 #[.agg #[.int .i64 t.kind, .string t.name, .int .i64 t.n, sv], .agg #[.int .i64 u.kind, .string u.name, .int .i64 u.n, sv']] w
      fun e w' => e = .returned (.int .i64 (t.cmp u)) ∧ Below w.heap.size w w'

set_option maxRecDepth 100000 in
set_option maxHeartbeats 400000 in
theorem compareFunc_any (l l' : List Tm) (ih : ∀ t ∈ l, OrdAt t) (w : World) (B : Nat) (sv sv' : Value) (hB : B ≤ w.heap.size) (hsl : Tm.sliceIn w B l sv) (hsl' : Tm.sliceIn w B l' sv') :
    Calls Try.prog 60 #[sv, sv', .func (.func 39) #[] #[]] w
      fun e w' => e = .returned (.int .i64 (Tm.cmps l l')) ∧ Below w.heap.size w w' := by
  have hsl0 := hsl
  have hsl1 := hsl'
  obtain ⟨g, cap, rfl, hcap, hlen, _⟩ := hsl0
  obtain ⟨g', cap', rfl, hcap', hlen', _⟩ := hsl1
  have hsl2 := Lib.hid hsl
  have hsl2' := Lib.hid hsl'
  have IH := Lib.hid ih
  clear hsl hsl' ih
  go_enter Try.func60, Try.ntmps60
  go_wp2_with fail
  go_loopw [7, 8, 9, 10, 13] (fun _ _ _ _ i wr => ∃ k : Nat, k ≤ l.length ∧ k ≤ l'.length ∧ i = .int .i64 k ∧ Hid (Tm.cmps l l' = Tm.cmps (l.drop k) (l'.drop k)) ∧ Below w.heap.size w wr) (fun _ _ _ _ i _ => l.length - (intOf i).toNat)
  case atStart => exact ⟨0, Nat.zero_le _, Nat.zero_le _, rfl, (by simp [Hid]), Below.refl _ _⟩
  case round =>
    obtain ⟨k, hk, hk', rfl, hp, hb⟩ := hrel
    by_cases hlt : k < l.length
    · by_cases hlt' : k < l'.length
      · obtain ⟨b, off, sv, rfl, hbB, g0, g1, g2, g3, hin⟩ := Tm.sliceIn_get (Tm.sliceIn_below hsl2.out hb hB) k hlt
        obtain ⟨b', off', sv', rfl, hbB', g0', g1', g2', g3', hin'⟩ := Tm.sliceIn_get (Tm.sliceIn_below hsl2'.out hb hB) k hlt'
        obtain ⟨_, ga, capa, rfl, _, _, _⟩ := Tm.inn_iff.1 hin
        obtain ⟨_, gb, capb, rfl, _, _, _⟩ := Tm.inn_iff.1 hin'
        have hst := Lib.hid (hp.out.trans (cmps_step hlt hlt'))
        have hih := Lib.hid (IH.out _ (List.getElem_mem hlt) (l'[k]'hlt'))
        have hin2 := Lib.hid hin
        have hin2' := Lib.hid hin'
        have hbs := hb.size
        have hbw : b < wr.heap.size := by omega
        have hbw' : b' < wr.heap.size := by omega
        clear IH hin hin' hp
        go_wp2_with fail
        refine (hih.out _ B _ _ (by simp; omega) (Tm.inn_below hin2.out (n₀ := wr.heap.size) (((Below.refl _ _).alloc (Nat.le_refl _) _).alloc (by simp) _) (by omega)) (Tm.inn_below hin2'.out (n₀ := wr.heap.size) (((Below.refl _ _).alloc (Nat.le_refl _) _).alloc (by simp) _) (by omega))).mono ?_
        rintro e w1 ⟨rfl, hb1⟩
        have hb2 : Below wr.heap.size wr w1 := (((Below.refl _ _).alloc (Nat.le_refl _) _).alloc (by simp) _).trans (hb1.mono (by simp; omega))
        clear hb1 hih
        by_cases h0 : (l[k]'hlt).cmp (l'[k]'hlt') = 0
        · have hr := Lib.hid (hst.out.trans (by rw [h0, orI_zero]))
          rw [h0]
          clear hst h0
          go_wp2_with fail
          go_roundw
          case rel =>
            exact ⟨k + 1, by omega, by omega, by go_num, hr, hb.trans (hb2.mono (by omega))⟩
          case measure => simp [intOf]; omega
        · have hr := Lib.hid (hst.out.trans (orI_ne h0 _))
          have hbn : ((l[k]'hlt).cmp (l'[k]'hlt') == 0) = false := by simpa using h0
          clear hst h0
          go_wp2_with fail
          go_ret
          exact ⟨ret_int hr.out.symm, hb.trans (hb2.mono (by omega))⟩
      · obtain ⟨b, off, sv, rfl, hbB, g0, g1, g2, g3, hin⟩ := Tm.sliceIn_get (Tm.sliceIn_below hsl2.out hb hB) k hlt
        have hst := Lib.hid (hp.out.trans (cmps_over hlt (by omega)))
        have hbs := hb.size
        obtain ⟨_, ga, capa, rfl, _, _, _⟩ := Tm.inn_iff.1 hin
        have hge : l'.length ≤ k := by omega
        clear IH hin hp
        go_wp2_with fail
        go_ret
        exact ⟨ret_int hst.out.symm, hb.trans ((Below.refl _ _).alloc (by omega) _)⟩
    · have hst := Lib.hid (hp.out.trans (cmps_end (by omega) hk' (by omega)))
      clear hp IH
      by_cases hc : l.length < l'.length
      · have hr := Lib.hid (hst.out.trans (if_pos hc))
        go_wp2_with fail
        go_ret
        exact ⟨ret_int hr.out.symm, hb⟩
      · have hr := Lib.hid (hst.out.trans (if_neg hc))
        go_wp2_with fail
        go_ret
        exact ⟨ret_int hr.out.symm, hb⟩

set_option maxRecDepth 100000 in
set_option maxHeartbeats 400000 in
theorem order_any : ∀ (t : Tm), OrdAt t := by
  refine Tm.ind fun k s n l ih u w B sv sv' hB hin hin' => ?_
  obtain ⟨k', s', n', l'⟩ := u
  obtain ⟨_, hsl⟩ := Tm.inn_mk.1 hin
  obtain ⟨_, hsl'⟩ := Tm.inn_mk.1 hin'
  have hsl0 := hsl
  have hsl1 := hsl'
  obtain ⟨g, cap, rfl, hcap, hlen, _⟩ := hsl0
  obtain ⟨g', cap', rfl, hcap', hlen', _⟩ := hsl1
  have hf := cmp_eq (.mk k s n l) (.mk k' s' n' l')
  have h4 := cmpA_four (.mk k s n l) (.mk k' s' n' l')
  simp only [Tm.kind, Tm.name, Tm.n, Tm.args] at hf h4 ⊢
  clear hin hin'
  have hB2 := ((Below.refl w.heap.size w).alloc (Nat.le_refl _) (.cells #[.int .i64 k, .string s, .int .i64 n, .slice g l.length cap] 24)).alloc (by simp) (.cells #[.int .i64 k', .string s', .int .i64 n', .slice g' l'.length cap'] 24)
  have HB2 := Lib.hid hB2
  clear hB2
  have HF := Lib.hid hf
  have H4 := Lib.hid h4
  have HIH := Lib.hid ih
  have HS := Lib.hid hsl
  have HS' := Lib.hid hsl'
  clear ih hsl hsl' hf h4
  go_enter Try.func39, Try.ntmps39
  go_wp2_with fail
  have c0 : ((w.alloc (.cells #[.int .i64 k, .string s, .int .i64 n, .slice g l.length cap] 24)).alloc (.cells #[.int .i64 k', .string s', .int .i64 n', .slice g' l'.length cap'] 24)).cell? ⟨w.heap.size, 0, none⟩ = some (.int .i64 k) := by go_simp
  have c1 : ((w.alloc (.cells #[.int .i64 k, .string s, .int .i64 n, .slice g l.length cap] 24)).alloc (.cells #[.int .i64 k', .string s', .int .i64 n', .slice g' l'.length cap'] 24)).cell? ⟨w.heap.size, 1, none⟩ = some (.string s) := by go_simp
  have c2 : ((w.alloc (.cells #[.int .i64 k, .string s, .int .i64 n, .slice g l.length cap] 24)).alloc (.cells #[.int .i64 k', .string s', .int .i64 n', .slice g' l'.length cap'] 24)).cell? ⟨w.heap.size, 2, none⟩ = some (.int .i64 n) := by go_simp
  have c3 : ((w.alloc (.cells #[.int .i64 k, .string s, .int .i64 n, .slice g l.length cap] 24)).alloc (.cells #[.int .i64 k', .string s', .int .i64 n', .slice g' l'.length cap'] 24)).cell? ⟨w.heap.size, 3, none⟩ = some (.slice g l.length cap) := by go_simp
  have d0 : ((w.alloc (.cells #[.int .i64 k, .string s, .int .i64 n, .slice g l.length cap] 24)).alloc (.cells #[.int .i64 k', .string s', .int .i64 n', .slice g' l'.length cap'] 24)).cell? ⟨w.heap.size + 1, 0, none⟩ = some (.int .i64 k') := by go_simp
  have d1 : ((w.alloc (.cells #[.int .i64 k, .string s, .int .i64 n, .slice g l.length cap] 24)).alloc (.cells #[.int .i64 k', .string s', .int .i64 n', .slice g' l'.length cap'] 24)).cell? ⟨w.heap.size + 1, 1, none⟩ = some (.string s') := by go_simp
  have d2 : ((w.alloc (.cells #[.int .i64 k, .string s, .int .i64 n, .slice g l.length cap] 24)).alloc (.cells #[.int .i64 k', .string s', .int .i64 n', .slice g' l'.length cap'] 24)).cell? ⟨w.heap.size + 1, 2, none⟩ = some (.int .i64 n') := by go_simp
  have d3 : ((w.alloc (.cells #[.int .i64 k, .string s, .int .i64 n, .slice g l.length cap] 24)).alloc (.cells #[.int .i64 k', .string s', .int .i64 n', .slice g' l'.length cap'] 24)).cell? ⟨w.heap.size + 1, 3, none⟩ = some (.slice g' l'.length cap') := by go_simp
  have hsz : w.heap.size + 2 ≤ ((w.alloc (.cells #[.int .i64 k, .string s, .int .i64 n, .slice g l.length cap] 24)).alloc (.cells #[.int .i64 k', .string s', .int .i64 n', .slice g' l'.length cap'] 24)).heap.size := by simp
  revert c0 c1 c2 c3 d0 d1 d2 d3 hsz
  have hb := HB2.out
  revert hb
  generalize ((w.alloc (.cells #[.int .i64 k, .string s, .int .i64 n, .slice g l.length cap] 24)).alloc (.cells #[.int .i64 k', .string s', .int .i64 n', .slice g' l'.length cap'] 24)) = W
  intro hb c0 c1 c2 c3 d0 d1 d2 d3 hsz
  have HB := Lib.hid hb
  clear hb HB2
  have hl1 : (l.length : Int) ≤ 2513169434900 := by omega
  have hl2 : (l'.length : Int) ≤ 2513169434900 := by omega
  refine wp_region_still_tail 22 (by kernel_rfl) (by kernel_rfl) ?_
  simp only [List.take_succ_cons, List.take_zero, List.drop_succ_cons, List.drop_zero]
  iterate 4 still_step
  still_call (cmpInt_any _ _ _)
  iterate 4 still_step
  still_call (cmpInt_any _ _ _)
  iterate 6 still_step
  still_call (cmpInt_any _ _ _)
  iterate 4 still_step
  still_call (cmpStr_any _ _ _)
  refine wpStill_nil ?_
  change wpList _ _ _ _ _ W.drew
  have hb := (Below.refl W.heap.size W).drew
  have HD := Lib.hid hb
  have hsd : W.drew.heap.size = W.heap.size := rfl
  have e3 : W.drew.cell? ⟨w.heap.size, 3, none⟩ = some (.slice g l.length cap) := c3
  have e4 : W.drew.cell? ⟨w.heap.size + 1, 3, none⟩ = some (.slice g' l'.length cap') := d3
  clear hb c0 c1 c2 c3 d0 d1 d2 d3
  revert HD hsd e3 e4
  generalize W.drew = W2
  intro HD hsd e3 e4
  have hsd2 : W.heap.size ≤ W2.heap.size := by omega
  have hz1 : w.heap.size < W2.heap.size := by omega
  have hz2 : w.heap.size + 1 < W2.heap.size := by omega
  have HSD := Lib.hid hsd
  clear hsd
  go_wp2_with fail
  refine (or_any [cmpI k k', cmpI n n', cmpI l.length l'.length, cmpS s.toList s'.toList] _ _ _ (by simp) (fun i hi => ?_)).mono ?_
  · match i, hi with
    | 0, _ => simp
    | 1, _ => simp
    | 2, _ => simp
    | 3, _ => simp
  rintro e w' ⟨rfl, rfl⟩
  rw [H4.out]
  by_cases h0 : cmpA (.mk k s n l) (.mk k' s' n' l') = 0
  · have hr := Lib.hid (HF.out.trans (by rw [h0, orI_zero]))
    rw [h0]
    clear HF H4 h0
    go_wp2_with fail
    refine (compareFunc_any l l' HIH.out _ B _ _ (by simp; omega) (Tm.sliceIn_below HS.out (HB.out.trans ((HD.out.mono (by omega)).alloc (by omega) _)) hB) (Tm.sliceIn_below HS'.out (HB.out.trans ((HD.out.mono (by omega)).alloc (by omega) _)) hB)).mono ?_
    rintro e w1 ⟨rfl, hb1⟩
    go_wp2_with fail
    go_ret
    exact ⟨ret_int hr.out.symm, (HB.out.trans ((HD.out.mono (by omega)).alloc (by omega) _)).trans (hb1.mono (by simp; omega))⟩
  · have hr := Lib.hid (HF.out.trans (orI_ne h0 _))
    have hbn : (cmpA (.mk k s n l) (.mk k' s' n' l') == 0) = false := by simpa using h0
    clear HF H4 h0
    go_wp2_with fail
    go_ret
    exact ⟨ret_int hr.out.symm, HB.out.trans ((HD.out.mono (by omega)).alloc (by omega) _)⟩
end Go.Proofs.Ytpiflkgjmncijaa
