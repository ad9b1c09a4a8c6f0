/-
  The document's own answers: whether a term is right.
-/
import Derived.Test.YtpiflkgjmncijaaRefA
import Derived.Lib.Hide
namespace Go.Proofs.Ytpiflkgjmncijaa
open Go.RowKit

theorem nameOk_iff (s : ByteArray) : Tm.nameOk s = true ↔ ∀ j (h : j < s.size), Tm.byteOk s[j] = true := by
  simp only [Tm.nameOk, List.all_eq_true]
  constructor
  · intro h j hj
    exact h _ (List.getElem_mem (l := s.data.toList) (n := j) (by simpa using hj))
  · intro h x hx
    obtain ⟨j, hj, rfl⟩ := List.getElem_of_mem hx
    exact h j (by simpa using hj)
theorem fairs_iff (l : List Tm) : Tm.fairs l = true ↔ ∀ j (h : j < l.length), l[j].fair = true := by
  rw [Tm.fairs_all, List.all_eq_true]
  constructor
  · intro h j hj
    exact h _ (List.getElem_mem hj)
  · intro h x hx
    obtain ⟨j, hj, rfl⟩ := List.getElem_of_mem hx
    exact h j hj

set_option maxHeartbeats 400000 in
theorem rfair_any : ∀ (t : Tm) (w : World) (B : Nat) (sv : Value), B ≤ w.heap.size → Tm.inn w B t sv →
    Calls Try.prog 41 #[.agg #[.int .i64 t.kind, .string t.name, .int .i64 t.n, sv]] w fun e w' => e = .returned (.bool t.fair) ∧ Below w.heap.size w w' := by
  refine Tm.ind fun k s n l ih w B sv hB hin => ?_
  obtain ⟨⟨_, hss, _⟩, hsl⟩ := Tm.inn_mk.1 hin
  have hsl0 := hsl
  obtain ⟨g, cap, rfl, hcap, hlen, _⟩ := hsl0
  simp only [Tm.kind, Tm.name, Tm.n]
  unfold maxLen at hss
  have hf : Tm.fair (.mk k s n l) = (Tm.nameOk s && Tm.fairs l && Tm.alone k s n l.length) := by simp only [Tm.fair]
  have HF := Lib.hid hf
  have hsl2 := Lib.hid hsl
  have ih2 := Lib.hid ih
  clear hf hin hsl ih
  go_enter Try.func41, Try.ntmps41
  go_wp2_with fail
  go_loopw [3] (fun i wr => ∃ k' : Nat, k' ≤ s.size ∧ i = .int .i64 k' ∧ Hid (∀ j (h : j < s.size), j < k' → Tm.byteOk s[j] = true) ∧ wr = w.alloc (.cells #[.int .i64 k, .string s, .int .i64 n, .slice g l.length cap] 24)) (fun i _ => s.size - (intOf i).toNat)
  case atStart => exact ⟨0, Nat.zero_le _, rfl, fun j _ h => by omega, rfl⟩
  case round =>
    obtain ⟨k', hk', rfl, hp, rfl⟩ := hrel
    by_cases hlt : k' < s.size
    · by_cases h32 : s[k'].toNat < 32
      · have hr : Tm.nameOk s = false := by
          rw [Bool.eq_false_iff]
          intro h
          have := (nameOk_iff s).1 h k' hlt
          simp [Tm.byteOk] at this
          omega
        have HR := Lib.hid hr
        clear hr
        go_wp2_with fail
        go_ret
        exact ⟨by rw [HF.out, HR.out]; rfl, (Below.refl _ _).alloc (Nat.le_refl _) _⟩
      · by_cases h126 : 126 < s[k'].toNat
        · have hr : Tm.nameOk s = false := by
            rw [Bool.eq_false_iff]
            intro h
            have := (nameOk_iff s).1 h k' hlt
            simp [Tm.byteOk] at this
            omega
          have HR := Lib.hid hr
          clear hr
          go_wp2_with fail
          go_ret
          exact ⟨by rw [HF.out, HR.out]; rfl, (Below.refl _ _).alloc (Nat.le_refl _) _⟩
        · have hr : Tm.byteOk s[k'] = true := by simp [Tm.byteOk]; omega
          have HR := Lib.hid hr
          clear hr
          go_wp2_with fail
          go_roundw
          case rel =>
            refine ⟨k' + 1, by omega, by go_num, fun j hj hjk => ?_, trivial⟩
            by_cases hjj : j < k'
            · exact hp.out j hj hjj
            · obtain rfl : j = k' := by omega
              exact HR.out
          case measure => simp [intOf]; omega
    · have hr : Tm.nameOk s = true := (nameOk_iff s).2 fun j hj => hp.out j hj (by omega)
      have HR := Lib.hid hr
      obtain rfl : k' = s.size := by omega
      clear hr hp
      go_wp2_with fail
      go_loopw [4] (fun i wr => ∃ k' : Nat, k' ≤ l.length ∧ i = .int .i64 k' ∧ Hid (∀ j (h : j < l.length), j < k' → l[j].fair = true) ∧ Below w.heap.size w wr ∧ w.heap.size < wr.heap.size ∧ wr.cell? ⟨w.heap.size, 0, none⟩ = some (.int .i64 k) ∧
        wr.cell? ⟨w.heap.size, 1, none⟩ = some (.string s) ∧ wr.cell? ⟨w.heap.size, 2, none⟩ = some (.int .i64 n) ∧ wr.cell? ⟨w.heap.size, 3, none⟩ = some (.slice g l.length cap)) (fun i _ => l.length - (intOf i).toNat)
      case atStart => exact ⟨0, Nat.zero_le _, rfl, fun j _ h => by omega, (Below.refl _ _).alloc (Nat.le_refl _) _, by simp, by simp, by simp, by simp, by simp⟩
      case round =>
        obtain ⟨k', hk', rfl, hp, hb, hs, c0, c1, c2, c3⟩ := hrel
        by_cases hlt : k' < l.length
        · obtain ⟨b, off, sv, rfl, hbB, g0, g1, g2, g3, hin'⟩ := Tm.sliceIn_get (Tm.sliceIn_below hsl2.out hb hB) k' hlt
          have hih := ih2.out l[k'] (List.getElem_mem hlt) wr B sv (by omega) hin'
          have hih2 := Lib.hid hih
          clear hin' hih ih2
          go_wp2_with fail
          refine hih2.out.mono ?_
          rintro e w1 ⟨rfl, hb1⟩
          have d0 := (hb1.cell (p := ⟨w.heap.size, 0, none⟩) hs).trans c0
          have d1 := (hb1.cell (p := ⟨w.heap.size, 1, none⟩) hs).trans c1
          have d2 := (hb1.cell (p := ⟨w.heap.size, 2, none⟩) hs).trans c2
          have d3 := (hb1.cell (p := ⟨w.heap.size, 3, none⟩) hs).trans c3
          cases hq : Tm.fair l[k'] with
          | true =>
            have HQ := Lib.hid hq
            clear hq
            go_wp2_with fail
            go_roundw
            case rel =>
              refine ⟨k' + 1, by omega, by go_num, fun j hj hjk => ?_, hb.trans (hb1.mono (by omega)), by have := hb1.size; omega, d0, d1, d2, d3⟩
              by_cases hjj : j < k'
              · exact hp.out j hj hjj
              · obtain rfl : j = k' := by omega
                exact HQ.out
            case measure => simp [intOf]; omega
          | false =>
            have hr : Tm.fairs l = false := by
              rw [Bool.eq_false_iff]
              intro h
              have := (fairs_iff l).1 h k' hlt
              rw [hq] at this
              cases this
            have HQ := Lib.hid hr
            clear hq hr
            go_wp2_with fail
            go_ret
            exact ⟨by rw [HF.out, HR.out, HQ.out]; rfl, hb.trans (hb1.mono (by omega))⟩
        · have hr : Tm.fairs l = true := (fairs_iff l).2 fun j hj => hp.out j hj (by omega)
          have HQ := Lib.hid hr
          obtain rfl : k' = l.length := by omega
          clear hr hp ih2 hsl2
          by_cases hk1 : k = 1
          · subst hk1
            go_wp2_with fail
            all_goals go_ret
            all_goals refine ⟨?_, hb⟩
            all_goals rw [HF.out, HR.out, HQ.out]
            all_goals refine ret_bool ?_
            all_goals simp [Tm.alone, *]
            all_goals omega
          · by_cases hk2 : k = 2
            · subst hk2
              go_wp2_with fail
              all_goals go_ret
              all_goals refine ⟨?_, hb⟩
              all_goals rw [HF.out, HR.out, HQ.out]
              all_goals refine ret_bool ?_
              all_goals simp [Tm.alone, *]
            · have hk1b : (k == 1) = false := by simpa using hk1
              have hk2b : (k == 2) = false := by simpa using hk2
              by_cases hk3 : k = 3
              · subst hk3
                by_cases hn : n = 0
                · subst hn
                  go_wp2_with fail
                  all_goals go_ret
                  all_goals refine ⟨?_, hb⟩
                  all_goals rw [HF.out, HR.out, HQ.out]
                  all_goals refine ret_bool ?_
                  all_goals simp [Tm.alone, *]
                  all_goals omega
                · have hnb : (n == 0) = false := by simpa using hn
                  go_wp2_with fail
                  all_goals go_ret
                  all_goals refine ⟨?_, hb⟩
                  all_goals rw [HF.out, HR.out, HQ.out]
                  all_goals refine ret_bool ?_
                  all_goals simp [Tm.alone, *]
              · have hk3b : (k == 3) = false := by simpa using hk3
                go_wp2_with fail
                all_goals go_ret
                all_goals refine ⟨?_, hb⟩
                all_goals rw [HF.out, HR.out, HQ.out]
                all_goals refine ret_bool ?_
                all_goals simp [Tm.alone, *]
end Go.Proofs.Ytpiflkgjmncijaa
