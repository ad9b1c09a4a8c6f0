/-
  The document's own answers: whether terms are few enough; whether two terms are alike.
-/
import Derived.Test.YtpiflkgjmncijaaTm
import Derived.Test.YtpiflkgjmncijaaChecked
import Derived.Lib.Hide
namespace Go.Proofs.Ytpiflkgjmncijaa
open Go.RowKit

set_option maxHeartbeats 400000 in
theorem few_any : ∀ (t : Tm) (w : World) (B : Nat) (sv : Value) (m d : Int), B ≤ w.heap.size → Tm.inn w B t sv → 0 ≤ m → m ≤ 4000 → 0 ≤ d → d ≤ 200 →
    Calls Try.prog 37 #[.agg #[.int .i64 t.kind, .string t.name, .int .i64 t.n, sv], .int .i64 m, .int .i64 d] w fun e w' => e = .returned (.int .i64 (t.few m d)) ∧ Below w.heap.size w w' := by
  refine Tm.ind fun k s n l ih w B sv m d hB hin hm0 hm1 hd0 hd1 => ?_
  obtain ⟨⟨_, hss, _⟩, hsl⟩ := Tm.inn_mk.1 hin
  have hsl0 := hsl
  obtain ⟨g, cap, rfl, hcap, hlen, _⟩ := hsl0
  simp only [Tm.kind, Tm.name, Tm.n]
  unfold maxLen at hss
  by_cases hc : m - 1 < 0 ∨ d < 1 ∨ 100 < (s.size : Int)
  · have hf : Tm.few (.mk k s n l) m d = -1 := by simp only [Tm.few]; rw [if_pos hc]
    have HF := Lib.hid hf
    clear hf hsl hin ih
    by_cases h1 : m - 1 < 0
    · clear hc
      go_enter Try.func37, Try.ntmps37
      go_wp2_with fail
      go_ret
      exact ⟨by rw [HF.out]; rfl, (Below.refl _ _).alloc (Nat.le_refl _) _⟩
    · by_cases h2 : d < 1
      · clear hc
        go_enter Try.func37, Try.ntmps37
        go_wp2_with fail
        go_ret
        exact ⟨by rw [HF.out]; rfl, (Below.refl _ _).alloc (Nat.le_refl _) _⟩
      · have h3 : 100 < (s.size : Int) := by omega
        clear hc
        go_enter Try.func37, Try.ntmps37
        go_wp2_with fail
        go_ret
        exact ⟨by rw [HF.out]; rfl, (Below.refl _ _).alloc (Nat.le_refl _) _⟩
  · have hf : Tm.few (.mk k s n l) m d = Tm.fews l (m - 1) (d - 1) := by simp only [Tm.few]; rw [if_neg hc]
    have h1 : 0 ≤ m - 1 := by omega
    have h2 : 1 ≤ d := by omega
    have h3 : (s.size : Int) ≤ 100 := by omega
    have hr : ∀ k, k ≤ l.length → -1 ≤ Tm.fews (l.take k) (m - 1) (d - 1) ∧ Tm.fews (l.take k) (m - 1) (d - 1) ≤ m - 1 := fun k _ =>
      Tm.fews_rng _ (fun t _ m d h => Tm.few_rng t m d h) _ _ (by omega)
    have HF := Lib.hid hf
    have HR := Lib.hid hr
    clear hf hin hc hr
    go_enter Try.func37, Try.ntmps37
    go_wp2_with fail
    go_loopw [1, 7] (fun q i wr => ∃ k : Nat, k ≤ l.length ∧ i = .int .i64 k ∧ q = .int .i64 (Tm.fews (l.take k) (m - 1) (d - 1)) ∧ Below w.heap.size w wr ∧ w.heap.size < wr.heap.size ∧ wr.cell? ⟨w.heap.size, 3, none⟩ = some (.slice g l.length cap)) (fun _ i _ => l.length - (intOf i).toNat)
    case atStart => exact ⟨0, Nat.zero_le _, rfl, by simp [Tm.fews], (Below.refl _ _).alloc (Nat.le_refl _) _, by simp, by simp⟩
    case round =>
      obtain ⟨k, hk, rfl, rfl, hb, hs, hcc⟩ := hrel
      have hrk := HR.out k hk
      by_cases hlt : k < l.length
      · by_cases hq : 0 ≤ Tm.fews (l.take k) (m - 1) (d - 1)
        · obtain ⟨b, off, sv, rfl, hbB, g0, g1, g2, g3, hin'⟩ := Tm.sliceIn_get (Tm.sliceIn_below hsl hb hB) k hlt
          have hm := Tm.fews_take_succ l k hlt (m - 1) (d - 1) hq
          have hih := ih l[k] (List.getElem_mem hlt) wr B sv (Tm.fews (l.take k) (m - 1) (d - 1)) (d - 1) (by omega) hin' hq (by omega) (by omega) (by omega)
          have HM := Lib.hid hm
          clear hm hsl ih hin'
          go_wp2_with fail
          refine hih.mono ?_
          rintro e w1 ⟨rfl, hb1⟩
          have hcc1 := (hb1.cell (p := ⟨w.heap.size, 3, none⟩) hs).trans hcc
          go_wp2_with fail
          go_roundw
          case rel =>
            refine ⟨k + 1, by omega, by go_num, ?_, hb.trans (hb1.mono (by omega)), by have := hb1.size; omega, hcc1⟩
            rw [HM.out]
          case measure => simp [intOf]; omega
        · have hst := Tm.fews_stop l k (m - 1) (d - 1) (by omega)
          have HS := Lib.hid hst
          clear hst ih hsl
          go_wp2_with fail
          go_ret
          exact ⟨by rw [HF.out, HS.out]; rfl, hb⟩
      · have : k = l.length := by omega
        subst this
        rw [List.take_length] at hrk ⊢
        clear ih hsl
        go_wp2_with fail
        go_ret
        exact ⟨by rw [HF.out]; rfl, hb⟩

set_option maxHeartbeats 400000 in
theorem some_any (l : List Tm) (w : World) (B : Nat) (sv : Value) (hB : B ≤ w.heap.size) (hsl : Tm.sliceIn w B l sv) :
    Calls Try.prog 11 #[sv] w fun e w' => e = .returned (.bool (Tm.someB l)) ∧ Below w.heap.size w w' := by
  have hsl0 := hsl
  obtain ⟨g, cap, rfl, hcap, hlen, _⟩ := hsl0
  have hr : ∀ k, k ≤ l.length → -1 ≤ Tm.fews (l.take k) 4000 200 ∧ Tm.fews (l.take k) 4000 200 ≤ 4000 := fun k _ =>
    Tm.fews_rng _ (fun t _ m d h => Tm.few_rng t m d h) _ _ (by omega)
  have HR := Lib.hid hr
  clear hr
  go_enter Try.func11, Try.ntmps11
  go_wp2_with fail
  go_loopw [3, 4] (fun q i wr => ∃ k : Nat, k ≤ l.length ∧ i = .int .i64 k ∧ q = .int .i64 (Tm.fews (l.take k) 4000 200) ∧ Below w.heap.size w wr) (fun _ i _ => l.length - (intOf i).toNat)
  case atStart => exact ⟨0, Nat.zero_le _, rfl, by simp [Tm.fews], Below.refl _ _⟩
  case round =>
    obtain ⟨k, hk, rfl, rfl, hb⟩ := hrel
    have hrk := HR.out k hk
    by_cases hlt : k < l.length
    · by_cases hq : 0 ≤ Tm.fews (l.take k) 4000 200
      · obtain ⟨b, off, sv, rfl, hbB, g0, g1, g2, g3, hin'⟩ := Tm.sliceIn_get (Tm.sliceIn_below hsl hb hB) k hlt
        have hm := Tm.fews_take_succ l k hlt 4000 200 hq
        have hih := few_any l[k] wr B sv (Tm.fews (l.take k) 4000 200) 200 (by have := hb.size; omega) hin' hq (by omega) (by omega) (by omega)
        have HM := Lib.hid hm
        clear hm hsl hin'
        go_wp2_with fail
        refine hih.mono ?_
        rintro e w1 ⟨rfl, hb1⟩
        go_wp2_with fail
        go_roundw
        case rel =>
          refine ⟨k + 1, by omega, by go_num, ?_, hb.trans (hb1.mono hb.size)⟩
          rw [HM.out]
        case measure => simp [intOf]; omega
      · have hst := Tm.fews_stop l k 4000 200 (by omega)
        have hf : Tm.someB l = false := by simp [Tm.someB, hst]; omega
        have HS := Lib.hid hf
        clear hst hsl hf
        go_wp2_with fail
        go_ret
        exact ⟨by rw [HS.out]; rfl, hb⟩
    · have : k = l.length := by omega
      subst this
      rw [List.take_length] at hrk ⊢
      clear hsl
      by_cases hq : 0 ≤ Tm.fews l 4000 200
      · have hf : Tm.someB l = decide ((l.length : Int) ≤ 100) := by simp only [Tm.someB, hq, decide_true, Bool.true_and]; rw [Bool.eq_iff_iff]; simp; omega
        have HS := Lib.hid hf
        clear hf
        go_wp2_with fail
        go_ret
        exact ⟨by rw [HS.out]; rfl, hb⟩
      · have hf : Tm.someB l = false := by simp [Tm.someB]; omega
        have HS := Lib.hid hf
        clear hf
        go_wp2_with fail
        go_ret
        exact ⟨by rw [HS.out]; rfl, hb⟩
end Go.Proofs.Ytpiflkgjmncijaa
