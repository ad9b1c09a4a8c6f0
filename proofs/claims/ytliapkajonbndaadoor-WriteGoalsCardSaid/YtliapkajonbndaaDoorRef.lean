/-
  The document's own answers on one term (size, depth, whether its fields may be, whether two are alike): what their calls give.
  The document's own answers: whether terms are few enough; whether two terms are alike.
  The document's own answers: whether two terms are alike.
  The document's own answers: whether a term is right.
  The document's own answers: whether a term is right, whole; whether Vars have no Args; rows of terms and of numbers that are alike.
-/
import Derived.Test.YtliapkajonbndaaDoorTm
import Derived.Test.YtliapkajonbndaaDoorChecked
import Derived.Lib.Hide
import Derived.StillTailTactics
namespace Go.Proofs.YtliapkajonbndaaDoor
open Go.RowKit

set_option maxHeartbeats 400000 in
theorem rsize_any : ∀ (t : Tm) (w : World) (B : Nat) (sv : Value), B ≤ w.heap.size → Tm.inn w B t sv → t.size ≤ 1000000 →
    Calls Tryd.prog 22 #[.agg #[.int .i64 t.kind, .string t.name, .int .i64 t.n, sv]] w fun e w' => e = .returned (.int .i64 t.size) ∧ Below w.heap.size w w' := by
  refine Tm.ind fun k s n l ih w B sv hB hin hsz => ?_
  obtain ⟨_, hsl⟩ := Tm.inn_mk.1 hin
  have hsl0 := hsl
  obtain ⟨g, cap, rfl, hcap, hlen, _⟩ := hsl0
  simp only [Tm.kind, Tm.name, Tm.n]
  simp only [Tm.size] at hsz
  go_enter Tryd.func22, Tryd.ntmps22
  go_wp2_with fail
  go_loopw [3, 4] (fun m i wr => ∃ k : Nat, k ≤ l.length ∧ i = .int .i64 k ∧ m = .int .i64 ((Tm.sizes (l.take k) + 1 : Nat) : Int) ∧ Below w.heap.size w wr ∧ w.heap.size < wr.heap.size ∧ wr.cell? ⟨w.heap.size, 3, none⟩ = some (.slice g l.length cap)) (fun _ i _ => l.length - (intOf i).toNat)
  case atStart => exact ⟨0, Nat.zero_le _, rfl, by simp [Tm.sizes], (Below.refl _ _).alloc (Nat.le_refl _) _, by simp, by simp⟩
  case round =>
    obtain ⟨k, hk, rfl, rfl, hb, hs, hcc⟩ := hrel
    by_cases hlt : k < l.length
    · obtain ⟨b, off, sv, rfl, hbB, g0, g1, g2, g3, hin'⟩ := Tm.sliceIn_get (Tm.sliceIn_below hsl hb hB) k hlt
      have hm := Tm.sizes_take_succ l k hlt
      have hm2 := Tm.sizes_take_le l (k + 1)
      have hih := ih l[k] (List.getElem_mem hlt) wr B sv (by omega) hin' (by omega)
      have hm3 : Tm.sizes (l.take k) + l[k].size ≤ 999999 := by omega
      have HM := Lib.hid hm
      clear hm hin hsl ih hin'
      go_wp2_with fail
      refine hih.mono ?_
      rintro e w1 ⟨rfl, hb1⟩
      have hcc1 := (hb1.cell (p := ⟨w.heap.size, 3, none⟩) hs).trans hcc
      go_wp2_with fail
      go_roundw
      case rel => 
        refine ⟨k + 1, by omega, by go_num, ?_, hb.trans (hb1.mono (by omega)), by have := hb1.size; omega, hcc1⟩
        rw [HM.out]; go_num
      case measure => simp [intOf]; omega
    · go_wp2_with fail
      go_ret
      have : k = l.length := by omega
      subst this
      exact ⟨by simp [Tm.size], hb⟩

set_option maxHeartbeats 400000 in
theorem rdeep_any : ∀ (t : Tm) (w : World) (B : Nat) (sv : Value), B ≤ w.heap.size → Tm.inn w B t sv → t.size ≤ 1000000 →
    Calls Tryd.prog 23 #[.agg #[.int .i64 t.kind, .string t.name, .int .i64 t.n, sv]] w fun e w' => e = .returned (.int .i64 t.deep) ∧ Below w.heap.size w w' := by
  refine Tm.ind fun k s n l ih w B sv hB hin hsz => ?_
  obtain ⟨_, hsl⟩ := Tm.inn_mk.1 hin
  have hsl0 := hsl
  obtain ⟨g, cap, rfl, hcap, hlen, _⟩ := hsl0
  simp only [Tm.kind, Tm.name, Tm.n]
  have hdp := Tm.deep_le_size (.mk k s n l)
  simp only [Tm.size, Tm.deep] at hsz hdp
  go_enter Tryd.func23, Tryd.ntmps23
  go_wp2_with fail
  go_loopw [3, 4, 5] (fun m i _ wr => ∃ k : Nat, k ≤ l.length ∧ i = .int .i64 k ∧ m = .int .i64 ((Tm.deeps (l.take k) : Nat) : Int) ∧ Below w.heap.size w wr ∧ w.heap.size < wr.heap.size ∧ wr.cell? ⟨w.heap.size, 3, none⟩ = some (.slice g l.length cap)) (fun _ i _ _ => l.length - (intOf i).toNat)
  case atStart => exact ⟨0, Nat.zero_le _, rfl, by simp [Tm.deeps], (Below.refl _ _).alloc (Nat.le_refl _) _, by simp, by simp⟩
  case round =>
    obtain ⟨k, hk, rfl, rfl, hb, hs, hcc⟩ := hrel
    by_cases hlt : k < l.length
    · obtain ⟨b, off, sv, rfl, hbB, g0, g1, g2, g3, hin'⟩ := Tm.sliceIn_get (Tm.sliceIn_below hsl hb hB) k hlt
      have hm := Tm.deeps_take_succ l k hlt
      have hm2 := Tm.deeps_take_le l (k + 1)
      have hsz2 := Tm.size_mem_le (List.getElem_mem hlt)
      have hih := ih l[k] (List.getElem_mem hlt) wr B sv (by omega) hin' (by omega)
      have HM := Lib.hid hm
      clear hm hin hsl ih hin'
      go_wp2_with fail
      refine hih.mono ?_
      rintro e w1 ⟨rfl, hb1⟩
      have hcc1 := (hb1.cell (p := ⟨w.heap.size, 3, none⟩) hs).trans hcc
      go_wp2_with fail
      all_goals go_roundw
      case rel =>
        refine ⟨k + 1, by omega, by go_num, ?_, hb.trans (hb1.mono (by omega)), by have := hb1.size; omega, hcc1⟩
        rw [HM.out, Nat.max_eq_right (by omega)]
      case measure => simp [intOf]; omega
      case rel =>
        refine ⟨k + 1, by omega, by go_num, ?_, hb.trans (hb1.mono (by omega)), by have := hb1.size; omega, hcc1⟩
        rw [HM.out, Nat.max_eq_left (by omega)]
      case measure => simp [intOf]; omega
    · have : k = l.length := by omega
      subst this
      rw [List.take_length]
      go_wp2_with fail
      go_ret
      exact ⟨by simp [Tm.deep], hb⟩

end Go.Proofs.YtliapkajonbndaaDoor

namespace Go.Proofs.YtliapkajonbndaaDoor
open Go.RowKit

set_option maxHeartbeats 400000 in
theorem few_any : ∀ (t : Tm) (w : World) (B : Nat) (sv : Value) (m d : Int), B ≤ w.heap.size → Tm.inn w B t sv → 0 ≤ m → m ≤ 4000 → 0 ≤ d → d ≤ 200 →
    Calls Tryd.prog 11 #[.agg #[.int .i64 t.kind, .string t.name, .int .i64 t.n, sv], .int .i64 m, .int .i64 d] w fun e w' => e = .returned (.int .i64 (t.few m d)) ∧ Below w.heap.size w w' := by
  refine Tm.ind fun k s n l ih w B sv m d hB hin hm0 hm1 hd0 hd1 => ?_
  obtain ⟨⟨_, hss, _⟩, hsl⟩ := Tm.inn_mk.1 hin
  have hsl0 := hsl
  obtain ⟨g, cap, rfl, hcap, hlen, _⟩ := hsl0
  simp only [Tm.kind, Tm.name, Tm.n]
  unfold maxLen at hss
  by_cases hc : m - 1 < 0 ∨ d < 1 ∨ 100 < (s.size : Int)
  · have hf : Tm.few (.mk k s n l) m d = -1 := by simp only [Tm.few]; rw [if_pos hc]
    have HF := Lib.hid hf
    clear hf hsl hin ih
    by_cases h1 : m - 1 < 0
    · clear hc
      go_enter Tryd.func11, Tryd.ntmps11
      go_wp2_with fail
      go_ret
      exact ⟨by rw [HF.out]; rfl, (Below.refl _ _).alloc (Nat.le_refl _) _⟩
    · by_cases h2 : d < 1
      · clear hc
        go_enter Tryd.func11, Tryd.ntmps11
        go_wp2_with fail
        go_ret
        exact ⟨by rw [HF.out]; rfl, (Below.refl _ _).alloc (Nat.le_refl _) _⟩
      · have h3 : 100 < (s.size : Int) := by omega
        clear hc
        go_enter Tryd.func11, Tryd.ntmps11
        go_wp2_with fail
        go_ret
        exact ⟨by rw [HF.out]; rfl, (Below.refl _ _).alloc (Nat.le_refl _) _⟩
  · have hf : Tm.few (.mk k s n l) m d = Tm.fews l (m - 1) (d - 1) := by simp only [Tm.few]; rw [if_neg hc]
    have h1 : 0 ≤ m - 1 := by omega
    have h2 : 1 ≤ d := by omega
    have h3 : (s.size : Int) ≤ 100 := by omega
    have hr : ∀ k, k ≤ l.length → -1 ≤ Tm.fews (l.take k) (m - 1) (d - 1) ∧ Tm.fews (l.take k) (m - 1) (d - 1) ≤ m - 1 := fun k _ =>
      Tm.fews_rng _ (fun t _ m d h => Tm.few_rng t m d h) _ _ (by omega)
    have HF := Lib.hid hf
    have HR := Lib.hid hr
    clear hf hin hc hr
    go_enter Tryd.func11, Tryd.ntmps11
    go_wp2_with fail
    go_loopw [1, 7] (fun q i wr => ∃ k : Nat, k ≤ l.length ∧ i = .int .i64 k ∧ q = .int .i64 (Tm.fews (l.take k) (m - 1) (d - 1)) ∧ Below w.heap.size w wr ∧ w.heap.size < wr.heap.size ∧ wr.cell? ⟨w.heap.size, 3, none⟩ = some (.slice g l.length cap)) (fun _ i _ => l.length - (intOf i).toNat)
    case atStart => exact ⟨0, Nat.zero_le _, rfl, by simp [Tm.fews], (Below.refl _ _).alloc (Nat.le_refl _) _, by simp, by simp⟩
    case round =>
      obtain ⟨k, hk, rfl, rfl, hb, hs, hcc⟩ := hrel
      have hrk := HR.out k hk
      by_cases hlt : k < l.length
      · by_cases hq : 0 ≤ Tm.fews (l.take k) (m - 1) (d - 1)
        · obtain ⟨b, off, sv, rfl, hbB, g0, g1, g2, g3, hin'⟩ := Tm.sliceIn_get (Tm.sliceIn_below hsl hb hB) k hlt
          have hm := Tm.fews_take_succ l k hlt (m - 1) (d - 1) hq
          have hih := ih l[k] (List.getElem_mem hlt) wr B sv (Tm.fews (l.take k) (m - 1) (d - 1)) (d - 1) (by omega) hin' hq (by omega) (by omega) (by omega)
          have HM := Lib.hid hm
          clear hm hsl ih hin'
          go_wp2_with fail
          refine hih.mono ?_
          rintro e w1 ⟨rfl, hb1⟩
          have hcc1 := (hb1.cell (p := ⟨w.heap.size, 3, none⟩) hs).trans hcc
          go_wp2_with fail
          go_roundw
          case rel =>
            refine ⟨k + 1, by omega, by go_num, ?_, hb.trans (hb1.mono (by omega)), by have := hb1.size; omega, hcc1⟩
            rw [HM.out]
          case measure => simp [intOf]; omega
        · have hst := Tm.fews_stop l k (m - 1) (d - 1) (by omega)
          have HS := Lib.hid hst
          clear hst ih hsl
          go_wp2_with fail
          go_ret
          exact ⟨by rw [HF.out, HS.out]; rfl, hb⟩
      · have : k = l.length := by omega
        subst this
        rw [List.take_length] at hrk ⊢
        clear ih hsl
        go_wp2_with fail
        go_ret
        exact ⟨by rw [HF.out]; rfl, hb⟩

set_option maxHeartbeats 400000 in
theorem some_any (l : List Tm) (w : World) (B : Nat) (sv : Value) (hB : B ≤ w.heap.size) (hsl : Tm.sliceIn w B l sv) :
    Calls Tryd.prog 5 #[sv] w fun e w' => e = .returned (.bool (Tm.someB l)) ∧ Below w.heap.size w w' := by
  have hsl0 := hsl
  obtain ⟨g, cap, rfl, hcap, hlen, _⟩ := hsl0
  have hr : ∀ k, k ≤ l.length → -1 ≤ Tm.fews (l.take k) 4000 200 ∧ Tm.fews (l.take k) 4000 200 ≤ 4000 := fun k _ =>
    Tm.fews_rng _ (fun t _ m d h => Tm.few_rng t m d h) _ _ (by omega)
  have HR := Lib.hid hr
  clear hr
  go_enter Tryd.func5, Tryd.ntmps5
  go_wp2_with fail
  go_loopw [3, 4] (fun q i wr => ∃ k : Nat, k ≤ l.length ∧ i = .int .i64 k ∧ q = .int .i64 (Tm.fews (l.take k) 4000 200) ∧ Below w.heap.size w wr) (fun _ i _ => l.length - (intOf i).toNat)
  case atStart => exact ⟨0, Nat.zero_le _, rfl, by simp [Tm.fews], Below.refl _ _⟩
  case round =>
    obtain ⟨k, hk, rfl, rfl, hb⟩ := hrel
    have hrk := HR.out k hk
    by_cases hlt : k < l.length
    · by_cases hq : 0 ≤ Tm.fews (l.take k) 4000 200
      · obtain ⟨b, off, sv, rfl, hbB, g0, g1, g2, g3, hin'⟩ := Tm.sliceIn_get (Tm.sliceIn_below hsl hb hB) k hlt
        have hm := Tm.fews_take_succ l k hlt 4000 200 hq
        have hih := few_any l[k] wr B sv (Tm.fews (l.take k) 4000 200) 200 (by have := hb.size; omega) hin' hq (by omega) (by omega) (by omega)
        have HM := Lib.hid hm
        clear hm hsl hin'
        go_wp2_with fail
        refine hih.mono ?_
        rintro e w1 ⟨rfl, hb1⟩
        go_wp2_with fail
        go_roundw
        case rel =>
          refine ⟨k + 1, by omega, by go_num, ?_, hb.trans (hb1.mono hb.size)⟩
          rw [HM.out]
        case measure => simp [intOf]; omega
      · have hst := Tm.fews_stop l k 4000 200 (by omega)
        have hf : Tm.someB l = false := by simp [Tm.someB, hst]; omega
        have HS := Lib.hid hf
        clear hst hsl hf
        go_wp2_with fail
        go_ret
        exact ⟨by rw [HS.out]; rfl, hb⟩
    · have : k = l.length := by omega
      subst this
      rw [List.take_length] at hrk ⊢
      clear hsl
      by_cases hq : 0 ≤ Tm.fews l 4000 200
      · have hf : Tm.someB l = decide ((l.length : Int) ≤ 100) := by simp only [Tm.someB, hq, decide_true, Bool.true_and]; rw [Bool.eq_iff_iff]; simp; omega
        have HS := Lib.hid hf
        clear hf
        go_wp2_with fail
        go_ret
        exact ⟨by rw [HS.out]; rfl, hb⟩
      · have hf : Tm.someB l = false := by simp [Tm.someB]; omega
        have HS := Lib.hid hf
        clear hf
        go_wp2_with fail
        go_ret
        exact ⟨by rw [HS.out]; rfl, hb⟩
end Go.Proofs.YtliapkajonbndaaDoor

namespace Go.Proofs.YtliapkajonbndaaDoor
open Go.RowKit

theorem sames_take_succ {l l' : List Tm} (hl : l.length = l'.length) {k : Nat} (hk : k < l.length) (hp : l.take k = l'.take k) :
    (Tm.same l[k] (l'[k]'(hl ▸ hk)) = true → l.take (k + 1) = l'.take (k + 1)) ∧ (Tm.same l[k] (l'[k]'(hl ▸ hk)) = false → l ≠ l') := by
  constructor
  · intro h
    rw [List.take_succ_eq_append_getElem hk, List.take_succ_eq_append_getElem (hl ▸ hk), hp, (Tm.same_iff _ _).1 h]
  · intro h e
    subst e
    rw [(Tm.same_iff _ _).2 rfl] at h
    cases h

end Go.Proofs.YtliapkajonbndaaDoor

namespace Go.Proofs.YtliapkajonbndaaDoor
open Go.RowKit

theorem nameOk_iff (s : ByteArray) : Tm.nameOk s = true ↔ ∀ j (h : j < s.size), Tm.byteOk s[j] = true := by
  simp only [Tm.nameOk, List.all_eq_true]
  constructor
  · intro h j hj
    exact h _ (List.getElem_mem (l := s.data.toList) (n := j) (by simpa using hj))
  · intro h x hx
    obtain ⟨j, hj, rfl⟩ := List.getElem_of_mem hx
    exact h j (by simpa using hj)
theorem fairs_iff (l : List Tm) : Tm.fairs l = true ↔ ∀ j (h : j < l.length), l[j].fair = true := by
  rw [Tm.fairs_all, List.all_eq_true]
  constructor
  · intro h j hj
    exact h _ (List.getElem_mem hj)
  · intro h x hx
    obtain ⟨j, hj, rfl⟩ := List.getElem_of_mem hx
    exact h j hj

set_option maxHeartbeats 400000 in
theorem rfair_any : ∀ (t : Tm) (w : World) (B : Nat) (sv : Value), B ≤ w.heap.size → Tm.inn w B t sv →
    Calls Tryd.prog 21 #[.agg #[.int .i64 t.kind, .string t.name, .int .i64 t.n, sv]] w fun e w' => e = .returned (.bool t.fair) ∧ Below w.heap.size w w' := by
  refine Tm.ind fun k s n l ih w B sv hB hin => ?_
  obtain ⟨⟨_, hss, _⟩, hsl⟩ := Tm.inn_mk.1 hin
  have hsl0 := hsl
  obtain ⟨g, cap, rfl, hcap, hlen, _⟩ := hsl0
  simp only [Tm.kind, Tm.name, Tm.n]
  unfold maxLen at hss
  have hf : Tm.fair (.mk k s n l) = (Tm.nameOk s && Tm.fairs l && Tm.alone k s n l.length) := by simp only [Tm.fair]
  have HF := Lib.hid hf
  have hsl2 := Lib.hid hsl
  have ih2 := Lib.hid ih
  clear hf hin hsl ih
  go_enter Tryd.func21, Tryd.ntmps21
  go_wp2_with fail
  go_loopw [3] (fun i wr => ∃ k' : Nat, k' ≤ s.size ∧ i = .int .i64 k' ∧ Hid (∀ j (h : j < s.size), j < k' → Tm.byteOk s[j] = true) ∧ wr = w.alloc (.cells #[.int .i64 k, .string s, .int .i64 n, .slice g l.length cap] 24)) (fun i _ => s.size - (intOf i).toNat)
  case atStart => exact ⟨0, Nat.zero_le _, rfl, fun j _ h => by omega, rfl⟩
  case round =>
    obtain ⟨k', hk', rfl, hp, rfl⟩ := hrel
    by_cases hlt : k' < s.size
    · by_cases h32 : s[k'].toNat < 32
      · have hr : Tm.nameOk s = false := by
          rw [Bool.eq_false_iff]
          intro h
          have := (nameOk_iff s).1 h k' hlt
          simp [Tm.byteOk] at this
          omega
        have HR := Lib.hid hr
        clear hr
        go_wp2_with fail
        go_ret
        exact ⟨by rw [HF.out, HR.out]; rfl, (Below.refl _ _).alloc (Nat.le_refl _) _⟩
      · by_cases h126 : 126 < s[k'].toNat
        · have hr : Tm.nameOk s = false := by
            rw [Bool.eq_false_iff]
            intro h
            have := (nameOk_iff s).1 h k' hlt
            simp [Tm.byteOk] at this
            omega
          have HR := Lib.hid hr
          clear hr
          go_wp2_with fail
          go_ret
          exact ⟨by rw [HF.out, HR.out]; rfl, (Below.refl _ _).alloc (Nat.le_refl _) _⟩
        · have hr : Tm.byteOk s[k'] = true := by simp [Tm.byteOk]; omega
          have HR := Lib.hid hr
          clear hr
          go_wp2_with fail
          go_roundw
          case rel =>
            refine ⟨k' + 1, by omega, by go_num, fun j hj hjk => ?_, trivial⟩
            by_cases hjj : j < k'
            · exact hp.out j hj hjj
            · obtain rfl : j = k' := by omega
              exact HR.out
          case measure => simp [intOf]; omega
    · have hr : Tm.nameOk s = true := (nameOk_iff s).2 fun j hj => hp.out j hj (by omega)
      have HR := Lib.hid hr
      obtain rfl : k' = s.size := by omega
      clear hr hp
      go_wp2_with fail
      go_loopw [4] (fun i wr => ∃ k' : Nat, k' ≤ l.length ∧ i = .int .i64 k' ∧ Hid (∀ j (h : j < l.length), j < k' → l[j].fair = true) ∧ Below w.heap.size w wr ∧ w.heap.size < wr.heap.size ∧ wr.cell? ⟨w.heap.size, 0, none⟩ = some (.int .i64 k) ∧
        wr.cell? ⟨w.heap.size, 1, none⟩ = some (.string s) ∧ wr.cell? ⟨w.heap.size, 2, none⟩ = some (.int .i64 n) ∧ wr.cell? ⟨w.heap.size, 3, none⟩ = some (.slice g l.length cap)) (fun i _ => l.length - (intOf i).toNat)
      case atStart => exact ⟨0, Nat.zero_le _, rfl, fun j _ h => by omega, (Below.refl _ _).alloc (Nat.le_refl _) _, by simp, by simp, by simp, by simp, by simp⟩
      case round =>
        obtain ⟨k', hk', rfl, hp, hb, hs, c0, c1, c2, c3⟩ := hrel
        by_cases hlt : k' < l.length
        · obtain ⟨b, off, sv, rfl, hbB, g0, g1, g2, g3, hin'⟩ := Tm.sliceIn_get (Tm.sliceIn_below hsl2.out hb hB) k' hlt
          have hih := ih2.out l[k'] (List.getElem_mem hlt) wr B sv (by omega) hin'
          have hih2 := Lib.hid hih
          clear hin' hih ih2
          go_wp2_with fail
          refine hih2.out.mono ?_
          rintro e w1 ⟨rfl, hb1⟩
          have d0 := (hb1.cell (p := ⟨w.heap.size, 0, none⟩) hs).trans c0
          have d1 := (hb1.cell (p := ⟨w.heap.size, 1, none⟩) hs).trans c1
          have d2 := (hb1.cell (p := ⟨w.heap.size, 2, none⟩) hs).trans c2
          have d3 := (hb1.cell (p := ⟨w.heap.size, 3, none⟩) hs).trans c3
          cases hq : Tm.fair l[k'] with
          | true =>
            have HQ := Lib.hid hq
            clear hq
            go_wp2_with fail
            go_roundw
            case rel =>
              refine ⟨k' + 1, by omega, by go_num, fun j hj hjk => ?_, hb.trans (hb1.mono (by omega)), by have := hb1.size; omega, d0, d1, d2, d3⟩
              by_cases hjj : j < k'
              · exact hp.out j hj hjj
              · obtain rfl : j = k' := by omega
                exact HQ.out
            case measure => simp [intOf]; omega
          | false =>
            have hr : Tm.fairs l = false := by
              rw [Bool.eq_false_iff]
              intro h
              have := (fairs_iff l).1 h k' hlt
              rw [hq] at this
              cases this
            have HQ := Lib.hid hr
            clear hq hr
            go_wp2_with fail
            go_ret
            exact ⟨by rw [HF.out, HR.out, HQ.out]; rfl, hb.trans (hb1.mono (by omega))⟩
        · have hr : Tm.fairs l = true := (fairs_iff l).2 fun j hj => hp.out j hj (by omega)
          have HQ := Lib.hid hr
          obtain rfl : k' = l.length := by omega
          clear hr hp ih2 hsl2
          by_cases hk1 : k = 1
          · subst hk1
            go_wp2_with fail
            all_goals go_ret
            all_goals refine ⟨?_, hb⟩
            all_goals rw [HF.out, HR.out, HQ.out]
            all_goals refine ret_bool ?_
            all_goals simp [Tm.alone, *]
            all_goals omega
          · by_cases hk2 : k = 2
            · subst hk2
              go_wp2_with fail
              all_goals go_ret
              all_goals refine ⟨?_, hb⟩
              all_goals rw [HF.out, HR.out, HQ.out]
              all_goals refine ret_bool ?_
              all_goals simp [Tm.alone, *]
            · have hk1b : (k == 1) = false := by simpa using hk1
              have hk2b : (k == 2) = false := by simpa using hk2
              by_cases hk3 : k = 3
              · subst hk3
                by_cases hn : n = 0
                · subst hn
                  go_wp2_with fail
                  all_goals go_ret
                  all_goals refine ⟨?_, hb⟩
                  all_goals rw [HF.out, HR.out, HQ.out]
                  all_goals refine ret_bool ?_
                  all_goals simp [Tm.alone, *]
                  all_goals omega
                · have hnb : (n == 0) = false := by simpa using hn
                  go_wp2_with fail
                  all_goals go_ret
                  all_goals refine ⟨?_, hb⟩
                  all_goals rw [HF.out, HR.out, HQ.out]
                  all_goals refine ret_bool ?_
                  all_goals simp [Tm.alone, *]
              · have hk3b : (k == 3) = false := by simpa using hk3
                go_wp2_with fail
                all_goals go_ret
                all_goals refine ⟨?_, hb⟩
                all_goals rw [HF.out, HR.out, HQ.out]
                all_goals refine ret_bool ?_
                all_goals simp [Tm.alone, *]
end Go.Proofs.YtliapkajonbndaaDoor

namespace Go.Proofs.YtliapkajonbndaaDoor
open Go.RowKit

set_option maxHeartbeats 400000 in
theorem rright_any (t : Tm) (w : World) (B : Nat) (sv : Value) (hB : B ≤ w.heap.size) (hin : Tm.inn w B t sv) (hsz : t.size ≤ 1000000) :
    Calls Tryd.prog 8 #[.agg #[.int .i64 t.kind, .string t.name, .int .i64 t.n, sv]] w fun e w' => e = .returned (.bool t.right) ∧ Below w.heap.size w w' := by
  have hin2 := Lib.hid hin
  clear hin
  go_enter Tryd.func8, Tryd.ntmps8
  go_wp2_with fail
  refine (rfair_any t _ B sv (by simp; omega) (Tm.inn_below hin2.out ((Below.refl w.heap.size w).alloc (Nat.le_refl _) _) hB)).mono ?_
  rintro e w1 ⟨rfl, hb1⟩
  have hb1' : Below w.heap.size w w1 := ((Below.refl w.heap.size w).alloc (Nat.le_refl _) _).trans (hb1.mono (by simp))
  have hs1 : w.heap.size < w1.heap.size := by have := hb1.size; simp at this; omega
  have c0 : w1.cell? ⟨w.heap.size, 0, none⟩ = some (.int .i64 t.kind) := (hb1.cell (p := ⟨w.heap.size, 0, none⟩) (by simp)).trans (by simp)
  have c1 : w1.cell? ⟨w.heap.size, 1, none⟩ = some (.string t.name) := (hb1.cell (p := ⟨w.heap.size, 1, none⟩) (by simp)).trans (by simp)
  have c2 : w1.cell? ⟨w.heap.size, 2, none⟩ = some (.int .i64 t.n) := (hb1.cell (p := ⟨w.heap.size, 2, none⟩) (by simp)).trans (by simp)
  have c3 : w1.cell? ⟨w.heap.size, 3, none⟩ = some sv := (hb1.cell (p := ⟨w.heap.size, 3, none⟩) (by simp)).trans (by simp)
  clear hb1
  cases hq : t.fair with
  | false =>
    have hf : t.right = false := by simp [Tm.right, hq]
    have HF := Lib.hid hf
    clear hf hq
    go_wp2_with fail
    go_ret
    exact ⟨by rw [HF.out]; rfl, hb1'⟩
  | true =>
    have HQ := Lib.hid hq
    clear hq
    go_wp2_with fail
    refine (rsize_any t _ B sv (by omega) (Tm.inn_below hin2.out hb1' hB) hsz).mono ?_
    rintro e w2 ⟨rfl, hb2⟩
    have hb2' : Below w.heap.size w w2 := hb1'.trans (hb2.mono (by omega))
    have hs2 : w.heap.size < w2.heap.size := by have := hb2.size; omega
    have d0 := (hb2.cell (p := ⟨w.heap.size, 0, none⟩) hs1).trans c0
    have d1 := (hb2.cell (p := ⟨w.heap.size, 1, none⟩) hs1).trans c1
    have d2 := (hb2.cell (p := ⟨w.heap.size, 2, none⟩) hs1).trans c2
    have d3 := (hb2.cell (p := ⟨w.heap.size, 3, none⟩) hs1).trans c3
    clear hb1' hb2 c0 c1 c2 c3
    by_cases h3 : t.size ≤ 3000
    · go_wp2_with fail
      refine (rdeep_any t _ B sv (by omega) (Tm.inn_below hin2.out hb2' hB) hsz).mono ?_
      rintro e w3 ⟨rfl, hb3⟩
      have hb3' : Below w.heap.size w w3 := hb2'.trans (hb3.mono (by omega))
      have hf : t.right = decide ((t.deep : Int) ≤ 100) := by simp only [Tm.right, HQ.out, h3, decide_true, Bool.true_and]; rw [Bool.eq_iff_iff]; simp; omega
      have HF := Lib.hid hf
      clear hf
      go_wp2_with fail
      go_ret
      exact ⟨by rw [HF.out]; rfl, hb3'⟩
    · have hf : t.right = false := by simp [Tm.right]; intro _ h; omega
      have HF := Lib.hid hf
      clear hf
      go_wp2_with fail
      go_ret
      exact ⟨by rw [HF.out]; rfl, hb2'⟩


end Go.Proofs.YtliapkajonbndaaDoor
