/-
  The document's Term on lists; its tail; both for every term.
-/
import Derived.Test.YtliapkajonbndaaDoorDwT
namespace Go.Proofs.YtliapkajonbndaaDoor
open Go.RowKit

set_option maxRecDepth 100000 in
set_option maxHeartbeats 8000000 in
theorem tmw_list {a b : Tm} (ha : TmW a) (hb : TlW b) (hfa : a.fair = true) (hfb : b.fair = true) (hsz : a.size + b.size ≤ 1000000) : TmW (.mk 3 ⟨#[46]⟩ 0 [a, b]) := by
  intro w sv hin
  obtain ⟨_, hsl⟩ := Tm.inn_mk.1 hin
  have hla : (tx a).length ≤ 60 * a.size := by
    obtain ⟨sv', h'⟩ := inn_each hsl a (by simp)
    exact (inn_len a hfa w _ sv' h').1
  have hlb : (tl b).length ≤ 60 * b.size + 2 := by
    obtain ⟨sv', h'⟩ := inn_each hsl b (by simp)
    exact (inn_len b hfb w _ sv' h').2
  obtain ⟨g, cap, rfl, -, -, -⟩ := id hsl
  have hx : tx (.mk 3 ⟨#[46]⟩ 0 [a, b]) = 91 :: (tx a ++ tl b) := rfl
  have HX := Lib.hid hx
  obtain ⟨y1, hy1⟩ : ∃ y, 91 :: tx a = y := ⟨_, rfl⟩
  obtain ⟨y2, hy2⟩ : ∃ y, y1 ++ tl b = y := ⟨_, rfl⟩
  have e1 : (⟨#[91]⟩ ++ ⟨(tx a).toArray⟩ : ByteArray) = ⟨y1.toArray⟩ := by rw [← hy1]; exact ba_app [91] (tx a)
  have e2 : (⟨y1.toArray⟩ ++ ⟨(tl b).toArray⟩ : ByteArray) = ⟨y2.toArray⟩ := by rw [← hy2]; exact ba_app y1 (tl b)
  have hl1 : y1.length = (tx a).length + 1 := by rw [← hy1]; simp
  have l1 := lim (a := 1 + (tx a).length) (by omega)
  have l2 := lim (a := y1.length + (tl b).length) (by omega)
  have HY2 := Lib.hid (show y2 = tx (.mk 3 ⟨#[46]⟩ 0 [a, b]) by rw [hx, ← hy2, ← hy1]; simp)
  have HA := Lib.hid ha
  have HBT := Lib.hid hb
  show Calls Tryd.prog 9 #[.agg #[.int .i64 3, .string ⟨#[46]⟩, .int .i64 0, .slice g 2 cap]] w _
  go_enter Tryd.func9, Tryd.ntmps9
  go_upto_region 1 with fail
  have hv := (Below.refl w.heap.size w).alloc (Nat.le_refl _) (.cells #[.int .i64 3, .string ⟨#[46]⟩, .int .i64 0, .slice g 2 cap] 24)
  have hz := newBlk w (.cells #[.int .i64 3, .string ⟨#[46]⟩, .int .i64 0, .slice g 2 cap] 24) w.heap.size rfl
  have hzl : w.heap.size < (w.alloc (.cells #[.int .i64 3, .string ⟨#[46]⟩, .int .i64 0, .slice g 2 cap] 24)).heap.size := by simp
  obtain ⟨v, hv1⟩ : ∃ v, w.alloc (.cells #[.int .i64 3, .string ⟨#[46]⟩, .int .i64 0, .slice g 2 cap] 24) = v := ⟨_, rfl⟩
  rw [hv1] at hv hz hzl ⊢
  clear hv1
  obtain ⟨⟨a0, a1, a2, a3⟩, -⟩ := row4 hz
  have htb : TB9 w ⟨#[46]⟩ [a, b] w.heap.size (.slice g 2 cap) v := ⟨hz, Tm.sliceIn_mono (Tm.sliceIn_below hsl hv (Nat.le_refl _)) hv.size, hv⟩
  obtain ⟨b0, o0, sva, rfl, hta⟩ := TA9.of htb.hs 0 (by simp)
  obtain ⟨b9, o9, svb, e9, htc⟩ := TA9.of htb.hs 1 (by simp)
  injection e9 with e9
  injection e9 with e91 e92
  subst e91 e92
  rw [Nat.zero_mul, Nat.add_zero] at hta
  rw [Nat.one_mul] at htc
  have hta : TA9 v b0 o0 a sva := hta
  have htc : TA9 v b0 (o0 + 4) b svb := htc
  obtain ⟨gs, ms, cs, rfl⟩ : ∃ g m c, sva = .slice g m c := by
    obtain ⟨_, g, c, e, _⟩ := Tm.inn_iff.1 hta.hi
    exact ⟨_, _, _, e⟩
  obtain ⟨gu, mu, cu, rfl⟩ : ∃ g m c, svb = .slice g m c := by
    obtain ⟨_, g, c, e, _⟩ := Tm.inn_iff.1 htc.hi
    exact ⟨_, _, _, e⟩
  have HSC := Lib.hid (fun W1 (h1 : TA9 W1 b0 o0 a (.slice gs ms cs)) (h3 : TA9 W1 b0 (o0 + 4) b (.slice gu mu cu)) (h2 : TB9 w ⟨#[46]⟩ [a, b] w.heap.size (.slice (some ⟨b0, o0, none⟩) 2 cap) W1) => (⟨(row4 h2.hb).1.2.2.2, h1.c0, h1.c1, h1.c2, h1.c3, h3.c0, h3.c1, h3.c2, h3.c3, h1, h3, h2⟩ : W1.cell? ⟨w.heap.size, 3, none⟩ = some (.slice (some ⟨b0, o0, none⟩) 2 cap) ∧ W1.cell? ⟨b0, o0, none⟩ = some (.int .i64 a.kind) ∧ W1.cell? ⟨b0, o0 + 1, none⟩ = some (.string a.name) ∧ W1.cell? ⟨b0, o0 + 2, none⟩ = some (.int .i64 a.n) ∧ W1.cell? ⟨b0, o0 + 3, none⟩ = some (.slice gs ms cs) ∧ W1.cell? ⟨b0, o0 + 4, none⟩ = some (.int .i64 b.kind) ∧ W1.cell? ⟨b0, o0 + 4 + 1, none⟩ = some (.string b.name) ∧ W1.cell? ⟨b0, o0 + 4 + 2, none⟩ = some (.int .i64 b.n) ∧ W1.cell? ⟨b0, o0 + 4 + 3, none⟩ = some (.slice gu mu cu) ∧ TA9 W1 b0 o0 a (.slice gs ms cs) ∧ TA9 W1 b0 (o0 + 4) b (.slice gu mu cu) ∧ TB9 w ⟨#[46]⟩ [a, b] w.heap.size (.slice (some ⟨b0, o0, none⟩) 2 cap) W1))
  have hs9 := HSC.out _ (hta.next (Below.refl v.heap.size v).drew) (htc.next (Below.refl v.heap.size v).drew) (htb.next (Below.refl v.heap.size v).drew)
  have HST := Lib.hid (fun W1 W2 (h : W1.cell? ⟨w.heap.size, 3, none⟩ = some (.slice (some ⟨b0, o0, none⟩) 2 cap) ∧ W1.cell? ⟨b0, o0, none⟩ = some (.int .i64 a.kind) ∧ W1.cell? ⟨b0, o0 + 1, none⟩ = some (.string a.name) ∧ W1.cell? ⟨b0, o0 + 2, none⟩ = some (.int .i64 a.n) ∧ W1.cell? ⟨b0, o0 + 3, none⟩ = some (.slice gs ms cs) ∧ W1.cell? ⟨b0, o0 + 4, none⟩ = some (.int .i64 b.kind) ∧ W1.cell? ⟨b0, o0 + 4 + 1, none⟩ = some (.string b.name) ∧ W1.cell? ⟨b0, o0 + 4 + 2, none⟩ = some (.int .i64 b.n) ∧ W1.cell? ⟨b0, o0 + 4 + 3, none⟩ = some (.slice gu mu cu) ∧ TA9 W1 b0 o0 a (.slice gs ms cs) ∧ TA9 W1 b0 (o0 + 4) b (.slice gu mu cu) ∧ TB9 w ⟨#[46]⟩ [a, b] w.heap.size (.slice (some ⟨b0, o0, none⟩) 2 cap) W1) (hb : Below W1.heap.size W1 W2) => HSC.out W2 (h.2.2.2.2.2.2.2.2.2.1.next hb) (h.2.2.2.2.2.2.2.2.2.2.1.next hb) (h.2.2.2.2.2.2.2.2.2.2.2.next hb))
  have HTM := Lib.hid (fun W1 (h : W1.cell? ⟨w.heap.size, 3, none⟩ = some (.slice (some ⟨b0, o0, none⟩) 2 cap) ∧ W1.cell? ⟨b0, o0, none⟩ = some (.int .i64 a.kind) ∧ W1.cell? ⟨b0, o0 + 1, none⟩ = some (.string a.name) ∧ W1.cell? ⟨b0, o0 + 2, none⟩ = some (.int .i64 a.n) ∧ W1.cell? ⟨b0, o0 + 3, none⟩ = some (.slice gs ms cs) ∧ W1.cell? ⟨b0, o0 + 4, none⟩ = some (.int .i64 b.kind) ∧ W1.cell? ⟨b0, o0 + 4 + 1, none⟩ = some (.string b.name) ∧ W1.cell? ⟨b0, o0 + 4 + 2, none⟩ = some (.int .i64 b.n) ∧ W1.cell? ⟨b0, o0 + 4 + 3, none⟩ = some (.slice gu mu cu) ∧ TA9 W1 b0 o0 a (.slice gs ms cs) ∧ TA9 W1 b0 (o0 + 4) b (.slice gu mu cu) ∧ TB9 w ⟨#[46]⟩ [a, b] w.heap.size (.slice (some ⟨b0, o0, none⟩) 2 cap) W1) => HA.out W1 _ h.2.2.2.2.2.2.2.2.2.1.hi)
  have HTT := Lib.hid (fun W1 (h : W1.cell? ⟨w.heap.size, 3, none⟩ = some (.slice (some ⟨b0, o0, none⟩) 2 cap) ∧ W1.cell? ⟨b0, o0, none⟩ = some (.int .i64 a.kind) ∧ W1.cell? ⟨b0, o0 + 1, none⟩ = some (.string a.name) ∧ W1.cell? ⟨b0, o0 + 2, none⟩ = some (.int .i64 a.n) ∧ W1.cell? ⟨b0, o0 + 3, none⟩ = some (.slice gs ms cs) ∧ W1.cell? ⟨b0, o0 + 4, none⟩ = some (.int .i64 b.kind) ∧ W1.cell? ⟨b0, o0 + 4 + 1, none⟩ = some (.string b.name) ∧ W1.cell? ⟨b0, o0 + 4 + 2, none⟩ = some (.int .i64 b.n) ∧ W1.cell? ⟨b0, o0 + 4 + 3, none⟩ = some (.slice gu mu cu) ∧ TA9 W1 b0 o0 a (.slice gs ms cs) ∧ TA9 W1 b0 (o0 + 4) b (.slice gu mu cu) ∧ TB9 w ⟨#[46]⟩ [a, b] w.heap.size (.slice (some ⟨b0, o0, none⟩) 2 cap) W1) => HBT.out W1 _ h.2.2.2.2.2.2.2.2.2.2.1.hi)
  obtain ⟨x0, x1, x2, x3, _⟩ := id hta
  obtain ⟨z0, z1, z2, z3, _⟩ := id htc
  have hbl := hta.lt
  clear hta htc htb hsl hin hx hy1 hy2 hl1 hla hlb ha hb hz hv
  go_upto_region 8 with fail
  go_region_held3 (fun W1 => W1.cell? ⟨w.heap.size, 3, none⟩ = some (.slice (some ⟨b0, o0, none⟩) 2 cap) ∧ W1.cell? ⟨b0, o0, none⟩ = some (.int .i64 a.kind) ∧ W1.cell? ⟨b0, o0 + 1, none⟩ = some (.string a.name) ∧ W1.cell? ⟨b0, o0 + 2, none⟩ = some (.int .i64 a.n) ∧ W1.cell? ⟨b0, o0 + 3, none⟩ = some (.slice gs ms cs) ∧ W1.cell? ⟨b0, o0 + 4, none⟩ = some (.int .i64 b.kind) ∧ W1.cell? ⟨b0, o0 + 4 + 1, none⟩ = some (.string b.name) ∧ W1.cell? ⟨b0, o0 + 4 + 2, none⟩ = some (.int .i64 b.n) ∧ W1.cell? ⟨b0, o0 + 4 + 3, none⟩ = some (.slice gu mu cu) ∧ TA9 W1 b0 o0 a (.slice gs ms cs) ∧ TA9 W1 b0 (o0 + 4) b (.slice gu mu cu) ∧ TB9 w ⟨#[46]⟩ [a, b] w.heap.size (.slice (some ⟨b0, o0, none⟩) 2 cap) W1)
    (first | with_reducible exact hs9 | assumption | exact HST.out _ _ (by assumption) (by assumption))
    (first
      | (go_at_call 9; (with_reducible refine ((HTM.out _ (by assumption)).mono ?_)); rintro e w' ⟨rfl, hb⟩)
      | (go_at_call 26; (with_reducible refine ((HTT.out _ (by assumption)).mono ?_)); rintro e w' ⟨rfl, hb⟩))
  all_goals
    rename_i hheld
    have HX9 := Lib.hid hheld.2.2.2.2.2.2.2.2.2.2.2.low
    clear hheld
    go_wp2_with fail
    go_ret
    exact ⟨congrArg (fun z : List UInt8 => Ending.returned (.string ⟨z.toArray⟩)) HY2.out, HX9.out⟩
set_option maxRecDepth 100000 in
set_option maxHeartbeats 8000000 in
theorem tlw_dot {a b : Tm} (ha : TmW a) (hb : TlW b) (hfa : a.fair = true) (hfb : b.fair = true) (hsz : a.size + b.size ≤ 1000000) : TlW (.mk 3 ⟨#[46]⟩ 0 [a, b]) := by
  intro w sv hin
  obtain ⟨_, hsl⟩ := Tm.inn_mk.1 hin
  have hla : (tx a).length ≤ 60 * a.size := by
    obtain ⟨sv', h'⟩ := inn_each hsl a (by simp)
    exact (inn_len a hfa w _ sv' h').1
  have hlb : (tl b).length ≤ 60 * b.size + 2 := by
    obtain ⟨sv', h'⟩ := inn_each hsl b (by simp)
    exact (inn_len b hfb w _ sv' h').2
  obtain ⟨g, cap, rfl, -, -, -⟩ := id hsl
  have hx : tl (.mk 3 ⟨#[46]⟩ 0 [a, b]) = 44 :: (tx a ++ tl b) := rfl
  have HX := Lib.hid hx
  obtain ⟨y1, hy1⟩ : ∃ y, 44 :: tx a = y := ⟨_, rfl⟩
  obtain ⟨y2, hy2⟩ : ∃ y, y1 ++ tl b = y := ⟨_, rfl⟩
  have e1 : (⟨#[44]⟩ ++ ⟨(tx a).toArray⟩ : ByteArray) = ⟨y1.toArray⟩ := by rw [← hy1]; exact ba_app [44] (tx a)
  have e2 : (⟨y1.toArray⟩ ++ ⟨(tl b).toArray⟩ : ByteArray) = ⟨y2.toArray⟩ := by rw [← hy2]; exact ba_app y1 (tl b)
  have hl1 : y1.length = (tx a).length + 1 := by rw [← hy1]; simp
  have l1 := lim (a := 1 + (tx a).length) (by omega)
  have l2 := lim (a := y1.length + (tl b).length) (by omega)
  have HY2 := Lib.hid (show y2 = tl (.mk 3 ⟨#[46]⟩ 0 [a, b]) by rw [hx, ← hy2, ← hy1]; simp)
  have HA := Lib.hid ha
  have HBT := Lib.hid hb
  show Calls Tryd.prog 26 #[.agg #[.int .i64 3, .string ⟨#[46]⟩, .int .i64 0, .slice g 2 cap]] w _
  go_enter Tryd.func26, Tryd.ntmps26
  go_upto_region 1 with fail
  have hv := (Below.refl w.heap.size w).alloc (Nat.le_refl _) (.cells #[.int .i64 3, .string ⟨#[46]⟩, .int .i64 0, .slice g 2 cap] 24)
  have hz := newBlk w (.cells #[.int .i64 3, .string ⟨#[46]⟩, .int .i64 0, .slice g 2 cap] 24) w.heap.size rfl
  have hzl : w.heap.size < (w.alloc (.cells #[.int .i64 3, .string ⟨#[46]⟩, .int .i64 0, .slice g 2 cap] 24)).heap.size := by simp
  obtain ⟨v, hv1⟩ : ∃ v, w.alloc (.cells #[.int .i64 3, .string ⟨#[46]⟩, .int .i64 0, .slice g 2 cap] 24) = v := ⟨_, rfl⟩
  rw [hv1] at hv hz hzl ⊢
  clear hv1
  obtain ⟨⟨a0, a1, a2, a3⟩, -⟩ := row4 hz
  have htb : TB9 w ⟨#[46]⟩ [a, b] w.heap.size (.slice g 2 cap) v := ⟨hz, Tm.sliceIn_mono (Tm.sliceIn_below hsl hv (Nat.le_refl _)) hv.size, hv⟩
  obtain ⟨b0, o0, sva, rfl, hta⟩ := TA9.of htb.hs 0 (by simp)
  obtain ⟨b9, o9, svb, e9, htc⟩ := TA9.of htb.hs 1 (by simp)
  injection e9 with e9
  injection e9 with e91 e92
  subst e91 e92
  rw [Nat.zero_mul, Nat.add_zero] at hta
  rw [Nat.one_mul] at htc
  have hta : TA9 v b0 o0 a sva := hta
  have htc : TA9 v b0 (o0 + 4) b svb := htc
  obtain ⟨gs, ms, cs, rfl⟩ : ∃ g m c, sva = .slice g m c := by
    obtain ⟨_, g, c, e, _⟩ := Tm.inn_iff.1 hta.hi
    exact ⟨_, _, _, e⟩
  obtain ⟨gu, mu, cu, rfl⟩ : ∃ g m c, svb = .slice g m c := by
    obtain ⟨_, g, c, e, _⟩ := Tm.inn_iff.1 htc.hi
    exact ⟨_, _, _, e⟩
  have HSC := Lib.hid (fun W1 (h1 : TA9 W1 b0 o0 a (.slice gs ms cs)) (h3 : TA9 W1 b0 (o0 + 4) b (.slice gu mu cu)) (h2 : TB9 w ⟨#[46]⟩ [a, b] w.heap.size (.slice (some ⟨b0, o0, none⟩) 2 cap) W1) => (⟨(row4 h2.hb).1.2.2.2, h1.c0, h1.c1, h1.c2, h1.c3, h3.c0, h3.c1, h3.c2, h3.c3, h1, h3, h2⟩ : W1.cell? ⟨w.heap.size, 3, none⟩ = some (.slice (some ⟨b0, o0, none⟩) 2 cap) ∧ W1.cell? ⟨b0, o0, none⟩ = some (.int .i64 a.kind) ∧ W1.cell? ⟨b0, o0 + 1, none⟩ = some (.string a.name) ∧ W1.cell? ⟨b0, o0 + 2, none⟩ = some (.int .i64 a.n) ∧ W1.cell? ⟨b0, o0 + 3, none⟩ = some (.slice gs ms cs) ∧ W1.cell? ⟨b0, o0 + 4, none⟩ = some (.int .i64 b.kind) ∧ W1.cell? ⟨b0, o0 + 4 + 1, none⟩ = some (.string b.name) ∧ W1.cell? ⟨b0, o0 + 4 + 2, none⟩ = some (.int .i64 b.n) ∧ W1.cell? ⟨b0, o0 + 4 + 3, none⟩ = some (.slice gu mu cu) ∧ TA9 W1 b0 o0 a (.slice gs ms cs) ∧ TA9 W1 b0 (o0 + 4) b (.slice gu mu cu) ∧ TB9 w ⟨#[46]⟩ [a, b] w.heap.size (.slice (some ⟨b0, o0, none⟩) 2 cap) W1))
  have hs9 := HSC.out _ (hta.next (Below.refl v.heap.size v).drew) (htc.next (Below.refl v.heap.size v).drew) (htb.next (Below.refl v.heap.size v).drew)
  have HST := Lib.hid (fun W1 W2 (h : W1.cell? ⟨w.heap.size, 3, none⟩ = some (.slice (some ⟨b0, o0, none⟩) 2 cap) ∧ W1.cell? ⟨b0, o0, none⟩ = some (.int .i64 a.kind) ∧ W1.cell? ⟨b0, o0 + 1, none⟩ = some (.string a.name) ∧ W1.cell? ⟨b0, o0 + 2, none⟩ = some (.int .i64 a.n) ∧ W1.cell? ⟨b0, o0 + 3, none⟩ = some (.slice gs ms cs) ∧ W1.cell? ⟨b0, o0 + 4, none⟩ = some (.int .i64 b.kind) ∧ W1.cell? ⟨b0, o0 + 4 + 1, none⟩ = some (.string b.name) ∧ W1.cell? ⟨b0, o0 + 4 + 2, none⟩ = some (.int .i64 b.n) ∧ W1.cell? ⟨b0, o0 + 4 + 3, none⟩ = some (.slice gu mu cu) ∧ TA9 W1 b0 o0 a (.slice gs ms cs) ∧ TA9 W1 b0 (o0 + 4) b (.slice gu mu cu) ∧ TB9 w ⟨#[46]⟩ [a, b] w.heap.size (.slice (some ⟨b0, o0, none⟩) 2 cap) W1) (hb : Below W1.heap.size W1 W2) => HSC.out W2 (h.2.2.2.2.2.2.2.2.2.1.next hb) (h.2.2.2.2.2.2.2.2.2.2.1.next hb) (h.2.2.2.2.2.2.2.2.2.2.2.next hb))
  have HTM := Lib.hid (fun W1 (h : W1.cell? ⟨w.heap.size, 3, none⟩ = some (.slice (some ⟨b0, o0, none⟩) 2 cap) ∧ W1.cell? ⟨b0, o0, none⟩ = some (.int .i64 a.kind) ∧ W1.cell? ⟨b0, o0 + 1, none⟩ = some (.string a.name) ∧ W1.cell? ⟨b0, o0 + 2, none⟩ = some (.int .i64 a.n) ∧ W1.cell? ⟨b0, o0 + 3, none⟩ = some (.slice gs ms cs) ∧ W1.cell? ⟨b0, o0 + 4, none⟩ = some (.int .i64 b.kind) ∧ W1.cell? ⟨b0, o0 + 4 + 1, none⟩ = some (.string b.name) ∧ W1.cell? ⟨b0, o0 + 4 + 2, none⟩ = some (.int .i64 b.n) ∧ W1.cell? ⟨b0, o0 + 4 + 3, none⟩ = some (.slice gu mu cu) ∧ TA9 W1 b0 o0 a (.slice gs ms cs) ∧ TA9 W1 b0 (o0 + 4) b (.slice gu mu cu) ∧ TB9 w ⟨#[46]⟩ [a, b] w.heap.size (.slice (some ⟨b0, o0, none⟩) 2 cap) W1) => HA.out W1 _ h.2.2.2.2.2.2.2.2.2.1.hi)
  have HTT := Lib.hid (fun W1 (h : W1.cell? ⟨w.heap.size, 3, none⟩ = some (.slice (some ⟨b0, o0, none⟩) 2 cap) ∧ W1.cell? ⟨b0, o0, none⟩ = some (.int .i64 a.kind) ∧ W1.cell? ⟨b0, o0 + 1, none⟩ = some (.string a.name) ∧ W1.cell? ⟨b0, o0 + 2, none⟩ = some (.int .i64 a.n) ∧ W1.cell? ⟨b0, o0 + 3, none⟩ = some (.slice gs ms cs) ∧ W1.cell? ⟨b0, o0 + 4, none⟩ = some (.int .i64 b.kind) ∧ W1.cell? ⟨b0, o0 + 4 + 1, none⟩ = some (.string b.name) ∧ W1.cell? ⟨b0, o0 + 4 + 2, none⟩ = some (.int .i64 b.n) ∧ W1.cell? ⟨b0, o0 + 4 + 3, none⟩ = some (.slice gu mu cu) ∧ TA9 W1 b0 o0 a (.slice gs ms cs) ∧ TA9 W1 b0 (o0 + 4) b (.slice gu mu cu) ∧ TB9 w ⟨#[46]⟩ [a, b] w.heap.size (.slice (some ⟨b0, o0, none⟩) 2 cap) W1) => HBT.out W1 _ h.2.2.2.2.2.2.2.2.2.2.1.hi)
  obtain ⟨x0, x1, x2, x3, _⟩ := id hta
  obtain ⟨z0, z1, z2, z3, _⟩ := id htc
  have hbl := hta.lt
  clear hta htc htb hsl hin hx hy1 hy2 hl1 hla hlb ha hb hz hv
  go_upto_region 4 with fail
  go_region_held3 (fun W1 => W1.cell? ⟨w.heap.size, 3, none⟩ = some (.slice (some ⟨b0, o0, none⟩) 2 cap) ∧ W1.cell? ⟨b0, o0, none⟩ = some (.int .i64 a.kind) ∧ W1.cell? ⟨b0, o0 + 1, none⟩ = some (.string a.name) ∧ W1.cell? ⟨b0, o0 + 2, none⟩ = some (.int .i64 a.n) ∧ W1.cell? ⟨b0, o0 + 3, none⟩ = some (.slice gs ms cs) ∧ W1.cell? ⟨b0, o0 + 4, none⟩ = some (.int .i64 b.kind) ∧ W1.cell? ⟨b0, o0 + 4 + 1, none⟩ = some (.string b.name) ∧ W1.cell? ⟨b0, o0 + 4 + 2, none⟩ = some (.int .i64 b.n) ∧ W1.cell? ⟨b0, o0 + 4 + 3, none⟩ = some (.slice gu mu cu) ∧ TA9 W1 b0 o0 a (.slice gs ms cs) ∧ TA9 W1 b0 (o0 + 4) b (.slice gu mu cu) ∧ TB9 w ⟨#[46]⟩ [a, b] w.heap.size (.slice (some ⟨b0, o0, none⟩) 2 cap) W1)
    (first | with_reducible exact hs9 | assumption | exact HST.out _ _ (by assumption) (by assumption))
    (first
      | (go_at_call 9; (with_reducible refine ((HTM.out _ (by assumption)).mono ?_)); rintro e w' ⟨rfl, hb⟩)
      | (go_at_call 26; (with_reducible refine ((HTT.out _ (by assumption)).mono ?_)); rintro e w' ⟨rfl, hb⟩))
  all_goals
    rename_i hheld
    have HX9 := Lib.hid hheld.2.2.2.2.2.2.2.2.2.2.2.low
    clear hheld
    go_wp2_with fail
    go_ret
    exact ⟨congrArg (fun z : List UInt8 => Ending.returned (.string ⟨z.toArray⟩)) HY2.out, HX9.out⟩
set_option maxRecDepth 100000 in
set_option maxHeartbeats 4000000 in
theorem tlw_nil : TlW (.mk 3 ⟨#[91, 93]⟩ 0 []) := by
  intro w sv hin
  obtain ⟨_, g, cap, rfl, -, -, -⟩ := Tm.inn_mk.1 hin
  show Calls Tryd.prog 26 #[.agg #[.int .i64 3, .string ⟨#[91, 93]⟩, .int .i64 0, .slice g 0 cap]] w _
  clear hin
  go_enter Tryd.func26, Tryd.ntmps26
  go_upto_region 1 with fail
  have hv := (Below.refl w.heap.size w).alloc (Nat.le_refl _) (.cells #[.int .i64 3, .string ⟨#[91, 93]⟩, .int .i64 0, .slice g 0 cap] 24)
  have hz := newBlk w (.cells #[.int .i64 3, .string ⟨#[91, 93]⟩, .int .i64 0, .slice g 0 cap] 24) w.heap.size rfl
  have hzl : w.heap.size < (w.alloc (.cells #[.int .i64 3, .string ⟨#[91, 93]⟩, .int .i64 0, .slice g 0 cap] 24)).heap.size := by simp
  obtain ⟨v, hv1⟩ : ∃ v, w.alloc (.cells #[.int .i64 3, .string ⟨#[91, 93]⟩, .int .i64 0, .slice g 0 cap] 24) = v := ⟨_, rfl⟩
  rw [hv1] at hv hz hzl ⊢
  clear hv1
  obtain ⟨⟨a0, a1, a2, a3⟩, -⟩ := row4 hz
  have HV := Lib.hid hv
  clear hv hz
  go_wp2_with fail
  go_ret
  exact ⟨rfl, HV.out⟩
set_option maxRecDepth 100000 in
set_option maxHeartbeats 4000000 in
theorem tlw_other {k : Int} {s : ByteArray} {n : Int} {l : List Tm} (hf : (Tm.mk k s n l).fair = true) (hsz : (Tm.mk k s n l).size ≤ 1000000) (hw : TmW (.mk k s n l)) (h1 : ¬ (k = 3 ∧ bsN s = [91, 93] ∧ l = [])) (h2 : ¬ (k = 3 ∧ bsN s = [46] ∧ l.length = 2)) (ht : tl (.mk k s n l) = 124 :: (tx (.mk k s n l) ++ [93])) : TlW (.mk k s n l) := by
  intro w sv hin
  have hlx := (inn_len _ hf w _ sv hin).1
  obtain ⟨_, hsl⟩ := Tm.inn_mk.1 hin
  obtain ⟨g, cap, rfl, -, -, -⟩ := id hsl
  obtain ⟨X, hX⟩ : ∃ X, tx (.mk k s n l) = X := ⟨_, rfl⟩
  rw [hX] at hlx ht
  have HT := Lib.hid ht
  have hw9 := fun W1 sv1 h => hw W1 sv1 h
  simp only [hX] at hw9
  have HW := Lib.hid hw9
  have hm0 : l = [] ↔ l.length = 0 := ⟨fun h => by rw [h]; rfl, List.eq_nil_of_length_eq_zero⟩
  rw [hm0] at h1
  have hin9 := hin
  obtain ⟨m, hm⟩ : ∃ m, l.length = m := ⟨_, rfl⟩
  have hcase : (((k : Int) == 3) = false) ∨ (((k : Int) == 3) = true ∧ (s.toList == [91, 93]) = true ∧ (s.toList == [46]) = false ∧ ((m : Int) == 0) = false) ∨ (((k : Int) == 3) = true ∧ (s.toList == [91, 93]) = false ∧ (s.toList == [46]) = true ∧ ((m : Int) == 2) = false) ∨ (((k : Int) == 3) = true ∧ (s.toList == [91, 93]) = false ∧ (s.toList == [46]) = false) := by
    rw [hm] at h1 h2
    by_cases c3 : k = 3
    · have b3 : ((k : Int) == 3) = true := by rw [c3]; rfl
      by_cases c1 : bsN s = [91, 93]
      · refine .inr (.inl ⟨b3, by rw [bsN_toList, c1]; rfl, by rw [bsN_toList, c1]; rfl, ?_⟩)
        rw [beq_eq_false_iff_ne]
        intro e
        exact h1 ⟨c3, c1, by omega⟩
      · have b1 : (s.toList == [91, 93]) = false := by rw [bsN_toList, beq_eq_false_iff_ne]; exact c1
        by_cases c2 : bsN s = [46]
        · refine .inr (.inr (.inl ⟨b3, b1, by rw [bsN_toList, c2]; rfl, ?_⟩))
          rw [beq_eq_false_iff_ne]
          intro e
          exact h2 ⟨c3, c2, by omega⟩
        · exact .inr (.inr (.inr ⟨b3, b1, by rw [bsN_toList, beq_eq_false_iff_ne]; exact c2⟩))
    · exact .inl (by rw [beq_eq_false_iff_ne]; exact c3)
  obtain ⟨y1, hy1⟩ : ∃ y, 124 :: X = y := ⟨_, rfl⟩
  obtain ⟨y2, hy2⟩ : ∃ y, y1 ++ [93] = y := ⟨_, rfl⟩
  have e1 : (⟨#[124]⟩ ++ ⟨X.toArray⟩ : ByteArray) = ⟨y1.toArray⟩ := by rw [← hy1]; exact ba_app [124] X
  have e2 : (⟨y1.toArray⟩ ++ ⟨#[93]⟩ : ByteArray) = ⟨y2.toArray⟩ := by rw [← hy2]; exact ba_app y1 [93]
  have hl1 : y1.length = X.length + 1 := by rw [← hy1]; simp
  have l1 := lim (a := 1 + X.length) (by omega)
  have l2 := lim (a := y1.length + 1) (by omega)
  have HY2 := Lib.hid (show y2 = tl (.mk k s n l) by rw [ht, ← hy2, ← hy1]; simp)
  show Calls Tryd.prog 26 #[.agg #[.int .i64 k, .string s, .int .i64 n, .slice g l.length cap]] w _
  rw [hm]
  go_enter Tryd.func26, Tryd.ntmps26
  go_upto_region 1 with fail
  have hv := (Below.refl w.heap.size w).alloc (Nat.le_refl _) (.cells #[.int .i64 k, .string s, .int .i64 n, .slice g m cap] 24)
  have hz := newBlk w (.cells #[.int .i64 k, .string s, .int .i64 n, .slice g m cap] 24) w.heap.size rfl
  have hzl : w.heap.size < (w.alloc (.cells #[.int .i64 k, .string s, .int .i64 n, .slice g m cap] 24)).heap.size := by simp
  obtain ⟨v, hv1⟩ : ∃ v, w.alloc (.cells #[.int .i64 k, .string s, .int .i64 n, .slice g m cap] 24) = v := ⟨_, rfl⟩
  rw [hv1] at hv hz hzl ⊢
  clear hv1
  obtain ⟨⟨a0, a1, a2, a3⟩, -⟩ := row4 hz
  have hi9 : Tm.inn v v.heap.size (.mk k s n l) (.slice g m cap) := by rw [← hm]; exact Tm.inn_mono (Tm.inn_below hin9 hv (Nat.le_refl _)) hv.size
  have hcall := HW.out v _ hi9
  have hcall : Calls Tryd.prog 9 #[.agg #[.int .i64 k, .string s, .int .i64 n, .slice g m cap]] v fun e w' => e = .returned (.string ⟨X.toArray⟩) ∧ Below v.heap.size v w' := hcall
  have HCA := Lib.hid hcall
  have HV := Lib.hid hv
  clear hcall hi9 hin9 hin hsl hv hz hy1 hy2 hl1 hlx ht hX hw hw9 h1 h2 hm0 hf hsz hm
  rcases hcase with c3 | ⟨c3, c1, c2, c4⟩ | ⟨c3, c1, c2, c4⟩ | ⟨c3, c1, c2⟩
  all_goals
    go_wp2_with (go_at_call 9; (with_reducible refine (HCA.out.mono ?_)); rintro e w' ⟨rfl, hb⟩; have HB := Lib.hid hb; clear hb)
    go_ret
    exact ⟨congrArg (fun z : List UInt8 => Ending.returned (.string ⟨z.toArray⟩)) HY2.out, HV.out.trans (HB.out.mono HV.out.size)⟩
theorem dterm_both : ∀ t : Tm, t.fair = true → t.size ≤ 1000000 → TmW t ∧ TlW t := Tm.ind fun k s n l ih hf hsz => by
  have hfw := hf
  have hszw := hsz
  simp only [Tm.fair, Bool.and_eq_true] at hf
  obtain ⟨⟨hs, hl⟩, hal⟩ := hf
  rw [Tm.fairs_all, List.all_eq_true] at hl
  simp only [Tm.size] at hsz
  have IH : ∀ t ∈ l, TmW t ∧ TlW t := fun t ht => ih t ht (hl t ht) (by have := Tm.size_mem ht; omega)
  unfold Tm.alone at hal
  by_cases h1 : k = 1
  · rw [if_pos h1] at hal
    simp only [Bool.and_eq_true, decide_eq_true_eq, beq_iff_eq] at hal
    obtain ⟨⟨⟨a1, a2⟩, a3⟩, a4⟩ := hal
    obtain rfl : l = [] := List.eq_nil_of_length_eq_zero (by omega)
    obtain rfl : s = ⟨#[]⟩ := ByteArray.ext (Array.eq_empty_of_size_eq_zero (by rw [← size0] at a3; exact a3))
    subst h1
    have h := tmw_var (n := n) a1
    exact ⟨h, tlw_other hfw hszw h (by omega) (by omega) (by simp [tl, wr, tlO, tx])⟩
  rw [if_neg h1] at hal
  by_cases h2 : k = 2
  · rw [if_pos h2] at hal
    simp only [Bool.and_eq_true, decide_eq_true_eq, beq_iff_eq] at hal
    obtain ⟨a3, a4⟩ := hal
    obtain rfl : l = [] := List.eq_nil_of_length_eq_zero (by omega)
    obtain rfl : s = ⟨#[]⟩ := ByteArray.ext (Array.eq_empty_of_size_eq_zero (by rw [← size0] at a3; exact a3))
    subst h2
    have h := tmw_num n
    exact ⟨h, tlw_other hfw hszw h (by omega) (by omega) (by simp [tl, wr, tlO, tx])⟩
  rw [if_neg h2] at hal
  by_cases h3 : k = 3
  · rw [if_pos h3] at hal
    simp only [Bool.and_eq_true, decide_eq_true_eq] at hal
    obtain ⟨⟨⟨a1, a2⟩, a3⟩, a4⟩ := hal
    subst h3 a1
    have b2 : s.size ≤ 20 := by omega
    cases l with
    | nil =>
      have h := tmw_atom b2
      refine ⟨h, ?_⟩
      by_cases hnil : bsN s = [91, 93]
      · obtain rfl : s = ⟨#[91, 93]⟩ := by rw [← bsN_arr s, hnil]
        exact tlw_nil
      · exact tlw_other hfw hszw h (fun e => hnil e.2.1) (by simp) (by simp [tl, wr, tlO, tx, wrs, hnil, dotO])
    | cons a q =>
      by_cases hd : bsN s = [46] ∧ q.length = 1
      · obtain ⟨h46, hq1⟩ := hd
        obtain ⟨b, rfl⟩ := List.length_eq_one_iff.1 hq1
        obtain rfl : s = ⟨#[46]⟩ := by rw [← bsN_arr s, h46]
        have hz : a.size + b.size ≤ 1000000 := by simp only [Tm.sizes] at hsz; omega
        exact ⟨tmw_list (IH a (by simp)).1 (IH b (by simp)).2 (hl a (by simp)) (hl b (by simp)) hz, tlw_dot (IH a (by simp)).1 (IH b (by simp)).2 (hl a (by simp)) (hl b (by simp)) hz⟩
      · have h := tmw_fun (s := s) (a := a) (q := q) b2 (fun t ht => (IH t ht).1) hd (by omega) hl
        refine ⟨h, tlw_other hfw hszw h (by simp) (fun e => hd ⟨e.2.1, by have := e.2.2; simp only [List.length_cons] at this; omega⟩) ?_⟩
        show tlO 3 (bsN s) 0 (wrs (a :: q)) = 124 :: (txO 3 (bsN s) 0 (wrs (a :: q)) ++ [93])
        have hdot : dotO (bsN s) (wrs (a :: q)) = none := by
          cases q with
          | nil => rfl
          | cons b q =>
            cases q with
            | nil =>
              simp only [wrs, dotO]
              rw [if_neg (fun e => hd ⟨e, rfl⟩)]
            | cons c q => rfl
        unfold tlO
        rw [if_neg (by rintro ⟨_, _, e⟩; rw [wrs] at e; cases e), if_pos rfl, hdot]
  · rw [if_neg h3] at hal
    cases hal
/-- The document's Term of a term that is right. -/
theorem dterm_any {t : Tm} (hf : t.fair = true) (hsz : t.size ≤ 1000000) : TmW t := (dterm_both t hf hsz).1
end Go.Proofs.YtliapkajonbndaaDoor
