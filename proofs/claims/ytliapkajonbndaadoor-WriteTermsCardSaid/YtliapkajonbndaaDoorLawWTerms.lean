/-
  The walk of finiallaw10.WriteTerms.
-/
import Derived.Test.YtliapkajonbndaaDoorKnX
import Derived.Test.YtliapkajonbndaaDoorDwL
namespace Go.Proofs.YtliapkajonbndaaDoor
open Go.RowKit

/-- A term in a box of the call's own; the table stands. -/
structure WB (w0 : World) (t : Tm) (sv : Value) (bx : Nat) (W : World) : Prop where
  low : Below w0.heap.size w0 W
  bk : W.heap[bx]? = some (.cells #[.int .i64 t.kind, .string t.name, .int .i64 t.n, sv] 24 (0, 0))
  hi : Tm.inn W W.heap.size t sv
  pw : Pow W
theorem WB.lt {w0 : World} {t : Tm} {sv : Value} {bx : Nat} {W : World} (h : WB w0 t sv bx W) : bx < W.heap.size := (Array.getElem?_eq_some_iff.1 h.bk).1
theorem WB.next {w0 : World} {t : Tm} {sv : Value} {bx : Nat} {W W' : World} (h : WB w0 t sv bx W) (hb : Below W.heap.size W W') : WB w0 t sv bx W' :=
  ⟨h.low.trans (hb.mono h.low.size), (hb.block _ h.lt).trans h.bk, kn_next h.hi hb, h.pw.next hb h.pw.lt⟩
section
variable {w0 : World} {t : Tm} {sv : Value} {bx : Nat} {W : World} (k : WB w0 t sv bx W)
include k
theorem WB.cells0 : W.cell? ⟨bx, 0, none⟩ = some (.int .i64 t.kind) := by rw [Lib.cell_of_heap k.bk]; rfl
theorem WB.cells1 : W.cell? ⟨bx, 1, none⟩ = some (.string t.name) := by rw [Lib.cell_of_heap k.bk]; rfl
theorem WB.cells2 : W.cell? ⟨bx, 2, none⟩ = some (.int .i64 t.n) := by rw [Lib.cell_of_heap k.bk]; rfl
theorem WB.cells3 : W.cell? ⟨bx, 3, none⟩ = some sv := by rw [Lib.cell_of_heap k.bk]; rfl
end
theorem WB.new {t : Tm} {sv : Value} {w : World} (hi : Tm.inn w w.heap.size t sv) (hp : Pow w) : WB w t sv w.heap.size (w.alloc (.cells #[.int .i64 t.kind, .string t.name, .int .i64 t.n, sv] 24)) := by
  have hb := (Below.refl w.heap.size w).alloc (Nat.le_refl _) (.cells #[.int .i64 t.kind, .string t.name, .int .i64 t.n, sv] 24)
  exact ⟨hb, heap_alloc_new w _, kn_next hi hb, hp.next hb hp.lt⟩
theorem one_w {W : World} {t : Tm} {sv : Value} {b : Nat} (hb : W.heap[b]? = some (Obj.cells #[.int .i64 t.kind, .string t.name, .int .i64 t.n, sv] 24 (0, 0))) (ht : Tm.inn W W.heap.size t sv) : Tm.sliceIn W W.heap.size [t] (.slice (some ⟨b, 0, none⟩) 1 1) := by
  refine ⟨_, 1, rfl, Nat.le_refl _, by simp, .inr ⟨b, 0, rfl, (Array.getElem?_eq_some_iff.1 hb).1, ?_⟩⟩
  simp only [Tm.rowIn]
  refine ⟨⟨sv, ?_, ?_, ?_, ?_, ht⟩, trivial⟩ <;> simp [World.cell?, hb]
theorem some_size {t : Tm} (h : Tm.someB [t] = true) : t.size ≤ 4000 := by
  simp only [Tm.someB, Bool.and_eq_true, decide_eq_true_eq] at h
  have := Tm.fews_says [t] (fun t _ m d => Tm.few_says t m d) _ _ h.1
  simp only [Tm.sizes] at this
  omega
/-- The row of one term that the law asks about. -/
theorem wsome_any {t : Tm} {g : Option Addr} {m cap : Nat} {W : World} (hi : Tm.inn W W.heap.size t (.slice g m cap)) :
    Calls Tryd.prog 5 #[.slice (some ⟨W.heap.size, 0, none⟩) 1 1] (W.alloc (.cells #[.int .i64 t.kind, .string t.name, .int .i64 t.n, .slice g m cap] 24)) fun e w' => e = .returned (.bool (Tm.someB [t])) ∧ Below W.heap.size W w' := by
  have hb := (Below.refl W.heap.size W).alloc (Nat.le_refl _) (.cells #[.int .i64 t.kind, .string t.name, .int .i64 t.n, .slice g m cap] 24)
  have hs := one_w (newBlk W (.cells #[.int .i64 t.kind, .string t.name, .int .i64 t.n, .slice g m cap] 24) W.heap.size rfl) (kn_next hi hb)
  exact (some_any [t] _ _ _ (Nat.le_refl _) hs).mono fun e w' h => ⟨h.1, hb.trans (h.2.mono hb.size)⟩
theorem tl0 : ((⟨#[]⟩ : ByteArray).toList == []) = true := by rw [bsN_toList]; rfl
set_option maxRecDepth 100000 in
set_option maxHeartbeats 8000000 in
theorem wterms_any (t : Tm) (w : World) (sv : Value) (hin : Tm.inn w w.heap.size t sv) (hpw : Pow w) :
    Calls Tryd.prog 3 #[.agg #[.int .i64 t.kind, .string t.name, .int .i64 t.n, sv]] w fun e w' => e = .returned (.bool true) ∧ Below w.heap.size w w' := by
  obtain ⟨_, g, cap, rfl, _, _, _⟩ := Tm.inn_iff.1 hin
  have HW0 := Lib.hid (WB.new hin hpw)
  have e0 := tl0
  clear hin hpw
  obtain ⟨m, hm⟩ : ∃ m, t.args.length = m := ⟨_, rfl⟩
  rw [hm] at HW0 ⊢
  clear hm
  go_enter Tryd.func3, Tryd.ntmps3
  go_upto_region 1 with fail
  generalize w.alloc (.cells #[.int .i64 t.kind, .string t.name, .int .i64 t.n, .slice g m cap] 24) = u0 at HW0 ⊢
  have c0 : u0.cell? ⟨w.heap.size, 0, none⟩ = some (.int .i64 t.kind) := HW0.out.cells0; have c1 : u0.cell? ⟨w.heap.size, 1, none⟩ = some (.string t.name) := HW0.out.cells1; have c2 : u0.cell? ⟨w.heap.size, 2, none⟩ = some (.int .i64 t.n) := HW0.out.cells2; have c3 : u0.cell? ⟨w.heap.size, 3, none⟩ = some (.slice g m cap) := HW0.out.cells3; have cl := HW0.out.lt
  have HSM := Lib.hid (wsome_any HW0.out.hi)
  cases hsm : Tm.someB [t] with
  | false =>
    rw [hsm] at HSM
    clear hsm
    go_upto_region 2 with (go_at_call 5; (with_reducible refine HSM.out.mono ?_); rintro e u1 ⟨rfl, hb⟩; have HW1 := Lib.hid (HW0.out.next hb); have c0 : u1.cell? ⟨w.heap.size, 0, none⟩ = some (.int .i64 t.kind) := HW1.out.cells0; have c1 : u1.cell? ⟨w.heap.size, 1, none⟩ = some (.string t.name) := HW1.out.cells1; have c2 : u1.cell? ⟨w.heap.size, 2, none⟩ = some (.int .i64 t.n) := HW1.out.cells2; have c3 : u1.cell? ⟨w.heap.size, 3, none⟩ = some (.slice g m cap) := HW1.out.cells3; have cl := HW1.out.lt; clear hb)
    have HK := Lib.hid (wknows_any u1 HW1.out.pw)
    go_wp2_with (go_at_call 6; (with_reducible refine HK.out.mono ?_); rintro e u2 ⟨rfl, hb⟩; have HB2 := Lib.hid (HW1.out.low.trans (hb.mono HW1.out.low.size)); clear hb)
    go_ret
    exact ⟨rfl, HB2.out⟩
  | true =>
    rw [hsm] at HSM
    have hsz := some_size hsm
    clear hsm
    go_upto_region 3 with (go_at_call 5; (with_reducible refine HSM.out.mono ?_); rintro e u1 ⟨rfl, hb⟩; have HW1 := Lib.hid (HW0.out.next hb); have c0 : u1.cell? ⟨w.heap.size, 0, none⟩ = some (.int .i64 t.kind) := HW1.out.cells0; have c1 : u1.cell? ⟨w.heap.size, 1, none⟩ = some (.string t.name) := HW1.out.cells1; have c2 : u1.cell? ⟨w.heap.size, 2, none⟩ = some (.int .i64 t.n) := HW1.out.cells2; have c3 : u1.cell? ⟨w.heap.size, 3, none⟩ = some (.slice g m cap) := HW1.out.cells3; have cl := HW1.out.lt; clear hb)
    have HT := Lib.hid (wterm_any t u1 _ HW1.out.hi (by omega) HW1.out.pw)
    cases hrt : t.right with
    | false =>
      have hwt : wtX t = ([], 1) := by unfold wtX; rw [hrt]; rfl
      rw [hwt] at HT
      clear hwt
      go_upto_region 4 with (go_at_call 7; (refine HT.out.mono ?_); rintro e u2 ⟨rfl, hb⟩; have HW2 := Lib.hid (HW1.out.next hb); have c0 : u2.cell? ⟨w.heap.size, 0, none⟩ = some (.int .i64 t.kind) := HW2.out.cells0; have c1 : u2.cell? ⟨w.heap.size, 1, none⟩ = some (.string t.name) := HW2.out.cells1; have c2 : u2.cell? ⟨w.heap.size, 2, none⟩ = some (.int .i64 t.n) := HW2.out.cells2; have c3 : u2.cell? ⟨w.heap.size, 3, none⟩ = some (.slice g m cap) := HW2.out.cells3; have cl := HW2.out.lt; clear hb)
      have HR := Lib.hid (rright_any t u2 _ _ (Nat.le_refl _) HW2.out.hi (by omega))
      rw [hrt] at HR
      clear hrt
      go_upto_region 5 with (go_at_call 8; (with_reducible refine HR.out.mono ?_); rintro e u3 ⟨rfl, hb⟩; have HW3 := Lib.hid (HW2.out.next hb); have c0 : u3.cell? ⟨w.heap.size, 0, none⟩ = some (.int .i64 t.kind) := HW3.out.cells0; have c1 : u3.cell? ⟨w.heap.size, 1, none⟩ = some (.string t.name) := HW3.out.cells1; have c2 : u3.cell? ⟨w.heap.size, 2, none⟩ = some (.int .i64 t.n) := HW3.out.cells2; have c3 : u3.cell? ⟨w.heap.size, 3, none⟩ = some (.slice g m cap) := HW3.out.cells3; have cl := HW3.out.lt; clear hb)
      have HK := Lib.hid (wknows_any u3 HW3.out.pw)
      go_wp2_with (go_at_call 6; (with_reducible refine HK.out.mono ?_); rintro e u4 ⟨rfl, hb⟩; have HB2 := Lib.hid (HW3.out.low.trans (hb.mono HW3.out.low.size)); clear hb)
      go_ret
      exact ⟨rfl, HB2.out⟩
    | true =>
      have hfa : t.fair = true := by
        simp only [Tm.right, Bool.and_eq_true] at hrt
        exact hrt.1.1
      have HD := Lib.hid (show TmW t from dterm_any hfa (by omega))
      obtain ⟨X, hX⟩ : ∃ X, tx t = X := ⟨_, rfl⟩
      by_cases hl : 8000 < (tx t).length
      · have hwt : wtX t = ([], 3) := by unfold wtX; rw [hrt]; simp [hl]
        rw [hwt] at HT
        have k1 : (8000 : Int) < (X.length : Int) := by rw [← hX]; omega
        clear hwt hl hfa
        go_upto_region 4 with (go_at_call 7; (refine HT.out.mono ?_); rintro e u2 ⟨rfl, hb⟩; have HW2 := Lib.hid (HW1.out.next hb); have c0 : u2.cell? ⟨w.heap.size, 0, none⟩ = some (.int .i64 t.kind) := HW2.out.cells0; have c1 : u2.cell? ⟨w.heap.size, 1, none⟩ = some (.string t.name) := HW2.out.cells1; have c2 : u2.cell? ⟨w.heap.size, 2, none⟩ = some (.int .i64 t.n) := HW2.out.cells2; have c3 : u2.cell? ⟨w.heap.size, 3, none⟩ = some (.slice g m cap) := HW2.out.cells3; have cl := HW2.out.lt; clear hb)
        have HR := Lib.hid (rright_any t u2 _ _ (Nat.le_refl _) HW2.out.hi (by omega))
        rw [hrt] at HR
        clear hrt
        go_upto_region 6 with (go_at_call 8; (with_reducible refine HR.out.mono ?_); rintro e u3 ⟨rfl, hb⟩; have HW3 := Lib.hid (HW2.out.next hb); have c0 : u3.cell? ⟨w.heap.size, 0, none⟩ = some (.int .i64 t.kind) := HW3.out.cells0; have c1 : u3.cell? ⟨w.heap.size, 1, none⟩ = some (.string t.name) := HW3.out.cells1; have c2 : u3.cell? ⟨w.heap.size, 2, none⟩ = some (.int .i64 t.n) := HW3.out.cells2; have c3 : u3.cell? ⟨w.heap.size, 3, none⟩ = some (.slice g m cap) := HW3.out.cells3; have cl := HW3.out.lt; clear hb)
        have HDC := Lib.hid (HD.out u3 _ HW3.out.hi)
        rw [hX] at HDC
        clear hX
        go_upto_region 8 with (go_at_call 9; (with_reducible refine HDC.out.mono ?_); rintro e u4 ⟨rfl, hb⟩; have HW4 := Lib.hid (HW3.out.next hb); have c0 : u4.cell? ⟨w.heap.size, 0, none⟩ = some (.int .i64 t.kind) := HW4.out.cells0; have c1 : u4.cell? ⟨w.heap.size, 1, none⟩ = some (.string t.name) := HW4.out.cells1; have c2 : u4.cell? ⟨w.heap.size, 2, none⟩ = some (.int .i64 t.n) := HW4.out.cells2; have c3 : u4.cell? ⟨w.heap.size, 3, none⟩ = some (.slice g m cap) := HW4.out.cells3; have cl := HW4.out.lt; clear hb)
        have HK := Lib.hid (wknows_any u4 HW4.out.pw)
        go_wp2_with (go_at_call 6; (with_reducible refine HK.out.mono ?_); rintro e u5 ⟨rfl, hb⟩; have HB2 := Lib.hid (HW4.out.low.trans (hb.mono HW4.out.low.size)); clear hb)
        go_ret
        exact ⟨rfl, HB2.out⟩
      · have hwt : wtX t = (tx t, 0) := by unfold wtX; rw [hrt]; simp [hl]
        rw [hwt, hX] at HT
        have k1 : ((8000 : Int) < (X.length : Int)) = False := by simp only [eq_iff_iff, iff_false]; rw [← hX]; omega
        clear hwt hl hfa
        go_upto_region 4 with (go_at_call 7; (refine HT.out.mono ?_); rintro e u2 ⟨rfl, hb⟩; have HW2 := Lib.hid (HW1.out.next hb); have c0 : u2.cell? ⟨w.heap.size, 0, none⟩ = some (.int .i64 t.kind) := HW2.out.cells0; have c1 : u2.cell? ⟨w.heap.size, 1, none⟩ = some (.string t.name) := HW2.out.cells1; have c2 : u2.cell? ⟨w.heap.size, 2, none⟩ = some (.int .i64 t.n) := HW2.out.cells2; have c3 : u2.cell? ⟨w.heap.size, 3, none⟩ = some (.slice g m cap) := HW2.out.cells3; have cl := HW2.out.lt; clear hb)
        have HR := Lib.hid (rright_any t u2 _ _ (Nat.le_refl _) HW2.out.hi (by omega))
        rw [hrt] at HR
        clear hrt
        go_upto_region 6 with (go_at_call 8; (with_reducible refine HR.out.mono ?_); rintro e u3 ⟨rfl, hb⟩; have HW3 := Lib.hid (HW2.out.next hb); have c0 : u3.cell? ⟨w.heap.size, 0, none⟩ = some (.int .i64 t.kind) := HW3.out.cells0; have c1 : u3.cell? ⟨w.heap.size, 1, none⟩ = some (.string t.name) := HW3.out.cells1; have c2 : u3.cell? ⟨w.heap.size, 2, none⟩ = some (.int .i64 t.n) := HW3.out.cells2; have c3 : u3.cell? ⟨w.heap.size, 3, none⟩ = some (.slice g m cap) := HW3.out.cells3; have cl := HW3.out.lt; clear hb)
        have HDC := Lib.hid (HD.out u3 _ HW3.out.hi)
        rw [hX] at HDC
        clear hX
        go_upto_region 9 with (go_at_call 9; (with_reducible refine HDC.out.mono ?_); rintro e u4 ⟨rfl, hb⟩; have HW4 := Lib.hid (HW3.out.next hb); have c0 : u4.cell? ⟨w.heap.size, 0, none⟩ = some (.int .i64 t.kind) := HW4.out.cells0; have c1 : u4.cell? ⟨w.heap.size, 1, none⟩ = some (.string t.name) := HW4.out.cells1; have c2 : u4.cell? ⟨w.heap.size, 2, none⟩ = some (.int .i64 t.n) := HW4.out.cells2; have c3 : u4.cell? ⟨w.heap.size, 3, none⟩ = some (.slice g m cap) := HW4.out.cells3; have cl := HW4.out.lt; clear hb)
        have HK := Lib.hid (wknows_any u4 HW4.out.pw)
        go_wp2_with (go_at_call 6; (with_reducible refine HK.out.mono ?_); rintro e u5 ⟨rfl, hb⟩; have HB2 := Lib.hid (HW4.out.low.trans (hb.mono HW4.out.low.size)); clear hb)
        go_ret
        exact ⟨rfl, HB2.out⟩
end Go.Proofs.YtliapkajonbndaaDoor
