/-
  The walk of finiallaw10.WriteGoals.
-/
import Derived.Test.YtliapkajonbndaaDoorLawWTerms
import Derived.Test.YtliapkajonbndaaDoorDwK
import Derived.Test.YtliapkajonbndaaDoorDwF
namespace Go.Proofs.YtliapkajonbndaaDoor
open Go.RowKit

theorem right_says : RightSays := fun t w sv hin hsz => rright_any t w _ sv (Nat.le_refl _) hin hsz
theorem few_says_w : FewSays := fun t w sv most hin h0 h1 => (few_any t w _ sv most 200 (Nat.le_refl _) hin h0 h1 (by omega) (by omega)).mono fun e w' h => by
  have h2 := Tm.few_rng t most 200 h0
  exact ⟨⟨t.few most 200, h.1, h2.1, by omega, fun h3 => by have h4 := Tm.few_says t most 200 h3; omega⟩, h.2⟩
/-- The head in its box, the goals. -/
structure WG (w0 : World) (h : Tm) (l : List Gl) (sv v : Value) (bx : Nat) (W : World) : Prop where
  wb : WB w0 h sv bx W
  hs : Gl.sliceIn W W.heap.size l v
theorem WG.next {w0 : World} {h : Tm} {l : List Gl} {sv v : Value} {bx : Nat} {W W' : World} (k : WG w0 h l sv v bx W) (hb : Below W.heap.size W W') : WG w0 h l sv v bx W' := ⟨k.wb.next hb, Gl.sliceIn_next k.hs hb⟩
set_option maxRecDepth 100000 in
set_option maxHeartbeats 8000000 in
theorem wgoalsL_any (l : List Gl) (h : Tm) (w : World) (v sv : Value) (hsl : Gl.sliceIn w w.heap.size l v) (hin : Tm.inn w w.heap.size h sv) (hpw : Pow w) :
    Calls Tryd.prog 4 #[v, .agg #[.int .i64 h.kind, .string h.name, .int .i64 h.n, sv]] w fun e w' => e = .returned (.bool true) ∧ Below w.heap.size w w' := by
  obtain ⟨_, g, cap, rfl, _, _, _⟩ := Tm.inn_iff.1 hin
  obtain ⟨gv, cv, rfl, _, hlm, _⟩ := id hsl
  have hlm2 : l.length ≤ 1034834473200 := hlm
  have HW0 := Lib.hid (show WG w h l (.slice g h.args.length cap) (.slice gv l.length cv) w.heap.size (w.alloc (.cells #[.int .i64 h.kind, .string h.name, .int .i64 h.n, .slice g h.args.length cap] 24)) from ⟨WB.new hin hpw, Gl.sliceIn_next hsl ((Below.refl w.heap.size w).alloc (Nat.le_refl _) _)⟩)
  clear hin hpw hsl hlm
  obtain ⟨m, hm⟩ : ∃ m, h.args.length = m := ⟨_, rfl⟩
  obtain ⟨q, hq⟩ : ∃ q, l.length = q := ⟨_, rfl⟩
  rw [hm, hq] at HW0 ⊢
  rw [hq] at hlm2
  have HQ := Lib.hid hq
  clear hm hq
  have HF := Lib.hid (gfew_any few_says_w l)
  by_cases h100 : 100 < q
  · have k1 : (100 : Int) < (q : Int) := by omega
    go_enter Tryd.func4, Tryd.ntmps4
    go_upto_region 1 with fail
    generalize w.alloc (.cells #[.int .i64 h.kind, .string h.name, .int .i64 h.n, .slice g m cap] 24) = u0 at HW0 ⊢
    have HK := Lib.hid (wknows_any u0 HW0.out.wb.pw)
    go_wp2_with (go_at_call 6; (with_reducible refine HK.out.mono ?_); rintro e u2 ⟨rfl, hb⟩; have HB2 := Lib.hid (HW0.out.wb.low.trans (hb.mono HW0.out.wb.low.size)); clear hb)
    go_ret
    exact ⟨rfl, HB2.out⟩
  have k1 : ((100 : Int) < (q : Int)) = False := by simp only [eq_iff_iff, iff_false]; omega
  go_enter Tryd.func4, Tryd.ntmps4
  go_upto_region 1 with fail
  generalize w.alloc (.cells #[.int .i64 h.kind, .string h.name, .int .i64 h.n, .slice g m cap] 24) = u0 at HW0 ⊢
  go_wp2_with fail
  refine (HF.out u0 _ 1000 50 HW0.out.hs (by omega) (by omega) (by omega) (by omega)).mono ?_
  rintro e u1 ⟨⟨n, rfl, hn0, hn1, hn2⟩, hb⟩
  have HN := Lib.hid hn2
  clear hn2
  have HW1 := Lib.hid (HW0.out.next hb); have c0 : u1.cell? ⟨w.heap.size, 0, none⟩ = some (.int .i64 h.kind) := HW1.out.wb.cells0; have c1 : u1.cell? ⟨w.heap.size, 1, none⟩ = some (.string h.name) := HW1.out.wb.cells1; have c2 : u1.cell? ⟨w.heap.size, 2, none⟩ = some (.int .i64 h.n) := HW1.out.wb.cells2; have c3 : u1.cell? ⟨w.heap.size, 3, none⟩ = some (.slice g m cap) := HW1.out.wb.cells3; have cl := HW1.out.wb.lt; clear hb
  by_cases hng : n < 0
  · have HK := Lib.hid (wknows_any u1 HW1.out.wb.pw)
    go_wp2_with (go_at_call 6; (with_reducible refine HK.out.mono ?_); rintro e u2 ⟨rfl, hb⟩; have HB2 := Lib.hid (HW1.out.wb.low.trans (hb.mono HW1.out.wb.low.size)); clear hb)
    go_ret
    exact ⟨rfl, HB2.out⟩
  have k2 : (n < 0) = False := by simp only [eq_iff_iff, iff_false]; exact hng
  have hsz : Gl.sizes l ≤ 1000 * 2 := by have := HN.out (by omega); omega
  clear hng
  have HFH := Lib.hid (few_any h u1 _ _ 1000 200 (Nat.le_refl _) HW1.out.wb.hi (by omega) (by omega) (by omega) (by omega))
  have HFS := Lib.hid (Tm.few_says h 1000 200)
  generalize h.few 1000 200 = r at HFH HFS
  by_cases hrg : r < 0
  · go_upto_region 2 with (go_at_call 11; (with_reducible refine HFH.out.mono ?_); rintro e u2 ⟨rfl, hb⟩; have HW2 := Lib.hid (HW1.out.next hb); have c0 : u2.cell? ⟨w.heap.size, 0, none⟩ = some (.int .i64 h.kind) := HW2.out.wb.cells0; have c1 : u2.cell? ⟨w.heap.size, 1, none⟩ = some (.string h.name) := HW2.out.wb.cells1; have c2 : u2.cell? ⟨w.heap.size, 2, none⟩ = some (.int .i64 h.n) := HW2.out.wb.cells2; have c3 : u2.cell? ⟨w.heap.size, 3, none⟩ = some (.slice g m cap) := HW2.out.wb.cells3; have cl := HW2.out.wb.lt; clear hb)
    have HK := Lib.hid (wknows_any u2 HW2.out.wb.pw)
    go_wp2_with (go_at_call 6; (with_reducible refine HK.out.mono ?_); rintro e u3 ⟨rfl, hb⟩; have HB2 := Lib.hid (HW2.out.wb.low.trans (hb.mono HW2.out.wb.low.size)); clear hb)
    go_ret
    exact ⟨rfl, HB2.out⟩
  have k3 : (r < 0) = False := by simp only [eq_iff_iff, iff_false]; exact hrg
  have hsh : h.size ≤ 1000 := by have := HFS.out (by omega); omega
  clear hrg
  go_upto_region 3 with (go_at_call 11; (with_reducible refine HFH.out.mono ?_); rintro e u2 ⟨rfl, hb⟩; have HW2 := Lib.hid (HW1.out.next hb); have c0 : u2.cell? ⟨w.heap.size, 0, none⟩ = some (.int .i64 h.kind) := HW2.out.wb.cells0; have c1 : u2.cell? ⟨w.heap.size, 1, none⟩ = some (.string h.name) := HW2.out.wb.cells1; have c2 : u2.cell? ⟨w.heap.size, 2, none⟩ = some (.int .i64 h.n) := HW2.out.wb.cells2; have c3 : u2.cell? ⟨w.heap.size, 3, none⟩ = some (.slice g m cap) := HW2.out.wb.cells3; have cl := HW2.out.wb.lt; clear hb)
  have hlS := sureX_len h
  have hlG := gls_len l
  have HSU := Lib.hid (fun W (k : WG w h l (.slice g m cap) (.slice gv q cv) w.heap.size W) => dsure_any right_says h W _ k.wb.hi (by omega))
  have HDG := Lib.hid (fun W (k : WG w h l (.slice g m cap) (.slice gv q cv) w.heap.size W) => dgoals_any right_says l (by omega) W _ k.hs)
  have HPG := Lib.hid (fun W (k : WG w h l (.slice g m cap) (.slice gv q cv) w.heap.size W) => wgoals_any l W _ k.hs (by omega) k.wb.pw (by omega))
  have hlC : (clX h l).length ≤ 8000000000 := by
    by_cases hz : l = []
    · rw [hz, clX_nil]
      simp only [List.length_append, List.length_cons, List.length_nil]
      omega
    · rw [clX_ne h hz]
      simp only [List.length_append, List.length_cons, List.length_nil]
      omega
  have HPC := Lib.hid (fun W (k : WG w h l (.slice g m cap) (.slice gv q cv) w.heap.size W) => wclause_any h l 0 W _ _ k.wb.hi k.hs (by omega) (by omega) k.wb.pw hlC)
  have HC0 := Lib.hid (show l = [] → clX h l = sureX h ++ [46] from fun e => by rw [e]; rfl)
  have HC1 := Lib.hid (show l ≠ [] → clX h l = sureX h ++ [32, 58, 45, 32] ++ glsX l ++ [46] from fun e => by rw [clX_ne h e]; simp)
  clear hlC
  generalize sureX h = S at HSU HC0 HC1 hlS
  generalize glsX l = G at HDG HPG HC1 hlG
  generalize clX h l = C at HPC HC0 HC1
  obtain ⟨y0, hy0⟩ : ∃ y, S ++ [46] = y := ⟨_, rfl⟩
  have e0 : (⟨S.toArray⟩ ++ ⟨#[46]⟩ : ByteArray) = ⟨y0.toArray⟩ := by rw [← hy0]; exact ba_app S [46]
  have l0 := lim (a := S.length + 1) (by omega)
  have HS1 := Lib.hid (HSU.out u2 HW2.out)
  by_cases hz : q = 0
  · subst hz
    have hl0 : l = [] := List.eq_nil_of_length_eq_zero HQ.out
    obtain rfl : C = y0 := (HC0.out hl0).trans hy0
    clear hl0 hy0
    go_upto_region 4 with (go_at_call 12; (with_reducible refine HS1.out.mono ?_); rintro e u3 ⟨rfl, hb⟩; have HW3 := Lib.hid (HW2.out.next hb); have c0 : u3.cell? ⟨w.heap.size, 0, none⟩ = some (.int .i64 h.kind) := HW3.out.wb.cells0; have c1 : u3.cell? ⟨w.heap.size, 1, none⟩ = some (.string h.name) := HW3.out.wb.cells1; have c2 : u3.cell? ⟨w.heap.size, 2, none⟩ = some (.int .i64 h.n) := HW3.out.wb.cells2; have c3 : u3.cell? ⟨w.heap.size, 3, none⟩ = some (.slice g m cap) := HW3.out.wb.cells3; have cl := HW3.out.wb.lt; clear hb)
    go_upto_region 6 with fail
    go_wp2_with (first
      | (go_at_call 14; (with_reducible refine (HPG.out _ HW3.out).mono ?_); rintro e u4 ⟨rfl, hb⟩; have HW4 := Lib.hid (HW3.out.next hb); have c0 : u4.cell? ⟨w.heap.size, 0, none⟩ = some (.int .i64 h.kind) := HW4.out.wb.cells0; have c1 : u4.cell? ⟨w.heap.size, 1, none⟩ = some (.string h.name) := HW4.out.wb.cells1; have c2 : u4.cell? ⟨w.heap.size, 2, none⟩ = some (.int .i64 h.n) := HW4.out.wb.cells2; have c3 : u4.cell? ⟨w.heap.size, 3, none⟩ = some (.slice g m cap) := HW4.out.wb.cells3; have cl := HW4.out.wb.lt; clear hb)
      | (go_at_call 13; (with_reducible refine (HDG.out _ HW4.out).mono ?_); rintro e u5 ⟨rfl, hb⟩; have HW5 := Lib.hid (HW4.out.next hb); have c0 : u5.cell? ⟨w.heap.size, 0, none⟩ = some (.int .i64 h.kind) := HW5.out.wb.cells0; have c1 : u5.cell? ⟨w.heap.size, 1, none⟩ = some (.string h.name) := HW5.out.wb.cells1; have c2 : u5.cell? ⟨w.heap.size, 2, none⟩ = some (.int .i64 h.n) := HW5.out.wb.cells2; have c3 : u5.cell? ⟨w.heap.size, 3, none⟩ = some (.slice g m cap) := HW5.out.wb.cells3; have cl := HW5.out.wb.lt; clear hb)
      | (go_at_call 15; (with_reducible refine (HPC.out _ HW5.out).mono ?_); rintro e u6 ⟨rfl, hb⟩; have HW6 := Lib.hid (HW5.out.next hb); have c0 : u6.cell? ⟨w.heap.size, 0, none⟩ = some (.int .i64 h.kind) := HW6.out.wb.cells0; have c1 : u6.cell? ⟨w.heap.size, 1, none⟩ = some (.string h.name) := HW6.out.wb.cells1; have c2 : u6.cell? ⟨w.heap.size, 2, none⟩ = some (.int .i64 h.n) := HW6.out.wb.cells2; have c3 : u6.cell? ⟨w.heap.size, 3, none⟩ = some (.slice g m cap) := HW6.out.wb.cells3; have cl := HW6.out.wb.lt; clear hb)
      | (go_at_call 6; (with_reducible refine (wknows_any _ HW6.out.wb.pw).mono ?_); rintro e u7 ⟨rfl, hb⟩; have HB2 := Lib.hid (HW6.out.wb.low.trans (hb.mono HW6.out.wb.low.size)); clear hb))
    go_ret
    exact ⟨rfl, HB2.out⟩
  · have hne : l ≠ [] := by rintro rfl; exact hz HQ.out.symm
    have hC := HC1.out hne
    have k4 : (0 : Int) < (q : Int) := by omega
    obtain ⟨y1, hy1⟩ : ∃ y, S ++ [32, 58, 45, 32] = y := ⟨_, rfl⟩
    obtain ⟨y2, hy2⟩ : ∃ y, y1 ++ G = y := ⟨_, rfl⟩
    rw [hy1, hy2] at hC
    have e1 : (⟨S.toArray⟩ ++ ⟨#[32, 58, 45, 32]⟩ : ByteArray) = ⟨y1.toArray⟩ := by rw [← hy1]; exact ba_app S [32, 58, 45, 32]
    have e2 : (⟨y1.toArray⟩ ++ ⟨G.toArray⟩ : ByteArray) = ⟨y2.toArray⟩ := by rw [← hy2]; exact ba_app y1 G
    have e3 : (⟨y2.toArray⟩ ++ ⟨#[46]⟩ : ByteArray) = ⟨C.toArray⟩ := by rw [hC]; exact ba_app y2 [46]
    have m1 : y1.length = S.length + 4 := by rw [← hy1]; simp
    have m2 : y2.length = y1.length + G.length := by rw [← hy2]; simp
    have l1 := lim (a := S.length + 4) (by omega)
    have l2 := lim (a := y1.length + G.length) (by omega)
    have l3 := lim (a := y2.length + 1) (by omega)
    clear hz hne hC hy0 hy1 hy2 m1 m2
    go_upto_region 4 with (go_at_call 12; (with_reducible refine HS1.out.mono ?_); rintro e u3 ⟨rfl, hb⟩; have HW3 := Lib.hid (HW2.out.next hb); have c0 : u3.cell? ⟨w.heap.size, 0, none⟩ = some (.int .i64 h.kind) := HW3.out.wb.cells0; have c1 : u3.cell? ⟨w.heap.size, 1, none⟩ = some (.string h.name) := HW3.out.wb.cells1; have c2 : u3.cell? ⟨w.heap.size, 2, none⟩ = some (.int .i64 h.n) := HW3.out.wb.cells2; have c3 : u3.cell? ⟨w.heap.size, 3, none⟩ = some (.slice g m cap) := HW3.out.wb.cells3; have cl := HW3.out.wb.lt; clear hb)
    have HS3 := Lib.hid (HSU.out u3 HW3.out)
    go_upto_region 6 with (first
      | (go_at_call 12; (with_reducible refine HS3.out.mono ?_); rintro e u4 ⟨rfl, hb⟩; have HW4 := Lib.hid (HW3.out.next hb); have c0 : u4.cell? ⟨w.heap.size, 0, none⟩ = some (.int .i64 h.kind) := HW4.out.wb.cells0; have c1 : u4.cell? ⟨w.heap.size, 1, none⟩ = some (.string h.name) := HW4.out.wb.cells1; have c2 : u4.cell? ⟨w.heap.size, 2, none⟩ = some (.int .i64 h.n) := HW4.out.wb.cells2; have c3 : u4.cell? ⟨w.heap.size, 3, none⟩ = some (.slice g m cap) := HW4.out.wb.cells3; have cl := HW4.out.wb.lt; clear hb)
      | (go_at_call 13; (with_reducible refine (HDG.out _ HW4.out).mono ?_); rintro e u5 ⟨rfl, hb⟩; have HW5 := Lib.hid (HW4.out.next hb); have c0 : u5.cell? ⟨w.heap.size, 0, none⟩ = some (.int .i64 h.kind) := HW5.out.wb.cells0; have c1 : u5.cell? ⟨w.heap.size, 1, none⟩ = some (.string h.name) := HW5.out.wb.cells1; have c2 : u5.cell? ⟨w.heap.size, 2, none⟩ = some (.int .i64 h.n) := HW5.out.wb.cells2; have c3 : u5.cell? ⟨w.heap.size, 3, none⟩ = some (.slice g m cap) := HW5.out.wb.cells3; have cl := HW5.out.wb.lt; clear hb))
    go_wp2_with (first
      | (go_at_call 14; (with_reducible refine (HPG.out _ HW5.out).mono ?_); rintro e u6 ⟨rfl, hb⟩; have HW6 := Lib.hid (HW5.out.next hb); have c0 : u6.cell? ⟨w.heap.size, 0, none⟩ = some (.int .i64 h.kind) := HW6.out.wb.cells0; have c1 : u6.cell? ⟨w.heap.size, 1, none⟩ = some (.string h.name) := HW6.out.wb.cells1; have c2 : u6.cell? ⟨w.heap.size, 2, none⟩ = some (.int .i64 h.n) := HW6.out.wb.cells2; have c3 : u6.cell? ⟨w.heap.size, 3, none⟩ = some (.slice g m cap) := HW6.out.wb.cells3; have cl := HW6.out.wb.lt; clear hb)
      | (go_at_call 13; (with_reducible refine (HDG.out _ HW6.out).mono ?_); rintro e u7 ⟨rfl, hb⟩; have HW7 := Lib.hid (HW6.out.next hb); have c0 : u7.cell? ⟨w.heap.size, 0, none⟩ = some (.int .i64 h.kind) := HW7.out.wb.cells0; have c1 : u7.cell? ⟨w.heap.size, 1, none⟩ = some (.string h.name) := HW7.out.wb.cells1; have c2 : u7.cell? ⟨w.heap.size, 2, none⟩ = some (.int .i64 h.n) := HW7.out.wb.cells2; have c3 : u7.cell? ⟨w.heap.size, 3, none⟩ = some (.slice g m cap) := HW7.out.wb.cells3; have cl := HW7.out.wb.lt; clear hb)
      | (go_at_call 15; (with_reducible refine (HPC.out _ HW7.out).mono ?_); rintro e u8 ⟨rfl, hb⟩; have HW8 := Lib.hid (HW7.out.next hb); have c0 : u8.cell? ⟨w.heap.size, 0, none⟩ = some (.int .i64 h.kind) := HW8.out.wb.cells0; have c1 : u8.cell? ⟨w.heap.size, 1, none⟩ = some (.string h.name) := HW8.out.wb.cells1; have c2 : u8.cell? ⟨w.heap.size, 2, none⟩ = some (.int .i64 h.n) := HW8.out.wb.cells2; have c3 : u8.cell? ⟨w.heap.size, 3, none⟩ = some (.slice g m cap) := HW8.out.wb.cells3; have cl := HW8.out.wb.lt; clear hb)
      | (go_at_call 6; (with_reducible refine (wknows_any _ HW8.out.wb.pw).mono ?_); rintro e u9 ⟨rfl, hb⟩; have HB2 := Lib.hid (HW8.out.wb.low.trans (hb.mono HW8.out.wb.low.size)); clear hb))
    go_ret
    exact ⟨rfl, HB2.out⟩
end Go.Proofs.YtliapkajonbndaaDoor
