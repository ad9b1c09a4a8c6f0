/-
  The program's maker: the goal that a term is.
-/
import Derived.Test.YtkjnjahmlobjiaaGreatDoorG12
import Derived.Deep.RegionWith
namespace Go.Proofs.YtkjnjahmlobjiaaGreatDoor
open Go.RowKit

def GlGp (f : Nat) : Prop := ∀ (t : Tm), t.size ≤ f + 1 → ∀ (w : World) (sv : Value) (mx B : Nat) (st : MSt) (ins : Nat) (cut : Bool), Tm.inn w B t sv → B ≤ mx → Mkr w mx st → TabsLo w B → okSt st → ins ≤ 9 →
  Calls Tryz.prog 84 #[.pointer (some ⟨mx, 0, none⟩), .agg #[.int .i64 t.kind, .string t.name, .int .i64 t.n, sv], .int .i64 (ins : Nat), .bool cut] w fun e w' => GoalP w mx (mkG (mkL f) t ins cut st) e w'
/-- What stands while a goal is made. -/
structure MG (w0 : World) (t : Tm) (sv : Value) (mx B : Nat) (st : MSt) (W : World) : Prop where
  fr : FrP (fun x => x = mx) w0 W
  mr : Mkr W mx st
  bk : W.heap[w0.heap.size]? = some (.cells #[.int .i64 t.kind, .string t.name, .int .i64 t.n, sv] 34 (0, 0))
  bz : W.heap[w0.heap.size + 1]? = some (.cells #[.int .i64 0, .int .i64 0, .string ⟨#[]⟩, .int .i64 0, .slice none 0 0, .slice none 0 0, .slice none 0 0, .slice none 0 0] 49 (0, 0))
  ne : mx < w0.heap.size
  le : B ≤ mx
  hi : Tm.inn W B t sv
  tb : TabsLo W B
section
variable {w0 : World} {t : Tm} {sv : Value} {mx B : Nat} {st : MSt} {W : World} (h : MG w0 t sv mx B st W)
include h
theorem MG.lt : w0.heap.size + 1 < W.heap.size := (Array.getElem?_eq_some_iff.1 h.bz).1
theorem MG.c0 : W.cell? ⟨w0.heap.size, 0, none⟩ = some (.int .i64 t.kind) := by simp [World.cell?, h.bk]
theorem MG.c1 : W.cell? ⟨w0.heap.size, 1, none⟩ = some (.string t.name) := by simp [World.cell?, h.bk]
theorem MG.c2 : W.cell? ⟨w0.heap.size, 2, none⟩ = some (.int .i64 t.n) := by simp [World.cell?, h.bk]
theorem MG.c3 : W.cell? ⟨w0.heap.size, 3, none⟩ = some sv := by simp [World.cell?, h.bk]
theorem MG.mv {W' : World} {st' : MSt} (hf : FrP (fun x => x = mx) W W') (hk : Mkr W' mx st') : MG w0 t sv mx B st' W' := by
  have hl := h.lt
  have hn := h.ne
  have hle := h.le
  exact ⟨h.fr.trans hf (fun _ _ e => e) (fun _ _ e => e), hk, (hf.block _ (by omega) (by omega)).trans h.bk, (hf.block _ (by omega) (by omega)).trans h.bz, hn, hle, Tm.inn_fr h.hi hf (fun x e => by omega), h.tb.mv hf (fun x e => by omega)⟩
theorem MG.quiet {W' : World} (hb : Below W.heap.size W W') : MG w0 t sv mx B st W' := h.mv ((FrP.of_below hb).mono (fun _ _ e => e.elim)) (h.mr.next hb)
theorem MG.B_le : B ≤ W.heap.size := Nat.le_trans h.le (Nat.le_of_lt h.mr.lt)
theorem MG.it : Tm.inn W W.heap.size t sv := Tm.inn_mono h.hi h.B_le
/-- The goal is written into the result's box: the end of each way. -/
theorem MG.done {ok : Nat → Prop} {x : Gl × MSt} {V : World} {a b c s : Value} (hok : ∀ b, ok b → w0.heap.size ≤ b ∧ b < W.heap.size ∧ b ≠ w0.heap.size + 1) (hst : x.2 = st) (hin : Gl.innP W ok x.1 s a b c) (hf : FrP (fun y => y = w0.heap.size + 1) W V) :
    GoalP w0 mx x (.returned (.agg #[.int .i64 x.1.kind, .int .i64 x.1.t.kind, .string x.1.t.name, .int .i64 x.1.t.n, s, a, b, c])) V := by
  have hn := h.ne
  exact ⟨s, a, b, c, rfl, Gl.innP_same (fun b hb => ⟨(hok b hb).1, Nat.lt_of_lt_of_le (hok b hb).2.1 hf.size⟩) (fun b o v hb hc => hf.cell hc (hok b hb).2.2) _ _ _ _ _ hin, by rw [hst]; exact ⟨(hf.block _ h.mr.lt (by omega)).trans h.mr.bk⟩, h.fr.trans hf (fun _ _ e => e) (fun y h1 e => by omega)⟩
end
theorem MG.new {w : World} {t : Tm} {sv : Value} {mx B : Nat} {st : MSt} (hi : Tm.inn w B t sv) (hle : B ≤ mx) (hk : Mkr w mx st) (hb : TabsLo w B) :
    MG w t sv mx B st ((w.alloc (.cells #[.int .i64 t.kind, .string t.name, .int .i64 t.n, sv] 34)).alloc (.cells #[.int .i64 0, .int .i64 0, .string ⟨#[]⟩, .int .i64 0, .slice none 0 0, .slice none 0 0, .slice none 0 0, .slice none 0 0] 49)) := by
  have hlt := hk.lt
  have p1 := (Below.refl w.heap.size w).alloc (Nat.le_refl _) (.cells #[.int .i64 t.kind, .string t.name, .int .i64 t.n, sv] 34)
  have n1 := heap_alloc_new w (.cells #[.int .i64 t.kind, .string t.name, .int .i64 t.n, sv] 34)
  have z1 : (w.alloc (.cells #[.int .i64 t.kind, .string t.name, .int .i64 t.n, sv] 34)).heap.size = w.heap.size + 1 := by simp
  generalize w.alloc (.cells #[.int .i64 t.kind, .string t.name, .int .i64 t.n, sv] 34) = w1 at p1 n1 z1 ⊢
  have p2 := (Below.refl w1.heap.size w1).alloc (Nat.le_refl _) (.cells #[.int .i64 0, .int .i64 0, .string ⟨#[]⟩, .int .i64 0, .slice none 0 0, .slice none 0 0, .slice none 0 0, .slice none 0 0] 49)
  have n2 := heap_alloc_new w1 (.cells #[.int .i64 0, .int .i64 0, .string ⟨#[]⟩, .int .i64 0, .slice none 0 0, .slice none 0 0, .slice none 0 0, .slice none 0 0] 49)
  generalize w1.alloc (.cells #[.int .i64 0, .int .i64 0, .string ⟨#[]⟩, .int .i64 0, .slice none 0 0, .slice none 0 0, .slice none 0 0, .slice none 0 0] 49) = w2 at p2 n2 ⊢
  have hbl : Below w.heap.size w w2 := p1.trans (p2.mono p1.size)
  have hf : FrP (fun _ => False) w w2 := FrP.of_below hbl
  exact ⟨hf.mono (fun _ _ e => e.elim), hk.next hbl, (p2.block _ (by omega)).trans n1, by rw [← z1]; exact n2, hlt, hle, Tm.inn_fr hi hf (fun _ e => e.elim), hb.mv hf (fun _ e => e.elim)⟩
theorem failT_inn (w : World) (B : Nat) : Tm.inn w B failT (.slice none 0 0) := Tm.inn_mk.2 ⟨⟨by decide, by decide, by decide⟩, none, 0, rfl, Nat.le_refl _, by simp, .inl rfl⟩
set_option maxRecDepth 100000 in
set_option maxHeartbeats 64000000 in
theorem mgoal_of (f : Nat) (hf : MkLp f) : GlGp f := by
  intro t htz w sv mx B st ins cut hit hle hk htb hst hins
  obtain ⟨hho, gt, ct, rfl, -, hmt, -⟩ := Tm.inn_iff.1 hit
  have HS := Lib.hid (MG.new hit hle hk htb)
  have MGT := Lib.hid (fun W (h : MG w t (.slice gt t.args.length ct) mx B st W) => h.it)
  have HIS := Lib.hid (fun (s : ByteArray) (n : Nat) W (h : MG w t (.slice gt t.args.length ct) mx B st W) => pis_any t s n W _ h.it)
  have HPP := Lib.hid (fun W (h : MG w t (.slice gt t.args.length ct) mx B st W) => ppred_any t W _ h.it)
  have HPC := Lib.hid (fun W (h : MG w t (.slice gt t.args.length ct) mx B st W) => pctl_any t.name t.args.length W h.tb.tabs.ctl)
  have HPB := Lib.hid (fun W (h : MG w t (.slice gt t.args.length ct) mx B st W) => pblt_any t.name t.args.length W h.tb.tabs.blt)
  have HCP := Lib.hid (fun W (h : MG w t (.slice gt t.args.length ct) mx B st W) => apart_any t W W.heap.size _ (Nat.le_refl _) h.it)
  have HX := Lib.hid (@rfl _ (mkG (mkL f) t ins cut st))
  have HF := Lib.hid hf
  have HBR := Lib.hid (mbranch_of f hf)
  have HST := Lib.hid hst
  have HTZ := Lib.hid htz
  clear hit hle hk htb hst hf htz hho HX
  have hw1 : IntKind.i64.wrap ((ins : Int) + 1) = (ins : Int) + 1 := by rw [IntKind.wrap_i64]; omega
  obtain ⟨mt, hmt9⟩ : ∃ m, t.args.length = m := ⟨_, rfl⟩
  rw [hmt9] at HS HIS HPP HPC HPB HCP MGT hmt
  rw [hmt9]
  have HMT := Lib.hid hmt9
  clear hmt9
  have HI1 := Lib.hid (fun W h => show Calls Tryz.prog 48 #[.agg #[.int .i64 t.kind, .string t.name, .int .i64 t.n, .slice gt mt ct], .string ⟨#[33]⟩, .int .i64 0] W fun e w' => e = .returned (.bool (isB t [33] 0)) ∧ Below W.heap.size W w' from HIS.out ⟨#[33]⟩ 0 W h)
  have HI2 := Lib.hid (fun W h => show Calls Tryz.prog 48 #[.agg #[.int .i64 t.kind, .string t.name, .int .i64 t.n, .slice gt mt ct], .string ⟨#[59]⟩, .int .i64 2] W fun e w' => e = .returned (.bool (isB t [59] 2)) ∧ Below W.heap.size W w' from HIS.out ⟨#[59]⟩ 2 W h)
  have HI3 := Lib.hid (fun W h => show Calls Tryz.prog 48 #[.agg #[.int .i64 t.kind, .string t.name, .int .i64 t.n, .slice gt mt ct], .string ⟨#[45, 62]⟩, .int .i64 2] W fun e w' => e = .returned (.bool (isB t [45, 62] 2)) ∧ Below W.heap.size W w' from HIS.out ⟨#[45, 62]⟩ 2 W h)
  have HI4 := Lib.hid (fun W h => show Calls Tryz.prog 48 #[.agg #[.int .i64 t.kind, .string t.name, .int .i64 t.n, .slice gt mt ct], .string ⟨#[92, 43]⟩, .int .i64 1] W fun e w' => e = .returned (.bool (isB t [92, 43] 1)) ∧ Below W.heap.size W w' from HIS.out ⟨#[92, 43]⟩ 1 W h)
  clear HIS
  have HG9 := Lib.hid (fun (W : World) (i : Nat) (hi : i < t.args.length) (h : MG w t (.slice gt mt ct) mx B st W) => arg_in h.hi i hi)
  go_enter Tryz.func84, Tryz.ntmps84
  go_upto_region 1 with fail
  have HS0 := Lib.hid (show MG w t (.slice gt mt ct) mx B st ((w.alloc (.cells #[.int .i64 t.kind, .string t.name, .int .i64 t.n, .slice gt mt ct] 34)).alloc (.cells #[.int .i64 0, .int .i64 0, .string ⟨#[]⟩, .int .i64 0, .slice none 0 0, .slice none 0 0, .slice none 0 0, .slice none 0 0] 49)) from HS.out)
  generalize (w.alloc (.cells #[.int .i64 t.kind, .string t.name, .int .i64 t.n, .slice gt mt ct] 34)).alloc (.cells #[.int .i64 0, .int .i64 0, .string ⟨#[]⟩, .int .i64 0, .slice none 0 0, .slice none 0 0, .slice none 0 0, .slice none 0 0] 49) = u0 at HS0 ⊢
  clear HS
  have y0_0 : u0.cell? ⟨w.heap.size, 0, none⟩ = some (.int .i64 t.kind) := HS0.out.c0; have y0_1 : u0.cell? ⟨w.heap.size, 1, none⟩ = some (.string t.name) := HS0.out.c1; have y0_2 : u0.cell? ⟨w.heap.size, 2, none⟩ = some (.int .i64 t.n) := HS0.out.c2; have y0_3 : u0.cell? ⟨w.heap.size, 3, none⟩ = some (.slice gt mt ct) := HS0.out.c3; have y0_l := HS0.out.lt; obtain ⟨⟨rz0_0, rz0_1, rz0_2, rz0_3, rz0_4, rz0_5, rz0_6, rz0_7⟩, rf0_0, rf0_1, rf0_2, rf0_3, rf0_4, rf0_5, rf0_6, rf0_7⟩ := row8 HS0.out.bz
  cases h1 : isB t [33] 0 with
  | true =>
    rw [h1] at HI1
    cases cut with
    | true =>
      have HX := Lib.hid (mkG_cut (mkL f) t ins st h1)
      clear h1
      go_wp2_with (go_at_call 48; (with_reducible refine (HI1.out _ HS0.out).mono ?_); rintro e u1 ⟨rfl, hb⟩; have HS1 := Lib.hid (HS0.out.quiet hb); clear hb; have y1_0 : u1.cell? ⟨w.heap.size, 0, none⟩ = some (.int .i64 t.kind) := HS1.out.c0; have y1_1 : u1.cell? ⟨w.heap.size, 1, none⟩ = some (.string t.name) := HS1.out.c1; have y1_2 : u1.cell? ⟨w.heap.size, 2, none⟩ = some (.int .i64 t.n) := HS1.out.c2; have y1_3 : u1.cell? ⟨w.heap.size, 3, none⟩ = some (.slice gt mt ct) := HS1.out.c3; have y1_l := HS1.out.lt; obtain ⟨⟨rz1_0, rz1_1, rz1_2, rz1_3, rz1_4, rz1_5, rz1_6, rz1_7⟩, rf1_0, rf1_1, rf1_2, rf1_3, rf1_4, rf1_5, rf1_6, rf1_7⟩ := row8 HS1.out.bz)
      have hz := set8_blk HS1.out.bz (.int .i64 3) (.int .i64 0) (.string ⟨#[]⟩) (.int .i64 0) (.slice none 0 0) (.slice none 0 0) (.slice none 0 0) (.slice none 0 0)
      have hfr := FrP.set8 u1 (w.heap.size + 1) (.int .i64 3) (.int .i64 0) (.string ⟨#[]⟩) (.int .i64 0) (.slice none 0 0) (.slice none 0 0) (.slice none 0 0) (.slice none 0 0)
      change bodyPost _ _ _ _ _ (set8 u1 (w.heap.size + 1) (.int .i64 3) (.int .i64 0) (.string ⟨#[]⟩) (.int .i64 0) (.slice none 0 0) (.slice none 0 0) (.slice none 0 0) (.slice none 0 0))
      obtain ⟨V, hV⟩ : ∃ V, set8 u1 (w.heap.size + 1) (.int .i64 3) (.int .i64 0) (.string ⟨#[]⟩) (.int .i64 0) (.slice none 0 0) (.slice none 0 0) (.slice none 0 0) (.slice none 0 0) = V := ⟨_, rfl⟩
      rw [hV] at hz hfr ⊢
      clear hV
      obtain ⟨⟨r0, r1, r2, r3, r4, r5, r6, r7⟩, -⟩ := row8 hz
      refine bodyPost_ret (v := .agg #[.int .i64 3, .int .i64 0, .string ⟨#[]⟩, .int .i64 0, .slice none 0 0, .slice none 0 0, .slice none 0 0, .slice none 0 0]) (by simp [results, Tryz.results84, go_sem, r0, r1, r2, r3, r4, r5, r6, r7]) rfl ?_
      rw [HX.out]
      exact HS1.out.done (ok := fun _ => False) (fun _ e => e.elim) rfl (Gl.innP_mk.2 ⟨by decide, zT_innP _ _, Gl.sliceP_nil _ _, Gl.sliceP_nil _ _, Gl.sliceP_nil _ _⟩) hfr
    | false =>
      have h2 := isB_other (s' := [59]) (n' := 2) h1 (.inl (by decide))
      have h3 := isB_other (s' := [45, 62]) (n' := 2) h1 (.inl (by decide))
      have h4 := isB_other (s' := [92, 43]) (n' := 1) h1 (.inl (by decide))
      have h5 := isB_ctl h1 (by decide)
      have HX := Lib.hid (mkG_ctl (mkL f) t ins false st (by rw [Bool.and_false]) (by rw [h2]; rfl) h3 h4 h5)
      rw [HMT.out] at h5
      rw [h2] at HI2
      rw [h3] at HI3
      rw [h4] at HI4
      rw [h5] at HPC
      clear h1 h2 h3 h4 h5
      have HSF := Lib.hid (fun W (h : MG w t (.slice gt mt ct) mx B st W) => h.mv (st' := (st.1, 5)) (FrP.setC W mx 1 (.int .i64 (5 : Nat))) (h.mr.set1 5))
      go_upto_region 11 with (first | (go_at_call 48; (with_reducible refine (HI1.out _ HS0.out).mono ?_); rintro e u1 ⟨rfl, hb⟩; have HS1 := Lib.hid (HS0.out.quiet hb); clear hb; have y1_0 : u1.cell? ⟨w.heap.size, 0, none⟩ = some (.int .i64 t.kind) := HS1.out.c0; have y1_1 : u1.cell? ⟨w.heap.size, 1, none⟩ = some (.string t.name) := HS1.out.c1; have y1_2 : u1.cell? ⟨w.heap.size, 2, none⟩ = some (.int .i64 t.n) := HS1.out.c2; have y1_3 : u1.cell? ⟨w.heap.size, 3, none⟩ = some (.slice gt mt ct) := HS1.out.c3; have y1_l := HS1.out.lt; obtain ⟨⟨rz1_0, rz1_1, rz1_2, rz1_3, rz1_4, rz1_5, rz1_6, rz1_7⟩, rf1_0, rf1_1, rf1_2, rf1_3, rf1_4, rf1_5, rf1_6, rf1_7⟩ := row8 HS1.out.bz) | (go_at_call 48; (with_reducible refine (HI2.out _ HS1.out).mono ?_); rintro e u2 ⟨rfl, hb⟩; have HS2 := Lib.hid (HS1.out.quiet hb); clear hb; have y2_0 : u2.cell? ⟨w.heap.size, 0, none⟩ = some (.int .i64 t.kind) := HS2.out.c0; have y2_1 : u2.cell? ⟨w.heap.size, 1, none⟩ = some (.string t.name) := HS2.out.c1; have y2_2 : u2.cell? ⟨w.heap.size, 2, none⟩ = some (.int .i64 t.n) := HS2.out.c2; have y2_3 : u2.cell? ⟨w.heap.size, 3, none⟩ = some (.slice gt mt ct) := HS2.out.c3; have y2_l := HS2.out.lt; obtain ⟨⟨rz2_0, rz2_1, rz2_2, rz2_3, rz2_4, rz2_5, rz2_6, rz2_7⟩, rf2_0, rf2_1, rf2_2, rf2_3, rf2_4, rf2_5, rf2_6, rf2_7⟩ := row8 HS2.out.bz) | (go_at_call 48; (with_reducible refine (HI3.out _ HS2.out).mono ?_); rintro e u3 ⟨rfl, hb⟩; have HS3 := Lib.hid (HS2.out.quiet hb); clear hb; have y3_0 : u3.cell? ⟨w.heap.size, 0, none⟩ = some (.int .i64 t.kind) := HS3.out.c0; have y3_1 : u3.cell? ⟨w.heap.size, 1, none⟩ = some (.string t.name) := HS3.out.c1; have y3_2 : u3.cell? ⟨w.heap.size, 2, none⟩ = some (.int .i64 t.n) := HS3.out.c2; have y3_3 : u3.cell? ⟨w.heap.size, 3, none⟩ = some (.slice gt mt ct) := HS3.out.c3; have y3_l := HS3.out.lt; obtain ⟨⟨rz3_0, rz3_1, rz3_2, rz3_3, rz3_4, rz3_5, rz3_6, rz3_7⟩, rf3_0, rf3_1, rf3_2, rf3_3, rf3_4, rf3_5, rf3_6, rf3_7⟩ := row8 HS3.out.bz) | (go_at_call 48; (with_reducible refine (HI4.out _ HS3.out).mono ?_); rintro e u4 ⟨rfl, hb⟩; have HS4 := Lib.hid (HS3.out.quiet hb); clear hb; have y4_0 : u4.cell? ⟨w.heap.size, 0, none⟩ = some (.int .i64 t.kind) := HS4.out.c0; have y4_1 : u4.cell? ⟨w.heap.size, 1, none⟩ = some (.string t.name) := HS4.out.c1; have y4_2 : u4.cell? ⟨w.heap.size, 2, none⟩ = some (.int .i64 t.n) := HS4.out.c2; have y4_3 : u4.cell? ⟨w.heap.size, 3, none⟩ = some (.slice gt mt ct) := HS4.out.c3; have y4_l := HS4.out.lt; obtain ⟨⟨rz4_0, rz4_1, rz4_2, rz4_3, rz4_4, rz4_5, rz4_6, rz4_7⟩, rf4_0, rf4_1, rf4_2, rf4_3, rf4_4, rf4_5, rf4_6, rf4_7⟩ := row8 HS4.out.bz) | (go_at_call 34; (with_reducible refine (HPP.out _ HS4.out).mono ?_); rintro e u5 ⟨rfl, hb⟩; have HS5 := Lib.hid (HS4.out.quiet hb); clear hb; have y5_0 : u5.cell? ⟨w.heap.size, 0, none⟩ = some (.int .i64 t.kind) := HS5.out.c0; have y5_1 : u5.cell? ⟨w.heap.size, 1, none⟩ = some (.string t.name) := HS5.out.c1; have y5_2 : u5.cell? ⟨w.heap.size, 2, none⟩ = some (.int .i64 t.n) := HS5.out.c2; have y5_3 : u5.cell? ⟨w.heap.size, 3, none⟩ = some (.slice gt mt ct) := HS5.out.c3; have y5_l := HS5.out.lt; obtain ⟨⟨rz5_0, rz5_1, rz5_2, rz5_3, rz5_4, rz5_5, rz5_6, rz5_7⟩, rf5_0, rf5_1, rf5_2, rf5_3, rf5_4, rf5_5, rf5_6, rf5_7⟩ := row8 HS5.out.bz) | (go_at_call 33; (with_reducible refine (HPC.out _ HS5.out).mono ?_); rintro e u6 ⟨rfl, hb⟩; have HS6 := Lib.hid (HS5.out.quiet hb); clear hb; have y6_0 : u6.cell? ⟨w.heap.size, 0, none⟩ = some (.int .i64 t.kind) := HS6.out.c0; have y6_1 : u6.cell? ⟨w.heap.size, 1, none⟩ = some (.string t.name) := HS6.out.c1; have y6_2 : u6.cell? ⟨w.heap.size, 2, none⟩ = some (.int .i64 t.n) := HS6.out.c2; have y6_3 : u6.cell? ⟨w.heap.size, 3, none⟩ = some (.slice gt mt ct) := HS6.out.c3; have y6_l := HS6.out.lt; obtain ⟨⟨rz6_0, rz6_1, rz6_2, rz6_3, rz6_4, rz6_5, rz6_6, rz6_7⟩, rf6_0, rf6_1, rf6_2, rf6_3, rf6_4, rf6_5, rf6_6, rf6_7⟩ := row8 HS6.out.bz; have hq1 : u6.frozen? ⟨mx, 1, none⟩ = false := HS6.out.mr.frozen1; have hq2 := HS6.out.mr.cell1; have hq3 := HS6.out.mr.lt; have HS7 := Lib.hid (show MG w t (.slice gt mt ct) mx B (st.1, 5) (u6.setCell ⟨mx, 1, none⟩ (.int .i64 5)) from HSF.out _ HS6.out)))
      generalize u6.setCell ⟨mx, 1, none⟩ (.int .i64 5) = u7 at HS7 ⊢
      have y7_0 : u7.cell? ⟨w.heap.size, 0, none⟩ = some (.int .i64 t.kind) := HS7.out.c0
      have y7_1 : u7.cell? ⟨w.heap.size, 1, none⟩ = some (.string t.name) := HS7.out.c1
      have y7_2 : u7.cell? ⟨w.heap.size, 2, none⟩ = some (.int .i64 t.n) := HS7.out.c2
      have y7_3 : u7.cell? ⟨w.heap.size, 3, none⟩ = some (.slice gt mt ct) := HS7.out.c3
      have y7_l := HS7.out.lt
      obtain ⟨⟨rz7_0, rz7_1, rz7_2, rz7_3, rz7_4, rz7_5, rz7_6, rz7_7⟩, rf7_0, rf7_1, rf7_2, rf7_3, rf7_4, rf7_5, rf7_6, rf7_7⟩ := row8 HS7.out.bz
      go_wp2_with fail
      have hz := set8_blk HS7.out.bz (.int .i64 0) (.int .i64 0) (.string ⟨#[]⟩) (.int .i64 0) (.slice none 0 0) (.slice none 0 0) (.slice none 0 0) (.slice none 0 0)
      have hfr := FrP.set8 u7 (w.heap.size + 1) (.int .i64 0) (.int .i64 0) (.string ⟨#[]⟩) (.int .i64 0) (.slice none 0 0) (.slice none 0 0) (.slice none 0 0) (.slice none 0 0)
      change bodyPost _ _ _ _ _ (set8 u7 (w.heap.size + 1) (.int .i64 0) (.int .i64 0) (.string ⟨#[]⟩) (.int .i64 0) (.slice none 0 0) (.slice none 0 0) (.slice none 0 0) (.slice none 0 0))
      obtain ⟨V, hV⟩ : ∃ V, set8 u7 (w.heap.size + 1) (.int .i64 0) (.int .i64 0) (.string ⟨#[]⟩) (.int .i64 0) (.slice none 0 0) (.slice none 0 0) (.slice none 0 0) (.slice none 0 0) = V := ⟨_, rfl⟩
      rw [hV] at hz hfr ⊢
      clear hV
      obtain ⟨⟨r0, r1, r2, r3, r4, r5, r6, r7⟩, -⟩ := row8 hz
      refine bodyPost_ret (v := .agg #[.int .i64 0, .int .i64 0, .string ⟨#[]⟩, .int .i64 0, .slice none 0 0, .slice none 0 0, .slice none 0 0, .slice none 0 0]) (by simp [results, Tryz.results84, go_sem, r0, r1, r2, r3, r4, r5, r6, r7]) rfl ?_
      rw [HX.out]
      exact HS7.out.done (ok := fun _ => False) (fun _ e => e.elim) rfl (Gl.innP_mk.2 ⟨by decide, zT_innP _ _, Gl.sliceP_nil _ _, Gl.sliceP_nil _ _, Gl.sliceP_nil _ _⟩) hfr
  | false =>
  rw [h1] at HI1
  cases h2 : isB t [59] 2 with
  | true =>
    have hl2 : t.args.length = 2 := (isB_iff.1 h2).2
    rw [h2] at HI2
    obtain ⟨ab, ao, gs, ms, cs, hga, -, hab, q0, q1, q2, q3, hin0⟩ := HG9.out u0 0 (by omega) HS0.out
    subst hga
    simp only [Nat.zero_mul, Nat.add_zero] at q0 q1 q2 q3
    have hms : ms = (argN t 0).args.length := by
      obtain ⟨_, _, _, e9, _⟩ := Tm.inn_iff.1 hin0
      injection e9
    have HQ := Lib.hid (fun (W : World) (h : MG w t (.slice (some ⟨ab, ao, none⟩) mt ct) mx B st W) => show ∃ gs ms cs, W.cell? ⟨ab, ao, none⟩ = some (.int .i64 (argN t 0).kind) ∧ W.cell? ⟨ab, ao + 1, none⟩ = some (.string (argN t 0).name) ∧ W.cell? ⟨ab, ao + 2, none⟩ = some (.int .i64 (argN t 0).n) ∧ W.cell? ⟨ab, ao + 3, none⟩ = some (.slice gs ms cs) ∧ Tm.inn W B (argN t 0) (.slice gs ms cs) ∧ ab < W.heap.size by
      obtain ⟨ab', ao', gs', ms', cs', hga', -, hab', q0', q1', q2', q3', hin0'⟩ := HG9.out W 0 (by omega) h
      injection hga' with hga'
      injection hga' with hg1 hg2 _
      subst hg1 hg2
      simp only [Nat.zero_mul, Nat.add_zero] at q0' q1' q2' q3'
      exact ⟨gs', ms', cs', q0', q1', q2', q3', hin0', Nat.lt_of_lt_of_le hab' h.B_le⟩)
    have HQ1 := Lib.hid (fun (W : World) (h : MG w t (.slice (some ⟨ab, ao, none⟩) mt ct) mx B st W) => show ∃ gs ms cs, W.cell? ⟨ab, ao + 4, none⟩ = some (.int .i64 (argN t 1).kind) ∧ W.cell? ⟨ab, ao + 4 + 1, none⟩ = some (.string (argN t 1).name) ∧ W.cell? ⟨ab, ao + 4 + 2, none⟩ = some (.int .i64 (argN t 1).n) ∧ W.cell? ⟨ab, ao + 4 + 3, none⟩ = some (.slice gs ms cs) ∧ Tm.inn W B (argN t 1) (.slice gs ms cs) by
      obtain ⟨ab', ao', gs', ms', cs', hga', -, hab', q0', q1', q2', q3', hin0'⟩ := HG9.out W 1 (by omega) h
      injection hga' with hga'
      injection hga' with hg1 hg2 _
      subst hg1 hg2
      simp only [Nat.one_mul] at q0' q1' q2' q3'
      exact ⟨gs', ms', cs', q0', q1', q2', q3', hin0'⟩)
    clear q0 q1 q2 q3 hin0 hms hab
    have hm2 : mt = 2 := by rw [← hl2]; exact HMT.out.symm
    have jm0 : (0 : Int) < (mt : Int) := by omega
    have jm1 : (1 : Int) < (mt : Int) := by omega
    clear hm2
    have HIA := Lib.hid (fun (W : World) (gs : Option Addr) (ms cs : Nat) (hle : B ≤ W.heap.size) (h : Tm.inn W B (argN t 0) (.slice gs ms cs)) => show Calls Tryz.prog 48 #[.agg #[.int .i64 (argN t 0).kind, .string (argN t 0).name, .int .i64 (argN t 0).n, .slice gs ms cs], .string ⟨#[45, 62]⟩, .int .i64 2] W fun e w' => e = .returned (.bool (isB (argN t 0) [45, 62] 2)) ∧ Below W.heap.size W w' from pis_any (argN t 0) ⟨#[45, 62]⟩ 2 W _ (Tm.inn_mono h hle))
    cases h3 : isB (argN t 0) [45, 62] 2 with
    | true =>
      have HX := Lib.hid (mkG_if (mkL f) t ins cut st h1 h2 h3)
      have hs0 := arg_small (t := t) (i := 0) (by omega)
      have hs1 := arg_small (t := t) (i := 1) (by omega)
      have hl0 : (argN t 0).args.length = 2 := (isB_iff.1 h3).2
      have hs2 := arg_small (t := argN t 0) (i := 0) (by omega)
      have hs3 := arg_small (t := argN t 0) (i := 1) (by omega)
      have HBR := Lib.hid (fun (W : World) sv sv' (h : MG w t (.slice (some ⟨ab, ao, none⟩) mt ct) mx B st W) (a0 : Tm.inn W B (argN t 0) sv) (a1 : Tm.inn W B (argN t 1) sv') => HBR.out (argN t 0) (argN t 1) hl0 (by have := HTZ.out; omega) (by have := HTZ.out; omega) (by have := HTZ.out; omega) W sv sv' mx B st ins cut a0 a1 h.le h.mr h.tb HST.out hins)
      rw [h3] at HIA
      clear h1 h2 h3 hs0 hs1 hs2 hs3 hl0 hl2
      go_upto_region 4 with (first | (go_at_call 48; (with_reducible refine (HI1.out _ HS0.out).mono ?_); rintro e u1 ⟨rfl, hb⟩; have HS1 := Lib.hid (HS0.out.quiet hb); clear hb; have y1_0 : u1.cell? ⟨w.heap.size, 0, none⟩ = some (.int .i64 t.kind) := HS1.out.c0; have y1_1 : u1.cell? ⟨w.heap.size, 1, none⟩ = some (.string t.name) := HS1.out.c1; have y1_2 : u1.cell? ⟨w.heap.size, 2, none⟩ = some (.int .i64 t.n) := HS1.out.c2; have y1_3 : u1.cell? ⟨w.heap.size, 3, none⟩ = some (.slice (some ⟨ab, ao, none⟩) mt ct) := HS1.out.c3; have y1_l := HS1.out.lt; obtain ⟨⟨rz1_0, rz1_1, rz1_2, rz1_3, rz1_4, rz1_5, rz1_6, rz1_7⟩, rf1_0, rf1_1, rf1_2, rf1_3, rf1_4, rf1_5, rf1_6, rf1_7⟩ := row8 HS1.out.bz) | (go_at_call 48; (with_reducible refine (HI2.out _ HS1.out).mono ?_); rintro e u2 ⟨rfl, hb⟩; have HS2 := Lib.hid (HS1.out.quiet hb); clear hb; have y2_0 : u2.cell? ⟨w.heap.size, 0, none⟩ = some (.int .i64 t.kind) := HS2.out.c0; have y2_1 : u2.cell? ⟨w.heap.size, 1, none⟩ = some (.string t.name) := HS2.out.c1; have y2_2 : u2.cell? ⟨w.heap.size, 2, none⟩ = some (.int .i64 t.n) := HS2.out.c2; have y2_3 : u2.cell? ⟨w.heap.size, 3, none⟩ = some (.slice (some ⟨ab, ao, none⟩) mt ct) := HS2.out.c3; have y2_l := HS2.out.lt; obtain ⟨⟨rz2_0, rz2_1, rz2_2, rz2_3, rz2_4, rz2_5, rz2_6, rz2_7⟩, rf2_0, rf2_1, rf2_2, rf2_3, rf2_4, rf2_5, rf2_6, rf2_7⟩ := row8 HS2.out.bz; obtain ⟨gs, ms, cs, q0, q1, q2, q3, hin0, qab⟩ := HQ.out _ HS2.out; have HIN0 := Lib.hid hin0; have HAL := Lib.hid HS2.out.B_le; clear hin0) | (go_at_call 48; (with_reducible refine (HIA.out _ _ _ _ HAL.out HIN0.out).mono ?_); rintro e u3 ⟨rfl, hb⟩; have HS3 := Lib.hid (HS2.out.quiet hb); clear hb; have y3_0 : u3.cell? ⟨w.heap.size, 0, none⟩ = some (.int .i64 t.kind) := HS3.out.c0; have y3_1 : u3.cell? ⟨w.heap.size, 1, none⟩ = some (.string t.name) := HS3.out.c1; have y3_2 : u3.cell? ⟨w.heap.size, 2, none⟩ = some (.int .i64 t.n) := HS3.out.c2; have y3_3 : u3.cell? ⟨w.heap.size, 3, none⟩ = some (.slice (some ⟨ab, ao, none⟩) mt ct) := HS3.out.c3; have y3_l := HS3.out.lt; obtain ⟨⟨rz3_0, rz3_1, rz3_2, rz3_3, rz3_4, rz3_5, rz3_6, rz3_7⟩, rf3_0, rf3_1, rf3_2, rf3_3, rf3_4, rf3_5, rf3_6, rf3_7⟩ := row8 HS3.out.bz))
      have HS4 := Lib.hid (HS3.out.quiet ((Below.refl _ u3).drew))
      clear q0 q1 q2 q3 qab
      obtain ⟨gs, ms, cs, q0, q1, q2, q3, hin0, qab⟩ := HQ.out _ HS4.out
      obtain ⟨gs1, ms1, cs1, p0, p1, p2, p3, hin1⟩ := HQ1.out _ HS4.out
      have HB := Lib.hid (HBR.out _ _ _ HS4.out hin0 hin1)
      generalize brE (mkL f) (argN t 0) (argN t 1) ins cut st = X at HB HX
      clear hin0 hin1 HBR
      have x0 : u3.drew.cell? ⟨w.heap.size, 0, none⟩ = some (.int .i64 t.kind) := HS4.out.c0
      have x1 : u3.drew.cell? ⟨w.heap.size, 1, none⟩ = some (.string t.name) := HS4.out.c1
      have x2 : u3.drew.cell? ⟨w.heap.size, 2, none⟩ = some (.int .i64 t.n) := HS4.out.c2
      have x3 : u3.drew.cell? ⟨w.heap.size, 3, none⟩ = some (.slice (some ⟨ab, ao, none⟩) mt ct) := HS4.out.c3
      have xl := HS4.out.lt
      go_region_with (go_at_call 100; (with_reducible refine (HB.out).mono ?_); rintro e u5 ⟨s5, a5, b5, c5, rfl, hin5, hm5, hf5⟩; have HS5 := Lib.hid (HS4.out.mv hf5 hm5); have HI5 := Lib.hid hin5; have hl5 := HS5.out.lt; obtain ⟨-, hs5, ⟨ga5, ca5, rfl, -⟩, ⟨gb5, cb5, rfl, -⟩, ⟨gc5, cc5, rfl, -⟩⟩ := Gl.innP_iff.1 hin5; obtain ⟨-, gs5, ct5, rfl, -⟩ := Tm.innP_iff.1 hs5; clear hs5; obtain ⟨⟨rz5_0, rz5_1, rz5_2, rz5_3, rz5_4, rz5_5, rz5_6, rz5_7⟩, rf5_0, rf5_1, rf5_2, rf5_3, rf5_4, rf5_5, rf5_6, rf5_7⟩ := row8 HS5.out.bz; clear hin5 hm5 hf5)
      all_goals (
        go_wp2_with fail
        have hz := set8_blk HS5.out.bz (.int .i64 X.1.kind) (.int .i64 X.1.t.kind) (.string X.1.t.name) (.int .i64 X.1.t.n) (.slice gs5 X.1.t.args.length ct5) (.slice ga5 X.1.a.length ca5) (.slice gb5 X.1.b.length cb5) (.slice gc5 X.1.c.length cc5)
        have hfr := FrP.set8 u5 (w.heap.size + 1) (.int .i64 X.1.kind) (.int .i64 X.1.t.kind) (.string X.1.t.name) (.int .i64 X.1.t.n) (.slice gs5 X.1.t.args.length ct5) (.slice ga5 X.1.a.length ca5) (.slice gb5 X.1.b.length cb5) (.slice gc5 X.1.c.length cc5)
        change bodyPost _ _ _ _ _ (set8 u5 (w.heap.size + 1) (.int .i64 X.1.kind) (.int .i64 X.1.t.kind) (.string X.1.t.name) (.int .i64 X.1.t.n) (.slice gs5 X.1.t.args.length ct5) (.slice ga5 X.1.a.length ca5) (.slice gb5 X.1.b.length cb5) (.slice gc5 X.1.c.length cc5))
        obtain ⟨V, hV⟩ : ∃ V, set8 u5 (w.heap.size + 1) (.int .i64 X.1.kind) (.int .i64 X.1.t.kind) (.string X.1.t.name) (.int .i64 X.1.t.n) (.slice gs5 X.1.t.args.length ct5) (.slice ga5 X.1.a.length ca5) (.slice gb5 X.1.b.length cb5) (.slice gc5 X.1.c.length cc5) = V := ⟨_, rfl⟩
        rw [hV] at hz hfr ⊢
        clear hV
        obtain ⟨⟨r0, r1, r2, r3, r4, r5, r6, r7⟩, -⟩ := row8 hz
        refine bodyPost_ret (v := .agg #[.int .i64 X.1.kind, .int .i64 X.1.t.kind, .string X.1.t.name, .int .i64 X.1.t.n, .slice gs5 X.1.t.args.length ct5, .slice ga5 X.1.a.length ca5, .slice gb5 X.1.b.length cb5, .slice gc5 X.1.c.length cc5]) (by simp [results, Tryz.results84, go_sem, r0, r1, r2, r3, r4, r5, r6, r7]) rfl ?_
        rw [HX.out]
        exact HS5.out.done (fun b hb9 => by have h9 : u3.heap.size ≤ b := hb9.1; exact ⟨by omega, hb9.2, by omega⟩) rfl HI5.out hfr)
    | false =>
      have hx3 := isB_other (s' := [45, 62]) (n' := 2) h2 (.inl (by decide))
      have hx4 := isB_other (s' := [92, 43]) (n' := 1) h2 (.inl (by decide))
      have h5 := isB_ctl h2 (by decide)
      have HX := Lib.hid (mkG_ctl (mkL f) t ins cut st (by rw [h1]; rfl) (by rw [h3, Bool.and_false]) hx3 hx4 h5)
      rw [HMT.out] at h5
      rw [h3] at HIA
      rw [hx3] at HI3
      rw [hx4] at HI4
      rw [h5] at HPC
      clear h1 h2 h3 hx3 hx4 h5 hl2 HBR
      have HSF := Lib.hid (fun W (h : MG w t (.slice (some ⟨ab, ao, none⟩) mt ct) mx B st W) => h.mv (st' := (st.1, 5)) (FrP.setC W mx 1 (.int .i64 (5 : Nat))) (h.mr.set1 5))
      go_upto_region 11 with (first | (go_at_call 48; (with_reducible refine (HI1.out _ HS0.out).mono ?_); rintro e u1 ⟨rfl, hb⟩; have HS1 := Lib.hid (HS0.out.quiet hb); clear hb; have y1_0 : u1.cell? ⟨w.heap.size, 0, none⟩ = some (.int .i64 t.kind) := HS1.out.c0; have y1_1 : u1.cell? ⟨w.heap.size, 1, none⟩ = some (.string t.name) := HS1.out.c1; have y1_2 : u1.cell? ⟨w.heap.size, 2, none⟩ = some (.int .i64 t.n) := HS1.out.c2; have y1_3 : u1.cell? ⟨w.heap.size, 3, none⟩ = some (.slice (some ⟨ab, ao, none⟩) mt ct) := HS1.out.c3; have y1_l := HS1.out.lt; obtain ⟨⟨rz1_0, rz1_1, rz1_2, rz1_3, rz1_4, rz1_5, rz1_6, rz1_7⟩, rf1_0, rf1_1, rf1_2, rf1_3, rf1_4, rf1_5, rf1_6, rf1_7⟩ := row8 HS1.out.bz) | (go_at_call 48; (with_reducible refine (HI2.out _ HS1.out).mono ?_); rintro e u2 ⟨rfl, hb⟩; have HS2 := Lib.hid (HS1.out.quiet hb); clear hb; have y2_0 : u2.cell? ⟨w.heap.size, 0, none⟩ = some (.int .i64 t.kind) := HS2.out.c0; have y2_1 : u2.cell? ⟨w.heap.size, 1, none⟩ = some (.string t.name) := HS2.out.c1; have y2_2 : u2.cell? ⟨w.heap.size, 2, none⟩ = some (.int .i64 t.n) := HS2.out.c2; have y2_3 : u2.cell? ⟨w.heap.size, 3, none⟩ = some (.slice (some ⟨ab, ao, none⟩) mt ct) := HS2.out.c3; have y2_l := HS2.out.lt; obtain ⟨⟨rz2_0, rz2_1, rz2_2, rz2_3, rz2_4, rz2_5, rz2_6, rz2_7⟩, rf2_0, rf2_1, rf2_2, rf2_3, rf2_4, rf2_5, rf2_6, rf2_7⟩ := row8 HS2.out.bz; obtain ⟨gs, ms, cs, q0, q1, q2, q3, hin0, qab⟩ := HQ.out _ HS2.out; have HIN0 := Lib.hid hin0; have HAL := Lib.hid HS2.out.B_le; clear hin0) | (go_at_call 48; (with_reducible refine (HIA.out _ _ _ _ HAL.out HIN0.out).mono ?_); rintro e u3 ⟨rfl, hb⟩; have HS3 := Lib.hid (HS2.out.quiet hb); clear hb; have y3_0 : u3.cell? ⟨w.heap.size, 0, none⟩ = some (.int .i64 t.kind) := HS3.out.c0; have y3_1 : u3.cell? ⟨w.heap.size, 1, none⟩ = some (.string t.name) := HS3.out.c1; have y3_2 : u3.cell? ⟨w.heap.size, 2, none⟩ = some (.int .i64 t.n) := HS3.out.c2; have y3_3 : u3.cell? ⟨w.heap.size, 3, none⟩ = some (.slice (some ⟨ab, ao, none⟩) mt ct) := HS3.out.c3; have y3_l := HS3.out.lt; obtain ⟨⟨rz3_0, rz3_1, rz3_2, rz3_3, rz3_4, rz3_5, rz3_6, rz3_7⟩, rf3_0, rf3_1, rf3_2, rf3_3, rf3_4, rf3_5, rf3_6, rf3_7⟩ := row8 HS3.out.bz) | (go_at_call 48; (with_reducible refine (HI3.out _ HS3.out).mono ?_); rintro e u4 ⟨rfl, hb⟩; have HS4 := Lib.hid (HS3.out.quiet hb); clear hb; have y4_0 : u4.cell? ⟨w.heap.size, 0, none⟩ = some (.int .i64 t.kind) := HS4.out.c0; have y4_1 : u4.cell? ⟨w.heap.size, 1, none⟩ = some (.string t.name) := HS4.out.c1; have y4_2 : u4.cell? ⟨w.heap.size, 2, none⟩ = some (.int .i64 t.n) := HS4.out.c2; have y4_3 : u4.cell? ⟨w.heap.size, 3, none⟩ = some (.slice (some ⟨ab, ao, none⟩) mt ct) := HS4.out.c3; have y4_l := HS4.out.lt; obtain ⟨⟨rz4_0, rz4_1, rz4_2, rz4_3, rz4_4, rz4_5, rz4_6, rz4_7⟩, rf4_0, rf4_1, rf4_2, rf4_3, rf4_4, rf4_5, rf4_6, rf4_7⟩ := row8 HS4.out.bz) | (go_at_call 48; (with_reducible refine (HI4.out _ HS4.out).mono ?_); rintro e u5 ⟨rfl, hb⟩; have HS5 := Lib.hid (HS4.out.quiet hb); clear hb; have y5_0 : u5.cell? ⟨w.heap.size, 0, none⟩ = some (.int .i64 t.kind) := HS5.out.c0; have y5_1 : u5.cell? ⟨w.heap.size, 1, none⟩ = some (.string t.name) := HS5.out.c1; have y5_2 : u5.cell? ⟨w.heap.size, 2, none⟩ = some (.int .i64 t.n) := HS5.out.c2; have y5_3 : u5.cell? ⟨w.heap.size, 3, none⟩ = some (.slice (some ⟨ab, ao, none⟩) mt ct) := HS5.out.c3; have y5_l := HS5.out.lt; obtain ⟨⟨rz5_0, rz5_1, rz5_2, rz5_3, rz5_4, rz5_5, rz5_6, rz5_7⟩, rf5_0, rf5_1, rf5_2, rf5_3, rf5_4, rf5_5, rf5_6, rf5_7⟩ := row8 HS5.out.bz) | (go_at_call 34; (with_reducible refine (HPP.out _ HS5.out).mono ?_); rintro e u6 ⟨rfl, hb⟩; have HS6 := Lib.hid (HS5.out.quiet hb); clear hb; have y6_0 : u6.cell? ⟨w.heap.size, 0, none⟩ = some (.int .i64 t.kind) := HS6.out.c0; have y6_1 : u6.cell? ⟨w.heap.size, 1, none⟩ = some (.string t.name) := HS6.out.c1; have y6_2 : u6.cell? ⟨w.heap.size, 2, none⟩ = some (.int .i64 t.n) := HS6.out.c2; have y6_3 : u6.cell? ⟨w.heap.size, 3, none⟩ = some (.slice (some ⟨ab, ao, none⟩) mt ct) := HS6.out.c3; have y6_l := HS6.out.lt; obtain ⟨⟨rz6_0, rz6_1, rz6_2, rz6_3, rz6_4, rz6_5, rz6_6, rz6_7⟩, rf6_0, rf6_1, rf6_2, rf6_3, rf6_4, rf6_5, rf6_6, rf6_7⟩ := row8 HS6.out.bz) | (go_at_call 33; (with_reducible refine (HPC.out _ HS6.out).mono ?_); rintro e u7 ⟨rfl, hb⟩; have HS7 := Lib.hid (HS6.out.quiet hb); clear hb; have y7_0 : u7.cell? ⟨w.heap.size, 0, none⟩ = some (.int .i64 t.kind) := HS7.out.c0; have y7_1 : u7.cell? ⟨w.heap.size, 1, none⟩ = some (.string t.name) := HS7.out.c1; have y7_2 : u7.cell? ⟨w.heap.size, 2, none⟩ = some (.int .i64 t.n) := HS7.out.c2; have y7_3 : u7.cell? ⟨w.heap.size, 3, none⟩ = some (.slice (some ⟨ab, ao, none⟩) mt ct) := HS7.out.c3; have y7_l := HS7.out.lt; obtain ⟨⟨rz7_0, rz7_1, rz7_2, rz7_3, rz7_4, rz7_5, rz7_6, rz7_7⟩, rf7_0, rf7_1, rf7_2, rf7_3, rf7_4, rf7_5, rf7_6, rf7_7⟩ := row8 HS7.out.bz; have hq1 : u7.frozen? ⟨mx, 1, none⟩ = false := HS7.out.mr.frozen1; have hq2 := HS7.out.mr.cell1; have hq3 := HS7.out.mr.lt; have HS8 := Lib.hid (show MG w t (.slice (some ⟨ab, ao, none⟩) mt ct) mx B (st.1, 5) (u7.setCell ⟨mx, 1, none⟩ (.int .i64 5)) from HSF.out _ HS7.out)))
      generalize u7.setCell ⟨mx, 1, none⟩ (.int .i64 5) = u8 at HS8 ⊢
      have y8_0 : u8.cell? ⟨w.heap.size, 0, none⟩ = some (.int .i64 t.kind) := HS8.out.c0
      have y8_1 : u8.cell? ⟨w.heap.size, 1, none⟩ = some (.string t.name) := HS8.out.c1
      have y8_2 : u8.cell? ⟨w.heap.size, 2, none⟩ = some (.int .i64 t.n) := HS8.out.c2
      have y8_3 : u8.cell? ⟨w.heap.size, 3, none⟩ = some (.slice (some ⟨ab, ao, none⟩) mt ct) := HS8.out.c3
      have y8_l := HS8.out.lt
      obtain ⟨⟨rz8_0, rz8_1, rz8_2, rz8_3, rz8_4, rz8_5, rz8_6, rz8_7⟩, rf8_0, rf8_1, rf8_2, rf8_3, rf8_4, rf8_5, rf8_6, rf8_7⟩ := row8 HS8.out.bz
      go_wp2_with fail
      have hz := set8_blk HS8.out.bz (.int .i64 0) (.int .i64 0) (.string ⟨#[]⟩) (.int .i64 0) (.slice none 0 0) (.slice none 0 0) (.slice none 0 0) (.slice none 0 0)
      have hfr := FrP.set8 u8 (w.heap.size + 1) (.int .i64 0) (.int .i64 0) (.string ⟨#[]⟩) (.int .i64 0) (.slice none 0 0) (.slice none 0 0) (.slice none 0 0) (.slice none 0 0)
      change bodyPost _ _ _ _ _ (set8 u8 (w.heap.size + 1) (.int .i64 0) (.int .i64 0) (.string ⟨#[]⟩) (.int .i64 0) (.slice none 0 0) (.slice none 0 0) (.slice none 0 0) (.slice none 0 0))
      obtain ⟨V, hV⟩ : ∃ V, set8 u8 (w.heap.size + 1) (.int .i64 0) (.int .i64 0) (.string ⟨#[]⟩) (.int .i64 0) (.slice none 0 0) (.slice none 0 0) (.slice none 0 0) (.slice none 0 0) = V := ⟨_, rfl⟩
      rw [hV] at hz hfr ⊢
      clear hV
      obtain ⟨⟨r0, r1, r2, r3, r4, r5, r6, r7⟩, -⟩ := row8 hz
      refine bodyPost_ret (v := .agg #[.int .i64 0, .int .i64 0, .string ⟨#[]⟩, .int .i64 0, .slice none 0 0, .slice none 0 0, .slice none 0 0, .slice none 0 0]) (by simp [results, Tryz.results84, go_sem, r0, r1, r2, r3, r4, r5, r6, r7]) rfl ?_
      rw [HX.out]
      exact HS8.out.done (ok := fun _ => False) (fun _ e => e.elim) rfl (Gl.innP_mk.2 ⟨by decide, zT_innP _ _, Gl.sliceP_nil _ _, Gl.sliceP_nil _ _, Gl.sliceP_nil _ _⟩) hfr
  | false =>
  rw [h2] at HI2
  cases h3 : isB t [45, 62] 2 with
  | true =>
    have hl2 : t.args.length = 2 := (isB_iff.1 h3).2
    rw [h3] at HI3
    have HX := Lib.hid (mkG_then (mkL f) t ins cut st h1 h2 h3)
    have hs0 := arg_small (t := t) (i := 0) (by omega)
    have hs1 := arg_small (t := t) (i := 1) (by omega)
    have hs2 := Tm.size_pos (argN t 0)
    have HBR := Lib.hid (fun (W : World) (h : MG w t (.slice gt mt ct) mx B st W) => show Calls Tryz.prog 100 #[.pointer (some ⟨mx, 0, none⟩), .agg #[.int .i64 t.kind, .string t.name, .int .i64 t.n, .slice gt mt ct], .agg #[.int .i64 3, .string ⟨#[102, 97, 105, 108]⟩, .int .i64 0, .slice none 0 0], .int .i64 (ins : Nat), .bool cut] W fun e w' => GoalP W mx (brE (mkL f) t failT ins cut st) e w' from
      HBR.out t failT hl2 (by have := HTZ.out; omega) (by have := HTZ.out; omega) (by have := HTZ.out; show 1 ≤ f; omega) W _ _ mx B st ins cut h.hi (failT_inn W B) h.le h.mr h.tb HST.out hins)
    generalize brE (mkL f) t failT ins cut st = X at HBR HX
    clear h1 h2 h3 hs0 hs1 hs2 hl2
    go_upto_region 6 with (first | (go_at_call 48; (with_reducible refine (HI1.out _ HS0.out).mono ?_); rintro e u1 ⟨rfl, hb⟩; have HS1 := Lib.hid (HS0.out.quiet hb); clear hb; have y1_0 : u1.cell? ⟨w.heap.size, 0, none⟩ = some (.int .i64 t.kind) := HS1.out.c0; have y1_1 : u1.cell? ⟨w.heap.size, 1, none⟩ = some (.string t.name) := HS1.out.c1; have y1_2 : u1.cell? ⟨w.heap.size, 2, none⟩ = some (.int .i64 t.n) := HS1.out.c2; have y1_3 : u1.cell? ⟨w.heap.size, 3, none⟩ = some (.slice gt mt ct) := HS1.out.c3; have y1_l := HS1.out.lt; obtain ⟨⟨rz1_0, rz1_1, rz1_2, rz1_3, rz1_4, rz1_5, rz1_6, rz1_7⟩, rf1_0, rf1_1, rf1_2, rf1_3, rf1_4, rf1_5, rf1_6, rf1_7⟩ := row8 HS1.out.bz) | (go_at_call 48; (with_reducible refine (HI2.out _ HS1.out).mono ?_); rintro e u2 ⟨rfl, hb⟩; have HS2 := Lib.hid (HS1.out.quiet hb); clear hb; have y2_0 : u2.cell? ⟨w.heap.size, 0, none⟩ = some (.int .i64 t.kind) := HS2.out.c0; have y2_1 : u2.cell? ⟨w.heap.size, 1, none⟩ = some (.string t.name) := HS2.out.c1; have y2_2 : u2.cell? ⟨w.heap.size, 2, none⟩ = some (.int .i64 t.n) := HS2.out.c2; have y2_3 : u2.cell? ⟨w.heap.size, 3, none⟩ = some (.slice gt mt ct) := HS2.out.c3; have y2_l := HS2.out.lt; obtain ⟨⟨rz2_0, rz2_1, rz2_2, rz2_3, rz2_4, rz2_5, rz2_6, rz2_7⟩, rf2_0, rf2_1, rf2_2, rf2_3, rf2_4, rf2_5, rf2_6, rf2_7⟩ := row8 HS2.out.bz) | (go_at_call 48; (with_reducible refine (HI3.out _ HS2.out).mono ?_); rintro e u3 ⟨rfl, hb⟩; have HS3 := Lib.hid (HS2.out.quiet hb); clear hb; have y3_0 : u3.cell? ⟨w.heap.size, 0, none⟩ = some (.int .i64 t.kind) := HS3.out.c0; have y3_1 : u3.cell? ⟨w.heap.size, 1, none⟩ = some (.string t.name) := HS3.out.c1; have y3_2 : u3.cell? ⟨w.heap.size, 2, none⟩ = some (.int .i64 t.n) := HS3.out.c2; have y3_3 : u3.cell? ⟨w.heap.size, 3, none⟩ = some (.slice gt mt ct) := HS3.out.c3; have y3_l := HS3.out.lt; obtain ⟨⟨rz3_0, rz3_1, rz3_2, rz3_3, rz3_4, rz3_5, rz3_6, rz3_7⟩, rf3_0, rf3_1, rf3_2, rf3_3, rf3_4, rf3_5, rf3_6, rf3_7⟩ := row8 HS3.out.bz))
    have HS4 := Lib.hid (HS3.out.quiet ((Below.refl _ u3).drew))
    have x0 : u3.drew.cell? ⟨w.heap.size, 0, none⟩ = some (.int .i64 t.kind) := HS4.out.c0
    have x1 : u3.drew.cell? ⟨w.heap.size, 1, none⟩ = some (.string t.name) := HS4.out.c1
    have x2 : u3.drew.cell? ⟨w.heap.size, 2, none⟩ = some (.int .i64 t.n) := HS4.out.c2
    have x3 : u3.drew.cell? ⟨w.heap.size, 3, none⟩ = some (.slice gt mt ct) := HS4.out.c3
    have xl := HS4.out.lt
    go_region_with (first | (go_at_call 47; (with_reducible refine (patom_any _ _).mono ?_); rintro e u5 ⟨rfl, hb⟩; have HS5 := Lib.hid (HS4.out.quiet hb); have hz5 : u3.heap.size ≤ u5.heap.size := hb.size; clear hb; have y5_0 : u5.cell? ⟨w.heap.size, 0, none⟩ = some (.int .i64 t.kind) := HS5.out.c0; have y5_1 : u5.cell? ⟨w.heap.size, 1, none⟩ = some (.string t.name) := HS5.out.c1; have y5_2 : u5.cell? ⟨w.heap.size, 2, none⟩ = some (.int .i64 t.n) := HS5.out.c2; have y5_3 : u5.cell? ⟨w.heap.size, 3, none⟩ = some (.slice gt mt ct) := HS5.out.c3; have y5_l := HS5.out.lt; obtain ⟨⟨rz5_0, rz5_1, rz5_2, rz5_3, rz5_4, rz5_5, rz5_6, rz5_7⟩, rf5_0, rf5_1, rf5_2, rf5_3, rf5_4, rf5_5, rf5_6, rf5_7⟩ := row8 HS5.out.bz) | (go_at_call 100; (with_reducible refine (HBR.out _ HS5.out).mono ?_); rintro e u6 ⟨s5, a5, b5, c5, rfl, hin5, hm5, hf5⟩; have HS6 := Lib.hid (HS5.out.mv hf5 hm5); have HI5 := Lib.hid hin5; have hl6 := HS6.out.lt; obtain ⟨-, hs5, ⟨ga5, ca5, rfl, -⟩, ⟨gb5, cb5, rfl, -⟩, ⟨gc5, cc5, rfl, -⟩⟩ := Gl.innP_iff.1 hin5; obtain ⟨-, gs5, ct5, rfl, -⟩ := Tm.innP_iff.1 hs5; clear hs5; obtain ⟨⟨rz6_0, rz6_1, rz6_2, rz6_3, rz6_4, rz6_5, rz6_6, rz6_7⟩, rf6_0, rf6_1, rf6_2, rf6_3, rf6_4, rf6_5, rf6_6, rf6_7⟩ := row8 HS6.out.bz; clear hin5 hm5 hf5))
    all_goals (
      go_wp2_with fail
      have hz := set8_blk HS6.out.bz (.int .i64 X.1.kind) (.int .i64 X.1.t.kind) (.string X.1.t.name) (.int .i64 X.1.t.n) (.slice gs5 X.1.t.args.length ct5) (.slice ga5 X.1.a.length ca5) (.slice gb5 X.1.b.length cb5) (.slice gc5 X.1.c.length cc5)
      have hfr := FrP.set8 u6 (w.heap.size + 1) (.int .i64 X.1.kind) (.int .i64 X.1.t.kind) (.string X.1.t.name) (.int .i64 X.1.t.n) (.slice gs5 X.1.t.args.length ct5) (.slice ga5 X.1.a.length ca5) (.slice gb5 X.1.b.length cb5) (.slice gc5 X.1.c.length cc5)
      change bodyPost _ _ _ _ _ (set8 u6 (w.heap.size + 1) (.int .i64 X.1.kind) (.int .i64 X.1.t.kind) (.string X.1.t.name) (.int .i64 X.1.t.n) (.slice gs5 X.1.t.args.length ct5) (.slice ga5 X.1.a.length ca5) (.slice gb5 X.1.b.length cb5) (.slice gc5 X.1.c.length cc5))
      obtain ⟨V, hV⟩ : ∃ V, set8 u6 (w.heap.size + 1) (.int .i64 X.1.kind) (.int .i64 X.1.t.kind) (.string X.1.t.name) (.int .i64 X.1.t.n) (.slice gs5 X.1.t.args.length ct5) (.slice ga5 X.1.a.length ca5) (.slice gb5 X.1.b.length cb5) (.slice gc5 X.1.c.length cc5) = V := ⟨_, rfl⟩
      rw [hV] at hz hfr ⊢
      clear hV
      obtain ⟨⟨r0, r1, r2, r3, r4, r5, r6, r7⟩, -⟩ := row8 hz
      refine bodyPost_ret (v := .agg #[.int .i64 X.1.kind, .int .i64 X.1.t.kind, .string X.1.t.name, .int .i64 X.1.t.n, .slice gs5 X.1.t.args.length ct5, .slice ga5 X.1.a.length ca5, .slice gb5 X.1.b.length cb5, .slice gc5 X.1.c.length cc5]) (by simp [results, Tryz.results84, go_sem, r0, r1, r2, r3, r4, r5, r6, r7]) rfl ?_
      rw [HX.out]
      exact HS6.out.done (fun b hb9 => by have h9 : u5.heap.size ≤ b := hb9.1; exact ⟨by omega, hb9.2, by omega⟩) rfl HI5.out hfr)
  | false =>
  rw [h3] at HI3
  clear HBR
  cases h4 : isB t [92, 43] 1 with
  | true =>
    have hl1 : t.args.length = 1 := (isB_iff.1 h4).2
    rw [h4] at HI4
    have HX := Lib.hid (mkG_not (mkL f) t ins cut st h1 h2 h3 h4)
    have hs0 := arg_small (t := t) (i := 0) (by omega)
    have hRA := mkL_ok f (argN t 0) (ins + 1) false st HST.out
    have HLA := Lib.hid (show (mkL f (argN t 0) (ins + 1) false st).1.length ≤ 1000000 by have := hRA.1.1; omega)
    obtain ⟨ab, ao, gs0, ms0, cs0, hga, -, hab, -, -, -, -, -⟩ := HG9.out u0 0 (by omega) HS0.out
    subst hga
    have HQ := Lib.hid (fun (W : World) (h : MG w t (.slice (some ⟨ab, ao, none⟩) mt ct) mx B st W) => show ∃ gs ms cs, W.cell? ⟨ab, ao, none⟩ = some (.int .i64 (argN t 0).kind) ∧ W.cell? ⟨ab, ao + 1, none⟩ = some (.string (argN t 0).name) ∧ W.cell? ⟨ab, ao + 2, none⟩ = some (.int .i64 (argN t 0).n) ∧ W.cell? ⟨ab, ao + 3, none⟩ = some (.slice gs ms cs) ∧ Tm.inn W B (argN t 0) (.slice gs ms cs) ∧ ab < W.heap.size by
      obtain ⟨ab', ao', gs', ms', cs', hga', -, hab', q0', q1', q2', q3', hin0'⟩ := HG9.out W 0 (by omega) h
      injection hga' with hga'
      injection hga' with hg1 hg2 _
      subst hg1 hg2
      simp only [Nat.zero_mul, Nat.add_zero] at q0' q1' q2' q3'
      exact ⟨gs', ms', cs', q0', q1', q2', q3', hin0', Nat.lt_of_lt_of_le hab' h.B_le⟩)
    have HGL := Lib.hid (fun (W : World) sv9 (h : MG w t (.slice (some ⟨ab, ao, none⟩) mt ct) mx B st W) (a0 : Tm.inn W B (argN t 0) sv9) => HF.out (argN t 0) (by have := HTZ.out; omega) W sv9 mx B st (ins + 1) false a0 h.le h.mr h.tb HST.out (by omega))
    rw [show ((ins + 1 : Nat) : Int) = (ins : Int) + 1 by omega] at HGL
    generalize mkL f (argN t 0) (ins + 1) false st = RA at HX HGL HLA
    have hm1 : mt = 1 := by rw [← hl1]; exact HMT.out.symm
    have jm0 : (0 : Int) < (mt : Int) := by omega
    clear hm1 h1 h2 h3 h4 hs0 hRA hl1 hab
    go_wp2_with (first | (go_at_call 48; (with_reducible refine (HI1.out _ HS0.out).mono ?_); rintro e u1 ⟨rfl, hb⟩; have HS1 := Lib.hid (HS0.out.quiet hb); clear hb; have y1_0 : u1.cell? ⟨w.heap.size, 0, none⟩ = some (.int .i64 t.kind) := HS1.out.c0; have y1_1 : u1.cell? ⟨w.heap.size, 1, none⟩ = some (.string t.name) := HS1.out.c1; have y1_2 : u1.cell? ⟨w.heap.size, 2, none⟩ = some (.int .i64 t.n) := HS1.out.c2; have y1_3 : u1.cell? ⟨w.heap.size, 3, none⟩ = some (.slice (some ⟨ab, ao, none⟩) mt ct) := HS1.out.c3; have y1_l := HS1.out.lt; obtain ⟨⟨rz1_0, rz1_1, rz1_2, rz1_3, rz1_4, rz1_5, rz1_6, rz1_7⟩, rf1_0, rf1_1, rf1_2, rf1_3, rf1_4, rf1_5, rf1_6, rf1_7⟩ := row8 HS1.out.bz) | (go_at_call 48; (with_reducible refine (HI2.out _ HS1.out).mono ?_); rintro e u2 ⟨rfl, hb⟩; have HS2 := Lib.hid (HS1.out.quiet hb); clear hb; have y2_0 : u2.cell? ⟨w.heap.size, 0, none⟩ = some (.int .i64 t.kind) := HS2.out.c0; have y2_1 : u2.cell? ⟨w.heap.size, 1, none⟩ = some (.string t.name) := HS2.out.c1; have y2_2 : u2.cell? ⟨w.heap.size, 2, none⟩ = some (.int .i64 t.n) := HS2.out.c2; have y2_3 : u2.cell? ⟨w.heap.size, 3, none⟩ = some (.slice (some ⟨ab, ao, none⟩) mt ct) := HS2.out.c3; have y2_l := HS2.out.lt; obtain ⟨⟨rz2_0, rz2_1, rz2_2, rz2_3, rz2_4, rz2_5, rz2_6, rz2_7⟩, rf2_0, rf2_1, rf2_2, rf2_3, rf2_4, rf2_5, rf2_6, rf2_7⟩ := row8 HS2.out.bz) | (go_at_call 48; (with_reducible refine (HI3.out _ HS2.out).mono ?_); rintro e u3 ⟨rfl, hb⟩; have HS3 := Lib.hid (HS2.out.quiet hb); clear hb; have y3_0 : u3.cell? ⟨w.heap.size, 0, none⟩ = some (.int .i64 t.kind) := HS3.out.c0; have y3_1 : u3.cell? ⟨w.heap.size, 1, none⟩ = some (.string t.name) := HS3.out.c1; have y3_2 : u3.cell? ⟨w.heap.size, 2, none⟩ = some (.int .i64 t.n) := HS3.out.c2; have y3_3 : u3.cell? ⟨w.heap.size, 3, none⟩ = some (.slice (some ⟨ab, ao, none⟩) mt ct) := HS3.out.c3; have y3_l := HS3.out.lt; obtain ⟨⟨rz3_0, rz3_1, rz3_2, rz3_3, rz3_4, rz3_5, rz3_6, rz3_7⟩, rf3_0, rf3_1, rf3_2, rf3_3, rf3_4, rf3_5, rf3_6, rf3_7⟩ := row8 HS3.out.bz) | (go_at_call 48; (with_reducible refine (HI4.out _ HS3.out).mono ?_); rintro e u4 ⟨rfl, hb⟩; have HS4 := Lib.hid (HS3.out.quiet hb); clear hb; have y4_0 : u4.cell? ⟨w.heap.size, 0, none⟩ = some (.int .i64 t.kind) := HS4.out.c0; have y4_1 : u4.cell? ⟨w.heap.size, 1, none⟩ = some (.string t.name) := HS4.out.c1; have y4_2 : u4.cell? ⟨w.heap.size, 2, none⟩ = some (.int .i64 t.n) := HS4.out.c2; have y4_3 : u4.cell? ⟨w.heap.size, 3, none⟩ = some (.slice (some ⟨ab, ao, none⟩) mt ct) := HS4.out.c3; have y4_l := HS4.out.lt; obtain ⟨⟨rz4_0, rz4_1, rz4_2, rz4_3, rz4_4, rz4_5, rz4_6, rz4_7⟩, rf4_0, rf4_1, rf4_2, rf4_3, rf4_4, rf4_5, rf4_6, rf4_7⟩ := row8 HS4.out.bz; obtain ⟨gs, ms, cs, q0, q1, q2, q3, hin0, qab⟩ := HQ.out _ HS4.out; have HIN0 := Lib.hid hin0; clear hin0) | (go_at_call 63; (with_reducible refine (HGL.out _ _ HS4.out HIN0.out).mono ?_); rintro e u5 ⟨va, rfl, hg1, hm1, hf1⟩; obtain ⟨g1, c1, rfl⟩ := hg1.slice; have HS5 := Lib.hid (HS4.out.mv hf1 hm1); have HG1 := Lib.hid hg1; have hl5 := HS5.out.lt; obtain ⟨⟨rz5_0, rz5_1, rz5_2, rz5_3, rz5_4, rz5_5, rz5_6, rz5_7⟩, rf5_0, rf5_1, rf5_2, rf5_3, rf5_4, rf5_5, rf5_6, rf5_7⟩ := row8 HS5.out.bz; clear hg1 hm1 hf1))
    have hz := set8_blk HS5.out.bz (.int .i64 5) (.int .i64 0) (.string ⟨#[]⟩) (.int .i64 0) (.slice none 0 0) (.slice g1 RA.1.length c1) (.slice none 0 0) (.slice none 0 0)
    have hfr := FrP.set8 u5 (w.heap.size + 1) (.int .i64 5) (.int .i64 0) (.string ⟨#[]⟩) (.int .i64 0) (.slice none 0 0) (.slice g1 RA.1.length c1) (.slice none 0 0) (.slice none 0 0)
    change bodyPost _ _ _ _ _ (set8 u5 (w.heap.size + 1) (.int .i64 5) (.int .i64 0) (.string ⟨#[]⟩) (.int .i64 0) (.slice none 0 0) (.slice g1 RA.1.length c1) (.slice none 0 0) (.slice none 0 0))
    obtain ⟨V, hV⟩ : ∃ V, set8 u5 (w.heap.size + 1) (.int .i64 5) (.int .i64 0) (.string ⟨#[]⟩) (.int .i64 0) (.slice none 0 0) (.slice g1 RA.1.length c1) (.slice none 0 0) (.slice none 0 0) = V := ⟨_, rfl⟩
    rw [hV] at hz hfr ⊢
    clear hV
    obtain ⟨⟨r0, r1, r2, r3, r4, r5, r6, r7⟩, -⟩ := row8 hz
    refine bodyPost_ret (v := .agg #[.int .i64 5, .int .i64 0, .string ⟨#[]⟩, .int .i64 0, .slice none 0 0, .slice g1 RA.1.length c1, .slice none 0 0, .slice none 0 0]) (by simp [results, Tryz.results84, go_sem, r0, r1, r2, r3, r4, r5, r6, r7]) rfl ?_
    rw [HX.out]
    exact HS5.out.done (ok := fun b => u4.heap.size ≤ b ∧ b < u5.heap.size) (fun b hb9 => by have h9 : u4.heap.size ≤ b := hb9.1; exact ⟨by omega, hb9.2, by omega⟩) rfl (Gl.innP_mk.2 ⟨by decide, zT_innP _ _, HG1.out.reads HLA.out, Gl.sliceP_nil _ _, Gl.sliceP_nil _ _⟩) hfr
  | false =>
  rw [h4] at HI4
  cases h5 : ctlB (bsN t.name) t.args.length with
  | true =>
    have HX := Lib.hid (mkG_ctl (mkL f) t ins cut st (by rw [h1]; rfl) (by rw [h2]; rfl) h3 h4 h5)
    rw [HMT.out] at h5
    rw [h5] at HPC
    clear h1 h2 h3 h4 h5
    have HSF := Lib.hid (fun W (h : MG w t (.slice gt mt ct) mx B st W) => h.mv (st' := (st.1, 5)) (FrP.setC W mx 1 (.int .i64 (5 : Nat))) (h.mr.set1 5))
    go_upto_region 11 with (first | (go_at_call 48; (with_reducible refine (HI1.out _ HS0.out).mono ?_); rintro e u1 ⟨rfl, hb⟩; have HS1 := Lib.hid (HS0.out.quiet hb); clear hb; have y1_0 : u1.cell? ⟨w.heap.size, 0, none⟩ = some (.int .i64 t.kind) := HS1.out.c0; have y1_1 : u1.cell? ⟨w.heap.size, 1, none⟩ = some (.string t.name) := HS1.out.c1; have y1_2 : u1.cell? ⟨w.heap.size, 2, none⟩ = some (.int .i64 t.n) := HS1.out.c2; have y1_3 : u1.cell? ⟨w.heap.size, 3, none⟩ = some (.slice gt mt ct) := HS1.out.c3; have y1_l := HS1.out.lt; obtain ⟨⟨rz1_0, rz1_1, rz1_2, rz1_3, rz1_4, rz1_5, rz1_6, rz1_7⟩, rf1_0, rf1_1, rf1_2, rf1_3, rf1_4, rf1_5, rf1_6, rf1_7⟩ := row8 HS1.out.bz) | (go_at_call 48; (with_reducible refine (HI2.out _ HS1.out).mono ?_); rintro e u2 ⟨rfl, hb⟩; have HS2 := Lib.hid (HS1.out.quiet hb); clear hb; have y2_0 : u2.cell? ⟨w.heap.size, 0, none⟩ = some (.int .i64 t.kind) := HS2.out.c0; have y2_1 : u2.cell? ⟨w.heap.size, 1, none⟩ = some (.string t.name) := HS2.out.c1; have y2_2 : u2.cell? ⟨w.heap.size, 2, none⟩ = some (.int .i64 t.n) := HS2.out.c2; have y2_3 : u2.cell? ⟨w.heap.size, 3, none⟩ = some (.slice gt mt ct) := HS2.out.c3; have y2_l := HS2.out.lt; obtain ⟨⟨rz2_0, rz2_1, rz2_2, rz2_3, rz2_4, rz2_5, rz2_6, rz2_7⟩, rf2_0, rf2_1, rf2_2, rf2_3, rf2_4, rf2_5, rf2_6, rf2_7⟩ := row8 HS2.out.bz) | (go_at_call 48; (with_reducible refine (HI3.out _ HS2.out).mono ?_); rintro e u3 ⟨rfl, hb⟩; have HS3 := Lib.hid (HS2.out.quiet hb); clear hb; have y3_0 : u3.cell? ⟨w.heap.size, 0, none⟩ = some (.int .i64 t.kind) := HS3.out.c0; have y3_1 : u3.cell? ⟨w.heap.size, 1, none⟩ = some (.string t.name) := HS3.out.c1; have y3_2 : u3.cell? ⟨w.heap.size, 2, none⟩ = some (.int .i64 t.n) := HS3.out.c2; have y3_3 : u3.cell? ⟨w.heap.size, 3, none⟩ = some (.slice gt mt ct) := HS3.out.c3; have y3_l := HS3.out.lt; obtain ⟨⟨rz3_0, rz3_1, rz3_2, rz3_3, rz3_4, rz3_5, rz3_6, rz3_7⟩, rf3_0, rf3_1, rf3_2, rf3_3, rf3_4, rf3_5, rf3_6, rf3_7⟩ := row8 HS3.out.bz) | (go_at_call 48; (with_reducible refine (HI4.out _ HS3.out).mono ?_); rintro e u4 ⟨rfl, hb⟩; have HS4 := Lib.hid (HS3.out.quiet hb); clear hb; have y4_0 : u4.cell? ⟨w.heap.size, 0, none⟩ = some (.int .i64 t.kind) := HS4.out.c0; have y4_1 : u4.cell? ⟨w.heap.size, 1, none⟩ = some (.string t.name) := HS4.out.c1; have y4_2 : u4.cell? ⟨w.heap.size, 2, none⟩ = some (.int .i64 t.n) := HS4.out.c2; have y4_3 : u4.cell? ⟨w.heap.size, 3, none⟩ = some (.slice gt mt ct) := HS4.out.c3; have y4_l := HS4.out.lt; obtain ⟨⟨rz4_0, rz4_1, rz4_2, rz4_3, rz4_4, rz4_5, rz4_6, rz4_7⟩, rf4_0, rf4_1, rf4_2, rf4_3, rf4_4, rf4_5, rf4_6, rf4_7⟩ := row8 HS4.out.bz) | (go_at_call 34; (with_reducible refine (HPP.out _ HS4.out).mono ?_); rintro e u5 ⟨rfl, hb⟩; have HS5 := Lib.hid (HS4.out.quiet hb); clear hb; have y5_0 : u5.cell? ⟨w.heap.size, 0, none⟩ = some (.int .i64 t.kind) := HS5.out.c0; have y5_1 : u5.cell? ⟨w.heap.size, 1, none⟩ = some (.string t.name) := HS5.out.c1; have y5_2 : u5.cell? ⟨w.heap.size, 2, none⟩ = some (.int .i64 t.n) := HS5.out.c2; have y5_3 : u5.cell? ⟨w.heap.size, 3, none⟩ = some (.slice gt mt ct) := HS5.out.c3; have y5_l := HS5.out.lt; obtain ⟨⟨rz5_0, rz5_1, rz5_2, rz5_3, rz5_4, rz5_5, rz5_6, rz5_7⟩, rf5_0, rf5_1, rf5_2, rf5_3, rf5_4, rf5_5, rf5_6, rf5_7⟩ := row8 HS5.out.bz) | (go_at_call 33; (with_reducible refine (HPC.out _ HS5.out).mono ?_); rintro e u6 ⟨rfl, hb⟩; have HS6 := Lib.hid (HS5.out.quiet hb); clear hb; have y6_0 : u6.cell? ⟨w.heap.size, 0, none⟩ = some (.int .i64 t.kind) := HS6.out.c0; have y6_1 : u6.cell? ⟨w.heap.size, 1, none⟩ = some (.string t.name) := HS6.out.c1; have y6_2 : u6.cell? ⟨w.heap.size, 2, none⟩ = some (.int .i64 t.n) := HS6.out.c2; have y6_3 : u6.cell? ⟨w.heap.size, 3, none⟩ = some (.slice gt mt ct) := HS6.out.c3; have y6_l := HS6.out.lt; obtain ⟨⟨rz6_0, rz6_1, rz6_2, rz6_3, rz6_4, rz6_5, rz6_6, rz6_7⟩, rf6_0, rf6_1, rf6_2, rf6_3, rf6_4, rf6_5, rf6_6, rf6_7⟩ := row8 HS6.out.bz; have hq1 : u6.frozen? ⟨mx, 1, none⟩ = false := HS6.out.mr.frozen1; have hq2 := HS6.out.mr.cell1; have hq3 := HS6.out.mr.lt; have HS7 := Lib.hid (show MG w t (.slice gt mt ct) mx B (st.1, 5) (u6.setCell ⟨mx, 1, none⟩ (.int .i64 5)) from HSF.out _ HS6.out)))
    generalize u6.setCell ⟨mx, 1, none⟩ (.int .i64 5) = u7 at HS7 ⊢
    have y7_0 : u7.cell? ⟨w.heap.size, 0, none⟩ = some (.int .i64 t.kind) := HS7.out.c0
    have y7_1 : u7.cell? ⟨w.heap.size, 1, none⟩ = some (.string t.name) := HS7.out.c1
    have y7_2 : u7.cell? ⟨w.heap.size, 2, none⟩ = some (.int .i64 t.n) := HS7.out.c2
    have y7_3 : u7.cell? ⟨w.heap.size, 3, none⟩ = some (.slice gt mt ct) := HS7.out.c3
    have y7_l := HS7.out.lt
    obtain ⟨⟨rz7_0, rz7_1, rz7_2, rz7_3, rz7_4, rz7_5, rz7_6, rz7_7⟩, rf7_0, rf7_1, rf7_2, rf7_3, rf7_4, rf7_5, rf7_6, rf7_7⟩ := row8 HS7.out.bz
    go_wp2_with fail
    have hz := set8_blk HS7.out.bz (.int .i64 0) (.int .i64 0) (.string ⟨#[]⟩) (.int .i64 0) (.slice none 0 0) (.slice none 0 0) (.slice none 0 0) (.slice none 0 0)
    have hfr := FrP.set8 u7 (w.heap.size + 1) (.int .i64 0) (.int .i64 0) (.string ⟨#[]⟩) (.int .i64 0) (.slice none 0 0) (.slice none 0 0) (.slice none 0 0) (.slice none 0 0)
    change bodyPost _ _ _ _ _ (set8 u7 (w.heap.size + 1) (.int .i64 0) (.int .i64 0) (.string ⟨#[]⟩) (.int .i64 0) (.slice none 0 0) (.slice none 0 0) (.slice none 0 0) (.slice none 0 0))
    obtain ⟨V, hV⟩ : ∃ V, set8 u7 (w.heap.size + 1) (.int .i64 0) (.int .i64 0) (.string ⟨#[]⟩) (.int .i64 0) (.slice none 0 0) (.slice none 0 0) (.slice none 0 0) (.slice none 0 0) = V := ⟨_, rfl⟩
    rw [hV] at hz hfr ⊢
    clear hV
    obtain ⟨⟨r0, r1, r2, r3, r4, r5, r6, r7⟩, -⟩ := row8 hz
    refine bodyPost_ret (v := .agg #[.int .i64 0, .int .i64 0, .string ⟨#[]⟩, .int .i64 0, .slice none 0 0, .slice none 0 0, .slice none 0 0, .slice none 0 0]) (by simp [results, Tryz.results84, go_sem, r0, r1, r2, r3, r4, r5, r6, r7]) rfl ?_
    rw [HX.out]
    exact HS7.out.done (ok := fun _ => False) (fun _ e => e.elim) rfl (Gl.innP_mk.2 ⟨by decide, zT_innP _ _, Gl.sliceP_nil _ _, Gl.sliceP_nil _ _, Gl.sliceP_nil _ _⟩) hfr
  | false =>
  cases h6 : bltn (bsN t.name) t.args.length with
  | true =>
    have HX := Lib.hid (mkG_does (mkL f) t ins cut st h1 h2 h3 h4 h5 h6)
    rw [HMT.out] at h5 h6
    rw [h5] at HPC
    rw [h6] at HPB
    clear h1 h2 h3 h4 h5 h6
    go_wp2_with (first | (go_at_call 48; (with_reducible refine (HI1.out _ HS0.out).mono ?_); rintro e u1 ⟨rfl, hb⟩; have HS1 := Lib.hid (HS0.out.quiet hb); clear hb; have y1_0 : u1.cell? ⟨w.heap.size, 0, none⟩ = some (.int .i64 t.kind) := HS1.out.c0; have y1_1 : u1.cell? ⟨w.heap.size, 1, none⟩ = some (.string t.name) := HS1.out.c1; have y1_2 : u1.cell? ⟨w.heap.size, 2, none⟩ = some (.int .i64 t.n) := HS1.out.c2; have y1_3 : u1.cell? ⟨w.heap.size, 3, none⟩ = some (.slice gt mt ct) := HS1.out.c3; have y1_l := HS1.out.lt; obtain ⟨⟨rz1_0, rz1_1, rz1_2, rz1_3, rz1_4, rz1_5, rz1_6, rz1_7⟩, rf1_0, rf1_1, rf1_2, rf1_3, rf1_4, rf1_5, rf1_6, rf1_7⟩ := row8 HS1.out.bz) | (go_at_call 48; (with_reducible refine (HI2.out _ HS1.out).mono ?_); rintro e u2 ⟨rfl, hb⟩; have HS2 := Lib.hid (HS1.out.quiet hb); clear hb; have y2_0 : u2.cell? ⟨w.heap.size, 0, none⟩ = some (.int .i64 t.kind) := HS2.out.c0; have y2_1 : u2.cell? ⟨w.heap.size, 1, none⟩ = some (.string t.name) := HS2.out.c1; have y2_2 : u2.cell? ⟨w.heap.size, 2, none⟩ = some (.int .i64 t.n) := HS2.out.c2; have y2_3 : u2.cell? ⟨w.heap.size, 3, none⟩ = some (.slice gt mt ct) := HS2.out.c3; have y2_l := HS2.out.lt; obtain ⟨⟨rz2_0, rz2_1, rz2_2, rz2_3, rz2_4, rz2_5, rz2_6, rz2_7⟩, rf2_0, rf2_1, rf2_2, rf2_3, rf2_4, rf2_5, rf2_6, rf2_7⟩ := row8 HS2.out.bz) | (go_at_call 48; (with_reducible refine (HI3.out _ HS2.out).mono ?_); rintro e u3 ⟨rfl, hb⟩; have HS3 := Lib.hid (HS2.out.quiet hb); clear hb; have y3_0 : u3.cell? ⟨w.heap.size, 0, none⟩ = some (.int .i64 t.kind) := HS3.out.c0; have y3_1 : u3.cell? ⟨w.heap.size, 1, none⟩ = some (.string t.name) := HS3.out.c1; have y3_2 : u3.cell? ⟨w.heap.size, 2, none⟩ = some (.int .i64 t.n) := HS3.out.c2; have y3_3 : u3.cell? ⟨w.heap.size, 3, none⟩ = some (.slice gt mt ct) := HS3.out.c3; have y3_l := HS3.out.lt; obtain ⟨⟨rz3_0, rz3_1, rz3_2, rz3_3, rz3_4, rz3_5, rz3_6, rz3_7⟩, rf3_0, rf3_1, rf3_2, rf3_3, rf3_4, rf3_5, rf3_6, rf3_7⟩ := row8 HS3.out.bz) | (go_at_call 48; (with_reducible refine (HI4.out _ HS3.out).mono ?_); rintro e u4 ⟨rfl, hb⟩; have HS4 := Lib.hid (HS3.out.quiet hb); clear hb; have y4_0 : u4.cell? ⟨w.heap.size, 0, none⟩ = some (.int .i64 t.kind) := HS4.out.c0; have y4_1 : u4.cell? ⟨w.heap.size, 1, none⟩ = some (.string t.name) := HS4.out.c1; have y4_2 : u4.cell? ⟨w.heap.size, 2, none⟩ = some (.int .i64 t.n) := HS4.out.c2; have y4_3 : u4.cell? ⟨w.heap.size, 3, none⟩ = some (.slice gt mt ct) := HS4.out.c3; have y4_l := HS4.out.lt; obtain ⟨⟨rz4_0, rz4_1, rz4_2, rz4_3, rz4_4, rz4_5, rz4_6, rz4_7⟩, rf4_0, rf4_1, rf4_2, rf4_3, rf4_4, rf4_5, rf4_6, rf4_7⟩ := row8 HS4.out.bz) | (go_at_call 34; (with_reducible refine (HPP.out _ HS4.out).mono ?_); rintro e u5 ⟨rfl, hb⟩; have HS5 := Lib.hid (HS4.out.quiet hb); clear hb; have y5_0 : u5.cell? ⟨w.heap.size, 0, none⟩ = some (.int .i64 t.kind) := HS5.out.c0; have y5_1 : u5.cell? ⟨w.heap.size, 1, none⟩ = some (.string t.name) := HS5.out.c1; have y5_2 : u5.cell? ⟨w.heap.size, 2, none⟩ = some (.int .i64 t.n) := HS5.out.c2; have y5_3 : u5.cell? ⟨w.heap.size, 3, none⟩ = some (.slice gt mt ct) := HS5.out.c3; have y5_l := HS5.out.lt; obtain ⟨⟨rz5_0, rz5_1, rz5_2, rz5_3, rz5_4, rz5_5, rz5_6, rz5_7⟩, rf5_0, rf5_1, rf5_2, rf5_3, rf5_4, rf5_5, rf5_6, rf5_7⟩ := row8 HS5.out.bz) | (go_at_call 33; (with_reducible refine (HPC.out _ HS5.out).mono ?_); rintro e u6 ⟨rfl, hb⟩; have HS6 := Lib.hid (HS5.out.quiet hb); clear hb; have y6_0 : u6.cell? ⟨w.heap.size, 0, none⟩ = some (.int .i64 t.kind) := HS6.out.c0; have y6_1 : u6.cell? ⟨w.heap.size, 1, none⟩ = some (.string t.name) := HS6.out.c1; have y6_2 : u6.cell? ⟨w.heap.size, 2, none⟩ = some (.int .i64 t.n) := HS6.out.c2; have y6_3 : u6.cell? ⟨w.heap.size, 3, none⟩ = some (.slice gt mt ct) := HS6.out.c3; have y6_l := HS6.out.lt; obtain ⟨⟨rz6_0, rz6_1, rz6_2, rz6_3, rz6_4, rz6_5, rz6_6, rz6_7⟩, rf6_0, rf6_1, rf6_2, rf6_3, rf6_4, rf6_5, rf6_6, rf6_7⟩ := row8 HS6.out.bz) | (go_at_call 34; (with_reducible refine (HPP.out _ HS6.out).mono ?_); rintro e u7 ⟨rfl, hb⟩; have HS7 := Lib.hid (HS6.out.quiet hb); clear hb; have y7_0 : u7.cell? ⟨w.heap.size, 0, none⟩ = some (.int .i64 t.kind) := HS7.out.c0; have y7_1 : u7.cell? ⟨w.heap.size, 1, none⟩ = some (.string t.name) := HS7.out.c1; have y7_2 : u7.cell? ⟨w.heap.size, 2, none⟩ = some (.int .i64 t.n) := HS7.out.c2; have y7_3 : u7.cell? ⟨w.heap.size, 3, none⟩ = some (.slice gt mt ct) := HS7.out.c3; have y7_l := HS7.out.lt; obtain ⟨⟨rz7_0, rz7_1, rz7_2, rz7_3, rz7_4, rz7_5, rz7_6, rz7_7⟩, rf7_0, rf7_1, rf7_2, rf7_3, rf7_4, rf7_5, rf7_6, rf7_7⟩ := row8 HS7.out.bz) | (go_at_call 32; (with_reducible refine (HPB.out _ HS7.out).mono ?_); rintro e u8 ⟨rfl, hb⟩; have HS8 := Lib.hid (HS7.out.quiet hb); clear hb; have y8_0 : u8.cell? ⟨w.heap.size, 0, none⟩ = some (.int .i64 t.kind) := HS8.out.c0; have y8_1 : u8.cell? ⟨w.heap.size, 1, none⟩ = some (.string t.name) := HS8.out.c1; have y8_2 : u8.cell? ⟨w.heap.size, 2, none⟩ = some (.int .i64 t.n) := HS8.out.c2; have y8_3 : u8.cell? ⟨w.heap.size, 3, none⟩ = some (.slice gt mt ct) := HS8.out.c3; have y8_l := HS8.out.lt; obtain ⟨⟨rz8_0, rz8_1, rz8_2, rz8_3, rz8_4, rz8_5, rz8_6, rz8_7⟩, rf8_0, rf8_1, rf8_2, rf8_3, rf8_4, rf8_5, rf8_6, rf8_7⟩ := row8 HS8.out.bz) | (go_at_call 101; (with_reducible refine (HCP.out _ HS8.out).mono ?_); rintro e u9 ⟨sv9, rfl, hcp, hb⟩; obtain ⟨-, gs9, ct9, rfl, -⟩ := Tm.innP_iff.1 hcp; have HS9 := Lib.hid (HS8.out.quiet hb); have HCP9 := Lib.hid hcp; clear hb hcp; have hl9 := HS9.out.lt; obtain ⟨⟨rz9_0, rz9_1, rz9_2, rz9_3, rz9_4, rz9_5, rz9_6, rz9_7⟩, rf9_0, rf9_1, rf9_2, rf9_3, rf9_4, rf9_5, rf9_6, rf9_7⟩ := row8 HS9.out.bz))
    have hz := set8_blk HS9.out.bz (.int .i64 2) (.int .i64 t.kind) (.string t.name) (.int .i64 t.n) (.slice gs9 t.args.length ct9) (.slice none 0 0) (.slice none 0 0) (.slice none 0 0)
    have hfr := FrP.set8 u9 (w.heap.size + 1) (.int .i64 2) (.int .i64 t.kind) (.string t.name) (.int .i64 t.n) (.slice gs9 t.args.length ct9) (.slice none 0 0) (.slice none 0 0) (.slice none 0 0)
    change bodyPost _ _ _ _ _ (set8 u9 (w.heap.size + 1) (.int .i64 2) (.int .i64 t.kind) (.string t.name) (.int .i64 t.n) (.slice gs9 t.args.length ct9) (.slice none 0 0) (.slice none 0 0) (.slice none 0 0))
    obtain ⟨V, hV⟩ : ∃ V, set8 u9 (w.heap.size + 1) (.int .i64 2) (.int .i64 t.kind) (.string t.name) (.int .i64 t.n) (.slice gs9 t.args.length ct9) (.slice none 0 0) (.slice none 0 0) (.slice none 0 0) = V := ⟨_, rfl⟩
    rw [hV] at hz hfr ⊢
    clear hV
    obtain ⟨⟨r0, r1, r2, r3, r4, r5, r6, r7⟩, -⟩ := row8 hz
    refine bodyPost_ret (v := .agg #[.int .i64 2, .int .i64 t.kind, .string t.name, .int .i64 t.n, .slice gs9 t.args.length ct9, .slice none 0 0, .slice none 0 0, .slice none 0 0]) (by simp [results, Tryz.results84, go_sem, r0, r1, r2, r3, r4, r5, r6, r7]) rfl ?_
    rw [HX.out]
    exact HS9.out.done (ok := fun b => u8.heap.size ≤ b ∧ b < u9.heap.size) (fun b hb9 => by have h9 : u8.heap.size ≤ b := hb9.1; exact ⟨by omega, hb9.2, by omega⟩) rfl (Gl.innP_mk.2 ⟨by decide, HCP9.out, Gl.sliceP_nil _ _, Gl.sliceP_nil _ _, Gl.sliceP_nil _ _⟩) hfr
  | false =>
  have HX := Lib.hid (mkG_call (mkL f) t ins cut st h1 h2 h3 h4 h5 h6)
  rw [HMT.out] at h5 h6
  rw [h5] at HPC
  rw [h6] at HPB
  clear h1 h2 h3 h4 h5 h6
  go_wp2_with (first | (go_at_call 48; (with_reducible refine (HI1.out _ HS0.out).mono ?_); rintro e u1 ⟨rfl, hb⟩; have HS1 := Lib.hid (HS0.out.quiet hb); clear hb; have y1_0 : u1.cell? ⟨w.heap.size, 0, none⟩ = some (.int .i64 t.kind) := HS1.out.c0; have y1_1 : u1.cell? ⟨w.heap.size, 1, none⟩ = some (.string t.name) := HS1.out.c1; have y1_2 : u1.cell? ⟨w.heap.size, 2, none⟩ = some (.int .i64 t.n) := HS1.out.c2; have y1_3 : u1.cell? ⟨w.heap.size, 3, none⟩ = some (.slice gt mt ct) := HS1.out.c3; have y1_l := HS1.out.lt; obtain ⟨⟨rz1_0, rz1_1, rz1_2, rz1_3, rz1_4, rz1_5, rz1_6, rz1_7⟩, rf1_0, rf1_1, rf1_2, rf1_3, rf1_4, rf1_5, rf1_6, rf1_7⟩ := row8 HS1.out.bz) | (go_at_call 48; (with_reducible refine (HI2.out _ HS1.out).mono ?_); rintro e u2 ⟨rfl, hb⟩; have HS2 := Lib.hid (HS1.out.quiet hb); clear hb; have y2_0 : u2.cell? ⟨w.heap.size, 0, none⟩ = some (.int .i64 t.kind) := HS2.out.c0; have y2_1 : u2.cell? ⟨w.heap.size, 1, none⟩ = some (.string t.name) := HS2.out.c1; have y2_2 : u2.cell? ⟨w.heap.size, 2, none⟩ = some (.int .i64 t.n) := HS2.out.c2; have y2_3 : u2.cell? ⟨w.heap.size, 3, none⟩ = some (.slice gt mt ct) := HS2.out.c3; have y2_l := HS2.out.lt; obtain ⟨⟨rz2_0, rz2_1, rz2_2, rz2_3, rz2_4, rz2_5, rz2_6, rz2_7⟩, rf2_0, rf2_1, rf2_2, rf2_3, rf2_4, rf2_5, rf2_6, rf2_7⟩ := row8 HS2.out.bz) | (go_at_call 48; (with_reducible refine (HI3.out _ HS2.out).mono ?_); rintro e u3 ⟨rfl, hb⟩; have HS3 := Lib.hid (HS2.out.quiet hb); clear hb; have y3_0 : u3.cell? ⟨w.heap.size, 0, none⟩ = some (.int .i64 t.kind) := HS3.out.c0; have y3_1 : u3.cell? ⟨w.heap.size, 1, none⟩ = some (.string t.name) := HS3.out.c1; have y3_2 : u3.cell? ⟨w.heap.size, 2, none⟩ = some (.int .i64 t.n) := HS3.out.c2; have y3_3 : u3.cell? ⟨w.heap.size, 3, none⟩ = some (.slice gt mt ct) := HS3.out.c3; have y3_l := HS3.out.lt; obtain ⟨⟨rz3_0, rz3_1, rz3_2, rz3_3, rz3_4, rz3_5, rz3_6, rz3_7⟩, rf3_0, rf3_1, rf3_2, rf3_3, rf3_4, rf3_5, rf3_6, rf3_7⟩ := row8 HS3.out.bz) | (go_at_call 48; (with_reducible refine (HI4.out _ HS3.out).mono ?_); rintro e u4 ⟨rfl, hb⟩; have HS4 := Lib.hid (HS3.out.quiet hb); clear hb; have y4_0 : u4.cell? ⟨w.heap.size, 0, none⟩ = some (.int .i64 t.kind) := HS4.out.c0; have y4_1 : u4.cell? ⟨w.heap.size, 1, none⟩ = some (.string t.name) := HS4.out.c1; have y4_2 : u4.cell? ⟨w.heap.size, 2, none⟩ = some (.int .i64 t.n) := HS4.out.c2; have y4_3 : u4.cell? ⟨w.heap.size, 3, none⟩ = some (.slice gt mt ct) := HS4.out.c3; have y4_l := HS4.out.lt; obtain ⟨⟨rz4_0, rz4_1, rz4_2, rz4_3, rz4_4, rz4_5, rz4_6, rz4_7⟩, rf4_0, rf4_1, rf4_2, rf4_3, rf4_4, rf4_5, rf4_6, rf4_7⟩ := row8 HS4.out.bz) | (go_at_call 34; (with_reducible refine (HPP.out _ HS4.out).mono ?_); rintro e u5 ⟨rfl, hb⟩; have HS5 := Lib.hid (HS4.out.quiet hb); clear hb; have y5_0 : u5.cell? ⟨w.heap.size, 0, none⟩ = some (.int .i64 t.kind) := HS5.out.c0; have y5_1 : u5.cell? ⟨w.heap.size, 1, none⟩ = some (.string t.name) := HS5.out.c1; have y5_2 : u5.cell? ⟨w.heap.size, 2, none⟩ = some (.int .i64 t.n) := HS5.out.c2; have y5_3 : u5.cell? ⟨w.heap.size, 3, none⟩ = some (.slice gt mt ct) := HS5.out.c3; have y5_l := HS5.out.lt; obtain ⟨⟨rz5_0, rz5_1, rz5_2, rz5_3, rz5_4, rz5_5, rz5_6, rz5_7⟩, rf5_0, rf5_1, rf5_2, rf5_3, rf5_4, rf5_5, rf5_6, rf5_7⟩ := row8 HS5.out.bz) | (go_at_call 33; (with_reducible refine (HPC.out _ HS5.out).mono ?_); rintro e u6 ⟨rfl, hb⟩; have HS6 := Lib.hid (HS5.out.quiet hb); clear hb; have y6_0 : u6.cell? ⟨w.heap.size, 0, none⟩ = some (.int .i64 t.kind) := HS6.out.c0; have y6_1 : u6.cell? ⟨w.heap.size, 1, none⟩ = some (.string t.name) := HS6.out.c1; have y6_2 : u6.cell? ⟨w.heap.size, 2, none⟩ = some (.int .i64 t.n) := HS6.out.c2; have y6_3 : u6.cell? ⟨w.heap.size, 3, none⟩ = some (.slice gt mt ct) := HS6.out.c3; have y6_l := HS6.out.lt; obtain ⟨⟨rz6_0, rz6_1, rz6_2, rz6_3, rz6_4, rz6_5, rz6_6, rz6_7⟩, rf6_0, rf6_1, rf6_2, rf6_3, rf6_4, rf6_5, rf6_6, rf6_7⟩ := row8 HS6.out.bz) | (go_at_call 34; (with_reducible refine (HPP.out _ HS6.out).mono ?_); rintro e u7 ⟨rfl, hb⟩; have HS7 := Lib.hid (HS6.out.quiet hb); clear hb; have y7_0 : u7.cell? ⟨w.heap.size, 0, none⟩ = some (.int .i64 t.kind) := HS7.out.c0; have y7_1 : u7.cell? ⟨w.heap.size, 1, none⟩ = some (.string t.name) := HS7.out.c1; have y7_2 : u7.cell? ⟨w.heap.size, 2, none⟩ = some (.int .i64 t.n) := HS7.out.c2; have y7_3 : u7.cell? ⟨w.heap.size, 3, none⟩ = some (.slice gt mt ct) := HS7.out.c3; have y7_l := HS7.out.lt; obtain ⟨⟨rz7_0, rz7_1, rz7_2, rz7_3, rz7_4, rz7_5, rz7_6, rz7_7⟩, rf7_0, rf7_1, rf7_2, rf7_3, rf7_4, rf7_5, rf7_6, rf7_7⟩ := row8 HS7.out.bz) | (go_at_call 32; (with_reducible refine (HPB.out _ HS7.out).mono ?_); rintro e u8 ⟨rfl, hb⟩; have HS8 := Lib.hid (HS7.out.quiet hb); clear hb; have y8_0 : u8.cell? ⟨w.heap.size, 0, none⟩ = some (.int .i64 t.kind) := HS8.out.c0; have y8_1 : u8.cell? ⟨w.heap.size, 1, none⟩ = some (.string t.name) := HS8.out.c1; have y8_2 : u8.cell? ⟨w.heap.size, 2, none⟩ = some (.int .i64 t.n) := HS8.out.c2; have y8_3 : u8.cell? ⟨w.heap.size, 3, none⟩ = some (.slice gt mt ct) := HS8.out.c3; have y8_l := HS8.out.lt; obtain ⟨⟨rz8_0, rz8_1, rz8_2, rz8_3, rz8_4, rz8_5, rz8_6, rz8_7⟩, rf8_0, rf8_1, rf8_2, rf8_3, rf8_4, rf8_5, rf8_6, rf8_7⟩ := row8 HS8.out.bz) | (go_at_call 101; (with_reducible refine (HCP.out _ HS8.out).mono ?_); rintro e u9 ⟨sv9, rfl, hcp, hb⟩; obtain ⟨-, gs9, ct9, rfl, -⟩ := Tm.innP_iff.1 hcp; have HS9 := Lib.hid (HS8.out.quiet hb); have HCP9 := Lib.hid hcp; clear hb hcp; have hl9 := HS9.out.lt; obtain ⟨⟨rz9_0, rz9_1, rz9_2, rz9_3, rz9_4, rz9_5, rz9_6, rz9_7⟩, rf9_0, rf9_1, rf9_2, rf9_3, rf9_4, rf9_5, rf9_6, rf9_7⟩ := row8 HS9.out.bz))
  have hz := set8_blk HS9.out.bz (.int .i64 1) (.int .i64 t.kind) (.string t.name) (.int .i64 t.n) (.slice gs9 t.args.length ct9) (.slice none 0 0) (.slice none 0 0) (.slice none 0 0)
  have hfr := FrP.set8 u9 (w.heap.size + 1) (.int .i64 1) (.int .i64 t.kind) (.string t.name) (.int .i64 t.n) (.slice gs9 t.args.length ct9) (.slice none 0 0) (.slice none 0 0) (.slice none 0 0)
  change bodyPost _ _ _ _ _ (set8 u9 (w.heap.size + 1) (.int .i64 1) (.int .i64 t.kind) (.string t.name) (.int .i64 t.n) (.slice gs9 t.args.length ct9) (.slice none 0 0) (.slice none 0 0) (.slice none 0 0))
  obtain ⟨V, hV⟩ : ∃ V, set8 u9 (w.heap.size + 1) (.int .i64 1) (.int .i64 t.kind) (.string t.name) (.int .i64 t.n) (.slice gs9 t.args.length ct9) (.slice none 0 0) (.slice none 0 0) (.slice none 0 0) = V := ⟨_, rfl⟩
  rw [hV] at hz hfr ⊢
  clear hV
  obtain ⟨⟨r0, r1, r2, r3, r4, r5, r6, r7⟩, -⟩ := row8 hz
  refine bodyPost_ret (v := .agg #[.int .i64 1, .int .i64 t.kind, .string t.name, .int .i64 t.n, .slice gs9 t.args.length ct9, .slice none 0 0, .slice none 0 0, .slice none 0 0]) (by simp [results, Tryz.results84, go_sem, r0, r1, r2, r3, r4, r5, r6, r7]) rfl ?_
  rw [HX.out]
  exact HS9.out.done (ok := fun b => u8.heap.size ≤ b ∧ b < u9.heap.size) (fun b hb9 => by have h9 : u8.heap.size ≤ b := hb9.1; exact ⟨by omega, hb9.2, by omega⟩) rfl (Gl.innP_mk.2 ⟨by decide, HCP9.out, Gl.sliceP_nil _ _, Gl.sliceP_nil _ _, Gl.sliceP_nil _ _⟩) hfr
end Go.Proofs.YtkjnjahmlobjiaaGreatDoor
