/-
  The document's Apply, and that its answer lies in memory of its own.
  The document's Seen: what terms become, numbered.
-/
import Derived.Test.YtgnbjhiafjpokaaFlat
import Derived.Test.YtgnbjhiafjpokaaNumd
namespace Go.Proofs.Ytgnbjhiafjpokaa
open Go.RowKit Go.Shelf Go.Maps

/-- The same, told with where the answer lies. -/
def RAppPostP (u : Tm) (w : World) (e : Ending) (w' : World) : Prop :=
  ∃ X E g c, e = .returned (.tuple #[.agg #[.int .i64 X.kind, .string X.name, .int .i64 X.n, .slice g X.args.length c], .int .i64 E]) ∧ Tm.innP w' (fun b => w.heap.size ≤ b ∧ b < w'.heap.size) X (.slice g X.args.length c) ∧ Below w.heap.size w w' ∧ ((u.right = false ∧ X = kZ ∧ E = 3) ∨ (u.right = true ∧ X = u ∧ E = 0))
theorem innP_kZr (w : World) (ok : Nat → Prop) : Tm.innP w ok kZ (.slice none 0 0) := Tm.innP_mk.2 ⟨⟨by decide, Nat.zero_le _, by decide⟩, none, 0, rfl, Nat.le_refl _, Nat.zero_le _, .inl rfl⟩

set_option maxRecDepth 100000 in
set_option maxHeartbeats 2000000 in
theorem rapply_anyP (l : List Bd) (σ : Int → Tm) (hl : RightL l) (hσ : Sol l σ) (t : Tm) (ht : t.fair = true) (w : World) (svl sv : Value) (hsl : bdsIn w w.heap.size l svl) (hin : Tm.inn w w.heap.size t sv) (hmax : l.length ≤ 1000) :
    Calls Try.prog 25 #[svl, .agg #[.int .i64 t.kind, .string t.name, .int .i64 t.n, sv]] w fun e w' => RAppPostP (t.bnd σ) w e w' := by
  obtain ⟨gl, cl, rfl, _, _, _, _⟩ := id hsl
  obtain ⟨_, g, cap, rfl, hcap, hlen, _⟩ := Tm.inn_iff.1 hin
  have hb0 := al2 w (.cells #[.int .i64 t.kind, .string t.name, .int .i64 t.n, .slice g t.args.length cap] 27) (.cells #[.int .i64 0, .string ⟨#[]⟩, .int .i64 0, .slice none 0 0] 27)
  have hin0 := Tm.inn_mono (Tm.inn_below hin hb0 (Nat.le_refl _)) hb0.size
  obtain ⟨hok, r, hr⟩ := hl
  obtain ⟨M, hM⟩ := bound_of r l.length
  have he := rbecome_any l (by omega) hok σ hσ r hr M t (fun v _ q hq => hM q (place_some hq).1) ht 3000 100 _ _ _ (by omega) (by omega) (by omega) (by omega) (bdsIn_held hsl hb0) hin0
  have hfr := fit_right (hσ.fairT ht)
  obtain ⟨u, hu⟩ : ∃ u, t.bnd σ = u := ⟨_, rfl⟩
  rw [hu] at he hfr ⊢
  have HE := Lib.hid he
  have HB0 := Lib.hid hb0
  have HFR := Lib.hid hfr
  clear he hb0 hin0 hσ hsl hin hok hr hM hu hfr ht
  go_enter Try.func25, Try.ntmps25
  go_wp2_with fail
  refine HE.out.mono ?_
  rintro e w1 ⟨hb1, hpost⟩
  rw [HFR.out] at hpost
  have hs1 : w.heap.size + 2 ≤ w1.heap.size := by have := hb1.size; simpa using this
  have hl1 : w.heap.size + 1 < w1.heap.size := by omega
  have hr1 : w1.heap[w.heap.size + 1]? = some (Obj.cells #[.int .i64 0, .string ⟨#[]⟩, .int .i64 0, .slice none 0 0] 27 (0, 0)) := (hb1.block _ (by simp)).trans (newBlk _ _ _ (by simp))
  have HB1 := Lib.hid (HB0.out.trans (hb1.mono (by simp; omega)))
  obtain ⟨⟨c0, c1, c2, c3⟩, f0, f1, f2, f3⟩ := row4 hr1
  have hbs : (w.alloc (.cells #[.int .i64 t.kind, .string t.name, .int .i64 t.n, .slice g t.args.length cap] 27)).heap.size + 1 = w.heap.size + 2 := by simp
  clear hb1 hr1 HE hbs
  rcases hpost with ⟨hf, rfl⟩ | ⟨hf, gu, cu, rfl, hpu⟩
  · have HF := Lib.hid hf
    clear hf
    go_wp2_with fail
    refine bodyPost_ret (v := .tuple #[.agg #[.int .i64 0, .string ⟨#[]⟩, .int .i64 0, .slice none 0 0], .int .i64 3]) (by simp [results, Try.results25, go_sem, c0, c1, c2, c3, hl1]) rfl ?_
    exact ⟨kZ, 3, none, 0, rfl, innP_kZr _ _, (set4_below HB1.out (by omega) _ _ _ _).alloc (by rw [set4_size]; omega) _, .inl ⟨HF.out, rfl, rfl⟩⟩
  · have HF := Lib.hid hf
    have HPU := Lib.hid hpu
    have hup : ((u.size : Int) == 0) = false := by have := u.size_pos; simp; omega
    clear hf hpu
    go_wp2_with fail
    refine bodyPost_ret (v := .tuple #[.agg #[.int .i64 u.kind, .string u.name, .int .i64 u.n, .slice gu u.args.length cu], .int .i64 0]) (by simp [results, Try.results25, go_sem, c0, c1, c2, c3, hl1]) rfl ?_
    refine ⟨u, 0, gu, cu, rfl, ?_, (set4_below HB1.out (by omega) _ _ _ _).alloc (by rw [set4_size]; omega) _, .inr ⟨HF.out, rfl, rfl⟩⟩
    refine Tm.innP_same (fun b hb' => ⟨by have := hb'.1; simp at this; omega, by have := hb'.2; simp; omega⟩) (fun b o v hb' hc => ?_) _ _ HPU.out
    have hne : b ≠ w.heap.size + 1 := by have := hb'.1; simp at this; omega
    have hc2 := (World.cell?_of_block (a := ⟨b, o, none⟩) (set4_blk w1 (.int .i64 u.kind) (.string u.name) (.int .i64 u.n) (.slice gu u.args.length cu) hne)).trans hc
    have hsz := set4_size w1 (w.heap.size + 1) (.int .i64 u.kind) (.string u.name) (.int .i64 u.n) (.slice gu u.args.length cu)
    exact (World.cell?_alloc_lt _ _ _ (Nat.lt_of_lt_of_eq hb'.2 hsz.symm)).trans hc2
end Go.Proofs.Ytgnbjhiafjpokaa

namespace Go.Proofs.Ytgnbjhiafjpokaa
open Go.RowKit Go.Shelf Go.Maps

def SeenPost (σ : Int → Tm) (ts : List Tm) (w : World) (e : Ending) (w' : World) : Prop :=
  ∃ (sv : Value) (ok : Bool), e = .returned (.tuple #[sv, .bool ok]) ∧ Below w.heap.size w w' ∧ ((ok = false ∧ sv = .slice none 0 0 ∧ ¬ ∀ t ∈ ts, (t.bnd σ).right = true) ∨
    (ok = true ∧ (∀ t ∈ ts, (t.bnd σ).right = true) ∧ ∃ g c, sv = .slice g ts.length c ∧ Tm.sliceIn w' w'.heap.size (numTms (ts.map (Tm.bnd σ))) (.slice g ts.length c)))
theorem sizes_all {m : Nat} : ∀ l : List Tm, (∀ t ∈ l, t.size ≤ m) → Tm.sizes l ≤ m * l.length
  | [], _ => by simp [Tm.sizes]
  | t :: r, h => by
    have h1 := sizes_all r fun x hx => h x (by simp [hx])
    have h2 := h t (by simp)
    simp only [Tm.sizes, List.length_cons, Nat.mul_add, Nat.mul_one]
    omega
theorem right_sz {t : Tm} (h : t.right = true) : t.size ≤ 3000 := by
  simp only [Tm.right, Bool.and_eq_true, decide_eq_true_eq] at h
  exact h.1.2

set_option maxRecDepth 100000 in
set_option maxHeartbeats 4000000 in
theorem seen_any (l : List Bd) (σ : Int → Tm) (hl : RightL l) (hσ : Sol l σ) (ts : List Tm) (hf : ∀ t ∈ ts, t.fair = true) (w : World) (svl sv : Value) (hsl : bdsIn w w.heap.size l svl) (hin : Tm.sliceIn w w.heap.size ts sv) (hmax : l.length ≤ 1000) (hlen : ts.length ≤ 300) :
    Calls Try.prog 35 #[svl, sv] w fun e w' => SeenPost σ ts w e w' := by
  obtain ⟨gl, cl, rfl, _, _, _, _⟩ := id hsl
  obtain ⟨g, cap, rfl, hcap, _, _⟩ := id hin
  have HSL := Lib.hid hsl
  have HIN := Lib.hid hin
  have HS := Lib.hid hσ
  have HL := Lib.hid hl
  have HF := Lib.hid hf
  obtain ⟨i0, hi, hz0, hz1, hz2⟩ := info_parts Try.infoTm
  clear hsl hin hσ hl hf
  go_enter Try.func35, Try.ntmps35
  go_wp2_with fail
  go_loopw [6, 7] (fun v i wz => ∃ k : Nat, k ≤ ts.length ∧ i = .int .i64 (k : Nat) ∧ Hid (∃ xs, wz.ownsRow w.heap.size 27 4 v k xs ∧ Tm.cellsP wz (okRow w.heap.size wz v) ((ts.take k).map (Tm.bnd σ)) xs) ∧ Hid (Below w.heap.size w wz) ∧ Hid (∀ t ∈ ts.take k, (t.bnd σ).right = true)) (fun _ i _ => ts.length - (intOf i).toNat)
  case atStart => exact ⟨0, Nat.zero_le _, rfl, ⟨[], World.ownsRow_nil _ _ _ _, by simp [Tm.cellsP]⟩, Below.refl _ _, by simp [Hid]⟩
  case round =>
    obtain ⟨wz, rfl⟩ : ∃ x, x = wr := ⟨_, rfl⟩
    obtain ⟨k, hk, rfl, hrow, hb, hrt⟩ := hrel
    have HROW := Lib.hid hrow.out
    have HB := Lib.hid hb.out
    have HRT := Lib.hid hrt.out
    have hbz := hb.out.size
    clear hrow hb hrt
    by_cases hlt : k < ts.length
    · obtain ⟨pb, po, st, hgx, hpB, g0, g1, g2, g3, hit⟩ := Tm.sliceIn_get (Tm.sliceIn_below HIN.out HB.out (Nat.le_refl _)) k hlt
      subst hgx
      have hpl : pb < wz.heap.size := by omega
      have hM : (ts.take (k + 1)).map (Tm.bnd σ) = (ts.take k).map (Tm.bnd σ) ++ [ts[k].bnd σ] := by rw [List.take_succ_eq_append_getElem hlt, List.map_append]; rfl
      have hN : ∀ t ∈ ts.take (k + 1), t ∈ ts.take k ∨ t = ts[k] := fun t ht => by rw [List.take_succ_eq_append_getElem hlt] at ht; exact (List.mem_append.1 ht).elim .inl (fun h => .inr (List.mem_singleton.1 h))
      have hmem := List.getElem_mem hlt
      have hcall := rapply_anyP l σ HL.out HS.out ts[k] (HF.out _ hmem) wz _ _ (bdsIn_mono (bdsIn_below HSL.out HB.out (Nat.le_refl _)) hbz) (Tm.inn_mono hit hbz) hmax
      obtain ⟨t, ht⟩ : ∃ t, ts[k] = t := ⟨_, rfl⟩
      rw [ht] at g0 g1 g2 hM hN hmem hcall hit
      obtain ⟨gt, ct, rfl⟩ := inn_sl hit
      have HC := Lib.hid hcall
      have HM := Lib.hid hM
      have HN := Lib.hid hN
      have HME := Lib.hid hmem
      obtain ⟨xs, hown, hcells⟩ := HROW.out
      have HOWN := Lib.hid hown
      have HCELLS := Lib.hid hcells
      clear hit hcall hM hN hmem ht hown hcells HROW
      go_wp2_with fail
      refine HC.out.mono ?_
      rintro e w1 ⟨X, E, gx, cx, rfl, hinx, hb1, hcase⟩
      have hs1 := hb1.size
      have hal : Below w1.heap.size w1 (w1.alloc (.cells #[.int .i64 X.kind, .string X.name, .int .i64 X.n, .slice gx X.args.length cx] 27)) := (Below.refl _ _).alloc (Nat.le_refl _) _
      have HX := Lib.hid (show Tm.innP (w1.alloc (.cells #[.int .i64 X.kind, .string X.name, .int .i64 X.n, .slice gx X.args.length cx] 27)) (fun b => wz.heap.size ≤ b ∧ b < (w1.alloc (.cells #[.int .i64 X.kind, .string X.name, .int .i64 X.n, .slice gx X.args.length cx] 27)).heap.size) X (.slice gx X.args.length cx) from
        Tm.innP_same (fun b hb' => ⟨hb'.1, Nat.lt_of_lt_of_le hb'.2 hal.size⟩) (fun b o v hb' hc => (hal.cell (p := ⟨b, o, none⟩) hb'.2).trans hc) _ _ hinx)
      have HB1 := Lib.hid (hb1.trans (hal.mono hs1))
      have HOWN1 := Lib.hid (ownsRow_below HOWN.out HB1.out)
      have hsx : wz.heap.size + 1 ≤ (w1.alloc (.cells #[.int .i64 X.kind, .string X.name, .int .i64 X.n, .slice gx X.args.length cx] 27)).heap.size := by simp; omega
      have HSX := Lib.hid hsx
      clear hinx hb1 hal HC g0 g1 g2 g3 hpl hsx
      rcases hcase with ⟨hr, rfl, rfl⟩ | ⟨hr, rfl, rfl⟩
      · have HR := Lib.hid hr
        clear hr
        go_wp2_with fail
        go_ret2
        exact ⟨_, false, rfl, HB.out.trans (HB1.out.mono hbz), .inl ⟨rfl, rfl, fun h => by have h1 := h t HME.out; rw [HR.out] at h1; cases h1⟩⟩
      · obtain ⟨X, hX⟩ : ∃ X, t.bnd σ = X := ⟨_, rfl⟩
        rw [hX] at hr HM HX HOWN1 HSX HB1 ⊢
        have HR := Lib.hid (show (t.bnd σ).right = true by rw [hX]; exact hr)
        clear hr hX
        go_wp2_with (at_builtin; refine wpList_append_sep _ rfl _ _ 25 rfl w.heap.size 27 i0 _ 4 56 Try.underlying25 hi hz0 hz1 hz2 rfl (by decide) u6 k xs rfl (World.ownsRow.alloc HOWN1.out _) ⟨w1.heap.size + 1, 0, none⟩ 1 1 [.int .i64 X.kind, .string X.name, .int .i64 X.n, .slice gx X.args.length cx] rfl (by decide) rfl (news4h _ (by simp)) one4 (by unfold maxLen; omega) (by omega) (by simp; omega) ?_; intro v' w3 hown3 hgrow hsep)
        go_roundw
        case rel => exact ⟨k + 1, by omega, by go_num, ⟨_, hown3, by rw [HM.out]; exact row_step HOWN.out HCELLS.out HB1.out (by omega) HX.out hgrow hsep⟩, ((HB.out.trans (HB1.out.mono hbz)).alloc (by have := HSX.out; omega) _).grown hgrow (by have := HSX.out; simp at this; simp; omega) (fun j e => (HOWN.out.lt j e).1), fun x hx => (HN.out x hx).elim (fun h => HRT.out x h) (fun h => h ▸ HR.out)⟩
        case measure => simp [intOf]; omega
    · obtain rfl : k = ts.length := by omega
      obtain ⟨xs, hown, hcells⟩ := HROW.out
      have hrt := HRT.out
      rw [List.take_length] at hcells hrt
      obtain ⟨gw, cw, rfl⟩ := owns_slice hown
      have hXl : (ts.map (Tm.bnd σ)).length = ts.length := by simp
      have hall : (ts.map (Tm.bnd σ)).all Tm.right = true := List.all_eq_true.2 fun x hx => by obtain ⟨t, ht, rfl⟩ := List.mem_map.1 hx; exact hrt t ht
      have hsz : Tm.sizes (ts.map (Tm.bnd σ)) ≤ 1000000 := Nat.le_trans (sizes_all (m := 3000) _ fun x hx => right_sz (List.all_eq_true.1 hall x hx)) (by rw [hXl]; omega)
      have hsp := Tm.sliceP_of_owns (ok' := fun b => b < wz.heap.size) (v := .slice gw ts.length cw) (l := ts.map (Tm.bnd σ)) (by rw [hXl]; exact hown) hcells (by omega) (fun b hb => hb.2.1) (fun b hb => (hown.lt b hb).2)
      have hnum := numbered_any _ hall wz _ (Tm.sliceIn_of_P (fun b hb => hb) hsp) hsz
      have hnl : (numTms (ts.map (Tm.bnd σ))).length = ts.length := by unfold numTms; rw [if_pos hall, Tm.rens_length, hXl]
      rw [hnl] at hnum
      have HNUM := Lib.hid hnum
      have HRR := Lib.hid hrt
      clear hown hcells HROW hsp hnum hnl hall hsz hXl hrt HRT
      go_wp2_with fail
      refine HNUM.out.mono ?_
      rintro e w5 ⟨⟨g5, c5, rfl, hsl5⟩, hb5⟩
      have HSL5 := Lib.hid hsl5
      have HB5 := Lib.hid (HB.out.trans (hb5.mono hbz))
      clear hsl5 hb5 HNUM
      go_wp2_with fail
      go_ret2
      exact ⟨_, true, rfl, HB5.out, .inr ⟨rfl, HRR.out, g5, c5, rfl, HSL5.out⟩⟩
end Go.Proofs.Ytgnbjhiafjpokaa
