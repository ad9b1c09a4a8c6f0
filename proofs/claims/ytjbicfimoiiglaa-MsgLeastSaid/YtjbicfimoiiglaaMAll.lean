/-
  The program's All: the least generalisation of many terms.
-/
import Derived.Test.YtjbicfimoiiglaaMOf
namespace Go.Proofs.Ytjbicfimoiiglaa
open Go.RowKit Go.Shelf Go.Maps

/-- The least generalisation of all, the first one with itself too. -/
def foldT (t : Tm) (l : List Tm) : Tm := l.foldl msgT t
theorem msg_size (a b : Tm) : (msgT a b).size ≤ a.size := (gen_size a b).1
theorem foldT_size : ∀ (l : List Tm) (t : Tm), (foldT t l).size ≤ t.size
  | [], _ => Nat.le_refl _
  | x :: r, t => Nat.le_trans (foldT_size r (msgT t x)) (msg_size t x)
theorem foldT_succ (t : Tm) (l : List Tm) (k : Nat) (h : k < l.length) : foldT t (l.take (k + 1)) = msgT (foldT t (l.take k)) l[k] := by
  unfold foldT
  rw [List.take_succ_eq_append_getElem h, List.foldl_append]
  rfl
def AllPost (w : World) (l : List Tm) (e : Ending) (w' : World) : Prop :=
  ∃ X E g c, e = .returned (.tuple #[.agg #[.int .i64 X.kind, .string X.name, .int .i64 X.n, .slice g X.args.length c], .int .i64 E]) ∧ Tm.inn w' w'.heap.size X (.slice g X.args.length c) ∧ Below w.heap.size w w' ∧
    (((∃ t ∈ l, t.right = false) ∧ X = kZ ∧ E = 1) ∨ (l = [] ∧ X = kZ ∧ E = 10) ∨ ((∀ t ∈ l, t.right = true) ∧ ∃ h : 0 < l.length, X = foldT l[0] l ∧ E = 0))
/-- The term so far, in a box of its own; none of it lies in the result's. -/
structure GB (w : World) (gb : Nat) (X : Tm) (sv : Value) (W : World) : Prop where
  box : TmBox W gb X sv
  far : Tm.innP W (fun q => q < W.heap.size ∧ q ≠ w.heap.size) X sv
theorem GB.next {w : World} {gb : Nat} {X : Tm} {sv : Value} {W W' : World} (h : GB w gb X sv W) (hb : Below W.heap.size W W') : GB w gb X sv W' :=
  ⟨h.box.next hb, Tm.innP_same (fun _q hq => ⟨Nat.lt_of_lt_of_le hq.1 hb.size, hq.2⟩) (fun q o _u hq hc => (World.cell?_of_block (a := ⟨q, o, none⟩) (hb.block q hq.1)).trans hc) X _ h.far⟩
theorem inn_kZ6 (w : World) : Tm.inn w w.heap.size kZ (.slice none 0 0) := Tm.inn_of_P (fun _ h => h) _ _ (innP_kZ6 w _)
set_option maxRecDepth 100000 in
set_option maxHeartbeats 4000000 in
theorem mall_any (l : List Tm) (w : World) (sv : Value) (hsl : Tm.sliceIn w w.heap.size l sv) (hmax : ∀ t ∈ l, t.size ≤ 1000000) (hlen : l.length ≤ 1000000) :
    Calls Try.prog 21 #[sv] w fun e w' => AllPost w l e w' := by
  obtain ⟨g, cap, rfl, hcap, _, _⟩ := id hsl
  have HSL := Lib.hid hsl
  have HMX := Lib.hid hmax
  clear hsl hmax
  go_enter Try.func21, Try.ntmps21
  go_wp2_with fail
  go_loopw [5, 11] (fun _ i wr => ∃ k : Nat, k ≤ l.length ∧ i = .int .i64 k ∧ Hid (∀ j (h : j < l.length), j < k → l[j].right = true) ∧ Hid (Below w.heap.size w wr) ∧ Hid (wr.heap[w.heap.size]? = some (Obj.cells #[.int .i64 0, .string ⟨#[]⟩, .int .i64 0, .slice none 0 0] 24 (0, 0)))) (fun _ i _ => l.length - (intOf i).toNat)
  case atStart => exact ⟨0, Nat.zero_le _, rfl, fun j _ h => by omega, (Below.refl _ _).alloc (Nat.le_refl _) _, newBlk _ _ _ rfl⟩
  case round =>
    obtain ⟨wz, rfl⟩ : ∃ x, x = wr := ⟨_, rfl⟩
    obtain ⟨k, hk, rfl, hp, hb, hr⟩ := hrel
    have HP := Lib.hid hp.out
    have HB := Lib.hid hb.out
    have HR := Lib.hid hr.out
    have hbs := hb.out.size
    have lr := (Array.getElem?_eq_some_iff.1 HR.out).1
    clear hp hb hr
    by_cases hlt : k < l.length
    · obtain ⟨p, po, sx, rfl, hpB, c0, c1, c2, c3, hin⟩ := Tm.sliceIn_get (Tm.sliceIn_below HSL.out HB.out (Nat.le_refl _)) k hlt
      obtain ⟨gx, cx, rfl⟩ := inn_sl6 hin
      obtain ⟨t, ht⟩ : ∃ t, l[k] = t := ⟨_, rfl⟩
      rw [ht] at c0 c1 c2 c3 hin
      have hbox := TmBox.new (Tm.inn_mono hin hbs)
      have hal := (Below.refl wz.heap.size wz).alloc (Nat.le_refl _) (Obj.cells #[.int .i64 t.kind, .string t.name, .int .i64 t.n, .slice gx t.args.length cx] 24 (0, 0))
      have hsz : t.size ≤ 1000000 := by rw [← ht]; exact HMX.out _ (List.getElem_mem hlt)
      have hri := tright_any t _ _ hbox.2 hsz
      obtain ⟨q, hq⟩ : ∃ q, t.right = q := ⟨_, rfl⟩
      rw [hq] at hri
      have HRI := Lib.hid hri
      have HAL := Lib.hid hal
      have HT := Lib.hid ht
      have HQ := Lib.hid hq
      have lp : p < wz.heap.size := by omega
      clear hbox hal hri ht hq hin hsz
      go_wp2_with fail
      refine HRI.out.mono ?_
      rintro e w1 ⟨rfl, hb1⟩
      have HB1 := Lib.hid (HB.out.trans ((HAL.out.trans (hb1.mono HAL.out.size)).mono hbs))
      have HR1 := Lib.hid ((hb1.block _ (by simp; omega)).trans ((HAL.out.block _ lr).trans HR.out))
      clear hb1 HRI
      cases q with
      | true =>
        go_wp2_with fail
        go_roundw
        case rel =>
          refine ⟨k + 1, by omega, by go_num, fun j hj hjk => ?_, HB1.out, HR1.out⟩
          by_cases hjj : j < k
          · exact HP.out j hj hjj
          · obtain rfl : j = k := by omega
            rw [HT.out]; exact HQ.out
        case measure => simp [intOf]; omega
      | false =>
        obtain ⟨⟨r0, r1, r2, r3⟩, f0, f1, f2, f3⟩ := row4 HR1.out
        have lr1 := (Array.getElem?_eq_some_iff.1 HR1.out).1
        go_wp2_with fail
        generalize hwf : World.setCell _ _ _ = wf
        obtain ⟨hbf, hrf, _, _⟩ := set4_fin HB1.out (Nat.le_refl _) HR1.out hwf
        obtain ⟨⟨x0, x1, x2, x3⟩, _⟩ := row4 hrf
        refine bodyPost_ret (v := .tuple #[.agg #[.int .i64 0, .string ⟨#[]⟩, .int .i64 0, .slice none 0 0], .int .i64 1]) (by simp [results, Try.results21, go_sem, x0, x1, x2, x3]) rfl ?_
        exact ⟨kZ, 1, none, 0, rfl, inn_kZ6 _, hbf, .inl ⟨⟨l[k], List.getElem_mem hlt, by rw [HT.out]; exact HQ.out⟩, rfl, rfl⟩⟩
    · obtain rfl : k = l.length := by omega
      have hall : ∀ t ∈ l, t.right = true := fun t ht => by
        obtain ⟨j, hj, rfl⟩ := List.getElem_of_mem ht
        exact HP.out j hj hj
      have HALL := Lib.hid hall
      clear hall hlt hk HP
      by_cases h0 : l.length = 0
      · have hnil := List.eq_nil_of_length_eq_zero h0
        have h0b : ((l.length : Int) == 0) = true := by rw [beq_iff_eq]; omega
        have HNIL := Lib.hid hnil
        obtain ⟨⟨r0, r1, r2, r3⟩, f0, f1, f2, f3⟩ := row4 HR.out
        obtain ⟨m, hm⟩ : ∃ m, l.length = m := ⟨_, rfl⟩
        clear hnil
        go_wp2_with fail
        generalize hwf : World.setCell _ _ _ = wf
        obtain ⟨hbf, hrf, _, _⟩ := set4_fin HB.out (Nat.le_refl _) HR.out hwf
        obtain ⟨⟨x0, x1, x2, x3⟩, _⟩ := row4 hrf
        refine bodyPost_ret (v := .tuple #[.agg #[.int .i64 0, .string ⟨#[]⟩, .int .i64 0, .slice none 0 0], .int .i64 10]) (by simp [results, Try.results21, go_sem, x0, x1, x2, x3]) rfl ?_
        exact ⟨kZ, 10, none, 0, rfl, inn_kZ6 _, hbf, .inr (.inl ⟨HNIL.out, rfl, rfl⟩)⟩
      · have h0b : ((l.length : Int) == 0) = false := by rw [beq_eq_false_iff_ne]; omega
        have hpos : 0 < l.length := by omega
        obtain ⟨p, po, sx, rfl, hpB, c0, c1, c2, c3, hin⟩ := Tm.sliceIn_get (Tm.sliceIn_below HSL.out HB.out (Nat.le_refl _)) 0 hpos
        obtain ⟨gx, cx, rfl⟩ := inn_sl6 hin
        obtain ⟨t0, ht0⟩ : ∃ t, l[0] = t := ⟨_, rfl⟩
        rw [ht0] at c0 c1 c2 c3 hin
        simp only [Nat.zero_mul, Nat.add_zero] at c0 c1 c2 c3
        have hbox := GB.mk (w := w) (TmBox.new (Tm.inn_mono hin hbs)) (Tm.innP_same (fun q hq => ⟨by simp; omega, by omega⟩) (fun q o' u hq hc => (World.cell?_alloc_lt wz _ _ (by show q < wz.heap.size; omega)).trans hc) _ _ (innP_of_inn _ _ hin))
        have hal := (Below.refl wz.heap.size wz).alloc (Nat.le_refl _) (Obj.cells #[.int .i64 t0.kind, .string t0.name, .int .i64 t0.n, .slice gx t0.args.length cx] 24 (0, 0))
        have HT0 := Lib.hid ht0
        have HBOX := Lib.hid hbox
        have HAL := Lib.hid hal
        have HSZ := Lib.hid (show t0.size ≤ 1000000 by rw [← ht0]; exact HMX.out _ (List.getElem_mem hpos))
        have lp : p < wz.heap.size := by omega
        clear hin hbox hal ht0 h0
        go_wp2_with fail
        go_loopw [8, 29] (fun _ i wr => ∃ k : Nat, k ≤ l.length ∧ i = .int .i64 k ∧ Hid (Below wz.heap.size wz wr) ∧ Hid (∃ g1 c1, GB w wz.heap.size (foldT t0 (l.take k)) (.slice g1 (foldT t0 (l.take k)).args.length c1) wr)) (fun _ i _ => l.length - (intOf i).toNat)
        case atStart => exact ⟨0, Nat.zero_le _, rfl, HAL.out, gx, cx, HBOX.out⟩
        case round =>
          obtain ⟨wy, rfl⟩ : ∃ x, x = wr := ⟨_, rfl⟩
          obtain ⟨k, hk, rfl, hb, hg⟩ := hrel
          have HBY := Lib.hid (HB.out.trans (hb.out.mono hbs))
          have HBZ := Lib.hid hb.out
          obtain ⟨g1, c1, hg1⟩ := hg.out
          have hys := hb.out.size
          obtain ⟨X, hX⟩ : ∃ X, foldT t0 (l.take k) = X := ⟨_, rfl⟩
          have hXs := foldT_size (l.take k) t0
          rw [hX] at hg1 hXs
          have HX := Lib.hid hX
          obtain ⟨x0, x1, x2, x3⟩ := hg1.box.cells
          have lg := hg1.box.lt
          have HG := Lib.hid hg1
          clear hb hg hX hg1
          by_cases hlt : k < l.length
          · obtain ⟨p', po', sy, hga, hpB', d0, d1, d2, d3, hin⟩ := Tm.sliceIn_get (Tm.sliceIn_below HSL.out HBY.out (Nat.le_refl _)) k hlt
            injection hga with hga
            injection hga with e1 e2
            subst e1 e2
            obtain ⟨gy, cy, rfl⟩ := inn_sl6 hin
            obtain ⟨t, ht⟩ : ∃ t, l[k] = t := ⟨_, rfl⟩
            rw [ht] at d0 d1 d2 d3 hin
            have hal := (Below.refl wy.heap.size wy).alloc (Nat.le_refl _) (Obj.cells #[.int .i64 t.kind, .string t.name, .int .i64 t.n, .slice gy t.args.length cy] 24 (0, 0))
            have hle := least_any X t _ _ _ (HG.out.next hal).box.2 (Tm.inn_mono (Tm.inn_below hin hal (by omega)) (by have := HBY.out.size; simp; omega)) (by have := HSZ.out; omega)
            have HLE := Lib.hid hle
            have HAL2 := Lib.hid hal
            have HT := Lib.hid ht
            have hgf := (row4 HG.out.box.1).2
            have lp' : p < wy.heap.size := by omega
            clear hle hal ht hin
            go_wp2_with fail
            refine HLE.out.mono ?_
            rintro e w2 ⟨g2, c2, rfl, hP2, hb2⟩
            have hb12 := HAL2.out.trans (hb2.mono HAL2.out.size)
            have hG2 := HG.out.next hb12
            obtain ⟨⟨_, _, _, _⟩, f0, f1, f2, f3⟩ := row4 hG2.box.1
            have lg2 := hG2.box.lt
            obtain ⟨Y, hY⟩ : ∃ Y, msgT X t = Y := ⟨_, rfl⟩
            rw [hY] at hP2 ⊢
            have HB12 := Lib.hid hb12
            have HG2 := Lib.hid hG2
            have HP2 := Lib.hid hP2
            have HY := Lib.hid hY
            clear hb12 hG2 hP2 hY hb2 HLE hgf x0 x1 x2 x3 d0 d1 d2 d3
            go_wp2_with fail
            go_roundw
            case rel =>
              generalize hwf : World.setCell _ _ _ = wf
              obtain ⟨hbf, hrf, hsame, hsz⟩ := set4_fin (HBZ.out.trans (HB12.out.mono hys)) (Nat.le_refl _) HG2.out.box.1 hwf
              refine ⟨k + 1, by omega, by go_num, hbf, ?_⟩
              rw [foldT_succ t0 l k hlt, HT.out, HX.out, HY.out]
              have hPf : Tm.innP wf (fun q => wy.heap.size + 1 ≤ q ∧ q < wf.heap.size) Y (.slice g2 Y.args.length c2) := (Tm.innP_same (fun q hq => ⟨by have := hq.1; simp at this; omega, by have := hq.2; omega⟩) (fun q o' u hq hc => (World.cell?_of_block (a := ⟨q, o', none⟩) (hsame q (by have := hq.1; simp at this; omega))).trans hc) Y _ HP2.out)
              exact ⟨g2, c2, ⟨hrf, Tm.inn_of_P (fun q hq => hq.2) _ _ hPf⟩, Tm.innP_same (fun q hq => ⟨hq.2, by have := hq.1; omega⟩) (fun _ _ _ _ hc => hc) _ _ hPf⟩
            case measure => simp [intOf]; omega
          · obtain rfl : k = l.length := by omega
            rw [List.take_length] at HX
            have hR := (HBZ.out.block _ lr).trans HR.out
            obtain ⟨⟨r0, r1, r2, r3⟩, f0, f1, f2, f3⟩ := row4 hR
            have lry := (Array.getElem?_eq_some_iff.1 hR).1
            have HRY := Lib.hid hR
            clear hR hlt hk
            go_wp2_with fail
            generalize hwf : World.setCell _ _ _ = wf
            obtain ⟨hbf, hrf, hsame, hsz⟩ := set4_fin HBY.out (Nat.le_refl _) HRY.out hwf
            obtain ⟨⟨y0, y1, y2, y3⟩, _⟩ := row4 hrf
            refine bodyPost_ret (v := .tuple #[.agg #[.int .i64 X.kind, .string X.name, .int .i64 X.n, .slice g1 X.args.length c1], .int .i64 0]) (by simp [results, Try.results21, go_sem, y0, y1, y2, y3]) rfl ?_
            refine ⟨X, 0, g1, c1, rfl, ?_, hbf, .inr (.inr ⟨HALL.out, hpos, by rw [HT0.out]; exact HX.out.symm, rfl⟩)⟩
            exact Tm.inn_of_P (ok := fun q => q < wf.heap.size) (fun q hq => hq) _ _ (Tm.innP_same (fun q hq => by have := hq.1; omega) (fun q o' u hq hc => (World.cell?_of_block (a := ⟨q, o', none⟩) (hsame q hq.2)).trans hc) X _ HG.out.far)
end Go.Proofs.Ytjbicfimoiiglaa
