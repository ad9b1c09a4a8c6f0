/-
  The program's reader: terms with commas between.
  slices.Backward over a row of terms, by what lies in its cells.
-/
import Derived.Test.YtkjnjahmlobjiaaGreatDoorPrE
import Derived.Test.YtkjnjahmlobjiaaGreatDoorG01
namespace Go.Proofs.YtkjnjahmlobjiaaGreatDoor
open Go.RowKit

/-- The boxes change: what is written lies in one, what is new may be one. -/
theorem PSt.mvB {P X B B' : Nat → Prop} {W : World} {rb z : Nat} {nv : Value} {ts : Toks} {ns : Names} {nv' : Value} {wx wy : World} (h : PSt X B W rb z nv ts ns nv' wx) (hf : FrP P wx wy) (hP : ∀ b, P b → B b) (hB : ∀ b, B' b → B b ∨ (wx.heap.size ≤ b ∧ b < wy.heap.size)) : PSt X B' W rb z nv ts ns nv' wy := by
  have hlt := h.lt
  refine ⟨h.rd.mv hf (fun b hp => ?_) (fun b hx => ?_) (.inl (.inl h.xr)) (fun b hx => .inr hx), h.nvn, h.fr.trans hf (fun _ _ h => h) (fun b hb hp => ?_), fun b hx => ?_, h.xr, h.xn, h.old⟩
  · obtain ⟨h1, h2, h3⟩ := h.bx b (hP b hp)
    exact ⟨.inl (.inr (hP b hp)), by omega, h3⟩
  · rcases hx with (hx | hx) | hx
    · exact .inl (.inl (.inl hx))
    · rcases hB b hx with h1 | h1
      · exact .inl (.inl (.inr h1))
      · exact .inr h1
    · exact .inl (.inr hx)
  · have := (h.bx b (hP b hp)).1
    omega
  · rcases hB b hx with h1 | h1
    · obtain ⟨h2, h3, h4⟩ := h.bx b h1
      exact ⟨h2, Nat.lt_of_lt_of_le h3 hf.size, h4⟩
    · have h5 := h.fr.size
      exact ⟨by omega, h1.2, fun e => by have := h.rd.old _ ((h.rd.nvx _ e).1); omega⟩
theorem Yc_mvB {X B B' : Nat → Prop} {nv : Value} {wx wy : World} (hB : ∀ b, B' b → B b ∨ (wx.heap.size ≤ b ∧ b < wy.heap.size)) : ∀ b, Yc X B' nv b → Yc X B nv b ∨ wx.heap.size ≤ b := fun b hx => by
  rcases hx with (hx | hx) | hx
  · exact .inl (.inl (.inl hx))
  · rcases hB b hx with h1 | h1
    · exact .inl (.inl (.inr h1))
    · exact .inr h1.1
  · exact .inl (.inr hx)
def accE (acc : List Tm) : RRes (List Tm) → RRes (List Tm)
  | .error e => .error e
  | .ok (l, r, n) => .ok (acc ++ l, r, n)
theorem accE_nil (r : RRes (List Tm)) : accE [] r = r := by
  cases r with
  | error e => rfl
  | ok q => obtain ⟨l, r, n⟩ := q; rfl
theorem rdRow_step (S : List UInt8) (g deep : Nat) (acc : List Tm) (ts : Toks) (ns : Names) : accE acc (rdRow S (g + 1) deep ts ns) = (match rdTerm S g 999 (deep + 1) ts ns with
    | .error e => .error e
    | .ok (t, r, n) => if seeT 44 r = true then accE (acc ++ [t]) (rdRow S g deep r.tail n) else .ok (acc ++ [t], r, n)) := by
  rw [rdRow]
  cases rdTerm S g 999 (deep + 1) ts ns with
  | error e => rfl
  | ok q =>
    obtain ⟨t, r, n⟩ := q
    dsimp only
    rcases Bool.eq_false_or_eq_true (seeT 44 r) with h | h
    · simp only [h, ↓reduceIte]
      cases rdRow S g deep r.tail n with
      | error e => rfl
      | ok q => obtain ⟨l, r2, n2⟩ := q; simp [accE]
    · simp only [h, Bool.false_eq_true, ↓reduceIte]
      simp [accE]
/-- The row that is made. -/
structure RowQ (X : Nat → Prop) (W : World) (nv' v : Value) (acc : List Tm) (wx : World) : Prop where
  own : ∃ xs, wx.ownsRow W.heap.size 34 4 v acc.length xs ∧ Tm.cellsP wx (okN (Yc X (fun b => v.ownBlock = some b) nv') wx) acc xs
theorem RowQ.call {X : Nat → Prop} {W : World} {rb z : Nat} {nv : Value} {ts : Toks} {ns : Names} {nv' n2 v : Value} {acc : List Tm} {wx wy : World} (h : RowQ X W nv' v acc wx) (hs : PSt X (fun b => v.ownBlock = some b) W rb z nv ts ns nv' wx) (hn : NvN wx nv' n2) (hf : FrP (wrt rb nv') wx wy) : RowQ X W n2 v acc wy := by
  obtain ⟨xs, ho, hc⟩ := h.own
  refine ⟨xs, ownsRow_mv ho hf (fun b hb hw => ?_), Tm.cellsP_same (okN_mv hf (Yc_call hn)) (cell_mv hf (wrt_X hs.xr)) _ _ hc⟩
  obtain ⟨h1, h2, h3⟩ := hs.bx b hb
  have := hs.lt
  rcases hw with hw | hw
  · omega
  · exact h3 hw
theorem RowQ.next {X : Nat → Prop} {W : World} {nv' v : Value} {acc : List Tm} {wx wy : World} (h : RowQ X W nv' v acc wx) (hb : Below wx.heap.size wx wy) : RowQ X W nv' v acc wy := by
  obtain ⟨xs, ho, hc⟩ := h.own
  have hf := FrP.of_below hb
  exact ⟨xs, ownsRow_mv ho hf (fun _ _ h => h), Tm.cellsP_same (okN_mv hf (fun _ hx => .inl hx)) (cell_mv hf (X := Yc X (fun b => v.ownBlock = some b) nv') (fun _ h => h.elim)) _ _ hc⟩
/-- One more term in the row. -/
theorem RowQ.app {X : Nat → Prop} {W : World} {rb z : Nat} {nv : Value} {ts : Toks} {ns : Names} {nv' v v5 : Value} {acc : List Tm} {xs : List Value} {U W5 : World} {t : Tm} {k : Int} {nm : ByteArray} {n : Int} {g : Option Addr} {m c : Nat} (hc : Tm.cellsP U (okN (Yc X (fun b => v.ownBlock = some b) nv') U) acc xs) (hs : PSt X (fun b => v.ownBlock = some b) W rb z nv ts ns nv' U) (ht : TV (Yc X (fun b => v.ownBlock = some b) nv') U (some t) k nm n (.slice g m c))
    (hg : U.grownBy W5 v.ownBlock) (ho : W5.ownsRow W.heap.size 34 4 v5 (acc.length + 1) (xs ++ [.int .i64 k, .string nm, .int .i64 n, .slice g m c])) (h5 : ∀ b, v5.ownBlock = some b → v.ownBlock = some b ∨ U.heap.size ≤ b) :
    RowQ X W nv' v5 (acc ++ [t]) W5 ∧ PSt X (fun b => v5.ownBlock = some b) W rb z nv ts ns nv' W5 := by
  have hf : FrP (fun b => v.ownBlock = some b) U W5 := (FrP.of_grown hg).mono (fun b _ e => e.symm)
  have hB : ∀ b, v5.ownBlock = some b → v.ownBlock = some b ∨ (U.heap.size ≤ b ∧ b < W5.heap.size) := fun b e => (h5 b e).imp id (fun h => ⟨h, (ho.lt b e).2⟩)
  have hP : ∀ b, v.ownBlock = some b → Yc X (fun b => v.ownBlock = some b) nv' b := fun b e => .inl (.inr e)
  refine ⟨⟨_, by simpa using ho, ?_⟩, hs.mvB hf (fun _ h => h) hB⟩
  obtain ⟨e1, e2, e3, e4⟩ := ht.2.2.2 t rfl
  subst e1 e2 e3
  exact Tm.cellsP_snoc (Tm.innP_same (okN_mv hf (Yc_mvB hB)) (cell_mv hf hP) _ _ e4) _ _ (Tm.cellsP_same (okN_mv hf (Yc_mvB hB)) (cell_mv hf hP) _ _ hc)
theorem RowQ.fin {X : Nat → Prop} {W : World} {rb z : Nat} {nv : Value} {ts : Toks} {ns : Names} {nv' v : Value} {acc : List Tm} {wx : World} {S : List UInt8} (h : RowQ X W nv' v acc wx) (hs : PSt X (fun b => v.ownBlock = some b) W rb z nv ts ns nv' wx) (hn : 0 < acc.length) (hl : acc.length ≤ 1000001) : PTermsPost X W rb z nv S (.ok (acc, ts, ns)) (.returned (.tuple #[v, .int .i64 (0 : Nat)])) wx := by
  obtain ⟨xs, ho, hc⟩ := h.own
  obtain ⟨g, cap, hv⟩ := own_pos ho hn
  have hok : ∀ b, v.ownBlock = some b → okN (XN X nv') wx b := fun b e => by
    obtain ⟨h1, h2, h3⟩ := hs.bx b e
    refine ⟨fun hx => ?_, h2⟩
    rcases hx with hx | hx
    · have := hs.old b hx
      omega
    · exact h3 hx
  have hsl := Tm.sliceP_of_owns (ok' := okN (XN X nv') wx) ho hc (by omega) (fun b hb => ⟨fun hx => hb.1 (by
    rcases hx with hx | hx
    · exact .inl (.inl hx)
    · exact .inr hx), hb.2⟩) hok
  subst hv
  exact ⟨_, _, _, 0, nv', rfl, hs.fin ⟨rfl, rfl, rfl⟩, rfl, hl, hsl⟩
set_option maxRecDepth 100000 in
set_option maxHeartbeats 8000000 in
theorem terms_p (f : Nat) (IH : ∀ f', f' < f → PTerm f') : PTerms f := by
  intro X W rb z S ts ns nv deep hin hrd hdeep
  obtain ⟨R, hR⟩ : ∃ R, rdRow S f deep ts ns = R := ⟨_, rfl⟩
  rw [hR]
  have hlt := hrd.lt
  have HIH := Lib.hid IH
  have HR := Lib.hid hR
  have HIN := Lib.hid hin
  have HRD := Lib.hid hrd
  have hts := hin.len
  clear IH hR hin hrd
  go_enter Tryz.func124, Tryz.ntmps124
  go_wp2_with fail
  go_loopg [6] f (fun gf s6 wx => ∃ (acc : List Tm) (ts : Toks) (ns : Names) (nv' v : Value), s6 = v ∧ gf ≤ f ∧ acc.length + ts.length ≤ 1000000 ∧ Hid (accE acc (rdRow S gf deep ts ns) = R) ∧ Hid (PIn S z gf 4 ts ns) ∧ Hid (PSt X (fun b => v.ownBlock = some b) W rb z nv ts ns nv' wx) ∧ Hid (RowQ X W nv' v acc wx))
  case atStart =>
    refine ⟨[], ts, ns, nv, .slice none 0 0, rfl, Nat.le_refl _, by simpa using hts, Lib.hid (by rw [accE_nil]; exact HR.out), HIN, Lib.hid ((PSt.start HRD.out).mvB (FrP.refl (fun _ => False) _) (fun _ h => h) (fun b hb => by simp [Value.ownBlock] at hb)), Lib.hid ⟨[], World.ownsRow_nil _ _ _ _, rfl⟩⟩
  case round =>
    clear HIN HRD HR
    obtain ⟨acc, ts, ns, nv', v, hs6, hgf, hal, hR, hin, hst, hrow⟩ := hrel
    obtain rfl : v = _ := hs6.symm
    have HRR := Lib.hid hR.out
    have HIN := Lib.hid hin.out
    have HST := Lib.hid hst.out
    have HROW := Lib.hid hrow.out
    have hroom := hin.out.room
    obtain ⟨gk, rfl⟩ : ∃ q, gk = q + 1 := ⟨gk - 1, by omega⟩
    have HTM : Hid (Calls Tryz.prog 61 #[.pointer (some ⟨rb, 0, none⟩), .int .i64 999, .int .i64 ((deep : Int) + 1)] wr fun e W' => PTermPost (Yc X (fun b => v.ownBlock = some b) nv') wr rb z nv' S (rdTerm S gk 999 (deep + 1) ts ns) e W') :=
      Lib.hid (HIH.out gk (by omega) _ wr rb z S ts ns nv' 999 (deep + 1) (HIN.out.less (by omega)) HST.out.rd (by omega) (by omega))
    clear hR hin hst hrow hroom
    go_upto_region 3 with (go_at_call 61; (with_reducible refine (HTM.out).mono ?_); rintro e U ⟨k, nm, n, g, m, c, cd, n1, rfl, hend, htv⟩; obtain ⟨ts1, ns1, hrd1, htold⟩ := hend.rd; have HROW1 := Lib.hid (HROW.out.call HST.out hend.nvn hend.fr); have HST1 := Lib.hid (HST.out.call hrd1 hend.nvn hend.fr); have HTV1 := Lib.hid htv.back; have HTOLD : Hid (Told S (rdTerm S gk 999 (deep + 1) ts ns) cd ts1 ns1) := Lib.hid htold; clear hend htv hrd1 htold)
    clear HTM HST HROW
    have hb0 : Below U.heap.size U (U.alloc (.cells #[.int .i64 k, .string nm, .int .i64 n, .slice g m c] 34)) := (Below.refl _ _).alloc (Nat.le_refl _) _
    have HB6 := Lib.hid (newBlk U (.cells #[.int .i64 k, .string nm, .int .i64 n, .slice g m c] 34) U.heap.size rfl)
    replace HST1 := Lib.hid (HST1.out.next hb0)
    replace HTV1 := Lib.hid (HTV1.out.mv (FrP.of_below hb0) (fun _ h => h.elim) (fun _ hx => .inl hx))
    replace HROW1 := Lib.hid (HROW1.out.next hb0)
    obtain ⟨tb, htb⟩ : ∃ tb, U.heap.size = tb := ⟨_, rfl⟩
    obtain ⟨U1, hU1⟩ : ∃ U1, U.alloc (.cells #[.int .i64 k, .string nm, .int .i64 n, .slice g m c] 34) = U1 := ⟨_, rfl⟩
    rw [hU1] at HB6 HST1 HTV1 HROW1 ⊢
    rw [htb] at HB6 ⊢
    clear hb0 hU1 htb
    cases hr : rdTerm S gk 999 (deep + 1) ts ns with
    | error e =>
      obtain ⟨c9, pl⟩ := e
      rw [hr] at HTOLD
      obtain ⟨hc1, hc2, hc3⟩ := HTOLD.out
      have hRe : R = .error (c9, pl) := by
        rw [← HRR.out, rdRow_step]
        simp only [hr]
      have hcd : ((cd : Int) == 0) = false := by rw [beq_eq_false_iff_ne]; omega
      have hcd2 : ((cd : Int) != 0) = true := by simp [bne, hcd]
      clear hc1 hc2 hc3 hr
      subst hRe
      go_wp2_with fail
      refine bodyPost_ret (v := .tuple #[.slice none 0 0, .int .i64 (cd : Nat)]) (by simp [results, Tryz.results124, go_sem]) rfl ?_
      exact ⟨none, 0, 0, cd, n1, rfl, HST1.out.fin HTOLD.out, rfl, rfl, rfl⟩
    | ok q =>
      obtain ⟨t, ts9, n9⟩ := q
      rw [hr] at HTOLD HTV1
      obtain ⟨hc1, hc2, hc3⟩ := HTOLD.out
      subst hc1 hc2 hc3
      have HIN2 := Lib.hid (HIN.out.term (f' := gk) (k' := 4) hr (by omega))
      have hlen2 : ts1.length + 1 ≤ ts.length := ((rd_went S gk).2.1 _ _ _ _ _ _ _ hr).len
      have HRr := Lib.hid hr
      clear hr
      obtain ⟨xs, ho, hc⟩ := HROW1.out.own
      have HOW := Lib.hid ho
      have HCE := Lib.hid hc
      clear ho hc HROW1
      obtain ⟨i0, hi, hz0, hz1, hz2⟩ := info_parts Tryz.infoTmR
      obtain ⟨⟨b0, b1, b2, b3⟩, bf0, bf1, bf2, bf3⟩ := row4 HB6.out
      have htb1 : tb < U1.heap.size := (Array.getElem?_eq_some_iff.1 HB6.out).1
      have hWU : W.heap.size ≤ U1.heap.size := HST1.out.fr.size
      go_wp2_with (at_builtin; refine wpList_append_any rfl _ _ 32 rfl W.heap.size 34 i0 _ 4 56 Tryz.underlying32 hi hz0 hz1 hz2 rfl (by decide) v acc.length xs rfl (HOW.out.alloc _) (some ⟨U1.heap.size, 0, none⟩) 1 1 [.int .i64 k, .string nm, .int .i64 n, .slice g m c] rfl rfl (.inr ⟨_, rfl, news4r U1 _ _ _ _ _ _ rfl⟩) (by intro u hu; simp at hu; rcases hu with rfl | rfl | rfl | rfl <;> rfl) (by unfold maxLen; omega) (by omega) (by simp; omega) ?_)
      intro v5 W5 ho5 hg5 hs5
      have hgg := grown_trans (grown_allc U1 (.cells #[.int .i64 k, .string nm, .int .i64 n, .slice g m c] 34) v.ownBlock) hg5 (fun _ e => .inl e)
      have hq := RowQ.app HCE.out HST1.out HTV1.out hgg ho5 (fun b e => by
        rcases hs5 with h1 | h1
        · exact .inl (h1.symm.trans e)
        · rw [h1] at e
          injection e with e
          exact .inr (by omega))
      have HROW5 := Lib.hid hq.1
      have HST5 := Lib.hid hq.2
      clear ho5 hg5 hs5 hgg hq b0 b1 b2 b3 bf0 bf1 bf2 bf3 htb1 hi hz0 hz1 hz2 HOW HCE HTV1 HST1
      have HPM := Lib.hid (passMark_any W5 rb z ts1 ns1 n1 44 S HIN2.out.good HIN2.out.zl HST5.out.rd HIN2.out.len)
      cases hs : seeT 44 ts1 with
      | true =>
        have HPM2 : Hid (Calls Tryz.prog 111 #[.pointer (some ⟨rb, 0, none⟩), .string ⟨#[44]⟩] W5 fun e W' => e = .returned (.bool true) ∧ PRd (Yc X (fun b => v5.ownBlock = some b) n1) W' rb z ts1.tail ns1 n1 ∧ FrP (fun b => b = rb) W5 W') := Lib.hid (HPM.out.mono fun e W' ⟨h1, h2, h3⟩ => ⟨by rw [h1, hs], by rw [if_pos hs] at h2; exact h2, h3⟩)
        have HS := Lib.hid hs
        have hnn : ∀ (x : Bool) (w : World), (Op.unary .not (.bool x)).run Tryz.prog w = .ok (.bool (!x)) w := fun _ _ => rfl
        clear HPM hs
        go_wp2_with (go_at_call 111; (with_reducible refine (HPM2.out).mono ?_); rintro e W6 ⟨rfl, hrd6, hfr6⟩; have HROW6 := Lib.hid (HROW5.out.call HST5.out (NvN.refl _ _) (wrt0 hfr6)); have HST6 := Lib.hid (HST5.out.call0 hrd6 hfr6); clear hrd6 hfr6)
        go_roundg gk
        case rel =>
          refine ⟨acc ++ [t], ts1.tail, ns1, n1, v5, rfl, by omega, by simp; omega, Lib.hid ?_, Lib.hid (HIN2.out.see HS.out (by omega)), HST6, HROW6⟩
          rw [← HRR.out, rdRow_step]
          simp only [HRr.out, HS.out, ↓reduceIte]
        case measure => exact Nat.lt_succ_self _
      | false =>
        have HPM2 : Hid (Calls Tryz.prog 111 #[.pointer (some ⟨rb, 0, none⟩), .string ⟨#[44]⟩] W5 fun e W' => e = .returned (.bool false) ∧ PRd (Yc X (fun b => v5.ownBlock = some b) n1) W' rb z ts1 ns1 n1 ∧ FrP (fun b => b = rb) W5 W') := Lib.hid (HPM.out.mono fun e W' ⟨h1, h2, h3⟩ => ⟨by rw [h1, hs], by rw [if_neg (by rw [hs]; simp)] at h2; exact h2, h3⟩)
        have hRe : R = .ok (acc ++ [t], ts1, ns1) := by
          rw [← HRR.out, rdRow_step]
          simp only [HRr.out, hs, Bool.false_eq_true, ↓reduceIte]
        clear HPM hs
        subst hRe
        go_wp2_with (go_at_call 111; (with_reducible refine (HPM2.out).mono ?_); rintro e W6 ⟨rfl, hrd6, hfr6⟩; have HROW6 := Lib.hid (HROW5.out.call HST5.out (NvN.refl _ _) (wrt0 hfr6)); have HST6 := Lib.hid (HST5.out.call0 hrd6 hfr6); clear hrd6 hfr6)
        refine bodyPost_ret (v := .tuple #[v5, .int .i64 0]) (by simp [results, Tryz.results124, go_sem]) rfl ?_
        exact HROW6.out.fin HST6.out (by simp) (by simp; omega)
end Go.Proofs.YtkjnjahmlobjiaaGreatDoor

namespace Go.Proofs.YtkjnjahmlobjiaaGreatDoor
open Go.RowKit Go.Shelf

attribute [local go_sem] Oper.semAt_some

/-- What the loop's body gets: a place, and what lies there. -/
def qenc (raw : Nat → Raw) (i : Nat) : Array Value := #[.int .i64 (i : Nat), .agg #[.int .i64 (raw i).k, .string (raw i).nm, .int .i64 (raw i).n, .slice (raw i).g (raw i).m (raw i).c]]
def KQ (E : Nat → Prop) (W W' : World) : Prop := ∀ k, E k → W'.heap[k]? = W.heap[k]?
theorem KQ.trans {E : Nat → Prop} {A B C : World} (h : KQ E A B) (k : KQ E B C) : KQ E A C := fun i hi => (k i hi).trans (h i hi)
def downTo (m : Nat) : List Nat := (List.range m).reverse
theorem down_len (m : Nat) : (downTo m).length = m := by simp [downTo]
theorem down_get (m i : Nat) (h : i < m) : (downTo m)[m - 1 - i]? = some i := by
  unfold downTo
  rw [List.getElem?_reverse (by simp; omega)]
  simp only [List.length_range]
  rw [show m - 1 - (m - 1 - i) = i by omega]
  simp [h]
theorem down_take (m i : Nat) (h : i < m) : (downTo m).take (m - i) = (downTo m).take (m - 1 - i) ++ [i] := by
  obtain ⟨h2, h3⟩ := List.getElem?_eq_some_iff.1 (down_get m i h)
  rw [show m - i = (m - 1 - i) + 1 by omega, List.take_succ_eq_append_getElem h2, h3]
/-- A row's cells, by its places. -/
def RawAt (w : World) (E : Nat → Prop) (g : Option Addr) (m : Nat) (raw : Nat → Raw) : Prop := ∀ i, i < m → ∃ b off, g = some ⟨b, off, none⟩ ∧ E b ∧ w.cell? ⟨b, off + i * 4, none⟩ = some (.int .i64 (raw i).k) ∧ w.cell? ⟨b, off + i * 4 + 1, none⟩ = some (.string (raw i).nm) ∧ w.cell? ⟨b, off + i * 4 + 2, none⟩ = some (.int .i64 (raw i).n) ∧ w.cell? ⟨b, off + i * 4 + 3, none⟩ = some (.slice (raw i).g (raw i).m (raw i).c)
set_option maxRecDepth 100000 in
set_option maxHeartbeats 2000000 in
theorem back_q (F : Fence) (hd : F.depth = none) (n : Nat) (hF : F.fn 135) (hro : F.round = none) (l Bs m : Nat) (g : Option Addr) (cap : Nat) (raw : Nat → Raw) (w0 : World) (E : Nat → Prop) (J Jx : List Nat → World → Prop)
    (hY : ∀ pre x W, J pre W → pre.length < m → YieldAt F (n - 1) Tryz.prog l (qenc raw x) W fun e W' =>
      (e = .returned (.bool true) ∧ J (pre ++ [x]) W' ∧ KQ E W W') ∨ (e = .returned (.bool false) ∧ Jx (pre ++ [x]) W'))
    (hE : E Bs) (hrow : RawAt w0 E g m raw) (hm : m ≤ 1000001)
    (W : World) (hBs : W.heap[Bs]? = some (Obj.cells #[.slice g m cap] 32 (0, 0))) (hW : KQ E w0 W) (h0 : J [] W) :
    CallsIn F n Tryz.prog 135 #[.func (.yield l) #[] #[], .pointer (some ⟨Bs, 0, none⟩)] W fun e W' => (∃ v, e = .returned v) ∧
      ((∃ ys : List Nat, ys = downTo m ∧ J ys W') ∨ (∃ pre : List Nat, True ∧ Jx pre W')) := by
  have hdd : ∀ k : Nat, (F.depth.isSome = true → 1 ≤ k) := fun k h => by rw [hd] at h; cases h
  have c0 : W.cell? ⟨Bs, 0, none⟩ = some (.slice g m cap) := by simp [World.cell?, hBs]
  have jm : IntKind.i64.wrap ((m : Int) - 1) = (m : Int) - 1 := by rw [IntKind.wrap_i64]; omega
  have HBS := Lib.hid hBs
  have HY := Lib.hid hY
  have HROW := Lib.hid hrow
  have HE := Lib.hid hE
  have HW := Lib.hid hW
  have H0 := Lib.hid h0
  clear hY hrow hW h0 hBs hE
  refine callsIn_of_wp Tryz.func135 rfl hF ?_ hro
  simp only [Tryz.ntmps135, List.size_toArray, List.length_cons, List.length_nil, Nat.reduceAdd, Nat.reduceSub, Array.replicate_succ, Array.replicate_zero, List.push_toArray, List.append_toArray, List.nil_append, List.cons_append]
  gi_wp2_with fail
  gi_loopw [3] (fun s wr => ∃ k : Nat, k ≤ m ∧ s = .int .i64 ((k : Int) - 1) ∧ Hid (∃ els : List Nat, els = (downTo m).take (m - k) ∧ J els wr ∧ KQ E W wr)) (fun s _ => (intOf s + 1).toNat)
  case atStart => exact ⟨m, Nat.le_refl _, rfl, Lib.hid ⟨[], by simp, H0.out, fun _ _ => rfl⟩⟩
  case round =>
    obtain ⟨wz, rfl⟩ : ∃ x, x = wr := ⟨_, rfl⟩
    obtain ⟨k, hk, rfl, hgl⟩ := hrel
    obtain ⟨els, he, hJ0, hkp⟩ := hgl.out
    have HEL := Lib.hid he
    have HJ0 := Lib.hid hJ0
    have HKP := Lib.hid hkp
    clear hgl he hJ0 c0
    have hbs := (hkp Bs HE.out).trans HBS.out
    have c0 : wz.cell? ⟨Bs, 0, none⟩ = some (.slice g m cap) := by simp [World.cell?, hbs]
    cases k with
    | zero =>
      have e0 : (((0 : Nat) : Int) - 1) = -1 := rfl
      rw [e0]
      clear e0 hkp hbs
      gi_wp2_with fail
      go_end0
      refine ⟨⟨_, rfl⟩, .inl ⟨els, ?_, HJ0.out⟩⟩
      rw [HEL.out]
      exact List.take_of_length_le (by rw [down_len]; omega)
    | succ i =>
      have e0 : (((i + 1 : Nat) : Int) - 1) = (i : Int) := by omega
      rw [e0]
      have hi : i < m := by omega
      obtain ⟨b, off, rfl, hbE, g0, g1, g2, g3⟩ := HROW.out i hi
      have hbb : wz.heap[b]? = w0.heap[b]? := (hkp b hbE).trans (HW.out b hbE)
      have z0 : wz.cell? ⟨b, off + i * 4, none⟩ = _ := (World.cell?_of_block (a := ⟨b, off + i * 4, none⟩) hbb).trans g0
      have z1 : wz.cell? ⟨b, off + i * 4 + 1, none⟩ = _ := (World.cell?_of_block (a := ⟨b, off + i * 4 + 1, none⟩) hbb).trans g1
      have z2 : wz.cell? ⟨b, off + i * 4 + 2, none⟩ = _ := (World.cell?_of_block (a := ⟨b, off + i * 4 + 2, none⟩) hbb).trans g2
      have z3 : wz.cell? ⟨b, off + i * 4 + 3, none⟩ = _ := (World.cell?_of_block (a := ⟨b, off + i * 4 + 3, none⟩) hbb).trans g3
      have hlel : els.length < m := by
        have h1 := congrArg List.length HEL.out
        simp [down_len] at h1
        omega
      have hY0 := HY.out els i wz HJ0.out hlel
      simp only [qenc] at hY0
      have htk := down_take m i hi
      have jw1 : IntKind.i64.wrap ((i : Int) - 1) = (i : Int) - 1 := by rw [IntKind.wrap_i64]; omega
      have HTK := Lib.hid htk
      obtain ⟨fn, tmps, assign, body, hy, hR⟩ := hY0
      have HR := Lib.hid hR
      clear hR e0 hkp hbs g0 g1 g2 g3 hbb htk
      gi_wp2_with fail
      refine HR.out.mono ?_
      rintro e W1 (⟨rfl, hJ1, hk1⟩ | ⟨rfl, hx1⟩)
      · have HREL : Hid (∃ els : List Nat, els = (downTo m).take (m - i) ∧ J els W1 ∧ KQ E W W1) := Lib.hid ⟨els ++ [i], by rw [HEL.out, HTK.out, show m - (i + 1) = m - 1 - i by omega], hJ1, HKP.out.trans hk1⟩
        clear hJ1 hk1 hy HR
        gi_wp2_with fail
        go_roundw
        case rel => exact ⟨i, by omega, rfl, HREL⟩
        case measure => simp [intOf]
      · have HX := Lib.hid hx1
        clear hx1 hy HR
        gi_wp2_with fail
        (try simp only [Exit.inBlock, Exit.then])
        refine bodyPost_ret (results_none rfl _ _ _) rfl ?_
        exact ⟨⟨_, rfl⟩, .inr ⟨els ++ [i], trivial, HX.out⟩⟩
theorem back_sq (F : Fence) (hd : F.depth = none) (n : Nat) (hF : F.fn 135) (hro : F.round = none) (Bs m : Nat) (g : Option Addr) (cap : Nat) (raw : Nat → Raw) (w : World) (E : Nat → Prop) (hEl : ∀ k, E k → k < w.heap.size) (hE : E Bs)
    (hBs : w.heap[Bs]? = some (Obj.cells #[.slice g m cap] 32 (0, 0))) (hrow : RawAt w E g m raw) (hm : m ≤ 1000001) :
    SeqStopsK F n Tryz.prog 135 #[.pointer (some ⟨Bs, 0, none⟩)] (qenc raw) (KQ E) (fun ys => ys = downTo m) (fun _ => True) m w := fun l J Jx W hW _ _ hY h0 =>
  back_q F hd n hF hro l Bs m g cap raw w E J Jx hY hE hrow hm W ((hW.block Bs (hEl Bs hE)).trans hBs) (fun k hk => hW.block k (hEl k hk)) h0
theorem backward_in (F : Fence) (n : Nat) (hF : F.fn 126) (hro : F.round = none) (g : Option Addr) (len cap : Nat) (w : World) :
    CallsIn F n Tryz.prog 126 #[.slice g len cap] w fun e w' =>
      e = .returned (.func (.func 135) #[] #[.pointer (some ⟨w.heap.size, 0, none⟩)]) ∧ w' = w.alloc (.cells #[.slice g len cap] 32) := by
  refine callsIn_of_wp Tryz.func126 rfl hF ?_ hro
  simp only [Tryz.ntmps126, List.size_toArray, List.length_cons, List.length_nil, Nat.reduceAdd, Nat.reduceSub, Array.replicate_succ, Array.replicate_zero, List.push_toArray, List.append_toArray, List.nil_append, List.cons_append]
  gi_wp2
  go_ret
  exact ⟨rfl, rfl⟩
theorem kq_putObj {E : Nat → Prop} {w : World} (hE : ∀ k, E k → k < w.heap.size) (W : World) (l : Nat) (o o' : Obj) (hl : w.heap.size ≤ l) (_ : W.heap[l]? = some o) (_ : o.isCells = false) (_ : o.isWalk = false) : KQ E W (W.putObj l o') :=
  fun k hk => World.putObj_heap_other (fun e => by have := hE k hk; omega)
end Go.Proofs.YtkjnjahmlobjiaaGreatDoor
