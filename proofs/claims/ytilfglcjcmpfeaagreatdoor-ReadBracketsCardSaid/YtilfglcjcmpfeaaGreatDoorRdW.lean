/-
  The document's Clauses.
-/
import Derived.Test.YtilfglcjcmpfeaaGreatDoorCls
import Derived.Test.YtilfglcjcmpfeaaGreatDoorRdH
import Derived.Test.YtilfglcjcmpfeaaGreatDoorLxRes
import Derived.Test.YtilfglcjcmpfeaaGreatDoorRef
import Derived.Deep.RegionLaw
namespace Go.Proofs.YtilfglcjcmpfeaaGreatDoor
open Go.RowKit

theorem rdall_lt : ∀ n f, f < n → TermC f ∧ RestC f ∧ RowC f ∧ NameC f
  | 0, _, h => absurd h (by omega)
  | n + 1, f, h => by
    have IH : ∀ f', f' < f → TermC f' ∧ RestC f' ∧ RowC f' ∧ NameC f' := fun f' hf => rdall_lt n f' (by omega)
    exact ⟨term_any f IH, rest_any f (fun f' hf => (IH f' hf).1), row_any f (fun f' hf => (IH f' hf).1), name_any f (fun f' hf => ⟨(IH f' hf).1, (IH f' hf).2.2.1⟩)⟩
theorem dterm_all (f : Nat) : TermC f := (rdall_lt (f + 1) f (Nat.lt_succ_self f)).1
theorem Rdr.mvF {P X X' : Nat → Prop} {W W' : World} {rb : Nat} {s : ByteArray} {L : Toks} {lv : Value} {a : Nat} {ns : Names} (h : Rdr X W rb s L lv a ns) (hf : FrP P W W') (hP : ∀ b, P b → X b ∧ b ≠ rb) (hX : ∀ b, X' b → X b ∨ (W.heap.size ≤ b ∧ b < W'.heap.size)) (hr : X' rb) : Rdr X' W' rb s L lv a ns := by
  have hX1 : ∀ b, X' b → X b ∨ W.heap.size ≤ b := fun b hx => (hX b hx).imp id And.left
  have hP1 : ∀ b, P b → X b := fun b hp => (hP b hp).1
  obtain ⟨nv, pl, hc, hn⟩ := h.cells
  refine ⟨⟨nv, pl, (hf.block rb h.lt (fun hp => (hP rb hp).2 rfl)).trans hc, namesP_same (okN_mv hf hX1) (cell_mv hf hP1) hn⟩, toksP_mv h.toks hf hP1 hX1, h.le, hr, fun b hx => ?_⟩
  rcases hX b hx with h1 | h1
  · exact Nat.lt_of_lt_of_le (h.old b h1) hf.size
  · exact h1.2
theorem Rdr.begin {X : Nat → Prop} {W : World} {rb : Nat} {s : ByteArray} {L : Toks} {lv : Value} {a : Nat} {ns : Names} (h : Rdr X W rb s L lv a ns) : Rdr X (W.setCell ⟨rb, 3, none⟩ (.slice none 0 0)) rb s L lv a [] := by
  have hf := FrP.set W rb 3 (.slice none 0 0)
  obtain ⟨nv, pl, hc, hn⟩ := h.cells
  have hs : (W.setCell ⟨rb, 3, none⟩ (.slice none 0 0)).heap.size = W.heap.size := by simp [World.setCell]
  exact ⟨⟨_, pl, set_blk hc, none, 0, rfl, Nat.le_refl _, .inl rfl⟩, toksP_mv h.toks hf (fun b e => by subst e; exact h.own) (fun b hx => .inl hx), h.le, h.own, fun b hb => by rw [hs]; exact h.old b hb⟩
def DlsPost (w : World) (S : List UInt8) (e : Ending) (w' : World) : Prop :=
  Below w.heap.size w w' ∧ ∃ (l : List Cl) (sv : Value) (b c : Nat), e = .returned (.tuple #[sv, .int .i64 (b : Nat), .int .i64 (c : Nat)]) ∧ clsIn w' w'.heap.size l sv ∧ c ≤ 3 ∧
    (match readE S with
      | .error (k, pl) => (k = 2 ∨ k = 3) ∧ c = k ∧ b = pl ∧ l = []
      | .ok l' => c = 0 ∧ b = 0 ∧ l = l')
structure DlQ (w : World) (rb : Nat) (s : ByteArray) (L : Toks) (lv : Value) (R : Except (Nat × Nat) (List Cl)) (gf : Nat) (acc : List Cl) (a : Nat) (v : Value) (wx : World) : Prop where
  res : accC acc (clsE (bs s) gf (L.drop a)) = R
  fuel : L.length < gf + a
  few : acc.length ≤ a
  rd : ∃ ns, Rdr (fun b => b = rb ∨ v.ownBlock = some b) wx rb s L lv a ns
  own : ∃ xs, wx.ownsRow w.heap.size 37 5 v acc.length xs ∧ clcP wx (okN (fun b => b = rb ∨ v.ownBlock = some b) wx) acc xs
  ne : v.ownBlock ≠ some rb
  lo : w.heap.size ≤ rb
  bl : Below w.heap.size w wx
structure DlR (w : World) (rb : Nat) (acc : List Cl) (v : Value) (wx : World) : Prop where
  own : ∃ xs, wx.ownsRow w.heap.size 37 5 v acc.length xs ∧ clcP wx (okN (fun b => b = rb ∨ v.ownBlock = some b) wx) acc xs
  bl : Below w.heap.size w wx
theorem DlQ.call {w wx wy : World} {rb : Nat} {s : ByteArray} {L : Toks} {lv : Value} {R : Except (Nat × Nat) (List Cl)} {gf : Nat} {acc : List Cl} {a : Nat} {v : Value} (h : DlQ w rb s L lv R gf acc a v wx) (hf : FrP (fun b => b = rb) wx wy) : DlR w rb acc v wy := by
  obtain ⟨xs, ho, hc⟩ := h.own
  have hP : ∀ b, b = rb → (fun b => b = rb ∨ v.ownBlock = some b) b := fun b e => .inl e
  refine ⟨⟨xs, ownsRow_mv ho hf (fun b hb e => h.ne (by rw [← e]; exact hb)), clcP_same (okN_mv hf (fun _ hx => .inl hx)) (cell_mv hf hP) _ _ hc⟩, h.bl.trans ?_⟩
  have h1 : FrP (fun b => w.heap.size ≤ b) wx wy := hf.mono (fun b _ e => by have := h.lo; omega)
  exact h1.to_below h.bl.size
theorem DlR.call {w wx wy : World} {rb : Nat} {acc : List Cl} {v : Value} (h : DlR w rb acc v wx) (hne : v.ownBlock ≠ some rb) (hlo : w.heap.size ≤ rb) (hf : FrP (fun b => b = rb) wx wy) : DlR w rb acc v wy := by
  obtain ⟨xs, ho, hc⟩ := h.own
  have hP : ∀ b, b = rb → (fun b => b = rb ∨ v.ownBlock = some b) b := fun b e => .inl e
  refine ⟨⟨xs, ownsRow_mv ho hf (fun b hb e => hne (by rw [← e]; exact hb)), clcP_same (okN_mv hf (fun _ hx => .inl hx)) (cell_mv hf hP) _ _ hc⟩, h.bl.trans ?_⟩
  have h1 : FrP (fun b => w.heap.size ≤ b) wx wy := hf.mono (fun b _ e => by omega)
  exact h1.to_below h.bl.size
theorem DlR.next {w wx wy : World} {rb : Nat} {acc : List Cl} {v : Value} (h : DlR w rb acc v wx) (hb : Below wx.heap.size wx wy) : DlR w rb acc v wy := by
  obtain ⟨xs, ho, hc⟩ := h.own
  have hf := FrP.of_below hb
  exact ⟨⟨xs, ownsRow_mv ho hf (fun _ _ h => h), clcP_same (okN_mv hf (fun _ hx => .inl hx)) (cell_mv hf (X := fun b => b = rb ∨ v.ownBlock = some b) (fun _ h => h.elim)) _ _ hc⟩, h.bl.trans (hb.mono h.bl.size)⟩
theorem newsD5 {w : World} {v0 v1 v2 v3 v4 : Value} {T : TypeId} (b : Nat) (hb : b = w.heap.size) : ∀ j u, ([v0, v1, v2, v3, v4] : List Value)[j]? = some u → (w.alloc (.cells #[v0, v1, v2, v3, v4] T)).cell? ((⟨b, 0, none⟩ : Addr).add j) = some u := by
  intro j u hj
  have h := newBlk w (.cells #[v0, v1, v2, v3, v4] T) b hb
  rw [Addr.add_lit]
  simp only [World.cell?, h, Nat.zero_add]
  simpa using hj
theorem Tryz.infoDc : (Tryz.prog.info? 37).map (fun i => (i.zero, i.size, i.bytes)) = some (some (.agg #[.int .i64 0, .string ⟨#[]⟩, .int .i64 0, .slice none 0 0, .slice none 0 0]), 5, 80) := by kernel_rfl
theorem step_append_dc {w : World} {ops : Array Oper} {o : Oper} {a : Act} {K : Act → World → Prop} {Q : Exit → Act → World → Prop} {E : Prop} (hgd : o.guard = none) (s x : Operand)
    (ho : o.op = .call { callee := .builtin .append, args := #[s, x], argTypes := #[27, 27] })
    (base : Nat) (v : Value) (n : Nat) (xs : List Value) (hs : a.eval s = v) (hown : w.ownsRow base 37 5 v n xs)
    (H c : Nat) (news : List Value) (hx : a.eval x = .slice (some ⟨H, 0, none⟩) 1 c) (hl : news.length = 5) (hnews : ∀ j u, news[j]? = some u → w.cell? ((⟨H, 0, none⟩ : Addr).add j) = some u) (h1 : ∀ u ∈ news, u.oneCell' = true)
    (hn : n ≤ 1000000) (hbase : base ≤ w.heap.size)
    (h : ∀ v' w', w'.ownsRow base 37 5 v' (n + 1) (xs ++ news) → w.grownBy w' v.ownBlock → (v'.ownBlock = v.ownBlock ∨ ∀ b, v'.ownBlock = some b → w.heap.size ≤ b) → K (a.put o.dst v') w') :
    if Region.wanted o (yielded ops a.tmps) = true then Oper.wp Tryz.prog o a w K Q else E := by
  have hw : Region.wanted o (yielded ops a.tmps) = true := by simp [Region.wanted, hgd]
  rw [if_pos hw]
  obtain ⟨i0, hi, hz0, hz1, hz2⟩ := info_parts Tryz.infoDc
  obtain ⟨v', w', hr, h2, h3, h4⟩ := run_append_any (P := Tryz.prog) (w := w) base 27 o.type 37 i0 _ 5 80 Tryz.underlying27 hi hz0 hz1 hz2 rfl (by decide) v n xs hown (some ⟨H, 0, none⟩) 1 c news (by omega) (.inr ⟨_, rfl, hnews⟩) h1 (by unfold maxLen; omega) (by omega) hbase
  unfold Oper.wp execOp
  simp only [ho, resolve, invoke, builtin, Sem.run_bind, Sem.run_pure, Result.andThen_ok, List.map_toArray, List.map_cons, List.map_nil, hs, hx, hr]
  refine h v' w' h2 h3 ?_
  rcases h4 with h4 | h4
  · exact .inl h4
  · exact .inr fun b hb => by rw [h4] at hb; cases hb; exact Nat.le_refl _
/-- One more clause in the row. -/
theorem DlR.app {w U W5 : World} {rb : Nat} {s : ByteArray} {L : Toks} {lv : Value} {acc : List Cl} {v v5 : Value} {xs : List Value} {t : Tm} {ns ns0 : Names} {k : Int} {nm : ByteArray} {n : Int} {sv nv : Value} {R : Except (Nat × Nat) (List Cl)} {gf a : Nat}
    (h : DlR w rb acc v U) (hrd : Rdr (fun b => b = rb ∨ v.ownBlock = some b) U rb s L lv a ns0) (hne : v.ownBlock ≠ some rb) (hlo : w.heap.size ≤ rb) (hc : clcP U (okN (fun b => b = rb ∨ v.ownBlock = some b) U) acc xs) (htv : TV (fun b => b = rb ∨ v.ownBlock = some b) U (some t) k nm n sv) (hnm : namesP U (okN (fun b => b = rb ∨ v.ownBlock = some b) U) ns nv)
    (hg : U.grownBy W5 v.ownBlock) (ho : W5.ownsRow w.heap.size 37 5 v5 (acc.length + 1) (xs ++ [.int .i64 k, .string nm, .int .i64 n, sv, nv])) (h5 : ∀ b, v5.ownBlock = some b → v.ownBlock = some b ∨ U.heap.size ≤ b)
    (hvo : ∀ b, v.ownBlock = some b → w.heap.size ≤ b) (hR : accC (acc ++ [(t, ns)]) (clsE (bs s) gf (L.drop a)) = R) (hf : L.length < gf + a) (hfew : (acc ++ [(t, ns)]).length ≤ a) :
    DlQ w rb s L lv R gf (acc ++ [(t, ns)]) a v5 W5 := by
  have hf1 : FrP (fun b => v.ownBlock = some b) U W5 := (FrP.of_grown hg).mono (fun b _ e => e.symm)
  have hX : ∀ b, (b = rb ∨ v5.ownBlock = some b) → (b = rb ∨ v.ownBlock = some b) ∨ (U.heap.size ≤ b ∧ b < W5.heap.size) := fun b hx => by
    rcases hx with hx | hx
    · exact .inl (.inl hx)
    · rcases h5 b hx with h1 | h1
      · exact .inl (.inr h1)
      · exact .inr ⟨h1, (ho.lt b hx).2⟩
  have hX1 : ∀ b, (b = rb ∨ v5.ownBlock = some b) → (b = rb ∨ v.ownBlock = some b) ∨ U.heap.size ≤ b := fun b hx => (hX b hx).imp id And.left
  have hP : ∀ b, v.ownBlock = some b → (fun b => b = rb ∨ v.ownBlock = some b) b := fun b e => .inr e
  refine ⟨hR, hf, hfew, ⟨ns0, hrd.mvF hf1 (fun b e => ⟨.inr e, fun e2 => hne (by rw [← e2]; exact e)⟩) hX (.inl rfl)⟩, ⟨_, by simpa using ho, ?_⟩, fun e => ?_, hlo, h.bl.trans ?_⟩
  · obtain ⟨e1, e2, e3, e4⟩ := htv.2.2.2 t rfl
    subst e1 e2 e3
    exact clcP_snoc (Tm.innP_same (okN_mv hf1 hX1) (cell_mv hf1 hP) _ _ e4) (namesP_same (okN_mv hf1 hX1) (cell_mv hf1 hP) hnm) _ _ (clcP_same (okN_mv hf1 hX1) (cell_mv hf1 hP) _ _ hc)
  · rcases h5 rb e with h1 | h1
    · exact hne h1
    · have := hrd.lt
      omega
  · exact (hf1.mono (Q := fun b => w.heap.size ≤ b) (fun b _ e => hvo b e)).to_below h.bl.size
theorem DlQ.start {w w1 : World} {s : ByteArray} {R : Except (Nat × Nat) (List Cl)} {l : Toks} {g : Option Addr} {n cap : Nat} (hb : Below w.heap.size w w1) (ht : toksIn w1 w1.heap.size l (.slice g n cap)) (hR : accC [] (clsE (bs s) (l.length + 1) l) = R) :
    DlQ w w1.heap.size s l (.slice g n cap) R (l.length + 1) [] 0 (.slice none 0 0) (w1.alloc (.cells #[.string s, .slice g n cap, .int .i64 0, .slice none 0 0, .int .i64 0, .int .i64 0] 74)) := by
  have hnew := newBlk w1 (.cells #[.string s, .slice g n cap, .int .i64 0, .slice none 0 0, .int .i64 0, .int .i64 0] 74) w1.heap.size rfl
  have hb2 : Below w1.heap.size w1 (w1.alloc (.cells #[.string s, .slice g n cap, .int .i64 0, .slice none 0 0, .int .i64 0, .int .i64 0] 74)) := (Below.refl _ _).alloc (Nat.le_refl _) _
  refine ⟨hR, by omega, Nat.le_refl _, ⟨[], ⟨⟨_, 0, hnew, none, 0, rfl, Nat.le_refl _, .inl rfl⟩, ?_, Nat.zero_le _, .inl rfl, fun b hx => ?_⟩⟩, ⟨[], World.ownsRow_nil _ _ _ _, rfl⟩, fun h => by simp [Value.ownBlock] at h, hb.size, hb.trans (hb2.mono hb.size)⟩
  · obtain ⟨g', cap', he, h⟩ := ht
    refine ⟨g', cap', he, h.imp id ?_⟩
    rintro ⟨b, off, e, hlt, h⟩
    have hc : ∀ o, (w1.alloc (.cells #[.string s, .slice g n cap, .int .i64 0, .slice none 0 0, .int .i64 0, .int .i64 0] 74)).cell? ⟨b, o, none⟩ = w1.cell? ⟨b, o, none⟩ := fun o => hb2.cell (p := ⟨b, o, none⟩) hlt
    refine ⟨b, off, e, ⟨fun hx => ?_, Nat.lt_of_lt_of_le hlt hb2.size⟩, fun i hi => ?_⟩
    · rcases hx with hx | hx
      · omega
      · simp [Value.ownBlock] at hx
    · rw [hc, hc, hc, hc, hc]
      exact h i hi
  · rcases hx with hx | hx
    · subst hx
      simp
    · simp [Value.ownBlock] at hx
theorem dclsIn_of {w : World} {B base : Nat} {l : List Cl} {v : Value} {xs : List Value} {X : Nat → Prop} (hB : B = w.heap.size) (h : w.ownsRow base 37 5 v l.length xs) (hc : clcP w (okN X w) l xs) : clsIn w B l v := by
  subst hB
  rcases h.2 with ⟨hv, h0⟩ | ⟨g, cap, cur, hv, _, hg, _⟩
  · exact ⟨none, 0, by rw [hv, h0], .inl (List.eq_nil_of_length_eq_zero h0)⟩
  · have hob : v.ownBlock = some g := by rw [hv]; rfl
    refine ⟨some ⟨g, 0, none⟩, cap, hv, .inr ⟨g, 0, xs, rfl, (h.lt g hob).2, clcP_same (fun b hb => hb.2) (fun _ _ _ _ h => h) _ _ hc, fun j u hj => ?_⟩⟩
    have := World.ownsRow.cells h (g := g) hob j u hj
    rw [Addr.add_lit] at this
    simpa using this
set_option maxRecDepth 100000 in
set_option maxHeartbeats 8000000 in
theorem dclauses_any (s : ByteArray) (w : World) (hs : s.size ≤ 1000000) (hg : ∀ ts, lexL false 0 (bs s) = .inr ts → s.size ≤ 8000 → Small s ts) :
    Calls Tryz.prog 9 #[.string s] w fun e w' => DlsPost w (bs s) e w' := by
  obtain ⟨R, hR⟩ : ∃ R, readE (bs s) = R := ⟨_, rfl⟩
  have HR := Lib.hid hR
  have HG := Lib.hid hg
  have HLX := Lib.hid (ref_says s w hs)
  have hbs := bs_length s
  have HT := Lib.hid (dterm_all FF)
  clear hR hg
  go_enter Tryz.func9, Tryz.ntmps9
  go_upto_region 2 with (go_at_call 19; (with_reducible refine (HLX.out).mono ?_); rintro e w1 ⟨hb, l, g, cap, b, c, rfl, htk, hl, hcs⟩; have HB := Lib.hid hb; have HTK := Lib.hid htk; have HCS := Lib.hid hcs; clear hb htk hcs)
  have hcases : (R = .error (c, b) ∧ l = [] ∧ (c = 2 ∨ c = 3)) ∨ (s.size ≤ 8000 ∧ lexL false 0 (bs s) = .inr l ∧ b = 0 ∧ c = 0) := by
    have h0 := HR.out
    unfold readE at h0
    rcases HCS.out with ⟨h1, h2, h3, h4⟩ | ⟨h1, h2, h3, h4⟩ | h1
    · rw [if_pos (by omega)] at h0
      subst h3 h4
      exact .inl ⟨h0.symm, h2, .inr rfl⟩
    · rw [if_neg (by omega), h2] at h0
      subst h4
      exact .inl ⟨h0.symm, h3, .inl rfl⟩
    · exact .inr h1
  rcases hcases with ⟨hRe, hl0, hc0⟩ | ⟨hz, hlx, hb0, hc0⟩
  · have hcd : ((c : Int) == 0) = false := by rw [beq_eq_false_iff_ne]; omega
    have hcd2 : ((c : Int) != 0) = true := by simp [bne, hcd]
    subst hRe hl0
    go_wp2_with fail
    go_ret3
    refine ⟨HB.out, [], .slice none 0 0, b, c, rfl, ⟨none, 0, rfl, .inl rfl⟩, by omega, ?_⟩
    rw [HR.out]
    exact ⟨hc0, rfl, rfl, rfl⟩
  subst hb0 hc0
  have HSM := Lib.hid (HG.out l hlx hz)
  have hRe : accC [] (clsE (bs s) (l.length + 1) l) = R := by
    rw [accC_nil, ← HR.out]
    unfold readE
    rw [if_neg (by omega), hlx]
  have HRE := Lib.hid hRe
  have HRX := Lib.hid HR.out
  clear hRe hlx HCS HG HR
  go_upto_region 5 with fail
  have HQ0 := Lib.hid (DlQ.start HB.out HTK.out HRE.out)
  have hzl := HB.out.size
  clear HTK
  obtain ⟨rb, hrb⟩ : ∃ rb, w1.heap.size = rb := ⟨_, rfl⟩
  obtain ⟨w2, hw2⟩ : ∃ w2, w1.alloc (.cells #[.string s, .slice g l.length cap, .int .i64 0, .slice none 0 0, .int .i64 0, .int .i64 0] 74) = w2 := ⟨_, rfl⟩
  rw [hw2, hrb] at HQ0
  rw [hw2, hrb]
  rw [hrb] at hzl
  clear hw2 hrb
  go_wp2_with fail
  go_loopg [9] (l.length + 1) (fun gf s9 wx => ∃ (acc : List Cl) (a : Nat) (v : Value), s9 = v ∧ Hid (DlQ w rb s l (.slice g l.length cap) R gf acc a v wx))
  case atStart =>
    exact ⟨[], 0, .slice none 0 0, rfl, HQ0⟩
  case round =>
    clear HQ0 HRE HB
    obtain ⟨acc, a, v, hs9, HQ⟩ := hrel
    obtain rfl : v = _ := hs9.symm
    obtain ⟨hres, hfuel, hfew, ⟨ns0, hrd⟩, hown, hne, hlo, hbl⟩ := HQ.out
    obtain ⟨nv0, pl0, hcc, hnm0⟩ := hrd.cells
    obtain ⟨⟨r0, r1, r2, r3, r4, r5⟩, rf0, rf1, rf2, rf3, rf4, rf5⟩ := row6 hcc
    have hrl := (Array.getElem?_eq_some_iff.1 hcc).1
    have hal := hrd.le
    obtain ⟨gk, rfl⟩ : ∃ q, gk = q + 1 := ⟨gk - 1, by omega⟩
    by_cases ha : a < l.length
    · have ja : (a : Int) < (l.length : Int) := by omega
      obtain ⟨tb, toff, tcap, e1, htb, x0, x1, x2, x3, x4⟩ := toksP_at hrd.toks a ha
      injection e1 with e1 _ e3
      subst e1 e3
      have hdrop : l.drop a = l[a] :: l.drop (a + 1) := List.drop_eq_getElem_cons ha
      obtain ⟨x, hx⟩ : ∃ x, l[a] = x := ⟨_, rfl⟩
      rw [hx] at x0 x1 x2 x3 x4 hdrop
      have htl := htb.2
      have j0 : (0 : Int) ≤ (a : Int) := by omega
      have jn : ((a : Int)).toNat = a := by omega
      have HDR := Lib.hid hdrop
      have HT1 : Hid (Calls Tryz.prog 20 #[.pointer (some ⟨rb, 0, none⟩), .int .i64 1200, .int .i64 0] (wr.setCell ⟨rb, 3, none⟩ (.slice none 0 0)) fun e W' => TermPost (fun b => b = rb ∨ v.ownBlock = some b) (wr.setCell ⟨rb, 3, none⟩ (.slice none 0 0)) rb s l (.slice (some ⟨tb, toff, none⟩) l.length cap) (rdTerm (bs s) FF 1200 0 (x :: l.drop (a + 1)) []) e W') := Lib.hid (by
        have h0 := HT.out _ _ rb s l _ _ 1200 0 HSM.out (St.of hrd.begin) (fun ts ns e => by
          injection e with e
          injection e with e1 e2
          subst e1 e2
          have h9 : (l.drop a).length ≤ l.length := by simp
          have h8 : ([] : Names).length = 0 := rfl
          rw [FF_eq]
          omega) (by omega) (by omega)
        rw [← hdrop]
        exact h0)
      have HRES := Lib.hid hres
      have HOWN := Lib.hid hown
      clear hres hown hrd hcc hbl hnm0 htb hx hdrop
      go_upto_region 10 with (go_at_call 20; (with_reducible refine (HT1.out).mono ?_); rintro e w4 ⟨k, nm, n, g, m, c, rfl, hgr, hst, htv⟩; have HDR4 : Hid (DlR w rb acc v w4) := Lib.hid (HQ.out.call ((FrP.set wr rb 3 (.slice none 0 0)).trans ((FrP.of_grown hgr).mono (fun b _ e => by injection e)) (fun _ _ h => h) (fun _ _ h => h))); have HST4 := Lib.hid hst; have HTV4 := Lib.hid htv; clear hgr hst htv)
      clear HT1 x0 x1 x2 x3 x4 r0 r1 r2 r3 r4 r5 rf0 rf1 rf2 rf3 rf4 rf5 hrl
      have hb5 : Below w4.heap.size w4 (w4.alloc (.cells #[.int .i64 k, .string nm, .int .i64 n, .slice g m c] 33)) := (Below.refl _ _).alloc (Nat.le_refl _) _
      have HBX := Lib.hid (newBlk w4 (.cells #[.int .i64 k, .string nm, .int .i64 n, .slice g m c] 33) w4.heap.size rfl)
      have hbx5 : w4.heap.size < (w4.alloc (.cells #[.int .i64 k, .string nm, .int .i64 n, .slice g m c] 33)).heap.size := by simp
      have HDR5 := Lib.hid (HDR4.out.next hb5)
      have HST5 := Lib.hid (HST4.out.next hb5)
      have HTV5 := Lib.hid (HTV4.out.mv (FrP.of_below hb5) (fun _ h => h.elim) (X' := fun b => b = rb ∨ v.ownBlock = some b) (fun _ hx => .inl hx))
      obtain ⟨w5, hw5⟩ : ∃ w5, w4.alloc (.cells #[.int .i64 k, .string nm, .int .i64 n, .slice g m c] 33) = w5 := ⟨_, rfl⟩
      have hrbl := HST4.out.lt
      obtain ⟨cb, hcb⟩ : ∃ cb, w4.heap.size = cb := ⟨_, rfl⟩
      rw [hcb] at hrbl
      rw [hw5] at HBX hbx5 HDR5 HST5 HTV5 ⊢
      rw [hcb] at HBX hbx5 ⊢
      clear hw5 hcb hb5 HDR4 HST4 HTV4
      have hclE : clE (bs s) (x :: l.drop (a + 1)) = (match rdTerm (bs s) FF 1200 0 (x :: l.drop (a + 1)) [] with
        | .error e => .error e
        | .ok (t, r, ns) => if endT r = true then .ok (t, r.tail, ns) else .error (2, placeT (bs s) r)) := rfl
      cases hr : rdTerm (bs s) FF 1200 0 (x :: l.drop (a + 1)) [] with
      | error e =>
        obtain ⟨c9, pl⟩ := e
        rw [hr] at HST5 hclE
        obtain ⟨⟨s9, lv9, a9, nv9, hbad⟩, hc9⟩ := HST5.out.is
        have hRe : R = .error (c9, pl) := by
          rw [← HRES.out, HDR.out, clsE_err hclE]
        obtain ⟨⟨r0, r1, r2, r3, r4, r5⟩, -⟩ := row6 hbad
        have hrl := (Array.getElem?_eq_some_iff.1 hbad).1
        have hcd : ((c9 : Int) == 0) = false := by rw [beq_eq_false_iff_ne]; omega
        have hcd2 : ((c9 : Int) != 0) = true := by simp [bne, hcd]
        have HBL := Lib.hid HDR5.out.bl
        clear hr hclE hbad
        go_upto_region 13 with fail
        go_region
        all_goals go_wp2_with fail
        all_goals go_ret3
        all_goals exact ⟨HBL.out.drew, [], .slice none 0 0, pl, c9, rfl, ⟨none, 0, rfl, .inl rfl⟩, by omega, by rw [HRX.out, hRe]; exact ⟨hc9, rfl, rfl, rfl⟩⟩
      | ok p =>
        obtain ⟨t, r1, ns1⟩ := p
        rw [hr] at HST5 hclE HTV5
        obtain ⟨a1, har, hrd5⟩ := HST5.out.is
        subst har
        have hal1 := hrd5.le
        have HRr := Lib.hid hr
        obtain ⟨nv5, pl5, hcc5, hnm5⟩ := hrd5.cells
        obtain ⟨⟨r0, r1, r2, r3, r4, r5⟩, rf0, rf1, rf2, rf3, rf4, rf5⟩ := row6 hcc5
        have hrl := (Array.getElem?_eq_some_iff.1 hcc5).1
        have HRD5 := Lib.hid hrd5
        have hfail : ∀ (h : endT (l.drop a1) = false), R = .error (2, placeT (bs s) (l.drop a1)) := fun h => by
          rw [← HRES.out, HDR.out]
          refine clsE_err ?_
          rw [hclE]
          exact if_neg (by rw [h]; simp)
        have HFA := Lib.hid hfail
        have HFL : Hid (Calls Tryz.prog 21 #[.pointer (some ⟨rb, 0, none⟩), .int .i64 2] w5 fun e W' => FailPost w5 rb 2 (placeT (bs s) (l.drop a1)) e W') := Lib.hid (fail_any w5 rb s l (.slice (some ⟨tb, toff, none⟩) l.length cap) a1 ns1 2 hrd5 HSM.out.size HSM.out.len)
        have HCLE := Lib.hid hclE
        clear hr hcc5 hclE hfail
        by_cases ha1 : a1 < l.length
        · obtain ⟨tb', toff', cap', e1, htb5, y0, y1, y2, y3, y4⟩ := toksP_at hrd5.toks a1 ha1
          injection e1 with e1 _ e3
          injection e1 with e1
          injection e1 with e1 e4
          subst e1 e3 e4
          have hdrop1 : l.drop a1 = l[a1] :: l.drop (a1 + 1) := List.drop_eq_getElem_cons ha1
          obtain ⟨y, hy⟩ : ∃ y, l[a1] = y := ⟨_, rfl⟩
          rw [hy] at y0 y1 y2 y3 y4 hdrop1
          have htl5 := htb5.2
          have jb : ((l.length : Int) ≤ (a1 : Int)) = False := by simp only [eq_iff_iff, iff_false]; omega
          have jc : (a1 : Int) < (l.length : Int) := by omega
          have jc0 : (0 : Int) ≤ (a1 : Int) := by omega
          have jn1 : ((a1 : Int)).toNat = a1 := by omega
          have hendT : endT (l.drop a1) = decide (y.1.kind = 5) := by rw [hdrop1]; rfl
          by_cases hk : y.1.kind = 5
          · have kk : ((y.1.kind : Int) == 5) = true := by rw [beq_iff_eq]; omega
            have kk2 : ((y.1.kind : Int) != 5) = false := by simp [bne, kk]
            have hcl : clE (bs s) (x :: l.drop (a + 1)) = .ok (t, l.drop (a1 + 1), ns1) := by
              rw [HCLE.out]
              dsimp only
              rw [if_pos (by rw [hendT, hk]; rfl), hdrop1, List.tail_cons]
            have HCL := Lib.hid hcl
            clear hcl hendT hk hdrop1 htb5 hrd5 hnm5 hy
            obtain ⟨hl2, hsuf, hsize⟩ := cl_went HCL.out
            have hxl : (x :: l.drop (a + 1)).length ≤ l.length := by simp only [List.length_cons, List.length_drop]; omega
            have htv : TV (fun b => b = rb ∨ v.ownBlock = some b) w5 (some t) k nm n (.slice g m c) := HTV5.out
            obtain ⟨e1, e2, e3, hin⟩ := htv.2.2.2 t rfl
            have hinn : Tm.inn w5 w5.heap.size t (.slice g m c) := Tm.inn_of_P (fun b hb => hb.2) t _ hin
            have HRI := Lib.hid (rright_any t w5 w5.heap.size (.slice g m c) (Nat.le_refl _) hinn (by omega))
            rw [← e1, ← e2, ← e3] at HRI
            have HTVt := Lib.hid htv
            clear htv e1 e2 e3 hin hinn hsuf
            obtain ⟨⟨b0, b1, b2, b3⟩, -⟩ := row4 HBX.out
            cases hri : t.right with
            | false =>
              rw [hri] at HRI
              have hRe : R = .error (3, x.2) := by rw [← HRES.out, HDR.out, clsE_wrong HCL.out hri]
              clear hri
              go_wp2_with (go_at_call 14; (with_reducible refine (HRI.out).mono ?_); rintro e w6 ⟨rfl, hb⟩; have HDR6 := Lib.hid (HDR5.out.next hb); clear hb)
              go_ret3
              exact ⟨HDR6.out.bl, [], .slice none 0 0, x.2, 3, rfl, ⟨none, 0, rfl, .inl rfl⟩, by omega, by rw [HRX.out, hRe]; exact ⟨.inr rfl, rfl, rfl, rfl⟩⟩
            | true =>
              rw [hri] at HRI
              have hres2 := (clsE_next (S := bs s) (f := gk) (acc := acc) HCL.out hri).symm
              rw [← HDR.out, HRES.out] at hres2
              have HRES2 := Lib.hid hres2
              have jw1 : IntKind.i64.wrap ((a1 : Int) + 1) = (a1 : Int) + 1 := by rw [IntKind.wrap_i64]; omega
              clear hri hres2
              go_upto_region 16 with (go_at_call 14; (with_reducible refine (HRI.out).mono ?_); rintro e w6 ⟨rfl, hb⟩; have HDR6 := Lib.hid (HDR5.out.next hb); have HRD6 := Lib.hid (HRD5.out.next hb); have HTV6 := Lib.hid (HTVt.out.mv (FrP.of_below hb) (fun _ h => h.elim) (X' := fun b => b = rb ∨ v.ownBlock = some b) (fun _ hx => .inl hx)); have HBX6 := Lib.hid ((hb.block _ hbx5).trans HBX.out); have hcb6 : cb < w6.heap.size := Nat.lt_of_lt_of_le hbx5 hb.size; clear hb)
              clear r0 r1 r2 r3 r4 r5 rf0 rf1 rf2 rf3 rf4 rf5 hrl b0 b1 b2 b3 y0 y1 y2 y3 y4
              obtain ⟨nv6, pl6, hcc6, hnm6⟩ := HRD6.out.cells
              obtain ⟨⟨r0, r1, r2, r3, r4, r5⟩, rf0, rf1, rf2, rf3, rf4, rf5⟩ := row6 hcc6
              have hrl := (Array.getElem?_eq_some_iff.1 hcc6).1
              clear hcc6 hnm6
              go_upto_region 17 with fail
              have hf7 := FrP.set w6 rb 2 (.int .i64 ((a1 : Int) + 1))
              have HDR7 := Lib.hid (HDR6.out.call hne hlo hf7)
              have hrd7 := HRD6.out.step (a' := a1 + 1) (by omega)
              have htv7 := HTV6.out.mv hf7 (fun b e => .inl e) (X' := fun b => b = rb ∨ v.ownBlock = some b) (fun _ hx => .inl hx)
              have hbx7 := (hf7.block cb hcb6 (by omega)).trans HBX6.out
              have hs7 : (w6.setCell ⟨rb, 2, none⟩ (.int .i64 ((a1 : Int) + 1))).heap.size = w6.heap.size := by simp [World.setCell]
              clear r0 r1 r2 r3 r4 r5 rf0 rf1 rf2 rf3 rf4 rf5 hrl
              obtain ⟨w7, hw7⟩ : ∃ w7, w6.setCell ⟨rb, 2, none⟩ (.int .i64 ((a1 : Int) + 1)) = w7 := ⟨_, rfl⟩
              rw [hw7] at HDR7 htv7 hbx7 ⊢
              replace hrd7 : Rdr (fun b => b = rb ∨ v.ownBlock = some b) w7 rb s l (.slice (some ⟨tb, toff, none⟩) l.length cap) (a1 + 1) ns1 := by rw [← hw7]; exact hrd7
              rw [hw7] at hs7
              obtain ⟨nv7, pl7, hcc7, hnm7⟩ := hrd7.cells
              obtain ⟨gn, cn, hnv, -⟩ := id hnm7
              subst hnv
              obtain ⟨⟨r0, r1, r2, r3, r4, r5⟩, -⟩ := row6 hcc7
              have hrl := (Array.getElem?_eq_some_iff.1 hcc7).1
              obtain ⟨⟨b0, b1, b2, b3⟩, -⟩ := row4 hbx7
              have hcb7 := (Array.getElem?_eq_some_iff.1 hbx7).1
              obtain ⟨xs, ho, hc⟩ := HDR7.out.own
              have HOW := Lib.hid ho
              have HCE := Lib.hid hc
              have HRD7 := Lib.hid hrd7
              have HTV7 := Lib.hid htv7
              have HNM7 := Lib.hid hnm7
              have hWU := HDR7.out.bl.size
              have hfew2 : acc.length ≤ 1000000 := by omega
              clear hs7 hw7 hf7 hrd7 htv7 hbx7 hcc7 hnm7 ho hc HBX6 HTV6 HRD6 HDR6
              go_region_law ((refine step_append_dc (by rfl) _ _ (by rfl) w.heap.size v acc.length xs (by rfl) (HOW.out.alloc _) w7.heap.size 1 [.int .i64 k, .string nm, .int .i64 n, .slice g m c, .slice gn ns1.length cn] (by rfl) rfl (newsD5 (w := w7) w7.heap.size rfl) (by intro u hu; simp at hu; rcases hu with rfl | rfl | rfl | rfl | rfl <;> rfl) (by omega) (by simp; omega) ?_; intro v5 W5 ho5 hg5 hs5))
              all_goals (
                have hgg := grown_trans (grown_allc w7 (.cells #[.int .i64 k, .string nm, .int .i64 n, .slice g m c, .slice gn ns1.length cn] 37) v.ownBlock) (⟨hg5.os, hg5.tape, hg5.output, hg5.size, hg5.block⟩ : (w7.alloc (.cells #[.int .i64 k, .string nm, .int .i64 n, .slice g m c, .slice gn ns1.length cn] 37)).grownBy W5 v.ownBlock) (fun _ e => .inl e)
                have HQ5 := Lib.hid (DlR.app HDR7.out HRD7.out hne hlo HCE.out HTV7.out HNM7.out hgg ho5 (fun b e => by
                  rcases hs5 with h1 | h1
                  · exact .inl (h1.symm.trans e)
                  · have := h1 b e
                    have h9 : (w7.alloc (.cells #[.int .i64 k, .string nm, .int .i64 n, .slice g m c, .slice gn ns1.length cn] 37)).drew.heap.size = w7.heap.size + 1 := by show (w7.alloc _).heap.size = _; simp
                    exact .inr (by omega)) (fun b e => (HOW.out.lt b e).1) HRES2.out (show l.length < gk + (a1 + 1) by simp only [List.length_cons, List.length_drop] at hl2; omega) (show (acc ++ [(t, ns1)]).length ≤ a1 + 1 by simp only [List.length_append, List.length_cons, List.length_nil, List.length_drop] at hl2 ⊢; omega))
                clear ho5 hg5 hs5 hgg
                go_wp2_with fail
                go_roundg gk
                case rel =>
                  exact ⟨acc ++ [(t, ns1)], a1 + 1, v5, rfl, HQ5⟩
                case measure => exact Nat.lt_succ_self _)
          · have kk : ((y.1.kind : Int) == 5) = false := by rw [beq_eq_false_iff_ne]; omega
            have kk2 : ((y.1.kind : Int) != 5) = true := by simp [bne, kk]
            have hRe := HFA.out (by rw [hendT]; simpa using hk)
            clear hendT hk hdrop1 htb5 hrd5 hnm5 hy
            go_upto_region 12 with (go_at_call 21; (with_reducible refine (HFL.out).mono ?_); rintro e w6 ⟨rfl, hgr, hbad⟩; have HDR6 := Lib.hid (HDR5.out.call hne hlo ((FrP.of_grown hgr).mono (fun b _ e => by injection e))); have HBAD := Lib.hid hbad; clear hgr hbad)
            obtain ⟨s9, lv9, a9, nv9, hbad⟩ := HBAD.out
            clear r0 r1 r2 r3 r4 r5 rf0 rf1 rf2 rf3 rf4 rf5 hrl
            obtain ⟨⟨r0, r1, r2, r3, r4, r5⟩, -⟩ := row6 hbad
            have hrl := (Array.getElem?_eq_some_iff.1 hbad).1
            have HBL := Lib.hid HDR6.out.bl
            clear hbad
            obtain ⟨pl, hpl⟩ : ∃ pl, placeT (bs s) (l.drop a1) = pl := ⟨_, rfl⟩
            rw [hpl] at hRe r5
            clear hpl
            go_upto_region 13 with fail
            go_region
            all_goals go_wp2_with fail
            all_goals go_ret3
            all_goals exact ⟨HBL.out.drew, [], .slice none 0 0, pl, 2, rfl, ⟨none, 0, rfl, .inl rfl⟩, by omega, by rw [HRX.out, hRe]; exact ⟨.inl rfl, rfl, rfl, rfl⟩⟩
        · have jb : ((l.length : Int) ≤ (a1 : Int)) := by omega
          have hRe := HFA.out (by rw [List.drop_eq_nil_of_le (by omega)]; rfl)
          clear hrd5 hnm5
          go_upto_region 12 with (go_at_call 21; (with_reducible refine (HFL.out).mono ?_); rintro e w6 ⟨rfl, hgr, hbad⟩; have HDR6 := Lib.hid (HDR5.out.call hne hlo ((FrP.of_grown hgr).mono (fun b _ e => by injection e))); have HBAD := Lib.hid hbad; clear hgr hbad)
          obtain ⟨s9, lv9, a9, nv9, hbad⟩ := HBAD.out
          clear r0 r1 r2 r3 r4 r5 rf0 rf1 rf2 rf3 rf4 rf5 hrl
          obtain ⟨⟨r0, r1, r2, r3, r4, r5⟩, -⟩ := row6 hbad
          have hrl := (Array.getElem?_eq_some_iff.1 hbad).1
          have HBL := Lib.hid HDR6.out.bl
          clear hbad
          obtain ⟨pl, hpl⟩ : ∃ pl, placeT (bs s) (l.drop a1) = pl := ⟨_, rfl⟩
          rw [hpl] at hRe r5
          clear hpl
          go_upto_region 13 with fail
          go_region
          all_goals go_wp2_with fail
          all_goals go_ret3
          all_goals exact ⟨HBL.out.drew, [], .slice none 0 0, pl, 2, rfl, ⟨none, 0, rfl, .inl rfl⟩, by omega, by rw [HRX.out, hRe]; exact ⟨.inl rfl, rfl, rfl, rfl⟩⟩
    · have ja : ((a : Int) < (l.length : Int)) = False := by simp only [eq_iff_iff, iff_false]; omega
      rw [List.drop_eq_nil_of_le (by omega), clsE_nil] at hres
      have hRe : R = .ok acc := hres.symm
      obtain ⟨xs, ho, hc⟩ := hown
      have HF : Hid (DlsPost w (bs s) (.returned (.tuple #[v, .int .i64 (0 : Nat), .int .i64 (0 : Nat)])) wr) := Lib.hid ⟨hbl, acc, v, 0, 0, rfl, dclsIn_of rfl ho hc, by omega, by rw [HRX.out, hRe]; exact ⟨rfl, rfl, rfl⟩⟩
      clear hres hRe ho hc hbl hrd hcc HQ hnm0
      go_wp2_with fail
      go_ret3
      exact HF.out
end Go.Proofs.YtilfglcjcmpfeaaGreatDoor
