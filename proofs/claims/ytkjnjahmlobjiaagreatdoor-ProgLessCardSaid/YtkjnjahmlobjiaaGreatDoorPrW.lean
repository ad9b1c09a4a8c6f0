/-
  The program's Clauses.
-/
import Derived.Test.YtkjnjahmlobjiaaGreatDoorG23
import Derived.Test.YtkjnjahmlobjiaaGreatDoorLpH
import Derived.Test.YtkjnjahmlobjiaaGreatDoorG01
namespace Go.Proofs.YtkjnjahmlobjiaaGreatDoor
open Go.RowKit

theorem Tryz.infoCl : (Tryz.prog.info? 67).map (fun i => (i.zero, i.size, i.bytes)) = some (some (.agg #[.int .i64 0, .string ⟨#[]⟩, .int .i64 0, .slice none 0 0, .slice none 0 0]), 5, 80) := by kernel_rfl
theorem place_tk {S : List UInt8} {z : Nat} {ts : Toks} (hz : z = S.length) : (tkAt z ts 0).2 = placeT S ts := by
  cases ts with
  | nil => exact hz
  | cons x r => rfl
/-- What the call leaves alone: what was there, the reader, the row. -/
def XC (lo rb : Nat) (v : Value) (b : Nat) : Prop := b < lo ∨ b = rb ∨ v.ownBlock = some b
/-- A row of clauses, all in blocks from one on. -/
def clsInL (lo : Nat) (w : World) (B : Nat) (l : List Cl) (sv : Value) : Prop := ∃ g cap, sv = .slice g l.length cap ∧ (l = [] ∨ ∃ b off xs, g = some ⟨b, off, none⟩ ∧ lo ≤ b ∧ b < B ∧ clcP w (fun x => lo ≤ x ∧ x < B) l xs ∧ ∀ j u, xs[j]? = some u → w.cell? ⟨b, off + j, none⟩ = some u)
theorem clsInL.less {lo : Nat} {w : World} {B : Nat} {l : List Cl} {sv : Value} (h : clsInL lo w B l sv) : clsIn w B l sv := by
  obtain ⟨g, cap, e, h⟩ := h
  refine ⟨g, cap, e, h.imp id ?_⟩
  rintro ⟨b, off, xs, e, _, hb', h1, h2⟩
  exact ⟨b, off, xs, e, hb', clcP_same (fun x hx => hx.2) (fun _ _ _ _ h => h) _ _ h1, h2⟩
/-- What the program's Clauses is to say. -/
def ClsPost (w : World) (S : List UInt8) (e : Ending) (w' : World) : Prop :=
  Below w.heap.size w w' ∧ ∃ (l : List Cl) (sv : Value) (b c : Nat), e = .returned (.tuple #[sv, .int .i64 (b : Nat), .int .i64 (c : Nat)]) ∧ clsInL w.heap.size w' w'.heap.size l sv ∧ c ≤ 3 ∧
    (match readE S with
      | .error (k, pl) => (k = 2 ∨ k = 3) ∧ c = k ∧ b = pl ∧ l = []
      | .ok l' => c = 0 ∧ b = 0 ∧ l = l')
/-- The head of the loop. -/
structure ClQ (w : World) (rb z : Nat) (S : List UInt8) (R : Except (Nat × Nat) (List Cl)) (gf : Nat) (acc : List Cl) (ts : Toks) (v : Value) (wx : World) : Prop where
  res : accC acc (clsE S gf ts) = R
  fuel : ts.length < gf
  few : acc.length + ts.length ≤ 20000
  good : Good S ts
  rd : PRz (XC w.heap.size rb v) wx rb z ts
  own : ∃ xs, wx.ownsRow w.heap.size 67 5 v acc.length xs ∧ clcP wx (okN (XC w.heap.size rb v) wx) acc xs
  ne : v.ownBlock ≠ some rb
  lo : w.heap.size ≤ rb
  bl : Below w.heap.size w wx
theorem ClQ.next {w : World} {rb z : Nat} {S : List UInt8} {R : Except (Nat × Nat) (List Cl)} {gf : Nat} {acc : List Cl} {ts : Toks} {v : Value} {wx wy : World} (h : ClQ w rb z S R gf acc ts v wx) (hb : Below wx.heap.size wx wy) : ClQ w rb z S R gf acc ts v wy := by
  obtain ⟨xs, ho, hc⟩ := h.own
  have hf := FrP.of_below hb
  exact ⟨h.res, h.fuel, h.few, h.good, h.rd.mv hf (fun _ h => h.elim) (fun _ hx => .inl hx) h.rd.own, ⟨xs, ownsRow_mv ho hf (fun _ _ h => h), clcP_same (okN_mv hf (fun _ hx => .inl hx)) (cell_mv hf (X := XC w.heap.size rb v) (fun _ h => h.elim)) _ _ hc⟩, h.ne, h.lo, h.bl.trans (hb.mono h.bl.size)⟩
/-- What a clause's call leaves. -/
structure ClR (w : World) (rb z : Nat) (acc : List Cl) (ts : Toks) (v : Value) (wx : World) : Prop where
  rd : PRz (XC w.heap.size rb v) wx rb z ts
  own : ∃ xs, wx.ownsRow w.heap.size 67 5 v acc.length xs ∧ clcP wx (okN (XC w.heap.size rb v) wx) acc xs
  bl : Below w.heap.size w wx
theorem ClQ.call {w : World} {rb z : Nat} {S : List UInt8} {R : Except (Nat × Nat) (List Cl)} {gf : Nat} {acc : List Cl} {ts ts' : Toks} {v : Value} {wx wy : World} (h : ClQ w rb z S R gf acc ts v wx) (hr : PRz (XC w.heap.size rb v) wy rb z ts') (hf : FrP (fun b => b = rb) wx wy) : ClR w rb z acc ts' v wy := by
  obtain ⟨xs, ho, hc⟩ := h.own
  have hP : ∀ b, b = rb → (XC w.heap.size rb v) b := fun b e => .inr (.inl e)
  refine ⟨hr, ⟨xs, ownsRow_mv ho hf (fun b hb e => h.ne (by rw [← e]; exact hb)), clcP_same (okN_mv hf (fun _ hx => .inl hx)) (cell_mv hf hP) _ _ hc⟩, h.bl.trans ?_⟩
  have h1 : FrP (fun b => w.heap.size ≤ b) wx wy := hf.mono (fun b _ e => by have := h.lo; omega)
  exact h1.to_below h.bl.size
theorem ClR.next {w : World} {rb z : Nat} {acc : List Cl} {ts : Toks} {v : Value} {wx wy : World} (h : ClR w rb z acc ts v wx) (hb : Below wx.heap.size wx wy) : ClR w rb z acc ts v wy := by
  obtain ⟨xs, ho, hc⟩ := h.own
  have hf := FrP.of_below hb
  exact ⟨h.rd.mv hf (fun _ h => h.elim) (fun _ hx => .inl hx) h.rd.own, ⟨xs, ownsRow_mv ho hf (fun _ _ h => h), clcP_same (okN_mv hf (fun _ hx => .inl hx)) (cell_mv hf (X := XC w.heap.size rb v) (fun _ h => h.elim)) _ _ hc⟩, h.bl.trans (hb.mono h.bl.size)⟩
theorem news5 (w : World) (k : Int) (nm : ByteArray) (n : Int) (sv nv : Value) (T : TypeId) (b : Nat) (hb : b = w.heap.size) : ∀ j u, ([.int .i64 k, .string nm, .int .i64 n, sv, nv] : List Value)[j]? = some u → (w.alloc (.cells #[.int .i64 k, .string nm, .int .i64 n, sv, nv] T)).cell? ((⟨b, 0, none⟩ : Addr).add j) = some u := by
  intro j u hj
  have h := newBlk w (.cells #[.int .i64 k, .string nm, .int .i64 n, sv, nv] T) b hb
  rw [Addr.add_lit]
  simp only [World.cell?, h, Nat.zero_add]
  simpa using hj
/-- One more clause in the row. -/
theorem ClR.app {w U W5 : World} {rb z : Nat} {acc : List Cl} {ts : Toks} {v v5 : Value} {xs : List Value} {t : Tm} {ns : Names} {k : Int} {nm : ByteArray} {n : Int} {sv nv : Value} {S : List UInt8} {R : Except (Nat × Nat) (List Cl)} {gf : Nat}
    (h : ClR w rb z acc ts v U) (hne : v.ownBlock ≠ some rb) (hlo : w.heap.size ≤ rb) (hc : clcP U (okN (XC w.heap.size rb v) U) acc xs) (htv : TV (XC w.heap.size rb v) U (some t) k nm n sv) (hnm : namesP U (okN (XC w.heap.size rb v) U) ns nv)
    (hg : U.grownBy W5 v.ownBlock) (ho : W5.ownsRow w.heap.size 67 5 v5 (acc.length + 1) (xs ++ [.int .i64 k, .string nm, .int .i64 n, sv, nv])) (h5 : ∀ b, v5.ownBlock = some b → v.ownBlock = some b ∨ U.heap.size ≤ b)
    (hvo : ∀ b, v.ownBlock = some b → w.heap.size ≤ b) (hR : accC (acc ++ [(t, ns)]) (clsE S gf ts) = R) (hf : ts.length < gf) (hfew : (acc ++ [(t, ns)]).length + ts.length ≤ 20000) (hgd : Good S ts) :
    ClQ w rb z S R gf (acc ++ [(t, ns)]) ts v5 W5 := by
  have hf1 : FrP (fun b => v.ownBlock = some b) U W5 := (FrP.of_grown hg).mono (fun b _ e => e.symm)
  have hX : ∀ b, XC w.heap.size rb v5 b → XC w.heap.size rb v b ∨ (U.heap.size ≤ b ∧ b < W5.heap.size) := fun b hx => by
    rcases hx with hx | hx | hx
    · exact .inl (.inl hx)
    · exact .inl (.inr (.inl hx))
    · rcases h5 b hx with h1 | h1
      · exact .inl (.inr (.inr h1))
      · exact .inr ⟨h1, (ho.lt b hx).2⟩
  have hX1 : ∀ b, XC w.heap.size rb v5 b → XC w.heap.size rb v b ∨ U.heap.size ≤ b := fun b hx => (hX b hx).imp id And.left
  have hP : ∀ b, v.ownBlock = some b → XC w.heap.size rb v b := fun b e => .inr (.inr e)
  refine ⟨hR, hf, hfew, hgd, h.rd.mv hf1 (fun b e => ⟨.inr (.inr e), fun e2 => hne (by rw [← e2]; exact e)⟩) hX (.inr (.inl rfl)), ⟨_, by simpa using ho, ?_⟩, fun e => ?_, hlo, h.bl.trans ?_⟩
  · obtain ⟨e1, e2, e3, e4⟩ := htv.2.2.2 t rfl
    subst e1 e2 e3
    exact clcP_snoc (Tm.innP_same (okN_mv hf1 hX1) (cell_mv hf1 hP) _ _ e4) (namesP_same (okN_mv hf1 hX1) (cell_mv hf1 hP) hnm) _ _ (clcP_same (okN_mv hf1 hX1) (cell_mv hf1 hP) _ _ hc)
  · rcases h5 rb e with h1 | h1
    · exact hne h1
    · have := h.rd.lt
      omega
  · exact (hf1.mono (Q := fun b => w.heap.size ≤ b) (fun b _ e => hvo b e)).to_below h.bl.size
theorem clsIn_of {w : World} {B base rb : Nat} {l : List Cl} {v : Value} {xs : List Value} (hB : B = w.heap.size) (h : w.ownsRow base 67 5 v l.length xs) (hc : clcP w (okN (XC base rb v) w) l xs) : clsInL base w B l v := by
  subst hB
  rcases h.2 with ⟨hv, h0⟩ | ⟨g, cap, cur, hv, _, hg, _⟩
  · exact ⟨none, 0, by rw [hv, h0], .inl (List.eq_nil_of_length_eq_zero h0)⟩
  · have hob : v.ownBlock = some g := by rw [hv]; rfl
    refine ⟨some ⟨g, 0, none⟩, cap, hv, .inr ⟨g, 0, xs, rfl, (h.lt g hob).1, (h.lt g hob).2, clcP_same (fun b hb => ⟨Nat.le_of_not_lt fun h9 => hb.1 (.inl h9), hb.2⟩) (fun _ _ _ _ h => h) _ _ hc, fun j u hj => ?_⟩⟩
    have := World.ownsRow.cells h (g := g) hob j u hj
    rw [Addr.add_lit] at this
    simpa using this
theorem ClQ.start {w w1 : World} {S : List UInt8} {R : Except (Nat × Nat) (List Cl)} {l : Toks} {g : Option Addr} {n cap z : Nat} (hb : Below w.heap.size w w1) (ht : toksIn w1 w1.heap.size l (.slice g n cap)) (hnc : n ≤ cap) (hcap : cap ≤ 9223372036854775807) (hlo : ∀ b, (Value.slice g n cap).ownBlock = some b → w.heap.size ≤ b) (hR : accC [] (clsE S (l.length + 1) l) = R) (hg : Good S l) (hl : l.length ≤ 20000) (_hz : S.length = z) :
    ClQ w w1.heap.size z S R (l.length + 1) [] l (.slice none 0 0) (w1.alloc (.cells #[.slice g n cap, .int .i64 (z : Nat), .slice none 0 0, .int .u32 0, .int .i32 0, .int .u32 0, .map none] 101)) := by
  have hnew := newBlk w1 (.cells #[.slice g n cap, .int .i64 (z : Nat), .slice none 0 0, .int .u32 0, .int .i32 0, .int .u32 0, .map none] 101) w1.heap.size rfl
  have hb2 : Below w1.heap.size w1 (w1.alloc (.cells #[.slice g n cap, .int .i64 (z : Nat), .slice none 0 0, .int .u32 0, .int .i32 0, .int .u32 0, .map none] 101)) := (Below.refl _ _).alloc (Nat.le_refl _) _
  refine ⟨hR, Nat.lt_succ_self _, by simpa using hl, hg, ⟨⟨_, _, _, 0, 0, hnew, ⟨?_, _, _, _, rfl, hnc, hcap⟩, .inl ⟨rfl, rfl⟩⟩, .inr (.inl rfl), fun b hx => ?_⟩, ⟨[], World.ownsRow_nil _ _ _ _, rfl⟩, fun h => by simp [Value.ownBlock] at h, hb.size, hb.trans (hb2.mono hb.size)⟩
  · obtain ⟨g', cap', he, h⟩ := ht
    refine ⟨g', cap', he, h.imp id ?_⟩
    rintro ⟨b, off, e, hlt, h⟩
    have hc : ∀ o, (w1.alloc (.cells #[.slice g n cap, .int .i64 (z : Nat), .slice none 0 0, .int .u32 0, .int .i32 0, .int .u32 0, .map none] 101)).cell? ⟨b, o, none⟩ = w1.cell? ⟨b, o, none⟩ := fun o => hb2.cell (p := ⟨b, o, none⟩) hlt
    refine ⟨b, off, e, ⟨fun hx => ?_, Nat.lt_of_lt_of_le hlt hb2.size⟩, fun i hi => ?_⟩
    · injection he with e1
      rcases hx with hx | hx | hx
      · have := hlo b (by rw [e1, e]; rfl)
        omega
      · omega
      · simp [Value.ownBlock] at hx
    · rw [hc, hc, hc, hc, hc]
      exact h i hi
  · rcases hx with hx | hx | hx
    · have := hb.size
      have := hb2.size
      omega
    · subst hx
      simp
    · simp [Value.ownBlock] at hx
set_option maxRecDepth 100000 in
set_option maxHeartbeats 8000000 in
theorem clauses_p (s : ByteArray) (w : World) (hr : Rng w) (hs : s.size ≤ 1000000) (hg : ∀ ts, lexL false 0 (bs s) = .inr ts → s.size ≤ 8000 → Good (bs s) ts) :
    Calls Tryz.prog 28 #[.string s] w fun e w' => ClsPost w (bs s) e w' := by
  obtain ⟨R, hR⟩ : ∃ R, readE (bs s) = R := ⟨_, rfl⟩
  have HR := Lib.hid hR
  have HG := Lib.hid hg
  have HLX := Lib.hid (lex_own s w hr hs)
  have hbs := bs_length s
  clear hR hg hr
  go_enter Tryz.func28, Tryz.ntmps28
  go_upto_region 2 with (go_at_call 44; (with_reducible refine (HLX.out).mono ?_); rintro e w1 ⟨⟨hb, l, sv, b, c, he, htk, hl, hbl, hcs⟩, g, n, cap, u9, v9, he2, hnc, hcap, hlob⟩; rw [he] at he2; injection he2 with he2; injection he2 with he2; obtain ⟨h1, h2, h3⟩ : sv = .slice g n cap ∧ (.int .i64 (b : Nat)) = u9 ∧ (.int .i64 (c : Nat)) = v9 := (by simpa using he2); subst h1 h2 h3 he; have HB := Lib.hid hb; have HTK := Lib.hid htk; have HCS := Lib.hid hcs; clear hb htk hcs he2)
  have hcases : (R = .error (c, b) ∧ l = [] ∧ (c = 2 ∨ c = 3)) ∨ (s.size ≤ 8000 ∧ lexL false 0 (bs s) = .inr l ∧ b = 0 ∧ c = 0) := by
    have h0 := HR.out
    unfold readE at h0
    rcases HCS.out with ⟨h1, h2, h3, h4⟩ | ⟨h1, h2, h3, h4⟩ | h1
    · rw [if_pos (by omega)] at h0
      subst h3 h4
      exact .inl ⟨h0.symm, h2, .inr rfl⟩
    · rw [if_neg (by omega), h2] at h0
      subst h4
      exact .inl ⟨h0.symm, h3, .inl rfl⟩
    · exact .inr h1
  rcases hcases with ⟨hRe, hl0, hc0⟩ | ⟨hz, hlx, hb0, hc0⟩
  · have hcd : ((c : Int) == 0) = false := by rw [beq_eq_false_iff_ne]; omega
    have hcd2 : ((c : Int) != 0) = true := by simp [bne, hcd]
    subst hRe hl0
    go_wp2_with fail
    go_ret3
    refine ⟨HB.out, [], .slice none 0 0, b, c, rfl, ⟨none, 0, rfl, .inl rfl⟩, by omega, ?_⟩
    rw [HR.out]
    exact ⟨hc0, rfl, rfl, rfl⟩
  subst hb0 hc0
  have HGD := Lib.hid (HG.out l hlx hz)
  have hRe : accC [] (clsE (bs s) (l.length + 1) l) = R := by
    rw [accC_nil, ← HR.out]
    unfold readE
    rw [if_neg (by omega), hlx]
  have HRE := Lib.hid hRe
  have HRX := Lib.hid HR.out
  clear hRe hlx HCS
  have hsz : (s.size : Int) ≤ 8000 := by omega
  go_upto_region 5 with fail
  have HQ0 := Lib.hid (ClQ.start HB.out HTK.out hnc hcap hlob HRE.out HGD.out (by omega) hbs)
  have hzl := HB.out.size
  clear HTK hbl
  obtain ⟨rb, hrb⟩ : ∃ rb, w1.heap.size = rb := ⟨_, rfl⟩
  obtain ⟨w2, hw2⟩ : ∃ w2, w1.alloc (.cells #[.slice g n cap, .int .i64 (s.size : Nat), .slice none 0 0, .int .u32 0, .int .i32 0, .int .u32 0, .map none] 101) = w2 := ⟨_, rfl⟩
  rw [hw2, hrb] at HQ0
  rw [hw2, hrb]
  rw [hrb] at hzl
  clear hw2 hrb
  go_wp2_with fail
  go_loopg [9] (l.length + 1) (fun gf s9 wx => ∃ (acc : List Cl) (ts : Toks) (v : Value), s9 = v ∧ Hid (ClQ w rb s.size (bs s) R gf acc ts v wx))
  case atStart =>
    exact ⟨[], l, .slice none 0 0, rfl, HQ0⟩
  case round =>
    clear HQ0 HRE HGD HB HG HR
    obtain ⟨acc, ts, v, hs9, HQ⟩ := hrel
    obtain rfl : v = _ := hs9.symm
    obtain ⟨hres, hfuel, hfew, hgood, hrd, hown, hne, hlo, hbl⟩ := HQ.out
    obtain ⟨tv, nv, mv, d, q, hcc, ⟨⟨g2, cap2, htv, -⟩, -⟩, -⟩ := hrd.cells
    subst htv
    obtain ⟨⟨r0, r1, r2, r3, r4, r5, r6⟩, -⟩ := row7 hcc
    have hrl := (Array.getElem?_eq_some_iff.1 hcc).1
    obtain ⟨gk, rfl⟩ : ∃ q, gk = q + 1 := ⟨gk - 1, by omega⟩
    cases ts with
    | nil =>
      rw [clsE_nil] at hres
      have hRe : R = .ok acc := hres.symm
      obtain ⟨xs, ho, hc⟩ := hown
      have HF : Hid (ClsPost w (bs s) (.returned (.tuple #[v, .int .i64 (0 : Nat), .int .i64 (0 : Nat)])) wr) := Lib.hid ⟨hbl, acc, v, 0, 0, rfl, clsIn_of rfl ho hc, by omega, by rw [HRX.out, hRe]; exact ⟨rfl, rfl, rfl⟩⟩
      clear hres hRe ho hc hbl hrd hcc HQ
      go_wp2_with fail
      go_ret3
      exact HF.out
    | cons x r =>
      obtain ⟨x0, hx0⟩ : ∃ x0, tkAt s.size (x :: r) 0 = x0 := ⟨_, rfl⟩
      obtain rfl : x = x0 := hx0
      have hl1 : (x :: r).length ≤ 1000000 := by omega
      have jl : (0 : Int) < (((x :: r).length : Nat) : Int) := by simp only [List.length_cons]; omega
      have hfl := fun w => Tryz.fieldTk3 (x.1.kind : Nat) (x.1.n : Nat) (x.2 : Nat) ⟨x.1.text.toArray⟩ x.1.opn w
      have HAH := Lib.hid (aheadz0 wr rb s.size (x :: r) x rfl hrd)
      have HFX := Lib.hid (hgood.head)
      have HGD := Lib.hid hgood
      have HRES := Lib.hid hres
      clear hres hown hrd hcc hbl hgood
      go_upto_region 8 with (go_at_call 45; (with_reducible refine (HAH.out).mono ?_); rintro e w3 ⟨rfl, hb⟩; have HQ3 := Lib.hid (HQ.out.next hb); clear hb)
      clear r0 r1 r2 r3 r4 r5 r6 HAH HQ
      obtain ⟨p1, p2, p3, p4, p5, p6, p7, p8, p9⟩ := HQ3.out
      have HCLA := Lib.hid (clause_p w3 rb s.size (bs s) (x :: r) p5 ⟨p4, by simp [NoUs], by rw [FF_eq]; omega, by have : ([] : Names).length = 0 := rfl; omega, hl1, hbs.symm, by omega⟩)
      clear p1 p2 p3 p4 p5 p6 p7 p8 p9
      go_upto_region 9 with (go_at_call 46; (with_reducible refine (HCLA.out).mono ?_); rintro e w4 ⟨k, nm, n, g, m, c, gn, mn, cn, cd, ts2, rfl, hz4, hf4, hpost⟩; have HCR4 := Lib.hid (HQ3.out.call hz4 hf4); have HPO := Lib.hid hpost; clear hz4 hf4 hpost)
      have hb5 : Below w4.heap.size w4 (w4.alloc (.cells #[.int .i64 k, .string nm, .int .i64 n, .slice g m c, .slice gn mn cn] 67)) := (Below.refl _ _).alloc (Nat.le_refl _) _
      have hcb := newBlk w4 (.cells #[.int .i64 k, .string nm, .int .i64 n, .slice g m c, .slice gn mn cn] 67) w4.heap.size rfl
      have hcl5 : w4.heap.size < (w4.alloc (.cells #[.int .i64 k, .string nm, .int .i64 n, .slice g m c, .slice gn mn cn] 67)).heap.size := by simp
      have HCR5 := Lib.hid (HCR4.out.next hb5)
      obtain ⟨w5, hw5⟩ : ∃ w5, w4.alloc (.cells #[.int .i64 k, .string nm, .int .i64 n, .slice g m c, .slice gn mn cn] 67) = w5 := ⟨_, rfl⟩
      obtain ⟨cb, hcbe⟩ : ∃ cb, w4.heap.size = cb := ⟨_, rfl⟩
      cases hcl : clE (bs s) (x :: r) with
      | error e =>
        obtain ⟨c9, pl⟩ := e
        have h0 := HPO.out
        rw [hcl] at h0
        obtain ⟨h1, h2, h3⟩ := h0
        subst h1
        rw [hw5] at hb5 hcb hcl5 HCR5 ⊢
        rw [hcbe] at hcb hcl5 ⊢
        obtain ⟨x9, hx9⟩ : ∃ x9, tkAt s.size ts2 0 = x9 := ⟨_, rfl⟩
        have hpl : x9.2 = pl := by rw [← hx9, place_tk hbs.symm, h3]
        subst hpl
        have hRe : R = .error (cd, x9.2) := by rw [← HRES.out, clsE_err hcl]
        have hcd : ((cd : Int) == 0) = false := by rw [beq_eq_false_iff_ne]; omega
        have hcd2 : ((cd : Int) != 0) = true := by simp [bne, hcd]
        have hfl9 := fun w => Tryz.fieldTk3 (x9.1.kind : Nat) (x9.1.n : Nat) (x9.2 : Nat) ⟨x9.1.text.toArray⟩ x9.1.opn w
        have HAH := Lib.hid (aheadz0 w5 rb s.size ts2 x9 hx9 HCR5.out.rd)
        clear hw5 hcbe hx9 h3 hcl
        go_wp2_with (go_at_call 45; (with_reducible refine (HAH.out).mono ?_); rintro e w6 ⟨rfl, hb⟩; have HCR6 := Lib.hid (HCR5.out.next hb); clear hb)
        go_ret3
        exact ⟨HCR6.out.bl, [], .slice none 0 0, x9.2, cd, rfl, ⟨none, 0, rfl, .inl rfl⟩, by omega, by rw [HRX.out, hRe]; exact ⟨h2, rfl, rfl, rfl⟩⟩
      | ok p =>
        obtain ⟨t, r', ns⟩ := p
        have h0 := HPO.out
        rw [hcl] at h0
        obtain ⟨h1, h2, htv, hnm⟩ := h0
        subst h1 h2
        obtain ⟨hl2, hsuf, hsize⟩ := cl_went hcl
        have htv5 := htv.mv (FrP.of_below hb5) (fun _ h => h.elim) (X' := XC w.heap.size rb v) (fun _ hx => .inl hx)
        have hnm5 := namesP_same (okN_mv (FrP.of_below hb5) (X := XC w.heap.size rb v) (X' := XC w.heap.size rb v) (fun _ hx => .inl hx)) (cell_mv (FrP.of_below hb5) (X := XC w.heap.size rb v) (fun _ h => h.elim)) hnm
        rw [hw5] at hb5 hcb hcl5 HCR5 htv5 hnm5 ⊢
        rw [hcbe] at hcb hcl5 ⊢
        clear htv hnm hw5 hcbe hb5 HCR4 HPO
        obtain ⟨e1, e2, e3, hin⟩ := htv5.2.2.2 t rfl
        have hinn : Tm.inn w5 w5.heap.size t (.slice g m c) := Tm.inn_of_P (fun b hb => hb.2) t _ hin
        have HRI := Lib.hid (tright_any t w5 (.slice g m c) hinn (by omega))
        rw [← e1, ← e2, ← e3] at HRI
        have HTV5 := Lib.hid htv5
        have HNM5 := Lib.hid hnm5
        have HCL := Lib.hid hcl
        have HCB := Lib.hid hcb
        obtain ⟨⟨c0, c1, c2, c3, c4⟩, -⟩ := row5f hcb
        clear htv5 hnm5 e1 e2 e3 hin hinn hcl hcb
        cases hri : t.right with
        | false =>
          rw [hri] at HRI
          have hRe : R = .error (3, x.2) := by rw [← HRES.out, clsE_wrong HCL.out hri]
          clear hri
          go_wp2_with (go_at_call 35; (with_reducible refine (HRI.out).mono ?_); rintro e w6 ⟨rfl, hb⟩; have HCR6 := Lib.hid (HCR5.out.next hb); clear hb)
          go_ret3
          exact ⟨HCR6.out.bl, [], .slice none 0 0, x.2, 3, rfl, ⟨none, 0, rfl, .inl rfl⟩, by omega, by rw [HRX.out, hRe]; exact ⟨.inr rfl, rfl, rfl, rfl⟩⟩
        | true =>
          rw [hri] at HRI
          have hres2 := (clsE_next (S := bs s) (f := gk) (acc := acc) HCL.out hri).symm.trans HRES.out
          have HRES2 := Lib.hid hres2
          clear hri hres2
          go_upto_region 13 with (go_at_call 35; (with_reducible refine (HRI.out).mono ?_); rintro e w6 ⟨rfl, hb⟩; have HCR6 := Lib.hid (HCR5.out.next hb); have HCB6 := Lib.hid ((hb.block _ hcl5).trans HCB.out); have HTV6 := Lib.hid (HTV5.out.mv (FrP.of_below hb) (fun _ h => h.elim) (X' := XC w.heap.size rb v) (fun _ hx => .inl hx)); have HNM6 := Lib.hid (namesP_same (okN_mv (FrP.of_below hb) (X := XC w.heap.size rb v) (X' := XC w.heap.size rb v) (fun _ hx => .inl hx)) (cell_mv (FrP.of_below hb) (X := XC w.heap.size rb v) (fun _ h => h.elim)) HNM5.out); clear hb)
          clear c0 c1 c2 c3 c4
          obtain ⟨hres, hfuel, hfew, hgood, hrd, hown, hne, hlo, hbl⟩ := HQ3.out
          obtain ⟨xs, ho, hc⟩ := HCR6.out.own
          have HOW := Lib.hid ho
          have HCE := Lib.hid hc
          have HNE := Lib.hid hne
          have HLO := Lib.hid hlo
          have HGO := Lib.hid (hgood.suf hsuf)
          clear ho hc hres hgood hrd hown hne hbl hsuf
          obtain ⟨i0, hi, hz0, hz1, hz2⟩ := info_parts Tryz.infoCl
          obtain ⟨⟨c0, c1, c2, c3, c4⟩, -⟩ := row5f HCB6.out
          have hcb1 : cb < w6.heap.size := (Array.getElem?_eq_some_iff.1 HCB6.out).1
          have hWU : w.heap.size ≤ w6.heap.size := HCR6.out.bl.size
          have hfew2 : acc.length ≤ 20000 := by omega
          go_wp2_with (at_builtin; refine wpList_append_any rfl _ _ 63 rfl w.heap.size 67 i0 _ 5 80 Tryz.underlying63 hi hz0 hz1 hz2 rfl (by decide) v acc.length xs rfl (HOW.out.alloc _) (some ⟨w6.heap.size, 0, none⟩) 1 1 [.int .i64 k, .string nm, .int .i64 n, .slice g m c, .slice gn mn cn] rfl rfl (.inr ⟨_, rfl, news5 w6 _ _ _ _ _ _ _ rfl⟩) (by intro u hu; simp at hu; rcases hu with rfl | rfl | rfl | rfl | rfl <;> rfl) (by unfold maxLen; omega) (by omega) (by simp; omega) ?_)
          intro v5 W5 ho5 hg5 hs5
          have hgg := grown_trans (grown_allc w6 (.cells #[.int .i64 k, .string nm, .int .i64 n, .slice g m c, .slice gn mn cn] 67) v.ownBlock) hg5 (fun _ e => .inl e)
          have hq := ClR.app HCR6.out HNE.out HLO.out HCE.out HTV6.out HNM6.out hgg ho5 (fun b e => by
            rcases hs5 with h1 | h1
            · exact .inl (h1.symm.trans e)
            · rw [h1] at e
              injection e with e
              exact .inr (by omega)) (fun b e => (HOW.out.lt b e).1) HRES2.out (by omega) (by simp; omega) HGO.out
          have HQ5 := Lib.hid hq
          clear ho5 hg5 hs5 hgg hq c0 c1 c2 c3 c4 hcb1 hi hz0 hz1 hz2 HOW HCE HTV6 HNM6 HCR6
          go_wp2_with fail
          go_roundg gk
          case rel =>
            exact ⟨acc ++ [(t, ns)], ts2, v5, rfl, HQ5⟩
          case measure => exact Nat.lt_succ_self _
end Go.Proofs.YtkjnjahmlobjiaaGreatDoor
