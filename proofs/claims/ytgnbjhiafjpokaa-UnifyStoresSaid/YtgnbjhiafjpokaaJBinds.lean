/-
  The program's binds: what the parts say of the variables.
-/
import Derived.Test.YtgnbjhiafjpokaaJArgs
namespace Go.Proofs.Ytgnbjhiafjpokaa
open Go.RowKit Go.Shelf Go.Maps

theorem row6 {w : World} {b : Nat} {a0 a1 a2 a3 a4 a5 : Value} {t : TypeId} (h : w.heap[b]? = some (Obj.cells #[a0, a1, a2, a3, a4, a5] t (0, 0))) :
    w.cell? ⟨b, 0, none⟩ = some a0 ∧ w.cell? ⟨b, 1, none⟩ = some a1 ∧ w.cell? ⟨b, 2, none⟩ = some a2 ∧ w.cell? ⟨b, 3, none⟩ = some a3 ∧ w.cell? ⟨b, 4, none⟩ = some a4 ∧ w.cell? ⟨b, 5, none⟩ = some a5 := by
  simp [World.cell?, h]
def BindsPost (W : World) (lo B : Nat) (M : List PM) (ro : Nat → Nat) (e : Ending) (W' : World) : Prop :=
  ∃ (sv : Value) (xs : List Value), e = .returned sv ∧ Below lo W W' ∧ W'.ownsRow lo 33 5 sv (bsTo (psOf M) ro M.length).length xs ∧ cellsB W' (fun b => b < B) (bsTo (psOf M) ro M.length) xs
/-- While the binds are gathered. -/
structure BIter (W : World) (lo B pb sb mb K : Nat) (svL svW : Value) (M : List PM) (vm : Int → Option Nat) (work : List (Nat × Nat)) (ro d : Nat → Nat) (k : Nat) (sv : Value) (M' : List PM) (wr : World) : Prop where
  mem : JMem wr lo B pb sb mb K svL svW M' vm work
  fst : Fst (psOf M') ro d
  alike : AlikeM M M'
  below : Below lo W wr
  size : W.heap.size ≤ wr.heap.size
  row : ∃ xs, wr.ownsRow W.heap.size 33 5 sv (bsTo (psOf M) ro k).length xs ∧ cellsB wr (fun b => b < B) (bsTo (psOf M) ro k) xs
theorem BIter.away {W : World} {lo B pb sb mb K : Nat} {svL svW : Value} {M : List PM} {vm : Int → Option Nat} {work : List (Nat × Nat)} {ro d : Nat → Nat} {k : Nat} {sv : Value} {M' : List PM} {wr : World} (h : BIter W lo B pb sb mb K svL svW M vm work ro d k sv M' wr) (h0 : JMem W lo B pb sb mb K svL svW M vm work) : ∀ b, sv.ownBlock = some b → W.heap.size ≤ b ∧ b < wr.heap.size ∧ ¬ wrote pb mb svL svW b := fun b e => by
  obtain ⟨xs, h1, _⟩ := h.row
  have h2 := h1.lt b e
  refine ⟨h2.1, h2.2, fun hw => ?_⟩
  rcases hw with e' | e' | e' | e'
  · have := h0.plt; omega
  · have := h0.map.lt; omega
  · have := h0.row.lt _ e'; omega
  · have := h0.wk.lt _ e'; omega
theorem old_ks {W : World} {lo B pb sb mb K : Nat} {svL svW : Value} {M M' : List PM} {vm : Int → Option Nat} {work : List (Nat × Nat)} (h0 : JMem W lo B pb sb mb K svL svW M vm work) (ha : AlikeM M M') : ∀ x ∈ M', ∀ b, x.ks.ownBlock = some b → b < W.heap.size := fun x hx b e => by
  obtain ⟨i, hi, rfl⟩ := List.getElem_of_mem hx
  have hi' : i < M.length := by rw [← ha.len]; exact hi
  rw [(ha.at_ i hi' hi).2.2.2] at e
  rcases h0.kIn i hi' with ⟨_, e'⟩ | ⟨b', c', e', _, _, h3, _⟩
  · rw [e'] at e; cases e
  · rw [e'] at e
    have : b' = b := Option.some.inj e
    omega
/-- A part of which nothing is told. -/
theorem BIter.skip {W : World} {lo B pb sb mb K : Nat} {svL svW : Value} {M : List PM} {vm : Int → Option Nat} {work : List (Nat × Nat)} {ro d : Nat → Nat} {k : Nat} {sv : Value} {M' M'' : List PM} {wr wb w1 : World} (h : BIter W lo B pb sb mb K svL svW M vm work ro d k sv M' wr) (h0 : JMem W lo B pb sb mb K svL svW M vm work) (hlo : lo ≤ W.heap.size)
    (hb : Below wr.heap.size wr wb) (hf : JFr lo pb mb svL svW svL svW wb w1) (hm : JMem w1 lo B pb sb mb K svL svW M'' vm work) (hfs : Fst (psOf M'') ro d) (ha : AlikeM M' M'') (hk : ¬ ((pt (psOf M) k).t.kind = 1 ∧ ro k ≠ k)) : BIter W lo B pb sb mb K svL svW M vm work ro d (k + 1) sv M'' w1 := by
  have hs1 := hb.size
  have hs2 := hf.below.size
  have hsz := h.size
  have hBlo := h0.B
  obtain ⟨xs, h1, h2⟩ := h.row
  have e : bsTo (psOf M) ro (k + 1) = bsTo (psOf M) ro k := by rw [bsTo, if_neg hk, List.append_nil]
  have hbb := (hb.mono (show lo ≤ wr.heap.size by omega)).trans hf.below
  refine ⟨hm, hfs, h.alike.trans ha, h.below.trans hbb, by omega, xs, ?_, ?_⟩
  · rw [e]
    exact ownsRow_block h1 fun b eb => by
      have := h.away h0 b eb
      exact (hf.block b (by omega) this.2.2).trans (hb.block b this.2.1)
  · rw [e]
    exact cellsB_same (fun _ h => h) (fun b o v hlt hc => (World.cell?_of_block (a := ⟨b, o, none⟩) (hbb.block b (by omega))).trans hc) _ _ h2
theorem BIter.more {W : World} {lo B pb sb mb K : Nat} {svL svW : Value} {M : List PM} {vm : Int → Option Nat} {work : List (Nat × Nat)} {ro d : Nat → Nat} {k : Nat} {sv : Value} {M' M'' : List PM} {wr wb w1 wc w3 : World} (h : BIter W lo B pb sb mb K svL svW M vm work ro d k sv M' wr) (h0 : JMem W lo B pb sb mb K svL svW M vm work) (hlo : lo ≤ W.heap.size)
    (hb : Below wr.heap.size wr wb) (hf : JFr lo pb mb svL svW svL svW wb w1) (hm : JMem w1 lo B pb sb mb K svL svW M'' vm work) (hfs : Fst (psOf M'') ro d) (ha : AlikeM M' M'') (hk : (pt (psOf M) k).t.kind = 1 ∧ ro k ≠ k) {u : Tm} (hu : (pt (psOf M) (ro k)).t = u) {svu : Value} (hin : Tm.inn w1 B u svu) {xs : List Value} (_hx1 : wr.ownsRow W.heap.size 33 5 sv (bsTo (psOf M) ro k).length xs) (hx2 : cellsB wr (fun b => b < B) (bsTo (psOf M) ro k) xs)
    (hbc : Below w1.heap.size w1 wc) {v' : Value} (hown : w3.ownsRow W.heap.size 33 5 v' ((bsTo (psOf M) ro k).length + 1) (xs ++ [.int .i64 (pt (psOf M) k).t.n, .int .i64 u.kind, .string u.name, .int .i64 u.n, svu])) (hg : wc.grownBy w3 sv.ownBlock) : BIter W lo B pb sb mb K svL svW M vm work ro d (k + 1) v' M'' w3 := by
  have hs1 := hb.size
  have hs2 := hf.below.size
  have hs3 := hbc.size
  have hs4 := hg.size
  have hsz := h.size
  have hBlo := h0.B
  have e : bsTo (psOf M) ro (k + 1) = bsTo (psOf M) ro k ++ [⟨(pt (psOf M) k).t.n, u⟩] := by rw [bsTo, if_pos hk, hu]
  have hbb := (hb.mono (show lo ≤ wr.heap.size by omega)).trans hf.below
  have hbw : Below lo w1 w3 := (hbc.mono (show lo ≤ w1.heap.size by omega)).grown hg (by omega) (fun b eb => by have := h.away h0 b eb; omega)
  refine ⟨(hm.next hbc).away hg (fun b eb => ?_), hfs, h.alike.trans ha, (h.below.trans hbb).trans hbw, by omega, xs ++ [.int .i64 (pt (psOf M) k).t.n, .int .i64 u.kind, .string u.name, .int .i64 u.n, svu], ?_, ?_⟩
  · have h3 := h.away h0 b eb
    refine ⟨by omega, h3.2.2, fun x hx e' => ?_⟩
    have := old_ks h0 (h.alike.trans ha) x hx b e'
    omega
  · rw [e, List.length_append]
    exact hown
  · rw [e]
    have hbw2 := hbb.trans hbw
    refine cellsB_snoc (x := ⟨(pt (psOf M) k).t.n, u⟩) (innP_of_inn _ _ (Tm.inn_below hin hbw hBlo)) _ _ (cellsB_same (fun _ h => h) (fun b o v hlt hc => (World.cell?_of_block (a := ⟨b, o, none⟩) (hbw2.block b (by omega))).trans hc) _ _ hx2)

set_option maxRecDepth 100000 in
set_option maxHeartbeats 8000000 in
theorem binds_any {W : World} {lo B pb sb mb K : Nat} {svL svW : Value} {M : List PM} {vm : Int → Option Nat} {work : List (Nat × Nat)} {ro d : Nat → Nat} (h : JMem W lo B pb sb mb K svL svW M vm work) (hlo : lo ≤ W.heap.size) (hf : Fst (psOf M) ro d) (hM : M.length ≤ 100000000) :
    Calls Try.prog 87 #[.pointer (some ⟨pb, 0, none⟩)] W fun e W' => BindsPost W lo B M ro e W' := by
  obtain ⟨gL, cL, hsl⟩ := h.sliceL
  subst hsl
  have hpl := h.plt
  obtain ⟨⟨b0, b1, b2, b3⟩, bf0, bf1, bf2, bf3⟩ := row4 h.box
  have HJ := Lib.hid h
  have HF := Lib.hid hf
  clear h hf
  go_enter Try.func87, Try.ntmps87
  go_wp2_with fail
  go_loopw [3, 12] (fun sv ii wr => ∃ (k : Nat) (M' : List PM), k ≤ M.length ∧ ii = .int .i64 (k : Nat) ∧ Hid (BIter W lo B pb sb mb K (.slice gL M.length cL) svW M vm work ro d k sv M' wr)) (fun _ ii _ => M.length - (intOf ii).toNat)
  case atStart => exact ⟨0, M, Nat.zero_le _, rfl, ⟨HJ.out, HF.out, AlikeM.refl _, Below.refl _ _, Nat.le_refl _, [], World.ownsRow_nil _ _ _ _, rfl⟩⟩
  case round =>
    obtain ⟨k, M', hk, rfl, hbi⟩ := hrel
    have HB := Lib.hid hbi.out
    clear hbi
    by_cases hlt : k < M.length
    · have hlen := HB.out.alike.len
      have hk' : k < M'.length := by omega
      obtain ⟨g, c, hsl, _, hglt, hgp, g0, g1, g2, g3, g4, g5, fr⟩ := HB.out.mem.get k hk'
      injection hsl with e1 e2 e3
      subst e1
      obtain ⟨gt, ct, hts⟩ := inn_sl (HB.out.mem.tIn k hk')
      obtain ⟨gk, ck, hks⟩ := (HB.out.mem.kIn k hk').slice
      rw [hts] at g3
      rw [hks] at g4
      have hkM : M'[k].p.t = (pt (psOf M) k).t := by rw [(HB.out.alike.at_ k hlt hk').1, pt_psOf hlt]
      rw [hkM] at g0 g1 g2 g3
      obtain ⟨tk, htk⟩ : ∃ tk, (pt (psOf M) k).t = tk := ⟨_, rfl⟩
      rw [htk] at g0 g1 g2 g3
      obtain ⟨nk, hnk⟩ : ∃ nk, M'[k].p.args.length = nk := ⟨_, rfl⟩
      rw [hnk] at g4
      obtain ⟨sk, hsk⟩ : ∃ sk, M'[k].p.same = sk := ⟨_, rfl⟩
      rw [hsk] at g5
      have HTK := Lib.hid htk
      have hsz := HB.out.size
      have hal : Below wr.heap.size wr (wr.alloc (.cells #[.int .i64 tk.kind, .string tk.name, .int .i64 tk.n, .slice gt tk.args.length ct, .slice gk nk ck, .int .i64 (sk : Nat)] 140)) := (Below.refl _ _).alloc (Nat.le_refl _) _
      have hlast := last_any (HB.out.mem.next hal) HB.out.fst hk'
      have HLAST := Lib.hid hlast
      have HAL := Lib.hid hal
      have hi0 : (0 : Int) ≤ (k : Int) := by omega
      have hi1 : (k : Int) < (M.length : Int) := by omega
      have hnw : ¬ wrote pb mb (.slice (some ⟨g, 0, none⟩) M.length cL) svW wr.heap.size := fun hw => by
        have hw0 := HJ.out
        rcases hw with e | e | e | e
        · have := hw0.plt; omega
        · have := hw0.map.lt; omega
        · have := hw0.row.lt _ e; omega
        · have := hw0.wk.lt _ e; omega
      have HNW := Lib.hid hnw
      clear hsk hnk htk hkM hts hks hlen hlast hal hnw fr e2 e3
      go_wp2_with fail
      refine HLAST.out.mono ?_
      rintro e w1 ⟨rfl, hfr, M'', hj1, hf1, ha1⟩
      have hs1 : wr.heap.size + 1 ≤ w1.heap.size := by have := hfr.below.size; simpa using this
      have hbx1 := (hfr.block wr.heap.size (by simp) HNW.out).trans (newBlk wr (.cells #[.int .i64 tk.kind, .string tk.name, .int .i64 tk.n, .slice gt tk.args.length ct, .slice gk nk ck, .int .i64 (sk : Nat)] 140) _ rfl)
      obtain ⟨x0, x1, x2, x3, x4, x5⟩ := row6 hbx1
      obtain ⟨r, hr⟩ : ∃ r, ro k = r := ⟨_, rfl⟩
      have hrl : r < M.length := by
        have := HF.out.rlt (i := k) (by rw [psOf_length]; exact hlt)
        rw [psOf_length, hr] at this
        exact this
      have HFR := Lib.hid hfr
      have HJ1 := Lib.hid hj1
      have HF1 := Lib.hid hf1
      have HA1 := Lib.hid ha1
      have HR := Lib.hid hr
      rw [hr]
      have hskip : ¬ (tk.kind = 1 ∧ r ≠ k) → BIter W lo B pb sb mb K (.slice (some ⟨g, 0, none⟩) M.length cL) svW M vm work ro d (k + 1) u3 M'' w1 := fun hc =>
        HB.out.skip HJ.out hlo HAL.out hfr hj1 hf1 ha1 (by rw [HTK.out, hr]; exact hc)
      have HSKIP := Lib.hid hskip
      clear hfr hj1 hf1 ha1 hr hskip hbx1 HLAST
      by_cases hc : tk.kind = 1
      · have hcb : (tk.kind == 1) = true := by simp [hc]
        have HC := Lib.hid hc
        clear hc
        by_cases hrk : r = k
        · have hrb : ((r : Int) != (k : Int)) = false := by simp [hrk]
          have hfin := HSKIP.out (fun h => h.2 hrk)
          have HFIN := Lib.hid hfin
          clear hfin hrk
          go_wp2_with fail
          go_roundw
          case rel => exact ⟨k + 1, M'', by omega, by go_num, HFIN.out⟩
          case measure => simp [intOf]; omega
        · have hrb : ((r : Int) != (k : Int)) = true := by simp; omega
          have HRK := Lib.hid hrk
          have hlen2 := HA1.out.len
          have hlen1 := HB.out.alike.len
          have hr2 : r < M''.length := by omega
          obtain ⟨g2, c2, hsl2, _, _, _, y0, y1, y2, y3, _, _, _⟩ := HJ1.out.get r hr2
          have hgg : g2 = g := by injection hsl2 with e1; injection e1 with e2; injection e2 with e3; exact e3.symm
          rw [hgg] at y0 y1 y2 y3
          obtain ⟨gu, cu, htsu⟩ := inn_sl (HJ1.out.tIn r hr2)
          have hinu := HJ1.out.tIn r hr2
          rw [htsu] at y3 hinu
          have hru : (pt (psOf M) r).t = M''[r].p.t := by
            have h1 := (HB.out.alike.trans HA1.out).ps.t r
            rw [← h1, pt_psOf hr2]
          obtain ⟨u, hu⟩ : ∃ u, M''[r].p.t = u := ⟨_, rfl⟩
          rw [hu] at y0 y1 y2 y3 hinu hru
          obtain ⟨⟨q0, q1, q2, q3⟩, qf0, qf1, qf2, qf3⟩ := row4 HJ1.out.box
          obtain ⟨xs, hx1, hx2⟩ := HB.out.row
          obtain ⟨n0, hn0⟩ : ∃ n0, (bsTo (psOf M) ro k).length = n0 := ⟨_, rfl⟩
          have hn0l : n0 ≤ 100000000 := by have := bsTo_len (psOf M) ro k; omega
          have hrow : ∀ W1 : World, Below w1.heap.size w1 W1 → W1.ownsRow W.heap.size 33 5 u3 n0 xs := fun W1 h1 => by
            rw [← hn0]
            refine ownsRow_block hx1 fun b e => ?_
            have h2 := HB.out.away HJ.out b e
            have hs := HAL.out.size
            exact (h1.block b (by omega)).trans ((HFR.out.block b (by omega) h2.2.2).trans (HAL.out.block b h2.2.1))
          have hend : ∀ (W1 W3 : World) (v' : Value), Below w1.heap.size w1 W1 → W3.ownsRow W.heap.size 33 5 v' (n0 + 1) (xs ++ [.int .i64 tk.n, .int .i64 u.kind, .string u.name, .int .i64 u.n, .slice gu u.args.length cu]) → W1.grownBy W3 u3.ownBlock → BIter W lo B pb sb mb K (.slice (some ⟨g, 0, none⟩) M.length cL) svW M vm work ro d (k + 1) v' M'' W3 := fun W1 W3 v' h1 h2 h3 => by
            rw [← hn0] at h2
            have h4 := HTK.out
            refine HB.out.more HJ.out hlo HAL.out HFR.out HJ1.out HF1.out HA1.out ⟨by rw [h4]; exact HC.out, by rw [HR.out]; exact HRK.out⟩ (u := u) (by rw [HR.out]; exact hru) hinu hx1 hx2 h1 (by rw [h4]; exact h2) h3
          have hpl1 : pb < w1.heap.size := HJ1.out.plt
          have hWs : W.heap.size ≤ w1.heap.size := by omega
          have HROW := Lib.hid hrow
          have HEND := Lib.hid hend
          have hj0 : (0 : Int) ≤ (r : Int) := by omega
          have hj1 : (r : Int) < (M.length : Int) := by omega
          have hwl : wr.heap.size < w1.heap.size := by omega
          have hgl : g < w1.heap.size := by omega
          clear hrow hend hx1 hx2 hu hru hinu htsu hgg hsl2 hlen2 hlen1 hrk hn0
          go_wp2_with fail
          go_region_law ((refine step_append_row (by rfl) _ _ (by rfl) Try.underlying22 Try.infoBd rfl (by decide) W.heap.size u3 n0 xs (by rfl) (HROW.out _ (by first | exact ((Below.refl _ _).alloc (Nat.le_refl _) _).drew | exact (Below.refl _ _).alloc (Nat.le_refl _) _)) w1.heap.size 1 [.int .i64 tk.n, .int .i64 u.kind, .string u.name, .int .i64 u.n, .slice gu u.args.length cu] (by rfl) rfl (news_any _ (by first | rfl | simp)) (by simp [Value.oneCell']) (by unfold maxLen; omega) (by omega) (by simp; omega) ?_; intro g5 c5 w5 hown5 hgrow5 hsep5))
          all_goals go_wp2_with fail
          all_goals have hfin := HEND.out _ w5 _ ((Below.refl _ _).alloc (Nat.le_refl _) _).drew hown5 hgrow5
          all_goals have hms : M.length - (intOf (Value.int IntKind.i64 (↑k + 1))).toNat < M.length - (intOf (Value.int IntKind.i64 ↑k)).toNat := by clear hfin hown5 hgrow5 hsep5; simp [intOf]; omega
          all_goals exact ⟨⟨k + 1, M'', hlt, rfl, hfin⟩, hms⟩
      · have hcb : (tk.kind == 1) = false := by simp [hc]
        have hfin := HSKIP.out (fun h => hc h.1)
        have HFIN := Lib.hid hfin
        clear hfin hc
        go_wp2_with fail
        go_roundw
        case rel => exact ⟨k + 1, M'', by omega, by go_num, HFIN.out⟩
        case measure => simp [intOf]; omega
    · obtain rfl : k = M.length := by omega
      obtain ⟨xs, hx1, hx2⟩ := HB.out.row
      have hx3 := hx1.mono hlo
      have HX := Lib.hid (And.intro hx3 hx2)
      clear hx1 hx2 hx3
      go_wp2_with fail
      go_ret
      exact ⟨_, xs, rfl, HB.out.below, HX.out.1, HX.out.2⟩
end Go.Proofs.Ytgnbjhiafjpokaa
