/-
  The program's last: which part stands for all that are the same.
  The program's end: the last variable of a chain, and what it is bound to.
  The program's add: one part more.
  The program's part: which part a term is.
-/
import Derived.Test.YtgnbjhiafjpokaaJMem
import Derived.StillTailTactics
import Derived.Deep.DeepCutAuto
import Derived.Deep.CutRange
import Derived.Deep.LoopGhost
import Derived.Test.YtgnbjhiafjpokaaUfEnd
namespace Go.Proofs.Ytgnbjhiafjpokaa
open Go.RowKit Go.Shelf Go.Maps

/-- The same parts, but for which one comes next. -/
structure AlikeM (M M' : List PM) : Prop where
  len : M'.length = M.length
  at_ : ∀ i (h : i < M.length) (h' : i < M'.length), M'[i].p.t = M[i].p.t ∧ M'[i].p.args = M[i].p.args ∧ M'[i].ts = M[i].ts ∧ M'[i].ks = M[i].ks
theorem AlikeM.refl (M : List PM) : AlikeM M M := ⟨rfl, fun _ _ _ => ⟨rfl, rfl, rfl, rfl⟩⟩
theorem AlikeM.trans {M M' M'' : List PM} (h : AlikeM M M') (g : AlikeM M' M'') : AlikeM M M'' := ⟨g.len.trans h.len, fun i hi hi' => by
  have h1 := h.at_ i hi (by rw [h.len]; exact hi)
  have h2 := g.at_ i (by rw [h.len]; exact hi) hi'
  exact ⟨h2.1.trans h1.1, h2.2.1.trans h1.2.1, h2.2.2.1.trans h1.2.2.1, h2.2.2.2.trans h1.2.2.2⟩⟩
theorem AlikeM.same {M : List PM} {i : Nat} (hi : i < M.length) (s : Nat) : AlikeM M (M.set i ⟨{ M[i].p with same := s }, M[i].ts, M[i].ks⟩) := ⟨by simp, fun j hj hj' => by
  rw [List.getElem_set]
  split
  · rename_i e; subst e; exact ⟨rfl, rfl, rfl, rfl⟩
  · exact ⟨rfl, rfl, rfl, rfl⟩⟩
theorem AlikeM.ps {M M' : List PM} (h : AlikeM M M') : AlikeP (psOf M) (psOf M') := by
  have hd : ∀ (L : List PM) i, ¬ i < L.length → pt (psOf L) i = ⟨vTm 0, [], 0⟩ := fun L i hi => by
    have hl : (psOf L).length ≤ i := by rw [psOf_length]; omega
    simp [pt, List.getD, List.getElem?_eq_none hl]
  refine ⟨by rw [psOf_length, psOf_length, h.len], fun i => ?_, fun i => ?_⟩
  all_goals
    by_cases hi : i < M.length
    · have hi' : i < M'.length := by rw [h.len]; exact hi
      rw [pt_psOf hi, pt_psOf hi']
      first
        | exact (h.at_ i hi hi').1
        | exact (h.at_ i hi hi').2.1
    · have hi' : ¬ i < M'.length := by rw [h.len]; exact hi
      rw [hd M i hi, hd M' i hi']
def LastPost (W : World) (lo B pb sb mb K : Nat) (svL svW : Value) (M : List PM) (vm : Int → Option Nat) (work : List (Nat × Nat)) (ro d : Nat → Nat) (i : Nat) (e : Ending) (W' : World) : Prop :=
  e = .returned (.int .i64 (ro i : Nat)) ∧ JFr lo pb mb svL svW svL svW W W' ∧ ∃ M', JMem W' lo B pb sb mb K svL svW M' vm work ∧ Fst (psOf M') ro d ∧ AlikeM M M'

set_option maxRecDepth 100000 in
set_option maxHeartbeats 2000000 in
theorem last_any {W : World} {lo B pb sb mb K : Nat} {svL svW : Value} {M : List PM} {vm : Int → Option Nat} {work : List (Nat × Nat)} {ro d : Nat → Nat} (h : JMem W lo B pb sb mb K svL svW M vm work) (hf : Fst (psOf M) ro d) {i : Nat} (hi : i < M.length) :
    Calls Try.prog 100 #[.pointer (some ⟨pb, 0, none⟩), .int .i64 (i : Nat)] W fun e W' => LastPost W lo B pb sb mb K svL svW M vm work ro d i e W' := by
  have HJ := Lib.hid h
  have HF := Lib.hid hf
  clear h hf
  go_enter Try.func100, Try.ntmps100
  go_wp2_with fail
  go_loopw [1] (fun ii wr => ∃ (k : Nat) (M' : List PM), k < M.length ∧ ii = .int .i64 (k : Nat) ∧ Hid (ro k = ro i) ∧ Hid (JMem wr lo B pb sb mb K svL svW M' vm work) ∧ Hid (Fst (psOf M') ro d) ∧ Hid (AlikeM M M') ∧ Hid (JFr lo pb mb svL svW svL svW W wr)) (fun ii _ => d (intOf ii).toNat)
  case atStart => exact ⟨i, M, hi, rfl, rfl, HJ.out, HF.out, AlikeM.refl _, JFr.refl _⟩
  case round =>
    obtain ⟨k, M', hk, rfl, hro, hj, hf, ha, hb⟩ := hrel
    have HRO := Lib.hid hro.out
    have HJ' := Lib.hid hj.out
    have HF' := Lib.hid hf.out
    have HA := Lib.hid ha.out
    have HB := Lib.hid hb.out
    clear hro hj hf ha hb
    have hlen' := HA.out.len
    have hk' : k < M'.length := by omega
    obtain ⟨g, c, hsl, hlog, hglt, hgp, _, _, _, _, _, g5, fr⟩ := HJ'.out.get k hk'
    obtain ⟨⟨b0, b1, b2, b3⟩, _⟩ := row4 HJ'.out.box
    rw [hsl] at b1
    have hpl := HJ'.out.plt
    have hpk : pt (psOf M') k = M'[k].p := pt_psOf hk'
    have hkl : k < (psOf M').length := by rw [psOf_length]; exact hk'
    by_cases he : M'[k].p.same = k
    · have htop := (HF'.out.top k hkl (by rw [hpk]; exact he)).1
      have heb : ((M'[k].p.same : Int) != (k : Int)) = false := by simp [he]
      have HT := Lib.hid htop
      have he' : (M'[k].p.same : Int) = (k : Int) := by omega
      rw [he'] at g5
      clear htop he heb he'
      go_wp2_with fail
      go_ret
      refine ⟨?_, HB.out, M', HJ'.out, HF'.out, HA.out⟩
      rw [← HRO.out, HT.out]
      rfl
    · have hs1 := HF'.out.lt k hkl
      rw [hpk, psOf_length] at hs1
      have hdec := HF'.out.dec k hkl (by rw [hpk]; exact he)
      have hsam := HF'.out.same k hkl
      rw [hpk] at hdec hsam
      obtain ⟨k2, hk2⟩ : ∃ k2, M'[k].p.same = k2 := ⟨_, rfl⟩
      have hhal := HF'.out.halve hkl (by rw [hpk]; exact he)
      rw [hpk] at hhal
      simp only [hk2] at g5 he hs1 hdec hsam hhal
      obtain ⟨g', c', hsl', _, _, _, _, _, _, _, _, g5', _⟩ := HJ'.out.get k2 hs1
      have hgg : g' = g := by rw [hsl] at hsl'; injection hsl' with e1; injection e1 with e2; injection e2 with e3; exact e3.symm
      subst hgg
      have hpk2 : pt (psOf M') k2 = M'[k2].p := pt_psOf hs1
      have hkl2 : k2 < (psOf M').length := by rw [psOf_length]; exact hs1
      have hs3 := HF'.out.lt k2 hkl2
      rw [hpk2, psOf_length] at hs3
      rw [hpk2] at hhal
      have hd3 : d M'[k2].p.same ≤ d k2 := by
        by_cases e : M'[k2].p.same = k2
        · rw [e]; exact Nat.le_refl _
        · have := HF'.out.dec k2 hkl2 (by rw [hpk2]; exact e)
          rw [hpk2] at this
          exact Nat.le_of_lt this
      have hsam2 := HF'.out.same k2 hkl2
      rw [hpk2] at hsam2
      have hob : svL.ownBlock = some g' := by rw [hsl]; rfl
      have hset := HJ'.out.setSame hob hk' M'[k2].p.same
      have hps : psOf (M'.set k ⟨{ M'[k].p with same := M'[k2].p.same }, M'[k].ts, M'[k].ks⟩) = (psOf M').set k { M'[k].p with same := M'[k2].p.same } := psOf_set _ _ _
      rw [← hps] at hhal
      have hal := HA.out.trans (AlikeM.same hk' M'[k2].p.same)
      obtain ⟨k3, hk3⟩ : ∃ k3, M'[k2].p.same = k3 := ⟨_, rfl⟩
      rw [hk3] at g5' hs3 hhal hd3 hsam2 hset hal
      have hne : ((k2 : Int) != (k : Int)) = true := by simp; omega
      have HSET := Lib.hid hset
      have HHAL := Lib.hid hhal
      have HAL := Lib.hid hal
      have HRO3 := Lib.hid (show ro k3 = ro i by rw [← HRO.out, ← hsam, hsam2])
      have hd4 : d k3 < d k := by omega
      have HD4 := Lib.hid hd4
      have HBB := Lib.hid (HB.out.trans (JFr.setCell hlog (.inr (.inr (.inl hob))) wr (k * 6 + 5) (.int .i64 (k3 : Nat))))
      have hn : M'.length = M.length := hlen'
      rw [hn] at b1
      have hi0 : (0 : Int) ≤ (k : Int) := by omega
      have hi1 : (k : Int) < (M.length : Int) := by omega
      have hi2 : (0 : Int) ≤ (k2 : Int) := by omega
      have hi3 : (k2 : Int) < (M.length : Int) := by omega
      have f5 := fr (k * 6 + 5)
      have hk3' : k3 < M.length := by omega
      have hgp' : pb ≠ g' := fun e => hgp e.symm
      clear hset hhal hal hd4 hd3 hsam hsam2 hdec hps hpk hpk2 hkl hkl2 he fr hsl hsl' hob hn hk2 hk3 hlen'
      go_wp2_with fail
      go_still_tail 22, (by kernel_rfl)
      go_wp2_with fail
      refine ⟨⟨k3, _, hk3', rfl, HRO3.out, HSET.out.drew, HHAL.out, HAL.out, HBB.out.drew⟩, ?_⟩
      simpa [intOf] using HD4.out
end Go.Proofs.Ytgnbjhiafjpokaa

namespace Go.Proofs.Ytgnbjhiafjpokaa
open Go.RowKit Go.Shelf Go.Maps

/-- The last variable of the chain that begins with n: v, and u, what it is. -/
structure EndIs (l : List Bd) (n v : Int) (u : Tm) : Prop where
  is : (place l v = none ∧ u = vTm v) ∨ ∃ p, ∃ hp : p < l.length, place l v = some p ∧ u = l[p].t ∧ u.kind ≠ 1
  same : ∀ θ, Solves θ l → θ n = θ v
  mem : ∀ V : List Int, n ∈ V → (∀ b ∈ l, ∀ w ∈ b.t.vs, w ∈ V) → v ∈ V
  rng : 0 ≤ v ∧ v < 1000000
def EndIsPost (l : List Bd) (B : Nat) (n : Int) (w : World) (e : Ending) (w' : World) : Prop :=
  Below w.heap.size w w' ∧ ∃ v u g c, e = .returned (.tuple #[.int .i64 v, .agg #[.int .i64 u.kind, .string u.name, .int .i64 u.n, .slice g u.args.length c]]) ∧ EndIs l n v u ∧ Tm.inn w' B u (.slice g u.args.length c)

/-- What stands behind a look at the store: the box of what was found. -/
structure EndCut (l : List Bd) (B : Nat) (m : Int) (wr : World) (G : Nat) (u : Tm) (gu : Option Addr) (cu : Nat) (b : Bool) (wx : World) : Prop where
  ge : wr.heap.size ≤ G
  below : Below wr.heap.size wr wx
  box : wx.heap[G]? = some (.cells #[.int .i64 u.kind, .string u.name, .int .i64 u.n, .slice gu u.args.length cu] 27 (0, 0))
  is : (b = true ∧ ∃ p, ∃ hp : p < l.length, place l m = some p ∧ u = l[p].t ∧ Tm.inn wx B u (.slice gu u.args.length cu)) ∨ (b = false ∧ place l m = none)
theorem EndCut.set {l : List Bd} {B : Nat} {m : Int} {wr X w1 : World} {u : Tm} {gu : Option Addr} {cu : Nat} {b : Bool} {x0 x1 x2 x3 : Value} (hb : Below wr.heap.size wr X) (hb1 : Below X.heap.size X w1) (hz : w1.heap[wr.heap.size]? = some (Obj.cells #[x0, x1, x2, x3] 27 (0, 0))) (hB : B ≤ wr.heap.size)
    (hc : (b = true ∧ ∃ p, ∃ hp : p < l.length, place l m = some p ∧ u = l[p].t ∧ Tm.inn w1 B u (.slice gu u.args.length cu)) ∨ (b = false ∧ place l m = none)) : EndCut l B m wr wr.heap.size u gu cu b (set4 w1 wr.heap.size (.int .i64 u.kind) (.string u.name) (.int .i64 u.n) (.slice gu u.args.length cu)) := by
  have g := set4_from w1 (Nat.le_refl wr.heap.size) (.int .i64 u.kind) (.string u.name) (.int .i64 u.n) (.slice gu u.args.length cu)
  refine ⟨Nat.le_refl _, (hb.trans (hb1.mono hb.size)).trans g, set4_self hz _ _ _ _, ?_⟩
  rcases hc with ⟨h1, p, hp, h2, h3, h4⟩ | h
  · exact .inl ⟨h1, p, hp, h2, h3, Tm.inn_below h4 g hB⟩
  · exact .inr h
theorem EndCut.new {l : List Bd} {B : Nat} {m : Int} {wr X w1 : World} {u : Tm} {gu : Option Addr} {cu : Nat} {b : Bool} (hb : Below wr.heap.size wr X) (hb1 : Below X.heap.size X w1) (hB : B ≤ wr.heap.size)
    (hc : (b = true ∧ ∃ p, ∃ hp : p < l.length, place l m = some p ∧ u = l[p].t ∧ Tm.inn w1 B u (.slice gu u.args.length cu)) ∨ (b = false ∧ place l m = none)) : EndCut l B m wr w1.heap.size u gu cu b (w1.alloc (.cells #[.int .i64 u.kind, .string u.name, .int .i64 u.n, .slice gu u.args.length cu] 27)) := by
  have h1 : wr.heap.size ≤ w1.heap.size := Nat.le_trans hb.size hb1.size
  have g : Below w1.heap.size w1 (w1.alloc (.cells #[.int .i64 u.kind, .string u.name, .int .i64 u.n, .slice gu u.args.length cu] 27)) := (Below.refl _ _).alloc (Nat.le_refl _) _
  refine ⟨h1, (hb.trans (hb1.mono hb.size)).trans (g.mono h1), newBlk _ _ _ rfl, ?_⟩
  rcases hc with ⟨h1', p, hp, h2, h3, h4⟩ | h
  · exact .inl ⟨h1', p, hp, h2, h3, Tm.inn_below h4 g (by omega)⟩
  · exact .inr h
set_option maxRecDepth 100000 in
set_option maxHeartbeats 4000000 in
theorem jend_any {W : World} {B pb sb K : Nat} {l : List Bd} {svS mv a1 a2 a3 : Value} {xs : List Value} (hbox : W.heap[pb]? = some (.cells #[.pointer (some ⟨sb, 0, none⟩), a1, a2, a3] 121 (0, 0))) (hS : SMem W B sb l K svS mv xs) (hl : RightL l)
    {n : Int} {sv : Value} (h0 : 0 ≤ n) (h1 : n < 1000000) (hin : Tm.inn W B (vTm n) sv) :
    Calls Try.prog 99 #[.pointer (some ⟨pb, 0, none⟩), .agg #[.int .i64 1, .string ⟨#[]⟩, .int .i64 n, sv]] W fun e W' => EndIsPost l B n W e W' := by
  obtain ⟨g, cp, rfl⟩ := inn_sl hin
  have hlo := hS.lo
  have hsl := hS.low.box
  have hpl : pb < W.heap.size := (Array.getElem?_eq_some_iff.1 hbox).1
  obtain ⟨ho, r, hr⟩ := hl
  have hal := al2 W (.cells #[.int .i64 1, .string ⟨#[]⟩, .int .i64 n, .slice g (vTm n).args.length cp] 27) (.cells #[.int .i64 0, .string ⟨#[]⟩, .int .i64 0, .slice none 0 0] 27)
  have HS := Lib.hid hS
  have HO := Lib.hid ho
  have HR := Lib.hid hr
  have HIN := Lib.hid hin
  have HBOX := Lib.hid hbox
  have HAL := Lib.hid hal
  have HN := Lib.hid (And.intro h0 h1)
  clear hS ho hr hin hbox hal h0 h1
  have hv0 : (vTm n).args.length = 0 := rfl
  rw [hv0] at HIN HAL ⊢
  go_enter Try.func99, Try.ntmps99
  go_wp2_with fail
  go_loopg [7] (match place l n with | some p => r p + 1 | none => 0) (fun N _ wr => ∃ (m : Int) (gm : Option Addr) (cm : Nat), Hid (∀ p, place l m = some p → r p < N) ∧ Hid (0 ≤ m ∧ m < 1000000) ∧ Hid (∀ θ, Solves θ l → θ n = θ m) ∧ Hid (∀ V : List Int, n ∈ V → (∀ b ∈ l, ∀ w ∈ b.t.vs, w ∈ V) → m ∈ V) ∧ Hid (Below W.heap.size W wr) ∧
    wr.heap[W.heap.size]? = some (.cells #[.int .i64 1, .string ⟨#[]⟩, .int .i64 m, .slice gm 0 cm] 27 (0, 0)) ∧ Hid (Tm.inn wr B (vTm m) (.slice gm 0 cm)) ∧ wr.heap[W.heap.size + 1]? = some (.cells #[.int .i64 0, .string ⟨#[]⟩, .int .i64 0, .slice none 0 0] 27 (0, 0)))
  case atStart =>
    refine ⟨n, g, cp, ?_, HN.out, fun _ _ => rfl, fun _ h _ => h, HAL.out, ?_, Tm.inn_below HIN.out HAL.out (by omega), ?_⟩
    · intro p hp
      rw [hp]
      exact Nat.lt_succ_self _
    · rw [Below.heap_alloc _ _ _ (by simp)]
      exact newBlk _ _ _ rfl
    · exact newBlk _ _ _ (by simp)
  case round =>
    obtain ⟨m, gm, cm, hrk, hm, hsame, hmem, hb, hbx, hinm, hrs⟩ := hrel
    have HRK := Lib.hid hrk.out
    have HM := Lib.hid hm.out
    have HSAME := Lib.hid hsame.out
    have HMEM := Lib.hid hmem.out
    have HB := Lib.hid hb.out
    have HINM := Lib.hid hinm.out
    have HBX := Lib.hid hbx
    have HRS := Lib.hid hrs
    obtain ⟨⟨t0, t1, t2, t3⟩, _⟩ := row4 hbx
    obtain ⟨⟨p0, _, _, _⟩, _⟩ := row4 ((HB.out.block pb hpl).trans HBOX.out)
    have hsz := HB.out.size
    have hltb : W.heap.size < wr.heap.size := (Array.getElem?_eq_some_iff.1 hbx).1
    have hltr : W.heap.size + 1 < wr.heap.size := (Array.getElem?_eq_some_iff.1 hrs).1
    have hwf : (Lit.int .i64 m).wf = true := WalkArith.wf_i64 (by have := hm.out; omega)
    have hc : ∀ W1 : World, Below wr.heap.size wr W1 → Calls Try.prog 89 #[.pointer (some ⟨sb, 0, none⟩), .int .i64 m] W1 fun e w' => SFindPost l B m W1 e w' := fun W1 h1 =>
      sfind_any l B sb K m W1 svS mv xs ((HS.out.far HS.out.low HB.out).next h1) hwf
    have hcA : ∀ o : Obj, Calls Try.prog 89 #[.pointer (some ⟨sb, 0, none⟩), .int .i64 m] ((wr.alloc o).drew) fun e w' => SFindPost l B m ((wr.alloc o).drew) e w' ∧ w'.heap[wr.heap.size]? = some o := fun o =>
      (hc _ ((Below.refl _ _).alloc (Nat.le_refl _) _).drew).mono fun e w' h => ⟨h, (h.1.block _ (by show wr.heap.size < (wr.alloc o).heap.size; simp)).trans (newBlk wr o _ rfl)⟩
    have hcB := hc wr.drew (Below.refl _ _).drew
    have hpb : pb < wr.heap.size := by omega
    have hBw : B ≤ wr.heap.size := by omega
    have HCA := Lib.hid hcA
    have HCB := Lib.hid hcB
    clear hrk hm hsame hmem hb hinm hbx hrs hc hwf hcA hcB
    go_upto_region 1 with fail
    go_cut [6, 7] (fun t6 q wx => ∃ (G : Nat) (u : Tm) (gu : Option Addr) (cu : Nat) (b : Bool), t6 = .pointer (some ⟨G, 0, none⟩) ∧ q = .bool b ∧ Hid (EndCut l B m wr G u gu cu b wx))
    case first =>
      go_region_law (first
        | (refine step_open (by rfl) ?_; go_simp; go_at_call 89; refine (HCA.out _).mono ?_; rintro e w1 ⟨⟨hb1, u, gu, cu, b, rfl, hcase⟩, hz⟩; obtain ⟨⟨z0, z1, z2, z3⟩, y0, y1, y2, y3⟩ := row4 hz)
        | (refine step_open (by rfl) ?_; go_simp; go_at_call 89; refine HCB.out.mono ?_; rintro e w1 ⟨hb1, u, gu, cu, b, rfl, hcase⟩))
      all_goals go_wp2_with fail
      all_goals go_meet
      all_goals first
        | exact ⟨_, u, gu, cu, b, rfl, rfl, EndCut.new (Below.refl _ _).drew hb1 (by omega) hcase⟩
        | exact ⟨_, u, gu, cu, b, rfl, rfl, EndCut.set ((Below.refl _ _).alloc (Nat.le_refl _) _).drew hb1 hz (by omega) hcase⟩
    case rest =>
      obtain ⟨G, u, gu, cu, b, rfl, rfl, hec⟩ := hcut
      have HE := Lib.hid hec.out
      clear hec
      have hwb := HE.out.below
      have hge := HE.out.ge
      have hbb := HB.out.trans (hwb.mono hsz)
      have hsz2 := hwb.size
      obtain ⟨⟨c0, c1, c2, c3⟩, cf0, cf1, cf2, cf3⟩ := row4 ((hwb.block _ hltb).trans HBX.out)
      obtain ⟨⟨d0, d1, d2, d3⟩, df0, df1, df2, df3⟩ := row4 ((hwb.block _ hltr).trans HRS.out)
      obtain ⟨⟨x0, x1, x2, x3⟩, xf0, xf1, xf2, xf3⟩ := row4 HE.out.box
      have hinm2 := Tm.inn_below HINM.out hwb hBw
      have hne1 : W.heap.size ≠ W.heap.size + 1 := by omega
      have hne2 : G ≠ W.heap.size + 1 := by omega
      have hne3 : G ≠ W.heap.size := by omega
      have HBB := Lib.hid hbb
      have HINM2 := Lib.hid hinm2
      have HRW := Lib.hid ((hwb.block _ hltr).trans HRS.out)
      have HBW := Lib.hid ((hwb.block _ hltb).trans HBX.out)
      clear hwb hbb hinm2
      cases b with
      | false =>
        have hpn : place l m = none := by
          rcases HE.out.is with ⟨h, _⟩ | ⟨_, h⟩
          · cases h
          · exact h
        have HPN := Lib.hid hpn
        clear hpn
        go_wp2_with fail
        go_still_tail 4, (by kernel_rfl)
        go_wp2_with fail
        refine bodyPost_ret (v := .tuple #[.int .i64 m, .agg #[.int .i64 1, .string ⟨#[]⟩, .int .i64 m, .slice gm 0 cm]]) (by simp [results, Try.results99, go_sem, d0, d1, d2, d3]) rfl ?_
        have g := (set4_from wc (Nat.le_succ W.heap.size) (.int .i64 1) (.string ⟨#[]⟩) (.int .i64 m) (.slice gm 0 cm)).drew
        exact ⟨HBB.out.trans g, m, vTm m, gm, cm, rfl, ⟨.inl ⟨HPN.out, rfl⟩, HSAME.out, HMEM.out, HM.out⟩, Tm.inn_below HINM2.out g (by omega)⟩
      | true =>
        obtain ⟨p, hpp, hpl2, hue, hinu⟩ : ∃ p, ∃ hp : p < l.length, place l m = some p ∧ u = l[p].t ∧ Tm.inn wc B u (.slice gu u.args.length cu) := by
          rcases HE.out.is with ⟨_, h⟩ | ⟨h, _⟩
          · exact h
          · cases h
        have hru : u.right = true := by rw [hue]; exact (HO.out p hpp).2.2.2
        have hvp : l[p].v = m := (place_some hpl2).2.1
        have HPL := Lib.hid hpl2
        have HUE := Lib.hid hue
        have HINU := Lib.hid hinu
        have HRU := Lib.hid hru
        have HVP := Lib.hid hvp
        clear hpl2 hue hinu hru hvp
        by_cases hk : u.kind = 1
        · have hkb : (u.kind != 1) = false := by simp [hk]
          have hvar := Tm.var_of (right_fair HRU.out) hk
          obtain ⟨nu, hnu, hrng⟩ : ∃ nu, u = vTm nu ∧ 0 ≤ nu ∧ nu < 1000000 := ⟨_, hvar.1, hvar.2⟩
          clear hvar hk
          subst hnu
          have HRNG := Lib.hid hrng
          clear hrng
          have hself := set4_self HBW.out (.int .i64 1) (.string ⟨#[]⟩) (.int .i64 nu) (.slice gu 0 cu)
          have g := set4_from wc (Nat.le_refl W.heap.size) (.int .i64 1) (.string ⟨#[]⟩) (.int .i64 nu) (.slice gu 0 cu)
          have hoth := (set4_blk wc (.int .i64 1) (.string ⟨#[]⟩) (.int .i64 nu) (.slice gu 0 cu) (k := W.heap.size + 1) (b := W.heap.size) (by omega)).trans HRW.out
          have hinu2 := Tm.inn_below HINU.out g (by omega)
          have hbb2 := HBB.out.trans g
          have HG := Lib.hid (And.intro hself (And.intro hoth (And.intro hinu2 hbb2)))
          clear hself g hoth hinu2 hbb2
          have y0 : wc.cell? ⟨G, 0, none⟩ = some (.int .i64 1) := x0
          have y1 : wc.cell? ⟨G, 1, none⟩ = some (.string ⟨#[]⟩) := x1
          have y2 : wc.cell? ⟨G, 2, none⟩ = some (.int .i64 nu) := x2
          have y3 : wc.cell? ⟨G, 3, none⟩ = some (.slice gu 0 cu) := x3
          clear x0 x1 x2 x3 hkb
          go_wp2_with fail
          go_roundg (r p)
          case rel =>
            refine ⟨nu, gu, cu, fun q hq => ?_, HRNG.out, fun θ hθ => ?_, fun V h1 h2 => ?_, HG.out.2.2.2, HG.out.1, HG.out.2.2.1, HG.out.2.1⟩
            · refine HR.out p hpp q (deps_mem.2 ⟨nu, ?_, hq⟩)
              rw [tAt_get hpp, ← HUE.out, Tm.vs_vTm]
              exact List.mem_singleton.2 rfl
            · rw [HSAME.out θ hθ, ← HVP.out, hθ _ (List.getElem_mem hpp), ← HUE.out, Tm.bnd_var]
            · refine h2 _ (List.getElem_mem hpp) nu ?_
              rw [← HUE.out, Tm.vs_vTm]
              exact List.mem_singleton.2 rfl
          case measure => exact HRK.out p HPL.out
        · have hkb : (u.kind != 1) = true := by simp [hk]
          have HK := Lib.hid hk
          clear hk
          go_wp2_with fail
          go_still_tail 4, (by kernel_rfl)
          go_wp2_with fail
          refine bodyPost_ret (v := .tuple #[.int .i64 m, .agg #[.int .i64 u.kind, .string u.name, .int .i64 u.n, .slice gu u.args.length cu]]) (by simp [results, Try.results99, go_sem, d0, d1, d2, d3]) rfl ?_
          have g := (set4_from wc (Nat.le_succ W.heap.size) (.int .i64 u.kind) (.string u.name) (.int .i64 u.n) (.slice gu u.args.length cu)).drew
          exact ⟨HBB.out.trans g, m, u, gu, cu, rfl, ⟨.inr ⟨p, hpp, HPL.out, HUE.out, HK.out⟩, HSAME.out, HMEM.out, HM.out⟩, Tm.inn_below HINU.out g (by omega)⟩
end Go.Proofs.Ytgnbjhiafjpokaa

namespace Go.Proofs.Ytgnbjhiafjpokaa
open Go.RowKit Go.Shelf Go.Maps

theorem news_any {w : World} {L : List Value} {t : TypeId} (H : Nat) (hH : w.heap.size = H) : ∀ (j : Nat) (u : Value), L[j]? = some u → (w.alloc (.cells L.toArray t)).cell? ((⟨H, 0, none⟩ : Addr).add j) = some u := by
  subst hH
  intro j u hu
  rw [Addr.add_lit]
  simp only [Nat.zero_add, World.cell?]
  rw [show (w.alloc (.cells L.toArray t)).heap[w.heap.size]? = some (.cells L.toArray t) from newBlk _ _ _ rfl]
  simpa using hu
/-- append of one element, at a step of a region that draws its order; the value's shape is told. -/
theorem step_append_row {w : World} {ops : Array Oper} {o : Oper} {a : Act} {K : Act → World → Prop} {Q : Exit → Act → World → Prop} {E : Prop} (hgd : o.guard = none) (s x : Operand) {t e : TypeId}
    (ho : o.op = .call { callee := .builtin .append, args := #[s, x], argTypes := #[t, t] }) (ht : Try.prog.underlying t = some (.slice e)) {z : Value} {size bytes : Nat} (hinfo : (Try.prog.info? e).map (fun i => (i.zero, i.size, i.bytes)) = some (some z, size, bytes)) (hzs : z.cells.size = size) (hsz : 0 < size)
    (base : Nat) (v : Value) (n : Nat) (xs : List Value) (hs : a.eval s = v) (hown : w.ownsRow base e size v n xs)
    (H c : Nat) (news : List Value) (hx : a.eval x = .slice (some ⟨H, 0, none⟩) 1 c) (hl : news.length = size) (hnews : ∀ j u, news[j]? = some u → w.cell? ((⟨H, 0, none⟩ : Addr).add j) = some u) (h1 : ∀ u ∈ news, u.oneCell' = true)
    (h63 : n + 1 ≤ maxLen) (hbytes : (n + 1) * bytes ≤ 140737488355328) (hbase : base ≤ w.heap.size)
    (h : ∀ (g c' : Nat) (w' : World), w'.ownsRow base e size (.slice (some ⟨g, 0, none⟩) (n + 1) c') (n + 1) (xs ++ news) → w.grownBy w' v.ownBlock → (v.ownBlock = some g ∨ g = w.heap.size) → K (a.put o.dst (.slice (some ⟨g, 0, none⟩) (n + 1) c')) w') :
    if Region.wanted o (yielded ops a.tmps) = true then Oper.wp Try.prog o a w K Q else E := by
  have hw : Region.wanted o (yielded ops a.tmps) = true := by simp [Region.wanted, hgd]
  rw [if_pos hw]
  obtain ⟨i0, hi, hz0, hz1, hz2⟩ := info_parts hinfo
  obtain ⟨v', w', hr, h2, h3, h4⟩ := run_append_any (P := Try.prog) (w := w) base t o.type e i0 z size bytes ht hi hz0 hz1 hz2 hzs hsz v n _ hown (some ⟨H, 0, none⟩) 1 c news (by omega) (.inr ⟨_, rfl, hnews⟩) h1 (by omega) hbytes hbase
  unfold Oper.wp execOp
  simp only [ho, resolve, invoke, builtin, Sem.run_bind, Sem.run_pure, Result.andThen_ok, List.map_toArray, List.map_cons, List.map_nil, hs, hx, hr]
  rcases h2.2 with ⟨_, h0⟩ | ⟨g, cap, cur, e1, _⟩
  · omega
  · have hg : v'.ownBlock = some g := by rw [e1]; rfl
    rw [e1] at h2 ⊢
    refine h g cap w' h2 h3 ?_
    rw [hg] at h4
    rcases h4 with h4 | h4
    · exact .inl h4.symm
    · exact .inr (Option.some.inj h4)
theorem Try.infoPart : (Try.prog.info? 140).map (fun i => (i.zero, i.size, i.bytes)) = some (some (.agg #[.int .i64 0, .string ⟨#[]⟩, .int .i64 0, .slice none 0 0, .slice none 0 0, .int .i64 0]), 6, 88) := by kernel_rfl
theorem Try.infoPair : (Try.prog.info? 122).map (fun i => (i.zero, i.size, i.bytes)) = some (some (.agg #[.int .i64 0, .int .i64 0]), 2, 16) := by kernel_rfl
def AddPost (W : World) (lo B pb sb mb K : Nat) (svL svW : Value) (M : List PM) (vm : Int → Option Nat) (work : List (Nat × Nat)) (t : Tm) (sv : Value) (e : Ending) (W' : World) : Prop :=
  e = .returned (.int .i64 (M.length : Nat)) ∧ ∃ svL', JFr lo pb mb svL svW svL' svW W W' ∧ JMem W' lo B pb sb mb K svL' svW (M ++ [⟨⟨t, [], M.length⟩, sv, .slice none 0 0⟩]) vm work
theorem set_1 {w : World} {b : Nat} {x0 x1 x2 x3 : Value} {t : TypeId} (h : w.heap[b]? = some (Obj.cells #[x0, x1, x2, x3] t (0, 0))) (u : Value) : (w.setCell ⟨b, 1, none⟩ u).heap[b]? = some (Obj.cells #[x0, u, x2, x3] t (0, 0)) := by
  simp [World.setCell, Array.getElem?_modify, h]
theorem set_3 {w : World} {b : Nat} {x0 x1 x2 x3 : Value} {t : TypeId} (h : w.heap[b]? = some (Obj.cells #[x0, x1, x2, x3] t (0, 0))) (u : Value) : (w.setCell ⟨b, 3, none⟩ u).heap[b]? = some (Obj.cells #[x0, x1, x2, u] t (0, 0)) := by
  simp [World.setCell, Array.getElem?_modify, h]
/-- The new part in its place. -/
theorem JMem.added {W W1 W3 : World} {lo B pb sb mb K : Nat} {svL svW : Value} {M : List PM} {vm : Int → Option Nat} {work : List (Nat × Nat)} (h : JMem W lo B pb sb mb K svL svW M vm work) (h1 : Below W.heap.size W W1) {t : Tm} {sv : Value} (hin : Tm.inn W B t sv) {g c : Nat}
    (hown : W3.ownsRow lo 140 6 (.slice (some ⟨g, 0, none⟩) (M.length + 1) c) (M.length + 1) (rowCells M ++ pmCells ⟨⟨t, [], M.length⟩, sv, .slice none 0 0⟩)) (hg : W1.grownBy W3 svL.ownBlock) (hs : svL.ownBlock = some g ∨ g = W1.heap.size) :
    JMem (W3.setCell ⟨pb, 1, none⟩ (.slice (some ⟨g, 0, none⟩) (M.length + 1) c)) lo B pb sb mb K (.slice (some ⟨g, 0, none⟩) (M.length + 1) c) svW (M ++ [⟨⟨t, [], M.length⟩, sv, .slice none 0 0⟩]) vm work := by
  have hj := h.next h1
  have hB := h.B
  have hlop := h.lop
  have hpl := h.plt
  have hbx : W3.heap[pb]? = some (.cells #[.pointer (some ⟨sb, 0, none⟩), svL, .map (some mb), svW] 121 (0, 0)) := (hg.block pb hj.plt (fun e => h.Lp e.symm)).trans hj.box
  refine hj.grow hg (.inl rfl) (set_1 hbx _) (.inr ⟨?_, rfl, ?_, fun x hx => ?_⟩) (.inl ⟨rfl, rfl, rfl⟩) (.inr ⟨rfl, rfl⟩)
  · rw [List.length_append, rowCells_snoc]
    exact hown
  · rcases hs with hs | hs
    · exact .inl hs.symm
    · exact .inr fun b e => by
        have : g = b := Option.some.inj e
        omega
  · rcases List.mem_append.1 hx with hx | hx
    · exact .inl hx
    · rw [List.mem_singleton.1 hx]
      exact .inr ⟨Tm.inn_below hin h1 (by omega), rfl, rfl⟩
theorem JMem.grownFr {W W1 W3 : World} {lo B pb sb mb K : Nat} {svL svW : Value} {M : List PM} {vm : Int → Option Nat} {work : List (Nat × Nat)} (h : JMem W lo B pb sb mb K svL svW M vm work) (h1 : Below W.heap.size W W1) {r : Option Nat} (hg : W1.grownBy W3 r) (hr : r = svL.ownBlock ∨ r = svW.ownBlock) (j : Nat) (u : Value) {svL' svW' : Value}
    (hL : svL'.ownBlock = svL.ownBlock ∨ ∀ b, svL'.ownBlock = some b → W1.heap.size ≤ b) (hW : svW'.ownBlock = svW.ownBlock ∨ ∀ b, svW'.ownBlock = some b → W1.heap.size ≤ b) : JFr lo pb mb svL svW svL' svW' W (W3.setCell ⟨pb, j, none⟩ u) := by
  have hlop := h.lop
  have hpl := h.plt
  have hs := h1.size
  refine ⟨(((h1.mono (by omega)).grown hg (by omega) (fun k e => ?_))).setCell (p := ⟨pb, j, none⟩) h.lop u, fun b hb hn => ?_, fun b hb hn hw => ?_⟩
  · rcases hr with hr | hr
    · exact (h.row.lt k (by rw [← hr, e])).1
    · exact (h.wk.lt k (by rw [← hr, e])).1
  · refine (Below.heap_setCell _ _ _ _ (fun e => hn (.inl e))).trans ((hg.block b (by omega) (fun e => ?_)).trans (h1.block b hb))
    rcases hr with hr | hr
    · exact hn (.inr (.inr (.inl (by rw [← hr, e]))))
    · exact hn (.inr (.inr (.inr (by rw [← hr, e]))))
  · rcases hw with e | e | e | e
    · exact hn (.inl e)
    · exact hn (.inr (.inl e))
    · rcases hL with hL | hL
      · exact hn (.inr (.inr (.inl (hL ▸ e))))
      · have := hL b e; omega
    · rcases hW with hW | hW
      · exact hn (.inr (.inr (.inr (hW ▸ e))))
      · have := hW b e; omega

set_option maxRecDepth 100000 in
set_option maxHeartbeats 4000000 in
theorem add_any {W : World} {lo B pb sb mb K : Nat} {svL svW : Value} {M : List PM} {vm : Int → Option Nat} {work : List (Nat × Nat)} (h : JMem W lo B pb sb mb K svL svW M vm work) (hM : M.length ≤ 1000000000) {t : Tm} {sv : Value} (hin : Tm.inn W B t sv) :
    Calls Try.prog 98 #[.pointer (some ⟨pb, 0, none⟩), .agg #[.int .i64 t.kind, .string t.name, .int .i64 t.n, sv]] W fun e W' => AddPost W lo B pb sb mb K svL svW M vm work t sv e W' := by
  obtain ⟨gt, ct, rfl⟩ := inn_sl hin
  obtain ⟨gL, cL, hsl⟩ := h.sliceL
  subst hsl
  have hpl := h.plt
  have hlop := h.lop
  obtain ⟨⟨b0, b1, b2, b3⟩, bf0, bf1, bf2, bf3⟩ := row4 h.box
  have hfin : ∀ (W1 W3 : World) (g c : Nat), Below W.heap.size W W1 → W3.ownsRow lo 140 6 (.slice (some ⟨g, 0, none⟩) (M.length + 1) c) (M.length + 1) (rowCells M ++ pmCells ⟨⟨t, [], M.length⟩, .slice gt t.args.length ct, .slice none 0 0⟩) → W1.grownBy W3 (Value.slice gL M.length cL).ownBlock → ((Value.slice gL M.length cL).ownBlock = some g ∨ g = W1.heap.size) →
      AddPost W lo B pb sb mb K (.slice gL M.length cL) svW M vm work t (.slice gt t.args.length ct) (.returned (.int .i64 (M.length : Nat))) (W3.setCell ⟨pb, 1, none⟩ (.slice (some ⟨g, 0, none⟩) (M.length + 1) c)) := fun W1 W3 g c h1 h2 h3 h4 =>
    ⟨rfl, _, h.grownFr h1 h3 (.inl rfl) _ _ (h4.imp (fun e => e.symm) (fun e b e' => by
      have : g = b := Option.some.inj e'
      omega)) (.inl rfl), h.added h1 hin h2 h3 h4⟩
  have hp3 : ∀ (W1 W3 : World), Below W.heap.size W W1 → W1.grownBy W3 (Value.slice gL M.length cL).ownBlock → W3.heap[pb]? = some (.cells #[.pointer (some ⟨sb, 0, none⟩), .slice gL M.length cL, .map (some mb), svW] 121 (0, 0)) := fun W1 W3 h1 hg =>
    (hg.block pb (h.next h1).plt (fun e => h.Lp e.symm)).trans (h.next h1).box
  have hrow : ∀ W1 : World, Below W.heap.size W W1 → W1.ownsRow lo 140 6 (.slice gL M.length cL) M.length (rowCells M) := fun W1 h1 => (h.next h1).row
  have HFIN := Lib.hid hfin
  have HP3 := Lib.hid hp3
  have HROW := Lib.hid hrow
  clear hfin hp3 hrow h hin
  go_enter Try.func98, Try.ntmps98
  go_wp2_with fail
  go_region_law ((refine step_append_row (by rfl) _ _ (by rfl) Try.underlying118 Try.infoPart rfl (by decide) lo (.slice gL M.length cL) M.length (rowCells M) (by rfl) (HROW.out _ (by first | exact ((Below.refl _ _).alloc (Nat.le_refl _) _).drew | exact (al2 _ _ _).drew)) (W.heap.size + 1) 1 [.int .i64 t.kind, .string t.name, .int .i64 t.n, .slice gt t.args.length ct, .slice none 0 0, .int .i64 (M.length : Nat)] (by rfl) rfl (news_any _ (by first | rfl | simp)) (by simp [Value.oneCell']) (by unfold maxLen; omega) (by omega) (by simp; omega) ?_; intro g c w3 hown3 hgrow3 hsep3; obtain ⟨⟨q0, q1, q2, q3⟩, qf0, qf1, qf2, qf3⟩ := row4 (HP3.out _ w3 (al2 _ _ _).drew hgrow3)))
  all_goals go_wp2_with fail
  all_goals go_ret
  all_goals exact HFIN.out _ w3 g c (al2 _ _ _).drew hown3 hgrow3 hsep3
end Go.Proofs.Ytgnbjhiafjpokaa

namespace Go.Proofs.Ytgnbjhiafjpokaa
open Go.RowKit Go.Shelf Go.Maps

def PartPost (W : World) (lo B pb sb mb K : Nat) (svL svW : Value) (M : List PM) (vm : Int → Option Nat) (work : List (Nat × Nat)) (l : List Bd) (V : List Int) (t : Tm) (e : Ending) (W' : World) : Prop :=
  ∃ (i K' : Nat) (svL' : Value) (vm' : Int → Option Nat) (N : List PM), e = .returned (.int .i64 (i : Nat)) ∧ JFr lo pb mb svL svW svL' svW W W' ∧ K' ≤ K + N.length ∧ JMem W' lo B pb sb mb K' svL' svW (M ++ N) vm' work ∧ PStep l V (psOf M) (psOf (M ++ N)) vm vm' t i ∧ ∀ x ∈ N, x.ks = .slice none 0 0

/-- What a part's search wants of the store and the numbers. -/
structure PEnv (lo B sb : Nat) (l : List Bd) (V : List Int) (W : World) : Prop where
  store : ∃ K svS mv xs, SMem W B sb l K svS mv xs ∧ SLow lo sb svS mv
  right : RightL l
  inV : ∀ b ∈ l, ∀ w ∈ b.t.vs, w ∈ V
theorem PEnv.far {lo B sb : Nat} {l : List Bd} {V : List Int} {W W' : World} (h : PEnv lo B sb l V W) (hb : Below lo W W') : PEnv lo B sb l V W' := by
  obtain ⟨K, svS, mv, xs, h1, h2⟩ := h.store
  exact ⟨⟨K, svS, mv, xs, h1.far h2 hb, h2⟩, h.right, h.inV⟩

set_option maxRecDepth 100000 in
set_option maxHeartbeats 4000000 in
theorem part_any {W : World} {lo B pb sb mb K : Nat} {svL svW : Value} {M : List PM} {vm : Int → Option Nat} {work : List (Nat × Nat)} {l : List Bd} {V : List Int} (h : JMem W lo B pb sb mb K svL svW M vm work) (he : PEnv lo B sb l V W) (hu : UPt l V (psOf M) vm) (hM : M.length ≤ 1000000000) (hK : K ≤ 1000000000)
    {t : Tm} {sv : Value} (ht : t.right = true) (hV : ∀ v ∈ t.vs, v ∈ V) (hin : Tm.inn W B t sv) :
    Calls Try.prog 85 #[.pointer (some ⟨pb, 0, none⟩), .agg #[.int .i64 t.kind, .string t.name, .int .i64 t.n, sv]] W fun e W' => PartPost W lo B pb sb mb K svL svW M vm work l V t e W' := by
  obtain ⟨gt, ct, rfl⟩ := inn_sl hin
  have hpl := h.plt
  have hlop := h.lop
  have hBl := h.B
  have hal1 : Below W.heap.size W (W.alloc (.cells #[.int .i64 t.kind, .string t.name, .int .i64 t.n, .slice gt t.args.length ct] 27)) := (Below.refl _ _).alloc (Nat.le_refl _) _
  have h1 := h.next hal1
  have hin1 := Tm.inn_below hin hal1 (by omega)
  by_cases hk : t.kind = 1
  · obtain ⟨n, hn, hrng⟩ : ∃ n, t = vTm n ∧ 0 ≤ n ∧ n < 1000000 := by
      have := Tm.var_of (right_fair ht) hk
      exact ⟨_, this.1, this.2⟩
    subst hn
    have hnV : n ∈ V := hV n (by rw [Tm.vs_vTm]; exact List.mem_singleton.2 rfl)
    have he1 := he.far (hal1.mono (by omega))
    obtain ⟨K0, svS, mv, xs, hS1, hSL⟩ := he1.store
    have hend := jend_any (W := W.alloc (.cells #[.int .i64 1, .string ⟨#[]⟩, .int .i64 n, .slice gt 0 ct] 27)) h1.box hS1 he.right hrng.1 hrng.2 hin1
    have HEND := Lib.hid hend
    have HJ := Lib.hid h
    have HAL := Lib.hid hal1
    have HENV := Lib.hid he
    have HU := Lib.hid hu
    have HNV := Lib.hid hnV
    clear hend h h1 hal1 he hu hnV hin hin1 hS1 hSL he1 ht hV hrng hk
    show Calls Try.prog 85 #[.pointer (some ⟨pb, 0, none⟩), .agg #[.int .i64 1, .string ⟨#[]⟩, .int .i64 n, .slice gt 0 ct]] W _
    go_enter Try.func85, Try.ntmps85
    go_wp2_with fail
    refine HEND.out.mono ?_
    rintro e w1 ⟨hb1, v, u, gu, cu, rfl, hei, hinu⟩
    have hbx : Below W.heap.size W (w1.alloc (.cells #[.int .i64 u.kind, .string u.name, .int .i64 u.n, .slice gu u.args.length cu] 27)) := (HAL.out.trans (hb1.mono HAL.out.size)).trans (((Below.refl _ _).alloc (Nat.le_refl _) _).mono (Nat.le_trans HAL.out.size hb1.size))
    have hs0 : W.heap.size + 1 ≤ w1.heap.size := by have := hb1.size; simpa using this
    have hj2 := HJ.out.next hbx
    obtain ⟨⟨b0, b1, b2, b3⟩, bf0, bf1, bf2, bf3⟩ := row4 hj2.box
    obtain ⟨⟨x0, x1, x2, x3⟩, xf0, xf1, xf2, xf3⟩ := row4 (newBlk w1 (.cells #[.int .i64 u.kind, .string u.name, .int .i64 u.n, .slice gu u.args.length cu] 27) _ rfl)
    have hwf : (Lit.int .i64 v).wf = true := WalkArith.wf_i64 (by have := hei.rng; omega)
    have hinu2 := Tm.inn_below hinu ((Below.refl w1.heap.size w1).alloc (Nat.le_refl _) (.cells #[.int .i64 u.kind, .string u.name, .int .i64 u.n, .slice gu u.args.length cu] 27)) (by omega)
    have HBX := Lib.hid hbx
    have HJ2 := Lib.hid hj2
    have HEI := Lib.hid hei
    have HWF := Lib.hid hwf
    have HIN := Lib.hid hinu2
    clear hbx hj2 hei hwf hinu2 hinu hb1 HEND HAL
    have HMAP := Lib.hid HJ2.out.map
    cases hv : vm v with
    | some i =>
      have HV := Lib.hid hv
      clear hv
      go_wp2_with (at_lookup; refine wpList_lookup_f _ rfl _ _ rfl mb K vm rfl HMAP.out v rfl HWF.out (i : Int) true (.inl ⟨rfl, i, HV.out, rfl⟩) ?_)
      go_ret
      refine ⟨i, K, svL, vm, [], rfl, JFr.of HBX.out (by omega), Nat.le_add_right _ _, ?_, ?_, (fun x hx => by cases hx)⟩
      · rw [List.append_nil]; exact HJ2.out
      · rw [List.append_nil]; exact PStep.old HU.out HEI.out.same HV.out
    | none =>
      have HV := Lib.hid hv
      clear hv
      have hadd := add_any HJ2.out hM HIN.out
      have HADD := Lib.hid hadd
      clear hadd
      go_wp2_with (at_lookup; refine wpList_lookup_f _ rfl _ _ rfl mb K vm rfl HMAP.out v rfl HWF.out 0 false (.inr ⟨rfl, HV.out, rfl⟩) ?_)
      refine HADD.out.mono ?_
      rintro e w2 ⟨rfl, svL', hb2, hj3⟩
      obtain ⟨⟨c0, c1, c2, c3⟩, cf0, cf1, cf2, cf3⟩ := row4 hj3.box
      obtain ⟨D, hD1, hD2⟩ := hj3.map
      have hkm : K < maxLen := by unfold maxLen; omega
      have HD1 := Lib.hid hD1
      have HD2 := Lib.hid hD2
      have HJ3 := Lib.hid hj3
      have HB2 := Lib.hid hb2
      have HIW := Lib.hid (show (Lit.int .i64 (M.length : Int)).wf = true from WalkArith.wf_i64 (by omega))
      clear hD1 hD2 hj3 hb2 HADD
      go_wp2_with (at_mapUpdate; refine wpList_mapUpdate_own _ rfl _ _ _ 93 rfl 3 3 (Maps.int_keyed Try.underlying3) Try.underlying93 _ mb K _ rfl HD1.out hkm _ _ _ rfl rfl (Maps.keyOf_int_mk Try.underlying3 HWF.out) _ [] (plainElem_int Try.underlying3 HIW.out) ?_; intro w3 hown3 hgrow3)
      go_ret
      refine ⟨M.length, K + 1, svL', upd vm v M.length, [⟨⟨u, [], M.length⟩, .slice gu u.args.length cu, .slice none 0 0⟩], rfl, ?_, Nat.le_refl _, HJ3.out.note hgrow3 (MapF.put HD1.out HD2.out hown3), ?_, fun x hx => by rw [List.mem_singleton.1 hx]⟩
      · have hlom := HJ3.out.lom
        have hs2 := HB2.out.below.size
        have hs3 := HBX.out.size
        have hl3 : lo ≤ w2.heap.size := by omega
        exact ((JFr.of HBX.out (by omega)).trans HB2.out).trans ⟨(Below.refl _ _).grown hgrow3 hl3 (fun k e => by cases e; omega), fun b hb hn => hgrow3.block b hb (fun e => hn (.inr (.inl (Option.some.inj e)))), fun _ _ h => h⟩
      · have := PStep.new HU.out HENV.out.right.1 HEI.out.same HV.out HEI.out.rng (HEI.out.mem V HNV.out HENV.out.inV) HENV.out.inV HEI.out.is
        rw [psOf_length] at this
        rw [psOf_snoc]
        exact this
  · have hkb : (t.kind != 1) = true := by simp [hk]
    have hadd := add_any h1 hM hin1
    have hps := PStep.plain hu ht hV hk
    rw [psOf_length] at hps
    have HADD := Lib.hid hadd
    have HPS := Lib.hid hps
    have HAL := Lib.hid hal1
    clear hadd hps h h1 hal1 he hu hin hin1 ht hV hk
    go_enter Try.func85, Try.ntmps85
    go_wp2_with fail
    refine HADD.out.mono ?_
    rintro e w2 ⟨rfl, svL', hb2, hj3⟩
    have HJ3 := Lib.hid hj3
    have HB2 := Lib.hid hb2
    clear hj3 hb2
    go_wp2_with fail
    go_ret
    refine ⟨M.length, K, svL', vm, [⟨⟨t, [], M.length⟩, .slice gt t.args.length ct, .slice none 0 0⟩], rfl, (JFr.of HAL.out (by omega)).trans HB2.out, Nat.le_add_right _ _, HJ3.out, ?_, fun x hx => by rw [List.mem_singleton.1 hx]⟩
    rw [psOf_snoc]
    exact HPS.out
end Go.Proofs.Ytgnbjhiafjpokaa
