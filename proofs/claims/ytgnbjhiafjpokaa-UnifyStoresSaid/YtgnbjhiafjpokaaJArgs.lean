/-
  The program's args: which parts the Args of a part are.
-/
import Derived.Test.YtgnbjhiafjpokaaJPart
import Derived.Lib.SliceRun
namespace Go.Proofs.Ytgnbjhiafjpokaa
open Go.RowKit Go.Shelf Go.Maps

/-- What the parts are behind a call of args for part i. -/
structure ArgStep (l : List Bd) (V : List Int) (P P' : List Pt) (vm vm' : Int → Option Nat) (i : Nat) : Prop where
  upt : UPt l V P' vm'
  len : P.length ≤ P'.length
  known : argsKnown P' i
  at_ : ∀ j, j < P.length → j ≠ i → pt P' j = pt P j
  tm : ∀ j, j < P.length → (pt P' j).t = (pt P j).t
  fst : ∀ ro d, Fst P ro d → Fst P' ro d
  roOk : ∀ ro, RoOk P ro → RoOk P' ro
  inv : ∀ a b ia ib ro pend, RoOk P ro → UInv l a b ia ib P ro pend → UInv l a b ia ib P' ro pend
  room : pot l P' vm' ≤ pot l P vm
theorem ArgStep.refl {l : List Bd} {V : List Int} {P : List Pt} {vm : Int → Option Nat} {i : Nat} (h : UPt l V P vm) (hk : argsKnown P i) : ArgStep l V P P vm vm i :=
  ⟨h, Nat.le_refl _, hk, fun _ _ _ => rfl, fun _ _ => rfl, fun _ _ h => h, fun _ h => h, fun _ _ _ _ _ _ _ h => h, Nat.le_refl _⟩
theorem ArgStep.done {l : List Bd} {V : List Int} {P P1 : List Pt} {vm vm1 : Int → Option Nat} {i : Nat} {ks : List Nat} (hi : i < P.length) (he : Ext P P1) (h : UPt l V P1 vm1) (h0 : (pt P i).args = []) (hlen : ks.length = (pt P i).t.args.length)
    (has : ∀ k (hk : k < (pt P i).t.args.length), ks.getD k 0 < P1.length ∧ ∀ θ, Solves θ l → val θ P1 (ks.getD k 0) = (pt P i).t.args[k].bnd θ) (hp : pot l P1 vm1 ≤ pot l P vm + Tm.sizes (pt P i).t.args) :
    ArgStep l V P (P1.set i { pt P1 i with args := ks }) vm vm1 i := by
  have hpt := he.pt hi
  have hl := he.len
  have hi1 : i < P1.length := by omega
  refine ⟨h.setArgs hi1 (by rw [hpt]; exact hlen) (by rw [hpt]; exact has), by rw [List.length_set]; exact hl, ?_, fun j hj hne => by rw [pt_set hi1, if_neg hne, he.pt hj], fun j hj => by rw [t_set hi1, he.pt hj], fun ro d hf => (he.fst hf).args hi1 ks, fun ro hf => (he.roOk hf).of_len (by rw [List.length_set]), fun a b ia ib ro pend hf hu => (he.inv hf hu).setArgs hi1 (by rw [hpt]; exact h0) (by rw [hpt]; exact hlen), ?_⟩
  · unfold argsKnown
    rw [t_set hi1, pt_set hi1, if_pos rfl, hpt]
    exact hlen
  · have := pot_setArgs l P1 vm1 hi1 (by rw [hpt]; exact h0) (ks := ks) (by rw [hpt]; exact hlen)
    rw [hpt] at this ⊢
    omega
def ArgsPost (W : World) (lo B pb sb mb _K : Nat) (svL svW : Value) (M : List PM) (vm : Int → Option Nat) (work : List (Nat × Nat)) (l : List Bd) (V : List Int) (i : Nat) (e : Ending) (W' : World) : Prop :=
  ∃ (K' : Nat) (svL' : Value) (vm' : Int → Option Nat) (M' : List PM) (x : PM), M'[i]? = some x ∧ e = .returned x.ks ∧ JFr lo pb mb svL svW svL' svW W W' ∧ K' ≤ M'.length ∧ JMem W' lo B pb sb mb K' svL' svW M' vm' work ∧ ArgStep l V (psOf M) (psOf M') vm vm' i ∧ ∀ j, j < M.length → j ≠ i → M'[j]? = M[j]?
/-- The numbers of the first k Args, while they are gathered. -/
structure AIter (lo B pb sb mb : Nat) (svL svW : Value) (M : List PM) (vm : Int → Option Nat) (work : List (Nat × Nat)) (l : List Bd) (V : List Int) (ts : List Tm) (W : World) (k : Nat) (ks : List Nat) (svA svL' : Value) (K' : Nat) (vm' : Int → Option Nat) (N : List PM) (wr : World) : Prop where
  mem : JMem wr lo B pb sb mb K' svL' svW (M ++ N) vm' work
  fr : JFr lo pb mb svL svW svL' svW W wr
  K : K' ≤ (M ++ N).length
  upt : UPt l V (psOf (M ++ N)) vm'
  ext : Ext (psOf M) (psOf (M ++ N))
  room : pot l (psOf (M ++ N)) vm' ≤ pot l (psOf M) vm + Tm.sizes (ts.take k)
  own : ownInts wr W.heap.size svA (nums ks)
  old : ∀ x ∈ M ++ N, ∀ b, x.ks.ownBlock = some b → b < W.heap.size
  nil_ : ks = [] → svA = .slice none 0 0
  away : ∀ b, svA.ownBlock = some b → ¬ wrote pb mb svL' svW b
  len : ks.length = k
  vals : ∀ j (hj : j < ts.length), j < k → ks.getD j 0 < (M ++ N).length ∧ ∀ θ, Solves θ l → val θ (psOf (M ++ N)) (ks.getD j 0) = ts[j].bnd θ
theorem own_nums_at {W : World} {lo : Nat} {no : Nat → Prop} {sv : Value} {ks : List Nat} (h : ownInts W lo sv (nums ks)) (hn : ∀ b, sv.ownBlock = some b → ¬ no b) (h0 : ks ≠ []) : numsAt W lo no ks sv := by
  obtain ⟨g, c, e⟩ := own_slice h
  have hpos : 0 < ks.length := List.length_pos_iff.2 h0
  obtain ⟨b, eb, hlt, _⟩ := own_get h e hpos
  have hob : sv.ownBlock = some b := by rw [e, eb]; rfl
  refine .inr ⟨b, c, by rw [e, eb], h0, (h.lt b hob).1, hlt, hn b hob, fun k hk => ?_⟩
  obtain ⟨b2, e2, _, hc⟩ := own_get h e hk
  rw [eb] at e2
  injection e2 with e3
  injection e3 with e4
  rw [e4]
  exact hc
theorem JMem.away {W W3 : World} {lo B pb sb mb K : Nat} {svL svW : Value} {M : List PM} {vm : Int → Option Nat} {work : List (Nat × Nat)} (h : JMem W lo B pb sb mb K svL svW M vm work) {r : Option Nat} (hg : W.grownBy W3 r) (hr : ∀ b, r = some b → lo ≤ b ∧ ¬ wrote pb mb svL svW b ∧ ∀ x ∈ M, x.ks.ownBlock ≠ some b) : JMem W3 lo B pb sb mb K svL svW M vm work := by
  have hp := h.plt
  have hB := h.B
  have hlop := h.lop
  have hb : ∀ b, b < W.heap.size → r ≠ some b → W3.heap[b]? = W.heap[b]? := fun b hlt hne => hg.block b hlt (fun e => hne e.symm)
  have hw : ∀ b, wrote pb mb svL svW b → r ≠ some b := fun b hw e => (hr b e).2.1 hw
  refine ⟨(hb pb hp (hw pb (.inl rfl))).trans h.box, ownsRow_block h.row (fun b e => hb b (h.row.lt b e).2 (hw b (.inr (.inr (.inl e))))), ownsRow_block h.wk (fun b e => hb b (h.wk.lt b e).2 (hw b (.inr (.inr (.inr e))))), h.map.of_block (hb mb h.map.lt (hw mb (.inr (.inl rfl)))),
    fun x hx => Tm.inn_same (Nat.le_refl _) (fun b o v hlt hc => (World.cell?_of_block (a := ⟨b, o, none⟩) (hb b (by omega) (fun e => by have := (hr b e).1; omega))).trans hc) _ _ (h.ts x hx), fun x hx => ?_, h.B, h.lop, h.lom, h.pm, h.Lp, h.Lm, h.Wp, h.Wm, h.LW⟩
  rcases h.ks x hx with h0 | ⟨b, c, e, h1, h2, h3, h4, h5⟩
  · exact .inl h0
  · have hs := hg.size
    exact .inr ⟨b, c, e, h1, h2, by omega, h4, fun k hk => (World.cell?_of_block (a := ⟨b, k, none⟩) (hb b h3 (fun e' => (hr b e').2.2 x hx (by rw [e]; rfl)))).trans (h5 k hk)⟩
theorem AIter.step {lo B pb sb mb : Nat} {svL svW : Value} {M : List PM} {vm : Int → Option Nat} {work : List (Nat × Nat)} {l : List Bd} {V : List Int} {ts : List Tm} {W : World} {k : Nat} {ks : List Nat} {svA svL' : Value} {K' : Nat} {vm' : Int → Option Nat} {N : List PM} {wr : World}
    (h : AIter lo B pb sb mb svL svW M vm work l V ts W k ks svA svL' K' vm' N wr) (hk : k < ts.length) {wb w1 w3 : World} {tmp : Obj} {svL'' v' : Value} {K'' i' : Nat} {vm'' : Int → Option Nat} {N' : List PM} (hlo : lo ≤ W.heap.size) (hb : Below wr.heap.size wr wb) (hf : JFr lo pb mb svL' svW svL'' svW wb w1) (hK : K'' ≤ K' + N'.length)
    (hm : JMem w1 lo B pb sb mb K'' svL'' svW ((M ++ N) ++ N') vm'' work) (hp : PStep l V (psOf (M ++ N)) (psOf ((M ++ N) ++ N')) vm' vm'' ts[k] i') (hN : ∀ x ∈ N', x.ks = .slice none 0 0) (hown : w3.ownsRow W.heap.size 3 1 v' (ks.length + 1) ((nums ks).map (Value.int .i64) ++ [.int .i64 (i' : Nat)]))
    (hg : (w1.alloc tmp).grownBy w3 svA.ownBlock) (hs : v'.ownBlock = svA.ownBlock ∨ ∀ b, v'.ownBlock = some b → (w1.alloc tmp).heap.size ≤ b) :
    AIter lo B pb sb mb svL svW M vm work l V ts W (k + 1) (ks ++ [i']) v' svL'' K'' vm'' (N ++ N') w3 := by
  have hs1 := hb.size
  have hs2 := hf.below.size
  have hsW := h.fr.below.size
  have hs3 := hg.size
  simp at hs3
  have hal : Below w1.heap.size w1 (w1.alloc tmp) := (Below.refl _ _).alloc (Nat.le_refl _) _
  have hlor : lo ≤ wr.heap.size := by omega
  have hfr1 : JFr lo pb mb svL svW svL'' svW W w1 := (h.fr.trans (JFr.of hb hlor)).trans hf
  have hAlt : ∀ b, svA.ownBlock = some b → W.heap.size ≤ b ∧ b < wr.heap.size := fun b e => h.own.lt b e
  have haw1 : ∀ b, svA.ownBlock = some b → ¬ wrote pb mb svL'' svW b := fun b e => hf.new b (by have := hAlt b e; omega) (h.away b e)
  have hold : ∀ x ∈ (M ++ N) ++ N', ∀ b, x.ks.ownBlock = some b → b < W.heap.size := fun x hx b e => by
    rcases List.mem_append.1 hx with hx | hx
    · exact h.old x hx b e
    · rw [hN x hx] at e; cases e
  have hm3 := (hm.next hal).away hg (fun b e => ⟨by have := hAlt b e; omega, haw1 b e, fun x hx e' => by have := hold x hx b e'; have := hAlt b e; omega⟩)
  have hassoc : M ++ (N ++ N') = (M ++ N) ++ N' := (List.append_assoc _ _ _).symm
  refine ⟨by rw [hassoc]; exact hm3, ?_, ?_, by rw [hassoc]; exact hp.upt, by rw [hassoc]; exact h.ext.trans hp.ext, ?_, ?_, by rw [hassoc]; exact hold, (fun e => by simp at e), fun b e => ?_, by rw [List.length_append, h.len]; rfl, fun j hj hjk => ?_⟩
  · exact ⟨hfr1.below.trans (((Below.refl _ _).alloc (by omega) tmp).grown hg (by simp; omega) (fun b e => by have := hAlt b e; omega)), fun b hb' hn => (hg.block b (by simp; omega) (fun e => by have := hAlt b e.symm; omega)).trans ((hal.block b (by omega)).trans (hfr1.block b hb' hn)), hfr1.new⟩
  · have := h.K
    rw [hassoc, List.length_append]
    omega
  · rw [hassoc, Tm.sizes_take_succ _ _ hk]
    have := hp.pot
    have := h.room
    omega
  · rw [nums_snoc]; exact ownInts_append hown (nums_length _)
  · rcases hs with hs | hs
    · exact haw1 b (hs ▸ e)
    · have := hs b e
      simp at this
      intro hw
      rcases hw with e' | e' | e' | e'
      · have := hm.plt; omega
      · have := hm.map.lt; omega
      · have := hm.row.lt _ e'; omega
      · have := hm.wk.lt _ e'; omega
  · by_cases hjj : j < k
    · have h1 := h.vals j hj hjj
      have hjl : j < ks.length := by rw [h.len]; exact hjj
      have e : (ks ++ [i']).getD j 0 = ks.getD j 0 := by simp [List.getD, List.getElem?_append_left hjl]
      rw [e, hassoc]
      have h2 := hp.ext.len
      rw [psOf_length, psOf_length] at h2
      exact ⟨by omega, fun θ hθ => by rw [hp.ext.val θ (by rw [psOf_length]; exact h1.1)]; exact h1.2 θ hθ⟩
    · obtain rfl : j = k := by omega
      have e : (ks ++ [i']).getD j 0 = i' := by
        rw [← h.len]
        simp [List.getD]
      rw [e, hassoc]
      have h2 := hp.lt
      rw [psOf_length] at h2
      exact ⟨h2, hp.val⟩
theorem vs_arg {t u : Tm} (hu : u ∈ t.args) {v : Int} (hv : v ∈ u.vs) : v ∈ t.vs := by
  cases t
  exact Tm.vs_mem_args hu hv
theorem AIter.setA {lo B pb sb mb : Nat} {svL svW : Value} {M : List PM} {vm : Int → Option Nat} {work : List (Nat × Nat)} {l : List Bd} {V : List Int} {ts : List Tm} {W : World} {ks : List Nat} {svA svL' : Value} {K' : Nat} {vm' : Int → Option Nat} {N : List PM} {wr : World}
    (h : AIter lo B pb sb mb svL svW M vm work l V ts W ts.length ks svA svL' K' vm' N wr) (hlo : lo ≤ W.heap.size) : numsAt wr lo (wrote pb mb svL' svW) ks svA := by
  by_cases h0 : ks = []
  · exact .inl ⟨h0, h.nil_ h0⟩
  · rcases own_nums_at h.own h.away h0 with h1 | ⟨b, c, e, h1, h2, h3⟩
    · exact .inl h1
    · exact .inr ⟨b, c, e, h1, by omega, h3⟩

set_option maxRecDepth 100000 in
set_option maxHeartbeats 4000000 in
theorem jargs_any {W : World} {lo B pb sb mb K : Nat} {svL svW : Value} {M : List PM} {vm : Int → Option Nat} {work : List (Nat × Nat)} {l : List Bd} {V : List Int} (h : JMem W lo B pb sb mb K svL svW M vm work) (hKM : K ≤ M.length) (hlo : lo ≤ W.heap.size) (he : PEnv lo B sb l V W) (hu : UPt l V (psOf M) vm) (hpot : pot l (psOf M) vm ≤ 100000000) {i : Nat} (hi : i < M.length) :
    Calls Try.prog 101 #[.pointer (some ⟨pb, 0, none⟩), .int .i64 (i : Nat)] W fun e W' => ArgsPost W lo B pb sb mb K svL svW M vm work l V i e W' := by
  have hpl := h.plt
  have hlop := h.lop
  have hBl := h.B
  obtain ⟨g, c, hsl, hlog, hglt, hgp, g0, g1, g2, g3, g4, g5, fr⟩ := h.get i hi
  obtain ⟨⟨b0, b1, b2, b3⟩, bf0, bf1, bf2, bf3⟩ := row4 h.box
  rw [hsl] at b1
  have hps : pt (psOf M) i = M[i].p := pt_psOf hi
  have hil : i < (psOf M).length := by rw [psOf_length]; exact hi
  by_cases ha : M[i].p.args = []
  · obtain ⟨gt, ct, hts⟩ := inn_sl (h.tIn i hi)
    have hks : M[i].ks = .slice none 0 0 := by
      rcases h.kIn i hi with ⟨_, e⟩ | ⟨_, _, _, e, _⟩
      · exact e
      · exact absurd ha e
    rw [hts] at g3
    rw [hks] at g4
    have hri := hu.right i hil
    have hVi := hu.inV i hil
    rw [hps] at hri hVi
    have hin0 := h.tIn i hi
    rw [hts] at hin0
    obtain ⟨ts, hTs⟩ : ∃ ts, M[i].p.t.args = ts := ⟨_, rfl⟩
    have hsl0 := (Tm.inn_iff.1 hin0).2
    rw [hTs] at hsl0 g3
    have hsz : Tm.sizes ts ≤ 3000 := by
      have h1 := size_args M[i].p.t
      have h2 : M[i].p.t.size ≤ 3000 := by
        have := hri
        simp only [Tm.right, Bool.and_eq_true, decide_eq_true_eq] at this
        exact this.1.2
      rw [hTs] at h1
      omega
    have hlt0 := Tm.length_le_sizes ts
    have hargR : ∀ u ∈ ts, u.right = true ∧ ∀ v ∈ u.vs, v ∈ V := fun u hu' => by
      rw [← hTs] at hu'
      exact ⟨right_arg hri hu', fun v hv => hVi v (vs_arg hu' hv)⟩
    have hpl0 := pot_len l (psOf M) vm
    rw [psOf_length] at hpl0
    have hpot' : pot l (psOf M) vm ≤ 100000000 := hpot
    have HJ := Lib.hid h
    have HE := Lib.hid he
    have HU := Lib.hid hu
    have HPS := Lib.hid hps
    have HA := Lib.hid ha
    have HTS := Lib.hid hTs
    have HSL := Lib.hid hsl0
    have HAR := Lib.hid hargR
    have HIL := Lib.hid hil
    have HHSL := Lib.hid hsl
    obtain ⟨i0, hi0, hz0, hz1, hz2⟩ := info_parts Try.infoInt
    have hlt : ts.length ≤ 3000 := by omega
    clear h he hu hps ha hTs hsl0 hargR hsl hin0 hts hks hri hVi hil hlt0
    have hq := fun (w : World) (a : Option Addr) (n c n' c' : Nat) => Lib.run_eql_slice_nil (P := Try.prog) w 46 3 a n c n' c' Try.underlying46
    go_enter Try.func101, Try.ntmps101
    go_wp2_with fail
    clear hq
    go_loopw [5, 27] (fun svA ix wr => ∃ (k : Nat) (ks : List Nat) (svL' : Value) (K' : Nat) (vm' : Int → Option Nat) (N : List PM), k ≤ ts.length ∧ ix = .int .i64 (k : Nat) ∧ Hid (AIter lo B pb sb mb svL svW M vm work l V ts W k ks svA svL' K' vm' N wr)) (fun _ ix _ => ts.length - (intOf ix).toNat)
    case atStart =>
      refine ⟨0, [], svL, K, vm, [], Nat.zero_le _, rfl, ?_⟩
      have hj := HJ.out
      refine ⟨by rw [List.append_nil]; exact hj, JFr.refl _, by rw [List.append_nil]; exact hKM, by rw [List.append_nil]; exact HU.out, by rw [List.append_nil]; exact .refl, by rw [List.append_nil]; simp [Tm.sizes], ⟨rfl, .inl ⟨rfl, rfl⟩⟩, ?_, fun _ => rfl, (fun b e => by cases e), rfl, fun j _ hj => absurd hj (Nat.not_lt_zero _)⟩
      rw [List.append_nil]
      intro x hx b e
      rcases hj.ks x hx with ⟨_, e'⟩ | ⟨b', c', e', _, _, h3, _⟩
      · rw [e'] at e; cases e
      · rw [e'] at e
        have : b' = b := Option.some.inj e
        omega
    case round =>
      obtain ⟨k, ks, svL', K', vm', N, hk, rfl, hai⟩ := hrel
      have HAI := Lib.hid hai.out
      clear hai
      have hwsz := HAI.out.fr.below.size
      by_cases hklt : k < ts.length
      · obtain ⟨b, off, sv, hgt, hbB, q0, q1, q2, q3, hin'⟩ := Tm.sliceIn_get (Tm.sliceIn_below HSL.out HAI.out.fr.below hBl) k hklt
        subst hgt
        obtain ⟨ga, ca, rfl⟩ := inn_sl hin'
        have hal : Below wr.heap.size wr (wr.alloc (.cells #[.int .i64 ts[k].kind, .string ts[k].name, .int .i64 ts[k].n, .slice ga ts[k].args.length ca] 27)) := (Below.refl _ _).alloc (Nat.le_refl _) _
        have hAR := HAR.out _ (List.getElem_mem hklt)
        have hroom := HAI.out.room
        have hstl := Tm.sizes_take_le ts k
        have hpl1 := pot_len l (psOf (M ++ N)) vm'
        rw [psOf_length] at hpl1
        have hK1 := HAI.out.K
        have hpart := part_any (HAI.out.mem.next hal) (HE.out.far (HAI.out.fr.below.trans (hal.mono (by omega)))) HAI.out.upt (by omega) (by omega) hAR.1 hAR.2 (Tm.inn_below hin' hal (by omega))
        have HPART := Lib.hid hpart
        have HAL := Lib.hid hal
        have hkl : ks.length = k := HAI.out.len
        have HKL := Lib.hid hkl
        have hob : ∀ b, u5.ownBlock = some b → W.heap.size ≤ b := fun b e => (HAI.out.own.lt b e).1
        have HOB := Lib.hid hob
        clear hpart hal hin' hAR hroom hstl hpl1 hkl hob
        go_wp2_with fail
        refine HPART.out.mono ?_
        rintro e w1 ⟨i', K'', svL'', vm'', N', rfl, hf1, hK2, hm1, hps1, hN1⟩
        have hs1 : wr.heap.size + 1 ≤ w1.heap.size := by have := hf1.below.size; simpa using this
        have hown1 : w1.ownsRow W.heap.size 3 1 u5 ks.length ((nums ks).map (Value.int .i64)) := by
          have h0 := HAI.out.own
          unfold ownInts at h0
          rw [nums_length] at h0
          refine ownsRow_block h0 (fun b e => ?_)
          have hbl := (h0.lt b e).2
          exact (hf1.block b (by simp; omega) (HAI.out.away b e)).trans (HAL.out.block b hbl)
        have HF1 := Lib.hid hf1
        have HK2 := Lib.hid hK2
        have HM1 := Lib.hid hm1
        have HPS1 := Lib.hid hps1
        have HN1 := Lib.hid hN1
        have HOWN1 := Lib.hid hown1
        have hkk : ks.length ≤ 3000 := by have := HKL.out; omega
        clear hf1 hK2 hm1 hps1 hN1 hown1 HPART
        go_wp2_with (at_builtin; refine wpList_append_sep _ rfl _ _ 46 rfl W.heap.size 3 i0 _ 1 8 Try.underlying46 hi0 hz0 hz1 hz2 rfl (by decide) u5 ks.length ((nums ks).map (Value.int .i64)) rfl (HOWN1.out.alloc _) ⟨w1.heap.size, 0, none⟩ 1 1 [.int .i64 (i' : Nat)] rfl (by decide) rfl (news1h _ rfl) (by simp [Value.oneCell']) (by unfold maxLen; omega) (by omega) (by simp; omega) ?_; intro v' w3 hown3 hgrow3 hsep3)
        go_roundw
        case rel => exact ⟨k + 1, ks ++ [i'], svL'', K'', vm'', N ++ N', by omega, by go_num, HAI.out.step hklt hlo HAL.out HF1.out HK2.out HM1.out HPS1.out HN1.out hown3 hgrow3 hsep3⟩
        case measure => simp [intOf]; omega
      · obtain rfl : k = ts.length := by omega
        have hmem := HAI.out.mem
        have hiN : i < (M ++ N).length := by rw [List.length_append]; omega
        have hMi : (M ++ N)[i] = M[i] := List.getElem_append_left hi
        obtain ⟨gg, gc, hsl', hlog', hglt', hgp', e0, e1, e2, e3, e4, e5, efr⟩ := hmem.get i hiN
        obtain ⟨⟨p0, p1, p2, p3⟩, _⟩ := row4 hmem.box
        rw [hsl'] at p1
        have hobL : svL'.ownBlock = some gg := by rw [hsl']; rfl
        have hna := HAI.out.setA hlo
        obtain ⟨g5, c5, h5⟩ := hna.slice
        have hset := hmem.setArgs hobL hiN hna
        have hfr2 := HAI.out.fr.trans (JFr.setCell hlog' (.inr (.inr (.inl hobL))) wr (i * 6 + 4) u5)
        have hps1 : pt (psOf (M ++ N)) i = M[i].p := by rw [pt_psOf hiN, hMi]
        have hlen5 : ks.length = (pt (psOf M) i).t.args.length := by rw [HPS.out, HTS.out]; exact HAI.out.len
        have hstep := ArgStep.done (ks := ks) HIL.out HAI.out.ext HAI.out.upt (by rw [HPS.out]; exact HA.out) hlen5 (fun k hk => by
          have hk' : k < ts.length := by rw [HPS.out, HTS.out] at hk; exact hk
          have h2 := HAI.out.vals k hk' hk'
          refine ⟨by rw [psOf_length]; exact h2.1, fun θ hθ => ?_⟩
          rw [h2.2 θ hθ]
          congr 1
          have h3 := HTS.out
          have h4 := HPS.out
          subst h3
          simp only [h4]) (by
          have h2 := HAI.out.room
          rw [List.take_of_length_le (Nat.le_refl _)] at h2
          rw [HPS.out, HTS.out]
          exact h2)
        rw [hps1] at hstep
        have hlen2 := hmem.sliceL
        subst h5
        have HSET := Lib.hid hset
        have HFR2 := Lib.hid hfr2
        have HSTEP := Lib.hid hstep
        have HMI := Lib.hid hMi
        have hKL := HAI.out.K
        have HKL := Lib.hid hKL
        have fx := efr (i * 6 + 4)
        have hin : (i : Int) < ((M ++ N).length : Int) := by omega
        have hpg : pb ≠ gg := fun e => hgp' e.symm
        obtain ⟨mn, hmn⟩ : ∃ mn, (M ++ N).length = mn := ⟨_, rfl⟩
        rw [hmn] at p1 hin
        have HMN := Lib.hid hmn
        have hself : (wr.setCell ⟨gg, i * 6 + 4, none⟩ (.slice g5 ks.length c5)).cell? ⟨gg, i * 6 + 4, none⟩ = some (.slice g5 ks.length c5) := by
          have hx := HSET.out.get i (by rw [List.length_set]; exact hiN)
          obtain ⟨g', c', h1, _, _, _, _, _, _, _, h7, _⟩ := hx
          rw [h1] at hobL
          have : g' = gg := Option.some.inj hobL
          rw [this] at h7
          simpa using h7
        clear hset hfr2 hstep hMi hKL hlen2 hlen5 hps1 hna hmem hobL hsl' e0 e1 e2 e3 e5 efr hmn
        go_wp2_with fail
        go_ret
        refine ⟨K', svL', vm', (M ++ N).set i ⟨{ (M ++ N)[i].p with args := ks }, (M ++ N)[i].ts, .slice g5 ks.length c5⟩, ⟨{ (M ++ N)[i].p with args := ks }, (M ++ N)[i].ts, .slice g5 ks.length c5⟩, ?_, rfl, HFR2.out, by rw [List.length_set]; exact HKL.out, HSET.out, ?_, fun j hj hne => ?_⟩
        · rw [List.getElem?_set_self hiN]
        · rw [psOf_set, HMI.out]
          exact HSTEP.out
        · rw [List.getElem?_set_ne (fun e => hne e.symm), List.getElem?_append_left hj]
  · have hkn : argsKnown (psOf M) i := by
      unfold argsKnown
      rcases hu.args i hil with h0 | ⟨h0, _⟩
      · rw [hps] at h0; exact absurd h0 ha
      · exact h0
    obtain ⟨b, c', hks⟩ : ∃ b c', M[i].ks = .slice (some ⟨b, 0, none⟩) M[i].p.args.length c' := by
      rcases h.kIn i hi with ⟨e, _⟩ | ⟨b, c', e, _⟩
      · exact absurd e ha
      · exact ⟨b, c', e⟩
    rw [hks] at g4
    have hpost : ArgsPost W lo B pb sb mb K svL svW M vm work l V i (.returned (.slice (some ⟨b, 0, none⟩) M[i].p.args.length c')) W :=
      ⟨K, svL, vm, M, M[i], List.getElem?_eq_getElem hi, by rw [hks], JFr.refl _, hKM, h, ArgStep.refl hu hkn, fun _ _ _ => rfl⟩
    have HP := Lib.hid hpost
    have hin : (i : Int) < (M.length : Int) := by omega
    clear hpost h he hu ha hkn hks hps hsl
    have hq := fun (w : World) (a : Option Addr) (n c n' c' : Nat) => Lib.run_eql_slice_nil (P := Try.prog) w 46 3 a n c n' c' Try.underlying46
    go_enter Try.func101, Try.ntmps101
    go_wp2_with fail
    go_ret
    exact HP.out
end Go.Proofs.Ytgnbjhiafjpokaa
