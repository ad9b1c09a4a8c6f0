/-
  The program's unite: two parts become the same.
-/
import Derived.Test.YtgnbjhiafjpokaaJArgs
import Derived.Deep.RegionHeld3
namespace Go.Proofs.Ytgnbjhiafjpokaa
open Go.RowKit Go.Shelf Go.Maps

/-- How many parts are no longer their own. -/
def NR (P : List Pt) (ro : Nat → Nat) (c : Nat) : Prop := ∃ nr : List Nat, nr.Nodup ∧ (∀ j ∈ nr, j < P.length ∧ ro j ≠ j) ∧ nr.length = c
theorem NR.le {P : List Pt} {ro : Nat → Nat} {c : Nat} (h : NR P ro c) : c ≤ P.length := by
  obtain ⟨nr, h1, h2, rfl⟩ := h
  exact nodup_len P.length nr h1 fun x hx => (h2 x hx).1
theorem NR.mono {P P' : List Pt} {ro : Nat → Nat} {c : Nat} (h : NR P ro c) (hl : P.length ≤ P'.length) : NR P' ro c := by
  obtain ⟨nr, h1, h2, h3⟩ := h
  exact ⟨nr, h1, fun j hj => ⟨by have := (h2 j hj).1; omega, (h2 j hj).2⟩, h3⟩
theorem NR.link {P P' : List Pt} {ro : Nat → Nat} {c x y : Nat} (h : NR P ro c) (hl : P.length ≤ P'.length) (hy : y < P.length) (rx : ro x = x) (ry : ro y = y) (hne : x ≠ y) : NR P' (roL ro x y) (c + 1) := by
  obtain ⟨nr, h1, h2, h3⟩ := h
  refine ⟨y :: nr, List.nodup_cons.2 ⟨fun hm => (h2 y hm).2 ry, h1⟩, fun j hj => ?_, by rw [List.length_cons, h3]⟩
  rcases List.mem_cons.1 hj with rfl | hj
  · exact ⟨by omega, by simp [roL, ry, hne]⟩
  · have := h2 j hj
    refine ⟨by omega, ?_⟩
    unfold roL
    split
    · rename_i e
      rintro rfl
      rw [rx] at e
      exact hne e
    · exact this.2
/-- What stands while two roots are looked for. -/
def UTwo (W0 : World) (lo B pb sb mb K : Nat) (svL svW : Value) (M : List PM) (vm : Int → Option Nat) (work : List (Nat × Nat)) (ro d : Nat → Nat) (W : World) : Prop :=
  JFr lo pb mb svL svW svL svW W0 W ∧ ∃ M', JMem W lo B pb sb mb K svL svW M' vm work ∧ Fst (psOf M') ro d ∧ AlikeM M M'
theorem last_two {W0 W : World} {lo B pb sb mb K : Nat} {svL svW : Value} {M : List PM} {vm : Int → Option Nat} {work : List (Nat × Nat)} {ro d : Nat → Nat} {i b p1 p2 : Nat} (hb : b < W0.heap.size) (hn : ¬ wrote pb mb svL svW b) (hi : i < M.length) (h : W.cell? ⟨b, 0, none⟩ = some (.int .i64 (p1 : Nat)) ∧ W.cell? ⟨b, 1, none⟩ = some (.int .i64 (p2 : Nat)) ∧ UTwo W0 lo B pb sb mb K svL svW M vm work ro d W) :
    Calls Try.prog 100 #[.pointer (some ⟨pb, 0, none⟩), .int .i64 (i : Nat)] W fun e W' => e = .returned (.int .i64 (ro i : Nat)) ∧ W'.cell? ⟨b, 0, none⟩ = some (.int .i64 (p1 : Nat)) ∧ W'.cell? ⟨b, 1, none⟩ = some (.int .i64 (p2 : Nat)) ∧ UTwo W0 lo B pb sb mb K svL svW M vm work ro d W' := by
  obtain ⟨c0, c1, hfr, M', hj, hf, ha⟩ := h
  refine (last_any hj hf (by rw [ha.len]; exact hi)).mono fun e W' => ?_
  rintro ⟨rfl, hfr2, M'', hj2, hf2, ha2⟩
  have hbl : W'.heap[b]? = W.heap[b]? := hfr2.block b (Nat.lt_of_lt_of_le hb hfr.below.size) hn
  exact ⟨rfl, (World.cell?_of_block (a := ⟨b, 0, none⟩) hbl).trans c0, (World.cell?_of_block (a := ⟨b, 1, none⟩) hbl).trans c1, hfr.trans hfr2, M'', hj2, hf2, ha.trans ha2⟩
/-- What unite tells. -/
def UnitePost (W : World) (lo B pb sb mb : Nat) (_svL _svW : Value) (M : List PM) (vm : Int → Option Nat) (work : List (Nat × Nat)) (l : List Bd) (V : List Int) (a b : Tm) (ia ib : Nat) (ro : Nat → Nat) (pend : List (Nat × Nat)) (e : Ending) (W' : World) : Prop :=
  (e = .returned (.bool false) ∧ Below lo W W' ∧ NoMgu l a b) ∨ (e = .returned (.bool true) ∧ ∃ (K' : Nat) (svL' svW' : Value) (vm' : Int → Option Nat) (M' : List PM) (more : List (Nat × Nat)) (ro' d' : Nat → Nat), Below lo W W' ∧ K' ≤ M'.length ∧ JMem W' lo B pb sb mb K' svL' svW' M' vm' (work ++ more) ∧
    UPt l V (psOf M') vm' ∧ Fst (psOf M') ro' d' ∧ UInv l a b ia ib (psOf M') ro' (pend ++ more) ∧ pot l (psOf M') vm' ≤ pot l (psOf M) vm ∧ M.length ≤ M'.length ∧ (∀ i, i < M.length → (pt (psOf M') i).t = (pt (psOf M) i).t) ∧ ((more = [] ∧ ro' = ro) ∨ (more.length ≤ 3000 ∧ ∀ c, NR (psOf M) ro c → NR (psOf M') ro' (c + 1))))
/-- The boxes of two parts' terms. -/
structure UBox (W1 : World) (ta tb : Tm) (ga gb : Value) (G H : Nat) (wx : World) : Prop where
  ge : W1.heap.size ≤ G ∧ W1.heap.size ≤ H
  below : Below W1.heap.size W1 wx
  a : wx.heap[G]? = some (.cells #[.int .i64 ta.kind, .string ta.name, .int .i64 ta.n, ga] 27 (0, 0))
  b : wx.heap[H]? = some (.cells #[.int .i64 tb.kind, .string tb.name, .int .i64 tb.n, gb] 27 (0, 0))
theorem UBox.ab (W : World) (ta tb : Tm) (ga gb : Value) : UBox W ta tb ga gb W.heap.size (W.heap.size + 1) ((W.alloc (.cells #[.int .i64 ta.kind, .string ta.name, .int .i64 ta.n, ga] 27)).alloc (.cells #[.int .i64 tb.kind, .string tb.name, .int .i64 tb.n, gb] 27)).drew :=
  ⟨⟨Nat.le_refl _, by omega⟩, (al2 _ _ _).drew, (Below.heap_alloc _ _ _ (by simp)).trans (newBlk _ _ _ rfl), newBlk _ _ _ (by simp)⟩
theorem UBox.ba (W : World) (ta tb : Tm) (ga gb : Value) : UBox W ta tb ga gb (W.heap.size + 1) W.heap.size ((W.alloc (.cells #[.int .i64 tb.kind, .string tb.name, .int .i64 tb.n, gb] 27)).alloc (.cells #[.int .i64 ta.kind, .string ta.name, .int .i64 ta.n, ga] 27)).drew :=
  ⟨⟨by omega, Nat.le_refl _⟩, (al2 _ _ _).drew, newBlk _ _ _ (by simp), (Below.heap_alloc _ _ _ (by simp)).trans (newBlk _ _ _ rfl)⟩
theorem pt_same_set {M : List PM} {u : Nat} (hu : u < M.length) (s : Nat) : psOf (M.set u ⟨{ M[u].p with same := s }, M[u].ts, M[u].ks⟩) = (psOf M).set u { pt (psOf M) u with same := s } := by
  rw [psOf_set, pt_psOf hu]
/-- A variable becomes another part. -/
theorem UnitePost.var {W W1 : World} {lo B pb sb mb K : Nat} {svL svW : Value} {M M1 : List PM} {vm : Int → Option Nat} {work : List (Nat × Nat)} {l : List Bd} {V : List Int} {a b : Tm} {ia ib : Nat} {ro d : Nat → Nat} {p : Nat × Nat} {pend : List (Nat × Nat)} {g u v : Nat}
    (hb : Below lo W W1) (hj : JMem W1 lo B pb sb mb K svL svW M1 vm work) (hK : K ≤ M1.length) (hps : AlikeP (psOf M) (psOf M1)) (hlen : M1.length = M.length) (hu : UPt l V (psOf M1) vm) (hf : Fst (psOf M1) ro d) (hi : UInv l a b ia ib (psOf M1) ro (p :: pend)) (hob : svL.ownBlock = some g) (hlog : lo ≤ g)
    (hul : u < M1.length) (hvl : v < M1.length) (hne : v ≠ u) (hru : ro u = u) (hrv : ro v = v) (hp : (ro p.1 = v ∧ ro p.2 = u) ∨ (ro p.1 = u ∧ ro p.2 = v)) (hk : M1[u].p.t.kind = 1) :
    UnitePost W lo B pb sb mb svL svW M vm work l V a b ia ib ro pend (.returned (.bool true)) (W1.setCell ⟨g, u * 6 + 5, none⟩ (.int .i64 (v : Nat))) := by
  have hul' : u < (psOf M1).length := by rw [psOf_length]; exact hul
  have hvl' : v < (psOf M1).length := by rw [psOf_length]; exact hvl
  have hal := AlikeP.same (s := v) hul'
  have hku : (pt (psOf M1) u).t.kind = 1 := by rw [pt_psOf hul]; exact hk
  refine .inr ⟨rfl, K, svL, svW, vm, M1.set u ⟨{ M1[u].p with same := v }, M1[u].ts, M1[u].ks⟩, [], roL ro v u, dL ro d u, hb.setCell (p := ⟨g, u * 6 + 5, none⟩) hlog _, by rw [List.length_set]; exact hK, by rw [List.append_nil]; exact hj.setSame hob hul v, ?_, ?_, ?_, ?_, by rw [List.length_set, hlen]; exact Nat.le_refl _, fun i _ => ?_, .inr ⟨by simp, fun c hc => ?_⟩⟩
  all_goals rw [pt_same_set hul]
  · exact hu.alike hal
  · exact hf.link hvl' hul' hrv hru hne
  · exact (hi.link hf.roOk hp (.inl ⟨hku, rfl⟩) fun i _ _ hkn k hkl => hu.arOf (by
      rename_i hor _
      rcases hor with e | e <;> rw [e] <;> assumption) hkn hkl).alike hal
  · rw [hal.pot, hps.pot]; exact Nat.le_refl _
  · rw [hal.t, hps.t]
  · have hc' := hc.mono (P' := psOf M1) (by rw [hps.len]; exact Nat.le_refl _)
    exact hc'.link (by rw [List.length_set]; exact Nat.le_refl _) hul' hrv hru hne
/-- A pair more. -/
theorem JMem.pushed {W W1 W3 : World} {lo B pb sb mb K : Nat} {svL svW : Value} {M : List PM} {vm : Int → Option Nat} {work : List (Nat × Nat)} (h : JMem W lo B pb sb mb K svL svW M vm work) (h1 : Below W.heap.size W W1) {x : Nat × Nat} {g c : Nat}
    (hown : W3.ownsRow lo 122 2 (.slice (some ⟨g, 0, none⟩) (work.length + 1) c) (work.length + 1) (pairCells work ++ [.int .i64 (x.1 : Nat), .int .i64 (x.2 : Nat)])) (hg : W1.grownBy W3 svW.ownBlock) (hs : svW.ownBlock = some g ∨ g = W1.heap.size) :
    JMem (W3.setCell ⟨pb, 3, none⟩ (.slice (some ⟨g, 0, none⟩) (work.length + 1) c)) lo B pb sb mb K svL (.slice (some ⟨g, 0, none⟩) (work.length + 1) c) M vm (work ++ [x]) := by
  have hj := h.next h1
  have hbx : W3.heap[pb]? = some (.cells #[.pointer (some ⟨sb, 0, none⟩), svL, .map (some mb), svW] 121 (0, 0)) := (hg.block pb hj.plt (fun e => h.Wp e.symm)).trans hj.box
  refine hj.grow hg (.inr rfl) (set_3 hbx _) (.inl ⟨rfl, rfl, rfl⟩) (.inr ⟨?_, rfl, ?_⟩) (.inl ⟨rfl, rfl⟩)
  · rw [List.length_append, pairCells_snoc]
    exact hown
  · rcases hs with hs | hs
    · exact .inl hs.symm
    · exact .inr fun b e => by
        have : g = b := Option.some.inj e
        omega
/-- Both are no variables: what stands when their Args are known. -/
structure UArgs (W : World) (lo B pb sb mb : Nat) (svL svW : Value) (M : List PM) (vm : Int → Option Nat) (work : List (Nat × Nat)) (l : List Bd) (V : List Int) (a b : Tm) (ia ib : Nat) (ro d : Nat → Nat) (p : Nat × Nat) (pend : List (Nat × Nat)) (x y n : Nat) (K' : Nat) (svL' : Value) (vm' : Int → Option Nat) (M' : List PM) (ax ay : PM) (W' : World) : Prop where
  below : Below lo W W'
  K : K' ≤ M'.length
  mem : JMem W' lo B pb sb mb K' svL' svW M' vm' work
  upt : UPt l V (psOf M') vm'
  fst : Fst (psOf M') (roL ro x y) (dL ro d y)
  roOk : RoOk (psOf M') ro
  inv : UInv l a b ia ib (psOf M') ro (p :: pend)
  room : pot l (psOf M') vm' ≤ pot l (psOf M) vm
  len : M.length ≤ M'.length
  tm : ∀ i, i < M.length → (pt (psOf M') i).t = (pt (psOf M) i).t
  atx : M'[x]? = some ax
  aty : M'[y]? = some ay
  kx : ax.p.args.length = n
  ky : ay.p.args.length = n
  knx : argsKnown (psOf M') x
  kny : argsKnown (psOf M') y
theorem UArgs.of {W W4 : World} {lo B pb sb mb : Nat} {svL svW svL4 : Value} {M M2 M3 M4 : List PM} {vm vm3 vm4 : Int → Option Nat} {work : List (Nat × Nat)} {l : List Bd} {V : List Int} {a b : Tm} {ia ib : Nat} {ro d : Nat → Nat} {p : Nat × Nat} {pend : List (Nat × Nat)} {x y n K4 : Nat} {ax ay : PM}
    (hB : Below lo W W4) (hK : K4 ≤ M4.length) (hm : JMem W4 lo B pb sb mb K4 svL4 svW M4 vm4 work) (h3 : ArgStep l V (psOf M2) (psOf M3) vm vm3 y) (h4 : ArgStep l V (psOf M3) (psOf M4) vm3 vm4 x) (hay : M3[y]? = some ay) (hax : M4[x]? = some ax) (hold : ∀ j, j < M3.length → j ≠ x → M4[j]? = M3[j]?)
    (hf : Fst (psOf M2) (roL ro x y) (dL ro d y)) (hr : RoOk (psOf M2) ro) (hi : UInv l a b ia ib (psOf M2) ro (p :: pend)) (hpot : pot l (psOf M2) vm = pot l (psOf M) vm) (hlen : M2.length = M.length) (htm : ∀ i, (pt (psOf M2) i).t = (pt (psOf M) i).t) (hx : x < M.length) (hy : y < M.length) (hne : x ≠ y)
    (hnx : (pt (psOf M) x).t.args.length = n) (hny : (pt (psOf M) y).t.args.length = n) : UArgs W lo B pb sb mb svL svW M vm work l V a b ia ib ro d p pend x y n K4 svL4 vm4 M4 ax ay W4 := by
  have hl3 := h3.len
  have hl4 := h4.len
  simp only [psOf_length] at hl3 hl4
  have hy3 : y < M3.length := by omega
  have hx4 : x < M4.length := by omega
  have hy4 : y < M4.length := by omega
  have ex : M4[x].p = ax.p := by have := hax; rw [List.getElem?_eq_getElem hx4] at this; rw [Option.some.inj this]
  have hay4 : M4[y]? = some ay := (hold y hy3 (fun e => hne e.symm)).trans hay
  have ey : M4[y].p = ay.p := by have := hay4; rw [List.getElem?_eq_getElem hy4] at this; rw [Option.some.inj this]
  have htm4 : ∀ i, i < M.length → (pt (psOf M4) i).t = (pt (psOf M) i).t := fun i hi' => by
    rw [h4.tm i (by rw [psOf_length]; omega), h3.tm i (by rw [psOf_length]; omega), htm]
  have kny : argsKnown (psOf M4) y := by
    have h0 := h3.known
    unfold argsKnown at h0 ⊢
    rw [h4.at_ y (by rw [psOf_length]; exact hy3) (fun e => hne e.symm)]
    exact h0
  have knx := h4.known
  refine ⟨hB, hK, hm, h4.upt, h4.fst _ _ (h3.fst _ _ hf), h4.roOk _ (h3.roOk _ hr), h4.inv _ _ _ _ _ _ (h3.roOk _ hr) (h3.inv _ _ _ _ _ _ hr hi), Nat.le_trans h4.room (by rw [← hpot]; exact h3.room), by omega, htm4, hax, hay4, ?_, ?_, knx, kny⟩
  · have h0 := knx
    unfold argsKnown at h0
    rw [htm4 x hx, hnx, pt_psOf hx4, ex] at h0
    exact h0
  · have h0 := kny
    unfold argsKnown at h0
    rw [htm4 y hy, hny, pt_psOf hy4, ey] at h0
    exact h0
def prs (ax ay : PM) (n : Nat) : List (Nat × Nat) := (List.range n).map fun k => (ax.p.args.getD k 0, ay.p.args.getD k 0)
theorem prs_succ (ax ay : PM) (k : Nat) : prs ax ay (k + 1) = prs ax ay k ++ [(ax.p.args.getD k 0, ay.p.args.getD k 0)] := by simp [prs, List.range_succ]
theorem prs_len (ax ay : PM) (n : Nat) : (prs ax ay n).length = n := by simp [prs]
theorem UArgs.done {W W' Wf : World} {lo B pb sb mb : Nat} {svL svW : Value} {M : List PM} {vm : Int → Option Nat} {work : List (Nat × Nat)} {l : List Bd} {V : List Int} {a b : Tm} {ia ib : Nat} {ro d : Nat → Nat} {p : Nat × Nat} {pend : List (Nat × Nat)} {x y n K' : Nat} {svL' svW' : Value} {vm' : Int → Option Nat} {M' : List PM} {ax ay : PM}
    (h : UArgs W lo B pb sb mb svL svW M vm work l V a b ia ib ro d p pend x y n K' svL' vm' M' ax ay W') (hb : Below lo W Wf) (hm : JMem Wf lo B pb sb mb K' svL' svW' M' vm' (work ++ prs ax ay n)) (hn : n ≤ 3000) (hx : x < M.length) (hy : y < M.length) (hrx : ro x = x) (hry : ro y = y) (hne : x ≠ y)
    (hp : ro p.1 = x ∧ ro p.2 = y) (hkx : (pt (psOf M) x).t.kind ≠ 1) (hky : (pt (psOf M) y).t.kind ≠ 1) (hh : heads (pt (psOf M) y).t (pt (psOf M) x).t) : UnitePost W lo B pb sb mb svL svW M vm work l V a b ia ib ro pend (.returned (.bool true)) Wf := by
  have hx' : x < M'.length := by have := h.len; omega
  have hy' : y < M'.length := by have := h.len; omega
  have ex : M'[x].p = ax.p := by have := h.atx; rw [List.getElem?_eq_getElem hx'] at this; rw [Option.some.inj this]
  have ey : M'[y].p = ay.p := by have := h.aty; rw [List.getElem?_eq_getElem hy'] at this; rw [Option.some.inj this]
  have tx := h.tm x hx
  have ty := h.tm y hy
  have hlx : x < (psOf M').length := by rw [psOf_length]; exact hx'
  have hly : y < (psOf M').length := by rw [psOf_length]; exact hy'
  have hax : ∀ k, ar (psOf M') x k = ax.p.args.getD k 0 := fun k => by unfold ar; rw [pt_psOf hx', ex]
  have hay : ∀ k, ar (psOf M') y k = ay.p.args.getD k 0 := fun k => by unfold ar; rw [pt_psOf hy', ey]
  have hny : (pt (psOf M') y).t.args.length = n := by
    have := h.kny
    unfold argsKnown at this
    rw [← this, pt_psOf hy', ey]
    exact h.ky
  refine .inr ⟨rfl, K', svL', svW', vm', M', prs ax ay n, roL ro x y, dL ro d y, hb, h.K, hm, h.upt, h.fst, ?_, h.room, h.len, h.tm, .inr ⟨by rw [prs_len]; exact hn, fun c hc => ?_⟩⟩
  · refine h.inv.link h.roOk (.inl hp) (.inr ⟨by rw [ty]; exact hky, by rw [tx]; exact hkx, by rw [tx, ty]; exact hh, h.kny, h.knx, fun m hm => ?_, fun k hk => ?_⟩) fun i hor _ hkn k hkl => h.upt.arOf (by rcases hor with e | e <;> rw [e] <;> assumption) hkn hkl
    · obtain ⟨k, hk, rfl⟩ := List.mem_map.1 hm
      refine ⟨k, by rw [hny]; exact List.mem_range.1 hk, .inr ⟨?_, ?_⟩⟩
      · rw [hax]
      · rw [hay]
    · refine .inr (List.mem_map.2 ⟨k, List.mem_range.2 (by rw [hny] at hk; exact hk), ?_⟩)
      rw [hax, hay]
  · exact hc.link (by rw [psOf_length, psOf_length]; exact h.len) (by rw [psOf_length]; exact hy) hrx hry hne

set_option maxRecDepth 100000 in
set_option maxHeartbeats 8000000 in
theorem unite_any {W : World} {lo B pb sb mb K : Nat} {svL svW : Value} {M : List PM} {vm : Int → Option Nat} {work : List (Nat × Nat)} {l : List Bd} {V : List Int} {a b : Tm} {ia ib : Nat} {ro d : Nat → Nat} {p : Nat × Nat} {pend : List (Nat × Nat)}
    (h : JMem W lo B pb sb mb K svL svW M vm work) (hKM : K ≤ M.length) (hlo : lo ≤ W.heap.size) (he : PEnv lo B sb l V W) (hu : UPt l V (psOf M) vm) (hf : Fst (psOf M) ro d) (hi : UInv l a b ia ib (psOf M) ro (p :: pend)) (hpot : pot l (psOf M) vm ≤ 100000000) (hwl : work.length ≤ 1000000000000) :
    Calls Try.prog 86 #[.pointer (some ⟨pb, 0, none⟩), .agg #[.int .i64 (p.1 : Nat), .int .i64 (p.2 : Nat)]] W fun e W' => UnitePost W lo B pb sb mb svL svW M vm work l V a b ia ib ro pend e W' := by
  have hpl := h.plt
  have hlop := h.lop
  have hBl := h.B
  obtain ⟨hp1, hp2⟩ := hi.pendlt p (by simp)
  rw [psOf_length] at hp1 hp2
  obtain ⟨W1, hW1⟩ : ∃ W1, W.alloc (.cells #[.int .i64 (p.1 : Nat), .int .i64 (p.2 : Nat)] 122) = W1 := ⟨_, rfl⟩
  have hal : Below W.heap.size W W1 := by rw [← hW1]; exact (Below.refl _ _).alloc (Nat.le_refl _) _
  have hs1 : W1.heap.size = W.heap.size + 1 := by rw [← hW1]; simp
  have hbx : W1.heap[W.heap.size]? = some (.cells #[.int .i64 (p.1 : Nat), .int .i64 (p.2 : Nat)] 122) := by rw [← hW1]; exact newBlk _ _ _ rfl
  have hnb : ¬ wrote pb mb svL svW W.heap.size := fun hw => by
    rcases hw with e | e | e | e
    · omega
    · have := h.map.lt; omega
    · have := h.row.lt _ e; omega
    · have := h.wk.lt _ e; omega
  have hstart : W1.drew.cell? ⟨W.heap.size, 0, none⟩ = some (.int .i64 (p.1 : Nat)) ∧ W1.drew.cell? ⟨W.heap.size, 1, none⟩ = some (.int .i64 (p.2 : Nat)) ∧ UTwo W1 lo B pb sb mb K svL svW M vm work ro d W1.drew := by
    obtain ⟨⟨c0, c1⟩, _⟩ := row2 hbx
    exact ⟨c0, c1, (JFr.refl _).drew, M, (h.next hal).drew, hf, AlikeM.refl _⟩
  have hlast : ∀ (W' : World) (i : Nat), i < M.length → (W'.cell? ⟨W.heap.size, 0, none⟩ = some (.int .i64 (p.1 : Nat)) ∧ W'.cell? ⟨W.heap.size, 1, none⟩ = some (.int .i64 (p.2 : Nat)) ∧ UTwo W1 lo B pb sb mb K svL svW M vm work ro d W') →
      Calls Try.prog 100 #[.pointer (some ⟨pb, 0, none⟩), .int .i64 (i : Nat)] W' fun e W'' => e = .returned (.int .i64 (ro i : Nat)) ∧ W''.cell? ⟨W.heap.size, 0, none⟩ = some (.int .i64 (p.1 : Nat)) ∧ W''.cell? ⟨W.heap.size, 1, none⟩ = some (.int .i64 (p.2 : Nat)) ∧ UTwo W1 lo B pb sb mb K svL svW M vm work ro d W'' := fun W' i hi' h' =>
    last_two (by omega) hnb hi' h'
  have HSTART := Lib.hid hstart
  have HLAST := Lib.hid hlast
  have HE := Lib.hid he
  have HU := Lib.hid hu
  have HF := Lib.hid hf
  have HI := Lib.hid hi
  have HAL := Lib.hid hal
  clear hstart hlast he hu hf hi hal hnb h
  obtain ⟨⟨x0, x1⟩, _⟩ := row2 hbx
  have HBX := Lib.hid hbx
  have HS1 := Lib.hid hs1
  clear hbx hs1
  go_enter Try.func86, Try.ntmps86
  go_upto_region 1 with fail
  go_cut [5, 6] (fun s5 s6 wx => s5 = .int .i64 (ro p.1 : Nat) ∧ s6 = .int .i64 (ro p.2 : Nat) ∧ Hid (UTwo W1 lo B pb sb mb K svL svW M vm work ro d wx))
  case first =>
    go_region_held3 (fun W' => W'.cell? ⟨W.heap.size, 0, none⟩ = some (.int .i64 (p.1 : Nat)) ∧ W'.cell? ⟨W.heap.size, 1, none⟩ = some (.int .i64 (p.2 : Nat)) ∧ UTwo W1 lo B pb sb mb K svL svW M vm work ro d W')
      (first | exact HSTART.out | assumption)
      ((go_at_call 100; refine (HLAST.out _ _ (by assumption) (by assumption)).mono ?_; rintro e w' ⟨rfl, hst⟩))
    all_goals go_wp2_with fail
    all_goals go_meet
    all_goals rename_i hst
    all_goals exact ⟨rfl, rfl, hst.2.2⟩
  case rest =>
    obtain ⟨rfl, rfl, htwo⟩ := hcut
    obtain ⟨hfr1, M1, hj1, hf1, ha1⟩ := htwo.out
    have hps1 := ha1.ps
    have hu1 := HU.out.alike hps1
    have hi1 := HI.out.alike hps1
    have hpot1 := hps1.pot l vm
    have hlen1 := ha1.len
    have hB1 : Below lo W wc := (HAL.out.mono hlo).trans hfr1.below
    have hx := hf1.rlt (i := p.1) (by rw [psOf_length]; omega)
    have hy := hf1.rlt (i := p.2) (by rw [psOf_length]; omega)
    have hxr := hf1.rr (i := p.1) (by rw [psOf_length]; omega)
    have hyr := hf1.rr (i := p.2) (by rw [psOf_length]; omega)
    rw [psOf_length] at hx hy
    obtain ⟨x, ex⟩ : ∃ x, ro p.1 = x := ⟨_, rfl⟩
    obtain ⟨y, ey⟩ : ∃ y, ro p.2 = y := ⟨_, rfl⟩
    rw [ex] at hx hxr ⊢
    rw [ey] at hy hyr ⊢
    have HPS1 := Lib.hid hps1
    have HU1 := Lib.hid hu1
    have HI1 := Lib.hid hi1
    have HF1 := Lib.hid hf1
    have HJ1 := Lib.hid hj1
    have HPOT1 := Lib.hid hpot1
    have HLEN1 := Lib.hid hlen1
    have HB1 := Lib.hid hB1
    have HXR := Lib.hid hxr
    have HYR := Lib.hid hyr
    have HEX := Lib.hid ex
    have HEY := Lib.hid ey
    have hwsz : lo ≤ wc.heap.size := by have := hB1.size; omega
    clear htwo hfr1 hps1 hu1 hi1 hpot1 hlen1 hB1 hf1 ha1 hxr hyr ex ey HLAST HSTART HBX HU HI HF x0 x1 hj1
    by_cases hxy : x = y
    · have hxyb : ((x : Int) == (y : Int)) = true := by simp [hxy]
      have HXY := Lib.hid hxy
      clear hxy
      go_wp2_with fail
      go_ret
      refine .inr ⟨rfl, K, svL, svW, vm, M1, [], ro, d, HB1.out, by rw [HLEN1.out]; exact hKM, by rw [List.append_nil]; exact HJ1.out, HU1.out, HF1.out, ?_, by rw [HPOT1.out]; exact Nat.le_refl _, by rw [HLEN1.out]; exact Nat.le_refl _, fun i _ => HPS1.out.t i, .inl ⟨rfl, rfl⟩⟩
      rw [List.append_nil]
      exact HI1.out.skip (by rw [HEX.out, HEY.out, HXY.out])
    · have hxyb : ((x : Int) == (y : Int)) = false := by simp; omega
      obtain ⟨g, c, hsl, hlog, hglt, hgp, a0, a1, a2, a3, _, _, fr⟩ := HJ1.out.get x hx
      obtain ⟨g', c', hsl', _, _, _, b0, b1, b2, b3, _, _, _⟩ := HJ1.out.get y hy
      have hgg : g' = g := by rw [hsl] at hsl'; injection hsl' with e1; injection e1 with e2; injection e2 with e3; exact e3.symm
      subst hgg
      obtain ⟨⟨q0, q1, q2, q3⟩, qf0, qf1, qf2, qf3⟩ := row4 HJ1.out.box
      rw [hsl] at q1
      have hlen1 := HLEN1.out
      rw [hlen1] at q1
      obtain ⟨gta, cta, hta⟩ := inn_sl (HJ1.out.tIn x hx)
      obtain ⟨gtb, ctb, htb⟩ := inn_sl (HJ1.out.tIn y hy)
      rw [hta] at a3
      rw [htb] at b3
      have hob : svL.ownBlock = some g' := by rw [hsl]; rfl
      obtain ⟨ta, hTA⟩ : ∃ ta, M1[x].p.t = ta := ⟨_, rfl⟩
      obtain ⟨tb, hTB⟩ : ∃ tb, M1[y].p.t = tb := ⟨_, rfl⟩
      rw [hTA] at a0 a1 a2 a3
      rw [hTB] at b0 b1 b2 b3
      have HTA := Lib.hid hTA
      have HTB := Lib.hid hTB
      have HOB := Lib.hid hob
      have HSL := Lib.hid hsl
      have hpw := HJ1.out.plt
      have hi0 : (0 : Int) ≤ (x : Int) := by omega
      have hi1 : (x : Int) < (M.length : Int) := by omega
      have hi2 : (0 : Int) ≤ (y : Int) := by omega
      have hi3 : (y : Int) < (M.length : Int) := by omega
      have HXY := Lib.hid hxy
      have HFR := Lib.hid fr
      clear hTA hTB hob hsl hsl' hta htb hxy hlen1 fr
      go_upto_region 4 with fail
      go_cut [7, 8] (fun t7 t8 wx => ∃ G H : Nat, t7 = .pointer (some ⟨G, 0, none⟩) ∧ t8 = .pointer (some ⟨H, 0, none⟩) ∧ Hid (UBox wc ta tb (.slice gta ta.args.length cta) (.slice gtb tb.args.length ctb) G H wx))
      case first =>
        go_region_held3 (fun W' => W'.cell? ⟨pb, 1, none⟩ = some (.slice (some ⟨g', 0, none⟩) M.length c) ∧ W'.cell? ⟨g', x * 6, none⟩ = some (.int .i64 ta.kind) ∧ W'.cell? ⟨g', x * 6 + 1, none⟩ = some (.string ta.name) ∧ W'.cell? ⟨g', x * 6 + 2, none⟩ = some (.int .i64 ta.n) ∧ W'.cell? ⟨g', x * 6 + 3, none⟩ = some (.slice gta ta.args.length cta) ∧
          W'.cell? ⟨g', y * 6, none⟩ = some (.int .i64 tb.kind) ∧ W'.cell? ⟨g', y * 6 + 1, none⟩ = some (.string tb.name) ∧ W'.cell? ⟨g', y * 6 + 2, none⟩ = some (.int .i64 tb.n) ∧ W'.cell? ⟨g', y * 6 + 3, none⟩ = some (.slice gtb tb.args.length ctb))
          (go_keep) (fail)
        all_goals go_wp2_with fail
        all_goals go_meet
        all_goals first
          | exact ⟨_, _, rfl, rfl, UBox.ab _ _ _ _ _⟩
          | exact ⟨_, _, rfl, rfl, UBox.ba _ _ _ _ _⟩
      case rest =>
        obtain ⟨G, H, rfl, rfl, hub⟩ := hcut
        have hubb := hub.out.below
        have HJ2 := Lib.hid (HJ1.out.next hubb)
        have HB2 := Lib.hid (HB1.out.trans (hubb.mono hwsz))
        obtain ⟨⟨u0, u1, u2, u3⟩, uf0, uf1, uf2, uf3⟩ := row4 hub.out.a
        obtain ⟨⟨v0, v1, v2, v3⟩, vf0, vf1, vf2, vf3⟩ := row4 hub.out.b
        obtain ⟨ga2, ca2, hsl2, _, _, _, _, _, _, _, _, y5, fr2⟩ := HJ2.out.get y hy
        obtain ⟨ga3, ca3, hsl3, _, _, _, _, _, _, _, _, x5, _⟩ := HJ2.out.get x hx
        have hg2 : ga2 = g' := by rw [HSL.out] at hsl2; injection hsl2 with e1; injection e1 with e2; injection e2 with e3; exact e3.symm
        have hg3 : ga3 = g' := by rw [HSL.out] at hsl3; injection hsl3 with e1; injection e1 with e2; injection e2 with e3; exact e3.symm
        rw [hg2] at y5 fr2
        rw [hg3] at x5
        obtain ⟨⟨r0, r1, r2, r3⟩, rf0, rf1, rf2, rf3⟩ := row4 HJ2.out.box
        rw [HSL.out, HLEN1.out] at r1
        have fx5 := fr2 (x * 6 + 5)
        have fy5 := fr2 (y * 6 + 5)
        have hne : x ≠ y := HXY.out
        have HNE := Lib.hid hne
        have hvar : ∀ (u v : Nat), u < M.length → v < M.length → v ≠ u → ro u = u → ro v = v → ((ro p.1 = v ∧ ro p.2 = u) ∨ (ro p.1 = u ∧ ro p.2 = v)) → (∀ h : u < M1.length, M1[u].p.t.kind = 1) →
            UnitePost W lo B pb sb mb svL svW M vm work l V a b ia ib ro pend (.returned (.bool true)) (wc.setCell ⟨g', u * 6 + 5, none⟩ (.int .i64 (v : Nat))) := fun u v h1 h2 h3 h4 h5 h6 h7 =>
          UnitePost.var HB2.out HJ2.out (by rw [HLEN1.out]; exact hKM) HPS1.out HLEN1.out HU1.out HF1.out HI1.out HOB.out hlog (by rw [HLEN1.out]; exact h1) (by rw [HLEN1.out]; exact h2) h3 h4 h5 h6 (h7 (by rw [HLEN1.out]; exact h1))
        have hlen1 := HLEN1.out
        have hxM : x < M.length := by omega
        have hyM : y < M.length := by omega
        have hA : ta.kind = 1 → UnitePost W lo B pb sb mb svL svW M vm work l V a b ia ib ro pend (.returned (.bool true)) (wc.setCell ⟨g', x * 6 + 5, none⟩ (.int .i64 (y : Nat))) := fun hk =>
          hvar x y hxM hyM (fun e => hne e.symm) HXR.out HYR.out (.inr ⟨HEX.out, HEY.out⟩) (fun _ => by rw [HTA.out]; exact hk)
        have hB : tb.kind = 1 → UnitePost W lo B pb sb mb svL svW M vm work l V a b ia ib ro pend (.returned (.bool true)) (wc.setCell ⟨g', y * 6 + 5, none⟩ (.int .i64 (x : Nat))) := fun hk =>
          hvar y x hyM hxM hne HYR.out HXR.out (.inl ⟨HEX.out, HEY.out⟩) (fun _ => by rw [HTB.out]; exact hk)
        have ptx : (pt (psOf M1) x).t = ta := by rw [pt_psOf hx, HTA.out]
        have pty : (pt (psOf M1) y).t = tb := by rw [pt_psOf hy, HTB.out]
        have hclash : ta.kind ≠ 1 → tb.kind ≠ 1 → ¬ heads ta tb → UnitePost W lo B pb sb mb svL svW M vm work l V a b ia ib ro pend (.returned (.bool false)) wc := fun h1 h2 h3 =>
          .inl ⟨rfl, HB2.out, HI1.out.clash (by rw [HEX.out, ptx]; exact h1) (by rw [HEY.out, pty]; exact h2) (by rw [HEX.out, HEY.out, ptx, pty]; exact h3)⟩
        have HA := Lib.hid hA
        have HB := Lib.hid hB
        have HCL := Lib.hid hclash
        have HPTX := Lib.hid ptx
        have HPTY := Lib.hid pty
        have hpg : pb ≠ g' := fun e => hgp e.symm
        clear hub hubb hsl2 hsl3 hg2 hg3 hvar hA hB hclash ptx pty hne hlen1 fr2 q0 q1 q2 q3 qf0 qf1 qf2 qf3 a0 a1 a2 a3 b0 b1 b2 b3
        by_cases hka : ta.kind = 1
        · have hkab : (ta.kind == 1) = true := by simp [hka]
          by_cases hkb : tb.kind = 1
          · have hkbb : (tb.kind == 1) = true := by simp [hkb]
            have hkbn : (tb.kind != 1) = false := by simp [hkb]
            have HKA := Lib.hid hka
            have HKB := Lib.hid hkb
            clear hka hkb
            by_cases hn : tb.n < ta.n
            · go_wp2_with fail
              go_ret
              exact HA.out HKA.out
            · go_wp2_with fail
              go_ret
              exact HB.out HKB.out
          · have hkbb : (tb.kind == 1) = false := by simp [hkb]
            have hkbn : (tb.kind != 1) = true := by simp [hkb]
            have HKA := Lib.hid hka
            clear hka hkb
            go_wp2_with fail
            go_ret
            exact HA.out HKA.out
        · have hkab : (ta.kind == 1) = false := by simp [hka]
          by_cases hkb : tb.kind = 1
          · have hkbb : (tb.kind == 1) = true := by simp [hkb]
            have HKB := Lib.hid hkb
            clear hka hkb
            go_wp2_with fail
            go_ret
            exact HB.out HKB.out
          · have hkbb : (tb.kind == 1) = false := by simp [hkb]
            have HKA := Lib.hid hka
            have HKB := Lib.hid hkb
            clear hka hkb
            by_cases h1 : ta.kind = tb.kind
            · have h1b : (ta.kind != tb.kind) = false := by simp [h1]
              by_cases h2 : ta.name = tb.name
              · have h2b : (ta.name.toList == tb.name.toList) = true := by simp [h2]
                by_cases h3 : ta.n = tb.n
                · have h3b : (ta.n != tb.n) = false := by simp [h3]
                  by_cases h4 : ta.args.length = tb.args.length
                  · have hx' : x < (psOf M1).length := by rw [psOf_length]; exact hx
                    have hy' : y < (psOf M1).length := by rw [psOf_length]; exact hy
                    have hal := AlikeP.same (s := x) hy'
                    have hj3 := HJ2.out.setSame HOB.out hy x
                    have hf3 := HF1.out.link hx' hy' HXR.out HYR.out HNE.out
                    have hi3 := HI1.out.alike hal
                    have hu3 := HU1.out.alike hal
                    have hr3 := HF1.out.roOk.of_len hal.len
                    have hp3 := (hal.pot l vm).trans HPOT1.out
                    have htm3 : ∀ i, (pt ((psOf M1).set y { pt (psOf M1) y with same := x }) i).t = (pt (psOf M) i).t := fun i => (hal.t i).trans (HPS1.out.t i)
                    rw [← pt_same_set hy] at hf3 hi3 hu3 hr3 hp3 htm3
                    obtain ⟨M2, hM2⟩ : ∃ M2, M1.set y ⟨{ M1[y].p with same := x }, M1[y].ts, M1[y].ks⟩ = M2 := ⟨_, rfl⟩
                    have hlen2 : M2.length = M.length := by rw [← hM2, List.length_set]; exact HLEN1.out
                    rw [hM2] at hj3 hf3 hi3 hu3 hr3 hp3 htm3
                    have hB3 := HB2.out.setCell (p := ⟨g', y * 6 + 5, none⟩) hlog (.int .i64 (x : Nat))
                    have hs3 : lo ≤ (wc.setCell ⟨g', y * 6 + 5, none⟩ (.int .i64 (x : Nat))).heap.size := by have := hB3.size; omega
                    have hxM : x < M.length := by have := HLEN1.out; omega
                    have hyM : y < M.length := by have := HLEN1.out; omega
                    have harg := jargs_any (l := l) (V := V) hj3 (by omega) hs3 (HE.out.far hB3) hu3 (by rw [hp3]; exact hpot) (i := y) (by omega)
                    have hnx : (pt (psOf M) x).t.args.length = ta.args.length := by rw [← HPS1.out.t, HPTX.out]
                    have hny : (pt (psOf M) y).t.args.length = ta.args.length := by rw [← HPS1.out.t, HPTY.out, h4]
                    have hkx : (pt (psOf M) x).t.kind ≠ 1 := by rw [← HPS1.out.t, HPTX.out]; exact HKA.out
                    have hky : (pt (psOf M) y).t.kind ≠ 1 := by rw [← HPS1.out.t, HPTY.out]; exact HKB.out
                    have hhd : heads (pt (psOf M) y).t (pt (psOf M) x).t := by rw [← HPS1.out.t, ← HPS1.out.t, HPTX.out, HPTY.out]; exact heads.symm ⟨h1, h2, h3, h4⟩
                    have hta3 : ta.args.length ≤ 3000 := by
                      have hr := HU1.out.right x hx'
                      rw [HPTX.out] at hr
                      have h5 := size_args ta
                      have h6 := Tm.length_le_sizes ta.args
                      simp only [Tm.right, Bool.and_eq_true, decide_eq_true_eq] at hr
                      omega
                    have HARG := Lib.hid harg
                    have HQ := Lib.hid (And.intro hf3 (And.intro hr3 (And.intro hi3 (And.intro hp3 (And.intro hlen2 htm3)))))
                    have HB3 := Lib.hid hB3
                    have HNX := Lib.hid (And.intro hnx (And.intro hny (And.intro hkx (And.intro hky hhd))))
                    have h4i : ((ta.args.length : Int) != (tb.args.length : Int)) = false := by simp; omega
                    obtain ⟨n, hn⟩ : ∃ n, ta.args.length = n := ⟨_, rfl⟩
                    have HN := Lib.hid hn
                    have hn3 : n ≤ 3000 := by omega
                    have h2t : ta.name.toList = tb.name.toList := by rw [h2]
                    clear harg hf3 hi3 hu3 hr3 hp3 htm3 hM2 hlen2 hB3 hal hj3 hx' hy' hnx hny hkx hky hhd hta3 h2 hn
                    go_wp2_with fail
                    refine HARG.out.mono ?_
                    rintro e w3 ⟨K3, svL3, vm3, M3, ay, hay, rfl, hfr3, hK3, hj3, hst3, hold3⟩
                    have hb3 := HB3.out.trans hfr3.below
                    have hs3' : lo ≤ w3.heap.size := by have := hb3.size; omega
                    have hlen3 := hst3.len
                    simp only [psOf_length] at hlen3
                    have hl2 := HQ.out.2.2.2.2.1
                    have harg := jargs_any (l := l) (V := V) hj3 hK3 hs3' (HE.out.far hb3) hst3.upt (by have h1 := hst3.room; rw [HQ.out.2.2.2.1] at h1; omega) (i := x) (by omega)
                    have HARG2 := Lib.hid harg
                    have HAY := Lib.hid hay
                    have HST3 := Lib.hid hst3
                    have HB4 := Lib.hid hb3
                    clear harg hay hst3 hb3 hfr3 hj3 hold3 HARG hlen3 hl2
                    go_wp2_with fail
                    refine HARG2.out.mono ?_
                    rintro e w4 ⟨K4, svL4, vm4, M4, ax, hax, rfl, hfr4, hK4, hj4, hst4, hold4⟩
                    have hB5 := HB4.out.trans hfr4.below
                    have hua : UArgs W lo B pb sb mb svL svW M vm work l V a b ia ib ro d p pend x y n K4 svL4 vm4 M4 ax ay w4 :=
                      UArgs.of hB5 hK4 hj4 HST3.out hst4 HAY.out hax hold4 HQ.out.1 HQ.out.2.1 HQ.out.2.2.1 HQ.out.2.2.2.1 HQ.out.2.2.2.2.1 HQ.out.2.2.2.2.2 hxM hyM HNE.out (by rw [← HN.out]; exact HNX.out.1) (by rw [← HN.out]; exact HNX.out.2.1)
                    have HUA := Lib.hid hua
                    have hx4 : x < M4.length := by have := hua.len; omega
                    have hy4 : y < M4.length := by have := hua.len; omega
                    have hmx : ∀ (W' : World) (svW' : Value) (work' : List (Nat × Nat)), JMem W' lo B pb sb mb K4 svL4 svW' M4 vm4 work' → numsAt W' lo (wrote pb mb svL4 svW') ax.p.args ax.ks ∧ numsAt W' lo (wrote pb mb svL4 svW') ay.p.args ay.ks := fun W' svW' work' hm => by
                      have e1 : M4[x] = ax := by have := hua.atx; rw [List.getElem?_eq_getElem hx4] at this; exact Option.some.inj this
                      have e2 : M4[y] = ay := by have := hua.aty; rw [List.getElem?_eq_getElem hy4] at this; exact Option.some.inj this
                      have h1 := hm.kIn x hx4
                      have h2 := hm.kIn y hy4
                      rw [e1] at h1
                      rw [e2] at h2
                      exact ⟨h1, h2⟩
                    have hnn := hmx w4 svW work hj4
                    have hlax := hua.kx
                    have hlay := hua.ky
                    obtain ⟨axp, axt, axk⟩ := ax
                    obtain ⟨ayp, ayt, ayk⟩ := ay
                    obtain ⟨gx, cx, hxk⟩ := hnn.1.slice
                    obtain ⟨gy, cy, hyk⟩ := hnn.2.slice
                    simp only at hxk hyk hlax hlay hmx
                    rw [hlax] at hxk
                    rw [hlay] at hyk
                    subst hxk hyk
                    have HMX := Lib.hid hmx
                    have HLX := Lib.hid hlax
                    have HLY := Lib.hid hlay
                    clear hua hmx hnn hlax hlay hax hfr4 hj4 hst4 hold4 hB5 HARG2 hx4 hy4
                    go_wp2_with fail
                    go_loopw [54] (fun ix wr => ∃ (k : Nat) (svW' : Value), k ≤ n ∧ ix = .int .i64 (k : Nat) ∧ Hid (JMem wr lo B pb sb mb K4 svL4 svW' M4 vm4 (work ++ prs ⟨axp, axt, .slice gx n cx⟩ ⟨ayp, ayt, .slice gy n cy⟩ k)) ∧ Hid (Below lo W wr)) (fun ix _ => n - (intOf ix).toNat)
                    case atStart =>
                      refine ⟨0, svW, Nat.zero_le _, rfl, ?_, HUA.out.below⟩
                      rw [show prs ⟨axp, axt, .slice gx n cx⟩ ⟨ayp, ayt, .slice gy n cy⟩ 0 = [] from rfl, List.append_nil]
                      exact HUA.out.mem
                    case round =>
                      obtain ⟨k, svW', hk, rfl, hj, hb⟩ := hrel
                      have HJR := Lib.hid hj.out
                      have HBR := Lib.hid hb.out
                      clear hj hb
                      by_cases hkl : k < n
                      · obtain ⟨hn1, hn2⟩ := HMX.out wr svW' _ HJR.out
                        obtain ⟨bx, rfl, hbx, cxk⟩ := hn1.get (k := k) (by rw [HLX.out]; exact hkl)
                        obtain ⟨by', rfl, hby, cyk⟩ := hn2.get (k := k) (by rw [HLY.out]; exact hkl)
                        obtain ⟨gw, cw, hsw⟩ := HJR.out.sliceW
                        subst hsw
                        have hplr := HJR.out.plt
                        have hgx : axp.args[k]'(by rw [HLX.out]; exact hkl) = axp.args.getD k 0 := by simp [List.getD, HLX.out, hkl]
                        have hgy : ayp.args[k]'(by rw [HLY.out]; exact hkl) = ayp.args.getD k 0 := by simp [List.getD, HLY.out, hkl]
                        rw [hgx] at cxk
                        rw [hgy] at cyk
                        obtain ⟨vx, hvx⟩ : ∃ vx, axp.args.getD k 0 = vx := ⟨_, rfl⟩
                        obtain ⟨vy, hvy⟩ : ∃ vy, ayp.args.getD k 0 = vy := ⟨_, rfl⟩
                        rw [hvx] at cxk
                        rw [hvy] at cyk
                        have hps : prs ⟨axp, axt, .slice (some ⟨bx, 0, none⟩) n cx⟩ ⟨ayp, ayt, .slice (some ⟨by', 0, none⟩) n cy⟩ (k + 1) = prs ⟨axp, axt, .slice (some ⟨bx, 0, none⟩) n cx⟩ ⟨ayp, ayt, .slice (some ⟨by', 0, none⟩) n cy⟩ k ++ [(vx, vy)] := by
                          rw [prs_succ]
                          simp only [hvx, hvy]
                        have HPSK := Lib.hid hps
                        obtain ⟨wk, hwk⟩ : ∃ wk, work ++ prs ⟨axp, axt, .slice (some ⟨bx, 0, none⟩) n cx⟩ ⟨ayp, ayt, .slice (some ⟨by', 0, none⟩) n cy⟩ k = wk := ⟨_, rfl⟩
                        have hwkl : wk.length ≤ 1000000003000 := by rw [← hwk, List.length_append, prs_len]; omega
                        have hwk2 : work ++ prs ⟨axp, axt, .slice (some ⟨bx, 0, none⟩) n cx⟩ ⟨ayp, ayt, .slice (some ⟨by', 0, none⟩) n cy⟩ (k + 1) = wk ++ [(vx, vy)] := by rw [hps, ← List.append_assoc, hwk]
                        have HWK2 := Lib.hid hwk2
                        have hjr := HJR.out
                        rw [hwk] at hjr
                        obtain ⟨⟨r0, r1, r2, r3⟩, rf0, rf1, rf2, rf3⟩ := row4 hjr.box
                        have hlor : lo ≤ wr.heap.size := by have := HBR.out.size; omega
                        have hrow : ∀ W1 : World, Below wr.heap.size wr W1 → W1.ownsRow lo 122 2 (.slice gw wk.length cw) wk.length (pairCells wk) := fun W1 h1 => (hjr.next h1).wk
                        have hp3 : ∀ (W1 W3 : World), Below wr.heap.size wr W1 → W1.grownBy W3 (Value.slice gw wk.length cw).ownBlock → W3.heap[pb]? = some (.cells #[.pointer (some ⟨sb, 0, none⟩), svL4, .map (some mb), .slice gw wk.length cw] 121 (0, 0)) := fun W1 W3 h1 hg =>
                          (hg.block pb (hjr.next h1).plt (fun e => hjr.Wp e.symm)).trans (hjr.next h1).box
                        have hend : ∀ (W1 W3 : World) (g c : Nat), Below wr.heap.size wr W1 → W3.ownsRow lo 122 2 (.slice (some ⟨g, 0, none⟩) (wk.length + 1) c) (wk.length + 1) (pairCells wk ++ [.int .i64 (vx : Nat), .int .i64 (vy : Nat)]) → W1.grownBy W3 (Value.slice gw wk.length cw).ownBlock → ((Value.slice gw wk.length cw).ownBlock = some g ∨ g = W1.heap.size) →
                            JMem (W3.setCell ⟨pb, 3, none⟩ (.slice (some ⟨g, 0, none⟩) (wk.length + 1) c)) lo B pb sb mb K4 svL4 (.slice (some ⟨g, 0, none⟩) (wk.length + 1) c) M4 vm4 (wk ++ [(vx, vy)]) ∧ Below lo W (W3.setCell ⟨pb, 3, none⟩ (.slice (some ⟨g, 0, none⟩) (wk.length + 1) c)) := fun W1 W3 g c h1 h2 h3 h4 =>
                          ⟨hjr.pushed h1 h2 h3 h4, (((HBR.out.trans (h1.mono hlor)).grown h3 (by have := h1.size; omega) (fun k e => (hjr.wk.lt k e).1))).setCell (p := ⟨pb, 3, none⟩) hjr.lop _⟩
                        have HROW := Lib.hid hrow
                        have HP3 := Lib.hid hp3
                        have HEND := Lib.hid hend
                        have hk0 : (0 : Int) ≤ (k : Int) := by omega
                        have hk1 : (k : Int) < (n : Int) := by omega
                        clear hgx hgy hvx hvy hps hwk hwk2 hjr hrow hp3 hend hn1 hn2 HJR
                        go_wp2_with fail
                        go_region_law ((refine step_append_row (by rfl) _ _ (by rfl) Try.underlying119 Try.infoPair rfl (by decide) lo (.slice gw wk.length cw) wk.length (pairCells wk) (by rfl) (HROW.out _ (by first | exact ((Below.refl _ _).alloc (Nat.le_refl _) _).drew | exact (Below.refl _ _).alloc (Nat.le_refl _) _)) wr.heap.size 1 [.int .i64 (vx : Nat), .int .i64 (vy : Nat)] (by rfl) rfl (news_any _ (by first | rfl | simp)) (by simp [Value.oneCell']) (by unfold maxLen; omega) (by omega) (by simp; omega) ?_; intro g c w5 hown5 hgrow5 hsep5; obtain ⟨⟨z0, z1, z2, z3⟩, zf0, zf1, zf2, zf3⟩ := row4 (HP3.out _ w5 ((Below.refl _ _).alloc (Nat.le_refl _) _).drew hgrow5)))
                        all_goals go_wp2_with fail
                        all_goals have hfin := HEND.out _ w5 g c ((Below.refl _ _).alloc (Nat.le_refl _) _).drew hown5 hgrow5 hsep5
                        all_goals have hk2 : k + 1 ≤ n := by clear hfin hown5 hgrow5 hsep5; exact hkl
                        all_goals have hms : n - (intOf (Value.int IntKind.i64 (↑k + 1))).toNat < n - (intOf (Value.int IntKind.i64 ↑k)).toNat := by clear hfin hown5 hgrow5 hsep5; simp [intOf]; omega
                        all_goals have hfin1 : JMem (w5.setCell ⟨pb, 3, none⟩ (.slice (some ⟨g, 0, none⟩) (wk.length + 1) c)) lo B pb sb mb K4 svL4 (.slice (some ⟨g, 0, none⟩) (wk.length + 1) c) M4 vm4 (work ++ prs ⟨axp, axt, .slice (some ⟨bx, 0, none⟩) n cx⟩ ⟨ayp, ayt, .slice (some ⟨by', 0, none⟩) n cy⟩ (k + 1)) := by rw [HWK2.out]; exact hfin.1
                        all_goals exact ⟨⟨k + 1, .slice (some ⟨g, 0, none⟩) (wk.length + 1) c, hk2, rfl, hfin1, hfin.2⟩, hms⟩
                      · obtain rfl : k = n := by omega
                        have hfin := HUA.out.done HBR.out HJR.out hn3 hxM hyM HXR.out HYR.out HNE.out ⟨HEX.out, HEY.out⟩ HNX.out.2.2.1 HNX.out.2.2.2.1 HNX.out.2.2.2.2
                        have HFIN := Lib.hid hfin
                        clear hfin
                        go_wp2_with fail
                        go_ret
                        exact HFIN.out
                  · have h4i : ¬ ((ta.args.length : Int) = tb.args.length) := by omega
                    have HN := Lib.hid (HCL.out HKA.out HKB.out fun h => h4 h.2.2.2)
                    clear h4
                    go_wp2_with fail
                    go_ret
                    exact HN.out
                · have HN := Lib.hid (HCL.out HKA.out HKB.out fun h => h3 h.2.2.1)
                  go_wp2_with fail
                  go_ret
                  exact HN.out
              · have HN := Lib.hid (HCL.out HKA.out HKB.out fun h => h2 h.2.1)
                have h2t := neS h2
                clear h2
                go_wp2_with fail
                go_ret
                exact HN.out
            · have HN := Lib.hid (HCL.out HKA.out HKB.out fun h => h1 h.1)
              go_wp2_with fail
              go_ret
              exact HN.out
end Go.Proofs.Ytgnbjhiafjpokaa
