/-
  The program's join: binds that make two terms alike, but for a variable that leads to itself.
-/
import Derived.Test.YtgnbjhiafjpokaaJUnite
import Derived.Test.YtgnbjhiafjpokaaJBinds
namespace Go.Proofs.Ytgnbjhiafjpokaa
open Go.RowKit Go.Shelf Go.Maps

def JoinPost (W : World) (B : Nat) (l : List Bd) (V : List Int) (a b : Tm) (e : Ending) (W' : World) : Prop :=
  Below W.heap.size W W' ∧ ((e = .returned (.tuple #[.slice none 0 0, .bool false]) ∧ NoMgu l a b) ∨
    ∃ (sv : Value) (xs : List Value) (bs : List Bd), e = .returned (.tuple #[sv, .bool true]) ∧ W'.ownsRow W.heap.size 33 5 sv bs.length xs ∧ cellsB W' (fun b => b < B) bs xs ∧ okL (l ++ bs) ∧ (∀ b ∈ bs, b.v ∈ V ∧ ∀ v ∈ b.t.vs, v ∈ V) ∧
      (RightL (l ++ bs) → MguOf l a b (l ++ bs)) ∧ (¬ RightL (l ++ bs) → NoMgu l a b))
/-- What stands when k pairs are done. -/
structure JLi (lo B pb sb mb : Nat) (l : List Bd) (V : List Int) (a b : Tm) (W0 : World) (k N : Nat) (svL svW : Value) (M : List PM) (vm : Int → Option Nat) (K : Nat) (work : List (Nat × Nat)) (ro d : Nat → Nat) (ia ib c : Nat) (wx : World) : Prop where
  mem : JMem wx lo B pb sb mb K svL svW M vm work
  kK : K ≤ M.length
  below : Below lo W0 wx
  upt : UPt l V (psOf M) vm
  fst : Fst (psOf M) ro d
  inv : UInv l a b ia ib (psOf M) ro (work.drop k)
  room : pot l (psOf M) vm ≤ 100000000
  nr : NR (psOf M) ro c
  len : work.length ≤ 1 + 3000 * c
  kk : k ≤ work.length
  left : (100000000 - c) * 3001 + (work.length - k) ≤ N
  va : ia < M.length ∧ ∀ θ, Solves θ l → val θ (psOf M) ia = a.bnd θ
  vb : ib < M.length ∧ ∀ θ, Solves θ l → val θ (psOf M) ib = b.bnd θ
def JL (lo B pb sb mb : Nat) (l : List Bd) (V : List Int) (a b : Tm) (W0 : World) (k N : Nat) (wx : World) : Prop :=
  ∃ svL svW M vm K work ro d ia ib c, JLi lo B pb sb mb l V a b W0 k N svL svW M vm K work ro d ia ib c wx
theorem JLi.cle {lo B pb sb mb : Nat} {l : List Bd} {V : List Int} {a b : Tm} {W0 : World} {k N : Nat} {svL svW : Value} {M : List PM} {vm : Int → Option Nat} {K : Nat} {work : List (Nat × Nat)} {ro d : Nat → Nat} {ia ib c : Nat} {wx : World} (h : JLi lo B pb sb mb l V a b W0 k N svL svW M vm K work ro d ia ib c wx) : c ≤ M.length ∧ M.length ≤ 100000000 := by
  have h1 := h.nr.le
  have h2 := pot_len l (psOf M) vm
  have h3 := h.room
  rw [psOf_length] at h1 h2
  exact ⟨h1, by omega⟩
/-- One pair more is done. -/
theorem JLi.step {lo B pb sb mb : Nat} {l : List Bd} {V : List Int} {a b : Tm} {W0 : World} {k N : Nat} {svL svW : Value} {M : List PM} {vm : Int → Option Nat} {K : Nat} {work : List (Nat × Nat)} {ro d : Nat → Nat} {ia ib c : Nat} {wx wy : World} (h : JLi lo B pb sb mb l V a b W0 k N svL svW M vm K work ro d ia ib c wx) (hk : k < work.length)
    {K' : Nat} {svL' svW' : Value} {vm' : Int → Option Nat} {M' : List PM} {more : List (Nat × Nat)} {ro' d' : Nat → Nat} (hb : Below lo wx wy) (hK : K' ≤ M'.length) (hm : JMem wy lo B pb sb mb K' svL' svW' M' vm' (work ++ more)) (hu : UPt l V (psOf M') vm') (hf : Fst (psOf M') ro' d') (hi : UInv l a b ia ib (psOf M') ro' (work.drop (k + 1) ++ more))
    (hp : pot l (psOf M') vm' ≤ pot l (psOf M) vm) (hl : M.length ≤ M'.length) (ht : ∀ i, i < M.length → (pt (psOf M') i).t = (pt (psOf M) i).t) (hc : (more = [] ∧ ro' = ro) ∨ (more.length ≤ 3000 ∧ ∀ c, NR (psOf M) ro c → NR (psOf M') ro' (c + 1))) : ∃ N', N' < N ∧ JL lo B pb sb mb l V a b W0 (k + 1) N' wy := by
  have hleft := h.left
  have hlen := h.len
  have hcl := h.cle
  have hr := h.room
  have hval : ∀ i, i < M.length → ∀ θ, val θ (psOf M') i = val θ (psOf M) i := fun i hi' θ => by unfold val; rw [ht i hi']
  have hdrop : (work ++ more).drop (k + 1) = work.drop (k + 1) ++ more := by rw [List.drop_append_of_le_length (by omega)]
  have hva : ia < M'.length ∧ ∀ θ, Solves θ l → val θ (psOf M') ia = a.bnd θ := ⟨by have := h.va.1; omega, fun θ hθ => by rw [hval _ h.va.1]; exact h.va.2 θ hθ⟩
  have hvb : ib < M'.length ∧ ∀ θ, Solves θ l → val θ (psOf M') ib = b.bnd θ := ⟨by have := h.vb.1; omega, fun θ hθ => by rw [hval _ h.vb.1]; exact h.vb.2 θ hθ⟩
  rcases hc with ⟨rfl, rfl⟩ | ⟨h3, h4⟩
  · refine ⟨(100000000 - c) * 3001 + (work.length - (k + 1)), by omega, svL', svW', M', vm', K', work ++ [], ro', d', ia, ib, c, hm, hK, h.below.trans hb, hu, hf, by rw [hdrop]; exact hi, by omega, h.nr.mono (by rw [psOf_length, psOf_length]; exact hl), by simpa using hlen, by simp; omega, by simp, hva, hvb⟩
  · have hnr := h4 c h.nr
    have hle := hnr.le
    have hp2 := pot_len l (psOf M') vm'
    refine ⟨(100000000 - (c + 1)) * 3001 + ((work ++ more).length - (k + 1)), ?_, svL', svW', M', vm', K', work ++ more, ro', d', ia, ib, c + 1, hm, hK, h.below.trans hb, hu, hf, by rw [hdrop]; exact hi, by omega, hnr, by rw [List.length_append]; omega, by rw [List.length_append]; omega, Nat.le_refl _, hva, hvb⟩
    rw [List.length_append]
    have e : 100000000 - c = (100000000 - (c + 1)) + 1 := by omega
    have e2 : (100000000 - c) * 3001 = (100000000 - (c + 1)) * 3001 + 3001 := by rw [e, Nat.succ_mul]
    omega
/-- All pairs are done. -/
theorem JLi.done {lo B pb sb mb : Nat} {l : List Bd} {V : List Int} {a b : Tm} {W0 : World} {k N : Nat} {svL svW : Value} {M : List PM} {vm : Int → Option Nat} {K : Nat} {work : List (Nat × Nat)} {ro d : Nat → Nat} {ia ib c : Nat} {wx : World} (h : JLi lo B pb sb mb l V a b W0 k N svL svW M vm K work ro d ia ib c wx) (hk : ¬ k < work.length) (hl : RightL l)
    {W W' : World} {sv : Value} {xs : List Value} (hlo : W.heap.size ≤ lo) (h0 : Below W.heap.size W W0) (hb : Below lo wx W') (h1 : W'.ownsRow lo 33 5 sv (bsTo (psOf M) ro M.length).length xs) (h2 : cellsB W' (fun b => b < B) (bsTo (psOf M) ro M.length) xs) : JoinPost W B l V a b (.returned (.tuple #[sv, .bool true])) W' := by
  have hd : work.drop k = [] := List.drop_eq_nil_of_le (by omega)
  have hi := h.inv
  rw [hd] at hi
  have hML : M.length = (psOf M).length := (psOf_length M).symm
  refine ⟨(h0.trans ((h.below.trans hb).mono hlo)), .inr ⟨sv, xs, bsTo (psOf M) ro M.length, rfl, h1.mono hlo, h2, ?_, ?_, ?_, ?_⟩⟩
  all_goals rw [hML]
  · exact h.upt.okBs h.fst hl.1 _ (Nat.le_refl _)
  · exact h.upt.bsV h.fst
  · exact fun hr => hi.mgu h.upt h.fst h.va.2 h.vb.2 hr
  · exact fun hr => hi.none hl h.upt h.fst h.va.2 h.vb.2 hr
/-- The first pair. -/
theorem JL.start {lo B pb sb mb : Nat} {l : List Bd} {V : List Int} {a b : Tm} {W0 w1 w2 wc w3 : World} {svL1 svL2 svW : Value} {vm1 vm2 : Int → Option Nat} {K1 K2 i1 i2 : Nat} {N1 N2 : List PM} {g c : Nat}
    (hr1 : JFr lo pb mb (.slice none 0 0) svW svL1 svW W0 w1) (hr2 : JFr lo pb mb svL1 svW svL2 svW w1 w2) (hK1 : K1 ≤ 0 + N1.length) (hK2 : K2 ≤ K1 + N2.length) (hm : JMem w2 lo B pb sb mb K2 svL2 svW (([] ++ N1) ++ N2) vm2 [])
    (hp1 : PStep l V (psOf []) (psOf ([] ++ N1)) (fun _ => none) vm1 a i1) (hp2 : PStep l V (psOf ([] ++ N1)) (psOf (([] ++ N1) ++ N2)) vm1 vm2 b i2) (hsz : Tm.sizes (l.map Bd.t) ≤ 10000000) (hra : a.right = true) (hrb : b.right = true) (hloW : lo ≤ w2.heap.size)
    (hbc : Below w2.heap.size w2 wc) (hown : w3.ownsRow lo 122 2 (.slice (some ⟨g, 0, none⟩) (0 + 1) c) (0 + 1) (pairCells [] ++ [.int .i64 (i1 : Nat), .int .i64 (i2 : Nat)])) (hg : wc.grownBy w3 svW.ownBlock) (hs : svW.ownBlock = some g ∨ g = wc.heap.size) : ∃ N, JL lo B pb sb mb l V a b W0 0 N (w3.setCell ⟨pb, 3, none⟩ (.slice (some ⟨g, 0, none⟩) (0 + 1) c)) := by
  have hext := hp1.ext.trans hp2.ext
  have hf := hext.fst Fst.nil
  have hl1 := hp1.ext.len
  have hl2 := hp2.ext.len
  have h3a : a.size ≤ 3000 := by simp only [Tm.right, Bool.and_eq_true, decide_eq_true_eq] at hra; exact hra.1.2
  have h3b : b.size ≤ 3000 := by simp only [Tm.right, Bool.and_eq_true, decide_eq_true_eq] at hrb; exact hrb.1.2
  have hpot1 := hp1.pot
  have hpot2 := hp2.pot
  have hst := pot_start l
  have hlt1 := hp1.lt
  have e0 : psOf [] = [] := rfl
  rw [e0, hst] at hpot1
  have hva : i1 < (psOf (([] ++ N1) ++ N2)).length ∧ ∀ θ, Solves θ l → val θ (psOf (([] ++ N1) ++ N2)) i1 = a.bnd θ := ⟨by omega, fun θ hθ => by rw [hp2.ext.val θ hlt1]; exact hp1.val θ hθ⟩
  have hvb : i2 < (psOf (([] ++ N1) ++ N2)).length ∧ ∀ θ, Solves θ l → val θ (psOf (([] ++ N1) ++ N2)) i2 = b.bnd θ := ⟨hp2.lt, hp2.val⟩
  have hm3 : JMem (w3.setCell ⟨pb, 3, none⟩ (.slice (some ⟨g, 0, none⟩) (0 + 1) c)) lo B pb sb mb K2 svL2 (.slice (some ⟨g, 0, none⟩) (0 + 1) c) (([] ++ N1) ++ N2) vm2 ([] ++ [(i1, i2)]) := hm.pushed hbc (x := (i1, i2)) hown hg hs
  refine ⟨(100000000 - 0) * 3001 + (([] ++ [(i1, i2)]).length - 0), svL2, _, ([] ++ N1) ++ N2, vm2, K2, [] ++ [(i1, i2)], fun i => i, fun _ => 0, i1, i2, 0, hm3, ?_, ?_, hp2.upt, hf, ?_, by omega, ⟨[], List.nodup_nil, (fun _ h => by cases h), rfl⟩, by simp, Nat.zero_le _, Nat.le_refl _, ?_, ?_⟩
  · simp only [List.nil_append, List.length_append]; omega
  · exact ((hr1.below.trans hr2.below).trans ((hbc.mono hloW).grown hg (by have := hbc.size; omega) (fun b e => (hm.wk.lt b e).1))).setCell (p := ⟨pb, 3, none⟩) hm.lop _
  · exact UInv.start hva hvb
  · rw [← psOf_length]; exact hva
  · rw [← psOf_length]; exact hvb
theorem SLow.mono {lo lo' sb : Nat} {svS mv : Value} (h : SLow lo sb svS mv) (hl : lo ≤ lo') : SLow lo' sb svS mv := ⟨by have := h.box; omega, fun b e => by have := h.row b e; omega, fun m e => by have := h.map m e; omega⟩

/-- The two boxes' cells. -/
def S8 (b : Nat) (a0 a1 a2 a3 b0 b1 b2 b3 : Value) (W : World) : Prop :=
  W.cell? ⟨b, 0, none⟩ = some a0 ∧ W.cell? ⟨b, 1, none⟩ = some a1 ∧ W.cell? ⟨b, 2, none⟩ = some a2 ∧ W.cell? ⟨b, 3, none⟩ = some a3 ∧ W.cell? ⟨b + 1, 0, none⟩ = some b0 ∧ W.cell? ⟨b + 1, 1, none⟩ = some b1 ∧ W.cell? ⟨b + 1, 2, none⟩ = some b2 ∧ W.cell? ⟨b + 1, 3, none⟩ = some b3
theorem S8.block {b : Nat} {a0 a1 a2 a3 b0 b1 b2 b3 : Value} {W W' : World} (h : S8 b a0 a1 a2 a3 b0 b1 b2 b3 W) (h1 : W'.heap[b]? = W.heap[b]?) (h2 : W'.heap[b + 1]? = W.heap[b + 1]?) : S8 b a0 a1 a2 a3 b0 b1 b2 b3 W' := by
  obtain ⟨c0, c1, c2, c3, d0, d1, d2, d3⟩ := h
  exact ⟨(World.cell?_of_block (a := ⟨b, 0, none⟩) h1).trans c0, (World.cell?_of_block (a := ⟨b, 1, none⟩) h1).trans c1, (World.cell?_of_block (a := ⟨b, 2, none⟩) h1).trans c2, (World.cell?_of_block (a := ⟨b, 3, none⟩) h1).trans c3,
    (World.cell?_of_block (a := ⟨b + 1, 0, none⟩) h2).trans d0, (World.cell?_of_block (a := ⟨b + 1, 1, none⟩) h2).trans d1, (World.cell?_of_block (a := ⟨b + 1, 2, none⟩) h2).trans d2, (World.cell?_of_block (a := ⟨b + 1, 3, none⟩) h2).trans d3⟩
theorem S8.lt {b : Nat} {a0 a1 a2 a3 b0 b1 b2 b3 : Value} {W : World} (h : S8 b a0 a1 a2 a3 b0 b1 b2 b3 W) : b < W.heap.size ∧ b + 1 < W.heap.size := ⟨World.block_lt_of_cell? _ _ h.1, World.block_lt_of_cell? _ _ h.2.2.2.2.1⟩
theorem S8.alloc {b : Nat} {a0 a1 a2 a3 b0 b1 b2 b3 : Value} {W : World} (h : S8 b a0 a1 a2 a3 b0 b1 b2 b3 W) (o : Obj) : S8 b a0 a1 a2 a3 b0 b1 b2 b3 (W.alloc o) := h.block (Below.heap_alloc _ _ _ h.lt.1) (Below.heap_alloc _ _ _ h.lt.2)
theorem S8.grown {b : Nat} {a0 a1 a2 a3 b0 b1 b2 b3 : Value} {W W' : World} (h : S8 b a0 a1 a2 a3 b0 b1 b2 b3 W) (hg : W.grownBy W' none) : S8 b a0 a1 a2 a3 b0 b1 b2 b3 W' := h.block (hg.block _ h.lt.1 (fun e => by cases e)) (hg.block _ h.lt.2 (fun e => by cases e))
theorem S8.set {b p o : Nat} {a0 a1 a2 a3 b0 b1 b2 b3 u : Value} {W : World} (h : S8 b a0 a1 a2 a3 b0 b1 b2 b3 W) (hp : b + 1 < p) : S8 b a0 a1 a2 a3 b0 b1 b2 b3 (W.setCell ⟨p, o, none⟩ u) :=
  h.block (Below.heap_setCell _ _ _ _ (by show b ≠ p; omega)) (Below.heap_setCell _ _ _ _ (by show b + 1 ≠ p; omega))
set_option maxRecDepth 100000 in
set_option maxHeartbeats 8000000 in
theorem join_any {W : World} {B sb K0 : Nat} {l : List Bd} {V : List Int} {svS mv : Value} {xs : List Value} (hS : SMem W B sb l K0 svS mv xs) (hl : RightL l) (hlV : ∀ b ∈ l, ∀ w ∈ b.t.vs, w ∈ V) {a b : Tm} {sva svb : Value} (hra : a.right = true) (hrb : b.right = true) (hVa : ∀ v ∈ a.vs, v ∈ V) (hVb : ∀ v ∈ b.vs, v ∈ V)
    (hina : Tm.inn W B a sva) (hinb : Tm.inn W B b svb) :
    Calls Try.prog 64 #[.pointer (some ⟨sb, 0, none⟩), .agg #[.int .i64 a.kind, .string a.name, .int .i64 a.n, sva], .agg #[.int .i64 b.kind, .string b.name, .int .i64 b.n, svb]] W fun e W' => JoinPost W B l V a b e W' := by
  obtain ⟨ga, ca, rfl⟩ := inn_sl hina
  obtain ⟨gb, cb, rfl⟩ := inn_sl hinb
  have hBW : B ≤ W.heap.size := by have := hS.lo; have := hS.low.box; omega
  obtain ⟨W0, hW0⟩ : ∃ W0, ((((W.alloc (.cells #[.int .i64 a.kind, .string a.name, .int .i64 a.n, .slice ga a.args.length ca] 27)).alloc (.cells #[.int .i64 b.kind, .string b.name, .int .i64 b.n, .slice gb b.args.length cb] 27)).alloc (.map #[] 0)).alloc (.cells #[.pointer (some ⟨sb, 0, none⟩), .slice none 0 0, .map (some (W.heap.size + 1 + 1)), .slice none 0 0] 121)) = W0 := ⟨_, rfl⟩
  have hsz0 : W0.heap.size = W.heap.size + 4 := by rw [← hW0]; simp
  have hb0 : Below W.heap.size W W0 := by rw [← hW0]; exact (al3 _ _ _ _).alloc (by simp; omega) _
  have hbx : W0.heap[W.heap.size + 1 + 1 + 1]? = some (.cells #[.pointer (some ⟨sb, 0, none⟩), .slice none 0 0, .map (some (W.heap.size + 1 + 1)), .slice none 0 0] 121 (0, 0)) := by rw [← hW0]; exact newBlk _ _ _ (by simp)
  have hmap : MapF W0 (W.heap.size + 1 + 1) 0 (fun _ => none) := by
    rw [← hW0]
    have := MapF.made ((W.alloc (.cells #[.int .i64 a.kind, .string a.name, .int .i64 a.n, .slice ga a.args.length ca] 27)).alloc (.cells #[.int .i64 b.kind, .string b.name, .int .i64 b.n, .slice gb b.args.length cb] 27))
    simp at this
    exact this.of_block (Below.heap_alloc _ _ _ (by simp))
  have hba : W0.heap[W.heap.size]? = some (.cells #[.int .i64 a.kind, .string a.name, .int .i64 a.n, .slice ga a.args.length ca] 27 (0, 0)) := by
    rw [← hW0, Below.heap_alloc _ _ _ (by simp <;> omega), Below.heap_alloc _ _ _ (by simp <;> omega), Below.heap_alloc _ _ _ (by simp)]
    exact newBlk _ _ _ rfl
  have hbb : W0.heap[W.heap.size + 1]? = some (.cells #[.int .i64 b.kind, .string b.name, .int .i64 b.n, .slice gb b.args.length cb] 27 (0, 0)) := by
    rw [← hW0, Below.heap_alloc _ _ _ (by simp <;> omega), Below.heap_alloc _ _ _ (by simp)]
    exact newBlk _ _ _ (by simp)
  have hj0 : JMem W0 (W.heap.size + 1 + 1) B (W.heap.size + 1 + 1 + 1) sb (W.heap.size + 1 + 1) 0 (.slice none 0 0) (.slice none 0 0) [] (fun _ => none) [] :=
    ⟨hbx, World.ownsRow_nil _ _ _ _, World.ownsRow_nil _ _ _ _, hmap, (fun _ h => by cases h), (fun _ h => by cases h), by omega, by omega, by omega, by omega, (fun h => by cases h), (fun h => by cases h), (fun h => by cases h), (fun h => by cases h), (fun _ h => by cases h)⟩
  have he0 : PEnv (W.heap.size + 1 + 1) B sb l V W0 := ⟨⟨K0, svS, mv, xs, hS.next hb0, hS.low.mono (by omega)⟩, hl, hlV⟩
  have hszl : Tm.sizes (l.map Bd.t) ≤ 10000000 := by
    have h1 := hS.len
    have : ∀ m : List Bd, (∀ b ∈ m, b.t.right = true) → Tm.sizes (m.map Bd.t) ≤ 3000 * m.length := by
      intro m hm
      induction m with
      | nil => simp [Tm.sizes]
      | cons c r ih =>
        have h2 := ih fun b hb => hm b (List.mem_cons_of_mem _ hb)
        have h3 := hm c (by simp)
        simp only [Tm.right, Bool.and_eq_true, decide_eq_true_eq] at h3
        simp only [List.map_cons, Tm.sizes, List.length_cons]
        omega
    have := this l fun b hb => by
      obtain ⟨i, hi, rfl⟩ := List.getElem_of_mem hb
      exact (hl.1 i hi).2.2.2
    omega
  have hin0a := Tm.inn_below hina hb0 hBW
  have hin0b := Tm.inn_below hinb hb0 hBW
  have hlW : W.heap.size + 1 + 1 ≤ W0.heap.size := by omega
  have hc1 := part_any (l := l) (V := V) hj0.drew (he0.far (Below.refl _ _).drew) (UPt.nil l V) (by simp) (by omega) hra hVa (Tm.inn_below hin0a (Below.refl (W.heap.size + 1 + 1) _).drew (by omega))
  have hc2 : ∀ (w1 : World) (i1 K1 : Nat) (svL1 : Value) (vm1 : Int → Option Nat) (N1 : List PM), JFr (W.heap.size + 1 + 1) (W.heap.size + 1 + 1 + 1) (W.heap.size + 1 + 1) (.slice none 0 0) (.slice none 0 0) svL1 (.slice none 0 0) W0.drew w1 → K1 ≤ 0 + N1.length → JMem w1 (W.heap.size + 1 + 1) B (W.heap.size + 1 + 1 + 1) sb (W.heap.size + 1 + 1) K1 svL1 (.slice none 0 0) ([] ++ N1) vm1 [] →
      PStep l V (psOf []) (psOf ([] ++ N1)) (fun _ => none) vm1 a i1 → Calls Try.prog 85 #[.pointer (some ⟨W.heap.size + 1 + 1 + 1, 0, none⟩), .agg #[.int .i64 b.kind, .string b.name, .int .i64 b.n, .slice gb b.args.length cb]] w1 fun e W' => PartPost w1 (W.heap.size + 1 + 1) B (W.heap.size + 1 + 1 + 1) sb (W.heap.size + 1 + 1) K1 svL1 (.slice none 0 0) ([] ++ N1) vm1 [] l V b e W' := fun w1 i1 K1 svL1 vm1 N1 h1 h2 h3 h4 => by
    have hp := h4.pot
    have hst := pot_start l
    have e0 : psOf [] = [] := rfl
    rw [e0, hst] at hp
    have h3a : a.size ≤ 3000 := by simp only [Tm.right, Bool.and_eq_true, decide_eq_true_eq] at hra; exact hra.1.2
    have hpl := pot_len l (psOf ([] ++ N1)) vm1
    rw [psOf_length, List.nil_append] at hpl
    rw [List.nil_append] at hp
    exact part_any h3 (he0.far ((Below.refl _ _).drew.trans h1.below)) h4.upt (by rw [List.nil_append]; omega) (by omega) hrb hVb (Tm.inn_below hin0b ((Below.refl _ _).drew.trans h1.below) (by omega))
  have hcell : ∀ (w1 : World) {svL1 : Value}, JFr (W.heap.size + 1 + 1) (W.heap.size + 1 + 1 + 1) (W.heap.size + 1 + 1) (.slice none 0 0) (.slice none 0 0) svL1 (.slice none 0 0) W0.drew w1 → w1.heap[W.heap.size]? = some (.cells #[.int .i64 a.kind, .string a.name, .int .i64 a.n, .slice ga a.args.length ca] 27 (0, 0)) ∧ w1.heap[W.heap.size + 1]? = some (.cells #[.int .i64 b.kind, .string b.name, .int .i64 b.n, .slice gb b.args.length cb] 27 (0, 0)) := fun w1 _ h1 =>
    ⟨(h1.below.block _ (by omega)).trans hba, (h1.below.block _ (by omega)).trans hbb⟩
  obtain ⟨⟨x0, x1, x2, x3⟩, _⟩ := row4 hba
  obtain ⟨⟨y0, y1, y2, y3⟩, _⟩ := row4 hbb
  obtain ⟨⟨z0, z1, z2, z3⟩, zf0, zf1, zf2, zf3⟩ := row4 hbx
  have HC1 := Lib.hid hc1
  have HC2 := Lib.hid hc2
  have HCELL := Lib.hid hcell
  have HE0 := Lib.hid he0
  have HL := Lib.hid hl
  have HB0 := Lib.hid hb0
  have HSZ := Lib.hid hszl
  have HR := Lib.hid (And.intro hra hrb)
  have HW0 := Lib.hid hW0
  have hmk := @run_makeMap Try.prog
  clear hc1 hc2 hcell he0 hl hb0 hszl hra hrb hj0 hmap hbx hba hbb hS hlV hVa hVb hina hinb hin0a hin0b hW0
  go_enter Try.func64, Try.ntmps64
  go_upto_region 2 with fail
  rw [HW0.out]
  have hpl0 : W.heap.size + 1 + 1 + 1 < W0.heap.size := by omega
  go_cut [] (fun wx => Hid (∃ N, JL (W.heap.size + 1 + 1) B (W.heap.size + 1 + 1 + 1) sb (W.heap.size + 1 + 1) l V a b W0.drew 0 N wx))
  case first =>
    have hs8 : S8 W.heap.size (.int .i64 a.kind) (.string a.name) (.int .i64 a.n) (.slice ga a.args.length ca) (.int .i64 b.kind) (.string b.name) (.int .i64 b.n) (.slice gb b.args.length cb) W0.drew := ⟨x0, x1, x2, x3, y0, y1, y2, y3⟩
    refine wp_region_held_drew (S := fun W' => W'.cell? ⟨W.heap.size, 0, none⟩ = some (.int .i64 a.kind) ∧ W'.cell? ⟨W.heap.size, 1, none⟩ = some (.string a.name) ∧ W'.cell? ⟨W.heap.size, 2, none⟩ = some (.int .i64 a.n) ∧ W'.cell? ⟨W.heap.size, 3, none⟩ = some (.slice ga a.args.length ca) ∧ W'.cell? ⟨W.heap.size + 1, 0, none⟩ = some (.int .i64 b.kind) ∧ W'.cell? ⟨W.heap.size + 1, 1, none⟩ = some (.string b.name) ∧ W'.cell? ⟨W.heap.size + 1, 2, none⟩ = some (.int .i64 b.n) ∧ W'.cell? ⟨W.heap.size + 1, 3, none⟩ = some (.slice gb b.args.length cb)) (by kernel_rfl) hs8 (fun hHeld => ?_)
    clear hs8
    refine wpAnyH_take (i := 0) (oi := _) (v := ?_) rfl (by kernel_rfl) (by kernel_rfl) (by kernel_rfl) (fun _ _ _ h => h) (Or.inl ⟨by rfl, ?_⟩) hHeld ?_
    rotate_left
    · (intro w hSw; obtain ⟨c0, c1, c2, c3, d0, d1, d2, d3⟩ := hSw; go_simp; try with_reducible rfl)
    try simp only [Act.put, List.setIfInBounds_toArray, List.set_cons_zero, List.set_cons_succ, List.getElem_toArray, List.getElem_cons_zero]
    refine wpAnyH_take (i := 2) (oi := _) (v := ?_) rfl (by kernel_rfl) (by kernel_rfl) (by kernel_rfl) (fun _ _ _ h => h) (Or.inl ⟨by rfl, ?_⟩) hHeld ?_
    rotate_left
    · (intro w hSw; obtain ⟨c0, c1, c2, c3, d0, d1, d2, d3⟩ := hSw; go_simp; try with_reducible rfl)
    try simp only [Act.put, List.setIfInBounds_toArray, List.set_cons_zero, List.set_cons_succ, List.getElem_toArray, List.getElem_cons_zero, List.getElem_cons_succ]
    refine wpAnyH_take (i := 4) (oi := _) (v := ?_) rfl (by kernel_rfl) (by kernel_rfl) (by kernel_rfl) (fun _ _ _ h => h) (Or.inl ⟨by rfl, ?_⟩) hHeld ?_
    rotate_left
    · (intro w hSw; obtain ⟨c0, c1, c2, c3, d0, d1, d2, d3⟩ := hSw; go_simp; try with_reducible rfl)
    try simp only [Act.put, List.setIfInBounds_toArray, List.set_cons_zero, List.set_cons_succ, List.getElem_toArray, List.getElem_cons_zero, List.getElem_cons_succ]
    refine wpAnyH_ready (rs := [1, 3]) (by kernel_rfl) (by simp) ?_
    refine AllReadyH.cons (o := _) rfl (fun K hK => ?_) (AllReadyH.cons (o := _) rfl (fun K hK => ?_) (AllReadyH.nil))
    · skip
      go_simp
      refine hK.out _ _ (hHeld) (fun hHeld => ?_)
      clear hK K
      try simp only [Act.put, List.setIfInBounds_toArray, List.set_cons_zero, List.set_cons_succ, List.getElem_toArray, List.getElem_cons_zero, List.getElem_cons_succ]
      refine wpAnyH_ready (rs := [3]) (by kernel_rfl) (by simp) ?_
      refine AllReadyH.cons (o := _) rfl (fun K hK => ?_) (AllReadyH.nil)
      go_simp
      refine HC1.out.mono ?_
      rintro e w1 ⟨i1, K1, svL1, vm1, N1, rfl, hfr1, hK1, hm1, hp1, hN1⟩
      have hce := HCELL.out w1 hfr1
      have HSA := Lib.hid (show S8 W.heap.size (.int .i64 a.kind) (.string a.name) (.int .i64 a.n) (.slice ga a.args.length ca) (.int .i64 b.kind) (.string b.name) (.int .i64 b.n) (.slice gb b.args.length cb) w1 from ⟨(row4 hce.1).1.1, (row4 hce.1).1.2.1, (row4 hce.1).1.2.2.1, (row4 hce.1).1.2.2.2, (row4 hce.2).1.1, (row4 hce.2).1.2.1, (row4 hce.2).1.2.2.1, (row4 hce.2).1.2.2.2⟩)
      obtain ⟨⟨u0, u1, u2, u3⟩, v0, v1, v2, v3⟩ := row4 hm1.box
      have HM1 := Lib.hid (And.intro hfr1 (And.intro hK1 (And.intro hm1 hp1)))
      clear hce hfr1 hK1 hm1 hp1 hN1
      go_wp2_with fail
      refine hK.out _ _ (HSA.out) (fun hHeld => ?_)
      clear hK K
      try simp only [Act.put, List.setIfInBounds_toArray, List.set_cons_zero, List.set_cons_succ, List.getElem_toArray, List.getElem_cons_zero, List.getElem_cons_succ]
      refine wpAnyH_ready (rs := [5]) (by kernel_rfl) (by simp) ?_
      refine AllReadyH.cons (o := _) rfl (fun K hK => ?_) (AllReadyH.nil)
      go_simp
      refine (HC2.out w1 i1 K1 svL1 vm1 N1 HM1.out.1 HM1.out.2.1 HM1.out.2.2.1 HM1.out.2.2.2).mono ?_
      rintro e w2 ⟨i2, K2, svL2, vm2, N2, rfl, hfr2, hK2, hm2, hp2, hN2⟩
      have HSB := Lib.hid (S8.block HSA.out (hfr2.below.block _ (by omega)) (hfr2.below.block _ (by omega)))
      obtain ⟨⟨q0, q1, q2, q3⟩, r0, r1, r2, r3⟩ := row4 hm2.box
      have hl2 : W.heap.size + 1 + 1 ≤ w2.heap.size := by have h1 := hm2.plt; omega
      have hl3 : W.heap.size + 1 + 1 + 1 < w2.heap.size := hm2.plt
      have HM2 := Lib.hid (And.intro hfr2 (And.intro hK2 (And.intro hm2 hp2)))
      clear hfr2 hK2 hm2 hp2 hN2
      go_wp2_with fail
      refine hK.out _ _ (HSB.out) (fun hHeld => ?_)
      clear hK K
      try simp only [Act.put, List.setIfInBounds_toArray, List.set_cons_zero, List.set_cons_succ, List.getElem_toArray, List.getElem_cons_zero, List.getElem_cons_succ]
      refine wpAnyH_take (i := 6) (oi := _) (v := ?_) rfl (by kernel_rfl) (by kernel_rfl) (by kernel_rfl) (fun _ _ _ h => h) (Or.inl ⟨by rfl, ?_⟩) hHeld ?_
      rotate_left
      · (intro w hSw; obtain ⟨c0, c1, c2, c3, d0, d1, d2, d3⟩ := hSw; go_simp; try with_reducible rfl)
      try simp only [Act.put, List.setIfInBounds_toArray, List.set_cons_zero, List.set_cons_succ, List.getElem_toArray, List.getElem_cons_zero, List.getElem_cons_succ]
      refine wpAnyH_ready (rs := [7]) (by kernel_rfl) (by simp) ?_
      refine AllReadyH.cons (o := _) rfl (fun K hK => ?_) (AllReadyH.nil)
      go_simp
      refine hK.out _ _ (S8.alloc hHeld _) (fun hHeld => ?_)
      clear hK K
      try simp only [Act.put, List.setIfInBounds_toArray, List.set_cons_zero, List.set_cons_succ, List.getElem_toArray, List.getElem_cons_zero, List.getElem_cons_succ]
      refine wpAnyH_ready (rs := [8]) (by kernel_rfl) (by simp) ?_
      refine AllReadyH.cons (o := _) rfl (fun K hK => ?_) (AllReadyH.nil)
      refine step_append_row (by rfl) _ _ (by rfl) Try.underlying119 Try.infoPair rfl (by decide) (W.heap.size + 1 + 1) (.slice none 0 0) 0 (pairCells []) (by rfl) ((HM2.out.2.2.1.next ((Below.refl _ _).alloc (Nat.le_refl _) _)).wk) w2.heap.size 1 [.int .i64 (i1 : Nat), .int .i64 (i2 : Nat)] (by rfl) rfl (news_any _ (by first | rfl | simp)) (by simp [Value.oneCell']) (by unfold maxLen; omega) (by omega) (by simp; omega) ?_
      intro g c w3 hown3 hgrow3 hsep3
      obtain ⟨⟨o0, o1, o2, o3⟩, p0, p1, p2, p3⟩ := row4 ((hgrow3.block _ (HM2.out.2.2.1.next ((Below.refl _ _).alloc (Nat.le_refl _) _)).plt (fun h => by cases h)).trans (HM2.out.2.2.1.next ((Below.refl _ _).alloc (Nat.le_refl _) _)).box)
      refine hK.out _ _ (S8.grown hHeld hgrow3) (fun hHeld => ?_)
      clear hK K
      try simp only [Act.put, List.setIfInBounds_toArray, List.set_cons_zero, List.set_cons_succ, List.getElem_toArray, List.getElem_cons_zero, List.getElem_cons_succ]
      refine wpAnyH_take (i := 9) (oi := _) (v := ?_) rfl (by kernel_rfl) (by kernel_rfl) (by kernel_rfl) (fun _ _ _ h => h) (Or.inl ⟨by rfl, ?_⟩) hHeld ?_
      rotate_left
      · (intro w hSw; obtain ⟨c0, c1, c2, c3, d0, d1, d2, d3⟩ := hSw; go_simp; try with_reducible rfl)
      try simp only [Act.put, List.setIfInBounds_toArray, List.set_cons_zero, List.set_cons_succ, List.getElem_toArray, List.getElem_cons_zero, List.getElem_cons_succ]
      refine wpAnyH_ready (rs := [10]) (by kernel_rfl) (by simp) ?_
      refine AllReadyH.cons (o := _) rfl (fun K hK => ?_) (AllReadyH.nil)
      go_simp
      refine hK.out _ _ (S8.set hHeld (by omega)) (fun hHeld => ?_)
      clear hK K
      try simp only [Act.put, List.setIfInBounds_toArray, List.set_cons_zero, List.set_cons_succ, List.getElem_toArray, List.getElem_cons_zero, List.getElem_cons_succ]
      refine wpAnyH_done (by kernel_rfl) ?_ _
      go_wp2_with fail
      go_meet
      exact JL.start HM1.out.1 HM2.out.1 HM1.out.2.1 HM2.out.2.1 HM2.out.2.2.1 HM1.out.2.2.2 HM2.out.2.2.2 HSZ.out HR.out.1 HR.out.2 hl2 ((Below.refl _ _).alloc (Nat.le_refl _) _) hown3 hgrow3 hsep3
    · skip
      go_simp
      refine HC1.out.mono ?_
      rintro e w1 ⟨i1, K1, svL1, vm1, N1, rfl, hfr1, hK1, hm1, hp1, hN1⟩
      have hce := HCELL.out w1 hfr1
      have HSA := Lib.hid (show S8 W.heap.size (.int .i64 a.kind) (.string a.name) (.int .i64 a.n) (.slice ga a.args.length ca) (.int .i64 b.kind) (.string b.name) (.int .i64 b.n) (.slice gb b.args.length cb) w1 from ⟨(row4 hce.1).1.1, (row4 hce.1).1.2.1, (row4 hce.1).1.2.2.1, (row4 hce.1).1.2.2.2, (row4 hce.2).1.1, (row4 hce.2).1.2.1, (row4 hce.2).1.2.2.1, (row4 hce.2).1.2.2.2⟩)
      obtain ⟨⟨u0, u1, u2, u3⟩, v0, v1, v2, v3⟩ := row4 hm1.box
      have HM1 := Lib.hid (And.intro hfr1 (And.intro hK1 (And.intro hm1 hp1)))
      clear hce hfr1 hK1 hm1 hp1 hN1
      go_wp2_with fail
      refine hK.out _ _ (HSA.out) (fun hHeld => ?_)
      clear hK K
      try simp only [Act.put, List.setIfInBounds_toArray, List.set_cons_zero, List.set_cons_succ, List.getElem_toArray, List.getElem_cons_zero, List.getElem_cons_succ]
      refine wpAnyH_ready (rs := [1, 5]) (by kernel_rfl) (by simp) ?_
      refine AllReadyH.cons (o := _) rfl (fun K hK => ?_) (AllReadyH.cons (o := _) rfl (fun K hK => ?_) (AllReadyH.nil))
      · skip
        go_simp
        refine hK.out _ _ (hHeld) (fun hHeld => ?_)
        clear hK K
        try simp only [Act.put, List.setIfInBounds_toArray, List.set_cons_zero, List.set_cons_succ, List.getElem_toArray, List.getElem_cons_zero, List.getElem_cons_succ]
        refine wpAnyH_ready (rs := [5]) (by kernel_rfl) (by simp) ?_
        refine AllReadyH.cons (o := _) rfl (fun K hK => ?_) (AllReadyH.nil)
        go_simp
        refine (HC2.out w1 i1 K1 svL1 vm1 N1 HM1.out.1 HM1.out.2.1 HM1.out.2.2.1 HM1.out.2.2.2).mono ?_
        rintro e w2 ⟨i2, K2, svL2, vm2, N2, rfl, hfr2, hK2, hm2, hp2, hN2⟩
        have HSB := Lib.hid (S8.block HSA.out (hfr2.below.block _ (by omega)) (hfr2.below.block _ (by omega)))
        obtain ⟨⟨q0, q1, q2, q3⟩, r0, r1, r2, r3⟩ := row4 hm2.box
        have hl2 : W.heap.size + 1 + 1 ≤ w2.heap.size := by have h1 := hm2.plt; omega
        have hl3 : W.heap.size + 1 + 1 + 1 < w2.heap.size := hm2.plt
        have HM2 := Lib.hid (And.intro hfr2 (And.intro hK2 (And.intro hm2 hp2)))
        clear hfr2 hK2 hm2 hp2 hN2
        go_wp2_with fail
        refine hK.out _ _ (HSB.out) (fun hHeld => ?_)
        clear hK K
        try simp only [Act.put, List.setIfInBounds_toArray, List.set_cons_zero, List.set_cons_succ, List.getElem_toArray, List.getElem_cons_zero, List.getElem_cons_succ]
        refine wpAnyH_take (i := 6) (oi := _) (v := ?_) rfl (by kernel_rfl) (by kernel_rfl) (by kernel_rfl) (fun _ _ _ h => h) (Or.inl ⟨by rfl, ?_⟩) hHeld ?_
        rotate_left
        · (intro w hSw; obtain ⟨c0, c1, c2, c3, d0, d1, d2, d3⟩ := hSw; go_simp; try with_reducible rfl)
        try simp only [Act.put, List.setIfInBounds_toArray, List.set_cons_zero, List.set_cons_succ, List.getElem_toArray, List.getElem_cons_zero, List.getElem_cons_succ]
        refine wpAnyH_ready (rs := [7]) (by kernel_rfl) (by simp) ?_
        refine AllReadyH.cons (o := _) rfl (fun K hK => ?_) (AllReadyH.nil)
        go_simp
        refine hK.out _ _ (S8.alloc hHeld _) (fun hHeld => ?_)
        clear hK K
        try simp only [Act.put, List.setIfInBounds_toArray, List.set_cons_zero, List.set_cons_succ, List.getElem_toArray, List.getElem_cons_zero, List.getElem_cons_succ]
        refine wpAnyH_ready (rs := [8]) (by kernel_rfl) (by simp) ?_
        refine AllReadyH.cons (o := _) rfl (fun K hK => ?_) (AllReadyH.nil)
        refine step_append_row (by rfl) _ _ (by rfl) Try.underlying119 Try.infoPair rfl (by decide) (W.heap.size + 1 + 1) (.slice none 0 0) 0 (pairCells []) (by rfl) ((HM2.out.2.2.1.next ((Below.refl _ _).alloc (Nat.le_refl _) _)).wk) w2.heap.size 1 [.int .i64 (i1 : Nat), .int .i64 (i2 : Nat)] (by rfl) rfl (news_any _ (by first | rfl | simp)) (by simp [Value.oneCell']) (by unfold maxLen; omega) (by omega) (by simp; omega) ?_
        intro g c w3 hown3 hgrow3 hsep3
        obtain ⟨⟨o0, o1, o2, o3⟩, p0, p1, p2, p3⟩ := row4 ((hgrow3.block _ (HM2.out.2.2.1.next ((Below.refl _ _).alloc (Nat.le_refl _) _)).plt (fun h => by cases h)).trans (HM2.out.2.2.1.next ((Below.refl _ _).alloc (Nat.le_refl _) _)).box)
        refine hK.out _ _ (S8.grown hHeld hgrow3) (fun hHeld => ?_)
        clear hK K
        try simp only [Act.put, List.setIfInBounds_toArray, List.set_cons_zero, List.set_cons_succ, List.getElem_toArray, List.getElem_cons_zero, List.getElem_cons_succ]
        refine wpAnyH_take (i := 9) (oi := _) (v := ?_) rfl (by kernel_rfl) (by kernel_rfl) (by kernel_rfl) (fun _ _ _ h => h) (Or.inl ⟨by rfl, ?_⟩) hHeld ?_
        rotate_left
        · (intro w hSw; obtain ⟨c0, c1, c2, c3, d0, d1, d2, d3⟩ := hSw; go_simp; try with_reducible rfl)
        try simp only [Act.put, List.setIfInBounds_toArray, List.set_cons_zero, List.set_cons_succ, List.getElem_toArray, List.getElem_cons_zero, List.getElem_cons_succ]
        refine wpAnyH_ready (rs := [10]) (by kernel_rfl) (by simp) ?_
        refine AllReadyH.cons (o := _) rfl (fun K hK => ?_) (AllReadyH.nil)
        go_simp
        refine hK.out _ _ (S8.set hHeld (by omega)) (fun hHeld => ?_)
        clear hK K
        try simp only [Act.put, List.setIfInBounds_toArray, List.set_cons_zero, List.set_cons_succ, List.getElem_toArray, List.getElem_cons_zero, List.getElem_cons_succ]
        refine wpAnyH_done (by kernel_rfl) ?_ _
        go_wp2_with fail
        go_meet
        exact JL.start HM1.out.1 HM2.out.1 HM1.out.2.1 HM2.out.2.1 HM2.out.2.2.1 HM1.out.2.2.2 HM2.out.2.2.2 HSZ.out HR.out.1 HR.out.2 hl2 ((Below.refl _ _).alloc (Nat.le_refl _) _) hown3 hgrow3 hsep3
      · skip
        go_simp
        refine (HC2.out w1 i1 K1 svL1 vm1 N1 HM1.out.1 HM1.out.2.1 HM1.out.2.2.1 HM1.out.2.2.2).mono ?_
        rintro e w2 ⟨i2, K2, svL2, vm2, N2, rfl, hfr2, hK2, hm2, hp2, hN2⟩
        have HSB := Lib.hid (S8.block HSA.out (hfr2.below.block _ (by omega)) (hfr2.below.block _ (by omega)))
        obtain ⟨⟨q0, q1, q2, q3⟩, r0, r1, r2, r3⟩ := row4 hm2.box
        have hl2 : W.heap.size + 1 + 1 ≤ w2.heap.size := by have h1 := hm2.plt; omega
        have hl3 : W.heap.size + 1 + 1 + 1 < w2.heap.size := hm2.plt
        have HM2 := Lib.hid (And.intro hfr2 (And.intro hK2 (And.intro hm2 hp2)))
        clear hfr2 hK2 hm2 hp2 hN2
        go_wp2_with fail
        refine hK.out _ _ (HSB.out) (fun hHeld => ?_)
        clear hK K
        try simp only [Act.put, List.setIfInBounds_toArray, List.set_cons_zero, List.set_cons_succ, List.getElem_toArray, List.getElem_cons_zero, List.getElem_cons_succ]
        refine wpAnyH_take (i := 6) (oi := _) (v := ?_) rfl (by kernel_rfl) (by kernel_rfl) (by kernel_rfl) (fun _ _ _ h => h) (Or.inl ⟨by rfl, ?_⟩) hHeld ?_
        rotate_left
        · (intro w hSw; obtain ⟨c0, c1, c2, c3, d0, d1, d2, d3⟩ := hSw; go_simp; try with_reducible rfl)
        try simp only [Act.put, List.setIfInBounds_toArray, List.set_cons_zero, List.set_cons_succ, List.getElem_toArray, List.getElem_cons_zero, List.getElem_cons_succ]
        refine wpAnyH_ready (rs := [1, 7]) (by kernel_rfl) (by simp) ?_
        refine AllReadyH.cons (o := _) rfl (fun K hK => ?_) (AllReadyH.cons (o := _) rfl (fun K hK => ?_) (AllReadyH.nil))
        · skip
          go_simp
          refine hK.out _ _ (hHeld) (fun hHeld => ?_)
          clear hK K
          try simp only [Act.put, List.setIfInBounds_toArray, List.set_cons_zero, List.set_cons_succ, List.getElem_toArray, List.getElem_cons_zero, List.getElem_cons_succ]
          refine wpAnyH_ready (rs := [7]) (by kernel_rfl) (by simp) ?_
          refine AllReadyH.cons (o := _) rfl (fun K hK => ?_) (AllReadyH.nil)
          go_simp
          refine hK.out _ _ (S8.alloc hHeld _) (fun hHeld => ?_)
          clear hK K
          try simp only [Act.put, List.setIfInBounds_toArray, List.set_cons_zero, List.set_cons_succ, List.getElem_toArray, List.getElem_cons_zero, List.getElem_cons_succ]
          refine wpAnyH_ready (rs := [8]) (by kernel_rfl) (by simp) ?_
          refine AllReadyH.cons (o := _) rfl (fun K hK => ?_) (AllReadyH.nil)
          refine step_append_row (by rfl) _ _ (by rfl) Try.underlying119 Try.infoPair rfl (by decide) (W.heap.size + 1 + 1) (.slice none 0 0) 0 (pairCells []) (by rfl) ((HM2.out.2.2.1.next ((Below.refl _ _).alloc (Nat.le_refl _) _)).wk) w2.heap.size 1 [.int .i64 (i1 : Nat), .int .i64 (i2 : Nat)] (by rfl) rfl (news_any _ (by first | rfl | simp)) (by simp [Value.oneCell']) (by unfold maxLen; omega) (by omega) (by simp; omega) ?_
          intro g c w3 hown3 hgrow3 hsep3
          obtain ⟨⟨o0, o1, o2, o3⟩, p0, p1, p2, p3⟩ := row4 ((hgrow3.block _ (HM2.out.2.2.1.next ((Below.refl _ _).alloc (Nat.le_refl _) _)).plt (fun h => by cases h)).trans (HM2.out.2.2.1.next ((Below.refl _ _).alloc (Nat.le_refl _) _)).box)
          refine hK.out _ _ (S8.grown hHeld hgrow3) (fun hHeld => ?_)
          clear hK K
          try simp only [Act.put, List.setIfInBounds_toArray, List.set_cons_zero, List.set_cons_succ, List.getElem_toArray, List.getElem_cons_zero, List.getElem_cons_succ]
          refine wpAnyH_take (i := 9) (oi := _) (v := ?_) rfl (by kernel_rfl) (by kernel_rfl) (by kernel_rfl) (fun _ _ _ h => h) (Or.inl ⟨by rfl, ?_⟩) hHeld ?_
          rotate_left
          · (intro w hSw; obtain ⟨c0, c1, c2, c3, d0, d1, d2, d3⟩ := hSw; go_simp; try with_reducible rfl)
          try simp only [Act.put, List.setIfInBounds_toArray, List.set_cons_zero, List.set_cons_succ, List.getElem_toArray, List.getElem_cons_zero, List.getElem_cons_succ]
          refine wpAnyH_ready (rs := [10]) (by kernel_rfl) (by simp) ?_
          refine AllReadyH.cons (o := _) rfl (fun K hK => ?_) (AllReadyH.nil)
          go_simp
          refine hK.out _ _ (S8.set hHeld (by omega)) (fun hHeld => ?_)
          clear hK K
          try simp only [Act.put, List.setIfInBounds_toArray, List.set_cons_zero, List.set_cons_succ, List.getElem_toArray, List.getElem_cons_zero, List.getElem_cons_succ]
          refine wpAnyH_done (by kernel_rfl) ?_ _
          go_wp2_with fail
          go_meet
          exact JL.start HM1.out.1 HM2.out.1 HM1.out.2.1 HM2.out.2.1 HM2.out.2.2.1 HM1.out.2.2.2 HM2.out.2.2.2 HSZ.out HR.out.1 HR.out.2 hl2 ((Below.refl _ _).alloc (Nat.le_refl _) _) hown3 hgrow3 hsep3
        · skip
          go_simp
          refine hK.out _ _ (S8.alloc hHeld _) (fun hHeld => ?_)
          clear hK K
          try simp only [Act.put, List.setIfInBounds_toArray, List.set_cons_zero, List.set_cons_succ, List.getElem_toArray, List.getElem_cons_zero, List.getElem_cons_succ]
          refine wpAnyH_ready (rs := [1]) (by kernel_rfl) (by simp) ?_
          refine AllReadyH.cons (o := _) rfl (fun K hK => ?_) (AllReadyH.nil)
          go_simp
          refine hK.out _ _ (hHeld) (fun hHeld => ?_)
          clear hK K
          try simp only [Act.put, List.setIfInBounds_toArray, List.set_cons_zero, List.set_cons_succ, List.getElem_toArray, List.getElem_cons_zero, List.getElem_cons_succ]
          refine wpAnyH_ready (rs := [8]) (by kernel_rfl) (by simp) ?_
          refine AllReadyH.cons (o := _) rfl (fun K hK => ?_) (AllReadyH.nil)
          refine step_append_row (by rfl) _ _ (by rfl) Try.underlying119 Try.infoPair rfl (by decide) (W.heap.size + 1 + 1) (.slice none 0 0) 0 (pairCells []) (by rfl) ((HM2.out.2.2.1.next ((Below.refl _ _).alloc (Nat.le_refl _) _)).wk) w2.heap.size 1 [.int .i64 (i1 : Nat), .int .i64 (i2 : Nat)] (by rfl) rfl (news_any _ (by first | rfl | simp)) (by simp [Value.oneCell']) (by unfold maxLen; omega) (by omega) (by simp; omega) ?_
          intro g c w3 hown3 hgrow3 hsep3
          obtain ⟨⟨o0, o1, o2, o3⟩, p0, p1, p2, p3⟩ := row4 ((hgrow3.block _ (HM2.out.2.2.1.next ((Below.refl _ _).alloc (Nat.le_refl _) _)).plt (fun h => by cases h)).trans (HM2.out.2.2.1.next ((Below.refl _ _).alloc (Nat.le_refl _) _)).box)
          refine hK.out _ _ (S8.grown hHeld hgrow3) (fun hHeld => ?_)
          clear hK K
          try simp only [Act.put, List.setIfInBounds_toArray, List.set_cons_zero, List.set_cons_succ, List.getElem_toArray, List.getElem_cons_zero, List.getElem_cons_succ]
          refine wpAnyH_take (i := 9) (oi := _) (v := ?_) rfl (by kernel_rfl) (by kernel_rfl) (by kernel_rfl) (fun _ _ _ h => h) (Or.inl ⟨by rfl, ?_⟩) hHeld ?_
          rotate_left
          · (intro w hSw; obtain ⟨c0, c1, c2, c3, d0, d1, d2, d3⟩ := hSw; go_simp; try with_reducible rfl)
          try simp only [Act.put, List.setIfInBounds_toArray, List.set_cons_zero, List.set_cons_succ, List.getElem_toArray, List.getElem_cons_zero, List.getElem_cons_succ]
          refine wpAnyH_ready (rs := [10]) (by kernel_rfl) (by simp) ?_
          refine AllReadyH.cons (o := _) rfl (fun K hK => ?_) (AllReadyH.nil)
          go_simp
          refine hK.out _ _ (S8.set hHeld (by omega)) (fun hHeld => ?_)
          clear hK K
          try simp only [Act.put, List.setIfInBounds_toArray, List.set_cons_zero, List.set_cons_succ, List.getElem_toArray, List.getElem_cons_zero, List.getElem_cons_succ]
          refine wpAnyH_done (by kernel_rfl) ?_ _
          go_wp2_with fail
          go_meet
          exact JL.start HM1.out.1 HM2.out.1 HM1.out.2.1 HM2.out.2.1 HM2.out.2.2.1 HM1.out.2.2.2 HM2.out.2.2.2 HSZ.out HR.out.1 HR.out.2 hl2 ((Below.refl _ _).alloc (Nat.le_refl _) _) hown3 hgrow3 hsep3
  case rest =>
    obtain ⟨N0, hjl0⟩ := hcut.out
    have HJL0 := Lib.hid hjl0
    clear hjl0 hcut x0 x1 x2 x3 y0 y1 y2 y3 z0 z1 z2 z3 zf0 zf1 zf2 zf3 hmk HC1 HC2 HCELL
    go_wp2_with fail
    go_loopg [9] N0 (fun N ii wr => ∃ k : Nat, ii = .int .i64 (k : Nat) ∧ Hid (JL (W.heap.size + 1 + 1) B (W.heap.size + 1 + 1 + 1) sb (W.heap.size + 1 + 1) l V a b W0.drew k N wr))
    case atStart => exact ⟨0, rfl, HJL0.out⟩
    case round =>
      obtain ⟨k, rfl, hjl⟩ := hrel
      obtain ⟨svL, svW, M, vm, K, work, ro, d, ia, ib, c, hi⟩ := hjl.out
      have HI := Lib.hid hi
      obtain ⟨⟨q0, q1, q2, q3⟩, _⟩ := row4 hi.mem.box
      obtain ⟨gw, cw, hsw⟩ := hi.mem.sliceW
      subst hsw
      have hcle := hi.cle
      have hlen := hi.len
      have hkk := hi.kk
      have hwr : W.heap.size + 1 + 1 ≤ wr.heap.size := by have := hi.below.size; simp at this; omega
      have hpl := hi.mem.plt
      have hwl : work.length ≤ 1000000000000 := by omega
      have hcle_ := hcle
      clear hjl hi hcle hlen
      by_cases hkl : k < work.length
      · have hdr : work.drop k = work[k] :: work.drop (k + 1) := List.drop_eq_getElem_cons hkl
        have hinv := HI.out.inv
        rw [hdr] at hinv
        have hun := unite_any (p := work[k]) (pend := work.drop (k + 1)) HI.out.mem HI.out.kK hwr (HE0.out.far ((Below.refl _ _).drew.trans HI.out.below)) HI.out.upt HI.out.fst hinv HI.out.room hwl
        obtain ⟨gb', hgw, c1, c2⟩ : ∃ gb', gw = some ⟨gb', 0, none⟩ ∧ wr.cell? ⟨gb', k * 2, none⟩ = some (.int .i64 (work[k].1 : Nat)) ∧ wr.cell? ⟨gb', k * 2 + 1, none⟩ = some (.int .i64 (work[k].2 : Nat)) := by
          have hwk := HI.out.mem.wk
          rcases hwk.2 with ⟨_, h0⟩ | ⟨gr, cr, cur, e, _⟩
          · omega
          · injection e with e1 e2 e3
            have hob : (Value.slice gw work.length cw).ownBlock = some gr := by rw [e1]; rfl
            obtain ⟨h1, h2⟩ := pairCells_get work k hkl
            have d1 := World.ownsRow.cells hwk (g := gr) hob (k * 2) _ h1
            have d2 := World.ownsRow.cells hwk (g := gr) hob (k * 2 + 1) _ h2
            rw [Addr.add_lit] at d1 d2
            simp only [Nat.zero_add] at d1 d2
            exact ⟨gr, e1, d1, d2⟩
        subst hgw
        have HUN := Lib.hid hun
        have hi0 : (0 : Int) ≤ (k : Int) := by omega
        have hi1 : (k : Int) < (work.length : Int) := by omega
        clear hun hinv hdr
        go_wp2_with fail
        refine HUN.out.mono ?_
        rintro e w2 h2
        rcases h2 with ⟨rfl, hb2, hno⟩ | ⟨rfl, K', svL', svW', vm', M', more, ro', d', hb2, hK2, hm2, hu2, hf2, hi2, hp2, hl2, ht2, hc2⟩
        · have hpost : JoinPost W B l V a b (.returned (.tuple #[.slice none 0 0, .bool false])) w2 :=
            ⟨HB0.out.trans (((Below.refl _ _).drew.trans (HI.out.below.trans hb2)).mono (by omega)), .inl ⟨rfl, hno⟩⟩
          have HPOST := Lib.hid hpost
          clear hpost hb2 hno HUN
          go_wp2_with fail
          go_ret2
          exact HPOST.out
        · obtain ⟨N', hN', hJL⟩ := HI.out.step hkl hb2 hK2 hm2 hu2 hf2 hi2 hp2 hl2 ht2 hc2
          have HJL := Lib.hid hJL
          have HN := Lib.hid hN'
          clear hb2 hK2 hm2 hu2 hf2 hi2 hp2 hl2 ht2 hc2 hJL HUN hN'
          go_wp2_with fail
          go_roundg N'
          case rel => exact ⟨k + 1, by go_num, HJL.out⟩
          case measure => exact HN.out
      · have hbn := binds_any HI.out.mem hwr HI.out.fst hcle_.2
        have HBN := Lib.hid hbn
        clear hbn
        go_wp2_with fail
        refine HBN.out.mono ?_
        rintro e w2 ⟨sv, xs', rfl, hb2, hr2, hc2⟩
        have hpost := HI.out.done hkl HL.out (W := W) (by omega) (HB0.out.trans (Below.refl _ _).drew) hb2 hr2 hc2
        have HPOST := Lib.hid hpost
        clear hpost hb2 hr2 hc2 HBN
        go_wp2_with fail
        go_ret2
        exact HPOST.out
end Go.Proofs.Ytgnbjhiafjpokaa
