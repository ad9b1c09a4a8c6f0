/-
  The range over a term: what the program's traversal hands to a loop's body, in its order.
-/
import Derived.Test.YtliapkajonbndaaDoorTm
import Derived.Test.YtliapkajonbndaaDoorChecked
import Derived.Lib.Hide
import Derived.RangeFuncNested
import Derived.RangeFuncBound
import Derived.RangeFuncCalls
import Derived.RangeFuncLeaves
import Derived.Shelf.Abstract
import Derived.Shelf.RegionOpen
import Derived.OwnWalkIn
import Derived.TacticsInMore
import Derived.LoopNIn
import Derived.LoopIn
namespace Go.Proofs.YtliapkajonbndaaDoor
open Go.RowKit Go.Shelf

attribute [local go_sem] Oper.semAt_some

/-- What a traversal tells of a term: its own fields, how many Args it has, its depth. -/
structure Key where
  k : Int
  s : ByteArray
  n : Int
  m : Nat
  d : Int

mutual
def Tm.nodes : Tm → Int → List Key
  | .mk k s n l, d => ⟨k, s, n, l.length, d⟩ :: Tm.nodesL l (d + 1)
def Tm.nodesL : List Tm → Int → List Key
  | [], _ => []
  | t :: r, d => t.nodes d ++ Tm.nodesL r d
end
theorem nodesL_append (l r : List Tm) (d : Int) : Tm.nodesL (l ++ r) d = Tm.nodesL l d ++ Tm.nodesL r d := by
  induction l with
  | nil => simp [Tm.nodesL]
  | cons t l ih => simp [Tm.nodesL, ih]
theorem nodesL_take_succ (l : List Tm) (i : Nat) (h : i < l.length) (d : Int) : Tm.nodesL (l.take (i + 1)) d = Tm.nodesL (l.take i) d ++ l[i].nodes d := by
  rw [List.take_succ_eq_append_getElem h, nodesL_append]
  simp [Tm.nodesL]
theorem nodesL_length (l : List Tm) (h : ∀ t ∈ l, ∀ d, (t.nodes d).length = t.size) (d : Int) : (Tm.nodesL l d).length = Tm.sizes l := by
  induction l with
  | nil => simp [Tm.nodesL, Tm.sizes]
  | cons t r ih => simp [Tm.nodesL, Tm.sizes, h t (by simp) d, ih (fun u hu => h u (by simp [hu]))]
theorem nodes_length : ∀ (t : Tm) (d : Int), (t.nodes d).length = t.size := Tm.ind fun k s n l ih d => by
  simp [Tm.nodes, Tm.size, nodesL_length l ih]

/-- A term as the loop's body gets it. -/
structure El where
  key : Key
  g : Option Addr
  cap : Nat
  ok : (Lit.int .i64 key.k).wf = true ∧ key.s.size ≤ maxLen ∧ (Lit.int .i64 key.n).wf = true ∧ key.m ≤ 2513169434900 ∧ key.m ≤ cap ∧ 0 ≤ key.d ∧ key.d ≤ 2000000
def El.val (x : El) : Value := .agg #[.int .i64 x.key.k, .string x.key.s, .int .i64 x.key.n, .slice x.g x.key.m x.cap]
def El.encs (x : El) : Array Value := #[.agg #[.int .i64 x.key.k, .string x.key.s, .int .i64 x.key.n, .slice x.g x.key.m x.cap], .int .i64 x.key.d]

theorem zip2 (a b : Tmp) (x y : Value) (ts : Array Value) : Array.foldl (fun t (p : Tmp × Value) => t.setIfInBounds p.1 p.2) ts (#[a, b].zip #[x, y]) = (ts.setIfInBounds a x).setIfInBounds b y := by simp

/-- What a loop's body keeps: what lay ahead of the call, and every box of a term. -/
structure Keep (lo : Nat) (W W' : World) : Prop where
  size : W.heap.size ≤ W'.heap.size
  low : ∀ k, k < lo → W'.heap[k]? = W.heap[k]?
  term : ∀ (k : Nat) (cs : Array Value) (fr : Nat × Nat), W.heap[k]? = some (Obj.cells cs 24 fr) → W'.heap[k]? = some (Obj.cells cs 24 fr)
theorem Keep.refl (lo : Nat) (W : World) : Keep lo W W := ⟨Nat.le_refl _, fun _ _ => rfl, fun _ _ _ h => h⟩
theorem Keep.trans {lo : Nat} {A B C : World} (h : Keep lo A B) (k : Keep lo B C) : Keep lo A C :=
  ⟨Nat.le_trans h.size k.size, fun i hi => (k.low i hi).trans (h.low i hi), fun i cs fr hi => k.term i cs fr (h.term i cs fr hi)⟩
theorem Keep.alloc {lo : Nat} {A B : World} (h : Keep lo A B) (hlo : lo ≤ B.heap.size) (o : Obj) : Keep lo A (B.alloc o) :=
  h.trans ⟨by simp, fun k hk => Below.heap_alloc _ _ _ (by omega), fun k cs fr hk => (Below.heap_alloc _ _ _ (Array.getElem?_eq_some_iff.1 hk).1).trans hk⟩
theorem Keep.of_below {lo : Nat} {A B C : World} (h : Keep lo A B) (hb : Below B.heap.size B C) (hlo : lo ≤ B.heap.size) : Keep lo A C :=
  h.trans ⟨hb.size, fun k hk => hb.block k (by omega), fun k cs fr hk => (hb.block k (Array.getElem?_eq_some_iff.1 hk).1).trans hk⟩
theorem Keep.cell {lo : Nat} {A B : World} (h : Keep lo A B) {a : Addr} (ha : a.block < lo) : B.cell? a = A.cell? a := World.cell?_of_block (h.low _ ha)
theorem Keep.box {lo : Nat} {A B : World} (h : Keep lo A B) {k : Nat} {cs : Array Value} {fr : Nat × Nat} (hk : A.heap[k]? = some (Obj.cells cs 24 fr)) (i : Nat) : B.cell? ⟨k, i, none⟩ = cs[i]? := by
  simp [World.cell?, h.term k cs fr hk]
theorem Keep.inn {lo : Nat} {A B : World} (h : Keep lo A B) {t : Tm} {sv : Value} (hi : Tm.inn A lo t sv) : Tm.inn B lo t sv :=
  Tm.inn_same (Nat.le_refl _) (fun b o _ hb hc => (h.cell (a := ⟨b, o, none⟩) hb).trans hc) t sv hi
theorem Keep.slice {lo : Nat} {A B : World} (h : Keep lo A B) {l : List Tm} {sv : Value} (hi : Tm.sliceIn A lo l sv) : Tm.sliceIn B lo l sv :=
  Tm.sliceIn_same (fun _ _ _ hh => h.inn hh) (Nat.le_refl _) (fun b o _ hb hc => (h.cell (a := ⟨b, o, none⟩) hb).trans hc) hi

theorem room_of_none {F : Fence} (hd : F.depth = none) (k : Nat) : F.room k := fun d h => by rw [hd] at h; cases h
theorem RoundIn.anyDepth {F : Fence} (hd : F.depth = none) {m m' : Nat} {P : Program} {l : Nat} {f : FuncId} {tmps : Array Value} {assign body : Code} {w : World} {R : Ending → World → Prop}
    (h : RoundIn F m P l f tmps assign body w R) : RoundIn F m' P l f tmps assign body w R := ⟨h.1, fun c cs _ => h.2 c cs (room_of_none hd _)⟩
theorem YieldAt.anyDepth {F : Fence} (hd : F.depth = none) {m : Nat} (m' : Nat) {P : Program} {l : Nat} {args : Array Value} {W : World} {R : Ending → World → Prop} (h : YieldAt F m P l args W R) : YieldAt F m' P l args W R := by
  obtain ⟨fn, tmps, assign, body, hy, hR⟩ := h
  exact ⟨fn, tmps, assign, body, hy, RoundIn.anyDepth hd hR⟩

set_option maxRecDepth 100000 in
set_option maxHeartbeats 2000000 in
theorem walk_inw (F : Fence) (hd : F.depth = none) (hF : F.fn 43) (hro : F.round = none) (l lo N : Nat) (J Jx : List El → World → Prop)
    (hJ : ∀ s W W', J s W → W.grownBy W' none → J s W')
    (hY : ∀ m pre x W, J pre W → pre.length < N → YieldAt F m Tryd.prog l x.encs W fun e W' =>
      (e = .returned (.bool true) ∧ J (pre ++ [x]) W' ∧ Keep lo W W') ∨ (e = .returned (.bool false) ∧ Jx (pre ++ [x]) W')) :
    ∀ (t : Tm) (n : Nat) (sv : Value) (d : Int) (pre : List El) (W : World), Tm.inn W lo t sv → lo ≤ W.heap.size → 0 ≤ d → d + t.deep ≤ 2000000 → J pre W → pre.length + t.size ≤ N →
      CallsIn F n Tryd.prog 43 #[.agg #[.int .i64 t.kind, .string t.name, .int .i64 t.n, sv], .int .i64 d, .func (.yield l) #[] #[]] W fun e W' =>
        (e = .returned (.bool true) ∧ ∃ els : List El, els.map El.key = t.nodes d ∧ J (pre ++ els) W' ∧ Keep lo W W') ∨
        (e = .returned (.bool false) ∧ ∃ q : List El, q.map El.key <+: t.nodes d ∧ Jx (pre ++ q) W') := by
  refine Tm.ind fun k s n' args ih n sv d pre W hin hlo hd0 hd1 hJ0 hN => ?_
  have hdd : ∀ k : Nat, (F.depth.isSome = true → 1 ≤ k) := fun k h => by rw [hd] at h; cases h
  obtain ⟨⟨hk, hs, hn⟩, hsl⟩ := Tm.inn_mk.1 hin
  have hsl0 := hsl
  obtain ⟨g, cap, rfl, hcap, hlen, _⟩ := hsl0
  simp only [Tm.kind, Tm.name, Tm.n]
  simp only [Tm.size, Tm.deep] at hN hd1
  refine callsIn_of_wp Tryd.func43 rfl hF ?_ hro
  simp only [Tryd.ntmps43, List.size_toArray, List.length_cons, List.length_nil, Nat.reduceAdd, Nat.reduceSub, Array.replicate_succ, Array.replicate_zero, List.push_toArray, List.append_toArray, List.nil_append, List.cons_append]
  have hY0 := hY (n - 1) pre ⟨⟨k, s, n', args.length, d⟩, g, cap, ⟨hk, hs, hn, hlen, hcap, hd0, by simp only; omega⟩⟩
    (W.alloc (.cells #[.int .i64 k, .string s, .int .i64 n', .slice g args.length cap] 24)) (hJ _ _ _ hJ0 (World.grownBy_alloc W _ none)) (by omega)
  simp only [El.encs] at hY0
  obtain ⟨fn, tmps, assign, body, hy, hR⟩ := hY0
  have HR := Lib.hid hR
  have HY := Lib.hid hY
  have HJ := Lib.hid hJ
  have HI := Lib.hid ih
  have HS := Lib.hid hsl
  clear hR hY hJ ih hsl hin
  gi_wp2_with fail
  refine HR.out.mono ?_
  rintro e W1 (⟨rfl, hJ1, hk1⟩ | ⟨rfl, hx1⟩)
  · have c3 : W1.cell? ⟨W.heap.size, 3, none⟩ = some (.slice g args.length cap) := (hk1.box (World.alloc_heap_new W _) 3).trans rfl
    have hkW : Keep lo W W1 := ((Keep.refl lo W).alloc hlo _).trans hk1
    have HJ1 := Lib.hid hJ1
    clear hk1 hJ1 hy HR
    gi_wp2_with fail
    gi_loopw [17] (fun i wr => ∃ k' : Nat, k' ≤ args.length ∧ i = .int .i64 k' ∧ Hid (∃ els : List El, els.map El.key = ⟨k, s, n', args.length, d⟩ :: Tm.nodesL (args.take k') (d + 1) ∧ J (pre ++ els) wr) ∧ Keep lo W wr) (fun i _ => args.length - (intOf i).toNat)
    case atStart => exact ⟨0, Nat.zero_le _, rfl, ⟨[_], by simp [Tm.nodesL], HJ1.out⟩, hkW⟩
    case round =>
      obtain ⟨k', hk', rfl, hels, hkr⟩ := hrel
      by_cases hlt : k' < args.length
      · obtain ⟨b, off, sv, rfl, hbB, g0, g1, g2, g3, hin'⟩ := Tm.sliceIn_get (hkr.slice HS.out) k' hlt
        obtain ⟨_, g', cap', rfl, _, _, _⟩ := Tm.inn_iff.1 hin'
        obtain ⟨els, he1, he2⟩ := hels.out
        have hm := nodesL_take_succ args k' hlt (d + 1)
        have hdp := Tm.deeps_take_succ args k' hlt
        have hdp2 := Tm.deeps_take_le args (k' + 1)
        have hsz := Tm.sizes_take_succ args k' hlt
        have hsz2 := Tm.sizes_take_le args (k' + 1)
        have hll : els.length = Tm.sizes (args.take k') + 1 := by
          have := congrArg List.length he1
          simpa [nodesL_length (args.take k') (fun t _ d => nodes_length t d)] using this
        have hih := HI.out args[k'] (List.getElem_mem hlt) (n - 1) (.slice g' args[k'].args.length cap') (d + 1) (pre ++ els) (wr.alloc (.cells #[.int .i64 args[k'].kind, .string args[k'].name, .int .i64 args[k'].n, .slice g' args[k'].args.length cap'] 24))
          (((Keep.refl lo wr).alloc (Nat.le_trans hlo hkr.size) _).inn hin') (by have := hkr.size; simp; omega) (by omega) (by omega) (HJ.out _ _ _ he2 (World.grownBy_alloc wr _ none)) (by simp; omega)
        have HIH := Lib.hid hih
        have HM := Lib.hid hm
        have HE := Lib.hid he1
        clear hih hm he1 he2 hels hdp hdp2 hsz hsz2 hll hin' c3
        gi_wp2_with fail
        refine HIH.out.mono ?_
        rintro e W2 (⟨rfl, els2, hq1, hq2, hq3⟩ | ⟨rfl, q, hq1, hq2⟩)
        · have HQ1 := Lib.hid hq1
          have HQ2 := Lib.hid hq2
          have hk2 : Keep lo W W2 := (hkr.alloc (Nat.le_trans hlo hkr.size) _).trans hq3
          clear hq1 hq2 hq3
          gi_wp2_with fail
          go_roundw
          case rel =>
            refine ⟨k' + 1, by omega, by go_num, ⟨els ++ els2, ?_, ?_⟩, hk2⟩
            · rw [HM.out, List.map_append, HE.out, HQ1.out]; simp
            · rw [← List.append_assoc]; exact HQ2.out
          case measure => simp [intOf]; omega
        · have HQ1 := Lib.hid hq1
          have HQ2 := Lib.hid hq2
          clear hq1 hq2
          gi_wp2_with fail
          go_ret
          refine .inr ⟨rfl, els ++ q, ?_, by rw [← List.append_assoc]; exact HQ2.out⟩
          simp only [Tm.nodes]
          rw [List.map_append, HE.out, List.cons_append]
          have h1 : args = args.take (k' + 1) ++ args.drop (k' + 1) := (List.take_append_drop _ _).symm
          rw [h1, nodesL_append, ← h1, HM.out]
          obtain ⟨r, hr⟩ := HQ1.out
          exact ⟨r ++ Tm.nodesL (args.drop (k' + 1)) (d + 1), by rw [← hr]; simp⟩
      · obtain rfl : k' = args.length := by omega
        have hels2 := Lib.hid hels.out
        clear hels
        gi_wp2_with fail
        go_ret
        obtain ⟨els, he1, he2⟩ := hels2.out
        exact .inl ⟨rfl, els, by rw [he1, List.take_length]; simp [Tm.nodes], he2, hkr⟩
  · have HX := Lib.hid hx1
    clear hx1
    gi_wp2_with fail
    go_ret
    exact .inr ⟨rfl, [_], by simp [Tm.nodes], HX.out⟩

set_option maxRecDepth 100000 in
set_option maxHeartbeats 1000000 in
theorem inside1_in (F : Fence) (hd : F.depth = none) (n : Nat) (hF : F.fn 42) (hF2 : F.fn 43) (hro : F.round = none) (l Bt lo : Nat) (t : Tm) (g : Option Addr) (cap : Nat) (J Jx : List El → World → Prop)
    (hJ : ∀ s W W', J s W → W.grownBy W' none → J s W')
    (hY : ∀ pre x W, J pre W → pre.length < t.size → YieldAt F (n - 1) Tryd.prog l x.encs W fun e W' =>
      (e = .returned (.bool true) ∧ J (pre ++ [x]) W' ∧ Keep lo W W') ∨ (e = .returned (.bool false) ∧ Jx (pre ++ [x]) W'))
    (W : World) (hBt : W.heap[Bt]? = some (Obj.cells #[.int .i64 t.kind, .string t.name, .int .i64 t.n, .slice g t.args.length cap] 24 (0, 0))) (hT : Tm.inn W lo t (.slice g t.args.length cap)) (hlo : lo ≤ W.heap.size) (hsz : t.size ≤ 1000000) (h0 : J [] W) :
    CallsIn F n Tryd.prog 42 #[.func (.yield l) #[] #[], .pointer (some ⟨Bt, 0, none⟩)] W fun e W' => (∃ v, e = .returned v) ∧
      ((∃ ys : List El, ys.map El.key = t.nodes 1 ∧ J ys W') ∨ (∃ pre : List El, pre.map El.key <+: t.nodes 1 ∧ Jx pre W')) := by
  have hdd : ∀ k : Nat, (F.depth.isSome = true → 1 ≤ k) := fun k h => by rw [hd] at h; cases h
  have hdp := Tm.deep_le_size t
  have hp := walk_inw F hd hF2 hro l lo t.size J Jx hJ (fun m pre x W hj hl => YieldAt.anyDepth hd m (hY pre x W hj hl)) t (n - 1) _ 1 [] W hT hlo (by omega) (by omega) h0 (by simp)
  have c0 : W.cell? ⟨Bt, 0, none⟩ = some (.int .i64 t.kind) := by simp [World.cell?, hBt]
  have c1 : W.cell? ⟨Bt, 1, none⟩ = some (.string t.name) := by simp [World.cell?, hBt]
  have c2 : W.cell? ⟨Bt, 2, none⟩ = some (.int .i64 t.n) := by simp [World.cell?, hBt]
  have c3 : W.cell? ⟨Bt, 3, none⟩ = some (.slice g t.args.length cap) := by simp [World.cell?, hBt]
  have HP := Lib.hid hp
  clear hp hY hJ hT hBt h0
  refine callsIn_of_wp Tryd.func42 rfl hF ?_ hro
  simp only [Tryd.ntmps42, List.size_toArray, List.length_cons, List.length_nil, Nat.reduceAdd, Nat.reduceSub, Array.replicate_succ, Array.replicate_zero, List.push_toArray, List.append_toArray, List.nil_append, List.cons_append]
  gi_wp2_with fail
  refine HP.out.mono ?_
  rintro e W1 (⟨rfl, els, hq1, hq2, _⟩ | ⟨rfl, q, hq1, hq2⟩)
  · have HQ1 := Lib.hid hq1
    have HQ2 := Lib.hid hq2
    clear hq1 hq2
    gi_wp2_with fail
    go_end0
    exact ⟨⟨_, rfl⟩, .inl ⟨els, HQ1.out, HQ2.out⟩⟩
  · have HQ1 := Lib.hid hq1
    have HQ2 := Lib.hid hq2
    clear hq1 hq2
    gi_wp2_with fail
    go_end0
    exact ⟨⟨_, rfl⟩, .inr ⟨q, HQ1.out, HQ2.out⟩⟩

set_option maxHeartbeats 1000000 in
theorem inside_in (F : Fence) (n : Nat) (hF : F.fn 32) (hro : F.round = none) (k : Int) (s : ByteArray) (m : Int) (g : Option Addr) (len cap : Nat) (w : World) :
    CallsIn F n Tryd.prog 32 #[.agg #[.int .i64 k, .string s, .int .i64 m, .slice g len cap]] w fun e w' =>
      e = .returned (.func (.func 42) #[] #[.pointer (some ⟨w.heap.size, 0, none⟩)]) ∧ w' = w.alloc (.cells #[.int .i64 k, .string s, .int .i64 m, .slice g len cap] 24) := by
  refine callsIn_of_wp Tryd.func32 rfl hF ?_ hro
  simp only [Tryd.ntmps32, List.size_toArray, List.length_cons, List.length_nil, Nat.reduceAdd, Nat.reduceSub, Array.replicate_succ, Array.replicate_zero, List.push_toArray, List.append_toArray, List.nil_append, List.cons_append]
  gi_wp2
  go_ret
  exact ⟨rfl, rfl⟩

/-- The value that 'inside' hands back, as an iterator over the terms in a term. -/
theorem inside_stops (F : Fence) (hd : F.depth = none) (n : Nat) (hF : F.fn 42) (hF2 : F.fn 43) (hro : F.round = none) (Bt lo : Nat) (t : Tm) (g : Option Addr) (cap : Nat) (w : World) (hlo : lo ≤ w.heap.size)
    (hBt : w.heap[Bt]? = some (Obj.cells #[.int .i64 t.kind, .string t.name, .int .i64 t.n, .slice g t.args.length cap] 24 (0, 0))) (hT : Tm.inn w lo t (.slice g t.args.length cap)) (hsz : t.size ≤ 1000000) :
    SeqStopsK F n Tryd.prog 42 #[.pointer (some ⟨Bt, 0, none⟩)] El.encs (Keep lo) (fun ys => ys.map El.key = t.nodes 1) (fun pre => pre.map El.key <+: t.nodes 1) t.size w := fun l J Jx W hW hJ _ hY h0 =>
  inside1_in F hd n hF hF2 hro l Bt lo t g cap J Jx (fun s A B hs hg => hJ s A B none hs hg (fun r e => by cases e)) hY W ((hW.block Bt (Array.getElem?_eq_some_iff.1 hBt).1).trans hBt) (Tm.inn_below hT hW hlo) (Nat.le_trans hlo hW.size) hsz h0

theorem keep_putObj {lo : Nat} {w : World} (hlo : lo ≤ w.heap.size) (W : World) (l : Nat) (o o' : Obj) (hl : w.heap.size ≤ l) (h : W.heap[l]? = some o) (hc : o.isCells = false) (_ : o.isWalk = false) : Keep lo W (W.putObj l o') :=
  ⟨by simp, fun k hk => World.putObj_heap_other (by omega), fun k cs fr hk => (World.putObj_heap_other (fun e => by subst e; rw [hk] at h; cases h; cases hc)).trans hk⟩
end Go.Proofs.YtliapkajonbndaaDoor
