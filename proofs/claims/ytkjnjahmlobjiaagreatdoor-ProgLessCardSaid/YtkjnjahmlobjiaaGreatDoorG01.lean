/-
  Texts of names and numbers, purely; how they are cut.
  A term's text, purely.
  The document's own answers on one term (size, depth, whether its fields may be, whether two are alike): what their calls give.
  The document's own answers: whether terms are few enough; whether two terms are alike.
  The document's own answers: whether two terms are alike.
  The document's own answers: whether a term is right.
  The document's own answers: whether a term is right, whole; whether Vars have no Args; rows of terms and of numbers that are alike.
  The range over a term: what the program's traversal hands to a loop's body, in its order.
  The program's tests of one term's own fields, and its Same.
  The program's Right.
-/
import Derived.Test.YtkjnjahmlobjiaaGreatDoorG00
import Derived.Test.YtkjnjahmlobjiaaGreatDoorChecked
import Derived.Lib.Hide
import Derived.StillTailTactics
import Derived.RangeFuncNested
import Derived.RangeFuncBound
import Derived.RangeFuncCalls
import Derived.RangeFuncLeaves
import Derived.Shelf.Abstract
import Derived.Shelf.RegionOpen
import Derived.OwnWalkIn
import Derived.TacticsInMore
import Derived.LoopNIn
import Derived.LoopIn
namespace Go.Proofs.YtkjnjahmlobjiaaGreatDoor

/-- The digits of a number. -/
def dgs (n : Nat) : List UInt8 := if n < 10 then [UInt8.ofNat (48 + n)] else dgs (n / 10) ++ [UInt8.ofNat (48 + n % 10)]
termination_by n
/-! ### what stands behind -/
/-! ### numbers, variables -/
/-! ### names -/
/-- Is a name its own text? -/
def wordN : List UInt8 → Bool
  | [] => false
  | c :: r => srt c == 1 && r.all isWord
def signN (tx : List UInt8) : Bool := !tx.isEmpty && tx.all (fun c => isSign c && c != 46)
def plainN (tx : List UInt8) : Bool := wordN tx || signN tx || tx = [33] || tx = [59] || tx = [91, 93]
def dbl : List UInt8 → List UInt8
  | [] => []
  | c :: r => if c = 39 then 39 :: 39 :: dbl r else c :: dbl r
/-- A name's text. -/
def nmX (tx : List UInt8) : List UInt8 := if plainN tx = true then tx else 39 :: (dbl tx ++ [39])
/-! ### marks -/
end Go.Proofs.YtkjnjahmlobjiaaGreatDoor

namespace Go.Proofs.YtkjnjahmlobjiaaGreatDoor
open Go.RowKit

/-- A text's bytes. -/
def bsN (s : ByteArray) : List UInt8 := s.data.toList
theorem bsN_toList (s : ByteArray) : s.toList = bsN s := by rw [ByteArray.toList_eq]; rfl
/-! ### the text -/
abbrev P2 := List UInt8 × List UInt8
def dotO (s : List UInt8) : List P2 → Option (P2 × P2)
  | [a, b] => if s = [46] then some (a, b) else none
  | _ => none
def cmX : List P2 → List UInt8
  | [] => []
  | a :: q => 44 :: (a.1 ++ cmX q)
def txO (k : Int) (s : List UInt8) (n : Int) (ps : List P2) : List UInt8 :=
  if k = 1 then 95 :: dgs n.toNat
  else if k = 2 then (if n < 0 then 45 :: dgs (-n).toNat else dgs n.toNat)
  else match ps with
    | [] => nmX s
    | a :: q => match dotO s (a :: q) with
      | some (x, y) => 91 :: (x.1 ++ y.2)
      | none => nmX s ++ 40 :: (a.1 ++ (cmX q ++ [41]))
def tlO (k : Int) (s : List UInt8) (n : Int) (ps : List P2) : List UInt8 :=
  if k = 3 ∧ s = [91, 93] ∧ ps = [] then [93]
  else match (if k = 3 then dotO s ps else none) with
    | some (x, y) => 44 :: (x.1 ++ y.2)
    | none => 124 :: (txO k s n ps ++ [93])
mutual
/-- A term's text, and what stands for it behind a list's element. -/
def wr : Tm → P2
  | .mk k s n l => (txO k (bsN s) n (wrs l), tlO k (bsN s) n (wrs l))
def wrs : List Tm → List P2
  | [] => []
  | t :: r => wr t :: wrs r
end
def tx (t : Tm) : List UInt8 := (wr t).1
/-! ### what is told of the numbers -/
end Go.Proofs.YtkjnjahmlobjiaaGreatDoor

namespace Go.Proofs.YtkjnjahmlobjiaaGreatDoor
open Go.RowKit

end Go.Proofs.YtkjnjahmlobjiaaGreatDoor

namespace Go.Proofs.YtkjnjahmlobjiaaGreatDoor
open Go.RowKit

set_option maxHeartbeats 400000 in
theorem few_any : ∀ (t : Tm) (w : World) (B : Nat) (sv : Value) (m d : Int), B ≤ w.heap.size → Tm.inn w B t sv → 0 ≤ m → m ≤ 4000 → 0 ≤ d → d ≤ 200 →
    Calls Tryz.prog 14 #[.agg #[.int .i64 t.kind, .string t.name, .int .i64 t.n, sv], .int .i64 m, .int .i64 d] w fun e w' => e = .returned (.int .i64 (t.few m d)) ∧ Below w.heap.size w w' := by
  refine Tm.ind fun k s n l ih w B sv m d hB hin hm0 hm1 hd0 hd1 => ?_
  obtain ⟨⟨_, hss, _⟩, hsl⟩ := Tm.inn_mk.1 hin
  have hsl0 := hsl
  obtain ⟨g, cap, rfl, hcap, hlen, _⟩ := hsl0
  simp only [Tm.kind, Tm.name, Tm.n]
  unfold maxLen at hss
  by_cases hc : m - 1 < 0 ∨ d < 1 ∨ 100 < (s.size : Int)
  · have hf : Tm.few (.mk k s n l) m d = -1 := by simp only [Tm.few]; rw [if_pos hc]
    have HF := Lib.hid hf
    clear hf hsl hin ih
    by_cases h1 : m - 1 < 0
    · clear hc
      go_enter Tryz.func14, Tryz.ntmps14
      go_wp2_with fail
      go_ret
      exact ⟨by rw [HF.out]; rfl, (Below.refl _ _).alloc (Nat.le_refl _) _⟩
    · by_cases h2 : d < 1
      · clear hc
        go_enter Tryz.func14, Tryz.ntmps14
        go_wp2_with fail
        go_ret
        exact ⟨by rw [HF.out]; rfl, (Below.refl _ _).alloc (Nat.le_refl _) _⟩
      · have h3 : 100 < (s.size : Int) := by omega
        clear hc
        go_enter Tryz.func14, Tryz.ntmps14
        go_wp2_with fail
        go_ret
        exact ⟨by rw [HF.out]; rfl, (Below.refl _ _).alloc (Nat.le_refl _) _⟩
  · have hf : Tm.few (.mk k s n l) m d = Tm.fews l (m - 1) (d - 1) := by simp only [Tm.few]; rw [if_neg hc]
    have h1 : 0 ≤ m - 1 := by omega
    have h2 : 1 ≤ d := by omega
    have h3 : (s.size : Int) ≤ 100 := by omega
    have hr : ∀ k, k ≤ l.length → -1 ≤ Tm.fews (l.take k) (m - 1) (d - 1) ∧ Tm.fews (l.take k) (m - 1) (d - 1) ≤ m - 1 := fun k _ =>
      Tm.fews_rng _ (fun t _ m d h => Tm.few_rng t m d h) _ _ (by omega)
    have HF := Lib.hid hf
    have HR := Lib.hid hr
    clear hf hin hc hr
    go_enter Tryz.func14, Tryz.ntmps14
    go_wp2_with fail
    go_loopw [1, 7] (fun q i wr => ∃ k : Nat, k ≤ l.length ∧ i = .int .i64 k ∧ q = .int .i64 (Tm.fews (l.take k) (m - 1) (d - 1)) ∧ Below w.heap.size w wr ∧ w.heap.size < wr.heap.size ∧ wr.cell? ⟨w.heap.size, 3, none⟩ = some (.slice g l.length cap)) (fun _ i _ => l.length - (intOf i).toNat)
    case atStart => exact ⟨0, Nat.zero_le _, rfl, by simp [Tm.fews], (Below.refl _ _).alloc (Nat.le_refl _) _, by simp, by simp⟩
    case round =>
      obtain ⟨k, hk, rfl, rfl, hb, hs, hcc⟩ := hrel
      have hrk := HR.out k hk
      by_cases hlt : k < l.length
      · by_cases hq : 0 ≤ Tm.fews (l.take k) (m - 1) (d - 1)
        · obtain ⟨b, off, sv, rfl, hbB, g0, g1, g2, g3, hin'⟩ := Tm.sliceIn_get (Tm.sliceIn_below hsl hb hB) k hlt
          have hm := Tm.fews_take_succ l k hlt (m - 1) (d - 1) hq
          have hih := ih l[k] (List.getElem_mem hlt) wr B sv (Tm.fews (l.take k) (m - 1) (d - 1)) (d - 1) (by omega) hin' hq (by omega) (by omega) (by omega)
          have HM := Lib.hid hm
          clear hm hsl ih hin'
          go_wp2_with fail
          refine hih.mono ?_
          rintro e w1 ⟨rfl, hb1⟩
          have hcc1 := (hb1.cell (p := ⟨w.heap.size, 3, none⟩) hs).trans hcc
          go_wp2_with fail
          go_roundw
          case rel =>
            refine ⟨k + 1, by omega, by go_num, ?_, hb.trans (hb1.mono (by omega)), by have := hb1.size; omega, hcc1⟩
            rw [HM.out]
          case measure => simp [intOf]; omega
        · have hst := Tm.fews_stop l k (m - 1) (d - 1) (by omega)
          have HS := Lib.hid hst
          clear hst ih hsl
          go_wp2_with fail
          go_ret
          exact ⟨by rw [HF.out, HS.out]; rfl, hb⟩
      · have : k = l.length := by omega
        subst this
        rw [List.take_length] at hrk ⊢
        clear ih hsl
        go_wp2_with fail
        go_ret
        exact ⟨by rw [HF.out]; rfl, hb⟩

end Go.Proofs.YtkjnjahmlobjiaaGreatDoor

namespace Go.Proofs.YtkjnjahmlobjiaaGreatDoor
open Go.RowKit

theorem sames_take_succ {l l' : List Tm} (hl : l.length = l'.length) {k : Nat} (hk : k < l.length) (hp : l.take k = l'.take k) :
    (Tm.same l[k] (l'[k]'(hl ▸ hk)) = true → l.take (k + 1) = l'.take (k + 1)) ∧ (Tm.same l[k] (l'[k]'(hl ▸ hk)) = false → l ≠ l') := by
  constructor
  · intro h
    rw [List.take_succ_eq_append_getElem hk, List.take_succ_eq_append_getElem (hl ▸ hk), hp, (Tm.same_iff _ _).1 h]
  · intro h e
    subst e
    rw [(Tm.same_iff _ _).2 rfl] at h
    cases h

end Go.Proofs.YtkjnjahmlobjiaaGreatDoor

namespace Go.Proofs.YtkjnjahmlobjiaaGreatDoor
open Go.RowKit

theorem nameOk_iff (s : ByteArray) : Tm.nameOk s = true ↔ ∀ j (h : j < s.size), Tm.byteOk s[j] = true := by
  simp only [Tm.nameOk, List.all_eq_true]
  constructor
  · intro h j hj
    exact h _ (List.getElem_mem (l := s.data.toList) (n := j) (by simpa using hj))
  · intro h x hx
    obtain ⟨j, hj, rfl⟩ := List.getElem_of_mem hx
    exact h j (by simpa using hj)
end Go.Proofs.YtkjnjahmlobjiaaGreatDoor

namespace Go.Proofs.YtkjnjahmlobjiaaGreatDoor
open Go.RowKit

end Go.Proofs.YtkjnjahmlobjiaaGreatDoor

namespace Go.Proofs.YtkjnjahmlobjiaaGreatDoor
open Go.RowKit Go.Shelf

attribute [local go_sem] Oper.semAt_some

/-- What a traversal tells of a term: its own fields, how many Args it has, its depth. -/
structure Key where
  k : Int
  s : ByteArray
  n : Int
  m : Nat
  d : Int

mutual
def Tm.nodes : Tm → Int → List Key
  | .mk k s n l, d => ⟨k, s, n, l.length, d⟩ :: Tm.nodesL l (d + 1)
def Tm.nodesL : List Tm → Int → List Key
  | [], _ => []
  | t :: r, d => t.nodes d ++ Tm.nodesL r d
end
theorem nodesL_append (l r : List Tm) (d : Int) : Tm.nodesL (l ++ r) d = Tm.nodesL l d ++ Tm.nodesL r d := by
  induction l with
  | nil => simp [Tm.nodesL]
  | cons t l ih => simp [Tm.nodesL, ih]
theorem nodesL_take_succ (l : List Tm) (i : Nat) (h : i < l.length) (d : Int) : Tm.nodesL (l.take (i + 1)) d = Tm.nodesL (l.take i) d ++ l[i].nodes d := by
  rw [List.take_succ_eq_append_getElem h, nodesL_append]
  simp [Tm.nodesL]
theorem nodesL_length (l : List Tm) (h : ∀ t ∈ l, ∀ d, (t.nodes d).length = t.size) (d : Int) : (Tm.nodesL l d).length = Tm.sizes l := by
  induction l with
  | nil => simp [Tm.nodesL, Tm.sizes]
  | cons t r ih => simp [Tm.nodesL, Tm.sizes, h t (by simp) d, ih (fun u hu => h u (by simp [hu]))]
theorem nodes_length : ∀ (t : Tm) (d : Int), (t.nodes d).length = t.size := Tm.ind fun k s n l ih d => by
  simp [Tm.nodes, Tm.size, nodesL_length l ih]

/-- A term as the loop's body gets it. -/
structure El where
  key : Key
  g : Option Addr
  cap : Nat
  ok : (Lit.int .i64 key.k).wf = true ∧ key.s.size ≤ maxLen ∧ (Lit.int .i64 key.n).wf = true ∧ key.m ≤ 2513169434900 ∧ key.m ≤ cap ∧ 0 ≤ key.d ∧ key.d ≤ 2000000
def El.val (x : El) : Value := .agg #[.int .i64 x.key.k, .string x.key.s, .int .i64 x.key.n, .slice x.g x.key.m x.cap]
def El.encs (x : El) : Array Value := #[.agg #[.int .i64 x.key.k, .string x.key.s, .int .i64 x.key.n, .slice x.g x.key.m x.cap], .int .i64 x.key.d]

theorem zip2 (a b : Tmp) (x y : Value) (ts : Array Value) : Array.foldl (fun t (p : Tmp × Value) => t.setIfInBounds p.1 p.2) ts (#[a, b].zip #[x, y]) = (ts.setIfInBounds a x).setIfInBounds b y := by simp

/-- What a loop's body keeps: what lay ahead of the call, and every box of a term. -/
structure Keep (lo : Nat) (W W' : World) : Prop where
  size : W.heap.size ≤ W'.heap.size
  low : ∀ k, k < lo → W'.heap[k]? = W.heap[k]?
  term : ∀ (k : Nat) (cs : Array Value) (fr : Nat × Nat), W.heap[k]? = some (Obj.cells cs 34 fr) → W'.heap[k]? = some (Obj.cells cs 34 fr)
theorem Keep.refl (lo : Nat) (W : World) : Keep lo W W := ⟨Nat.le_refl _, fun _ _ => rfl, fun _ _ _ h => h⟩
theorem Keep.trans {lo : Nat} {A B C : World} (h : Keep lo A B) (k : Keep lo B C) : Keep lo A C :=
  ⟨Nat.le_trans h.size k.size, fun i hi => (k.low i hi).trans (h.low i hi), fun i cs fr hi => k.term i cs fr (h.term i cs fr hi)⟩
theorem Keep.alloc {lo : Nat} {A B : World} (h : Keep lo A B) (hlo : lo ≤ B.heap.size) (o : Obj) : Keep lo A (B.alloc o) :=
  h.trans ⟨by simp, fun k hk => Below.heap_alloc _ _ _ (by omega), fun k cs fr hk => (Below.heap_alloc _ _ _ (Array.getElem?_eq_some_iff.1 hk).1).trans hk⟩
theorem Keep.of_below {lo : Nat} {A B C : World} (h : Keep lo A B) (hb : Below B.heap.size B C) (hlo : lo ≤ B.heap.size) : Keep lo A C :=
  h.trans ⟨hb.size, fun k hk => hb.block k (by omega), fun k cs fr hk => (hb.block k (Array.getElem?_eq_some_iff.1 hk).1).trans hk⟩
theorem Keep.cell {lo : Nat} {A B : World} (h : Keep lo A B) {a : Addr} (ha : a.block < lo) : B.cell? a = A.cell? a := World.cell?_of_block (h.low _ ha)
theorem Keep.box {lo : Nat} {A B : World} (h : Keep lo A B) {k : Nat} {cs : Array Value} {fr : Nat × Nat} (hk : A.heap[k]? = some (Obj.cells cs 34 fr)) (i : Nat) : B.cell? ⟨k, i, none⟩ = cs[i]? := by
  simp [World.cell?, h.term k cs fr hk]
theorem Keep.inn {lo : Nat} {A B : World} (h : Keep lo A B) {t : Tm} {sv : Value} (hi : Tm.inn A lo t sv) : Tm.inn B lo t sv :=
  Tm.inn_same (Nat.le_refl _) (fun b o _ hb hc => (h.cell (a := ⟨b, o, none⟩) hb).trans hc) t sv hi
theorem Keep.slice {lo : Nat} {A B : World} (h : Keep lo A B) {l : List Tm} {sv : Value} (hi : Tm.sliceIn A lo l sv) : Tm.sliceIn B lo l sv :=
  Tm.sliceIn_same (fun _ _ _ hh => h.inn hh) (Nat.le_refl _) (fun b o _ hb hc => (h.cell (a := ⟨b, o, none⟩) hb).trans hc) hi

theorem room_of_none {F : Fence} (hd : F.depth = none) (k : Nat) : F.room k := fun d h => by rw [hd] at h; cases h
theorem RoundIn.anyDepth {F : Fence} (hd : F.depth = none) {m m' : Nat} {P : Program} {l : Nat} {f : FuncId} {tmps : Array Value} {assign body : Code} {w : World} {R : Ending → World → Prop}
    (h : RoundIn F m P l f tmps assign body w R) : RoundIn F m' P l f tmps assign body w R := ⟨h.1, fun c cs _ => h.2 c cs (room_of_none hd _)⟩
theorem YieldAt.anyDepth {F : Fence} (hd : F.depth = none) {m : Nat} (m' : Nat) {P : Program} {l : Nat} {args : Array Value} {W : World} {R : Ending → World → Prop} (h : YieldAt F m P l args W R) : YieldAt F m' P l args W R := by
  obtain ⟨fn, tmps, assign, body, hy, hR⟩ := h
  exact ⟨fn, tmps, assign, body, hy, RoundIn.anyDepth hd hR⟩

set_option maxRecDepth 100000 in
set_option maxHeartbeats 2000000 in
theorem walk_inw (F : Fence) (hd : F.depth = none) (hF : F.fn 65) (hro : F.round = none) (l lo N : Nat) (J Jx : List El → World → Prop)
    (hJ : ∀ s W W', J s W → W.grownBy W' none → J s W')
    (hY : ∀ m pre x W, J pre W → pre.length < N → YieldAt F m Tryz.prog l x.encs W fun e W' =>
      (e = .returned (.bool true) ∧ J (pre ++ [x]) W' ∧ Keep lo W W') ∨ (e = .returned (.bool false) ∧ Jx (pre ++ [x]) W')) :
    ∀ (t : Tm) (n : Nat) (sv : Value) (d : Int) (pre : List El) (W : World), Tm.inn W lo t sv → lo ≤ W.heap.size → 0 ≤ d → d + t.deep ≤ 2000000 → J pre W → pre.length + t.size ≤ N →
      CallsIn F n Tryz.prog 65 #[.agg #[.int .i64 t.kind, .string t.name, .int .i64 t.n, sv], .int .i64 d, .func (.yield l) #[] #[]] W fun e W' =>
        (e = .returned (.bool true) ∧ ∃ els : List El, els.map El.key = t.nodes d ∧ J (pre ++ els) W' ∧ Keep lo W W') ∨
        (e = .returned (.bool false) ∧ ∃ q : List El, q.map El.key <+: t.nodes d ∧ Jx (pre ++ q) W') := by
  refine Tm.ind fun k s n' args ih n sv d pre W hin hlo hd0 hd1 hJ0 hN => ?_
  have hdd : ∀ k : Nat, (F.depth.isSome = true → 1 ≤ k) := fun k h => by rw [hd] at h; cases h
  obtain ⟨⟨hk, hs, hn⟩, hsl⟩ := Tm.inn_mk.1 hin
  have hsl0 := hsl
  obtain ⟨g, cap, rfl, hcap, hlen, _⟩ := hsl0
  simp only [Tm.kind, Tm.name, Tm.n]
  simp only [Tm.size, Tm.deep] at hN hd1
  refine callsIn_of_wp Tryz.func65 rfl hF ?_ hro
  simp only [Tryz.ntmps65, List.size_toArray, List.length_cons, List.length_nil, Nat.reduceAdd, Nat.reduceSub, Array.replicate_succ, Array.replicate_zero, List.push_toArray, List.append_toArray, List.nil_append, List.cons_append]
  have hY0 := hY (n - 1) pre ⟨⟨k, s, n', args.length, d⟩, g, cap, ⟨hk, hs, hn, hlen, hcap, hd0, by simp only; omega⟩⟩
    (W.alloc (.cells #[.int .i64 k, .string s, .int .i64 n', .slice g args.length cap] 34)) (hJ _ _ _ hJ0 (World.grownBy_alloc W _ none)) (by omega)
  simp only [El.encs] at hY0
  obtain ⟨fn, tmps, assign, body, hy, hR⟩ := hY0
  have HR := Lib.hid hR
  have HY := Lib.hid hY
  have HJ := Lib.hid hJ
  have HI := Lib.hid ih
  have HS := Lib.hid hsl
  clear hR hY hJ ih hsl hin
  gi_wp2_with fail
  refine HR.out.mono ?_
  rintro e W1 (⟨rfl, hJ1, hk1⟩ | ⟨rfl, hx1⟩)
  · have c3 : W1.cell? ⟨W.heap.size, 3, none⟩ = some (.slice g args.length cap) := (hk1.box (World.alloc_heap_new W _) 3).trans rfl
    have hkW : Keep lo W W1 := ((Keep.refl lo W).alloc hlo _).trans hk1
    have HJ1 := Lib.hid hJ1
    clear hk1 hJ1 hy HR
    gi_wp2_with fail
    gi_loopw [17] (fun i wr => ∃ k' : Nat, k' ≤ args.length ∧ i = .int .i64 k' ∧ Hid (∃ els : List El, els.map El.key = ⟨k, s, n', args.length, d⟩ :: Tm.nodesL (args.take k') (d + 1) ∧ J (pre ++ els) wr) ∧ Keep lo W wr) (fun i _ => args.length - (intOf i).toNat)
    case atStart => exact ⟨0, Nat.zero_le _, rfl, ⟨[_], by simp [Tm.nodesL], HJ1.out⟩, hkW⟩
    case round =>
      obtain ⟨k', hk', rfl, hels, hkr⟩ := hrel
      by_cases hlt : k' < args.length
      · obtain ⟨b, off, sv, rfl, hbB, g0, g1, g2, g3, hin'⟩ := Tm.sliceIn_get (hkr.slice HS.out) k' hlt
        obtain ⟨_, g', cap', rfl, _, _, _⟩ := Tm.inn_iff.1 hin'
        obtain ⟨els, he1, he2⟩ := hels.out
        have hm := nodesL_take_succ args k' hlt (d + 1)
        have hdp := Tm.deeps_take_succ args k' hlt
        have hdp2 := Tm.deeps_take_le args (k' + 1)
        have hsz := Tm.sizes_take_succ args k' hlt
        have hsz2 := Tm.sizes_take_le args (k' + 1)
        have hll : els.length = Tm.sizes (args.take k') + 1 := by
          have := congrArg List.length he1
          simpa [nodesL_length (args.take k') (fun t _ d => nodes_length t d)] using this
        have hih := HI.out args[k'] (List.getElem_mem hlt) (n - 1) (.slice g' args[k'].args.length cap') (d + 1) (pre ++ els) (wr.alloc (.cells #[.int .i64 args[k'].kind, .string args[k'].name, .int .i64 args[k'].n, .slice g' args[k'].args.length cap'] 34))
          (((Keep.refl lo wr).alloc (Nat.le_trans hlo hkr.size) _).inn hin') (by have := hkr.size; simp; omega) (by omega) (by omega) (HJ.out _ _ _ he2 (World.grownBy_alloc wr _ none)) (by simp; omega)
        have HIH := Lib.hid hih
        have HM := Lib.hid hm
        have HE := Lib.hid he1
        clear hih hm he1 he2 hels hdp hdp2 hsz hsz2 hll hin' c3
        gi_wp2_with fail
        refine HIH.out.mono ?_
        rintro e W2 (⟨rfl, els2, hq1, hq2, hq3⟩ | ⟨rfl, q, hq1, hq2⟩)
        · have HQ1 := Lib.hid hq1
          have HQ2 := Lib.hid hq2
          have hk2 : Keep lo W W2 := (hkr.alloc (Nat.le_trans hlo hkr.size) _).trans hq3
          clear hq1 hq2 hq3
          gi_wp2_with fail
          go_roundw
          case rel =>
            refine ⟨k' + 1, by omega, by go_num, ⟨els ++ els2, ?_, ?_⟩, hk2⟩
            · rw [HM.out, List.map_append, HE.out, HQ1.out]; simp
            · rw [← List.append_assoc]; exact HQ2.out
          case measure => simp [intOf]; omega
        · have HQ1 := Lib.hid hq1
          have HQ2 := Lib.hid hq2
          clear hq1 hq2
          gi_wp2_with fail
          go_ret
          refine .inr ⟨rfl, els ++ q, ?_, by rw [← List.append_assoc]; exact HQ2.out⟩
          simp only [Tm.nodes]
          rw [List.map_append, HE.out, List.cons_append]
          have h1 : args = args.take (k' + 1) ++ args.drop (k' + 1) := (List.take_append_drop _ _).symm
          rw [h1, nodesL_append, ← h1, HM.out]
          obtain ⟨r, hr⟩ := HQ1.out
          exact ⟨r ++ Tm.nodesL (args.drop (k' + 1)) (d + 1), by rw [← hr]; simp⟩
      · obtain rfl : k' = args.length := by omega
        have hels2 := Lib.hid hels.out
        clear hels
        gi_wp2_with fail
        go_ret
        obtain ⟨els, he1, he2⟩ := hels2.out
        exact .inl ⟨rfl, els, by rw [he1, List.take_length]; simp [Tm.nodes], he2, hkr⟩
  · have HX := Lib.hid hx1
    clear hx1
    gi_wp2_with fail
    go_ret
    exact .inr ⟨rfl, [_], by simp [Tm.nodes], HX.out⟩

set_option maxRecDepth 100000 in
set_option maxHeartbeats 1000000 in
theorem inside1_in (F : Fence) (hd : F.depth = none) (n : Nat) (hF : F.fn 64) (hF2 : F.fn 65) (hro : F.round = none) (l Bt lo : Nat) (t : Tm) (g : Option Addr) (cap : Nat) (J Jx : List El → World → Prop)
    (hJ : ∀ s W W', J s W → W.grownBy W' none → J s W')
    (hY : ∀ pre x W, J pre W → pre.length < t.size → YieldAt F (n - 1) Tryz.prog l x.encs W fun e W' =>
      (e = .returned (.bool true) ∧ J (pre ++ [x]) W' ∧ Keep lo W W') ∨ (e = .returned (.bool false) ∧ Jx (pre ++ [x]) W'))
    (W : World) (hBt : W.heap[Bt]? = some (Obj.cells #[.int .i64 t.kind, .string t.name, .int .i64 t.n, .slice g t.args.length cap] 34 (0, 0))) (hT : Tm.inn W lo t (.slice g t.args.length cap)) (hlo : lo ≤ W.heap.size) (hsz : t.size ≤ 1000000) (h0 : J [] W) :
    CallsIn F n Tryz.prog 64 #[.func (.yield l) #[] #[], .pointer (some ⟨Bt, 0, none⟩)] W fun e W' => (∃ v, e = .returned v) ∧
      ((∃ ys : List El, ys.map El.key = t.nodes 1 ∧ J ys W') ∨ (∃ pre : List El, pre.map El.key <+: t.nodes 1 ∧ Jx pre W')) := by
  have hdd : ∀ k : Nat, (F.depth.isSome = true → 1 ≤ k) := fun k h => by rw [hd] at h; cases h
  have hdp := Tm.deep_le_size t
  have hp := walk_inw F hd hF2 hro l lo t.size J Jx hJ (fun m pre x W hj hl => YieldAt.anyDepth hd m (hY pre x W hj hl)) t (n - 1) _ 1 [] W hT hlo (by omega) (by omega) h0 (by simp)
  have c0 : W.cell? ⟨Bt, 0, none⟩ = some (.int .i64 t.kind) := by simp [World.cell?, hBt]
  have c1 : W.cell? ⟨Bt, 1, none⟩ = some (.string t.name) := by simp [World.cell?, hBt]
  have c2 : W.cell? ⟨Bt, 2, none⟩ = some (.int .i64 t.n) := by simp [World.cell?, hBt]
  have c3 : W.cell? ⟨Bt, 3, none⟩ = some (.slice g t.args.length cap) := by simp [World.cell?, hBt]
  have HP := Lib.hid hp
  clear hp hY hJ hT hBt h0
  refine callsIn_of_wp Tryz.func64 rfl hF ?_ hro
  simp only [Tryz.ntmps64, List.size_toArray, List.length_cons, List.length_nil, Nat.reduceAdd, Nat.reduceSub, Array.replicate_succ, Array.replicate_zero, List.push_toArray, List.append_toArray, List.nil_append, List.cons_append]
  gi_wp2_with fail
  refine HP.out.mono ?_
  rintro e W1 (⟨rfl, els, hq1, hq2, _⟩ | ⟨rfl, q, hq1, hq2⟩)
  · have HQ1 := Lib.hid hq1
    have HQ2 := Lib.hid hq2
    clear hq1 hq2
    gi_wp2_with fail
    go_end0
    exact ⟨⟨_, rfl⟩, .inl ⟨els, HQ1.out, HQ2.out⟩⟩
  · have HQ1 := Lib.hid hq1
    have HQ2 := Lib.hid hq2
    clear hq1 hq2
    gi_wp2_with fail
    go_end0
    exact ⟨⟨_, rfl⟩, .inr ⟨q, HQ1.out, HQ2.out⟩⟩

set_option maxHeartbeats 1000000 in
theorem inside_in (F : Fence) (n : Nat) (hF : F.fn 50) (hro : F.round = none) (k : Int) (s : ByteArray) (m : Int) (g : Option Addr) (len cap : Nat) (w : World) :
    CallsIn F n Tryz.prog 50 #[.agg #[.int .i64 k, .string s, .int .i64 m, .slice g len cap]] w fun e w' =>
      e = .returned (.func (.func 64) #[] #[.pointer (some ⟨w.heap.size, 0, none⟩)]) ∧ w' = w.alloc (.cells #[.int .i64 k, .string s, .int .i64 m, .slice g len cap] 34) := by
  refine callsIn_of_wp Tryz.func50 rfl hF ?_ hro
  simp only [Tryz.ntmps50, List.size_toArray, List.length_cons, List.length_nil, Nat.reduceAdd, Nat.reduceSub, Array.replicate_succ, Array.replicate_zero, List.push_toArray, List.append_toArray, List.nil_append, List.cons_append]
  gi_wp2
  go_ret
  exact ⟨rfl, rfl⟩

/-- The value that 'inside' hands back, as an iterator over the terms in a term. -/
theorem inside_stops (F : Fence) (hd : F.depth = none) (n : Nat) (hF : F.fn 64) (hF2 : F.fn 65) (hro : F.round = none) (Bt lo : Nat) (t : Tm) (g : Option Addr) (cap : Nat) (w : World) (hlo : lo ≤ w.heap.size)
    (hBt : w.heap[Bt]? = some (Obj.cells #[.int .i64 t.kind, .string t.name, .int .i64 t.n, .slice g t.args.length cap] 34 (0, 0))) (hT : Tm.inn w lo t (.slice g t.args.length cap)) (hsz : t.size ≤ 1000000) :
    SeqStopsK F n Tryz.prog 64 #[.pointer (some ⟨Bt, 0, none⟩)] El.encs (Keep lo) (fun ys => ys.map El.key = t.nodes 1) (fun pre => pre.map El.key <+: t.nodes 1) t.size w := fun l J Jx W hW hJ _ hY h0 =>
  inside1_in F hd n hF hF2 hro l Bt lo t g cap J Jx (fun s A B hs hg => hJ s A B none hs hg (fun r e => by cases e)) hY W ((hW.block Bt (Array.getElem?_eq_some_iff.1 hBt).1).trans hBt) (Tm.inn_below hT hW hlo) (Nat.le_trans hlo hW.size) hsz h0

theorem keep_putObj {lo : Nat} {w : World} (hlo : lo ≤ w.heap.size) (W : World) (l : Nat) (o o' : Obj) (hl : w.heap.size ≤ l) (h : W.heap[l]? = some o) (hc : o.isCells = false) (_ : o.isWalk = false) : Keep lo W (W.putObj l o') :=
  ⟨by simp, fun k hk => World.putObj_heap_other (by omega), fun k cs fr hk => (World.putObj_heap_other (fun e => by subst e; rw [hk] at h; cases h; cases hc)).trans hk⟩
end Go.Proofs.YtkjnjahmlobjiaaGreatDoor

namespace Go.Proofs.YtkjnjahmlobjiaaGreatDoor
open Go.RowKit

def nameR (s : ByteArray) : Bool := decide (1 ≤ s.size) && decide (s.size ≤ 20) && Tm.nameOk s
def aloneR (k : Int) (s : ByteArray) (n : Int) (m : Nat) : Bool :=
  if k = 1 then decide (0 ≤ n) && decide (n < 1000000) && decide (s.toList = []) && ((m : Int) == 0)
  else if k = 2 then decide (s.toList = []) && ((m : Int) == 0)
  else if k = 3 then decide (n = 0) && nameR s && decide ((m : Int) ≤ 8)
  else false

set_option maxHeartbeats 400000 in
theorem rightName_any (s : ByteArray) (w : World) : Calls Tryz.prog 66 #[.string s] w fun e w' => e = .returned (.bool (nameR s)) ∧ w' = w := by
  by_cases h0 : s.toList = []
  · have hf : nameR s = false := by simp [nameR, (size0 s).2 h0]
    have HF := Lib.hid hf
    clear hf
    go_enter Tryz.func66, Tryz.ntmps66
    go_wp2_with fail
    go_ret
    exact ⟨by rw [HF.out]; rfl, rfl⟩
  · have hs0 : 1 ≤ s.size := by
      rcases Nat.eq_zero_or_pos s.size with h | h
      · exact absurd ((size0 s).1 h) h0
      · exact h
    by_cases h20 : 20 < s.size
    · have hf : nameR s = false := by simp [nameR]; intro _ h; omega
      have HF := Lib.hid hf
      clear hf
      go_enter Tryz.func66, Tryz.ntmps66
      go_wp2_with fail
      go_ret
      exact ⟨by rw [HF.out]; rfl, rfl⟩
    · have hf : nameR s = Tm.nameOk s := by simp [nameR, hs0]; intro h; omega
      have he : s.toList.isEmpty = false := by simpa using h0
      have HF := Lib.hid hf
      clear hf
      go_enter Tryz.func66, Tryz.ntmps66
      go_wp2_with fail
      go_loop [3, 13] (fun _ i => ∃ k : Nat, k ≤ s.size ∧ i = .int .i64 k ∧ Hid (∀ j (h : j < s.size), j < k → Tm.byteOk s[j] = true)) (fun _ i => s.size - (intOf i).toNat)
      case atStart => exact ⟨0, Nat.zero_le _, rfl, fun j _ h => by omega⟩
      case round =>
        obtain ⟨k, hk, rfl, hp⟩ := hrel
        by_cases hlt : k < s.size
        · by_cases h32 : s[k].toNat < 32
          · have hr : Tm.nameOk s = false := by
              rw [Bool.eq_false_iff]
              intro h
              have := (nameOk_iff s).1 h k hlt
              simp [Tm.byteOk] at this
              omega
            have HR := Lib.hid hr
            clear hr
            go_wp2_with fail
            go_ret
            exact ⟨by rw [HF.out, HR.out]; rfl, rfl⟩
          · by_cases h126 : 126 < s[k].toNat
            · have hr : Tm.nameOk s = false := by
                rw [Bool.eq_false_iff]
                intro h
                have := (nameOk_iff s).1 h k hlt
                simp [Tm.byteOk] at this
                omega
              have HR := Lib.hid hr
              clear hr
              go_wp2_with fail
              go_ret
              exact ⟨by rw [HF.out, HR.out]; rfl, rfl⟩
            · have hr : Tm.byteOk s[k] = true := by simp [Tm.byteOk]; omega
              have HR := Lib.hid hr
              clear hr
              go_wp2_with fail
              go_round
              case rel =>
                refine ⟨k + 1, by omega, by go_num, fun j hj hjk => ?_⟩
                by_cases hjj : j < k
                · exact hp.out j hj hjj
                · obtain rfl : j = k := by omega
                  exact HR.out
              case measure => simp [intOf]; omega
        · have hr : Tm.nameOk s = true := (nameOk_iff s).2 fun j hj => hp.out j hj (by omega)
          have HR := Lib.hid hr
          obtain rfl : k = s.size := by omega
          clear hr hp
          go_wp2_with fail
          go_ret
          exact ⟨by rw [HF.out, HR.out]; rfl, rfl⟩

set_option maxHeartbeats 400000 in
theorem rightAlone_any (k : Int) (s : ByteArray) (n : Int) (g : Option Addr) (m cap : Nat) (w : World) :
    Calls Tryz.prog 51 #[.agg #[.int .i64 k, .string s, .int .i64 n, .slice g m cap]] w fun e w' => e = .returned (.bool (aloneR k s n m)) ∧ Below w.heap.size w w' := by
  have hB := (Below.refl w.heap.size w).alloc (Nat.le_refl _) (.cells #[.int .i64 k, .string s, .int .i64 n, .slice g m cap] 34)
  by_cases hk1 : k = 1
  · subst hk1
    go_enter Tryz.func51, Tryz.ntmps51
    go_wp2_with fail
    all_goals go_ret
    all_goals refine ⟨?_, hB⟩
    all_goals refine ret_bool ?_
    all_goals simp [aloneR, *]
    all_goals omega
  · have hk1b : (k == 1) = false := by simpa using hk1
    by_cases hk2 : k = 2
    · subst hk2
      go_enter Tryz.func51, Tryz.ntmps51
      go_wp2_with fail
      all_goals go_ret
      all_goals refine ⟨?_, hB⟩
      all_goals refine ret_bool ?_
      all_goals simp [aloneR, *]
    · have hk2b : (k == 2) = false := by simpa using hk2
      by_cases hk3 : k = 3
      · subst hk3
        by_cases hn : n = 0
        · subst hn
          go_enter Tryz.func51, Tryz.ntmps51
          go_wp2_with fail
          refine (rightName_any s _).mono ?_
          rintro e w1 ⟨rfl, rfl⟩
          cases hq : nameR s with
          | true =>
            go_wp2_with fail
            go_ret
            refine ⟨?_, hB⟩
            refine ret_bool ?_
            simp [aloneR, *]
          | false =>
            go_wp2_with fail
            go_ret
            refine ⟨?_, hB⟩
            refine ret_bool ?_
            simp [aloneR, *]
        · have hnb : (n == 0) = false := by simpa using hn
          go_enter Tryz.func51, Tryz.ntmps51
          go_wp2_with fail
          go_ret
          refine ⟨?_, hB⟩
          refine ret_bool ?_
          simp [aloneR, *]
      · have hk3b : (k == 3) = false := by simpa using hk3
        go_enter Tryz.func51, Tryz.ntmps51
        go_wp2_with fail
        go_ret
        refine ⟨?_, hB⟩
        refine ret_bool ?_
        simp [aloneR, *]

/-- What 'Same' must give at each pair. -/
def SameAt (t : Tm) : Prop := ∀ (u : Tm) (w : World) (B : Nat) (sv sv' : Value), B ≤ w.heap.size → Tm.inn w B t sv → Tm.inn w B u sv' →
    Calls Tryz.prog 67 #[.agg #[.int .i64 t.kind, .string t.name, .int .i64 t.n, sv], .agg #[.int .i64 u.kind, .string u.name, .int .i64 u.n, sv']] w
      fun e w' => e = .returned (.bool (t.same u)) ∧ Below w.heap.size w w'

set_option maxHeartbeats 800000 in
theorem equalFunc_any (l l' : List Tm) (ih : ∀ t ∈ l, SameAt t) (w : World) (B : Nat) (sv sv' : Value) (hB : B ≤ w.heap.size) (hsl : Tm.sliceIn w B l sv) (hsl' : Tm.sliceIn w B l' sv') :
    Calls Tryz.prog 85 #[sv, sv', .func (.func 67) #[] #[]] w fun e w' => e = .returned (.bool (decide (l = l'))) ∧ Below w.heap.size w w' := by
  have hsl0 := hsl
  have hsl1 := hsl'
  obtain ⟨g, cap, rfl, hcap, hlen, _⟩ := hsl0
  obtain ⟨g', cap', rfl, hcap', hlen', _⟩ := hsl1
  have hsl2 := Lib.hid hsl
  have hsl2' := Lib.hid hsl'
  clear hsl hsl'
  by_cases hl : l.length = l'.length
  · obtain ⟨m, hm1, hm2⟩ : ∃ m, l.length = m ∧ l'.length = m := ⟨_, hl, rfl⟩
    rw [hm1] at hcap hlen ⊢
    rw [hm2] at hcap' hlen' ⊢
    have HL := Lib.hid hm1
    have HM := Lib.hid hm2
    clear hl hm1 hm2
    go_enter Tryz.func85, Tryz.ntmps85
    go_wp2_with fail
    go_loopw [7, 8, 9, 17] (fun _ _ _ i wr => ∃ k : Nat, k ≤ m ∧ i = .int .i64 k ∧ Hid (l.take k = l'.take k) ∧ Below w.heap.size w wr) (fun _ _ _ i _ => m - (intOf i).toNat)
    case atStart => exact ⟨0, Nat.zero_le _, rfl, (by simp [Hid]), Below.refl _ _⟩
    case round =>
      obtain ⟨k, hk, rfl, hp, hb⟩ := hrel
      by_cases hlt : k < m
      · obtain ⟨b, off, sv, rfl, hbB, g0, g1, g2, g3, hin⟩ := Tm.sliceIn_get (Tm.sliceIn_below hsl2.out hb hB) k (by rw [HL.out]; exact hlt)
        obtain ⟨b', off', sv', rfl, hbB', g0', g1', g2', g3', hin'⟩ := Tm.sliceIn_get (Tm.sliceIn_below hsl2'.out hb hB) k (by rw [HM.out]; exact hlt)
        obtain ⟨_, ga, capa, rfl, _, _, _⟩ := Tm.inn_iff.1 hin
        obtain ⟨_, gb, capb, rfl, _, _, _⟩ := Tm.inn_iff.1 hin'
        have hst := Lib.hid (sames_take_succ (l := l) (l' := l') (by rw [HL.out, HM.out]) (k := k) (by rw [HL.out]; exact hlt) hp.out)
        have hih := Lib.hid (ih _ (List.getElem_mem (by rw [HL.out]; exact hlt)) (l'[k]'(by rw [HM.out]; exact hlt)))
        have hin2 := Lib.hid hin
        have hin2' := Lib.hid hin'
        have hbs := hb.size
        have hbw : b < wr.heap.size := by omega
        have hbw' : b' < wr.heap.size := by omega
        clear ih hin hin'
        go_wp2_with fail
        refine (hih.out _ B _ _ (by simp; omega) (Tm.inn_below hin2.out (n₀ := wr.heap.size) (((Below.refl _ _).alloc (Nat.le_refl _) _).alloc (by simp) _) (by omega)) (Tm.inn_below hin2'.out (n₀ := wr.heap.size) (((Below.refl _ _).alloc (Nat.le_refl _) _).alloc (by simp) _) (by omega))).mono ?_
        rintro e w1 ⟨rfl, hb1⟩
        have hb2 : Below wr.heap.size wr w1 := (((Below.refl _ _).alloc (Nat.le_refl _) _).alloc (by simp) _).trans (hb1.mono (by simp; omega))
        clear hb1 hih
        cases hq : Tm.same (l[k]'(by rw [HL.out]; exact hlt)) (l'[k]'(by rw [HM.out]; exact hlt)) with
        | true =>
          have hr := Lib.hid (hst.out.1 hq)
          clear hst hq
          go_wp2_with fail
          go_roundw
          case rel =>
            exact ⟨k + 1, by omega, by go_num, hr, hb.trans (hb2.mono (by omega))⟩
          case measure => simp [intOf]; omega
        | false =>
          have hr := Lib.hid (decide_eq_false (hst.out.2 hq))
          clear hst hq
          go_wp2_with fail
          go_ret
          exact ⟨by rw [hr.out]; rfl, hb.trans (hb2.mono (by omega))⟩
      · have : k = m := by omega
        have hll : l = l' := by
          have := hp.out
          rwa [List.take_of_length_le (by rw [HL.out]; omega), List.take_of_length_le (by rw [HM.out]; omega)] at this
        have hr := Lib.hid (decide_eq_true hll)
        clear ih hll
        subst this
        go_wp2_with fail
        go_ret
        exact ⟨by rw [hr.out]; rfl, hb⟩
  · have hr : decide (l = l') = false := decide_eq_false (fun e => hl (by rw [e]))
    have hr2 := Lib.hid hr
    clear hr ih
    have hl2 : ((l.length : Int) != (l'.length : Int)) = true := by rw [bne_iff_ne]; omega
    go_enter Tryz.func85, Tryz.ntmps85
    go_wp2_with fail
    go_ret
    exact ⟨by rw [hr2.out]; rfl, Below.refl _ _⟩

set_option maxHeartbeats 400000 in
theorem tsame_any : ∀ (t : Tm), SameAt t := by
  refine Tm.ind fun k s n l ih u w B sv sv' hB hin hin' => ?_
  obtain ⟨k', s', n', l'⟩ := u
  obtain ⟨_, hsl⟩ := Tm.inn_mk.1 hin
  obtain ⟨_, hsl'⟩ := Tm.inn_mk.1 hin'
  have hsl0 := hsl
  have hsl1 := hsl'
  obtain ⟨g, cap, rfl, hcap, hlen, _⟩ := hsl0
  obtain ⟨g', cap', rfl, hcap', hlen', _⟩ := hsl1
  simp only [Tm.kind, Tm.name, Tm.n]
  clear hin hin'
  have hf : Tm.same (.mk k s n l) (.mk k' s' n' l') = (decide (k = k') && decide (s = s') && decide (n = n') && decide (l = l')) := by
    rw [Tm.same_eq, Bool.eq_iff_iff]
    simp only [Tm.mk.injEq, decide_eq_true_eq, Bool.and_eq_true]
    constructor
    · rintro ⟨h1, h2, h3, h4⟩; exact ⟨⟨⟨h1, h2⟩, h3⟩, h4⟩
    · rintro ⟨⟨⟨h1, h2⟩, h3⟩, h4⟩; exact ⟨h1, h2, h3, h4⟩
  have hB2 := ((Below.refl w.heap.size w).alloc (Nat.le_refl _) (.cells #[.int .i64 k, .string s, .int .i64 n, .slice g l.length cap] 34)).alloc (by simp) (.cells #[.int .i64 k', .string s', .int .i64 n', .slice g' l'.length cap'] 34)
  have HB2 := Lib.hid hB2
  clear hB2
  by_cases hk : k = k'
  · subst hk
    by_cases hs : s = s'
    · subst hs
      by_cases hn : n = n'
      · subst hn
        rw [hf]
        simp only [decide_true, Bool.true_and]
        clear hf
        have HIH := Lib.hid ih
        have HS := Lib.hid hsl
        have HS' := Lib.hid hsl'
        clear ih hsl hsl'
        go_enter Tryz.func67, Tryz.ntmps67
        go_wp2_with fail
        refine (equalFunc_any l l' HIH.out _ B _ _ (by simp; omega) (Tm.sliceIn_below HS.out HB2.out hB) (Tm.sliceIn_below HS'.out HB2.out hB)).mono ?_
        rintro e w1 ⟨rfl, hb1⟩
        go_wp2_with fail
        go_ret
        exact ⟨rfl, HB2.out.trans (hb1.mono (by simp; omega))⟩
      · have hr : Tm.same (.mk k s n l) (.mk k s n' l') = false := by rw [hf]; simp [hn]
        have hr2 := Lib.hid hr
        clear hr hf ih
        have hl2 : (n == n') = false := by simpa using hn
        go_enter Tryz.func67, Tryz.ntmps67
        go_wp2_with fail
        go_ret
        exact ⟨by rw [hr2.out]; rfl, HB2.out⟩
    · have hr : Tm.same (.mk k s n l) (.mk k s' n' l') = false := by rw [hf]; simp [hs]
      have hr2 := Lib.hid hr
      clear hr hf ih
      have hl2 := neS hs
      have hl3 : (s.toList == s'.toList) = false := by simpa using hl2
      go_enter Tryz.func67, Tryz.ntmps67
      go_wp2_with fail
      go_ret
      exact ⟨by rw [hr2.out]; rfl, HB2.out⟩
  · have hr : Tm.same (.mk k s n l) (.mk k' s' n' l') = false := by rw [hf]; simp [hk]
    have hr2 := Lib.hid hr
    clear hr hf ih
    have hl2 : (k == k') = false := by simpa using hk
    go_enter Tryz.func67, Tryz.ntmps67
    go_wp2_with fail
    go_ret
    exact ⟨by rw [hr2.out]; rfl, HB2.out⟩
end Go.Proofs.YtkjnjahmlobjiaaGreatDoor

namespace Go.Proofs.YtkjnjahmlobjiaaGreatDoor
open Go.RowKit Go.Shelf

attribute [local go_sem] Oper.semAt_some

theorem aloneR_eq (k : Int) (s : ByteArray) (n : Int) (m : Nat) : aloneR k s n m = (Tm.nameOk s && Tm.alone k s n m) := by
  have h0 : s.toList = [] → Tm.nameOk s = true := fun h => by
    rw [ByteArray.toList_eq] at h
    simp [Tm.nameOk, h]
  unfold aloneR Tm.alone nameR
  by_cases h1 : k = 1
  · by_cases hs : s.toList = []
    · simp [h1, h0 hs, hs]
    · simp [h1, hs]
  · by_cases h2 : k = 2
    · by_cases hs : s.toList = []
      · simp [h2, h0 hs, hs]
      · simp [h2, hs]
    · by_cases h3 : k = 3
      · rw [Bool.eq_iff_iff]
        simp [h3]
        constructor
        · rintro ⟨⟨h4, ⟨h5, h6⟩, h7⟩, h8⟩
          exact ⟨h7, ⟨⟨h4, by omega⟩, by omega⟩, by omega⟩
        · rintro ⟨h7, ⟨⟨h4, h5⟩, h6⟩, h8⟩
          exact ⟨⟨h4, ⟨by omega, by omega⟩, h7⟩, by omega⟩
      · simp [h1, h2, h3]

def okKey (x : Key) : Bool := aloneR x.k x.s x.n x.m && decide (x.d ≤ 100)

theorem nodesL_ok (l : List Tm) (h : ∀ t ∈ l, ∀ d : Int, (t.nodes d).all okKey = true ↔ t.fair = true ∧ d + t.deep ≤ 101) (d : Int) :
    (Tm.nodesL l d).all okKey = true ↔ Tm.fairs l = true ∧ (l = [] ∨ d + Tm.deeps l ≤ 101) := by
  induction l with
  | nil => simp [Tm.nodesL, Tm.fairs]
  | cons t r ih =>
    have h1 := h t (by simp) d
    have h2 := ih (fun u hu => h u (by simp [hu]))
    have h3 := t.deep_pos
    simp only [Tm.nodesL, Tm.fairs, Tm.deeps, List.all_append, Bool.and_eq_true, h1, h2]
    cases r with
    | nil =>
      simp [Tm.deeps, Tm.fairs]
    | cons u q =>
      simp
      constructor
      · rintro ⟨⟨h4, h5⟩, h6, h7⟩
        exact ⟨⟨h4, h6⟩, by omega⟩
      · rintro ⟨⟨h4, h6⟩, h7⟩
        exact ⟨⟨h4, by omega⟩, h6, by omega⟩
theorem nodes_ok : ∀ (t : Tm) (d : Int), (t.nodes d).all okKey = true ↔ t.fair = true ∧ d + t.deep ≤ 101 := Tm.ind fun k s n l ih d => by
  have h1 := nodesL_ok l ih (d + 1)
  simp only [Tm.nodes, Tm.fair, Tm.deep, List.all_cons, Bool.and_eq_true, h1, okKey, aloneR_eq, decide_eq_true_eq]
  cases l with
  | nil =>
    simp [Tm.deeps, Tm.fairs]
    omega
  | cons u q =>
    simp
    constructor
    · rintro ⟨⟨⟨h4, h5⟩, h6⟩, h7, h8⟩
      exact ⟨⟨⟨h4, h7⟩, h5⟩, by omega⟩
    · rintro ⟨⟨⟨h4, h7⟩, h5⟩, h8⟩
      exact ⟨⟨⟨h4, h5⟩, by omega⟩, h7, by omega⟩
theorem right_iff (t : Tm) : t.right = true ↔ (t.nodes 1).all okKey = true ∧ (t.nodes 1).length ≤ 3000 := by
  rw [nodes_ok, nodes_length]
  simp only [Tm.right, Bool.and_eq_true, decide_eq_true_eq]
  constructor
  · rintro ⟨⟨h1, h2⟩, h3⟩
    exact ⟨⟨h1, by omega⟩, h2⟩
  · rintro ⟨⟨h1, h3⟩, h2⟩
    exact ⟨⟨h1, h2⟩, by omega⟩

/-- A store into a variable's box keeps every box of a term. -/
theorem keep_set {lo : Nat} {W : World} {B : Nat} {t : TypeId} {v : Value} (hb : Boxed W B t v) (ht : t ≠ 34) (hlo : lo ≤ B) (u : Value) : Keep lo W (W.setCell ⟨B, 0, none⟩ u) :=
  ⟨by simp [World.setCell], fun k hk => Below.heap_setCell _ _ _ _ (by show k ≠ B; omega), fun k cs fr hk => (Below.heap_setCell _ _ _ _ (fun e => by
    simp only at e
    subst e
    unfold Boxed at hb
    rw [hb] at hk
    simp at hk
    exact ht hk.2.1)).trans hk⟩

set_option maxRecDepth 100000 in
set_option maxHeartbeats 2000000 in
theorem tright_any (t : Tm) (w : World) (sv : Value) (hin : Tm.inn w w.heap.size t sv) (hsz : t.size ≤ 1000000) :
    Calls Tryz.prog 35 #[.agg #[.int .i64 t.kind, .string t.name, .int .i64 t.n, sv]] w fun e w' => e = .returned (.bool t.right) ∧ Below w.heap.size w w' := by
  refine (callsIn_wide (n := 9)).1 ?_
  obtain ⟨_, g, cap, rfl, hcap, hlen, _⟩ := Tm.inn_iff.1 hin
  have HIN := Lib.hid hin
  clear hin
  refine callsIn_of_wp_marks Tryz.func35 rfl trivial ?_ rfl
  simp only [Tryz.ntmps35, List.size_toArray, List.length_cons, List.length_nil, Nat.reduceAdd, Nat.reduceSub, Array.replicate_succ, Array.replicate_zero, List.push_toArray, List.append_toArray, List.nil_append, List.cons_append]
  gi_wp2_with fail
  refine ⟨trivial, ?_⟩
  refine (inside_in Fence.wide 8 trivial rfl _ _ _ _ _ _ _).mono ?_
  rintro e w' ⟨rfl, rfl⟩
  gi_wp2_with fail
  obtain ⟨b0, hb0⟩ : ∃ b0, Obj.cells #[.int .i64 t.kind, .string t.name, .int .i64 t.n, .slice g t.args.length cap] 34 (0, 0) = b0 := ⟨_, rfl⟩
  rw [hb0]
  have bR := ((Boxed.new (w.alloc b0) 4 (.bool false)).alloc (.cells #[.int .i64 0] 3)).alloc b0
  have bN := (Boxed.new ((w.alloc b0).alloc (.cells #[.bool false] 4)) 3 (.int .i64 0)).alloc b0
  have bT := World.alloc_heap_new (((w.alloc b0).alloc (.cells #[.bool false] 4)).alloc (.cells #[.int .i64 0] 3)) b0
  have hB0 : Below w.heap.size w ((((w.alloc b0).alloc (.cells #[.bool false] 4)).alloc (.cells #[.int .i64 0] 3)).alloc b0) := ((((Below.refl _ w).alloc (Nat.le_refl _) _).alloc (by simp) _).alloc (by simp; omega) _).alloc (by simp; omega) _
  have hsz0 : ((((w.alloc b0).alloc (.cells #[.bool false] 4)).alloc (.cells #[.int .i64 0] 3)).alloc b0).heap.size = w.heap.size + 4 := by simp
  simp only [World.size_alloc] at bR bN bT
  obtain ⟨W0, hW0⟩ : ∃ W0, ((((w.alloc b0).alloc (.cells #[.bool false] 4)).alloc (.cells #[.int .i64 0] 3)).alloc b0) = W0 := ⟨_, rfl⟩
  rw [hW0] at bR bN bT hB0 hsz0 ⊢
  clear hW0
  subst hb0
  have hin0 := Tm.inn_below HIN.out hB0 (Nat.le_refl _)
  refine wpIn_rangeFunc_ownH rfl (by omega) (gf := 64) (lb := #[.pointer (some ⟨w.heap.size + 1 + 1 + 1, 0, none⟩)]) rfl trivial (enters_of Tryz.func64 (by kernel_rfl) rfl)
    (inside_stops Fence.wide rfl (9 - 1) trivial trivial rfl (w.heap.size + 1 + 1 + 1) w.heap.size t g cap W0 (by omega) bT hin0 hsz) Keep.trans (keep_putObj (by omega)) (Below.refl _ _) (fun _ => rfl)
    (fun pre W => ((Boxed W (w.heap.size + 1) 4 (.bool false) ∧ Boxed W (w.heap.size + 1 + 1) 3 (.int .i64 pre.length)) ∧ ((∀ x ∈ pre, okKey x.key = true) ∧ pre.length ≤ 3000)) ∧ Below w.heap.size w W)
    (fun c pre W => (Boxed W (w.heap.size + 1) 4 (.bool false) ∧ (c = .ret ∧ (3000 < pre.length ∨ ∃ x ∈ pre, okKey x.key = false))) ∧ Below w.heap.size w W)
    (OwnFrom.and (OwnFrom.and (OwnFrom.and (Own.from (boxed_own _ _ _) _) (Own.from (boxed_own _ _ _) _)) (ownFrom_pure _ _)) (ownFrom_below (Nat.le_refl _) (by omega)))
    (fun c => OwnFrom.and (OwnFrom.and (Own.from (boxed_own _ _ _) _) (ownFrom_pure _ _)) (ownFrom_below (Nat.le_refl _) (by omega)))
    ⟨⟨⟨bR, bN⟩, by simp, by simp⟩, hB0⟩
    (fun x a' W => ∃ Bx, w.heap.size + 1 + 1 < Bx ∧ W.heap[Bx]? = some (Obj.cells #[.int .i64 x.key.k, .string x.key.s, .int .i64 x.key.n, .slice x.g x.key.m x.cap] 34 (0, 0)) ∧
      a' = { tmps := #[.agg #[.int .i64 t.kind, .string t.name, .int .i64 t.n, .slice g t.args.length cap], .pointer (some ⟨w.heap.size, 0, none⟩), .pointer (some ⟨w.heap.size + 1, 0, none⟩), .pointer (some ⟨w.heap.size + 1 + 1, 0, none⟩),
      .pointer (some ⟨Bx, 0, none⟩), .int .i64 x.key.d, .agg #[.int .i64 t.kind, .string t.name, .int .i64 t.n, .slice g t.args.length cap], .func (.func 64) #[] #[.pointer (some ⟨w.heap.size + 1 + 1 + 1, 0, none⟩)],
      .agg #[.int .i64 x.key.k, .string x.key.s, .int .i64 x.key.n, .slice x.g x.key.m x.cap], .int .i64 x.key.d, undef, undef, undef, undef, undef, undef, undef, undef, undef, undef, undef, undef, undef], defers := [] })
    (fun x a' => Own.from (fun _ X Y row hs hg hrow => by obtain ⟨Bx, h1, h2, h3⟩ := hs; exact ⟨Bx, h1, (grownBy_keeps_cells hg hrow h2 rfl).trans h2, h3⟩) _)
    ?assign ?body ?done ?stop
  case assign =>
    rintro l pre x W K ⟨⟨⟨bR, bN⟩, hp⟩, hb⟩ hK
    simp only [El.encs]
    rw [zip2]
    gi_wp2
    exact hK _ _ ((KeepsOthers.alloc _ _).from _) ((Keep.refl _ _).alloc hb.size _) ⟨⟨⟨bR.alloc _, bN.alloc _⟩, hp⟩, hb.alloc hb.size _⟩ ⟨W.heap.size, by have := bN.lt; omega, World.alloc_heap_new W _, rfl⟩
  case body =>
    rintro l pre x a' W hl _ ⟨⟨⟨bR, bN⟩, hp1, hp2⟩, hb⟩ ⟨Bx, hBx, hX, rfl⟩ hlen2
    have c0 : W.cell? ⟨Bx, 0, none⟩ = some (.int .i64 x.key.k) := by simp [World.cell?, hX]
    have c1 : W.cell? ⟨Bx, 1, none⟩ = some (.string x.key.s) := by simp [World.cell?, hX]
    have c2 : W.cell? ⟨Bx, 2, none⟩ = some (.int .i64 x.key.n) := by simp [World.cell?, hX]
    have c3 : W.cell? ⟨Bx, 3, none⟩ = some (.slice x.g x.key.m x.cap) := by simp [World.cell?, hX]
    have cN := bN.cell
    have fN := bN.frozen
    have cR := bR.cell
    have fR := bR.frozen
    have BN := Lib.hid bN
    have BR := Lib.hid bR
    have hk1 : Keep w.heap.size W (W.setCell ⟨w.heap.size + 1 + 1, 0, none⟩ (.int .i64 ((pre.length : Int) + 1))) := keep_set bN (by decide) (by omega) _
    have hb1 := hb.setCell (p := ⟨w.heap.size + 1 + 1, 0, none⟩) (show w.heap.size ≤ w.heap.size + 1 + 1 by omega) (.int .i64 ((pre.length : Int) + 1))
    have bN1 : Boxed (W.setCell ⟨w.heap.size + 1 + 1, 0, none⟩ (.int .i64 ((pre.length : Int) + 1))) (w.heap.size + 1 + 1) 3 (.int .i64 ((pre ++ [x]).length : Nat)) := by
      simpa using bN.set (.int .i64 ((pre.length : Int) + 1))
    have bR1 : Boxed (W.setCell ⟨w.heap.size + 1 + 1, 0, none⟩ (.int .i64 ((pre.length : Int) + 1))) (w.heap.size + 1) 4 (.bool false) := bR.other (by omega) _
    have HK1 := Lib.hid hk1
    have HB1 := Lib.hid hb1
    have BN1 := Lib.hid bN1
    have BR1 := Lib.hid bR1
    have HP1 := Lib.hid hp1
    have hne : ¬ Bx = w.heap.size + 1 + 1 := by omega
    have hne' : ¬ w.heap.size + 1 + 1 = Bx := by omega
    clear hk1 hb1 bN1 bR1 bN bR hX hp1
    by_cases p1 : 3000 < pre.length + 1
    · gi_wp2
      refine ⟨trivial, ?_⟩
      gi_wp2
      exact ⟨((KeepsOthers.setCell _ _ _).trans (KeepsOthers.setCell _ _ _)).from _, ⟨BR1.out.set _, rfl, .inl (by simp; omega)⟩, HB1.out.setCell (p := ⟨w.heap.size + 1, 0, none⟩) (by simp) _⟩
    · have p1' : (pre.length : Int) + 1 ≤ 3000 := by omega
      by_cases p2 : 100 < x.key.d
      · have hf : okKey x.key = false := by simp [okKey]; intro _; omega
        have HF := Lib.hid hf
        clear hf
        gi_wp2
        refine ⟨trivial, ?_⟩
        gi_wp2
        exact ⟨((KeepsOthers.setCell _ _ _).trans (KeepsOthers.setCell _ _ _)).from _, ⟨BR1.out.set _, rfl, .inr ⟨x, by simp, HF.out⟩⟩, HB1.out.setCell (p := ⟨w.heap.size + 1, 0, none⟩) (by simp) _⟩
      · gi_wp2
        refine ⟨trivial, ?_⟩
        refine (CallsIn.inRound l (callsIn_wide.2 (rightAlone_any _ _ _ _ _ _ _))).mono ?_
        rintro e W2 ⟨rfl, hb2⟩
        have HB2 := Lib.hid hb2
        have hlt1 : w.heap.size + 1 < (W.setCell ⟨w.heap.size + 1 + 1, 0, none⟩ (.int .i64 ((pre.length : Int) + 1))).heap.size := BR1.out.lt
        have bR2 : Boxed W2 (w.heap.size + 1) 4 (.bool false) := (hb2.block _ hlt1).trans BR1.out
        have bN2 : Boxed W2 (w.heap.size + 1 + 1) 3 (.int .i64 ((pre ++ [x]).length : Nat)) := (hb2.block _ BN1.out.lt).trans BN1.out
        have cR2 := bR2.cell
        have fR2 := bR2.frozen
        have hlo2 : w.heap.size ≤ (W.setCell ⟨w.heap.size + 1 + 1, 0, none⟩ (.int .i64 ((pre.length : Int) + 1))).heap.size := by omega
        have BR2 := Lib.hid bR2
        have BN2 := Lib.hid bN2
        have HK2 := Lib.hid (HK1.out.of_below hb2 hlo2)
        have HBB := Lib.hid (HB1.out.trans (hb2.mono hlo2))
        have HKF : Hid (KeepsFrom W0.heap.size W W2) := ⟨Nat.le_trans (by simp [World.setCell]) hb2.size, fun k o _ hk ho => (hb2.block k (by have := (Array.getElem?_eq_some_iff.1 hk).1; simpa [World.setCell] using this)).trans ((KeepsOthers.setCell W ⟨w.heap.size + 1 + 1, 0, none⟩ _).same k o hk ho)⟩
        clear hb2 bR2 bN2 hlo2 hlt1 cR fR cN fN c0 c1 c2 c3
        cases hq : aloneR x.key.k x.key.s x.key.n x.key.m with
        | false =>
          have hf : okKey x.key = false := by simp [okKey, hq]
          have HF := Lib.hid hf
          clear hf hq
          gi_wp2
          exact ⟨HKF.out.trans ((KeepsOthers.setCell _ _ _).from _), ⟨BR2.out.set _, rfl, .inr ⟨x, by simp, HF.out⟩⟩, HBB.out.setCell (p := ⟨w.heap.size + 1, 0, none⟩) (by simp) _⟩
        | true =>
          have hf : okKey x.key = true := by simp [okKey, hq]; omega
          have HF := Lib.hid hf
          clear hf hq
          gi_wp2
          refine ⟨HKF.out, HK2.out, ⟨⟨BR2.out, BN2.out⟩, fun y hy => ?_, by simp; omega⟩, HBB.out⟩
          rcases List.mem_append.1 hy with hy | hy
          · exact HP1.out y hy
          · obtain rfl : y = x := by simpa using hy
            exact HF.out
  case done =>
    rintro D ys W hD hS ⟨⟨⟨bR, bN⟩, hp1, hp2⟩, hb⟩ hK
    have hr : t.right = true := (right_iff t).2 ⟨by
      rw [← hS, List.all_eq_true]
      intro k hk
      obtain ⟨x, hx, rfl⟩ := List.mem_map.1 hk
      exact hp1 x hx, by rw [← hS]; simpa using hp2⟩
    have HR := Lib.hid hr
    have cR := bR.cell
    have fR := bR.frozen
    have BR := Lib.hid bR
    clear hr bR bN hS hp1
    gi_wp2
    have hK' := (KeepsOthers.setCell W ⟨w.heap.size + 1, 0, none⟩ (.bool true)).same D _ hK rfl
    refine ⟨by simp, .inl ⟨_, _, rfl, run_takeDeferred hK', ?_⟩⟩
    have hc5 := cell_kept ((BR.out.set (.bool true)).cell) (grownBy_putObj' _ D (.deferred none)) (fun r e => by cases e; exact ⟨_, hK', rfl⟩)
    refine ⟨.bool true, ?_, by rw [HR.out], (hb.setCell (p := ⟨w.heap.size + 1, 0, none⟩) (by simp) _).trans (belowK_b (w := w) (Nat.le_refl _) _ D _ _ (by omega) hK' rfl rfl)⟩
    simp [results, Tryz.f35, go_sem, hc5]
  case stop =>
    rintro D c pre W hD hpre ⟨⟨bR, rfl, hbad⟩, hb⟩ hK
    have hr : t.right = false := by
      rw [Bool.eq_false_iff]
      intro h
      obtain ⟨h1, h2⟩ := (right_iff t).1 h
      rcases hbad with h3 | ⟨x, hx, hx2⟩
      · have := hpre.length_le
        simp at this
        omega
      · have := List.all_eq_true.1 h1 x.key (hpre.subset (List.mem_map_of_mem hx))
        rw [hx2] at this
        cases this
    have HR := Lib.hid hr
    have BR := Lib.hid bR
    clear hr bR hbad hpre
    gi_wp2
    refine ⟨by simp, .inl ⟨_, _, rfl, run_takeDeferred hK, ?_⟩⟩
    have hc5 := cell_kept BR.out.cell (grownBy_putObj' _ D (.deferred none)) (fun r e => by cases e; exact ⟨_, hK, rfl⟩)
    refine ⟨.bool false, ?_, by rw [HR.out], hb.trans (belowK_b (w := w) (Nat.le_refl _) W D _ _ (by omega) hK rfl rfl)⟩
    simp [results, Tryz.f35, go_sem, hc5]
end Go.Proofs.YtkjnjahmlobjiaaGreatDoor
