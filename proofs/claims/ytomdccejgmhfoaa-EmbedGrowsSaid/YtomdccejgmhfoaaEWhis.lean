/-
  The program's Whistle: the last one of many terms that is embedded in one; and how slices.Backward hands them on.
-/
import Derived.Test.YtomdccejgmhfoaaEIn
import Derived.Test.YtomdccejgmhfoaaIter
namespace Go.Proofs.Ytomdccejgmhfoaa
open Go.RowKit Go.Shelf

attribute [local go_sem] Oper.semAt_some

/-- A term as the loop's body gets it, with its place. -/
structure BE (w0 : World) where
  i : Nat
  t : Tm
  g : Option Addr
  cap : Nat
  ok : Tm.inn w0 w0.heap.size t (.slice g t.args.length cap)
  sz : t.size ≤ 1000000
  lt : i < 1000000000000
def BE.encs {w0 : World} (x : BE w0) : Array Value := #[.int .i64 (x.i : Nat), .agg #[.int .i64 x.t.kind, .string x.t.name, .int .i64 x.t.n, .slice x.g x.t.args.length x.cap]]
def BE.key {w0 : World} (x : BE w0) : Tm × Nat := (x.t, x.i)
/-- The terms with their places, from the last on. -/
def backs (ts : List Tm) : List (Tm × Nat) := ts.zipIdx.reverse
theorem backs_length (ts : List Tm) : (backs ts).length = ts.length := by simp [backs]
theorem backs_get (ts : List Tm) (i : Nat) (h : i < ts.length) : (backs ts)[ts.length - 1 - i]? = some (ts[i], i) := by
  unfold backs
  rw [List.getElem?_reverse (by simp; omega)]
  simp only [List.length_zipIdx]
  rw [show ts.length - 1 - (ts.length - 1 - i) = i by omega]
  simp [h]
theorem backs_take (ts : List Tm) (i : Nat) (h : i < ts.length) : (backs ts).take (ts.length - i) = (backs ts).take (ts.length - 1 - i) ++ [(ts[i], i)] := by
  have h1 := backs_get ts i h
  obtain ⟨h2, h3⟩ := List.getElem?_eq_some_iff.1 h1
  rw [show ts.length - i = (ts.length - 1 - i) + 1 by omega, List.take_succ_eq_append_getElem h2, h3]
/-- What a loop's body keeps: what lay ahead of the call, and every box of a row of terms. -/
structure BKp (lo : Nat) (W W' : World) : Prop where
  size : W.heap.size ≤ W'.heap.size
  low : ∀ k, k < lo → W'.heap[k]? = W.heap[k]?
  row : ∀ (k : Nat) (cs : Array Value) (fr : Nat × Nat), W.heap[k]? = some (Obj.cells cs 25 fr) → W'.heap[k]? = some (Obj.cells cs 25 fr)
theorem BKp.refl (lo : Nat) (W : World) : BKp lo W W := ⟨Nat.le_refl _, fun _ _ => rfl, fun _ _ _ h => h⟩
theorem BKp.trans {lo : Nat} {A B C : World} (h : BKp lo A B) (k : BKp lo B C) : BKp lo A C :=
  ⟨Nat.le_trans h.size k.size, fun i hi => (k.low i hi).trans (h.low i hi), fun i cs fr hi => k.row i cs fr (h.row i cs fr hi)⟩
theorem BKp.of_below {lo : Nat} {A B C : World} (h : BKp lo A B) (hb : Below B.heap.size B C) (hlo : lo ≤ B.heap.size) : BKp lo A C :=
  h.trans ⟨hb.size, fun k hk => hb.block k (by omega), fun k cs fr hk => (hb.block k (Array.getElem?_eq_some_iff.1 hk).1).trans hk⟩
theorem BKp.alloc {lo : Nat} {A B : World} (h : BKp lo A B) (hlo : lo ≤ B.heap.size) (o : Obj) : BKp lo A (B.alloc o) := h.of_below ((Below.refl _ _).alloc (Nat.le_refl _) o) hlo
theorem BKp.slice {lo : Nat} {A B : World} (h : BKp lo A B) {l : List Tm} {sv : Value} (hi : Tm.sliceIn A lo l sv) : Tm.sliceIn B lo l sv :=
  Tm.sliceIn_same (fun _ _ _hh hi => Tm.inn_same (Nat.le_refl _) (fun b o _ hb hc => (World.cell?_of_block (a := ⟨b, o, none⟩) (h.low b hb)).trans hc) _ _ hi) (Nat.le_refl _) (fun b o _ hb hc => (World.cell?_of_block (a := ⟨b, o, none⟩) (h.low b hb)).trans hc) hi

set_option maxRecDepth 100000 in
set_option maxHeartbeats 2000000 in
theorem back_in (F : Fence) (hd : F.depth = none) (n : Nat) (hF : F.fn 81) (hro : F.round = none) (l Bs : Nat) (ts : List Tm) (g : Option Addr) (cap : Nat) (w0 : World) (J Jx : List (BE w0) → World → Prop)
    (hY : ∀ pre x W, J pre W → pre.length < ts.length → YieldAt F (n - 1) Try.prog l x.encs W fun e W' =>
      (e = .returned (.bool true) ∧ J (pre ++ [x]) W' ∧ BKp w0.heap.size W W') ∨ (e = .returned (.bool false) ∧ Jx (pre ++ [x]) W'))
    (hin : Tm.sliceIn w0 w0.heap.size ts (.slice g ts.length cap)) (hts : ∀ t ∈ ts, t.size ≤ 1000000) (hlen : ts.length ≤ 1000000)
    (W : World) (hBs : W.heap[Bs]? = some (Obj.cells #[.slice g ts.length cap] 25 (0, 0))) (hW : Below w0.heap.size w0 W) (h0 : J [] W) :
    CallsIn F n Try.prog 81 #[.func (.yield l) #[] #[], .pointer (some ⟨Bs, 0, none⟩)] W fun e W' => (∃ v, e = .returned v) ∧
      ((∃ ys : List (BE w0), ys.map BE.key = backs ts ∧ J ys W') ∨ (∃ pre : List (BE w0), pre.map BE.key <+: backs ts ∧ Jx pre W')) := by
  have hdd : ∀ k : Nat, (F.depth.isSome = true → 1 ≤ k) := fun k h => by rw [hd] at h; cases h
  have c0 : W.cell? ⟨Bs, 0, none⟩ = some (.slice g ts.length cap) := by simp [World.cell?, hBs]
  have HBS := Lib.hid hBs
  have HY := Lib.hid hY
  have HIN := Lib.hid hin
  have HTS := Lib.hid hts
  have HW := Lib.hid hW
  have H0 := Lib.hid h0
  clear hY hin hts hW h0 hBs
  refine callsIn_of_wp Try.func81 rfl hF ?_ hro
  simp only [Try.ntmps81, List.size_toArray, List.length_cons, List.length_nil, Nat.reduceAdd, Nat.reduceSub, Array.replicate_succ, Array.replicate_zero, List.push_toArray, List.append_toArray, List.nil_append, List.cons_append]
  gi_wp2_with fail
  gi_loopw [3] (fun s wr => ∃ k : Nat, k ≤ ts.length ∧ s = .int .i64 ((k : Int) - 1) ∧ Hid (∃ els : List (BE w0), els.map BE.key = (backs ts).take (ts.length - k) ∧ J els wr ∧ BKp w0.heap.size W wr)) (fun s _ => (intOf s + 1).toNat)
  case atStart => exact ⟨ts.length, Nat.le_refl _, rfl, Lib.hid ⟨[], by simp, H0.out, BKp.refl _ _⟩⟩
  case round =>
    obtain ⟨wz, rfl⟩ : ∃ x, x = wr := ⟨_, rfl⟩
    obtain ⟨k, hk, rfl, hgl⟩ := hrel
    obtain ⟨els, he, hJ0, hkp⟩ := hgl.out
    have HE := Lib.hid he
    have HJ0 := Lib.hid hJ0
    have HKP := Lib.hid hkp
    clear hgl he hJ0 c0
    have hlow : ∀ b, b < w0.heap.size → wz.heap[b]? = w0.heap[b]? := fun b hb => (hkp.low b hb).trans (HW.out.block b hb)
    have hbs := hkp.row _ _ _ HBS.out
    have c0 : wz.cell? ⟨Bs, 0, none⟩ = some (.slice g ts.length cap) := by simp [World.cell?, hbs]
    cases k with
    | zero =>
      have e0 : (((0 : Nat) : Int) - 1) = -1 := rfl
      rw [e0]
      clear e0 hkp hlow hbs
      gi_wp2_with fail
      go_end0
      refine ⟨⟨_, rfl⟩, .inl ⟨els, ?_, HJ0.out⟩⟩
      rw [HE.out]
      exact List.take_of_length_le (by rw [backs_length]; omega)
    | succ i =>
      have e0 : (((i + 1 : Nat) : Int) - 1) = (i : Int) := by omega
      rw [e0]
      have hi : i < ts.length := by omega
      obtain ⟨b, off, sv, rfl, hbB, g0, g1, g2, g3, hin'⟩ := Tm.sliceIn_get HIN.out i hi
      obtain ⟨g', cap', rfl⟩ := inn_sl7 hin'
      have z0 : wz.cell? ⟨b, off + i * 4, none⟩ = _ := (World.cell?_of_block (a := ⟨b, off + i * 4, none⟩) (hlow b hbB)).trans g0
      have z1 : wz.cell? ⟨b, off + i * 4 + 1, none⟩ = _ := (World.cell?_of_block (a := ⟨b, off + i * 4 + 1, none⟩) (hlow b hbB)).trans g1
      have z2 : wz.cell? ⟨b, off + i * 4 + 2, none⟩ = _ := (World.cell?_of_block (a := ⟨b, off + i * 4 + 2, none⟩) (hlow b hbB)).trans g2
      have z3 : wz.cell? ⟨b, off + i * 4 + 3, none⟩ = _ := (World.cell?_of_block (a := ⟨b, off + i * 4 + 3, none⟩) (hlow b hbB)).trans g3
      have hlel : els.length < ts.length := by
        have h1 := congrArg List.length HE.out
        simp [backs_length] at h1
        omega
      have hY0 := HY.out els ⟨i, ts[i], g', cap', hin', HTS.out _ (List.getElem_mem hi), by omega⟩ wz HJ0.out hlel
      simp only [BE.encs] at hY0
      have hmem : (⟨i, ts[i], g', cap', hin', HTS.out _ (List.getElem_mem hi), by omega⟩ : BE w0).key = (ts[i], i) := rfl
      obtain ⟨x, hx⟩ : ∃ x : BE w0, (⟨i, ts[i], g', cap', hin', HTS.out _ (List.getElem_mem hi), by omega⟩ : BE w0) = x := ⟨_, rfl⟩
      rw [hx] at hY0 hmem
      have htk := backs_take ts i hi
      obtain ⟨t, ht⟩ : ∃ t, ts[i] = t := ⟨_, rfl⟩
      rw [ht] at z0 z1 z2 z3 hmem hY0 htk
      have HMEM := Lib.hid hmem
      have HTK := Lib.hid htk
      obtain ⟨fn, tmps, assign, body, hy, hR⟩ := hY0
      have HR := Lib.hid hR
      clear hR e0 hkp hlow hbs g0 g1 g2 g3 hin' hx ht hmem htk
      gi_wp2_with fail
      refine HR.out.mono ?_
      rintro e W1 (⟨rfl, hJ1, hk1⟩ | ⟨rfl, hx1⟩)
      · have HREL : Hid (∃ els : List (BE w0), els.map BE.key = (backs ts).take (ts.length - i) ∧ J els W1 ∧ BKp w0.heap.size W W1) := Lib.hid ⟨els ++ [x], by rw [List.map_append, HE.out, HTK.out, show ts.length - (i + 1) = ts.length - 1 - i by omega]; simp [HMEM.out], hJ1, HKP.out.trans hk1⟩
        clear hJ1 hk1 hy HR
        gi_wp2_with fail
        go_roundw
        case rel => exact ⟨i, by omega, rfl, HREL⟩
        case measure => simp [intOf]
      · have HX := Lib.hid hx1
        clear hx1 hy HR
        gi_wp2_with fail
        (try simp only [Exit.inBlock, Exit.then])
        refine bodyPost_ret (results_none rfl _ _ _) rfl ?_
        refine ⟨⟨_, rfl⟩, .inr ⟨els ++ [x], ?_, HX.out⟩⟩
        rw [List.map_append, HE.out, show ts.length - (i + 1) = ts.length - 1 - i by omega]
        have h1 : (backs ts).take (ts.length - 1 - i) ++ List.map BE.key [x] = (backs ts).take (ts.length - i) := by rw [HTK.out]; simp [HMEM.out]
        rw [h1]
        exact List.take_prefix _ _
theorem back_stops (F : Fence) (hd : F.depth = none) (n : Nat) (hF : F.fn 81) (hro : F.round = none) (Bs : Nat) (ts : List Tm) (g : Option Addr) (cap : Nat) (w0 w : World) (hb : Below w0.heap.size w0 w)
    (hBs : w.heap[Bs]? = some (Obj.cells #[.slice g ts.length cap] 25 (0, 0))) (hin : Tm.sliceIn w0 w0.heap.size ts (.slice g ts.length cap)) (hts : ∀ t ∈ ts, t.size ≤ 1000000) (hlen : ts.length ≤ 1000000) :
    SeqStopsK F n Try.prog 81 #[.pointer (some ⟨Bs, 0, none⟩)] (BE.encs (w0 := w0)) (BKp w0.heap.size) (fun ys => ys.map BE.key = backs ts) (fun pre => pre.map BE.key <+: backs ts) ts.length w := fun l J Jx W hW _ _ hY h0 =>
  back_in F hd n hF hro l Bs ts g cap w0 J Jx hY hin hts hlen W ((hW.block Bs (Array.getElem?_eq_some_iff.1 hBs).1).trans hBs) (hb.trans (hW.mono hb.size)) h0
theorem backward_in (F : Fence) (n : Nat) (hF : F.fn 73) (hro : F.round = none) (g : Option Addr) (len cap : Nat) (w : World) :
    CallsIn F n Try.prog 73 #[.slice g len cap] w fun e w' =>
      e = .returned (.func (.func 81) #[] #[.pointer (some ⟨w.heap.size, 0, none⟩)]) ∧ w' = w.alloc (.cells #[.slice g len cap] 25) := by
  refine callsIn_of_wp Try.func73 rfl hF ?_ hro
  simp only [Try.ntmps73, List.size_toArray, List.length_cons, List.length_nil, Nat.reduceAdd, Nat.reduceSub, Array.replicate_succ, Array.replicate_zero, List.push_toArray, List.append_toArray, List.nil_append, List.cons_append]
  gi_wp2
  go_ret
  exact ⟨rfl, rfl⟩
theorem bkp_putObj {lo : Nat} {w : World} (hlo : lo ≤ w.heap.size) (W : World) (l : Nat) (o o' : Obj) (hl : w.heap.size ≤ l) (h : W.heap[l]? = some o) (hc : o.isCells = false) (_ : o.isWalk = false) : BKp lo W (W.putObj l o') :=
  ⟨by simp, fun k hk => World.putObj_heap_other (by omega), fun k cs fr hk => (World.putObj_heap_other (fun e => by subst e; rw [hk] at h; cases h; cases hc)).trans hk⟩

/-- The place of the last one of l that is embedded in t. -/
def whT (l : List Tm) (t : Tm) : Int := match (backs l).find? (fun x => inB x.1 t) with | some x => (x.2 : Int) | none => -1
theorem find_pre {α : Type} {p : α → Bool} : ∀ {pre q l : List α} {x : α}, pre ++ x :: q = l → (∀ y ∈ pre, p y = false) → p x = true → l.find? p = some x
  | [], q, l, x, h, _, hx => by rw [← h]; simp [hx]
  | y :: pre, q, l, x, h, hp, hx => by
    rw [← h, List.cons_append, List.find?_cons, hp y (by simp)]
    exact find_pre rfl (fun z hz => hp z (by simp [hz])) hx
theorem whT_some {l : List Tm} {t : Tm} {pre : List (Tm × Nat)} {x : Tm × Nat} (h : pre ++ [x] <+: backs l) (hp : ∀ y ∈ pre, inB y.1 t = false) (hx : inB x.1 t = true) : whT l t = (x.2 : Int) := by
  obtain ⟨q, hq⟩ := h
  unfold whT
  rw [find_pre (p := fun x => inB x.1 t) (pre := pre) (q := q) (x := x) (by rw [← hq]; simp) hp hx]
theorem whT_none {l : List Tm} {t : Tm} (h : ∀ y ∈ backs l, inB y.1 t = false) : whT l t = -1 := by
  unfold whT
  rw [List.find?_eq_none.2 (fun x hx => by rw [h x hx]; simp)]
def lastI {w0 : World} (pre : List (BE w0)) : Int := match pre.getLast? with | some x => (x.i : Nat) | none => 0
theorem lastI_snoc {w0 : World} (pre : List (BE w0)) (x : BE w0) : lastI (pre ++ [x]) = (x.i : Nat) := by simp [lastI]
def WhPost (w : World) (r : Int) (e : Ending) (w' : World) : Prop := e = .returned (.int .i64 r) ∧ Below w.heap.size w w'
set_option maxRecDepth 100000 in
set_option maxHeartbeats 4000000 in
theorem whistle_any (ts : List Tm) (t : Tm) (w : World) (sl st : Value) (hsl : Tm.sliceIn w w.heap.size ts sl) (ht : Tm.inn w w.heap.size t st) (hts : ∀ t ∈ ts, t.size ≤ 1000000) (hlen : ts.length ≤ 1000000) (hsz : t.size ≤ 1000000) :
    Calls Try.prog 56 #[sl, .agg #[.int .i64 t.kind, .string t.name, .int .i64 t.n, st]] w fun e w' => WhPost w (whT ts t) e w' := by
  refine (callsIn_wide (n := 9)).1 ?_
  obtain ⟨gs, cs, rfl, _⟩ := id hsl
  obtain ⟨gt, ct, rfl⟩ := inn_sl7 ht
  have HSL := Lib.hid hsl
  have HT := Lib.hid ht
  have HTS := Lib.hid hts
  clear hsl ht hts
  refine callsIn_of_wp_marks Try.func56 rfl trivial ?_ rfl
  simp only [Try.ntmps56, List.size_toArray, List.length_cons, List.length_nil, Nat.reduceAdd, Nat.reduceSub, Array.replicate_succ, Array.replicate_zero, List.push_toArray, List.append_toArray, List.nil_append, List.cons_append]
  gi_wp2_with fail
  refine ⟨trivial, ?_⟩
  refine (backward_in Fence.wide 8 trivial rfl _ _ _ _).mono ?_
  rintro e w' ⟨rfl, rfl⟩
  gi_wp2_with fail
  obtain ⟨b0, hb0⟩ : ∃ b0, Obj.cells #[.int .i64 t.kind, .string t.name, .int .i64 t.n, .slice gt t.args.length ct] 27 (0, 0) = b0 := ⟨_, rfl⟩
  rw [hb0]
  have bT := (Below.heap_alloc ((w.alloc b0).alloc (.cells #[.int .i64 0] 3)) (.cells #[.slice gs ts.length cs] 25) w.heap.size (by simp; omega)).trans ((Below.heap_alloc (w.alloc b0) (.cells #[.int .i64 0] 3) w.heap.size (by simp)).trans (World.alloc_heap_new w b0))
  have bR := (Boxed.new (w.alloc b0) 3 (.int .i64 0)).alloc (.cells #[.slice gs ts.length cs] 25)
  have bS := World.alloc_heap_new ((w.alloc b0).alloc (.cells #[.int .i64 0] 3)) (.cells #[.slice gs ts.length cs] 25)
  have hB0 : Below w.heap.size w (((w.alloc b0).alloc (.cells #[.int .i64 0] 3)).alloc (.cells #[.slice gs ts.length cs] 25)) := (((Below.refl _ w).alloc (Nat.le_refl _) _).alloc (by simp) _).alloc (by simp; omega) _
  have hsz0 : (((w.alloc b0).alloc (.cells #[.int .i64 0] 3)).alloc (.cells #[.slice gs ts.length cs] 25)).heap.size = w.heap.size + 3 := by simp
  simp only [World.size_alloc] at bR bS
  obtain ⟨W0, hW0⟩ : ∃ W0, (((w.alloc b0).alloc (.cells #[.int .i64 0] 3)).alloc (.cells #[.slice gs ts.length cs] 25)) = W0 := ⟨_, rfl⟩
  rw [hW0] at bR bS bT hB0 hsz0 ⊢
  clear hW0
  subst hb0
  refine wpIn_rangeFunc_ownH rfl (by omega) (gf := 81) (lb := #[.pointer (some ⟨w.heap.size + 1 + 1, 0, none⟩)]) rfl trivial (enters_of Try.func81 (by kernel_rfl) rfl)
    (back_stops Fence.wide rfl (9 - 1) trivial rfl (w.heap.size + 1 + 1) ts gs cs w W0 hB0 bS HSL.out HTS.out hlen) BKp.trans (bkp_putObj (by omega)) (Below.refl _ _) (fun _ => rfl)
    (fun pre W => ((Boxed W (w.heap.size + 1) 3 (.int .i64 0) ∧ W.heap[w.heap.size]? = some (Obj.cells #[.int .i64 t.kind, .string t.name, .int .i64 t.n, .slice gt t.args.length ct] 27 (0, 0))) ∧ (∀ x ∈ pre, inB x.t t = false)) ∧ Below w.heap.size w W)
    (fun c pre W => (Boxed W (w.heap.size + 1) 3 (.int .i64 (lastI pre)) ∧ (c = .ret ∧ ∃ p x, pre = p ++ [x] ∧ (∀ y ∈ p, inB y.t t = false) ∧ inB x.t t = true)) ∧ Below w.heap.size w W)
    (OwnFrom.and (OwnFrom.and (OwnFrom.and (Own.from (boxed_own _ _ _) _) (Own.from (blk_own _ _ _) _)) (ownFrom_pure _ _)) (ownFrom_below (Nat.le_refl _) (by omega)))
    (fun c => OwnFrom.and (OwnFrom.and (Own.from (boxed_own _ _ _) _) (ownFrom_pure _ _)) (ownFrom_below (Nat.le_refl _) (by omega)))
    ⟨⟨⟨bR, bT⟩, by simp⟩, hB0⟩
    (fun x a' W => ∃ Bx, w.heap.size + 1 < Bx ∧ W.heap[Bx]? = some (Obj.cells #[.int .i64 x.t.kind, .string x.t.name, .int .i64 x.t.n, .slice x.g x.t.args.length x.cap] 27 (0, 0)) ∧
      a' = { tmps := #[.slice gs ts.length cs, .agg #[.int .i64 t.kind, .string t.name, .int .i64 t.n, .slice gt t.args.length ct], undef, .pointer (some ⟨w.heap.size, 0, none⟩), .pointer (some ⟨w.heap.size + 1, 0, none⟩), .int .i64 (x.i : Nat), .pointer (some ⟨Bx, 0, none⟩), .slice gs ts.length cs, .func (.func 81) #[] #[.pointer (some ⟨w.heap.size + 1 + 1, 0, none⟩)], .int .i64 (x.i : Nat), .agg #[.int .i64 x.t.kind, .string x.t.name, .int .i64 x.t.n, .slice x.g x.t.args.length x.cap], undef, undef, undef, undef], defers := [] })
    (fun x a' => Own.from (fun _ X Y row hs hg hrow => by obtain ⟨Bx, h1, h2, h3⟩ := hs; exact ⟨Bx, h1, (grownBy_keeps_cells hg hrow h2 rfl).trans h2, h3⟩) _)
    ?assign ?body ?done ?stop
  case assign =>
    rintro l pre x W K ⟨⟨⟨bR, bT⟩, hp⟩, hb⟩ hK
    simp only [BE.encs]
    rw [zip2]
    gi_wp2
    exact hK _ _ ((KeepsOthers.alloc _ _).from _) ((BKp.refl _ _).alloc hb.size _) ⟨⟨⟨bR.alloc _, (Below.heap_alloc _ _ _ (Array.getElem?_eq_some_iff.1 bT).1).trans bT⟩, hp⟩, hb.alloc hb.size _⟩ ⟨W.heap.size, bR.lt, World.alloc_heap_new W _, rfl⟩
  case body =>
    rintro l pre x a' W hl _ ⟨⟨⟨bR, bT⟩, hp1⟩, hb⟩ ⟨Bx, hBx, hX, rfl⟩ hlen2
    have c0 : W.cell? ⟨Bx, 0, none⟩ = some (.int .i64 x.t.kind) := by simp [World.cell?, hX]
    have c1 : W.cell? ⟨Bx, 1, none⟩ = some (.string x.t.name) := by simp [World.cell?, hX]
    have c2 : W.cell? ⟨Bx, 2, none⟩ = some (.int .i64 x.t.n) := by simp [World.cell?, hX]
    have c3 : W.cell? ⟨Bx, 3, none⟩ = some (.slice x.g x.t.args.length x.cap) := by simp [World.cell?, hX]
    obtain ⟨⟨d0, d1, d2, d3⟩, _⟩ := row4 bT
    have hina := Tm.inn_mono (Tm.inn_below x.ok hb (Nat.le_refl _)) hb.size
    have hinb := Tm.inn_mono (Tm.inn_below HT.out hb (Nat.le_refl _)) hb.size
    have hcall := in_any x.t t W _ _ hina hinb x.sz hsz
    have HCALL := Lib.hid hcall
    have BR := Lib.hid bR
    have BT := Lib.hid bT
    have HB := Lib.hid hb
    have HP1 := Lib.hid hp1
    have hlb := hb.size
    clear bR bT hb hp1 hina hinb hcall hX
    gi_wp2_with fail
    refine ⟨trivial, ?_⟩
    refine (CallsIn.inRound l (callsIn_wide.2 HCALL.out)).mono ?_
    rintro e W2 ⟨rfl, hb2⟩
    have bR2 : Boxed W2 (w.heap.size + 1) 3 (.int .i64 0) := (hb2.block _ BR.out.lt).trans BR.out
    have bT2 := (hb2.block _ (Array.getElem?_eq_some_iff.1 BT.out).1).trans BT.out
    have hbb := HB.out.trans (hb2.mono hlb)
    have cR := bR2.cell
    have fR := bR2.frozen
    have hlt1 := bR2.lt
    have BR2 := Lib.hid bR2
    have BT2 := Lib.hid bT2
    have HBB := Lib.hid hbb
    have HK2 := Lib.hid ((BKp.refl w.heap.size W).of_below hb2 hlb)
    have HKF : Hid (KeepsFrom W0.heap.size W W2) := Lib.hid ⟨hb2.size, fun k o _ hk ho => (hb2.block k (Array.getElem?_eq_some_iff.1 hk).1).trans hk⟩
    clear hb2 bR2 bT2 hbb c0 c1 c2 c3 d0 d1 d2 d3 HCALL
    cases hq : inB x.t t with
    | false =>
      have HQ := Lib.hid hq
      clear hq
      gi_wp2
      refine ⟨HKF.out, HK2.out, ⟨⟨BR2.out, BT2.out⟩, fun y hy => ?_⟩, HBB.out⟩
      rcases List.mem_append.1 hy with hy | hy
      · exact HP1.out y hy
      · obtain rfl : y = x := by simpa using hy
        exact HQ.out
    | true =>
      have HQ := Lib.hid hq
      clear hq
      gi_wp2
      refine ⟨HKF.out.trans ((KeepsOthers.setCell _ _ _).from _), ⟨?_, rfl, pre, x, rfl, HP1.out, HQ.out⟩, HBB.out.setCell (p := ⟨w.heap.size + 1, 0, none⟩) (by simp) _⟩
      rw [lastI_snoc]
      exact BR2.out.set _
  case done =>
    rintro D ys W hD hS ⟨⟨⟨bR, bT⟩, hp1⟩, hb⟩ hK
    have hr : whT ts t = -1 := whT_none fun y hy => by
      rw [← hS] at hy
      obtain ⟨x, hx, rfl⟩ := List.mem_map.1 hy
      exact hp1 x hx
    have HR := Lib.hid hr
    have cR := bR.cell
    have fR := bR.frozen
    have hlt1 := bR.lt
    have BR := Lib.hid bR
    have HB := Lib.hid hb
    clear hr bR bT hS hp1 hb
    gi_wp2
    have hK' := (KeepsOthers.setCell W ⟨w.heap.size + 1, 0, none⟩ (.int .i64 (-1))).same D _ hK rfl
    refine ⟨by simp, .inl ⟨_, _, rfl, run_takeDeferred hK', ?_⟩⟩
    have hc5 := cell_kept ((BR.out.set (.int .i64 (-1))).cell) (grownBy_putObj' _ D (.deferred none)) (fun r e => by cases e; exact ⟨_, hK', rfl⟩)
    refine ⟨.int .i64 (-1), ?_, by rw [HR.out], (HB.out.setCell (p := ⟨w.heap.size + 1, 0, none⟩) (by simp) _).trans (belowK_b (w := w) (Nat.le_refl _) _ D _ _ (by omega) hK' rfl rfl)⟩
    simp [results, Try.f56, go_sem, hc5]
  case stop =>
    rintro D c pre W hD hpre ⟨⟨bR, rfl, p, x, rfl, hp, hx⟩, hb⟩ hK
    have hr : whT ts t = (x.i : Nat) := by
      refine whT_some (pre := p.map BE.key) (x := x.key) (by simpa using hpre) (fun y hy => ?_) hx
      obtain ⟨z, hz, rfl⟩ := List.mem_map.1 hy
      exact hp z hz
    rw [lastI_snoc] at bR
    have HR := Lib.hid hr
    have BR := Lib.hid bR
    have HB := Lib.hid hb
    clear hr bR hpre hp hx hb
    gi_wp2
    refine ⟨by simp, .inl ⟨_, _, rfl, run_takeDeferred hK, ?_⟩⟩
    have hc5 := cell_kept BR.out.cell (grownBy_putObj' _ D (.deferred none)) (fun r e => by cases e; exact ⟨_, hK, rfl⟩)
    refine ⟨.int .i64 (x.i : Nat), ?_, by rw [HR.out], HB.out.trans (belowK_b (w := w) (Nat.le_refl _) W D _ _ (by omega) hK rfl rfl)⟩
    simp [results, Try.f56, go_sem, hc5]
end Go.Proofs.Ytomdccejgmhfoaa
