/-
  The document's own answers: the place of a number in a row.
  The document's own answers: a term whose variables are the numbers at their places in a row.
-/
import Derived.Test.YtgnbjhiafjpokaaWith
import Derived.Test.YtgnbjhiafjpokaaRen
import Derived.Deep.RegionLaw
namespace Go.Proofs.Ytgnbjhiafjpokaa
open Go.RowKit

theorem idx_first (l : List Int) (n : Int) : ∀ (k : Nat) (hk : k < l.length), l[k] = n → (∀ j (hj : j < l.length), j < k → l[j] ≠ n) → l.idxOf n = k := by
  induction l with
  | nil => intro k hk; simp at hk
  | cons a r ih =>
    intro k hk h hp
    cases k with
    | zero => simp at h; simp [h]
    | succ k =>
      have h0 := hp 0 (by simp) (by omega)
      simp only [List.getElem_cons_zero] at h0
      have hb : (a == n) = false := by simpa using h0
      rw [List.idxOf_cons, hb, cond_false, ih k (by simpa using hk) (by simpa using h) (fun j hj hjk => hp (j + 1) (by simpa using hj) (by omega))]

/-- Where a number stands; below 0: nowhere. -/
def atOf (l : List Int) (n : Int) : Int := if n ∈ l then (l.idxOf n : Int) else -1

set_option maxHeartbeats 400000 in
theorem at_any (l : List Int) (n : Int) (w : World) (v : Value) (h : intsIn w w.heap.size l v) :
    Calls Try.prog 34 #[v, .int .i64 n] w fun e w' => e = .returned (.int .i64 (atOf l n)) ∧ Below w.heap.size w w' := by
  obtain ⟨g, cap, rfl, hcap, hlen, _⟩ := id h
  have HL := Lib.hid h
  clear h
  go_enter Try.func34, Try.ntmps34
  go_wp2_with fail
  go_loopw [5] (fun i wr => ∃ k' : Nat, k' ≤ l.length ∧ i = .int .i64 k' ∧ Hid (∀ j (h : j < l.length), j < k' → l[j] ≠ n) ∧ Below w.heap.size w wr) (fun i _ => l.length - (intOf i).toNat)
  case atStart => exact ⟨0, Nat.zero_le _, rfl, fun j _ h => by omega, Below.refl _ _⟩
  case round =>
    obtain ⟨k', hk', rfl, hp, hb⟩ := hrel
    have HB := Lib.hid hb
    by_cases hlt : k' < l.length
    · obtain ⟨b, off, rfl, hbB, g0⟩ := intsIn_get (intsIn_below HL.out hb (Nat.le_refl _)) k' hlt
      clear hb
      by_cases hq : l[k'] = n
      · have HR := Lib.hid (show atOf l n = (k' : Int) by unfold atOf; rw [if_pos (by rw [← hq]; exact List.getElem_mem hlt), idx_first l n k' hlt hq hp.out])
        have hqb : (l[k'] == n) = true := by simpa using hq
        clear hq
        go_wp2_with fail
        go_ret
        exact ⟨by rw [HR.out]; rfl, HB.out⟩
      · have HNE := Lib.hid hq
        have hqb : (l[k'] == n) = false := by simpa using hq
        clear hq
        go_wp2_with fail
        go_roundw
        case rel =>
          refine ⟨k' + 1, by omega, by go_num, fun j hj hjk => ?_, HB.out⟩
          by_cases hjj : j < k'
          · exact hp.out j hj hjj
          · obtain rfl : j = k' := by omega
            exact HNE.out
        case measure => simp [intOf]; omega
    · have hno : n ∉ l := fun hm => by
        obtain ⟨j, hj, he⟩ := List.getElem_of_mem hm
        exact hp.out j hj (by omega) he
      have HR := Lib.hid (show atOf l n = -1 by unfold atOf; rw [if_neg hno])
      obtain rfl : k' = l.length := by omega
      clear hno hp hb
      go_wp2_with fail
      go_ret
      exact ⟨by rw [HR.out]; rfl, HB.out⟩


/-- append of one term, at a step of a region that draws its order: the row is the one that it was, or a new one. -/
theorem step_append_term {P : Program} {w : World} {ops : Array Oper} {o : Oper} {a : Act} {K : Act → World → Prop} {Q : Exit → Act → World → Prop} {E : Prop} (hgd : o.guard = none) (s x : Operand) (t : TypeId)
    (ho : o.op = .call { callee := .builtin .append, args := #[s, x], argTypes := #[t, t] })
    (base : Nat) (e : TypeId) (i : TypeInfo) (z : Value) (bytes : Nat) (ht : P.underlying t = some (.slice e)) (hi : P.info? e = some i) (hz : i.zero = some z)
    (hsize : i.size = 4) (hby : i.bytes = bytes) (hzs : z.cells.size = 4)
    (v : Value) (n : Nat) (xs : List Value) (hs : a.eval s = v) (hown : w.ownsRow base e 4 v n xs)
    (H c : Nat) (news : List Value) (hx : a.eval x = .slice (some ⟨H, 0, none⟩) 1 c) (hl : news.length = 4) (hnews : ∀ j u, news[j]? = some u → w.cell? ((⟨H, 0, none⟩ : Addr).add j) = some u) (h1 : ∀ u ∈ news, u.oneCell' = true)
    (h63 : n + 1 ≤ maxLen) (hbytes : (n + 1) * bytes ≤ 140737488355328) (hbase : base ≤ w.heap.size)
    (h : ∀ g' c' w', w'.ownsRow base e 4 (.slice g' (n + 1) c') (n + 1) (xs ++ news) → w.grownBy w' v.ownBlock → ((Value.slice g' (n + 1) c').ownBlock = v.ownBlock ∨ ∀ b, (Value.slice g' (n + 1) c').ownBlock = some b → w.heap.size ≤ b) → K (a.put o.dst (.slice g' (n + 1) c')) w') :
    if Region.wanted o (yielded ops a.tmps) = true then Oper.wp P o a w K Q else E := by
  have hw : Region.wanted o (yielded ops a.tmps) = true := by simp [Region.wanted, hgd]
  rw [if_pos hw]
  obtain ⟨v', w', hr, h2, h3, h4⟩ := run_append_any (P := P) (w := w) base t o.type e i z 4 bytes ht hi hz hsize hby hzs (by decide) v n xs hown (some ⟨H, 0, none⟩) 1 c news (by omega) (.inr ⟨_, rfl, hnews⟩) h1 h63 hbytes hbase
  obtain ⟨g', c', rfl⟩ := owns_slice h2
  unfold Oper.wp execOp
  simp only [ho, resolve, invoke, builtin, Sem.run_bind, Sem.run_pure, Result.andThen_ok, List.map_toArray, List.map_cons, List.map_nil, hs, hx, hr]
  refine h g' c' w' h2 h3 ?_
  rcases h4 with h4 | h4
  · exact .inl h4
  · exact .inr fun b hb => by rw [h4] at hb; cases hb; exact Nat.le_refl _

theorem step_open {P : Program} {w : World} {ops : Array Oper} {o : Oper} {a : Act} {K : Act → World → Prop} {Q : Exit → Act → World → Prop} {E : Prop} (hgd : o.guard = none) (h : Oper.wp P o a w K Q) : if Region.wanted o (yielded ops a.tmps) = true then Oper.wp P o a w K Q else E := by
  have hw : Region.wanted o (yielded ops a.tmps) = true := by simp [Region.wanted, hgd]
  rw [if_pos hw]
  exact h

/-- What a number becomes. -/
def toOf (fs tos : List Int) (v : Int) : Int := tos.getD (fs.idxOf v) 0
theorem toOf_wf {fs tos : List Int} (h : ∀ x ∈ tos, (Lit.int .i64 x).wf = true) (v : Int) : (Lit.int .i64 (toOf fs tos v)).wf = true := by
  unfold toOf
  rw [List.getD_eq_getElem?_getD]
  cases hq : tos[fs.idxOf v]? with
  | none => decide
  | some x => exact h x (List.mem_of_getElem? hq)

theorem nodesL_mem {l : List Tm} {k : Nat} (hk : k < l.length) {d : Int} {x : Key} (hx : x ∈ l[k].nodes d) : x ∈ Tm.nodesL l d := by
  induction l generalizing k with
  | nil => simp at hk
  | cons t r ih =>
    simp only [Tm.nodesL, List.mem_append]
    cases k with
    | zero => exact .inl hx
    | succ k => exact .inr (ih (by simpa using hk) hx)

/-- What the loop's own blocks hold, and what lay ahead, while a term more is made. -/
theorem TuS.step {m b0 o0 b1 o1 b o : Nat} {v u : Value} {t : Tm} {sv : Value} {w0 W W' : World} (hb : Below m W W') (hm : b0 < m ∧ b1 < m ∧ b < m)
    (h : W.cell? ⟨b0, o0, none⟩ = some v ∧ W.cell? ⟨b1, o1, none⟩ = some u ∧ W.cell? ⟨b, o, none⟩ = some (.int .i64 t.kind) ∧ W.cell? ⟨b, o + 1, none⟩ = some (.string t.name) ∧ W.cell? ⟨b, o + 2, none⟩ = some (.int .i64 t.n) ∧ W.cell? ⟨b, o + 3, none⟩ = some sv ∧ W.frozen? ⟨b0, o0, none⟩ = false ∧ Below m w0 W) :
    W'.cell? ⟨b0, o0, none⟩ = some v ∧ W'.cell? ⟨b1, o1, none⟩ = some u ∧ W'.cell? ⟨b, o, none⟩ = some (.int .i64 t.kind) ∧ W'.cell? ⟨b, o + 1, none⟩ = some (.string t.name) ∧ W'.cell? ⟨b, o + 2, none⟩ = some (.int .i64 t.n) ∧ W'.cell? ⟨b, o + 3, none⟩ = some sv ∧ W'.frozen? ⟨b0, o0, none⟩ = false ∧ Below m w0 W' := by
  obtain ⟨h0, h1, h2, h3, h4, h5, hf, h6⟩ := h
  exact ⟨(hb.cell (p := ⟨b0, o0, none⟩) hm.1).trans h0, (hb.cell (p := ⟨b1, o1, none⟩) hm.2.1).trans h1, (hb.cell (p := ⟨b, o, none⟩) hm.2.2).trans h2, (hb.cell (p := ⟨b, o + 1, none⟩) hm.2.2).trans h3, (hb.cell (p := ⟨b, o + 2, none⟩) hm.2.2).trans h4, (hb.cell (p := ⟨b, o + 3, none⟩) hm.2.2).trans h5, (World.frozen?_of_block (hb.block b0 hm.1)).trans hf, h6.trans hb⟩

theorem ownsRow_set {W : World} {base : Nat} {e : TypeId} {size : Nat} {v : Value} {n : Nat} {xs : List Value} (h : W.ownsRow base e size v n xs) {B : Nat} (hB : B < base) (o : Nat) (u : Value) : (W.setCell ⟨B, o, none⟩ u).ownsRow base e size v n xs := by
  refine ⟨h.1, ?_⟩
  rcases h.2 with hn | ⟨g, cap, cur, rfl, h1, h2, h3⟩
  · exact .inl hn
  · exact .inr ⟨g, cap, cur, rfl, h1, (Below.heap_setCell _ _ _ _ (by show g ≠ B; omega)).trans h2, h3⟩
theorem set1_same {W : World} {B i : Nat} {cs : Array Value} {t : TypeId} (h : W.heap[B]? = some (Obj.cells cs t (0, 0))) (v : Value) : (W.setCell ⟨B, i, none⟩ v).heap[B]? = some (Obj.cells (cs.setIfInBounds i v) t (0, 0)) := by
  obtain ⟨hlt, hk⟩ := Array.getElem?_eq_some_iff.1 h
  show (W.heap.modify B _)[B]? = _
  rw [Array.getElem?_eq_getElem (by rw [Array.size_modify]; exact hlt), Array.getElem_modify_self, hk]
  rfl

theorem cellsP_set {W : World} {lo B o : Nat} {v u : Value} {l : List Tm} {xs : List Value} (hB : B < lo) (h : Tm.cellsP W (okRow lo W v) l xs) : Tm.cellsP (W.setCell ⟨B, o, none⟩ u) (okRow lo (W.setCell ⟨B, o, none⟩ u) v) l xs :=
  Tm.cellsP_same (fun b hb => ⟨hb.1, by have := hb.2.1; simp; omega, hb.2.2⟩) (fun b o' x hb hc => (World.cell?_of_block (a := ⟨b, o', none⟩) (Below.heap_setCell _ _ _ _ (by have := hb.1; show b ≠ B; omega))).trans hc) l xs h

def TurnPost (f : Int → Int) (t : Tm) (w : World) (e : Ending) (w' : World) : Prop :=
  ∃ g' c', e = .returned (.agg #[.int .i64 (t.ren f).kind, .string (t.ren f).name, .int .i64 (t.ren f).n, .slice g' (t.ren f).args.length c']) ∧ Tm.innP w' (fun b => w.heap.size ≤ b ∧ b < w'.heap.size) (t.ren f) (.slice g' (t.ren f).args.length c') ∧ Below w.heap.size w w'

set_option maxRecDepth 100000 in
set_option maxHeartbeats 4000000 in
theorem turn_any (fs tos : List Int) (hft : fs.length ≤ tos.length) (hto : ∀ x ∈ tos, (Lit.int .i64 x).wf = true) : ∀ (t : Tm) (w : World) (B : Nat) (sv vf vt : Value), B ≤ w.heap.size → Tm.inn w B t sv → intsIn w w.heap.size fs vf → intsIn w w.heap.size tos vt → (∀ d, ∀ x ∈ t.nodes d, x.k = 1 → x.n ∈ fs) →
    Calls Try.prog 68 #[.agg #[.int .i64 t.kind, .string t.name, .int .i64 t.n, sv], vf, vt] w fun e w' => TurnPost (toOf fs tos) t w e w' := by
  refine Tm.ind fun k s n l ih w B sv vf vt hB hin hvf hvt hcov => ?_
  obtain ⟨⟨hk, hss, hn⟩, hsl⟩ := Tm.inn_mk.1 hin
  have hsl0 := hsl
  obtain ⟨g, cap, rfl, hcap, hlen, _⟩ := hsl0
  obtain ⟨gf, cf, rfl, hcf, hlf, _⟩ := id hvf
  obtain ⟨gt, ct, rfl, hct, hlt', _⟩ := id hvt
  have hHead : (Lit.int .i64 k).wf = true ∧ s.size ≤ maxLen ∧ (Lit.int .i64 n).wf = true := ⟨hk, hss, hn⟩
  have HHead := Lib.hid hHead
  have HSL := Lib.hid hsl
  have HIH := Lib.hid ih
  have HVF := Lib.hid hvf
  have HVT := Lib.hid hvt
  have HCOV := Lib.hid hcov
  have HTO := Lib.hid hto
  simp only [Tm.kind, Tm.name, Tm.n]
  clear hin hsl ih hvf hvt hcov hk hss hn hHead hto
  by_cases hk1 : k = 1
  · subst hk1
    have hm : n ∈ fs := HCOV.out 1 ⟨1, s, n, l.length, 1⟩ (by simp [Tm.nodes]) rfl
    have hat : atOf fs n = ((fs.idxOf n : Nat) : Int) := by unfold atOf; rw [if_pos hm]
    have hi1 : fs.idxOf n < fs.length := List.idxOf_lt_length_iff.2 hm
    obtain ⟨j, hj⟩ : ∃ j, fs.idxOf n = j := ⟨_, rfl⟩
    rw [hj] at hat hi1
    have hjt : j < tos.length := by omega
    have hv : toOf fs tos n = tos[j] := by unfold toOf; rw [hj]; simp [List.getD, hjt]
    have hr : Tm.ren (toOf fs tos) (.mk 1 s n l) = .mk 1 ⟨#[]⟩ tos[j] [] := by simp [Tm.ren, hv]
    have HR := Lib.hid hr
    have HAT := Lib.hid hat
    obtain ⟨bt, ot, rfl, hbt, _⟩ := intsIn_get HVT.out j hjt
    clear hr hat hv hm hj
    go_enter Try.func68, Try.ntmps68
    go_wp2_with fail
    have hb0 : Below w.heap.size w ((w.alloc (.cells #[.int .i64 1, .string s, .int .i64 n, .slice g l.length cap] 27)).alloc (.cells #[.int .i64 0, .string ⟨#[]⟩, .int .i64 0, .slice none 0 0] 27)) := ((Below.refl _ _).alloc (Nat.le_refl _) _).alloc (by simp) _
    refine (at_any fs n _ _ (intsIn_mono (intsIn_below HVF.out hb0 (Nat.le_refl _)) hb0.size)).mono ?_
    rintro e w1 ⟨rfl, hb1⟩
    rw [HAT.out]
    have hs1 : w.heap.size + 1 < w1.heap.size := by have := hb1.size; simp at this; omega
    have r0 : w1.heap[w.heap.size + 1]? = some (Obj.cells #[.int .i64 0, .string ⟨#[]⟩, .int .i64 0, .slice none 0 0] 27 (0, 0)) := (hb1.block _ (by simp)).trans (newBlk _ _ _ (by simp))
    obtain ⟨⟨c0, c1, c2, c3⟩, f0, f1, f2, f3⟩ := row4 r0
    have HB1 := Lib.hid (hb0.trans (hb1.mono (by simp; omega)))
    obtain ⟨_, _, e1, _, gcell⟩ := intsIn_get (intsIn_below HVT.out HB1.out (Nat.le_refl _)) j hjt
    injection e1 with e1
    injection e1 with e1 e2
    subst e1 e2
    clear hb0 hb1 r0
    go_wp2_with fail
    refine bodyPost_ret (v := .agg #[.int .i64 1, .string ⟨#[]⟩, .int .i64 tos[j], .slice none 0 0]) (by simp [results, Try.results68, go_sem, c0, c1, c2, c3]) rfl ?_
    refine ⟨none, 0, by rw [HR.out]; rfl, by rw [HR.out]; exact Tm.innP_mk.2 ⟨⟨by decide, Nat.zero_le _, HTO.out _ (List.getElem_mem hjt)⟩, none, 0, rfl, Nat.le_refl _, by simp, .inl rfl⟩, ?_⟩
    exact (((HB1.out.setCell (p := ⟨w.heap.size + 1, 0, none⟩) (by simp) _).setCell (p := ⟨w.heap.size + 1, 1, none⟩) (by simp) _).setCell (p := ⟨w.heap.size + 1, 2, none⟩) (by simp) _).setCell (p := ⟨w.heap.size + 1, 3, none⟩) (by simp) _
  · have hk1b : (k == 1) = false := by simpa using hk1
    have hr : Tm.ren (toOf fs tos) (.mk k s n l) = .mk k s n (Tm.rens (toOf fs tos) l) := by simp [Tm.ren, hk1]
    have HR := Lib.hid hr
    clear hr
    obtain ⟨i0, hi, hz0, hz1, hz2⟩ := info_parts Try.infoTm
    go_enter Try.func68, Try.ntmps68
    go_wp2_with fail
    go_loopw [8] (fun i wr => ∃ (k' : Nat) (gv : Option Addr) (cv : Nat), k' ≤ l.length ∧ i = .int .i64 k' ∧ Hid (∃ xs, wr.ownsRow (w.heap.size + 3) 27 4 (.slice gv k' cv) k' xs ∧ Tm.cellsP wr (okRow (w.heap.size + 3) wr (.slice gv k' cv)) (Tm.rens (toOf fs tos) (l.take k')) xs) ∧ Below w.heap.size w wr ∧ w.heap.size + 3 ≤ wr.heap.size ∧
        wr.heap[w.heap.size]? = some (Obj.cells #[.int .i64 k, .string s, .int .i64 n, .slice g l.length cap] 27 (0, 0)) ∧ wr.heap[w.heap.size + 1]? = some (Obj.cells #[.int .i64 0, .string ⟨#[]⟩, .int .i64 0, .slice none 0 0] 27 (0, 0)) ∧
        wr.heap[w.heap.size + 2]? = some (Obj.cells #[.int .i64 k, .string s, .int .i64 n, .slice gv k' cv] 27 (0, 0))) (fun i _ => l.length - (intOf i).toNat)
    case atStart =>
      exact ⟨0, none, 0, Nat.zero_le _, rfl, ⟨[], World.ownsRow_nil _ _ _ _, by simp [Tm.rens, Tm.cellsP]⟩, (((Below.refl _ _).alloc (Nat.le_refl _) _).alloc (by simp) _).alloc (by simp; omega) _, by simp, (Below.heap_alloc _ _ _ (by simp; omega)).trans ((Below.heap_alloc _ _ _ (by simp)).trans (newBlk _ _ _ rfl)), (Below.heap_alloc _ _ _ (by simp)).trans (newBlk _ _ _ (by simp)), newBlk _ _ _ (by simp)⟩
    case round =>
      obtain ⟨k', gv, cv, hk', rfl, hrow, hb, hbs, hbox, hres, hout⟩ := hrel
      have HROW := Lib.hid hrow.out
      have HB := Lib.hid hb
      have HBOX := Lib.hid hbox
      have HRES := Lib.hid hres
      have HOUT := Lib.hid hout
      by_cases hlt : k' < l.length
      · obtain ⟨b, off, sv, rfl, hbB, g0, g1, g2, g3, hin'⟩ := Tm.sliceIn_get (Tm.sliceIn_below HSL.out hb hB) k' hlt
        obtain ⟨⟨b0, b1, b2, b3⟩, _⟩ := row4 hbox
        obtain ⟨⟨o0, o1, o2, o3⟩, of0, of1, of2, of3⟩ := row4 hout
        have HIN := Lib.hid hin'
        have hih := Lib.hid (HIH.out l[k'] (List.getElem_mem hlt))
        have HM := Lib.hid (Tm.rens_take_succ (toOf fs tos) l k' hlt)
        have hst : wr.cell? ⟨w.heap.size + 2, 3, none⟩ = some (.slice gv k' cv) ∧ wr.cell? ⟨w.heap.size, 3, none⟩ = some (.slice (some ⟨b, off, none⟩) l.length cap) ∧ wr.cell? ⟨b, off + k' * 4, none⟩ = some (.int .i64 l[k'].kind) ∧ wr.cell? ⟨b, off + k' * 4 + 1, none⟩ = some (.string l[k'].name) ∧ wr.cell? ⟨b, off + k' * 4 + 2, none⟩ = some (.int .i64 l[k'].n) ∧ wr.cell? ⟨b, off + k' * 4 + 3, none⟩ = some sv ∧ wr.frozen? ⟨w.heap.size + 2, 3, none⟩ = false ∧ Below (w.heap.size + 3) wr wr :=
          ⟨o3, b3, g0, g1, g2, g3, of3, Below.refl _ _⟩
        have hm3 : w.heap.size + 2 < w.heap.size + 3 ∧ w.heap.size < w.heap.size + 3 ∧ b < w.heap.size + 3 := ⟨by omega, by omega, by omega⟩
        have HST := Lib.hid hst
        have hcall := Lib.hid (hih.out wr.drew B sv (.slice gf fs.length cf) (.slice gt tos.length ct) (Nat.le_trans hB hb.size) (Tm.inn_below hin' ((Below.refl wr.heap.size wr).drew) (Nat.le_trans hB hb.size))
          (intsIn_mono (intsIn_below HVF.out hb.drew (Nat.le_refl _)) hb.size) (intsIn_mono (intsIn_below HVT.out hb.drew (Nat.le_refl _)) hb.size)
          (fun d x hx h1 => HCOV.out (d - 1) x (by simp only [Tm.nodes]; exact List.mem_cons_of_mem _ (nodesL_mem hlt (by rw [show d - 1 + 1 = d by omega]; exact hx))) h1))
        obtain ⟨xs, hown, hcells⟩ := hrow.out
        have HOWN := Lib.hid (show wr.drew.ownsRow (w.heap.size + 3) 27 4 (.slice gv k' cv) k' xs from hown)
        have HCELLS := Lib.hid hcells
        clear hin' hrow hb hbox hres hout hst b0 b1 b2 hown hcells hih HIH
        go_wp2_with fail
        obtain ⟨c0, c1, c2, c3, c4, c5, cf0, _⟩ := HST.out
        go_region_law (first
            | ((refine step_open (by rfl) ?_; go_simp; go_at_call 68; refine hcall.out.mono ?_; rintro e w2 ⟨ga', ca', rfl, hp, hb2⟩; have d3 : w2.cell? ⟨w.heap.size + 1 + 1, 3, none⟩ = some (.slice gv k' cv) := (hb2.cell (p := ⟨w.heap.size + 2, 3, none⟩) (by exact hbs)).trans c0; have hl2 : w.heap.size + 1 + 1 < w2.heap.size := Nat.lt_of_lt_of_le (by exact hbs) hb2.size))
            | ((refine step_append_term (by rfl) _ _ _ (by rfl) (w.heap.size + 3) 27 i0 _ 56 Try.underlying25 hi hz0 hz1 hz2 rfl (.slice gv k' cv) k' xs (by rfl) ((ownsRow_below HOWN.out hb2).alloc _) _ 1 [.int .i64 (l[k'].ren (toOf fs tos)).kind, .string (l[k'].ren (toOf fs tos)).name, .int .i64 (l[k'].ren (toOf fs tos)).n, .slice ga' (l[k'].ren (toOf fs tos)).args.length ca'] (by rfl) rfl news4 one4 (by unfold maxLen; omega) (by omega) (by have := hb2.size; simp at this ⊢; omega) ?_; intro g3 c3 w3 hown3 hgrow hsep; have hB2 : Below wr.heap.size wr w2 := ((Below.refl _ wr).drew).trans hb2; have hq := row4 (blk_step hB2 hgrow HOUT.out (fun e => by have := (HOWN.out.lt _ e).1; omega)); have q3 : w3.cell? ⟨w.heap.size + 1 + 1, 3, none⟩ = some (.slice gv k' cv) := hq.1.2.2.2; have qf3 : w3.frozen? ⟨w.heap.size + 1 + 1, 3, none⟩ = false := hq.2.2.2.2)))
        all_goals go_wp2_with fail
        all_goals have hne : ∀ j, j < w.heap.size + 3 → (Value.slice gv k' cv).ownBlock ≠ some j := fun j hj e => by have := (HOWN.out.lt j e).1; omega
        all_goals have hs2 := hB2.size
        all_goals have hs3 := hgrow.size
        all_goals simp at hs3
        all_goals refine ⟨⟨k' + 1, g3, c3, by omega, by go_num, ⟨_, ownsRow_set hown3 (by omega) _ _, by rw [HM.out]; exact cellsP_set (by omega) (row_step (show wr.ownsRow _ _ _ _ _ _ from HOWN.out) HCELLS.out hB2 (by omega) hp hgrow hsep)⟩, (((HB.out.trans (hB2.mono HB.out.size)).alloc (by omega) _).grown hgrow (by simp; omega) (fun j e => by have := (HOWN.out.lt j e).1; omega)).setCell (p := ⟨w.heap.size + 1 + 1, 3, none⟩) (by show w.heap.size ≤ w.heap.size + 1 + 1; omega) _, by simp; omega, (Below.heap_setCell _ _ _ _ (by simp; omega)).trans (blk_step hB2 hgrow HBOX.out (hne _ (by omega))), (Below.heap_setCell _ _ _ _ (by simp)).trans (blk_step hB2 hgrow HRES.out (hne _ (by omega))), set1_same (blk_step hB2 hgrow HOUT.out (hne _ (by omega))) _⟩, ?_⟩
        all_goals simp [intOf]
        all_goals omega
      · obtain rfl : k' = l.length := by omega
        obtain ⟨xs, hown, hcells⟩ := HROW.out
        obtain ⟨⟨c0, c1, c2, c3⟩, f0, f1, f2, f3⟩ := row4 hres
        obtain ⟨⟨o0, o1, o2, o3⟩, _⟩ := row4 hout
        obtain ⟨⟨b0, b1, b2, b3⟩, _⟩ := row4 hbox
        rw [List.take_length] at hcells
        have HOWN := Lib.hid hown
        have HCELLS := Lib.hid hcells
        clear hown hcells hrow hbox hres hout hb HROW HIH
        go_wp2_with fail
        refine bodyPost_ret (v := .agg #[.int .i64 k, .string s, .int .i64 n, .slice gv l.length cv]) (by simp [results, Try.results68, go_sem, c0, c1, c2, c3]) rfl ?_
        have hll := Tm.rens_length (toOf fs tos) l
        have hP : Tm.innP ((((wr.setCell ⟨w.heap.size + 1, 0, none⟩ (.int .i64 k)).setCell ⟨w.heap.size + 1, 1, none⟩ (.string s)).setCell ⟨w.heap.size + 1, 2, none⟩ (.int .i64 n)).setCell ⟨w.heap.size + 1, 3, none⟩ (.slice gv l.length cv)) (fun b => w.heap.size ≤ b ∧ b < ((((wr.setCell ⟨w.heap.size + 1, 0, none⟩ (.int .i64 k)).setCell ⟨w.heap.size + 1, 1, none⟩ (.string s)).setCell ⟨w.heap.size + 1, 2, none⟩ (.int .i64 n)).setCell ⟨w.heap.size + 1, 3, none⟩ (.slice gv l.length cv)).heap.size) (Tm.ren (toOf fs tos) (.mk k s n l)) (.slice gv l.length cv) := by
          rw [HR.out, Tm.innP_mk]
          refine ⟨HHead.out, sliceP_done (wr := wr) (lo := w.heap.size + 3) (xs := xs) (by rw [hll]; exact HOWN.out) HCELLS.out (by omega) (by omega) (by simp) fun k hk _ => ?_⟩
          exact set4_other _ _ _ _ _ _ k (by omega)
        refine ⟨gv, cv, by rw [HR.out]; simp only [Tm.kind, Tm.name, Tm.n, Tm.args, hll], ?_, ?_⟩
        · rw [show (Tm.ren (toOf fs tos) (.mk k s n l)).args.length = l.length by rw [HR.out]; exact hll]
          exact hP
        · exact (((HB.out.setCell (p := ⟨w.heap.size + 1, 0, none⟩) (by simp) _).setCell (p := ⟨w.heap.size + 1, 1, none⟩) (by simp) _).setCell (p := ⟨w.heap.size + 1, 2, none⟩) (by simp) _).setCell (p := ⟨w.heap.size + 1, 3, none⟩) (by simp) _
end Go.Proofs.Ytgnbjhiafjpokaa
