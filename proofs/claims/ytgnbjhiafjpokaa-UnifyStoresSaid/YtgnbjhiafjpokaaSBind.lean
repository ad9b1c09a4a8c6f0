/-
  The program's bind: binds put into a store; Mark; New.
-/
import Derived.Test.YtgnbjhiafjpokaaRowB
import Derived.Test.YtgnbjhiafjpokaaJJoin
import Derived.StillTailTactics
import Derived.WalkSpells
namespace Go.Proofs.Ytgnbjhiafjpokaa
open Go.RowKit Go.Shelf Go.Maps

theorem row2f {w : World} {b : Nat} {x0 x1 : Value} {t : TypeId} (h : w.heap[b]? = some (Obj.cells #[x0, x1] t (0, 0))) (u : Value) : (w.setCell ⟨b, 0, none⟩ u).heap[b]? = some (Obj.cells #[u, x1] t (0, 0)) := by
  simp [World.setCell, Array.getElem?_modify, h]
theorem row2s {w : World} {b : Nat} {x0 x1 : Value} {t : TypeId} (h : w.heap[b]? = some (Obj.cells #[x0, x1] t (0, 0))) (u : Value) : (w.setCell ⟨b, 1, none⟩ u).heap[b]? = some (Obj.cells #[x0, u] t (0, 0)) := by
  simp [World.setCell, Array.getElem?_modify, h]

/-- Which blocks a store's calls write. -/
def owned (sb : Nat) (svS mv : Value) (b : Nat) : Prop := b = sb ∨ svS.ownBlock = some b ∨ mv = .map (some b)
/-- What the store's calls leave as it is. -/
structure SFr (B sb : Nat) (svS mv svS' mv' : Value) (W W' : World) : Prop where
  os : W'.os = W.os
  tape : W'.tape = W.tape
  output : W'.output = W.output
  size : W.heap.size ≤ W'.heap.size
  block : ∀ b, b < W.heap.size → ¬ owned sb svS mv b → W'.heap[b]? = W.heap[b]?
  new : ∀ b, b < W.heap.size → ¬ owned sb svS mv b → ¬ owned sb svS' mv' b
theorem SFr.refl (B sb : Nat) (svS mv : Value) (W : World) : SFr B sb svS mv svS mv W W := ⟨rfl, rfl, rfl, Nat.le_refl _, fun _ _ _ => rfl, fun _ _ h => h⟩
theorem SFr.trans {B sb : Nat} {s0 m0 s1 m1 s2 m2 : Value} {W W1 W2 : World} (h : SFr B sb s0 m0 s1 m1 W W1) (g : SFr B sb s1 m1 s2 m2 W1 W2) : SFr B sb s0 m0 s2 m2 W W2 :=
  ⟨g.os.trans h.os, g.tape.trans h.tape, g.output.trans h.output, Nat.le_trans h.size g.size, fun b hb hn => (g.block b (Nat.lt_of_lt_of_le hb h.size) (h.new b hb hn)).trans (h.block b hb hn), fun b hb hn => g.new b (Nat.lt_of_lt_of_le hb h.size) (h.new b hb hn)⟩
theorem SFr.of {B sb : Nat} {svS mv : Value} {W W' : World} (h : Below W.heap.size W W') : SFr B sb svS mv svS mv W W' := ⟨h.os, h.tape, h.output, h.size, fun b hb _ => h.block b hb, fun _ _ h => h⟩
/-- A map is made for the store. -/
theorem SMem.mapped {W : World} {B sb : Nat} {l : List Bd} {K : Nat} {svS : Value} {xs : List Value} (h : SMem W B sb l K svS (.map none) xs) : SMem ((W.alloc (.map #[] 0)).setCell ⟨sb, 1, none⟩ (.map (some W.heap.size))) B sb l K svS (.map (some W.heap.size)) xs ∧ SFr B sb svS (.map none) svS (.map (some W.heap.size)) W ((W.alloc (.map #[] 0)).setCell ⟨sb, 1, none⟩ (.map (some W.heap.size))) := by
  have hl : l = [] := by
    rcases h.map with ⟨_, e⟩ | ⟨m, e, _⟩
    · exact e
    · cases e
  subst hl
  have hlow := h.low
  have hk := h.keep (W' := W.alloc (.map #[] 0)) (fun b hb => Below.heap_alloc _ _ _ hb)
  have hlo := h.lo
  have hb : ∀ b, b ≠ sb → ((W.alloc (.map #[] 0)).setCell ⟨sb, 1, none⟩ (.map (some W.heap.size))).heap[b]? = (W.alloc (.map #[] 0)).heap[b]? := fun b hb => Below.heap_setCell _ _ _ _ hb
  refine ⟨⟨row2s hk.box _, ownsRow_block hk.row (fun b e => hb b (fun e' => h.sep (by rw [e, e']))), cellsB_same (fun _ h => h) (fun b o v hlt hc => (World.cell?_of_block (a := ⟨b, o, none⟩) (hb b (by omega))).trans hc) _ _ hk.cells, .inr ⟨W.heap.size, rfl, ?_, by have := hlow.box; omega, fun e => by have := hlow.row _ e; omega, by have := hlow.box; omega⟩, h.lo, h.sep, h.ok, h.len⟩, ⟨rfl, rfl, rfl, by simp, fun b hb' hn => (hb b (fun e => hn (.inl e))).trans (Below.heap_alloc _ _ _ hb'), fun b hb' hn ho => ?_⟩⟩
  · have hm := (MapF.made W).of_block (W' := (W.alloc (.map #[] 0)).setCell ⟨sb, 1, none⟩ (.map (some W.heap.size))) (hb _ (by have := hlow.box; omega))
    exact (hm.mono (Nat.zero_le K)).congr fun v => rfl
  · rcases ho with e | e | e
    · exact hn (.inl e)
    · exact hn (.inr (.inl e))
    · injection e with e
      injection e with e
      omega
/-- One bind more: the map first, then the row. -/
theorem SMem.more {W W1 Wa W3 : World} {B sb m : Nat} {l : List Bd} {K : Nat} {svS : Value} {xs : List Value} (h : SMem W B sb l K svS (.map (some m)) xs) {x : Bd} {svx : Value} (hin : Tm.inn W B x.t svx) (hok : okL (l ++ [x])) (hlen : l.length + 1 ≤ 1000)
    (hg1 : W.grownBy W1 (some m)) (hm1 : MapF W1 m (K + 1) (upd (place l) x.v l.length)) (ha : Below W1.heap.size W1 Wa) {g c : Nat} (hown : W3.ownsRow B 33 5 (.slice (some ⟨g, 0, none⟩) (l.length + 1) c) (l.length + 1) (xs ++ [.int .i64 x.v, .int .i64 x.t.kind, .string x.t.name, .int .i64 x.t.n, svx]))
    (hg3 : Wa.grownBy W3 svS.ownBlock) (hs : svS.ownBlock = some g ∨ g = Wa.heap.size) :
    SMem (W3.setCell ⟨sb, 0, none⟩ (.slice (some ⟨g, 0, none⟩) (l.length + 1) c)) B sb (l ++ [x]) (K + 1) (.slice (some ⟨g, 0, none⟩) (l.length + 1) c) (.map (some m)) (xs ++ [.int .i64 x.v, .int .i64 x.t.kind, .string x.t.name, .int .i64 x.t.n, svx]) ∧
    SFr B sb svS (.map (some m)) (.slice (some ⟨g, 0, none⟩) (l.length + 1) c) (.map (some m)) W (W3.setCell ⟨sb, 0, none⟩ (.slice (some ⟨g, 0, none⟩) (l.length + 1) c)) := by
  have hlow := h.low
  have hlo := h.lo
  obtain ⟨hBm, hSm, hms⟩ : B ≤ m ∧ svS.ownBlock ≠ some m ∧ m ≠ sb := by
    rcases h.map with ⟨e, _⟩ | ⟨m', e, _, h1, h2, h3⟩
    · cases e
    · injection e with e
      injection e with e
      subst e
      exact ⟨h1, h2, h3⟩
  have hml := hlow.map m rfl
  have hbl := hlow.box
  have hs1 := hg1.size
  have hsa := ha.size
  have hs3 := hg3.size
  have hrow : ∀ b, svS.ownBlock = some b → B ≤ b ∧ b < W.heap.size := fun b e => h.row.lt b e
  have hb3 : ∀ b, b < W.heap.size → b ≠ m → svS.ownBlock ≠ some b → W3.heap[b]? = W.heap[b]? := fun b hb h1 h2 => (hg3.block b (by omega) (fun e => h2 e.symm)).trans ((ha.block b (by omega)).trans (hg1.block b hb (fun e => h1 (Option.some.inj e))))
  have hgB : B ≤ g := by
    rcases hs with e | e
    · exact (hrow g e).1
    · omega
  have hgs : g ≠ sb := by
    rcases hs with e | e
    · intro e'; exact h.sep (by rw [e, e'])
    · omega
  have hgm : g ≠ m := by
    rcases hs with e | e
    · intro e'; exact hSm (by rw [e, e'])
    · omega
  have hset : ∀ b, b ≠ sb → (W3.setCell ⟨sb, 0, none⟩ (.slice (some ⟨g, 0, none⟩) (l.length + 1) c)).heap[b]? = W3.heap[b]? := fun b hb => Below.heap_setCell _ _ _ _ hb
  have hBc : ∀ b o v, b < B → W.cell? ⟨b, o, none⟩ = some v → (W3.setCell ⟨sb, 0, none⟩ (.slice (some ⟨g, 0, none⟩) (l.length + 1) c)).cell? ⟨b, o, none⟩ = some v := fun b o v hlt hc =>
    (World.cell?_of_block (a := ⟨b, o, none⟩) ((hset b (by omega)).trans (hb3 b (by omega) (by omega) (fun e => by have := (hrow b e).1; omega)))).trans hc
  refine ⟨⟨row2f ((hb3 sb hbl (fun e => hms e.symm) h.sep).trans h.box) _, ?_, ?_, .inr ⟨m, rfl, ?_, hBm, fun e => hgm (Option.some.inj e), hms⟩, hlo, fun e => hgs (Option.some.inj e), hok, by rw [List.length_append]; exact hlen⟩, ⟨hg3.os.trans (ha.os.trans hg1.os), hg3.tape.trans (ha.tape.trans hg1.tape), hg3.output.trans (ha.output.trans hg1.output), by simp; omega, fun b hb hn => (hset b (fun e => hn (.inl e))).trans (hb3 b hb (fun e => hn (.inr (.inr (by rw [e])))) (fun e => hn (.inr (.inl e)))), fun b hb hn ho => ?_⟩⟩
  · rw [List.length_append]
    exact ownsRow_block hown fun b e => hset b (fun e' => hgs ((Option.some.inj e).trans e'))
  · exact cellsB_snoc (innP_of_inn _ _ (Tm.inn_same (Nat.le_refl _) hBc _ _ hin)) _ _ (cellsB_same (fun _ h => h) hBc _ _ h.cells)
  · refine (hm1.of_block ((hset m hms).trans ((hg3.block m (by omega) (fun e => hSm e.symm)).trans (ha.block m (by omega))))).congr fun v => ?_
    have hpn : place l x.v = none := by
      have h1 := (hok l.length (by simp)).2.2.1
      simp only [List.getElem_append_right (Nat.le_refl _), Nat.sub_self, List.getElem_cons_zero] at h1
      rw [place_snoc] at h1
      cases hp : place l x.v with
      | none => rfl
      | some p =>
        rw [hp] at h1
        have := (place_some hp).1
        simp at h1
        omega
    rw [place_snoc]
    unfold upd
    by_cases e : v = x.v
    · subst e
      simp [hpn]
    · rw [if_neg e]
      cases place l v with
      | some p => rfl
      | none =>
        have e' : ¬ x.v = v := fun h => e h.symm
        simp [e']
  · rcases ho with e | e | e
    · exact hn (.inl e)
    · have e' : g = b := Option.some.inj e
      rcases hs with h1 | h1
      · exact hn (.inr (.inl (by rw [h1, e'])))
      · omega
    · exact hn (.inr (.inr e))
def BindPost (W : World) (B sb : Nat) (l : List Bd) (K : Nat) (svS mv : Value) (e : Ending) (W' : World) : Prop :=
  e = .returned (.tuple #[]) ∧ ∃ svS' mv' xs', SMem W' B sb l K svS' mv' xs' ∧ SFr B sb svS mv svS' mv' W W' ∧ mv' ≠ .map none
theorem take_app_succ {l bs : List Bd} {k : Nat} (hk : k < bs.length) : l ++ bs.take (k + 1) = (l ++ bs.take k) ++ [bs[k]] := by rw [List.take_succ_eq_append_getElem hk, List.append_assoc]
theorem okL_take {l bs : List Bd} (h : okL (l ++ bs)) (k : Nat) : okL (l ++ bs.take k) := fun i hi => by
  have hi2 : i < (l ++ bs).length := by simp at hi ⊢; omega
  have e : (l ++ bs.take k)[i] = (l ++ bs)[i] := by
    by_cases hl : i < l.length
    · rw [List.getElem_append_left hl, List.getElem_append_left hl]
    · rw [List.getElem_append_right (by omega), List.getElem_append_right (by omega), List.getElem_take]
  have h1 := h i hi2
  rw [e]
  refine ⟨h1.1, h1.2.1, ?_, h1.2.2.2⟩
  obtain ⟨hp, hv, hno⟩ := place_some h1.2.2.1
  refine place_is hi (by rw [e]) fun j hj => ?_
  have hj2 : j < (l ++ bs.take k).length := by omega
  have e2 : (l ++ bs.take k)[j] = (l ++ bs)[j]'(by omega) := by
    by_cases hl : j < l.length
    · rw [List.getElem_append_left hl, List.getElem_append_left hl]
    · rw [List.getElem_append_right (by omega), List.getElem_append_right (by omega), List.getElem_take]
  rw [e2]
  exact hno j hj

set_option maxRecDepth 100000 in
set_option maxHeartbeats 4000000 in
theorem bind_any {W : World} {B sb K lo : Nat} {l bs : List Bd} {svS mv svb : Value} {xs xsb : List Value} (h : SMem W B sb l K svS mv xs) (hb : BRow W B lo bs svb xsb) (hn : ∀ b, svb.ownBlock = some b → ¬ owned sb svS mv b) (hok : okL (l ++ bs)) (hlen : (l ++ bs).length ≤ 1000) (hK : K ≤ 1000000000) :
    Calls Try.prog 65 #[.pointer (some ⟨sb, 0, none⟩), svb] W fun e W' => BindPost W B sb (l ++ bs) (K + bs.length) svS mv e W' := by
  obtain ⟨gb, cb, rfl⟩ := hb.slice
  obtain ⟨⟨c0, c1⟩, f0, f1⟩ := row2 h.box
  have hbl := h.low.box
  have hbs : bs.length ≤ 1000 := by rw [List.length_append] at hlen; omega
  have HS := Lib.hid h
  have HB := Lib.hid hb
  have HN := Lib.hid hn
  have HOK := Lib.hid hok
  have HLEN := Lib.hid hlen
  have hq := fun (w : World) (r : Option Nat) => run_eql_map_nil (P := Try.prog) w 93 3 3 r Try.underlying93
  have hmk := @run_makeMap Try.prog
  clear h hb hn hok hlen
  have hmv : ∃ r, mv = .map r := by
    rcases HS.out.map with ⟨e, _⟩ | ⟨m, e, _⟩
    · exact ⟨none, e⟩
    · exact ⟨some m, e⟩
  obtain ⟨r, rfl⟩ := hmv
  go_enter Try.func65, Try.ntmps65
  go_upto_if 10 with fail
  go_cut [] (fun wx => ∃ m, Hid (∃ xs', SMem wx B sb l K svS (.map (some m)) xs' ∧ SFr B sb svS (.map r) svS (.map (some m)) W wx ∧ BRow wx B lo bs (.slice gb bs.length cb) xsb))
  case first =>
    cases r with
    | none =>
      have hm := HS.out.mapped
      have hbr := HB.out.keep (W' := (W.alloc (.map #[] 0)).setCell ⟨sb, 1, none⟩ (.map (some W.heap.size))) (fun b hb => hm.2.block b (by have := HS.out.lo; omega) (fun ho => by
        have hlo := HS.out.lo
        rcases ho with e | e | e
        · omega
        · have := (HS.out.row.lt b e).1; omega
        · cases e)) (fun b e => hm.2.block b (HB.out.row.lt b e).2 (HN.out b e))
      have heq : (W.alloc (.map #[] 0)).setCell ⟨sb, 1, none⟩ (.map (some W.heap.size)) = (W.setCell ⟨sb, 1, none⟩ (.map (some W.heap.size))).alloc (.map #[] 0) := by simp [go_sem, hbl]
      rw [heq] at hm hbr
      have HM := Lib.hid (And.intro hm hbr)
      clear hm hbr heq
      go_wp2_with fail
      go_meet
      case rel => exact ⟨W.heap.size, _, HM.out.1.1, HM.out.1.2, HM.out.2⟩
    | some m =>
      go_wp2_with fail
      go_meet
      case rel => exact ⟨m, _, HS.out, SFr.refl _ _ _ _ _, HB.out⟩
  case rest =>
    obtain ⟨m, hc⟩ := hcut
    obtain ⟨xs', hS1, hfr1, hB1⟩ := hc.out
    have HS1 := Lib.hid hS1
    have HF1 := Lib.hid hfr1
    have HB1 := Lib.hid hB1
    clear hc hS1 hfr1 hB1 hq hmk c0 c1 f0 f1
    go_wp2_with fail
    go_loopw [17] (fun ii wr => ∃ (k : Nat) (svS' : Value) (xs2 : List Value), k ≤ bs.length ∧ ii = .int .i64 (k : Nat) ∧ Hid (SMem wr B sb (l ++ bs.take k) (K + k) svS' (.map (some m)) xs2) ∧ Hid (SFr B sb svS (.map r) svS' (.map (some m)) W wr) ∧ Hid (BRow wr B lo bs (.slice gb bs.length cb) xsb)) (fun ii _ => bs.length - (intOf ii).toNat)
    case atStart => exact ⟨0, svS, xs', Nat.zero_le _, rfl, by rw [List.take_zero, List.append_nil]; exact HS1.out, HF1.out, HB1.out⟩
    case round =>
      obtain ⟨k, svS', xs2, hk, rfl, hs2, hf2, hb2⟩ := hrel
      have HS2 := Lib.hid hs2.out
      have HF2 := Lib.hid hf2.out
      have HB2 := Lib.hid hb2.out
      clear hs2 hf2 hb2
      by_cases hkl : k < bs.length
      · obtain ⟨gbb, svx, rfl, _, hgb, g0, g1, g2, g3, g4, hin⟩ := HB2.out.get k hkl
        obtain ⟨ga, ca, rfl⟩ := inn_sl hin
        obtain ⟨⟨c0, c1⟩, f0, f1⟩ := row2 HS2.out.box
        obtain ⟨gs, cs, hss⟩ := HS2.out.slice
        subst hss
        have hlk : (l ++ bs.take k).length = l.length + k := by rw [List.length_append, List.length_take]; omega
        have hlx := HLEN.out
        rw [List.length_append] at hlx
        obtain ⟨x, hx⟩ : ∃ x, bs[k] = x := ⟨_, rfl⟩
        have hok1 := okL_take HOK.out (k + 1)
        rw [take_app_succ hkl, hx] at hok1
        rw [hx] at g0 g1 g2 g3 g4 hin
        obtain ⟨nl, hnl⟩ : ∃ nl, (l ++ bs.take k).length = nl := ⟨_, rfl⟩
        have hnl1 : nl + 1 ≤ 1000 := by omega
        have hxw : (Lit.int .i64 x.v).wf = true := okL_wf hok1 x (by simp)
        have HIN := Lib.hid hin
        have HOK1 := Lib.hid hok1
        have HX := Lib.hid hx
        have HNL := Lib.hid hnl
        have hs2n := HS2.out
        have hf2n := HF2.out
        rw [hnl] at hs2n hf2n
        have HS2 := Lib.hid hs2n
        have HF2 := Lib.hid hf2n
        have HXW := Lib.hid hxw
        rw [hnl] at c0
        have hsl := HS2.out.low.box
        have hk0 : (0 : Int) ≤ (k : Int) := by omega
        have hk1 : (k : Int) < (bs.length : Int) := by omega
        clear hin hok1 hx hxw hlk hlx hs2n hf2n
        obtain ⟨W1, hW1⟩ : ∃ W1, wr.alloc (.cells #[.int .i64 x.v, .int .i64 x.t.kind, .string x.t.name, .int .i64 x.t.n, .slice ga x.t.args.length ca] 33) = W1 := ⟨_, rfl⟩
        have HW1 := Lib.hid hW1
        clear hW1 hnl
        go_upto_region 5 with fail
        rw [HW1.out]
        have hbw1 : Below wr.heap.size wr W1 := by rw [← HW1.out]; exact (Below.refl _ _).alloc (Nat.le_refl _) _
        have hs1 : W1.heap.size = wr.heap.size + 1 := by rw [← HW1.out]; simp
        obtain ⟨⟨d0, d1, d2, d3, d4⟩, _⟩ := row5 (show W1.heap[wr.heap.size]? = some (Obj.cells #[.int .i64 x.v, .int .i64 x.t.kind, .string x.t.name, .int .i64 x.t.n, .slice ga x.t.args.length ca] 33 (0, 0)) by rw [← HW1.out]; exact newBlk _ _ _ rfl)
        have e0 : W1.cell? ⟨sb, 0, none⟩ = some (.slice gs nl cs) := (hbw1.cell (p := ⟨sb, 0, none⟩) hsl).trans c0
        have e1 : W1.cell? ⟨sb, 1, none⟩ = some (.map (some m)) := (hbw1.cell (p := ⟨sb, 1, none⟩) hsl).trans c1
        have HBW1 := Lib.hid hbw1
        have HSZ1 := Lib.hid hs1
        have hS1 := HS2.out.next hbw1
        obtain ⟨D, hD1, hD2⟩ : ∃ D, W1.ownsMap Try.prog 3 (plainElem (H := Unit) Try.prog 3) m (K + k) D ∧ ∀ v, (∀ i, place (l ++ bs.take k) v = some i → has D (.int .i64 v) = true ∧ D.atKey (.int .i64 v) (.lit (.int .i64 0)) = .lit (.int .i64 (i : Int))) ∧ (place (l ++ bs.take k) v = none → has D (.int .i64 v) = false) := by
          rcases hS1.map with ⟨e, _⟩ | ⟨m', e, h1, _⟩
          · cases e
          · injection e with e
            injection e with e
            subst e
            exact h1
        have HD1 := Lib.hid hD1
        have HD2 := Lib.hid hD2
        have hkm : K + k < maxLen := by unfold maxLen; omega
        have HIW := Lib.hid (show (Lit.int .i64 (nl : Int)).wf = true from WalkArith.wf_i64 (by omega))
        clear hbw1 hs1 hS1 hD1 hD2 c0 c1 HW1
        go_still_tail 11, (by kernel_rfl)
        go_wp2_with (at_mapUpdate; refine wpList_mapUpdate_own _ rfl _ _ _ 93 rfl 3 3 (Maps.int_keyed Try.underlying3) Try.underlying93 _ m (K + k) _ rfl HD1.out hkm _ _ _ rfl rfl (Maps.keyOf_int_mk Try.underlying3 HXW.out) _ [] (plainElem_int Try.underlying3 HIW.out) ?_; intro w3 hown3 hgrow3)
        have hsm : sb ≠ m := fun e => by
          rcases HS2.out.map with ⟨e', _⟩ | ⟨m', e', _, _, _, h4⟩
          · cases e'
          · injection e' with e'
            injection e' with e'
            exact h4 (by rw [← e', e])
        have hml := (HS2.out.low.map m rfl)
        have hs3 : wr.heap.size + 1 ≤ w3.heap.size := by rw [← HSZ1.out]; exact hgrow3.size
        have hb3 : ∀ b, b < wr.heap.size + 1 → b ≠ m → w3.heap[b]? = W1.heap[b]? := fun b h1 h2 => hgrow3.block b (by show b < W1.heap.size; rw [HSZ1.out]; exact h1) (fun e => h2 (Option.some.inj e))
        have k0 : w3.cell? ⟨sb, 0, none⟩ = some (.slice gs nl cs) := (World.cell?_of_block (a := ⟨sb, 0, none⟩) (hb3 sb (by omega) hsm)).trans e0
        have hbq : w3.heap[wr.heap.size]? = W1.heap[wr.heap.size]? := hb3 _ (by omega) (by omega)
        have k1 : w3.cell? ⟨wr.heap.size, 0, none⟩ = some (.int .i64 x.v) := (World.cell?_of_block (a := ⟨wr.heap.size, 0, none⟩) hbq).trans d0
        have k2 : w3.cell? ⟨wr.heap.size, 1, none⟩ = some (.int .i64 x.t.kind) := (World.cell?_of_block (a := ⟨wr.heap.size, 1, none⟩) hbq).trans d1
        have k3 : w3.cell? ⟨wr.heap.size, 2, none⟩ = some (.string x.t.name) := (World.cell?_of_block (a := ⟨wr.heap.size, 2, none⟩) hbq).trans d2
        have k4 : w3.cell? ⟨wr.heap.size, 3, none⟩ = some (.int .i64 x.t.n) := (World.cell?_of_block (a := ⟨wr.heap.size, 3, none⟩) hbq).trans d3
        have k5 : w3.cell? ⟨wr.heap.size, 4, none⟩ = some (.slice ga x.t.args.length ca) := (World.cell?_of_block (a := ⟨wr.heap.size, 4, none⟩) hbq).trans d4
        have hS1 : SMem W1.drew B sb (l ++ bs.take k) (K + k) (.slice gs nl cs) (.map (some m)) xs2 := by
          exact (HS2.out.next HBW1.out).keep (W' := W1.drew) (fun _ _ => rfl)
        have hbox3 : w3.heap[sb]? = some (.cells #[.slice gs nl cs, .map (some m)] 95 (0, 0)) := (hb3 sb (by omega) hsm).trans hS1.box
        have hrow3 : w3.ownsRow B 33 5 (.slice gs nl cs) nl xs2 := by
          have h0 := hS1.row
          rw [HNL.out] at h0
          refine ownsRow_block h0 fun b e => ?_
          have h2 := h0.lt b e
          refine hgrow3.block b h2.2 (fun e' => ?_)
          rcases HS2.out.map with ⟨e2, _⟩ | ⟨m', e2, _, _, h3, _⟩
          · cases e2
          · injection e2 with e2
            injection e2 with e2
            exact h3 (by rw [← e2]; exact e.trans e')
        have hfin : ∀ (Wa W5 : World) (g c : Nat), Below w3.heap.size w3 Wa → W5.ownsRow B 33 5 (.slice (some ⟨g, 0, none⟩) (nl + 1) c) (nl + 1) (xs2 ++ [.int .i64 x.v, .int .i64 x.t.kind, .string x.t.name, .int .i64 x.t.n, .slice ga x.t.args.length ca]) → Wa.grownBy W5 (Value.slice gs nl cs).ownBlock → ((Value.slice gs nl cs).ownBlock = some g ∨ g = Wa.heap.size) →
            SMem (W5.setCell ⟨sb, 0, none⟩ (.slice (some ⟨g, 0, none⟩) (nl + 1) c)) B sb (l ++ bs.take (k + 1)) (K + (k + 1)) (.slice (some ⟨g, 0, none⟩) (nl + 1) c) (.map (some m)) (xs2 ++ [.int .i64 x.v, .int .i64 x.t.kind, .string x.t.name, .int .i64 x.t.n, .slice ga x.t.args.length ca]) ∧
            SFr B sb svS (.map r) (.slice (some ⟨g, 0, none⟩) (nl + 1) c) (.map (some m)) W (W5.setCell ⟨sb, 0, none⟩ (.slice (some ⟨g, 0, none⟩) (nl + 1) c)) := fun Wa W5 g c h1 h2 h3 h4 => by
          have hnl := HNL.out
          have hm1 := MapF.put (u := x.v) (i := nl) HD1.out HD2.out hown3
          subst hnl
          have h5 := SMem.more hS1 (x := x) (Tm.inn_below HIN.out (HBW1.out.drew) (by have := HS2.out.lo; omega)) HOK1.out hnl1 hgrow3 hm1 h1 h2 h3 h4
          rw [take_app_succ hkl, HX.out]
          exact ⟨h5.1, HF2.out.trans ((SFr.of HBW1.out.drew).trans h5.2)⟩
        have hbrow : ∀ (Wa W5 : World) (g c : Nat), Below w3.heap.size w3 Wa → Wa.grownBy W5 (Value.slice gs nl cs).ownBlock → BRow (W5.setCell ⟨sb, 0, none⟩ (.slice (some ⟨g, 0, none⟩) (nl + 1) c)) B lo bs (.slice (some ⟨gbb, 0, none⟩) bs.length cb) xsb := fun Wa W5 g c h1 h3 => by
          have hsa := h1.size
          have hlo := HS2.out.lo
          have hch : ∀ b, b < wr.heap.size → b ≠ m → b ≠ sb → (Value.slice gs nl cs).ownBlock ≠ some b → (W5.setCell ⟨sb, 0, none⟩ (.slice (some ⟨g, 0, none⟩) (nl + 1) c)).heap[b]? = wr.heap[b]? := fun b hb h4 h5 h6 =>
            (Below.heap_setCell _ _ _ _ h5).trans ((h3.block b (by omega) (fun e => h6 e.symm)).trans ((h1.block b (by omega)).trans ((hb3 b (by omega) h4).trans (HBW1.out.block b hb))))
          have hno : ∀ b, b < wr.heap.size → ¬ owned sb (.slice gs nl cs) (.map (some m)) b → (W5.setCell ⟨sb, 0, none⟩ (.slice (some ⟨g, 0, none⟩) (nl + 1) c)).heap[b]? = wr.heap[b]? := fun b hb h4 => hch b hb (fun e => h4 (.inr (.inr (by rw [e])))) (fun e => h4 (.inl e)) (fun e => h4 (.inr (.inl e)))
          have hBm : B ≤ m := by
            rcases HS2.out.map with ⟨e2, _⟩ | ⟨m', e2, _, h3, _⟩
            · cases e2
            · injection e2 with e2
              injection e2 with e2
              rw [e2]; exact h3
          refine HB2.out.keep (fun b hb => hch b (by omega) (by omega) (by omega) (fun e => ?_)) (fun b e => ?_)
          · have := (hrow3.lt b e).1; omega
          · have hbl2 := (HB2.out.row.lt b e).2
            refine hno b hbl2 ?_
            have hnw : b < W.heap.size := (HB.out.row.lt b e).2
            exact HF2.out.new b hnw (HN.out b e)
        have HFIN := Lib.hid hfin
        have HBROW := Lib.hid hbrow
        have HROW3 := Lib.hid hrow3
        have hB3 : B ≤ w3.heap.size := by have := HS2.out.lo; omega
        have hsb3 : sb < w3.heap.size := by omega
        have hq3 : wr.heap.size < w3.heap.size := by omega
        obtain ⟨kf0, kf1⟩ := (row2 hbox3).2
        have hbx5 : ∀ (Wa W5 : World), Below w3.heap.size w3 Wa → Wa.grownBy W5 (Value.slice gs nl cs).ownBlock → W5.heap[sb]? = some (.cells #[.slice gs nl cs, .map (some m)] 95 (0, 0)) := fun Wa W5 h1 h3 =>
          (h3.block sb (by have := h1.size; omega) (fun e => by
            exact HS2.out.sep e.symm)).trans ((h1.block sb hsb3).trans hbox3)
        have HBX5 := Lib.hid hbx5
        clear hfin hbrow hrow3 hbox3 hS1 hb3 hbq hgrow3 hown3 HD1 HD2 d0 d1 d2 d3 d4 e0 e1 hs3 hsm hml hbx5
        go_region_law ((refine step_append_row (by rfl) _ _ (by rfl) Try.underlying22 Try.infoBd rfl (by decide) B (.slice gs nl cs) nl xs2 (by rfl) (by first | exact (World.ownsRow.alloc HROW3.out _) | exact HROW3.out.alloc _) w3.heap.size 1 [.int .i64 x.v, .int .i64 x.t.kind, .string x.t.name, .int .i64 x.t.n, .slice ga x.t.args.length ca] (by rfl) rfl (news_any _ (by first | rfl | simp)) (by simp [Value.oneCell']) (by unfold maxLen; omega) (by omega) (by simp; omega) ?_; intro g c w5 hown5 hgrow5 hsep5; obtain ⟨⟨z0, z1⟩, zf0, zf1⟩ := row2 (HBX5.out _ w5 ((Below.refl _ _).alloc (Nat.le_refl _) _).drew hgrow5)))
        all_goals go_wp2_with fail
        all_goals have hend := HFIN.out _ w5 g c ((Below.refl _ _).alloc (Nat.le_refl _) _).drew hown5 hgrow5 hsep5
        all_goals have hbr := HBROW.out _ w5 g c ((Below.refl _ _).alloc (Nat.le_refl _) _).drew hgrow5
        all_goals have hms : bs.length - (intOf (Value.int IntKind.i64 (↑k + 1))).toNat < bs.length - (intOf (Value.int IntKind.i64 ↑k)).toNat := by clear hend hbr hown5 hgrow5 hsep5; simp [intOf]; omega
        all_goals exact ⟨⟨k + 1, _, _, hkl, rfl, hend.1, hend.2, hbr⟩, hms⟩
      · obtain rfl : k = bs.length := by omega
        have hfin := HS2.out
        rw [List.take_of_length_le (Nat.le_refl _)] at hfin
        have HFIN := Lib.hid hfin
        clear hfin
        go_wp2_with fail
        (try simp only [Exit.inBlock, Exit.then])
        refine bodyPost_ret (results_none rfl _ _ _) rfl ?_
        exact ⟨rfl, _, _, _, HFIN.out, HF2.out, (fun h => by cases h)⟩
end Go.Proofs.Ytgnbjhiafjpokaa
