/-
  The document's reader in memory; its fail, see, need.
  The document's operators, by their texts.
  append, whatever is appended: nothing too.
  The document's variables: the number of a text.
  The document's reader: what its functions are to do, whether something is amiss or not.
-/
import Derived.Test.YtilfglcjcmpfeaaGreatDoorRd
import Derived.Test.YtilfglcjcmpfeaaGreatDoorTmP
import Derived.Test.YtilfglcjcmpfeaaGreatDoorTkIn
import Derived.BigQuiet
import Derived.Deep.QuietTactic
import Derived.Maps.AppendAt
import Derived.StillTailTactics
import Derived.Test.YtilfglcjcmpfeaaGreatDoorChecked
import Derived.WalkKit
import Derived.RegionTactic
import Derived.Deep.CutRange
import Derived.Deep.LoopGhost
namespace Go.Proofs.YtilfglcjcmpfeaaGreatDoor
open Go.RowKit

/-- A row of texts in memory, in blocks that 'ok' allows. -/
def namesP (w : World) (ok : Nat → Prop) (l : Names) (sv : Value) : Prop :=
  ∃ g cap, sv = .slice g l.length cap ∧ l.length ≤ cap ∧ (l = [] ∨ ∃ b off, g = some ⟨b, off, none⟩ ∧ ok b ∧ ∀ i (h : i < l.length), w.cell? ⟨b, off + i, none⟩ = some (.string ⟨l[i].toArray⟩))
theorem namesP_same {w w' : World} {ok ok' : Nat → Prop} {l : Names} {sv : Value} (hB : ∀ b, ok b → ok' b) (hc : ∀ b o v, ok b → w.cell? ⟨b, o, none⟩ = some v → w'.cell? ⟨b, o, none⟩ = some v) (h : namesP w ok l sv) : namesP w' ok' l sv := by
  obtain ⟨g, cap, rfl, h1, h⟩ := h
  refine ⟨g, cap, rfl, h1, ?_⟩
  rcases h with h | ⟨b, off, rfl, hb, h⟩
  · exact .inl h
  · exact .inr ⟨b, off, rfl, hB b hb, fun i hi => hc b _ _ hb (h i hi)⟩
/-- Tokens in memory, in a block that 'ok' allows. -/
def toksP (w : World) (ok : Nat → Prop) (l : Toks) (sv : Value) : Prop :=
  ∃ g cap, sv = .slice g l.length cap ∧ (l = [] ∨ ∃ b off, g = some ⟨b, off, none⟩ ∧ ok b ∧ ∀ i (h : i < l.length),
    w.cell? ⟨b, off + i * 5, none⟩ = some (.int .i64 (l[i].1.kind : Nat)) ∧ w.cell? ⟨b, off + i * 5 + 1, none⟩ = some (.string ⟨l[i].1.text.toArray⟩) ∧ w.cell? ⟨b, off + i * 5 + 2, none⟩ = some (.int .i64 (l[i].1.n : Nat)) ∧ w.cell? ⟨b, off + i * 5 + 3, none⟩ = some (.int .i64 (l[i].2 : Nat)) ∧ w.cell? ⟨b, off + i * 5 + 4, none⟩ = some (.bool l[i].1.opn))
theorem toksP_same {w w' : World} {ok : Nat → Prop} {l : Toks} {sv : Value} (hc : ∀ b o v, ok b → w.cell? ⟨b, o, none⟩ = some v → w'.cell? ⟨b, o, none⟩ = some v) (h : toksP w ok l sv) : toksP w' ok l sv := by
  obtain ⟨g, cap, rfl, h⟩ := h
  refine ⟨g, cap, rfl, ?_⟩
  rcases h with h | ⟨b, off, rfl, hb, h⟩
  · exact .inl h
  · refine .inr ⟨b, off, rfl, hb, fun i hi => ?_⟩
    obtain ⟨h0, h1, h2, h3, h4⟩ := h i hi
    exact ⟨hc _ _ _ hb h0, hc _ _ _ hb h1, hc _ _ _ hb h2, hc _ _ _ hb h3, hc _ _ _ hb h4⟩
theorem toksP_at {w : World} {ok : Nat → Prop} {l : Toks} {sv : Value} (h : toksP w ok l sv) (i : Nat) (hi : i < l.length) : ∃ b off cap, sv = .slice (some ⟨b, off, none⟩) l.length cap ∧ ok b ∧
    w.cell? ⟨b, off + i * 5, none⟩ = some (.int .i64 (l[i].1.kind : Nat)) ∧ w.cell? ⟨b, off + i * 5 + 1, none⟩ = some (.string ⟨l[i].1.text.toArray⟩) ∧ w.cell? ⟨b, off + i * 5 + 2, none⟩ = some (.int .i64 (l[i].1.n : Nat)) ∧ w.cell? ⟨b, off + i * 5 + 3, none⟩ = some (.int .i64 (l[i].2 : Nat)) ∧ w.cell? ⟨b, off + i * 5 + 4, none⟩ = some (.bool l[i].1.opn) := by
  obtain ⟨g, cap, rfl, h | ⟨b, off, rfl, hb, h⟩⟩ := h
  · subst h; simp at hi
  · exact ⟨b, off, cap, rfl, hb, h i hi⟩
/-- Blocks that are none of those that stores go to. -/
def okN (X : Nat → Prop) (W : World) (b : Nat) : Prop := ¬ X b ∧ b < W.heap.size
/-- The reader: a text, its tokens, how far they were read, the variables' texts; nothing is amiss. -/
structure Rdr (X : Nat → Prop) (W : World) (rb : Nat) (s : ByteArray) (L : Toks) (lv : Value) (a : Nat) (ns : Names) : Prop where
  cells : ∃ nv pl, W.heap[rb]? = some (.cells #[.string s, lv, .int .i64 (a : Nat), nv, .int .i64 0, .int .i64 (pl : Nat)] 74 (0, 0)) ∧ namesP W (okN X W) ns nv
  toks : toksP W (okN X W) L lv
  le : a ≤ L.length
  own : X rb
  old : ∀ b, X b → b < W.heap.size
/-- Something is amiss. -/
def Amiss (W : World) (rb : Nat) (code pl : Nat) : Prop := ∃ s lv a nv, W.heap[rb]? = some (.cells #[s, lv, .int .i64 (a : Nat), nv, .int .i64 (code : Nat), .int .i64 (pl : Nat)] 74 (0, 0))
theorem row6 {w : World} {b : Nat} {a0 a1 a2 a3 a4 a5 : Value} {t : TypeId} (h : w.heap[b]? = some (Obj.cells #[a0, a1, a2, a3, a4, a5] t (0, 0))) :
    (w.cell? ⟨b, 0, none⟩ = some a0 ∧ w.cell? ⟨b, 1, none⟩ = some a1 ∧ w.cell? ⟨b, 2, none⟩ = some a2 ∧ w.cell? ⟨b, 3, none⟩ = some a3 ∧ w.cell? ⟨b, 4, none⟩ = some a4 ∧ w.cell? ⟨b, 5, none⟩ = some a5) ∧
    (w.frozen? ⟨b, 0, none⟩ = false ∧ w.frozen? ⟨b, 1, none⟩ = false ∧ w.frozen? ⟨b, 2, none⟩ = false ∧ w.frozen? ⟨b, 3, none⟩ = false ∧ w.frozen? ⟨b, 4, none⟩ = false ∧ w.frozen? ⟨b, 5, none⟩ = false) := by
  simp [World.cell?, World.frozen?, h]
theorem set_blk {w : World} {b o : Nat} {v : Value} {cs : Array Value} {t : TypeId} {fz : Nat × Nat} (h : w.heap[b]? = some (Obj.cells cs t fz)) : (w.setCell ⟨b, o, none⟩ v).heap[b]? = some (.cells (cs.setIfInBounds o v) t fz) := by
  obtain ⟨hlt, hk⟩ := Array.getElem?_eq_some_iff.1 h
  show (w.heap.modify b _)[b]? = _
  rw [Array.getElem?_eq_getElem (by rw [Array.size_modify]; exact hlt), Array.getElem_modify_self, hk]
  rfl
theorem okN_grown {X : Nat → Prop} {W W' : World} {r : Option Nat} (hg : W.grownBy W' r) (b : Nat) (h : okN X W b) : okN X W' b := ⟨h.1, Nat.lt_of_lt_of_le h.2 hg.size⟩
theorem cell_grown {X : Nat → Prop} {W W' : World} {rb : Nat} (hX : X rb) (hg : W.grownBy W' (some rb)) (b o : Nat) (v : Value) (hb : okN X W b) (h : W.cell? ⟨b, o, none⟩ = some v) : W'.cell? ⟨b, o, none⟩ = some v := hg.cell h (fun e => hb.1 (by cases e; exact hX))
theorem grown_set (W : World) (b o : Nat) (v : Value) : W.grownBy (W.setCell ⟨b, o, none⟩ v) (some b) :=
  ⟨rfl, rfl, rfl, by simp [World.setCell], fun k _ hk => Below.heap_setCell _ _ _ k (fun e => hk (by rw [e]))⟩
theorem grown_dn {W W' : World} {r : Option Nat} (h : W.grownBy W' r) (n : Nat) : W.grownBy (W'.drewN n) r := ⟨h.os, h.tape, h.output, h.size, h.block⟩
theorem toksP_mono {X : Nat → Prop} {w w' : World} {rb : Nat} {l : Toks} {sv : Value} (hX : X rb) (hg : w.grownBy w' (some rb)) (h : toksP w (okN X w) l sv) : toksP w' (okN X w') l sv := by
  obtain ⟨g, cap, rfl, h2⟩ := toksP_same (fun b o v hb hc => cell_grown hX hg b o v hb hc) h
  refine ⟨g, cap, rfl, ?_⟩
  rcases h2 with h2 | ⟨b, off, rfl, hb, h2⟩
  · exact .inl h2
  · exact .inr ⟨b, off, rfl, okN_grown hg b hb, h2⟩
theorem Rdr.dn {X : Nat → Prop} {W : World} {rb : Nat} {s : ByteArray} {L : Toks} {lv : Value} {a : Nat} {ns : Names} (h : Rdr X W rb s L lv a ns) (n : Nat) : Rdr X (W.drewN n) rb s L lv a ns := ⟨h.cells, h.toks, h.le, h.own, h.old⟩
/-- What lies in memory keeps a reader that is not written. -/
theorem Rdr.next {X : Nat → Prop} {W W' : World} {rb : Nat} {s : ByteArray} {L : Toks} {lv : Value} {a : Nat} {ns : Names} (h : Rdr X W rb s L lv a ns) (hb : Below W.heap.size W W') : Rdr X W' rb s L lv a ns := by
  obtain ⟨nv, pl, h1, h2⟩ := h.cells
  have hg : W.grownBy W' (some rb) := ⟨hb.os, hb.tape, hb.output, hb.size, fun k hk _ => hb.block k hk⟩
  exact ⟨⟨nv, pl, (hb.block rb (Array.getElem?_eq_some_iff.1 h1).1).trans h1, namesP_same (okN_grown hg) (cell_grown h.own hg) h2⟩, toksP_mono h.own hg h.toks, h.le, h.own, fun b hb => Nat.lt_of_lt_of_le (h.old b hb) hg.size⟩
theorem Rdr.lt {X : Nat → Prop} {W : World} {rb : Nat} {s : ByteArray} {L : Toks} {lv : Value} {a : Nat} {ns : Names} (h : Rdr X W rb s L lv a ns) : rb < W.heap.size := by
  obtain ⟨nv, pl, h1, _⟩ := h.cells
  exact (Array.getElem?_eq_some_iff.1 h1).1
/-- One token further. -/
theorem Rdr.step {X : Nat → Prop} {W : World} {rb : Nat} {s : ByteArray} {L : Toks} {lv : Value} {a a' : Nat} {ns : Names} (h : Rdr X W rb s L lv a ns) (ha : a' ≤ L.length) : Rdr X (W.setCell ⟨rb, 2, none⟩ (.int .i64 (a' : Nat))) rb s L lv a' ns := by
  obtain ⟨nv, pl, h1, h2⟩ := h.cells
  have hg := grown_set W rb 2 (.int .i64 (a' : Nat))
  exact ⟨⟨nv, pl, set_blk h1, namesP_same (okN_grown hg) (cell_grown h.own hg) h2⟩, toksP_mono h.own hg h.toks, ha, h.own, fun b hb => Nat.lt_of_lt_of_le (h.old b hb) hg.size⟩
def FailPost (W : World) (rb code pl : Nat) (e : Ending) (W' : World) : Prop := e = .returned (.tuple #[]) ∧ W.grownBy W' (some rb) ∧ Amiss W' rb code pl
set_option maxRecDepth 100000 in
set_option maxHeartbeats 2000000 in
theorem fail_any {X : Nat → Prop} (W : World) (rb : Nat) (s : ByteArray) (L : Toks) (lv : Value) (a : Nat) (ns : Names) (code : Nat) (h : Rdr X W rb s L lv a ns) (_hs : s.size ≤ 1000000) (hL : L.length ≤ 1000000) :
    Calls Tryz.prog 21 #[.pointer (some ⟨rb, 0, none⟩), .int .i64 (code : Nat)] W fun e W' => FailPost W rb code (placeT (bs s) (L.drop a)) e W' := by
  obtain ⟨nv, pl, hblk, hns⟩ := h.cells
  obtain ⟨⟨c0, c1, c2, c3, c4, c5⟩, f0, f1, f2, f3, f4, f5⟩ := row6 hblk
  have hlt := h.lt
  have HB := Lib.hid hblk
  have HT := Lib.hid h.toks
  have hle := h.le
  obtain ⟨g, cap, rfl, _⟩ := id h.toks
  by_cases ha : a < L.length
  · obtain ⟨b, off, cap', e1, hb, x0, x1, x2, x3, x4⟩ := toksP_at h.toks a ha
    injection e1 with e1 _ e3
    subst e1 e3
    have hp : placeT (bs s) (L.drop a) = L[a].2 := by rw [List.drop_eq_getElem_cons ha]; rfl
    rw [hp]
    obtain ⟨p, hp'⟩ : ∃ p, L[a].2 = p := ⟨_, rfl⟩
    rw [hp'] at x3 ⊢
    have hbn : b ≠ rb := fun e => hb.1 (by rw [e]; exact h.own)
    have hb2 : b < W.heap.size := hb.2
    have j0 : (0 : Int) ≤ (a : Int) := by omega
    have j1 : (a : Int) < (L.length : Int) := by omega
    have jw : IntKind.i64.wrap (a : Int) = (a : Int) := by rw [IntKind.wrap_i64]; omega
    clear h hns hp hp' hblk x0 x1 x2 x4 hb
    have x3' := fun (V : World) (hg : W.grownBy V (some rb)) => hg.cell x3 (show some b ≠ some rb by simp [hbn])
    have HX := Lib.hid x3'
    clear x3'
    go_enter Tryz.func21, Tryz.ntmps21
    go_wp2_with fail
    have hb1 := set_blk (o := 5) (v := .int .i64 (s.size : Nat)) (set_blk (o := 4) (v := .int .i64 (code : Nat)) HB.out)
    have hg1 : W.grownBy ((W.setCell ⟨rb, 4, none⟩ (.int .i64 (code : Nat))).setCell ⟨rb, 5, none⟩ (.int .i64 (s.size : Nat))) (some rb) := (grown_set W rb 4 _).trans (grown_set _ rb 5 _)
    generalize (W.setCell ⟨rb, 4, none⟩ (.int .i64 (code : Nat))).setCell ⟨rb, 5, none⟩ (.int .i64 (s.size : Nat)) = W1 at hb1 hg1 ⊢
    clear c0 c1 c2 c3 c4 c5 f0 f1 f2 f3 f4 f5 x3
    have x3 := HX.out W1 hg1
    obtain ⟨⟨c0, c1, c2, c3, c4, c5⟩, f0, f1, f2, f3, f4, f5⟩ := row6 hb1
    have HB1 := Lib.hid hb1
    have HG1 := Lib.hid hg1
    clear hb1 hg1
    go_quiet (fail)
    go_wp2_with fail
    have hb2 : (W1.drewN nq).heap[rb]? = _ := HB1.out
    have hg2 := grown_dn HG1.out nq
    have x3 : (W1.drewN nq).cell? _ = _ := x3
    generalize W1.drewN nq = W2 at hb2 hg2 x3 ⊢
    clear c0 c1 c2 c3 c4 c5 f0 f1 f2 f3 f4 f5
    obtain ⟨⟨c0, c1, c2, c3, c4, c5⟩, f0, f1, f2, f3, f4, f5⟩ := row6 hb2
    have HB2 := Lib.hid hb2
    have HG2 := Lib.hid hg2
    clear hb2 hg2
    go_still_tail 14, (by kernel_rfl)
    go_wp2_with fail
    go_end0
    have hb3 : ((W2.setCell ⟨rb, 5, none⟩ (.int .i64 (p : Nat))).drew).heap[rb]? = _ := set_blk HB2.out
    exact ⟨rfl, HG2.out.trans (grown_dn (grown_set W2 rb 5 _) 1), _, _, a, _, hb3⟩
  · have hp : placeT (bs s) (L.drop a) = s.size := by
      rw [List.drop_eq_nil_of_le (by omega), placeT, bs_length]
    rw [hp]
    obtain rfl : a = L.length := by omega
    clear h hns hp hblk
    go_enter Tryz.func21, Tryz.ntmps21
    go_wp2_with fail
    have hb1 := set_blk (o := 5) (v := .int .i64 (s.size : Nat)) (set_blk (o := 4) (v := .int .i64 (code : Nat)) HB.out)
    have hg1 : W.grownBy ((W.setCell ⟨rb, 4, none⟩ (.int .i64 (code : Nat))).setCell ⟨rb, 5, none⟩ (.int .i64 (s.size : Nat))) (some rb) := (grown_set W rb 4 _).trans (grown_set _ rb 5 _)
    generalize (W.setCell ⟨rb, 4, none⟩ (.int .i64 (code : Nat))).setCell ⟨rb, 5, none⟩ (.int .i64 (s.size : Nat)) = W1 at hb1 hg1 ⊢
    clear c0 c1 c2 c3 c4 c5 f0 f1 f2 f3 f4 f5
    obtain ⟨⟨c0, c1, c2, c3, c4, c5⟩, f0, f1, f2, f3, f4, f5⟩ := row6 hb1
    have HB1 := Lib.hid hb1
    have HG1 := Lib.hid hg1
    clear hb1 hg1
    go_quiet (fail)
    go_wp2_with fail
    go_end0
    exact ⟨rfl, grown_dn HG1.out _, _, _, L.length, _, HB1.out⟩
set_option maxRecDepth 100000 in
/-- Once something is amiss it stays so. -/
theorem fail_bad (W : World) (rb c pl code : Nat) (h : Amiss W rb c pl) (hc : c = 2 ∨ c = 3) :
    Calls Tryz.prog 21 #[.pointer (some ⟨rb, 0, none⟩), .int .i64 (code : Nat)] W fun e W' => e = .returned (.tuple #[]) ∧ W = W' := by
  obtain ⟨s, lv, a, nv, hblk⟩ := h
  obtain ⟨⟨c0, c1, c2, c3, c4, c5⟩, f0, f1, f2, f3, f4, f5⟩ := row6 hblk
  have hlt := (Array.getElem?_eq_some_iff.1 hblk).1
  clear hblk
  rcases hc with rfl | rfl
  all_goals
    go_enter Tryz.func21, Tryz.ntmps21
    go_wp2_with fail
    refine bodyPost_ret (results_none rfl _ _ _) rfl ?_
    exact ⟨rfl, rfl⟩
def SeePost (W : World) (b : Bool) (e : Ending) (W' : World) : Prop := e = .returned (.bool b) ∧ ∃ n, W' = W.drewN n
set_option maxRecDepth 100000 in
set_option maxHeartbeats 2000000 in
theorem see_any {X : Nat → Prop} (W : World) (rb : Nat) (s : ByteArray) (L : Toks) (lv : Value) (a : Nat) (ns : Names) (m : UInt8) (h : Rdr X W rb s L lv a ns) (hL : L.length ≤ 1000000) :
    Calls Tryz.prog 39 #[.pointer (some ⟨rb, 0, none⟩), .string ⟨#[m]⟩] W fun e W' => SeePost W (seeT m (L.drop a)) e W' := by
  obtain ⟨nv, pl, hblk, hns⟩ := h.cells
  obtain ⟨⟨c0, c1, c2, c3, c4, c5⟩, f0, f1, f2, f3, f4, f5⟩ := row6 hblk
  have hlt := h.lt
  have hle := h.le
  obtain ⟨g, cap, rfl, _⟩ := id h.toks
  obtain ⟨B, hB⟩ : ∃ B, seeT m (L.drop a) = B := ⟨_, rfl⟩
  rw [hB]
  by_cases ha : a < L.length
  · obtain ⟨b, off, cap', e1, hb, x0, x1, x2, x3, x4⟩ := toksP_at h.toks a ha
    injection e1 with e1 _ e3
    subst e1 e3
    rw [List.drop_eq_getElem_cons ha] at hB
    obtain ⟨t, ht⟩ : ∃ t, L[a] = t := ⟨_, rfl⟩
    rw [ht] at hB x0 x1
    obtain ⟨⟨K, tx, n, o⟩, p⟩ := t
    dsimp only [seeT] at hB x0 x1
    have hb2 : b < W.heap.size := hb.2
    have j0 : (0 : Int) ≤ (a : Int) := by omega
    have j1 : (a : Int) < (L.length : Int) := by omega
    have jw : IntKind.i64.wrap (a : Int) = (a : Int) := by rw [IntKind.wrap_i64]; omega
    have hs1 : (⟨tx.toArray⟩ : ByteArray).toList = tx := by rw [bs_toList]; simp [bs]
    have hs2 : (⟨#[m]⟩ : ByteArray).toList = [m] := by rw [bs_toList]; rfl
    clear h hns hblk x2 x3 x4 hb ht
    by_cases hK : K = 4
    · subst hK
      by_cases htx : tx = [m]
      · obtain rfl : true = B := by rw [← hB]; simp [htx]
        have q1 : ((⟨tx.toArray⟩ : ByteArray).toList == (⟨#[m]⟩ : ByteArray).toList) = true := by rw [hs1, hs2, htx]; simp
        have HQ := Lib.hid (show (tx == [m]) = true by rw [htx]; simp)
        clear hB htx hs1 hs2
        go_enter Tryz.func39, Tryz.ntmps39
        go_wp2_with fail
        go_quiet (fail)
        go_wp2_with fail
        go_ret
        refine ⟨?_, _, rfl⟩
        show Ending.returned (.bool (tx == [m])) = _
        rw [HQ.out]
      · obtain rfl : false = B := by rw [← hB]; simp [htx]
        have q1 : ((⟨tx.toArray⟩ : ByteArray).toList == (⟨#[m]⟩ : ByteArray).toList) = false := by rw [hs1, hs2, beq_eq_false_iff_ne]; exact htx
        have HQ := Lib.hid (show (tx == [m]) = false by rw [beq_eq_false_iff_ne]; exact htx)
        clear hB htx hs1 hs2
        go_enter Tryz.func39, Tryz.ntmps39
        go_wp2_with fail
        go_quiet (fail)
        go_wp2_with fail
        go_ret
        refine ⟨?_, _, rfl⟩
        show Ending.returned (.bool (tx == [m])) = _
        rw [HQ.out]
    · obtain rfl : false = B := by rw [← hB]; simp [hK]
      have q1 : ((K : Int) == 4) = false := by rw [beq_eq_false_iff_ne]; omega
      clear hB hK hs1 hs2
      go_enter Tryz.func39, Tryz.ntmps39
      go_wp2_with fail
      go_quiet (fail)
      go_wp2_with fail
      go_ret
      exact ⟨rfl, _, rfl⟩
  · obtain rfl : a = L.length := by omega
    rw [List.drop_eq_nil_of_le (Nat.le_refl _)] at hB
    obtain rfl : false = B := hB
    clear h hns hblk
    go_enter Tryz.func39, Tryz.ntmps39
    go_wp2_with fail
    go_quiet (fail)
    go_wp2_with fail
    go_ret
    exact ⟨rfl, _, rfl⟩
set_option maxRecDepth 100000 in
set_option maxHeartbeats 2000000 in
theorem see_bad (W : World) (rb c pl : Nat) (m : UInt8) (h : Amiss W rb c pl) (hc : c = 2 ∨ c = 3) :
    Calls Tryz.prog 39 #[.pointer (some ⟨rb, 0, none⟩), .string ⟨#[m]⟩] W fun e W' => SeePost W false e W' := by
  obtain ⟨s, lv, a, nv, hblk⟩ := h
  obtain ⟨⟨c0, c1, c2, c3, c4, c5⟩, f0, f1, f2, f3, f4, f5⟩ := row6 hblk
  have hlt := (Array.getElem?_eq_some_iff.1 hblk).1
  clear hblk
  rcases hc with rfl | rfl
  all_goals
    go_enter Tryz.func39, Tryz.ntmps39
    go_wp2_with fail
    go_quiet (fail)
    go_wp2_with fail
    go_ret
    exact ⟨rfl, _, rfl⟩
def NeedPost (X : Nat → Prop) (W : World) (rb : Nat) (s : ByteArray) (L : Toks) (lv : Value) (ns : Names) (r : Except (Nat × Nat) Toks) (e : Ending) (W' : World) : Prop :=
  e = .returned (.tuple #[]) ∧ W.grownBy W' (some rb) ∧ ((∃ a', r = .ok (L.drop a') ∧ Rdr X W' rb s L lv a' ns) ∨ ∃ pl, r = .error (2, pl) ∧ Amiss W' rb 2 pl)
set_option maxRecDepth 100000 in
set_option maxHeartbeats 2000000 in
theorem need_any {X : Nat → Prop} (W : World) (rb : Nat) (s : ByteArray) (L : Toks) (lv : Value) (a : Nat) (ns : Names) (m : UInt8) (h : Rdr X W rb s L lv a ns) (hs : s.size ≤ 1000000) (hL : L.length ≤ 1000000) :
    Calls Tryz.prog 40 #[.pointer (some ⟨rb, 0, none⟩), .string ⟨#[m]⟩] W fun e W' => NeedPost X W rb s L lv ns (needT (bs s) m (L.drop a)) e W' := by
  have HS := Lib.hid (see_any W rb s L lv a ns m h hL)
  have HR := Lib.hid h
  cases hb : seeT m (L.drop a) with
  | true =>
    rw [hb] at HS
    have ha : a < L.length := by
      by_cases ha : a < L.length
      · exact ha
      · rw [List.drop_eq_nil_of_le (by omega)] at hb; cases hb
    have hn : needT (bs s) m (L.drop a) = .ok (L.drop (a + 1)) := by
      unfold needT
      rw [if_pos hb, List.tail_drop]
    rw [hn]
    have hlt := h.lt
    clear h hb hn
    go_enter Tryz.func40, Tryz.ntmps40
    go_wp2_with (go_at_call 39; (refine (HS.out).mono ?_); rintro e W1 ⟨rfl, q, rfl⟩; obtain ⟨nv, pl, hblk, hns⟩ := HR.out.cells; obtain ⟨⟨c0, c1, c2, c3, c4, c5⟩, f0, f1, f2, f3, f4, f5⟩ := row6 hblk; clear hblk hns)
    go_end0
    exact ⟨rfl, grown_dn (grown_set W rb 2 _) q, .inl ⟨a + 1, rfl, by
      have h1 := (HR.out.step (a' := a + 1) (by omega)).dn q
      exact h1⟩⟩
  | false =>
    rw [hb] at HS
    have hn : needT (bs s) m (L.drop a) = .error (2, placeT (bs s) (L.drop a)) := by
      unfold needT
      rw [hb]
      rfl
    rw [hn]
    have HF := Lib.hid (fun q => fail_any (W.drewN q) rb s L lv a ns 2 (h.dn q) hs hL)
    clear h hb hn
    go_enter Tryz.func40, Tryz.ntmps40
    go_wp2_with (first
      | (go_at_call 39; (refine (HS.out).mono ?_); rintro e W1 ⟨rfl, q, rfl⟩)
      | (go_at_call 21; (refine (HF.out _).mono ?_); rintro e W2 ⟨rfl, hg, hbad⟩; have HG := Lib.hid hg; have HBAD := Lib.hid hbad; clear hg hbad))
    go_end0
    exact ⟨rfl, ⟨HG.out.os, HG.out.tape, HG.out.output, HG.out.size, HG.out.block⟩, .inr ⟨_, rfl, HBAD.out⟩⟩
set_option maxRecDepth 100000 in
set_option maxHeartbeats 2000000 in
theorem need_bad (W : World) (rb c pl : Nat) (m : UInt8) (h : Amiss W rb c pl) (hc : c = 2 ∨ c = 3) :
    Calls Tryz.prog 40 #[.pointer (some ⟨rb, 0, none⟩), .string ⟨#[m]⟩] W fun e W' => e = .returned (.tuple #[]) ∧ ∃ n, W' = W.drewN n := by
  have HS := Lib.hid (see_bad W rb c pl m h hc)
  have HF := Lib.hid (fun q => fail_bad (W.drewN q) rb c pl 2 h hc)
  clear h
  go_enter Tryz.func40, Tryz.ntmps40
  go_wp2_with (first
    | (go_at_call 39; (refine (HS.out).mono ?_); rintro e W1 ⟨rfl, q, rfl⟩)
    | (go_at_call 21; (refine (HF.out _).mono ?_); rintro e W2 ⟨rfl, rfl⟩))
  go_end0
  exact ⟨rfl, _, rfl⟩
end Go.Proofs.YtilfglcjcmpfeaaGreatDoor

namespace Go.Proofs.YtilfglcjcmpfeaaGreatDoor
open Go.RowKit

set_option maxRecDepth 100000 in
set_option maxHeartbeats 2000000 in
theorem in_any (tx : List UInt8) (l : Names) (W : World) (B : Nat) (hc : ∀ i (h : i < l.length), W.cell? ⟨B, i, none⟩ = some (.string ⟨l[i].toArray⟩)) (hl : l.length ≤ 1000) :
    Calls Tryz.prog 82 #[.string ⟨tx.toArray⟩, .slice (some ⟨B, 0, none⟩) l.length l.length] W fun e w' => e = .returned (.bool (decide (tx ∈ l))) ∧ W = w' := by
  have HC := Lib.hid hc
  obtain ⟨b, hb⟩ : ∃ b, decide (tx ∈ l) = b := ⟨_, rfl⟩
  rw [hb]
  have HB := Lib.hid hb
  clear hc hb
  go_enter Tryz.func82, Tryz.ntmps82
  go_wp2_with fail
  go_loop [5] (fun i => ∃ k : Nat, k ≤ l.length ∧ i = .int .i64 k ∧ Hid (∀ j (h : j < l.length), j < k → l[j] ≠ tx)) (fun i => l.length - (intOf i).toNat)
  case atStart => exact ⟨0, Nat.zero_le _, rfl, Lib.hid (fun j _ h => absurd h (Nat.not_lt_zero _))⟩
  case round =>
    obtain ⟨k, hk, rfl, hno⟩ := hrel
    have HNO := Lib.hid hno.out
    clear hno
    by_cases hlt : k < l.length
    · have c0 := HC.out k hlt
      have j0 : (0 : Int) ≤ (k : Int) := by omega
      have j1 : (k : Int) < (l.length : Int) := by omega
      by_cases hx : l[k] = tx
      · have hb : (l[k] == tx) = true := by rw [beq_iff_eq]; exact hx
        have hr : decide (tx ∈ l) = true := decide_eq_true (hx ▸ List.getElem_mem hlt)
        obtain rfl : true = b := by rw [← HB.out, hr]
        clear hx hr
        go_wp2_with fail
        go_ret
        exact ⟨rfl, rfl⟩
      · have hb : (l[k] == tx) = false := by rw [beq_eq_false_iff_ne]; exact hx
        have HX := Lib.hid hx
        clear hx
        go_wp2_with fail
        go_round
        case rel =>
          refine ⟨k + 1, by omega, by go_num, Lib.hid fun j hj hjk => ?_⟩
          by_cases e : j < k
          · exact HNO.out j hj e
          · obtain rfl : j = k := by omega
            exact HX.out
        case measure => simp [intOf]; omega
    · have hr : decide (tx ∈ l) = false := by
        rw [decide_eq_false_iff_not]
        intro h
        obtain ⟨j, hj, e⟩ := List.getElem_of_mem h
        exact HNO.out j hj (by omega) e
      obtain rfl : false = b := by rw [← HB.out, hr]
      clear hr
      go_wp2_with fail
      go_ret
      exact ⟨rfl, rfl⟩
def strC (l : Names) : Array Value := (l.map fun x => Value.string ⟨x.toArray⟩).toArray
theorem strC_at (w : World) (l : Names) (t : TypeId) (i : Nat) (h : i < l.length) : (w.alloc (.cells (strC l) t)).cell? ⟨w.heap.size, i, none⟩ = some (.string ⟨l[i].toArray⟩) := by
  have hb := newBlk w (.cells (strC l) t) _ rfl
  simp only [World.cell?, hb]
  simp [strC, h]
theorem in_new (tx : List UInt8) (l : Names) (w : World) (t : TypeId) (hl : l.length ≤ 1000) : Calls Tryz.prog 82 #[.string ⟨tx.toArray⟩, .slice (some ⟨w.heap.size, 0, none⟩) l.length l.length] (w.alloc (.cells (strC l) t)) fun e w' => e = .returned (.bool (decide (tx ∈ l))) ∧ w.alloc (.cells (strC l) t) = w' :=
  in_any tx l _ _ (fun i h => strC_at w l t i h) hl
def InfPost (W : World) (tx : List UInt8) (e : Ending) (W' : World) : Prop := e = .returned (.tuple #[.int .i64 ((infixP tx).1 : Nat), .int .i64 ((infixP tx).2.1 : Nat), .int .i64 ((infixP tx).2.2 : Nat)]) ∧ Below W.heap.size W W'
set_option maxRecDepth 100000 in
set_option maxHeartbeats 2000000 in
theorem infix_any (tx : List UInt8) (W : World) : Calls Tryz.prog 67 #[.string ⟨tx.toArray⟩] W fun e W' => InfPost W tx e W' := by
  obtain ⟨a, b, c, hi⟩ : ∃ a b c, infixP tx = (a, b, c) := ⟨_, _, _, rfl⟩
  unfold InfPost
  rw [hi]
  unfold infixP at hi
  by_cases h1 : tx = [58, 45]
  · rw [if_pos h1] at hi
    injection hi with e1 hi
    injection hi with e2 e3
    subst e1 e2 e3
    subst h1
    go_enter Tryz.func67, Tryz.ntmps67
    go_wp2_with fail
    go_ret3
    exact ⟨rfl, Below.refl _ _⟩
  rw [if_neg h1] at hi
  have q1 : (tx == [58, 45]) = false := by rw [beq_eq_false_iff_ne]; exact h1
  by_cases h2 : tx = [59]
  · rw [if_pos h2] at hi
    injection hi with e1 hi
    injection hi with e2 e3
    subst e1 e2 e3
    subst h2
    clear h1
    go_enter Tryz.func67, Tryz.ntmps67
    go_wp2_with fail
    go_ret3
    exact ⟨rfl, Below.refl _ _⟩
  rw [if_neg h2] at hi
  have q2 : (tx == [59]) = false := by rw [beq_eq_false_iff_ne]; exact h2
  by_cases h3 : tx = [45, 62]
  · rw [if_pos h3] at hi
    injection hi with e1 hi
    injection hi with e2 e3
    subst e1 e2 e3
    subst h3
    clear h1 h2
    go_enter Tryz.func67, Tryz.ntmps67
    go_wp2_with fail
    go_ret3
    exact ⟨rfl, Below.refl _ _⟩
  rw [if_neg h3] at hi
  have q3 : (tx == [45, 62]) = false := by rw [beq_eq_false_iff_ne]; exact h3
  by_cases h4 : tx = [44]
  · rw [if_pos h4] at hi
    injection hi with e1 hi
    injection hi with e2 e3
    subst e1 e2 e3
    subst h4
    clear h1 h2 h3
    go_enter Tryz.func67, Tryz.ntmps67
    go_wp2_with fail
    go_ret3
    exact ⟨rfl, Below.refl _ _⟩
  rw [if_neg h4] at hi
  have q4 : (tx == [44]) = false := by rw [beq_eq_false_iff_ne]; exact h4
  clear h1 h2 h3 h4
  have H7 := Lib.hid (fun u t => in_new tx ops7 u t (by decide))
  have H5 := Lib.hid (fun u t => in_new tx ops5 u t (by decide))
  have H4 := Lib.hid (fun u t => in_new tx ops4 u t (by decide))
  by_cases h7 : tx ∈ ops7
  · rw [if_pos h7] at hi
    injection hi with e1 hi
    injection hi with e2 e3
    subst e1 e2 e3
    rw [decide_eq_true h7] at H7
    clear h7
    go_enter Tryz.func67, Tryz.ntmps67
    go_wp2_with (go_at_call 82; (refine (H7.out _ _).mono ?_); rintro e w1 ⟨rfl, rfl⟩)
    go_ret3
    exact ⟨rfl, (Below.refl _ _).alloc (Nat.le_refl _) _⟩
  rw [if_neg h7] at hi
  rw [decide_eq_false h7] at H7
  clear h7
  by_cases h5 : tx ∈ ops5
  · rw [if_pos h5] at hi
    injection hi with e1 hi
    injection hi with e2 e3
    subst e1 e2 e3
    rw [decide_eq_true h5] at H5
    clear h5
    go_enter Tryz.func67, Tryz.ntmps67
    go_wp2_with fail
    refine (H7.out _ _).mono ?_
    rintro e w7 ⟨rfl, hw7⟩
    have hb7 : Below W.heap.size W w7 := hw7 ▸ (Below.refl _ _).alloc (Nat.le_refl _) _
    have HB7 := Lib.hid hb7
    clear hw7 hb7
    go_wp2_with fail
    refine (H5.out _ _).mono ?_
    rintro e w5 ⟨rfl, hw5⟩
    have hb5 : Below w7.heap.size w7 w5 := hw5 ▸ (Below.refl _ _).alloc (Nat.le_refl _) _
    have HB5 := Lib.hid hb5
    clear hw5 hb5
    go_wp2_with fail
    go_ret3
    exact ⟨rfl, HB7.out.trans (HB5.out.mono HB7.out.size)⟩
  rw [if_neg h5] at hi
  rw [decide_eq_false h5] at H5
  clear h5
  by_cases h9 : tx ∈ ops4
  · rw [if_pos h9] at hi
    injection hi with e1 hi
    injection hi with e2 e3
    subst e1 e2 e3
    rw [decide_eq_true h9] at H4
    clear h9
    go_enter Tryz.func67, Tryz.ntmps67
    go_wp2_with fail
    refine (H7.out _ _).mono ?_
    rintro e w7 ⟨rfl, hw7⟩
    have hb7 : Below W.heap.size W w7 := hw7 ▸ (Below.refl _ _).alloc (Nat.le_refl _) _
    have HB7 := Lib.hid hb7
    clear hw7 hb7
    go_wp2_with fail
    refine (H5.out _ _).mono ?_
    rintro e w5 ⟨rfl, hw5⟩
    have hb5 : Below w7.heap.size w7 w5 := hw5 ▸ (Below.refl _ _).alloc (Nat.le_refl _) _
    have HB5 := Lib.hid hb5
    clear hw5 hb5
    go_wp2_with fail
    refine (H4.out _ _).mono ?_
    rintro e w4 ⟨rfl, hw4⟩
    have hb4 : Below w5.heap.size w5 w4 := hw4 ▸ (Below.refl _ _).alloc (Nat.le_refl _) _
    have HB4 := Lib.hid hb4
    clear hw4 hb4
    go_wp2_with fail
    go_ret3
    exact ⟨rfl, (HB7.out.trans (HB5.out.mono HB7.out.size)).trans (HB4.out.mono (by have := HB7.out.size; have := HB5.out.size; omega))⟩
  · rw [if_neg h9] at hi
    injection hi with e1 hi
    injection hi with e2 e3
    subst e1 e2 e3
    rw [decide_eq_false h9] at H4
    clear h9
    go_enter Tryz.func67, Tryz.ntmps67
    go_wp2_with fail
    refine (H7.out _ _).mono ?_
    rintro e w7 ⟨rfl, hw7⟩
    have hb7 : Below W.heap.size W w7 := hw7 ▸ (Below.refl _ _).alloc (Nat.le_refl _) _
    have HB7 := Lib.hid hb7
    clear hw7 hb7
    go_wp2_with fail
    refine (H5.out _ _).mono ?_
    rintro e w5 ⟨rfl, hw5⟩
    have hb5 : Below w7.heap.size w7 w5 := hw5 ▸ (Below.refl _ _).alloc (Nat.le_refl _) _
    have HB5 := Lib.hid hb5
    clear hw5 hb5
    go_wp2_with fail
    refine (H4.out _ _).mono ?_
    rintro e w4 ⟨rfl, hw4⟩
    have hb4 : Below w5.heap.size w5 w4 := hw4 ▸ (Below.refl _ _).alloc (Nat.le_refl _) _
    have HB4 := Lib.hid hb4
    clear hw4 hb4
    go_wp2_with fail
    go_ret3
    exact ⟨rfl, (HB7.out.trans (HB5.out.mono HB7.out.size)).trans (HB4.out.mono (by have := HB7.out.size; have := HB5.out.size; omega))⟩
end Go.Proofs.YtilfglcjcmpfeaaGreatDoor

namespace Go.Proofs.YtilfglcjcmpfeaaGreatDoor
open Go.RowKit

/-- append, whatever is appended: nothing too. -/
theorem run_append_any {P : Program} {w : World} (base : Nat) (t ty e : TypeId) (i : TypeInfo) (z : Value) (size bytes : Nat) (ht : P.underlying t = some (.slice e)) (hi : P.info? e = some i) (hz : i.zero = some z)
    (hsize : i.size = size) (hby : i.bytes = bytes) (hzs : z.cells.size = size) (hsz : 0 < size)
    (v : Value) (n : Nat) (xs : List Value) (hown : w.ownsRow base e size v n xs)
    (g : Option Addr) (m c : Nat) (news : List Value) (hl : news.length = m * size) (hnews : m = 0 ∨ ∃ a, g = some a ∧ ∀ j u, news[j]? = some u → w.cell? (a.add j) = some u) (h1 : ∀ u ∈ news, u.oneCell' = true)
    (h63 : n + m ≤ maxLen) (hbytes : (n + m) * bytes ≤ 140737488355328) (hbase : base ≤ w.heap.size) :
    ∃ v' w', (Builtin.append_ #[t, t] ty #[v, .slice g m c]).run P w = .ok v' w' ∧ w'.ownsRow base e size v' (n + m) (xs ++ news) ∧ w.grownBy w' v.ownBlock ∧
      (v'.ownBlock = v.ownBlock ∨ v'.ownBlock = some w.heap.size) := by
  cases g with
  | none =>
    obtain rfl : m = 0 := by
      rcases hnews with h | ⟨a, h, _⟩
      · exact h
      · cases h
    obtain rfl : news = [] := List.eq_nil_of_length_eq_zero (by simpa using hl)
    refine ⟨v, w, ?_, by simpa using hown, ⟨rfl, rfl, rfl, Nat.le_refl _, fun _ _ _ => rfl⟩, .inl rfl⟩
    rcases hown.2 with ⟨rfl, rfl⟩ | ⟨g, cap, cur, rfl, _, _, hnc, _⟩
    · simp [Builtin.append_, run_underlying ht, sizeOf, typeInfo, hi, Builtin.lenOf, Builtin.firstCells]
    · simp [Builtin.append_, run_underlying ht, sizeOf, typeInfo, hi, Builtin.lenOf, Builtin.firstCells, hnc, storeCells]
  | some a =>
    obtain ⟨v', w', h2, h3, h4, _, h5⟩ := run_append_own_at (P := P) w base t ty e i z size bytes ht hi hz hsize hby hzs hsz v n xs hown a m c news hl (by
      rcases hnews with h | ⟨a', h, hc⟩
      · subst h
        obtain rfl : news = [] := List.eq_nil_of_length_eq_zero (by simpa using hl)
        intro j u hu
        simp at hu
      · injection h with h
        subst h
        exact hc) h1 h63 hbytes hbase
    exact ⟨v', w', h2, h3, h4, h5⟩
theorem wpList_append_any {P : Program} {w : World} {ops : Array Oper} {rest : List Oper} {o : Oper} {a : Act} {Q : Exit → Act → World → Prop} (hgd : o.guard = none) (s x : Operand) (t : TypeId)
    (ho : o.op = .call { callee := .builtin .append, args := #[s, x], argTypes := #[t, t] })
    (base : Nat) (e : TypeId) (i : TypeInfo) (z : Value) (size bytes : Nat) (ht : P.underlying t = some (.slice e)) (hi : P.info? e = some i) (hz : i.zero = some z)
    (hsize : i.size = size) (hby : i.bytes = bytes) (hzs : z.cells.size = size) (hsz : 0 < size)
    (v : Value) (n : Nat) (xs : List Value) (hs : a.eval s = v) (hown : w.ownsRow base e size v n xs)
    (g : Option Addr) (m c : Nat) (news : List Value) (hx : a.eval x = .slice g m c) (hl : news.length = m * size) (hnews : m = 0 ∨ ∃ a, g = some a ∧ ∀ j u, news[j]? = some u → w.cell? (a.add j) = some u) (h1 : ∀ u ∈ news, u.oneCell' = true)
    (h63 : n + m ≤ maxLen) (hbytes : (n + m) * bytes ≤ 140737488355328) (hbase : base ≤ w.heap.size)
    (h : ∀ v' w', w'.ownsRow base e size v' (n + m) (xs ++ news) → w.grownBy w' v.ownBlock → (v'.ownBlock = v.ownBlock ∨ v'.ownBlock = some w.heap.size) → wpList P ops Q rest (a.put o.dst v') w') : wpList P ops Q (o :: rest) a w := by
  obtain ⟨v', w', hr, h2, h3, h4⟩ := run_append_any (P := P) (w := w) base t o.type e i z size bytes ht hi hz hsize hby hzs hsz v n xs hown g m c news hl hnews h1 h63 hbytes hbase
  refine wpList_plain hgd fun K' hK' => ?_
  unfold Oper.wp execOp
  simp only [ho, resolve, invoke, builtin, Sem.run_bind, Sem.run_pure, Result.andThen_ok, List.map_toArray, List.map_cons, List.map_nil, hs, hx, hr]
  exact hK' _ _ (h v' w' h2 h3 h4)
end Go.Proofs.YtilfglcjcmpfeaaGreatDoor

namespace Go.Proofs.YtilfglcjcmpfeaaGreatDoor
open Go.RowKit

theorem Tryz.infoStr : (Tryz.prog.info? 9).map (fun i => (i.zero, i.size, i.bytes)) = some (some (.string ⟨#[]⟩), 1, 16) := by kernel_rfl
def VarPost (X : Nat → Prop) (W : World) (rb : Nat) (s : ByteArray) (L : Toks) (lv : Value) (a : Nat) (r : Nat × Names) (e : Ending) (W' : World) : Prop :=
  e = .returned (.int .i64 (r.1 : Nat)) ∧ W.grownBy W' (some rb) ∧ Rdr X W' rb s L lv a r.2
theorem findN_some : ∀ {tx : List UInt8} {ns : Names} {i : Nat}, findN tx ns = some i → ∃ h : i < ns.length, ns[i] = tx ∧ ∀ j (hj : j < ns.length), j < i → ns[j] ≠ tx
  | tx, [], i, h => by cases h
  | tx, x :: r, i, h => by
    unfold findN at h
    split at h
    · rename_i hx
      injection h with h
      subst h
      exact ⟨by simp, hx, fun j _ hj => absurd hj (Nat.not_lt_zero _)⟩
    · rename_i hx
      obtain ⟨k, hk, rfl⟩ := Option.map_eq_some_iff.1 h
      obtain ⟨h1, h2, h3⟩ := findN_some hk
      refine ⟨by simp; omega, by simpa using h2, fun j hj hji => ?_⟩
      cases j with
      | zero => exact hx
      | succ j => exact h3 j (by simpa using hj) (by omega)
theorem findN_none : ∀ {tx : List UInt8} {ns : Names}, findN tx ns = none → ∀ j (hj : j < ns.length), ns[j] ≠ tx
  | tx, [], _, j, hj => by simp at hj
  | tx, x :: r, h, j, hj => by
    unfold findN at h
    split at h
    · cases h
    · rename_i hx
      cases j with
      | zero => exact hx
      | succ j => exact findN_none (Option.map_eq_none_iff.1 h) j (by simpa using hj)
theorem own_pos {W : World} {base : Nat} {e : TypeId} {size : Nat} {v : Value} {k : Nat} {xs : List Value} (h : W.ownsRow base e size v k xs) (hk : 0 < k) : ∃ g cap, v = .slice (some ⟨g, 0, none⟩) k cap := by
  rcases h.2 with ⟨_, h0⟩ | ⟨g, cap, _, rfl, _⟩
  · omega
  · exact ⟨g, cap, rfl⟩
theorem namesP_at {w : World} {ok : Nat → Prop} {l : Names} {sv : Value} (h : namesP w ok l sv) (i : Nat) (hi : i < l.length) : ∃ b off cap, sv = .slice (some ⟨b, off, none⟩) l.length cap ∧ l.length ≤ cap ∧ ok b ∧ w.cell? ⟨b, off + i, none⟩ = some (.string ⟨l[i].toArray⟩) := by
  obtain ⟨g, cap, rfl, h1, h | ⟨b, off, rfl, hb, h⟩⟩ := h
  · subst h; simp at hi
  · exact ⟨b, off, cap, rfl, h1, hb, h i hi⟩
/-- A new row of texts is the reader's. -/
theorem Rdr.named {X : Nat → Prop} {W W' : World} {rb : Nat} {s : ByteArray} {L : Toks} {lv : Value} {a : Nat} {ns ns' : Names} {base : Nat} {v : Value} (h : Rdr X W rb s L lv a ns) (hg : W.grownBy W' none) (hb : W.heap.size ≤ base)
    (ho : W'.ownsRow base 9 1 v ns'.length (ns'.map fun x => .string ⟨x.toArray⟩)) : Rdr X (W'.setCell ⟨rb, 3, none⟩ v) rb s L lv a ns' := by
  obtain ⟨nv, pl, h1, h2⟩ := h.cells
  have hlt := h.lt
  have hg1 : W'.grownBy (W'.setCell ⟨rb, 3, none⟩ v) (some rb) := grown_set W' rb 3 v
  have hblk : W'.heap[rb]? = _ := (hg.block rb hlt (by simp)).trans h1
  refine ⟨⟨v, pl, set_blk hblk, ?_⟩, toksP_mono h.own hg1 (toksP_mono h.own (grownBy_any hg _) h.toks), h.le, h.own, fun b hb => by have := h.old b hb; have := hg.size; have := hg1.size; omega⟩
  rcases ho.2 with ⟨rfl, h0⟩ | ⟨g, cap, cur, rfl, hbg, hcur, hcap, _⟩
  · exact ⟨none, 0, by rw [h0], by omega, .inl (List.eq_nil_of_length_eq_zero h0)⟩
  · refine ⟨_, cap, rfl, hcap, .inr ⟨g, 0, rfl, ⟨fun hx => by have := h.old g hx; omega, by have := (ho.lt g rfl).2; have := hg1.size; omega⟩, fun i hi => ?_⟩⟩
    have hx := ho.cells (g := g) rfl i (.string ⟨ns'[i].toArray⟩) (by rw [List.getElem?_map, List.getElem?_eq_getElem hi]; rfl)
    rw [Addr.add_lit] at hx
    exact hg1.cell hx (by simp; omega)
set_option maxRecDepth 100000 in
set_option maxHeartbeats 2000000 in
theorem variable_any {X : Nat → Prop} (W : World) (rb : Nat) (s : ByteArray) (L : Toks) (lv : Value) (a : Nat) (ns : Names) (tx : List UInt8) (h : Rdr X W rb s L lv a ns) (hn : ns.length ≤ 2000000) :
    Calls Tryz.prog 37 #[.pointer (some ⟨rb, 0, none⟩), .string ⟨tx.toArray⟩] W fun e W' => VarPost X W rb s L lv a (varN ns tx) e W' := by
  obtain ⟨t2, b, ht2, hb⟩ : ∃ (t2 : List UInt8) (b : Bool), t2 = (if tx = [95] then [] else tx) ∧ (tx == [95]) = b := ⟨_, _, rfl, rfl⟩
  have hv : varN ns tx = if t2 = [] then (ns.length, ns ++ [[]]) else match findN t2 ns with | some i => (i, ns) | none => (ns.length, ns ++ [t2]) := by
    unfold varN
    by_cases h1 : tx = [95]
    · rw [if_pos (.inl h1), ht2, if_pos h1, if_pos rfl]
    · rw [ht2, if_neg h1]
      by_cases h2 : tx = []
      · rw [if_pos (.inr h2), if_pos h2]
      · rw [if_neg (by rintro (h | h); exact h1 h; exact h2 h), if_neg h2]
        cases findN tx ns <;> rfl
  rw [hv]
  clear hv
  obtain ⟨nv, pl, hblk, hns⟩ := h.cells
  obtain ⟨⟨c0, c1, c2, c3, c4, c5⟩, f0, f1, f2, f3, f4, f5⟩ := row6 hblk
  have hlt := h.lt
  obtain ⟨g, cap, rfl, hcap, _⟩ := id hns
  have HNS := Lib.hid hns
  have HR := Lib.hid h
  clear h hns hblk
  have hstr : (if b = true then Value.string ⟨#[]⟩ else .string ⟨tx.toArray⟩) = .string ⟨t2.toArray⟩ := by
    rw [ht2, ← hb]
    by_cases h1 : tx = [95]
    · rw [if_pos h1, h1]; rfl
    · have : (tx == [95]) = false := by rw [beq_eq_false_iff_ne]; exact h1
      rw [if_neg h1, this]; rfl
  have hc : b = true ∧ t2 = [] ∨ b = false ∧ t2 = tx := by
    by_cases h1 : tx = [95]
    · exact .inl ⟨by rw [← hb, h1]; rfl, by rw [ht2, if_pos h1]⟩
    · exact .inr ⟨by rw [← hb, beq_eq_false_iff_ne]; exact h1, by rw [ht2, if_neg h1]⟩
  clear hstr ht2
  rcases hc with ⟨rfl, rfl⟩ | ⟨rfl, h9⟩
  case inl =>
    rw [if_pos rfl]
    go_enter Tryz.func37, Tryz.ntmps37
    go_wp2_with fail
    go_loop [5] (fun i => i = .int .i64 0) (fun _ => 0)
    case atStart => rfl
    case round =>
      subst hrel
      rcases Nat.lt_or_ge 0 ns.length with hn0 | hn0
      all_goals
        obtain ⟨i0, hi, hz0, hz1, hz2⟩ := info_parts Tryz.infoStr
        have hsrc : ns.length = 0 ∨ ∃ ad, g = some ad ∧ ∀ j u, (ns.map fun x => Value.string ⟨x.toArray⟩)[j]? = some u → (W.alloc (.cells #[] 9)).cell? (ad.add j) = some u := by
          obtain ⟨_, _, e, _, h9⟩ := HNS.out
          injection e with e _ _
          subst e
          rcases h9 with h9 | ⟨bb, off, rfl, hok, h9⟩
          · exact .inl (by rw [h9]; rfl)
          · refine .inr ⟨_, rfl, fun j u hu => ?_⟩
            rw [List.getElem?_map] at hu
            obtain ⟨y, hy, rfl⟩ := Option.map_eq_some_iff.1 hu
            obtain ⟨hj, rfl⟩ := List.getElem?_eq_some_iff.1 hy
            rw [Addr.add_lit]
            exact (((Below.refl W.heap.size W).alloc (Nat.le_refl _) _).cell (p := ⟨bb, _, none⟩) hok.2).trans (h9 j hj)
        have HSRC := Lib.hid hsrc
        clear hsrc
        go_wp2_with (first
          | (at_builtin; refine wpList_append_any rfl _ _ 34 rfl W.heap.size 9 i0 _ 1 16 Tryz.underlying34 hi hz0 hz1 hz2 rfl (by decide) (.slice (some ⟨W.heap.size, 0, none⟩) 0 0) 0 [] rfl (World.ownsRow_made W #[] 0 (Nat.le_refl _) (Nat.zero_le _) rfl) g ns.length cap (ns.map fun x => .string ⟨x.toArray⟩) rfl (by simp) HSRC.out (by intro u hu; obtain ⟨y, _, rfl⟩ := List.mem_map.1 hu; rfl) (by unfold maxLen; omega) (by omega) (by simp) ?_; intro v1 w1 ho1 hg1 hs1; have HO1 := Lib.hid ho1; have hb1 := ((Below.refl W.heap.size W).alloc (Nat.le_refl _) (.cells #[] 9)).grown hg1 (by simp) (fun k e => by cases e; exact Nat.le_refl _); obtain ⟨k0, k1, k2, k3, k4, k5⟩ : w1.cell? ⟨rb, 0, none⟩ = some (.string s) ∧ w1.cell? ⟨rb, 1, none⟩ = some lv ∧ w1.cell? ⟨rb, 2, none⟩ = some (.int .i64 (a : Nat)) ∧ w1.cell? ⟨rb, 3, none⟩ = some (.slice g ns.length cap) ∧ w1.frozen? ⟨rb, 3, none⟩ = false ∧ rb < w1.heap.size := ⟨(hb1.cell (p := ⟨rb, 0, none⟩) hlt).trans c0, (hb1.cell (p := ⟨rb, 1, none⟩) hlt).trans c1, (hb1.cell (p := ⟨rb, 2, none⟩) hlt).trans c2, (hb1.cell (p := ⟨rb, 3, none⟩) hlt).trans c3, (hb1.frozen (p := ⟨rb, 3, none⟩) hlt).trans f3, Nat.lt_of_lt_of_le hlt hb1.size⟩; have HB1 := Lib.hid hb1; clear ho1 hg1 hs1 hb1)
          | (at_builtin; refine wpList_append_any rfl _ _ 34 rfl W.heap.size 9 i0 _ 1 16 Tryz.underlying34 hi hz0 hz1 hz2 rfl (by decide) v1 (0 + ns.length) _ rfl (HO1.out.alloc _) (some ⟨w1.heap.size, 0, none⟩) 1 1 [.string ⟨List.toArray []⟩] rfl rfl (.inr ⟨_, rfl, lnews w1.heap.size rfl⟩) (by intro u hu; simp at hu; subst hu; rfl) (by unfold maxLen; omega) (by omega) (by have := HB1.out.size; simp; omega) ?_; intro v2 w2 ho2 hg2 hs2; have HO2 := Lib.hid ho2; have hb2 := (HB1.out.alloc HB1.out.size (.cells #[.string ⟨List.toArray []⟩] 9)).grown hg2 (by have := HB1.out.size; simp; omega) (fun k e => (HO1.out.lt k e).1); have k6 : w2.cell? ⟨rb, 3, none⟩ = some (.slice g ns.length cap) := (hb2.cell (p := ⟨rb, 3, none⟩) hlt).trans c3; have k7 : w2.frozen? ⟨rb, 3, none⟩ = false := (hb2.frozen (p := ⟨rb, 3, none⟩) hlt).trans f3; have k8 : rb < w2.heap.size := Nat.lt_of_lt_of_le hlt hb2.size; have HB2 := Lib.hid hb2; clear ho2 hg2 hs2 hb2; obtain ⟨g2, cap2, hv2⟩ := own_pos HO2.out (by omega); subst hv2))
        go_ret
        have hown : w2.ownsRow W.heap.size 9 1 (.slice (some ⟨g2, 0, none⟩) (ns.length + 1) cap2) (ns ++ [[]]).length ((ns ++ [[]]).map fun x : List UInt8 => Value.string ⟨x.toArray⟩) := by
          have := HO2.out
          simpa using this
        have hgn : W.grownBy w2 none := ⟨HB2.out.os, HB2.out.tape, HB2.out.output, HB2.out.size, fun k hk _ => HB2.out.block k hk⟩
        exact ⟨by simp, (grownBy_any hgn _).trans (grown_set w2 rb 3 _), HR.out.named hgn (Nat.le_refl _) hown⟩
  case inr =>
    obtain rfl : tx = t2 := h9.symm
    by_cases h0 : tx = []
    · subst h0
      rw [if_pos rfl]
      clear hb
      go_enter Tryz.func37, Tryz.ntmps37
      go_wp2_with fail
      go_loop [5] (fun i => i = .int .i64 0) (fun _ => 0)
      case atStart => rfl
      case round =>
        subst hrel
        rcases Nat.lt_or_ge 0 ns.length with hn0 | hn0
        all_goals
          obtain ⟨i0, hi, hz0, hz1, hz2⟩ := info_parts Tryz.infoStr
          have hsrc : ns.length = 0 ∨ ∃ ad, g = some ad ∧ ∀ j u, (ns.map fun x => Value.string ⟨x.toArray⟩)[j]? = some u → (W.alloc (.cells #[] 9)).cell? (ad.add j) = some u := by
            obtain ⟨_, _, e, _, h9⟩ := HNS.out
            injection e with e _ _
            subst e
            rcases h9 with h9 | ⟨bb, off, rfl, hok, h9⟩
            · exact .inl (by rw [h9]; rfl)
            · refine .inr ⟨_, rfl, fun j u hu => ?_⟩
              rw [List.getElem?_map] at hu
              obtain ⟨y, hy, rfl⟩ := Option.map_eq_some_iff.1 hu
              obtain ⟨hj, rfl⟩ := List.getElem?_eq_some_iff.1 hy
              rw [Addr.add_lit]
              exact (((Below.refl W.heap.size W).alloc (Nat.le_refl _) _).cell (p := ⟨bb, _, none⟩) hok.2).trans (h9 j hj)
          have HSRC := Lib.hid hsrc
          clear hsrc
          go_wp2_with (first
            | (at_builtin; refine wpList_append_any rfl _ _ 34 rfl W.heap.size 9 i0 _ 1 16 Tryz.underlying34 hi hz0 hz1 hz2 rfl (by decide) (.slice (some ⟨W.heap.size, 0, none⟩) 0 0) 0 [] rfl (World.ownsRow_made W #[] 0 (Nat.le_refl _) (Nat.zero_le _) rfl) g ns.length cap (ns.map fun x => .string ⟨x.toArray⟩) rfl (by simp) HSRC.out (by intro u hu; obtain ⟨y, _, rfl⟩ := List.mem_map.1 hu; rfl) (by unfold maxLen; omega) (by omega) (by simp) ?_; intro v1 w1 ho1 hg1 hs1; have HO1 := Lib.hid ho1; have hb1 := ((Below.refl W.heap.size W).alloc (Nat.le_refl _) (.cells #[] 9)).grown hg1 (by simp) (fun k e => by cases e; exact Nat.le_refl _); obtain ⟨k0, k1, k2, k3, k4, k5⟩ : w1.cell? ⟨rb, 0, none⟩ = some (.string s) ∧ w1.cell? ⟨rb, 1, none⟩ = some lv ∧ w1.cell? ⟨rb, 2, none⟩ = some (.int .i64 (a : Nat)) ∧ w1.cell? ⟨rb, 3, none⟩ = some (.slice g ns.length cap) ∧ w1.frozen? ⟨rb, 3, none⟩ = false ∧ rb < w1.heap.size := ⟨(hb1.cell (p := ⟨rb, 0, none⟩) hlt).trans c0, (hb1.cell (p := ⟨rb, 1, none⟩) hlt).trans c1, (hb1.cell (p := ⟨rb, 2, none⟩) hlt).trans c2, (hb1.cell (p := ⟨rb, 3, none⟩) hlt).trans c3, (hb1.frozen (p := ⟨rb, 3, none⟩) hlt).trans f3, Nat.lt_of_lt_of_le hlt hb1.size⟩; have HB1 := Lib.hid hb1; clear ho1 hg1 hs1 hb1)
            | (at_builtin; refine wpList_append_any rfl _ _ 34 rfl W.heap.size 9 i0 _ 1 16 Tryz.underlying34 hi hz0 hz1 hz2 rfl (by decide) v1 (0 + ns.length) _ rfl (HO1.out.alloc _) (some ⟨w1.heap.size, 0, none⟩) 1 1 [.string ⟨List.toArray []⟩] rfl rfl (.inr ⟨_, rfl, lnews w1.heap.size rfl⟩) (by intro u hu; simp at hu; subst hu; rfl) (by unfold maxLen; omega) (by omega) (by have := HB1.out.size; simp; omega) ?_; intro v2 w2 ho2 hg2 hs2; have HO2 := Lib.hid ho2; have hb2 := (HB1.out.alloc HB1.out.size (.cells #[.string ⟨List.toArray []⟩] 9)).grown hg2 (by have := HB1.out.size; simp; omega) (fun k e => (HO1.out.lt k e).1); have k6 : w2.cell? ⟨rb, 3, none⟩ = some (.slice g ns.length cap) := (hb2.cell (p := ⟨rb, 3, none⟩) hlt).trans c3; have k7 : w2.frozen? ⟨rb, 3, none⟩ = false := (hb2.frozen (p := ⟨rb, 3, none⟩) hlt).trans f3; have k8 : rb < w2.heap.size := Nat.lt_of_lt_of_le hlt hb2.size; have HB2 := Lib.hid hb2; clear ho2 hg2 hs2 hb2; obtain ⟨g2, cap2, hv2⟩ := own_pos HO2.out (by omega); subst hv2))
          go_ret
          have hown : w2.ownsRow W.heap.size 9 1 (.slice (some ⟨g2, 0, none⟩) (ns.length + 1) cap2) (ns ++ [[]]).length ((ns ++ [[]]).map fun x : List UInt8 => Value.string ⟨x.toArray⟩) := by
            have := HO2.out
            simpa using this
          have hgn : W.grownBy w2 none := ⟨HB2.out.os, HB2.out.tape, HB2.out.output, HB2.out.size, fun k hk _ => HB2.out.block k hk⟩
          exact ⟨by simp, (grownBy_any hgn _).trans (grown_set w2 rb 3 _), HR.out.named hgn (Nat.le_refl _) hown⟩
    rw [if_neg h0]
    have hne : (tx == []) = false := by rw [beq_eq_false_iff_ne]; exact h0
    have hne2 : (tx != []) = true := by rw [bne, hne]; rfl
    obtain ⟨r, hr⟩ : ∃ r, findN tx ns = r := ⟨_, rfl⟩
    rw [hr]
    have HFN := Lib.hid hr
    clear h0 hr
    go_enter Tryz.func37, Tryz.ntmps37
    go_wp2_with fail
    go_loop [5] (fun i => ∃ k : Nat, k ≤ ns.length ∧ i = .int .i64 k ∧ Hid (∀ j (h : j < ns.length), j < k → ns[j] ≠ tx)) (fun i => ns.length - (intOf i).toNat)
    case atStart => exact ⟨0, Nat.zero_le _, rfl, Lib.hid (fun j _ h => absurd h (Nat.not_lt_zero _))⟩
    case round =>
      obtain ⟨k, hk, rfl, hno⟩ := hrel
      have HNO := Lib.hid hno.out
      clear hno
      by_cases hlt2 : k < ns.length
      · obtain ⟨bb, off, cap', e1, _, hok, x0⟩ := namesP_at HNS.out k hlt2
        injection e1 with e1 _ e3
        subst e1 e3
        have hok2 : bb < W.heap.size := hok.2
        have j0 : (0 : Int) ≤ (k : Int) := by omega
        have j1 : (k : Int) < (ns.length : Int) := by omega
        have jw : IntKind.i64.wrap (k : Int) = (k : Int) := by rw [IntKind.wrap_i64]; omega
        clear hok
        by_cases hx : ns[k] = tx
        · have hb2 : (ns[k] == tx) = true := by rw [beq_iff_eq]; exact hx
          have hr : findN tx ns = some k := by
            cases hf : findN tx ns with
            | none => exact absurd hx (findN_none hf k hlt2)
            | some i =>
              obtain ⟨hi1, hi2, hi3⟩ := findN_some hf
              rcases Nat.lt_trichotomy i k with h | h | h
              · exact absurd hi2 (HNO.out i hi1 h)
              · rw [h]
              · exact absurd hx (hi3 k hlt2 h)
          have hrr : r = some k := by rw [← HFN.out, hr]
          subst hrr
          clear hx hr
          go_wp2_with fail
          go_ret
          exact ⟨rfl, World.grownBy.refl _ _, HR.out⟩
        · have hb2 : (ns[k] == tx) = false := by rw [beq_eq_false_iff_ne]; exact hx
          have HX := Lib.hid hx
          clear hx
          go_wp2_with fail
          go_round
          case rel =>
            refine ⟨k + 1, by omega, by go_num, Lib.hid fun j hj hjk => ?_⟩
            by_cases e : j < k
            · exact HNO.out j hj e
            · obtain rfl : j = k := by omega
              exact HX.out
          case measure => simp [intOf]; omega
      · have hr : findN tx ns = none := by
          cases hf : findN tx ns with
          | none => rfl
          | some i =>
            obtain ⟨hi1, hi2, hi3⟩ := findN_some hf
            exact absurd hi2 (HNO.out i hi1 (by omega))
        have hrr : r = none := by rw [← HFN.out, hr]
        subst hrr
        clear hr
        obtain ⟨i0, hi, hz0, hz1, hz2⟩ := info_parts Tryz.infoStr
        have hsrc : ns.length = 0 ∨ ∃ ad, g = some ad ∧ ∀ j u, (ns.map fun x => Value.string ⟨x.toArray⟩)[j]? = some u → (W.alloc (.cells #[] 9)).cell? (ad.add j) = some u := by
          obtain ⟨_, _, e, _, h9⟩ := HNS.out
          injection e with e _ _
          subst e
          rcases h9 with h9 | ⟨bb, off, rfl, hok, h9⟩
          · exact .inl (by rw [h9]; rfl)
          · refine .inr ⟨_, rfl, fun j u hu => ?_⟩
            rw [List.getElem?_map] at hu
            obtain ⟨y, hy, rfl⟩ := Option.map_eq_some_iff.1 hu
            obtain ⟨hj, rfl⟩ := List.getElem?_eq_some_iff.1 hy
            rw [Addr.add_lit]
            exact (((Below.refl W.heap.size W).alloc (Nat.le_refl _) _).cell (p := ⟨bb, _, none⟩) hok.2).trans (h9 j hj)
        have HSRC := Lib.hid hsrc
        clear hsrc
        go_wp2_with (first
          | (at_builtin; refine wpList_append_any rfl _ _ 34 rfl W.heap.size 9 i0 _ 1 16 Tryz.underlying34 hi hz0 hz1 hz2 rfl (by decide) (.slice (some ⟨W.heap.size, 0, none⟩) 0 0) 0 [] rfl (World.ownsRow_made W #[] 0 (Nat.le_refl _) (Nat.zero_le _) rfl) g ns.length cap (ns.map fun x => .string ⟨x.toArray⟩) rfl (by simp) HSRC.out (by intro u hu; obtain ⟨y, _, rfl⟩ := List.mem_map.1 hu; rfl) (by unfold maxLen; omega) (by omega) (by simp) ?_; intro v1 w1 ho1 hg1 hs1; have HO1 := Lib.hid ho1; have hb1 := ((Below.refl W.heap.size W).alloc (Nat.le_refl _) (.cells #[] 9)).grown hg1 (by simp) (fun k e => by cases e; exact Nat.le_refl _); obtain ⟨k0, k1, k2, k3, k4, k5⟩ : w1.cell? ⟨rb, 0, none⟩ = some (.string s) ∧ w1.cell? ⟨rb, 1, none⟩ = some lv ∧ w1.cell? ⟨rb, 2, none⟩ = some (.int .i64 (a : Nat)) ∧ w1.cell? ⟨rb, 3, none⟩ = some (.slice g ns.length cap) ∧ w1.frozen? ⟨rb, 3, none⟩ = false ∧ rb < w1.heap.size := ⟨(hb1.cell (p := ⟨rb, 0, none⟩) hlt).trans c0, (hb1.cell (p := ⟨rb, 1, none⟩) hlt).trans c1, (hb1.cell (p := ⟨rb, 2, none⟩) hlt).trans c2, (hb1.cell (p := ⟨rb, 3, none⟩) hlt).trans c3, (hb1.frozen (p := ⟨rb, 3, none⟩) hlt).trans f3, Nat.lt_of_lt_of_le hlt hb1.size⟩; have HB1 := Lib.hid hb1; clear ho1 hg1 hs1 hb1)
          | (at_builtin; refine wpList_append_any rfl _ _ 34 rfl W.heap.size 9 i0 _ 1 16 Tryz.underlying34 hi hz0 hz1 hz2 rfl (by decide) v1 (0 + ns.length) _ rfl (HO1.out.alloc _) (some ⟨w1.heap.size, 0, none⟩) 1 1 [.string ⟨tx.toArray⟩] rfl rfl (.inr ⟨_, rfl, lnews w1.heap.size rfl⟩) (by intro u hu; simp at hu; subst hu; rfl) (by unfold maxLen; omega) (by omega) (by have := HB1.out.size; simp; omega) ?_; intro v2 w2 ho2 hg2 hs2; have HO2 := Lib.hid ho2; have hb2 := (HB1.out.alloc HB1.out.size (.cells #[.string ⟨tx.toArray⟩] 9)).grown hg2 (by have := HB1.out.size; simp; omega) (fun k e => (HO1.out.lt k e).1); have k6 : w2.cell? ⟨rb, 3, none⟩ = some (.slice g ns.length cap) := (hb2.cell (p := ⟨rb, 3, none⟩) hlt).trans c3; have k7 : w2.frozen? ⟨rb, 3, none⟩ = false := (hb2.frozen (p := ⟨rb, 3, none⟩) hlt).trans f3; have k8 : rb < w2.heap.size := Nat.lt_of_lt_of_le hlt hb2.size; have HB2 := Lib.hid hb2; clear ho2 hg2 hs2 hb2; obtain ⟨g2, cap2, hv2⟩ := own_pos HO2.out (by omega); subst hv2))
        go_ret
        have hown : w2.ownsRow W.heap.size 9 1 (.slice (some ⟨g2, 0, none⟩) (ns.length + 1) cap2) (ns ++ [tx]).length ((ns ++ [tx]).map fun x : List UInt8 => Value.string ⟨x.toArray⟩) := by
          have := HO2.out
          simpa using this
        have hgn : W.grownBy w2 none := ⟨HB2.out.os, HB2.out.tape, HB2.out.output, HB2.out.size, fun k hk _ => HB2.out.block k hk⟩
        exact ⟨by simp, (grownBy_any hgn _).trans (grown_set w2 rb 3 _), HR.out.named hgn (Nat.le_refl _) hown⟩
end Go.Proofs.YtilfglcjcmpfeaaGreatDoor

namespace Go.Proofs.YtilfglcjcmpfeaaGreatDoor
open Go.RowKit

abbrev RSt := Except (Nat × Nat) (Toks × Names)
def StI (X : Nat → Prop) (W : World) (rb : Nat) (s : ByteArray) (L : Toks) (lv : Value) : RSt → Prop
  | .ok (ts, ns) => ∃ a, ts = L.drop a ∧ Rdr X W rb s L lv a ns
  | .error (c, pl) => Amiss W rb c pl ∧ (c = 2 ∨ c = 3)
/-- What the reader is at; blocks that stores go to are none of what it bears. -/
structure St (X : Nat → Prop) (W : World) (rb : Nat) (s : ByteArray) (L : Toks) (lv : Value) (x : RSt) : Prop where
  own : X rb
  old : ∀ b, X b → b < W.heap.size
  is : StI X W rb s L lv x
def seeE (m : UInt8) : RSt → Bool
  | .ok (ts, _) => seeT m ts
  | .error _ => false
def needE (S : List UInt8) (m : UInt8) : RSt → RSt
  | .ok (ts, ns) => match needT S m ts with | .ok r => .ok (r, ns) | .error e => .error e
  | .error e => .error e
def stOf {α : Type} : RRes α → RSt
  | .ok (_, ts, ns) => .ok (ts, ns)
  | .error e => .error e
def valOf {α : Type} : RRes α → Option α
  | .ok (u, _, _) => some u
  | .error _ => none
def termE (S : List UInt8) (f p deep : Nat) : RSt → RRes Tm
  | .ok (ts, ns) => rdTerm S f p deep ts ns
  | .error e => .error e
def rowE (S : List UInt8) (f deep : Nat) : RSt → RRes (List Tm)
  | .ok (ts, ns) => rdRow S f deep ts ns
  | .error e => .error e
def restE (S : List UInt8) (f now p deep : Nat) : RRes Tm → RRes Tm
  | .ok (t, ts, ns) => rdRest S f t now p deep ts ns
  | .error e => .error e
theorem Amiss.next {W W' : World} {rb c pl : Nat} (h : Amiss W rb c pl) (hb : Below W.heap.size W W') : Amiss W' rb c pl := by
  obtain ⟨s, lv, a, nv, h⟩ := h
  exact ⟨s, lv, a, nv, (hb.block rb (Array.getElem?_eq_some_iff.1 h).1).trans h⟩
theorem Amiss.dn {W : World} {rb c pl : Nat} (h : Amiss W rb c pl) (n : Nat) : Amiss (W.drewN n) rb c pl := h
theorem Amiss.lt {W : World} {rb c pl : Nat} (h : Amiss W rb c pl) : rb < W.heap.size := by
  obtain ⟨s, lv, a, nv, h⟩ := h
  exact (Array.getElem?_eq_some_iff.1 h).1
theorem St.next {X : Nat → Prop} {W W' : World} {rb : Nat} {s : ByteArray} {L : Toks} {lv : Value} {x : RSt} (h : St X W rb s L lv x) (hb : Below W.heap.size W W') : St X W' rb s L lv x := by
  refine ⟨h.own, fun b hx => Nat.lt_of_lt_of_le (h.old b hx) hb.size, ?_⟩
  cases x with
  | ok x => obtain ⟨a, h1, h2⟩ := h.is; exact ⟨a, h1, h2.next hb⟩
  | error e => exact ⟨h.is.1.next hb, h.is.2⟩
theorem St.dn {X : Nat → Prop} {W : World} {rb : Nat} {s : ByteArray} {L : Toks} {lv : Value} {x : RSt} (h : St X W rb s L lv x) (n : Nat) : St X (W.drewN n) rb s L lv x := by
  refine ⟨h.own, h.old, ?_⟩
  cases x with
  | ok x => obtain ⟨a, h1, h2⟩ := h.is; exact ⟨a, h1, h2.dn n⟩
  | error e => exact h.is
theorem St.lt {X : Nat → Prop} {W : World} {rb : Nat} {s : ByteArray} {L : Toks} {lv : Value} {x : RSt} (h : St X W rb s L lv x) : rb < W.heap.size := h.old rb h.own
theorem St.of {X : Nat → Prop} {W : World} {rb : Nat} {s : ByteArray} {L : Toks} {lv : Value} {a : Nat} {ns : Names} (h : Rdr X W rb s L lv a ns) : St X W rb s L lv (.ok (L.drop a, ns)) := ⟨h.own, h.old, a, rfl, h⟩
/-- Tokens as texts have them. -/
structure Small (s : ByteArray) (L : Toks) : Prop where
  size : s.size ≤ 1000000
  len : L.length ≤ 1000000
  tok : ∀ x ∈ L, x.1.text.length ≤ 1000000 ∧ x.1.n ≤ 9223372036854775807 ∧ x.2 < s.size ∧ x.1.kind ≤ 5
theorem see_c {X : Nat → Prop} (W : World) (rb : Nat) (s : ByteArray) (L : Toks) (lv : Value) (x : RSt) (m : UInt8) (hS : Small s L) (h : St X W rb s L lv x) :
    Calls Tryz.prog 39 #[.pointer (some ⟨rb, 0, none⟩), .string ⟨#[m]⟩] W fun e W' => SeePost W (seeE m x) e W' := by
  cases x with
  | ok x =>
    obtain ⟨ts, ns⟩ := x
    obtain ⟨a, rfl, h2⟩ := h.is
    exact see_any W rb s L lv a ns m h2 hS.len
  | error e => exact see_bad W rb e.1 e.2 m h.is.1 h.is.2
def NeedC (X : Nat → Prop) (W : World) (rb : Nat) (s : ByteArray) (L : Toks) (lv : Value) (x : RSt) (e : Ending) (W' : World) : Prop := e = .returned (.tuple #[]) ∧ W.grownBy W' (some rb) ∧ St X W' rb s L lv x
theorem need_c {X : Nat → Prop} (W : World) (rb : Nat) (s : ByteArray) (L : Toks) (lv : Value) (x : RSt) (m : UInt8) (hS : Small s L) (h : St X W rb s L lv x) :
    Calls Tryz.prog 40 #[.pointer (some ⟨rb, 0, none⟩), .string ⟨#[m]⟩] W fun e W' => NeedC X W rb s L lv (needE (bs s) m x) e W' := by
  cases x with
  | ok x =>
    obtain ⟨ts, ns⟩ := x
    obtain ⟨a, rfl, h2⟩ := h.is
    refine (need_any W rb s L lv a ns m h2 hS.size hS.len).mono fun e W' ⟨he, hg, h9⟩ => ⟨he, hg, h.own, fun b hx => Nat.lt_of_lt_of_le (h.old b hx) hg.size, ?_⟩
    unfold needE
    rcases h9 with ⟨a', hr, h3⟩ | ⟨pl, hr, h3⟩
    · simp only [hr]; exact ⟨a', rfl, h3⟩
    · simp only [hr]; exact ⟨h3, .inl rfl⟩
  | error e =>
    refine (need_bad W rb e.1 e.2 m h.is.1 h.is.2).mono fun e' W' ⟨he, n, hw⟩ => ?_
    subst hw
    exact ⟨he, ⟨rfl, rfl, rfl, Nat.le_refl _, fun _ _ _ => rfl⟩, h.own, h.old, h.is.1.dn n, h.is.2⟩
/-- A term as a value, if there is one. -/
def TV (X : Nat → Prop) (W : World) (u : Option Tm) (k : Int) (nm : ByteArray) (n : Int) (sv : Value) : Prop :=
  (Lit.int .i64 k).wf = true ∧ (Lit.int .i64 n).wf = true ∧ (∃ g m c, sv = .slice g m c) ∧ ∀ t, u = some t → k = t.kind ∧ nm = t.name ∧ n = t.n ∧ Tm.innP W (okN X W) t sv
theorem TV.grown {X : Nat → Prop} {W W' : World} {rb : Nat} {u : Option Tm} {k : Int} {nm : ByteArray} {n : Int} {sv : Value} (h : TV X W u k nm n sv) (hX : X rb) (hg : W.grownBy W' (some rb)) : TV X W' u k nm n sv := by
  refine ⟨h.1, h.2.1, h.2.2.1, fun t ht => ?_⟩
  obtain ⟨h1, h2, h3, h4⟩ := h.2.2.2 t ht
  exact ⟨h1, h2, h3, Tm.innP_same (fun b hb => okN_grown hg b hb) (fun b o v hb hc => cell_grown hX hg b o v hb hc) t sv h4⟩
def aggT (k : Int) (nm : ByteArray) (n : Int) (sv : Value) : Value := .agg #[.int .i64 k, .string nm, .int .i64 n, sv]
def TermPost (X : Nat → Prop) (W : World) (rb : Nat) (s : ByteArray) (L : Toks) (lv : Value) (r : RRes Tm) (e : Ending) (W' : World) : Prop :=
  ∃ k nm n g m c, e = .returned (.agg #[.int .i64 k, .string nm, .int .i64 n, .slice g m c]) ∧ W.grownBy W' (some rb) ∧ St X W' rb s L lv (stOf r) ∧ TV X W' (valOf r) k nm n (.slice g m c)
/-- There is room: fuel for the tokens, few variables. -/
def Room (f k : Nat) (x : RSt) : Prop := ∀ ts ns, x = .ok (ts, ns) → 4 * ts.length + k ≤ f ∧ ns.length + ts.length ≤ 2000000
def TermC (f : Nat) : Prop := ∀ (X : Nat → Prop) (W : World) (rb : Nat) (s : ByteArray) (L : Toks) (lv : Value) (x : RSt) (p deep : Nat), Small s L → St X W rb s L lv x → Room f 3 x → p ≤ 1200 → deep ≤ 1000 →
  Calls Tryz.prog 20 #[.pointer (some ⟨rb, 0, none⟩), .int .i64 (p : Nat), .int .i64 (deep : Nat)] W fun e W' => TermPost X W rb s L lv (termE (bs s) f p deep x) e W'
def RestC (f : Nat) : Prop := ∀ (X : Nat → Prop) (W : World) (rb : Nat) (s : ByteArray) (L : Toks) (lv : Value) (y : RRes Tm) (k : Int) (nm : ByteArray) (n : Int) (g : Option Addr) (m c now p deep : Nat), Small s L → St X W rb s L lv (stOf y) → TV X W (valOf y) k nm n (.slice g m c) → Room f 3 (stOf y) → now ≤ 1200 → p ≤ 1200 → deep ≤ 1000 →
  Calls Tryz.prog 36 #[.pointer (some ⟨rb, 0, none⟩), .agg #[.int .i64 k, .string nm, .int .i64 n, .slice g m c], .int .i64 (now : Nat), .int .i64 (p : Nat), .int .i64 (deep : Nat)] W fun e W' => TermPost X W rb s L lv (restE (bs s) f now p deep y) e W'
/-- A row of terms as the reader's functions make it, whatever they are. -/
def RowJ (X : Nat → Prop) (W : World) (m : Nat) (sv : Value) : Prop :=
  ∃ b off c, sv = .slice (some ⟨b, off, none⟩) m c ∧ m ≤ c ∧ okN X W b ∧ ∀ i, i < m → ∃ k nm n g' m' c', W.cell? ⟨b, off + i * 4, none⟩ = some (.int .i64 k) ∧ W.cell? ⟨b, off + i * 4 + 1, none⟩ = some (.string nm) ∧ W.cell? ⟨b, off + i * 4 + 2, none⟩ = some (.int .i64 n) ∧ W.cell? ⟨b, off + i * 4 + 3, none⟩ = some (.slice g' m' c')
def RowPost (X : Nat → Prop) (W : World) (rb : Nat) (s : ByteArray) (L : Toks) (lv : Value) (r : RRes (List Tm)) (e : Ending) (W' : World) : Prop :=
  ∃ m sv, e = .returned sv ∧ W.grownBy W' (some rb) ∧ St X W' rb s L lv (stOf r) ∧ 1 ≤ m ∧ m ≤ 1000001 ∧ RowJ X W' m sv ∧ ∀ l, valOf r = some l → l.length = m ∧ Tm.sliceP W' (okN X W') l sv
def RowC (f : Nat) : Prop := ∀ (X : Nat → Prop) (W : World) (rb : Nat) (s : ByteArray) (L : Toks) (lv : Value) (x : RSt) (deep : Nat), Small s L → St X W rb s L lv x → Room f 4 x → deep ≤ 999 →
  Calls Tryz.prog 41 #[.pointer (some ⟨rb, 0, none⟩), .int .i64 (deep : Nat)] W fun e W' => RowPost X W rb s L lv (rowE (bs s) f deep x) e W'
def NamePostR (X : Nat → Prop) (W : World) (rb : Nat) (s : ByteArray) (L : Toks) (lv : Value) (r : RRes (Tm × Nat)) (e : Ending) (W' : World) : Prop :=
  ∃ k nm n g m c q, e = .returned (.tuple #[.agg #[.int .i64 k, .string nm, .int .i64 n, .slice g m c], .int .i64 (q : Nat)]) ∧ q ≤ 1200 ∧ W.grownBy W' (some rb) ∧ St X W' rb s L lv (stOf r) ∧ TV X W' ((valOf r).map Prod.fst) k nm n (.slice g m c) ∧ ∀ u, valOf r = some u → q = u.2
def NameC (f : Nat) : Prop := ∀ (X : Nat → Prop) (W : World) (rb : Nat) (s : ByteArray) (L : Toks) (lv : Value) (a : Nat) (ns : Names) (h : a < L.length) (p deep : Nat), Small s L → Rdr X W rb s L lv a ns → L[a].1.kind = 1 → 4 * (L.length - (a + 1)) + 4 ≤ f → ns.length + (L.length - a) ≤ 2000000 → p ≤ 1200 → deep ≤ 999 →
  Calls Tryz.prog 38 #[.pointer (some ⟨rb, 0, none⟩), .agg #[.int .i64 (L[a].1.kind : Nat), .string ⟨L[a].1.text.toArray⟩, .int .i64 (L[a].1.n : Nat), .int .i64 (L[a].2 : Nat), .bool L[a].1.opn], .int .i64 (p : Nat), .int .i64 (deep : Nat)] W fun e W' => NamePostR X W rb s L lv (rdName (bs s) f L[a] p deep (L.drop (a + 1)) ns) e W'
end Go.Proofs.YtilfglcjcmpfeaaGreatDoor
