/-
  The program's printer: a struct that holds a strings.Builder; what its writers leave.
  What the document's loops over names and numbers reckon, purely.
  The program's small functions on characters and names; a number's text.
  What the calls lean on of the library's own variable: it holds an error.
-/
import Derived.Test.YtliapkajonbndaaGreatDoorG01
import Derived.Test.YtliapkajonbndaaGreatDoorChecked
import Derived.WalkKit
import Derived.Lib.Hide
import Derived.Lib.OthersKept
import Derived.Lib.AppendStr
import Derived.Lib.UnsafeStr
import Derived.Lib.MakeNoZero
import Derived.Lib.Builder
import Derived.Lib.Strings
import Derived.Laws.Externs
import Derived.Laws.IdiomCopy
import Derived.Shelf.RegionOpenPlain
import Derived.BigQuiet
import Derived.Deep.CutRange
import Derived.Deep.LoopGhost
import Derived.Deep.DeepCutAuto
import Derived.Deep.RegionHeld3
import Derived.StillTailTactics
import Derived.Laws.Runes
import Derived.Test.YtliapkajonbndaaGreatDoorShelf
import Derived.Outline
import Derived.WalkMore
import Derived.Lib.LaidTab
namespace Go.Proofs.YtliapkajonbndaaGreatDoor
open Go.RowKit

/-- A printer in block b that holds these bytes: written to, or fresh. -/
def Pr (b : Nat) (x : List UInt8) (w : World) : Prop := Lib.IsBuilder 53 5 b b (Lib.byteCells x) w
def Pu (b : Nat) (x : List UInt8) (w : World) : Prop := Lib.BuilderAt 53 5 b b (.pointer (some ⟨b, 0, none⟩)) (Lib.byteCells x) w
/-- What its writers leave: below the printer all is as it was, and so is whatever is no row of bytes. -/
structure PFr (b : Nat) (w w' : World) : Prop where
  low : Below b w w'
  oth : Lib.OthersKept 5 (some b) w w'
theorem Pu.pr {b : Nat} {x : List UInt8} {w : World} (h : Pu b x w) : Pr b x w := .inr h
theorem Pr.lt {b : Nat} {x : List UInt8} {w : World} (h : Pr b x w) : b < w.heap.size := by
  rcases h with h | h
  · exact h.lt
  · exact h.lt
theorem PFr.refl (b : Nat) (w : World) : PFr b w w := ⟨Below.refl _ _, Lib.OthersKept.refl _ _ _⟩
theorem PFr.trans {b : Nat} {u v w : World} (h : PFr b u v) (k : PFr b v w) : PFr b u w := ⟨h.low.trans k.low, h.oth.trans k.oth⟩
theorem PFr.of {b : Nat} {w w' : World} (hb : b ≤ w.heap.size) (h : Below w.heap.size w w') : PFr b w w' :=
  ⟨h.mono hb, fun k _o hk _ _ => (h.block k (Array.getElem?_eq_some_iff.1 hk).1).trans hk⟩
theorem BuilderAt_below {T e : TypeId} {B b : Nat} {p : Value} {bs : List Value} {w w' : World} (h : Lib.BuilderAt T e B b p bs w) (hb : Below w.heap.size w w') : Lib.BuilderAt T e B b p bs w' := by
  have hlt := h.lt
  obtain ⟨h1, v, h2, h3, h4⟩ := h
  exact ⟨h1, v, (hb.block b hlt).trans h2, h3.kept (row := none) ⟨hb.os, hb.tape, hb.output, hb.size, fun k hk _ => hb.block k hk⟩ (by
    rcases Option.eq_none_or_eq_some v.ownBlock with h | ⟨q, h⟩
    · exact .inl h
    · exact .inr (by rw [h]; simp)), h4⟩
theorem Pr.below {b : Nat} {x : List UInt8} {w w' : World} (h : Pr b x w) (hb : Below w.heap.size w w') : Pr b x w' := by
  rcases h with h | h
  · exact .inl (BuilderAt_below h hb)
  · exact .inr (BuilderAt_below h hb)
theorem Pr.drew {b : Nat} {x : List UInt8} {w : World} (h : Pr b x w) : Pr b x w.drew := h
/-- A block that is no row of bytes stands as it stood. -/
theorem PFr.block {b k : Nat} {w w' : World} {o : Obj} (h : PFr b w w') (hk : w.heap[k]? = some o) (hb : k ≠ b) (ho : ∀ c fz, o ≠ .cells c 5 fz) : w'.heap[k]? = some o :=
  h.oth k o hk (fun e => hb (Option.some.inj e)) ho

theorem infoB : (Tryz.prog.info? 51).map (fun j => j.size) = some 2 := by kernel_rfl
theorem info8 : (Tryz.prog.info? 5).map (fun j => (j.zero, j.size, j.bytes)) = some (some (.int .u8 0), 1, 1) := by kernel_rfl
theorem liesP : liesAt Tryz.prog Tryz.prog.depth 53 (2 / Tryz.prog.cellsOf 53) 0 51 1 = true := by kernel_rfl
set_option maxHeartbeats 1000000 in
set_option maxRecDepth 100000 in
theorem pcheck_any (b : Nat) (x : List UInt8) (w : World) (h : Pr b x w) :
    Calls Tryz.prog 37 #[.pointer (some ⟨b, 0, none⟩)] w fun e w' => e = .returned (.tuple #[]) ∧ Pu b x w' ∧ PFr b w w' := by
  obtain ⟨j, hj, hjs⟩ := Option.map_eq_some_iff.1 infoB
  rcases h with h | h
  · have c0 := h.cell0
    have c1 := h.frozen0
    have hb0 : b < w.heap.size := h.lt
    have k1 : ∀ u : World, u.shape? b = some (53, 2) → (convert 48 116 (.pointer (some ⟨b, 0, none⟩))).run Tryz.prog u = .ok (.pointer (some ⟨b, 0, none⟩)) u := fun u hs => Lib.run_to_unsafe u ⟨b, 0, none⟩ Tryz.underlying48 Tryz.underlying116 hj (by rw [hjs]; decide) hs (Nat.zero_lt_succ 1)
    have k2 : ∀ u : World, u.shape? b = some (53, 2) → (convert 116 48 (.pointer (some ⟨b, 0, none⟩))).run Tryz.prog u = .ok (.pointer (some ⟨b, 0, none⟩)) u := fun u hs => Lib.run_from_unsafe u ⟨b, 0, none⟩ Tryz.underlying116 Tryz.underlying48 hj hs liesP
    have k3 := k1 w h.shape
    have k4 := k2 w h.shape
    have HH := Lib.hid h
    clear h k1 k2
    go_enter Tryz.func37, Tryz.ntmps37
    go_wp2_with fail
    rw [run_callFunc_extern Tryz.func50 (by kernel_rfl) (by kernel_rfl) (by kernel_rfl) (e := Extern.AbiNoEscape.same) (by kernel_rfl)]
    rw [Lib.run_noEscape]
    simp only [Result.andThen]
    rw [Oper.upon_value]
    go_wp2_with fail
    go_end0
    exact ⟨rfl, HH.out.used _, (Below.refl _ _).setCell (p := ⟨b, 0, none⟩) (Nat.le_refl _) _, (Lib.OthersKept.refl _ _ _).setCell ⟨b, 0, none⟩ rfl _⟩
  · have c0 := h.cell0
    have k1 := Lib.run_neq_ptr_same w ⟨b, 0, none⟩ Tryz.underlying48 hj
    have HH := Lib.hid h
    clear h
    go_enter Tryz.func37, Tryz.ntmps37
    go_wp2_with fail
    go_end0
    exact ⟨rfl, HH.out, PFr.refl _ _⟩
theorem info8z : ∃ i, Tryz.prog.info? 5 = some i ∧ i.zero = some (.int .u8 0) ∧ i.size = 1 ∧ i.bytes = 1 := by
  obtain ⟨i, hi, h⟩ := Option.map_eq_some_iff.1 info8
  injection h with h1 h2
  injection h2 with h2 h3
  exact ⟨i, hi, h1, h2, h3⟩
/-- What a writer that is used holds, opened. -/
theorem Pu.open {b : Nat} {x : List UInt8} {w : World} (h : Pu b x w) : ∃ g c, w.heap[b]? = some (.cells #[.pointer (some ⟨b, 0, none⟩), .slice g x.length c] 53 (0, 0)) ∧ w.ownsRow b 5 1 (.slice g x.length c) x.length (Lib.byteCells x) ∧ (Value.slice g x.length c).ownBlock ≠ some b := by
  obtain ⟨_, v, h1, h2, h3⟩ := h
  rw [Lib.byteCells_length] at h2
  obtain ⟨g, c, rfl⟩ : ∃ g c, v = .slice g x.length c := by
    rcases h2.2 with ⟨hv, h0⟩ | ⟨g, cap, cur, hv, _⟩
    · exact ⟨none, 0, by rw [hv, h0]⟩
    · exact ⟨_, _, hv⟩
  exact ⟨g, c, h1, h2, h3⟩
theorem cells_ne {w : World} {b k : Nat} {o : Obj} (hk : w.heap[k]? = some o) (hb : b < k) : b < w.heap.size := Nat.lt_trans hb (Array.getElem?_eq_some_iff.1 hk).1
theorem own_kind {w : World} {B : Nat} {e : TypeId} {v : Value} {n : Nat} {xs : List Value} (h : w.ownsRow B e 1 v n xs) : ∀ g, v.ownBlock = some g → ∃ c fz, w.heap[g]? = some (.cells c e fz) := by
  intro g hg
  rcases h.2 with ⟨rfl, _⟩ | ⟨g', cap, cur, rfl, _, hgg, _⟩
  · simp [Value.ownBlock] at hg
  · simp [Value.ownBlock] at hg
    subst hg
    exact ⟨cur, _, hgg⟩
/-- What stands behind an append to the writer's row, put back in its place. -/
theorem Pu.put {b : Nat} {x y : List UInt8} {g : Option Addr} {c : Nat} {w w1 w2 : World} {v' : Value} (hf : PFr b w w1) (hb1 : b < w1.heap.size) (hbk : w1.heap[b]? = some (.cells #[.pointer (some ⟨b, 0, none⟩), .slice g x.length c] 53 (0, 0))) (hown : w1.ownsRow b 5 1 (.slice g x.length c) x.length (Lib.byteCells x)) (hne : (Value.slice g x.length c).ownBlock ≠ some b)
    (h2 : w2.ownsRow b 5 1 v' (x.length + y.length) (Lib.byteCells x ++ Lib.byteCells y)) (hg : w1.grownBy w2 (Value.slice g x.length c).ownBlock) :
    Pu b (x ++ y) (w2.setCell ⟨b, 1, none⟩ v') ∧ PFr b w (w2.setCell ⟨b, 1, none⟩ v') := by
  have hb2 : w2.heap[b]? = some (.cells #[.pointer (some ⟨b, 0, none⟩), .slice g x.length c] 53 (0, 0)) := (hg.block b hb1 (fun e => hne e.symm)).trans hbk
  refine ⟨?_, (hf.low.grown hg (Nat.le_of_lt hb1) (fun k hk => (hown.lt k hk).1)).setCell (p := ⟨b, 1, none⟩) (Nat.le_refl _) _, (hf.oth.grown hg (own_kind hown)).setCell ⟨b, 1, none⟩ rfl _⟩
  have h3 := Lib.BuilderAt.put (T := 53) (e := 5) (Nat.le_refl b) hb2 (bs' := Lib.byteCells (x ++ y)) (v' := v') (by rw [Lib.byteCells_append]; simpa [Lib.byteCells_length] using h2) (by decide)
  exact h3
set_option maxHeartbeats 2000000 in
set_option maxRecDepth 100000 in
theorem pbyte_any (b : Nat) (x : List UInt8) (c : UInt8) (w : World) (h : Pr b x w) (hl : x.length ≤ 9000000000) :
    Calls Tryz.prog 26 #[.pointer (some ⟨b, 0, none⟩), .int .u8 (c.toNat : Nat)] w fun e w' => e = .returned .nilIface ∧ Pr b (x ++ [c]) w' ∧ PFr b w w' := by
  obtain ⟨i0, hi, hz0, hz1, hz2⟩ := info8z
  have HC := Lib.hid (pcheck_any b x w h)
  clear h
  go_enter Tryz.func26, Tryz.ntmps26
  go_upto_region 2 with (go_at_call 37; (with_reducible refine HC.out.mono ?_); rintro e w1 ⟨rfl, h1, hb1⟩; have H1 := Lib.hid h1; have HF := Lib.hid hb1; clear h1 hb1)
  obtain ⟨g, cp, hbk, hown, hne⟩ := H1.out.open
  have c1 : w1.cell? ⟨b, 1, none⟩ = some (.slice g x.length cp) := by rw [Lib.cell_of_heap hbk]; rfl
  have hb0 : b < w1.heap.size := (Array.getElem?_eq_some_iff.1 hbk).1
  have HB := Lib.hid hbk
  have HO := Lib.hid hown
  have HN := Lib.hid hne
  clear hbk hown hne
  go_wp2_with (at_builtin; refine wpList_append_own _ rfl _ _ 49 rfl b 5 i0 (.int .u8 0) 1 1 Tryz.underlying49 hi hz0 hz1 hz2 rfl (by decide) _ _ _ rfl (HO.out.alloc _) ⟨w1.heap.size, 0, none⟩ 1 1 [.int .u8 (c.toNat : Nat)] rfl rfl ?c1 ?c2 ?c3 ?c4 ?c5 ?_)
  case c1 =>
    intro j u hj
    match j, hj with
    | 0, hj => simp at hj; subst hj; simp [Addr.add]
  case c2 => intro u hu; simp at hu; subst hu; rfl
  case c3 => unfold maxLen; omega
  case c4 => omega
  case c5 => simp; omega
  intro v' w2 hown' hgrow _
  obtain ⟨g', n', c', rfl⟩ : ∃ g n c, v' = .slice g n c := by
    rcases hown'.2 with ⟨hv, _⟩ | ⟨g, cap, cur, hv, _⟩
    · exact ⟨_, _, _, hv⟩
    · exact ⟨_, _, _, hv⟩
  have hba : (w1.alloc (.cells #[.int .u8 (c.toNat : Nat)] 5)).heap[b]? = some (.cells #[.pointer (some ⟨b, 0, none⟩), .slice g x.length cp] 53 (0, 0)) := (Lib.alloc_old w1 _ b hb0).trans HB.out
  have hb2 : w2.heap[b]? = some (.cells #[.pointer (some ⟨b, 0, none⟩), .slice g x.length cp] 53 (0, 0)) := (hgrow.block b (by simp; omega) (fun e => HN.out e.symm)).trans hba
  have d1 : w2.cell? ⟨b, 1, none⟩ = some (.slice g x.length cp) := by rw [Lib.cell_of_heap hb2]; rfl
  have f1 : w2.frozen? ⟨b, 1, none⟩ = false := Lib.frozen_of_heap hb2 1
  have HP := Lib.hid (Pu.put (y := [c]) (HF.out.trans (PFr.of (by omega) ((Below.refl w1.heap.size w1).alloc (Nat.le_refl _) (.cells #[.int .u8 (c.toNat : Nat)] 5)))) (by simp; omega) hba (HO.out.alloc _) HN.out hown' hgrow)
  clear hown' hgrow hba hb2
  go_wp2_with fail
  go_ret
  exact ⟨rfl, HP.out.1.pr, HP.out.2⟩
set_option maxHeartbeats 2000000 in
set_option maxRecDepth 100000 in
theorem pstr_any (b : Nat) (x y : List UInt8) (w : World) (h : Pr b x w) (hl : x.length + y.length ≤ 9000000000) :
    Calls Tryz.prog 24 #[.pointer (some ⟨b, 0, none⟩), .string ⟨y.toArray⟩] w fun e w' => e = .returned (.tuple #[.int .i64 y.length, .nilIface]) ∧ Pr b (x ++ y) w' ∧ PFr b w w' := by
  obtain ⟨i0, hi, hz0, hz1, hz2⟩ := info8z
  have HC := Lib.hid (pcheck_any b x w h)
  clear h
  have hy : (⟨y.toArray⟩ : ByteArray).size = y.length := by simp [ByteArray.size]
  have hs : Lib.strCells ⟨y.toArray⟩ = Lib.byteCells y := by simp [Lib.strCells, Lib.byteCells]
  obtain ⟨s, hs0⟩ : ∃ s : ByteArray, ⟨y.toArray⟩ = s := ⟨_, rfl⟩
  rw [hs0] at hy hs ⊢
  clear hs0
  have HS := Lib.hid hs
  have HY := Lib.hid hy
  clear hs hy
  go_enter Tryz.func24, Tryz.ntmps24
  go_upto_region 2 with (go_at_call 37; (with_reducible refine HC.out.mono ?_); rintro e w1 ⟨rfl, h1, hb1⟩; have H1 := Lib.hid h1; have HF := Lib.hid hb1; clear h1 hb1)
  obtain ⟨g, cp, hbk, hown, hne⟩ := H1.out.open
  have c1 : w1.cell? ⟨b, 1, none⟩ = some (.slice g x.length cp) := by rw [Lib.cell_of_heap hbk]; rfl
  have hb0 : b < w1.heap.size := (Array.getElem?_eq_some_iff.1 hbk).1
  have HB := Lib.hid hbk
  have HO := Lib.hid hown
  have HN := Lib.hid hne
  clear hbk hown hne
  go_wp2_with (at_builtin; refine Lib.wpList_append_own_string _ rfl _ _ 49 9 rfl b 5 i0 Tryz.underlying49 Tryz.underlying9 hi hz0 hz1 hz2 _ _ _ rfl HO.out s rfl ?c3 ?c4 ?c5 ?_)
  case c3 => have := HY.out; unfold maxLen; omega
  case c4 => have := HY.out; omega
  case c5 => omega
  intro v' w2 hown' hgrow _
  obtain ⟨g', n', c', rfl⟩ : ∃ g n c, v' = .slice g n c := by
    rcases hown'.2 with ⟨hv, _⟩ | ⟨g, cap, cur, hv, _⟩
    · exact ⟨_, _, _, hv⟩
    · exact ⟨_, _, _, hv⟩
  have hb2 : w2.heap[b]? = some (.cells #[.pointer (some ⟨b, 0, none⟩), .slice g x.length cp] 53 (0, 0)) := (hgrow.block b hb0 (fun e => HN.out e.symm)).trans HB.out
  have d1 : w2.cell? ⟨b, 1, none⟩ = some (.slice g x.length cp) := by rw [Lib.cell_of_heap hb2]; rfl
  have f1 : w2.frozen? ⟨b, 1, none⟩ = false := Lib.frozen_of_heap hb2 1
  rw [HS.out, HY.out] at hown'
  have HP := Lib.hid (Pu.put (y := y) HF.out hb0 HB.out HO.out HN.out hown' hgrow)
  have HE := Lib.hid (show (s.size : Int) = (y.length : Int) by rw [HY.out])
  clear hown' hgrow hb2
  go_wp2_with fail
  go_ret2
  exact ⟨by rw [HE.out]; rfl, HP.out.1.pr, HP.out.2⟩
theorem Pr.open {b : Nat} {x : List UInt8} {w : World} (h : Pr b x w) : ∃ p g c, w.heap[b]? = some (.cells #[p, .slice g x.length c] 53 (0, 0)) ∧ w.ownsRow b 5 1 (.slice g x.length c) x.length (Lib.byteCells x) := by
  obtain ⟨p, _, v, h1, h2, h3⟩ : ∃ p, Lib.BuilderAt 53 5 b b p (Lib.byteCells x) w := by
    rcases h with h | h
    · exact ⟨_, h⟩
    · exact ⟨_, h⟩
  rw [Lib.byteCells_length] at h2
  obtain ⟨g, c, rfl⟩ : ∃ g c, v = .slice g x.length c := by
    rcases h2.2 with ⟨hv, h0⟩ | ⟨g, cap, cur, hv, _⟩
    · exact ⟨none, 0, by rw [hv, h0]⟩
    · exact ⟨_, _, hv⟩
  exact ⟨p, g, c, h1, h2⟩
set_option maxRecDepth 100000 in
theorem plen_any (b : Nat) (x : List UInt8) (w : World) (h : Pr b x w) :
    Calls Tryz.prog 17 #[.pointer (some ⟨b, 0, none⟩)] w fun e w' => e = .returned (.int .i64 x.length) ∧ w = w' := by
  obtain ⟨p, g, c, hbk, -⟩ := h.open
  have c1 : w.cell? ⟨b, 1, none⟩ = some (.slice g x.length c) := by rw [Lib.cell_of_heap hbk]; rfl
  clear h hbk
  go_enter Tryz.func17, Tryz.ntmps17
  go_wp2_with fail
  go_ret
  exact ⟨rfl, rfl⟩
theorem cells8 : Tryz.prog.cellsOf 5 = 1 := by kernel_rfl
set_option maxRecDepth 100000 in
set_option maxHeartbeats 2000000 in
theorem ptext_any (b : Nat) (x : List UInt8) (w : World) (h : Pr b x w) (h0 : x ≠ []) :
    Calls Tryz.prog 18 #[.pointer (some ⟨b, 0, none⟩)] w fun e w' => e = .returned (.string ⟨x.toArray⟩) ∧ Below b w w' := by
  obtain ⟨p, g1, c, hbk, hown⟩ := h.open
  have hl0 : x.length ≠ 0 := by simpa using h0
  obtain ⟨g, cap, cur, hv, hbg, hg, hnc, hcm, hcs, htake⟩ : ∃ g cap cur, Value.slice g1 x.length c = .slice (some ⟨g, 0, none⟩) x.length cap ∧ b ≤ g ∧ w.heap[g]? = some (.cells cur 5 (0, 0)) ∧ x.length ≤ cap ∧ cap ≤ maxLen ∧ cur.size = cap * 1 ∧ cur.toList.take (x.length * 1) = Lib.byteCells x := by
    rcases hown.2 with ⟨_, hz⟩ | ⟨g, cap, cur, hv, r⟩
    · exact absurd hz hl0
    · exact ⟨g, cap, cur, hv, r⟩
  obtain ⟨rfl, rfl⟩ : g1 = some ⟨g, 0, none⟩ ∧ c = cap := by
    injection hv with e1 e2 e3
    exact ⟨e1, e3⟩
  have c1 : w.drew.cell? ⟨b, 1, none⟩ = some (.slice (some ⟨g, 0, none⟩) x.length c) := by
    have : w.drew.heap[b]? = some (.cells #[p, .slice (some ⟨g, 0, none⟩) x.length c] 53 (0, 0)) := hbk
    rw [Lib.cell_of_heap this]; rfl
  have hSD : (Builtin.unsafeSliceData_ #[49] 78 #[.slice (some ⟨g, 0, none⟩) x.length c]).run Tryz.prog w.drew = .ok (.pointer (some ⟨g, 0, none⟩)) w.drew :=
    Lib.run_unsafeSliceData_row _ _ _ _ _ _ (by omega)
  have hUS : (Builtin.unsafeString_ #[78, 3] 9 #[.pointer (some ⟨g, 0, none⟩), .int .i64 x.length]).run Tryz.prog w.drew = .ok (.string ⟨x.toArray⟩) (w.drew.freeze ⟨g, 0, none⟩ x.length) := by
    refine Lib.run_unsafeString_row w.drew 78 3 9 5 Tryz.underlying78 cells8 g cur.size (by have hg' : w.drew.heap[g]? = some (.cells cur 5 (0, 0)) := hg; simp [World.shape?, hg']) x h0 (by omega) (by unfold maxLen at hcm; omega) ?_
    intro j y hy
    exact hown.cells (g := g) rfl j (.int .u8 y.toNat) (by simp [Lib.byteCells, hy])
  clear hown hbk hg htake hv h
  go_enter Tryz.func18, Tryz.ntmps18
  have mixed : Tryz.prog.follows Departure.mixedOrders = true := by kernel_rfl
  go_wp2_with fail
  go_region_o
  all_goals
    go_wp2_with fail
    go_ret
    exact ⟨rfl, Lib.below_freeze (Below.drew (Below.refl b w)) (p := ⟨g, 0, none⟩) hbg _⟩
set_option maxRecDepth 100000 in
set_option maxHeartbeats 2000000 in
theorem papp_any (B : Nat) (xs : List Value) (n : Nat) (g : Option Addr) (cp : Nat) (c : UInt8) (hc : c.toNat < 128) (w : World) (hB : B ≤ w.heap.size) (hown : w.ownsRow B 5 1 (.slice g n cp) n xs) (hl : n ≤ 9000000000) :
    Calls Tryz.prog 56 #[.slice g n cp, .int .i32 (c.toNat : Nat)] w fun e w' => ∃ g' c', e = .returned (.slice g' (n + 1) c') ∧ w'.ownsRow B 5 1 (.slice g' (n + 1) c') (n + 1) (xs ++ [.int .u8 (c.toNat : Nat)]) ∧ (w.alloc (.cells #[.int .u8 (c.toNat : Nat)] 5)).grownBy w' (Value.slice g n cp).ownBlock := by
  obtain ⟨i0, hi, hz0, hz1, hz2⟩ := info8z
  have HO := Lib.hid hown
  clear hown
  have k1 : ((c.toNat : Nat) : Int) ≤ 127 := by omega
  have k2 : IntKind.wrap .u32 ((c.toNat : Nat) : Int) = ((c.toNat : Nat) : Int) := by rw [IntKind.wrap_u32]; omega
  have k3 : IntKind.wrap .u8 ((c.toNat : Nat) : Int) = ((c.toNat : Nat) : Int) := by rw [IntKind.wrap_u8]; omega
  go_enter Tryz.func56, Tryz.ntmps56
  go_wp2_with (at_builtin; refine wpList_append_own _ rfl _ _ 49 rfl B 5 i0 (.int .u8 0) 1 1 Tryz.underlying49 hi hz0 hz1 hz2 rfl (by decide) _ _ _ rfl (HO.out.alloc _) ⟨w.heap.size, 0, none⟩ 1 1 [.int .u8 (c.toNat : Nat)] rfl rfl ?c1 ?c2 ?c3 ?c4 ?c5 ?_)
  case c1 =>
    intro j u hj
    match j, hj with
    | 0, hj => simp at hj; subst hj; simp [Addr.add]
  case c2 => intro u hu; simp at hu; subst hu; rfl
  case c3 => unfold maxLen; omega
  case c4 => omega
  case c5 => simp; omega
  intro v' w2 hown' hgrow _
  obtain ⟨g', c', rfl⟩ : ∃ g c, v' = .slice g (n + 1) c := by
    rcases hown'.2 with ⟨_, h0⟩ | ⟨g, cap, cur, hv, _⟩
    · omega
    · exact ⟨_, _, hv⟩
  have H1 := Lib.hid hown'
  have H2 := Lib.hid hgrow
  clear hown' hgrow
  go_wp2_with fail
  go_ret
  exact ⟨g', c', rfl, H1.out, H2.out⟩
set_option maxRecDepth 100000 in
set_option maxHeartbeats 2000000 in
theorem prune_any (b : Nat) (x : List UInt8) (c : UInt8) (hc : c.toNat < 128) (w : World) (h : Pr b x w) (hl : x.length ≤ 9000000000) :
    Calls Tryz.prog 45 #[.pointer (some ⟨b, 0, none⟩), .int .i32 (c.toNat : Nat)] w fun e w' => e = .returned (.tuple #[.int .i64 1, .nilIface]) ∧ Pr b (x ++ [c]) w' ∧ PFr b w w' := by
  obtain ⟨i0, hi, hz0, hz1, hz2⟩ := info8z
  have HC := Lib.hid (pcheck_any b x w h)
  clear h
  go_enter Tryz.func45, Tryz.ntmps45
  go_upto_region 2 with (go_at_call 37; (with_reducible refine HC.out.mono ?_); rintro e w1 ⟨rfl, h1, hb1⟩; have H1 := Lib.hid h1; have HF := Lib.hid hb1; clear h1 hb1)
  obtain ⟨g, cp, hbk, hown, hne⟩ := H1.out.open
  have c1 : w1.cell? ⟨b, 1, none⟩ = some (.slice g x.length cp) := by rw [Lib.cell_of_heap hbk]; rfl
  have hb0 : b < w1.heap.size := (Array.getElem?_eq_some_iff.1 hbk).1
  have HB := Lib.hid hbk
  have HO := Lib.hid hown
  have HN := Lib.hid hne
  clear hbk hown hne
  have hba : (w1.alloc (.cells #[.int .u8 (c.toNat : Nat)] 5)).heap[b]? = some (.cells #[.pointer (some ⟨b, 0, none⟩), .slice g x.length cp] 53 (0, 0)) := (Lib.alloc_old w1 _ b hb0).trans HB.out
  have HBA := Lib.hid hba
  clear hba
  go_upto_region 4 with (go_at_call 56; (with_reducible refine (papp_any b (Lib.byteCells x) x.length g cp c hc w1 (Nat.le_of_lt hb0) HO.out hl).mono ?_); rintro e w2 ⟨g', c', rfl, hown', hgrow⟩; have hb2 : w2.heap[b]? = some (.cells #[.pointer (some ⟨b, 0, none⟩), .slice g x.length cp] 53 (0, 0)) := (hgrow.block b (by simp; omega) (fun e => HN.out e.symm)).trans HBA.out; have d1 : w2.cell? ⟨b, 1, none⟩ = some (.slice g x.length cp) := by { rw [Lib.cell_of_heap hb2]; rfl }; have f1 : w2.frozen? ⟨b, 1, none⟩ = false := Lib.frozen_of_heap hb2 1; have HP := Lib.hid (Pu.put (y := [c]) (HF.out.trans (PFr.of (by omega) ((Below.refl w1.heap.size w1).alloc (Nat.le_refl _) (.cells #[.int .u8 (c.toNat : Nat)] 5)))) (by simp; omega) HBA.out (HO.out.alloc _) HN.out hown' hgrow); have HN2 := Lib.hid hown'; clear hown' hgrow hb2)
  obtain ⟨V, hV⟩ : ∃ V, w2.setCell ⟨b, 1, none⟩ (.slice g' (x.length + 1) c') = V := ⟨_, rfl⟩
  rw [hV] at HP ⊢
  obtain ⟨g3, c3, hbk3, -, -⟩ := HP.out.1.open
  have e1 : V.cell? ⟨b, 1, none⟩ = some (.slice g3 (x ++ [c]).length c3) := by rw [Lib.cell_of_heap hbk3]; rfl
  have e2 : ((x ++ [c]).length : Int) = (x.length : Int) + 1 := by simp
  have e3 : (x.length : Int) + 1 - (x.length : Int) = 1 := by omega
  clear d1 f1 c1 hV hbk3
  go_wp2_with fail
  go_ret2
  exact ⟨rfl, HP.out.1.pr, HP.out.2⟩
end Go.Proofs.YtliapkajonbndaaGreatDoor

namespace Go.Proofs.YtliapkajonbndaaGreatDoor


/-- A number's text. -/
def dgz (n : Int) : List UInt8 := if n < 0 then 45 :: dgs (-n).toNat else dgs n.toNat
theorem dgs_small {m : Nat} (h : m < 10) : dgs m = [UInt8.ofNat (48 + m)] := by rw [dgs, if_pos h]
theorem dgs_more {m : Nat} (h : ¬ m < 10) : dgs m = dgs (m / 10) ++ [UInt8.ofNat (48 + m % 10)] := by rw [dgs, if_neg h]
/-- Of which sort is a byte of a name. -/
def wsort (c : UInt8) : Nat :=
  if 97 ≤ c.toNat ∧ c.toNat ≤ 122 then 1
  else if (65 ≤ c.toNat ∧ c.toNat ≤ 90) ∨ (48 ≤ c.toNat ∧ c.toNat ≤ 57) ∨ c.toNat = 95 then 2
  else if ([43, 45, 42, 47, 94, 60, 62, 61, 126, 58, 63, 64, 35, 38, 36] : List UInt8).contains c then 3
  else if c.toNat = 92 then 3 else 0
theorem wsort_all : ∀ k : Fin 256, (let c := UInt8.ofNat k.val; decide (wsort c = 1) = (srt c == 1) ∧ (decide (wsort c = 1) || decide (wsort c = 2)) = isWord c ∧ decide (wsort c = 3) = (isSign c && c != 46)) := by decide +kernel
theorem wsort_is (c : UInt8) : decide (wsort c = 1) = (srt c == 1) ∧ (decide (wsort c = 1) || decide (wsort c = 2)) = isWord c ∧ decide (wsort c = 3) = (isSign c && c != 46) := by
  have h := wsort_all ⟨c.toNat, c.toNat_lt⟩
  have e : UInt8.ofNat c.toNat = c := UInt8.ofNat_toNat
  simpa only [e] using h
/-- The flags behind so many bytes. -/
def wordF (x : List UInt8) (i : Nat) : Bool := (match x with | [] => false | c :: _ => decide (wsort c = 1)) && (x.take i).all (fun c => decide (wsort c = 1) || decide (wsort c = 2))
def signF (x : List UInt8) (i : Nat) : Bool := !x.isEmpty && (x.take i).all (fun c => decide (wsort c = 3))
theorem wordF_zero (x : List UInt8) : wordF x 0 = match x with | [] => false | c :: _ => decide (wsort c = 1) := by simp [wordF]
theorem signF_zero (x : List UInt8) : signF x 0 = !x.isEmpty := by simp [signF]
theorem wordF_succ {x : List UInt8} {i : Nat} (h : i < x.length) : wordF x (i + 1) = (wordF x i && (decide (wsort x[i] = 1) || decide (wsort x[i] = 2))) := by
  unfold wordF
  rw [List.take_succ_eq_append_getElem h, List.all_append, List.all_cons, List.all_nil, Bool.and_true, Bool.and_assoc]
theorem signF_succ {x : List UInt8} {i : Nat} (h : i < x.length) : signF x (i + 1) = (signF x i && decide (wsort x[i] = 3)) := by
  unfold signF
  rw [List.take_succ_eq_append_getElem h, List.all_append, List.all_cons, List.all_nil, Bool.and_true, Bool.and_assoc]
theorem wordF_all (x : List UInt8) : wordF x x.length = wordN x := by
  unfold wordF wordN
  rw [List.take_length]
  cases x with
  | nil => rfl
  | cons c r =>
    dsimp only
    have h1 := (wsort_is c).1
    rw [h1, List.all_cons]
    have e : (fun c => decide (wsort c = 1) || decide (wsort c = 2)) = isWord := funext fun c => (wsort_is c).2.1
    rw [e]
    by_cases h : srt c = 1
    · have : isWord c = true := by unfold isWord; rw [h]; rfl
      rw [(wsort_is c).2.1, this, Bool.true_and]
    · have : (srt c == 1) = false := beq_false_of_ne h
      rw [this, Bool.false_and, Bool.false_and]
theorem signF_all (x : List UInt8) : signF x x.length = signN x := by
  unfold signF signN
  rw [List.take_length, show (fun c => decide (wsort c = 3)) = (fun c => isSign c && c != 46) from funext fun c => (wsort_is c).2.2]
theorem plain_is (x : List UInt8) : plainN x = (wordF x x.length || signF x x.length || decide (x = [33]) || decide (x = [59]) || decide (x = [91, 93])) := by
  rw [wordF_all, signF_all]
  rfl
/-- What is doubled so far. -/
theorem dbl_snoc : ∀ (x : List UInt8) (c : UInt8), dbl (x ++ [c]) = dbl x ++ (if c = 39 then [39, 39] else [c])
  | [], c => by
    rw [List.nil_append, dbl, dbl, List.nil_append]
    split <;> rfl
  | d :: x, c => by
    rw [List.cons_append, dbl, dbl, dbl_snoc x c]
    split
    · rfl
    · rfl
end Go.Proofs.YtliapkajonbndaaGreatDoor

namespace Go.Proofs.YtliapkajonbndaaGreatDoor
open Go.RowKit

/-! ### numbers -/
/-- What the library's table of powers holds. -/
def Pow (w : World) : Prop := Lib.TabIs Tryz.prog w "internal/strconv.uint64pow10" .u64 Lib.pow10Tab
theorem Pow.next {b : Nat} {w w' : World} (h : Pow w) (hb : Below b w w') (hg : 0 < b) : Pow w' := by
  have hn : Tryz.prog.globalNamed "internal/strconv.uint64pow10" = some 0 := by kernel_rfl
  unfold Pow Lib.TabIs World.var? at h ⊢
  rw [hn] at h ⊢
  simp only [Option.bind_some] at h ⊢
  rw [hb.block _ hg]
  exact h
theorem Pow.lt {w : World} (h : Pow w) : 0 < w.heap.size := by
  have hn : Tryz.prog.globalNamed "internal/strconv.uint64pow10" = some 0 := by kernel_rfl
  unfold Pow Lib.TabIs World.var? at h
  rw [hn] at h
  simp only [Option.bind_some] at h
  rcases Nat.lt_or_ge 0 w.heap.size with h' | h'
  · exact h'
  · rw [Array.getElem?_eq_none h'] at h
    cases h
theorem dgs_dec : ∀ (n m : Nat), n ≤ m → dgs n = Lib.decDigits n
  | n, m, hm => by
    rw [dgs, Lib.decDigits]
    by_cases h : n < 10
    · rw [if_pos h, dif_pos h]
    · rw [if_neg h, dif_neg h]
      match m, hm with
      | 0, hm => omega
      | m + 1, hm =>
        have hlt : n / 10 < n := Nat.div_lt_self (by omega) (by omega)
        rw [dgs_dec (n / 10) m (by omega)]
theorem dgz_itoa (n : Int) : dgz n = Lib.itoa n := by
  unfold dgz Lib.itoa
  split
  · rename_i h
    rw [dgs_dec _ _ (Nat.le_refl _), show (-n).toNat = n.natAbs by omega]
  · rw [dgs_dec _ _ (Nat.le_refl _)]
theorem below_grow {w : World} (k : Nat) (os : Array Obj) : Below w.heap.size w (Go.Sort.grow (w.drewN k) os) := by
  refine ⟨rfl, rfl, rfl, ?_, fun i hi => ?_⟩
  · show w.heap.size ≤ (w.heap ++ os).size
    simp
  · show (w.heap ++ os)[i]? = _
    exact Array.getElem?_append_left hi
theorem pitoa_any (n : Int) (h0 : -9223372036854775808 ≤ n) (h1 : n ≤ 9223372036854775807) (w : World) (hp : Pow w) :
    Calls Tryz.prog 29 #[.int .i64 n] w fun e w' => e = .returned (.string ⟨(dgz n).toArray⟩) ∧ Below w.heap.size w w' := by
  refine (Tryz.strconv_Itoa n h0 h1 w hp).mono ?_
  rintro e w' ⟨rfl, k, os, rfl⟩
  exact ⟨by rw [dgz_itoa], below_grow k os⟩
/-! ### characters -/
set_option maxRecDepth 100000 in
theorem wlow_any (r : Int) (b : Bool) (hb : b = decide (97 ≤ r ∧ r ≤ 122)) (w : World) : Calls Tryz.prog 52 #[.int .i32 r] w fun e w' => e = .returned (.bool b) ∧ w = w' := by
  by_cases h1 : 97 ≤ r
  · by_cases h2 : r ≤ 122
    · obtain rfl : true = b := by rw [hb]; simp [h1, h2]
      clear hb
      go_enter Tryz.func52, Tryz.ntmps52
      go_wp2_with fail
      go_ret
      exact ⟨rfl, rfl⟩
    · obtain rfl : false = b := by rw [hb]; simp [h2]
      clear hb
      go_enter Tryz.func52, Tryz.ntmps52
      go_wp2_with fail
      go_ret
      exact ⟨rfl, rfl⟩
  · obtain rfl : false = b := by rw [hb]; simp [h1]
    have h3 : r < 97 := by omega
    clear hb h1
    go_enter Tryz.func52, Tryz.ntmps52
    go_wp2_with fail
    go_ret
    exact ⟨rfl, rfl⟩
set_option maxRecDepth 100000 in
set_option maxHeartbeats 2000000 in
theorem wword_any (r : Int) (b : Bool) (hb : b = decide ((97 ≤ r ∧ r ≤ 122) ∨ (65 ≤ r ∧ r ≤ 90) ∨ (48 ≤ r ∧ r ≤ 57) ∨ r = 95)) (w : World) : Calls Tryz.prog 54 #[.int .i32 r] w fun e w' => e = .returned (.bool b) ∧ w = w' := by
  by_cases c1 : 97 ≤ r ∧ r ≤ 122
  · obtain rfl : true = b := by rw [hb, eq_comm, decide_eq_true_eq]; omega
    have H1 := Lib.hid (fun u => wlow_any r true (by rw [eq_comm, decide_eq_true_eq]; omega) u)
    clear hb
    go_enter Tryz.func54, Tryz.ntmps54
    go_wp2_with (go_at_call 52; (with_reducible refine (H1.out _).mono ?_); rintro e w1 ⟨rfl, rfl⟩)
    go_ret
    exact ⟨rfl, rfl⟩
  by_cases c2 : 65 ≤ r ∧ r ≤ 90
  · obtain rfl : true = b := by rw [hb, eq_comm, decide_eq_true_eq]; omega
    have H1 := Lib.hid (fun u => wlow_any r false (by rw [eq_comm, decide_eq_false_iff_not]; omega) u)
    have k0 : 65 ≤ r := by omega
    have k1 : r ≤ 90 := by omega
    clear hb
    go_enter Tryz.func54, Tryz.ntmps54
    go_wp2_with (go_at_call 52; (with_reducible refine (H1.out _).mono ?_); rintro e w1 ⟨rfl, rfl⟩)
    go_ret
    exact ⟨rfl, rfl⟩
  by_cases c3 : 48 ≤ r ∧ r ≤ 57
  · obtain rfl : true = b := by rw [hb, eq_comm, decide_eq_true_eq]; omega
    have H1 := Lib.hid (fun u => wlow_any r false (by rw [eq_comm, decide_eq_false_iff_not]; omega) u)
    have k0 : r < 65 := by omega
    have k1 : 48 ≤ r := by omega
    have k2 : r ≤ 57 := by omega
    clear hb
    go_enter Tryz.func54, Tryz.ntmps54
    go_wp2_with (go_at_call 52; (with_reducible refine (H1.out _).mono ?_); rintro e w1 ⟨rfl, rfl⟩)
    go_ret
    exact ⟨rfl, rfl⟩
  by_cases c4 : r = 95
  · subst c4
    obtain rfl : true = b := by rw [hb, eq_comm, decide_eq_true_eq]; omega
    have H1 := Lib.hid (fun u => wlow_any 95 false (by rw [eq_comm, decide_eq_false_iff_not]; omega) u)
    clear hb
    go_enter Tryz.func54, Tryz.ntmps54
    go_wp2_with (go_at_call 52; (with_reducible refine (H1.out _).mono ?_); rintro e w1 ⟨rfl, rfl⟩)
    go_ret
    exact ⟨rfl, rfl⟩
  by_cases c5 : r < 48
  · obtain rfl : false = b := by rw [hb, eq_comm, decide_eq_false_iff_not]; omega
    have H1 := Lib.hid (fun u => wlow_any r false (by rw [eq_comm, decide_eq_false_iff_not]; omega) u)
    have k0 : r < 65 := by omega
    have k1 : r < 48 := by omega
    have k2 : (r == 95) = false := by rw [beq_eq_false_iff_ne]; omega
    clear hb
    go_enter Tryz.func54, Tryz.ntmps54
    go_wp2_with (go_at_call 52; (with_reducible refine (H1.out _).mono ?_); rintro e w1 ⟨rfl, rfl⟩)
    go_ret
    exact ⟨rfl, rfl⟩
  by_cases c6 : r < 65
  · obtain rfl : false = b := by rw [hb, eq_comm, decide_eq_false_iff_not]; omega
    have H1 := Lib.hid (fun u => wlow_any r false (by rw [eq_comm, decide_eq_false_iff_not]; omega) u)
    have k0 : r < 65 := by omega
    have k1 : 48 ≤ r := by omega
    have k2 : (r ≤ 57) = False := by simp only [eq_iff_iff, iff_false]; omega
    have k3 : (r == 95) = false := by rw [beq_eq_false_iff_ne]; omega
    clear hb
    go_enter Tryz.func54, Tryz.ntmps54
    go_wp2_with (go_at_call 52; (with_reducible refine (H1.out _).mono ?_); rintro e w1 ⟨rfl, rfl⟩)
    go_ret
    exact ⟨rfl, rfl⟩
  obtain rfl : false = b := by rw [hb, eq_comm, decide_eq_false_iff_not]; omega
  have H1 := Lib.hid (fun u => wlow_any r false (by rw [eq_comm, decide_eq_false_iff_not]; omega) u)
  have k0 : 65 ≤ r := by omega
  have k1 : (r ≤ 90) = False := by simp only [eq_iff_iff, iff_false]; omega
  have k2 : 48 ≤ r := by omega
  have k3 : (r ≤ 57) = False := by simp only [eq_iff_iff, iff_false]; omega
  have k4 : (r == 95) = false := by rw [beq_eq_false_iff_ne]; omega
  clear hb
  go_enter Tryz.func54, Tryz.ntmps54
  go_wp2_with (go_at_call 52; (with_reducible refine (H1.out _).mono ?_); rintro e w1 ⟨rfl, rfl⟩)
  go_ret
  exact ⟨rfl, rfl⟩
theorem wlow_is (c : UInt8) : decide (97 ≤ ((c.toNat : Nat) : Int) ∧ ((c.toNat : Nat) : Int) ≤ 122) = (srt c == 1) := by
  unfold srt
  rw [Bool.eq_iff_iff, decide_eq_true_eq, beq_iff_eq]
  repeat' split
  all_goals omega
theorem wword_is (c : UInt8) : decide ((97 ≤ ((c.toNat : Nat) : Int) ∧ ((c.toNat : Nat) : Int) ≤ 122) ∨ (65 ≤ ((c.toNat : Nat) : Int) ∧ ((c.toNat : Nat) : Int) ≤ 90) ∨ (48 ≤ ((c.toNat : Nat) : Int) ∧ ((c.toNat : Nat) : Int) ≤ 57) ∨ ((c.toNat : Nat) : Int) = 95) = isWord c := by
  unfold isWord srt
  rw [Bool.eq_iff_iff, decide_eq_true_eq, decide_eq_true_eq]
  repeat' split
  all_goals omega
def sgW : ByteArray := ⟨#[43, 45, 42, 47, 92, 94, 60, 62, 61, 126, 58, 63, 64, 35, 38, 36]⟩
theorem wsgn_all : ∀ k : Fin 256, (let c := UInt8.ofNat k.val; decide (0 ≤ Lib.indexByte sgW.data.toList c) = (isSign c && c != 46)) := by decide +kernel
theorem wsgn_is (c : UInt8) : decide (0 ≤ Lib.indexByte sgW.data.toList c) = (isSign c && c != 46) := by
  have h := wsgn_all ⟨c.toNat, c.toNat_lt⟩
  have e : UInt8.ofNat c.toNat = c := UInt8.ofNat_toNat
  simpa only [e] using h
set_option maxRecDepth 100000 in
theorem wsign_any (c : UInt8) (hc : c.toNat < 128) (w : World) : Calls Tryz.prog 55 #[.int .i32 (c.toNat : Nat)] w fun e w' => e = .returned (.bool (isSign c && c != 46)) ∧ w = w' := by
  have H := Lib.hid (fun u => Tryz.strings_ContainsRune_ascii sgW (c.toNat : Nat) u (by omega) (by omega))
  have e : ((c.toNat : Nat) : Int).toNat.toUInt8 = c := by simp
  rw [e, wsgn_is] at H
  clear e
  go_enter Tryz.func55, Tryz.ntmps55
  go_wp2_with (go_at_call 69; (refine (H.out _).mono ?_); rintro e w1 ⟨rfl, rfl⟩)
  go_ret
  exact ⟨rfl, rfl⟩
/-- A function value that tells of a character. -/
structure TellB (g : Nat) (p : UInt8 → Bool) : Prop where
  enters : ∀ args w, (callFunc g args).run Tryz.prog w = .ok (.enter g args) w
  call : ∀ (c : UInt8) (w : World), c.toNat < 128 → Calls Tryz.prog g #[.int .i32 (c.toNat : Nat)] w fun e w' => e = .returned (.bool (p c)) ∧ w = w'
theorem tell_word : TellB 54 isWord := ⟨enters_of Tryz.func54 (by kernel_rfl) rfl, fun c w _ => wword_any _ _ (wword_is c).symm w⟩
theorem tell_sign : TellB 55 (fun c => isSign c && c != 46) := ⟨enters_of Tryz.func55 (by kernel_rfl) rfl, fun c w h => wsign_any c h w⟩
theorem all_get (p : UInt8 → Bool) (s : ByteArray) (k : Nat) (h : k < s.size) : ((bsN s).take (k + 1)).all p = (((bsN s).take k).all p && p s[k]) := by
  have hk : k < (bsN s).length := by rw [bsN_length]; exact h
  rw [List.take_succ_eq_append_getElem hk, List.all_append, List.all_cons, List.all_nil, Bool.and_true, bsN_get s k h]
theorem all_no (p : UInt8 → Bool) (s : ByteArray) (k : Nat) (h : k < s.size) (hp : p s[k] = false) : (bsN s).all p = false := by
  have hk : k < (bsN s).length := by rw [bsN_length]; exact h
  rw [List.all_eq_false]
  obtain ⟨c, hc⟩ : ∃ c, s[k]'h = c := ⟨_, rfl⟩
  rw [hc] at hp
  have h9 : (bsN s)[k]'hk = c := (bsN_get s k h).trans hc
  exact ⟨c, h9 ▸ List.getElem_mem hk, by simp [hp]⟩
set_option maxRecDepth 100000 in
set_option maxHeartbeats 2000000 in
theorem wall_any {g : Nat} {p : UInt8 → Bool} (hT : TellB g p) (s : ByteArray) (ha : ∀ i (h : i < s.size), s[i].toNat < 128) (w : World) :
    Calls Tryz.prog 53 #[.string s, .func (.func g) #[] #[]] w fun e w' => e = .returned (.bool ((bsN s).all p)) ∧ Below w.heap.size w w' := by
  have eg := hT.enters
  obtain ⟨R, hR⟩ : ∃ R, (bsN s).all p = R := ⟨_, rfl⟩
  rw [hR]
  have HRR := Lib.hid hR
  have HT := Lib.hid hT
  have HA := Lib.hid ha
  clear hT hR ha
  go_enter Tryz.func53, Tryz.ntmps53
  go_wp2_with fail
  go_loopw [] (fun wr => ∃ pos : Nat, Hid (wr.heap[w.heap.size]? = some (.stringIter s pos) ∧ Below w.heap.size w wr ∧ ((bsN s).take pos).all p = true) ∧ pos ≤ s.size) (fun wr => s.size - wr.iterPos w.heap.size)
  case atStart =>
    refine ⟨0, Lib.hid ⟨?_, (Below.refl _ w).alloc (Nat.le_refl _) _, by simp⟩, Nat.zero_le _⟩
    have := World.iter_heap w s 0
    simpa using this
  case round =>
    obtain ⟨pos, hR, hps⟩ := hrel
    obtain ⟨hit, hb, hal⟩ := hR.out
    clear hR
    by_cases hp : pos < s.size
    · have hnx : ∀ ty, (Instr.next (.pointer (some ⟨w.heap.size, 0, none⟩)) true ty).run Tryz.prog wr = _ := fun ty => Lib.run_next_ascii_at wr w.heap.size s pos ty hit hp (HA.out pos hp)
      have hit2 := Lib.iterAt_heap wr w.heap.size s pos (pos + 1) hit
      have hb2 := Lib.below_iterAt hb (k := w.heap.size) (Nat.le_refl _) s (pos + 1)
      have hmv : wr.iterPos w.heap.size = pos := by simp only [World.iterPos, hit]
      have hn := all_get p s pos hp
      rw [hal, Bool.true_and] at hn
      have cS : Calls Tryz.prog g #[.int .i32 (s[pos].toNat : Nat)] (wr.iterAt w.heap.size s (pos + 1)) _ := HT.out.call s[pos] _ (HA.out pos hp)
      have HN9 := Lib.hid (fun h => all_no p s pos hp h)
      have HMV := Lib.hid hmv
      generalize wr.iterAt w.heap.size s (pos + 1) = W at hnx hit2 hb2 cS
      have HIT := Lib.hid hit2
      have HB := Lib.hid hb2
      generalize s[pos] = c at hnx cS hn HN9
      generalize p c = q at cS hn HN9
      have HN := Lib.hid hn
      clear hit hb hit2 hb2 hmv hal hn
      cases q
      · have HF := Lib.hid (HRR.out.symm.trans (HN9.out rfl))
        go_wp2_with fail
        refine cS.mono ?_
        rintro e W' ⟨rfl, rfl⟩
        go_wp2_with fail
        go_ret
        exact ⟨by rw [HF.out]; rfl, HB.out⟩
      · go_wp2_with fail
        refine cS.mono ?_
        rintro e W' ⟨rfl, rfl⟩
        go_wp2_with fail
        go_roundw
        case rel => exact ⟨pos + 1, Lib.hid ⟨HIT.out, HB.out, HN.out⟩, hp⟩
        case measure =>
          rw [HMV.out]
          simp only [World.iterPos, HIT.out]
          omega
    · have hnx : ∀ ty, (Instr.next (.pointer (some ⟨w.heap.size, 0, none⟩)) true ty).run Tryz.prog wr = _ := fun ty => Lib.run_next_end_at wr w.heap.size s pos ty hit hp
      have h9 : true = R := by
        rw [← HRR.out, ← hal, show pos = (bsN s).length by rw [bsN_length]; omega, List.take_length]
      have H9 := Lib.hid h9
      have HB := Lib.hid hb
      clear hit hb hal h9
      go_wp2_with fail
      go_ret
      exact ⟨by rw [← H9.out]; rfl, HB.out⟩
end Go.Proofs.YtliapkajonbndaaGreatDoor

namespace Go.Proofs.YtliapkajonbndaaGreatDoor
open Go.RowKit

/-- What the library's variable holds: an error. -/
def Rng (w : World) : Prop := ∃ te pe, w.cell? ⟨5, 0, none⟩ = some (.iface te pe)
theorem Rng.next {w w' : World} (h : Rng w) (hb : Below w.heap.size w w') : Rng w' := by
  obtain ⟨te, pe, h⟩ := h
  exact ⟨te, pe, (hb.cell (p := ⟨5, 0, none⟩) (World.block_lt_of_cell? w _ h)).trans h⟩
end Go.Proofs.YtliapkajonbndaaGreatDoor
