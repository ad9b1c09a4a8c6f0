/-
  The program's printer: a struct that holds a strings.Builder; what its writers leave.
-/
import Derived.Test.YtliapkajonbndaaDoorWrX
import Derived.Test.YtliapkajonbndaaDoorChecked
import Derived.WalkKit
import Derived.Lib.Hide
import Derived.Lib.OthersKept
import Derived.Lib.AppendStr
import Derived.Lib.UnsafeStr
import Derived.Lib.MakeNoZero
import Derived.Lib.Builder
import Derived.Lib.Strings
import Derived.Laws.Externs
import Derived.Laws.IdiomCopy
import Derived.Shelf.RegionOpenPlain
import Derived.BigQuiet
import Derived.Deep.CutRange
import Derived.Deep.LoopGhost
import Derived.Deep.DeepCutAuto
import Derived.Deep.RegionHeld3
import Derived.StillTailTactics
import Derived.Laws.Runes
namespace Go.Proofs.YtliapkajonbndaaDoor
open Go.RowKit

/-- A printer in block b that holds these bytes: written to, or fresh. -/
def Pr (b : Nat) (x : List UInt8) (w : World) : Prop := Lib.IsBuilder 48 5 b b (Lib.byteCells x) w
def Pu (b : Nat) (x : List UInt8) (w : World) : Prop := Lib.BuilderAt 48 5 b b (.pointer (some ⟨b, 0, none⟩)) (Lib.byteCells x) w
/-- What its writers leave: below the printer all is as it was, and so is whatever is no row of bytes. -/
structure PFr (b : Nat) (w w' : World) : Prop where
  low : Below b w w'
  oth : Lib.OthersKept 5 (some b) w w'
theorem Pu.pr {b : Nat} {x : List UInt8} {w : World} (h : Pu b x w) : Pr b x w := .inr h
theorem Pr.lt {b : Nat} {x : List UInt8} {w : World} (h : Pr b x w) : b < w.heap.size := by
  rcases h with h | h
  · exact h.lt
  · exact h.lt
theorem PFr.refl (b : Nat) (w : World) : PFr b w w := ⟨Below.refl _ _, Lib.OthersKept.refl _ _ _⟩
theorem PFr.trans {b : Nat} {u v w : World} (h : PFr b u v) (k : PFr b v w) : PFr b u w := ⟨h.low.trans k.low, h.oth.trans k.oth⟩
theorem PFr.of {b : Nat} {w w' : World} (hb : b ≤ w.heap.size) (h : Below w.heap.size w w') : PFr b w w' :=
  ⟨h.mono hb, fun k _o hk _ _ => (h.block k (Array.getElem?_eq_some_iff.1 hk).1).trans hk⟩
theorem BuilderAt_below {T e : TypeId} {B b : Nat} {p : Value} {bs : List Value} {w w' : World} (h : Lib.BuilderAt T e B b p bs w) (hb : Below w.heap.size w w') : Lib.BuilderAt T e B b p bs w' := by
  have hlt := h.lt
  obtain ⟨h1, v, h2, h3, h4⟩ := h
  exact ⟨h1, v, (hb.block b hlt).trans h2, h3.kept (row := none) ⟨hb.os, hb.tape, hb.output, hb.size, fun k hk _ => hb.block k hk⟩ (by
    rcases Option.eq_none_or_eq_some v.ownBlock with h | ⟨q, h⟩
    · exact .inl h
    · exact .inr (by rw [h]; simp)), h4⟩
theorem Pr.below {b : Nat} {x : List UInt8} {w w' : World} (h : Pr b x w) (hb : Below w.heap.size w w') : Pr b x w' := by
  rcases h with h | h
  · exact .inl (BuilderAt_below h hb)
  · exact .inr (BuilderAt_below h hb)
theorem Pr.drew {b : Nat} {x : List UInt8} {w : World} (h : Pr b x w) : Pr b x w.drew := h
/-- A block that is no row of bytes stands as it stood. -/
theorem PFr.block {b k : Nat} {w w' : World} {o : Obj} (h : PFr b w w') (hk : w.heap[k]? = some o) (hb : k ≠ b) (ho : ∀ c fz, o ≠ .cells c 5 fz) : w'.heap[k]? = some o :=
  h.oth k o hk (fun e => hb (Option.some.inj e)) ho

theorem infoB : (Tryd.prog.info? 46).map (fun j => j.size) = some 2 := by kernel_rfl
theorem info8 : (Tryd.prog.info? 5).map (fun j => (j.zero, j.size, j.bytes)) = some (some (.int .u8 0), 1, 1) := by kernel_rfl
theorem liesP : liesAt Tryd.prog Tryd.prog.depth 48 (2 / Tryd.prog.cellsOf 48) 0 46 1 = true := by kernel_rfl
set_option maxHeartbeats 1000000 in
set_option maxRecDepth 100000 in
theorem pcheck_any (b : Nat) (x : List UInt8) (w : World) (h : Pr b x w) :
    Calls Tryd.prog 41 #[.pointer (some ⟨b, 0, none⟩)] w fun e w' => e = .returned (.tuple #[]) ∧ Pu b x w' ∧ PFr b w w' := by
  obtain ⟨j, hj, hjs⟩ := Option.map_eq_some_iff.1 infoB
  rcases h with h | h
  · have c0 := h.cell0
    have c1 := h.frozen0
    have hb0 : b < w.heap.size := h.lt
    have k1 : ∀ u : World, u.shape? b = some (48, 2) → (convert 43 75 (.pointer (some ⟨b, 0, none⟩))).run Tryd.prog u = .ok (.pointer (some ⟨b, 0, none⟩)) u := fun u hs => Lib.run_to_unsafe u ⟨b, 0, none⟩ Tryd.underlying43 Tryd.underlying75 hj (by rw [hjs]; decide) hs (Nat.zero_lt_succ 1)
    have k2 : ∀ u : World, u.shape? b = some (48, 2) → (convert 75 43 (.pointer (some ⟨b, 0, none⟩))).run Tryd.prog u = .ok (.pointer (some ⟨b, 0, none⟩)) u := fun u hs => Lib.run_from_unsafe u ⟨b, 0, none⟩ Tryd.underlying75 Tryd.underlying43 hj hs liesP
    have k3 := k1 w h.shape
    have k4 := k2 w h.shape
    have HH := Lib.hid h
    clear h k1 k2
    go_enter Tryd.func41, Tryd.ntmps41
    go_wp2_with fail
    rw [run_callFunc_extern Tryd.func49 (by kernel_rfl) (by kernel_rfl) (by kernel_rfl) (e := Extern.AbiNoEscape.same) (by kernel_rfl)]
    rw [Lib.run_noEscape]
    simp only [Result.andThen]
    rw [Oper.upon_value]
    go_wp2_with fail
    go_end0
    exact ⟨rfl, HH.out.used _, (Below.refl _ _).setCell (p := ⟨b, 0, none⟩) (Nat.le_refl _) _, (Lib.OthersKept.refl _ _ _).setCell ⟨b, 0, none⟩ rfl _⟩
  · have c0 := h.cell0
    have k1 := Lib.run_neq_ptr_same w ⟨b, 0, none⟩ Tryd.underlying43 hj
    have HH := Lib.hid h
    clear h
    go_enter Tryd.func41, Tryd.ntmps41
    go_wp2_with fail
    go_end0
    exact ⟨rfl, HH.out, PFr.refl _ _⟩
theorem info8z : ∃ i, Tryd.prog.info? 5 = some i ∧ i.zero = some (.int .u8 0) ∧ i.size = 1 ∧ i.bytes = 1 := by
  obtain ⟨i, hi, h⟩ := Option.map_eq_some_iff.1 info8
  injection h with h1 h2
  injection h2 with h2 h3
  exact ⟨i, hi, h1, h2, h3⟩
/-- What a writer that is used holds, opened. -/
theorem Pu.open {b : Nat} {x : List UInt8} {w : World} (h : Pu b x w) : ∃ g c, w.heap[b]? = some (.cells #[.pointer (some ⟨b, 0, none⟩), .slice g x.length c] 48 (0, 0)) ∧ w.ownsRow b 5 1 (.slice g x.length c) x.length (Lib.byteCells x) ∧ (Value.slice g x.length c).ownBlock ≠ some b := by
  obtain ⟨_, v, h1, h2, h3⟩ := h
  rw [Lib.byteCells_length] at h2
  obtain ⟨g, c, rfl⟩ : ∃ g c, v = .slice g x.length c := by
    rcases h2.2 with ⟨hv, h0⟩ | ⟨g, cap, cur, hv, _⟩
    · exact ⟨none, 0, by rw [hv, h0]⟩
    · exact ⟨_, _, hv⟩
  exact ⟨g, c, h1, h2, h3⟩
theorem cells_ne {w : World} {b k : Nat} {o : Obj} (hk : w.heap[k]? = some o) (hb : b < k) : b < w.heap.size := Nat.lt_trans hb (Array.getElem?_eq_some_iff.1 hk).1
theorem own_kind {w : World} {B : Nat} {e : TypeId} {v : Value} {n : Nat} {xs : List Value} (h : w.ownsRow B e 1 v n xs) : ∀ g, v.ownBlock = some g → ∃ c fz, w.heap[g]? = some (.cells c e fz) := by
  intro g hg
  rcases h.2 with ⟨rfl, _⟩ | ⟨g', cap, cur, rfl, _, hgg, _⟩
  · simp [Value.ownBlock] at hg
  · simp [Value.ownBlock] at hg
    subst hg
    exact ⟨cur, _, hgg⟩
/-- What stands behind an append to the writer's row, put back in its place. -/
theorem Pu.put {b : Nat} {x y : List UInt8} {g : Option Addr} {c : Nat} {w w1 w2 : World} {v' : Value} (hf : PFr b w w1) (hb1 : b < w1.heap.size) (hbk : w1.heap[b]? = some (.cells #[.pointer (some ⟨b, 0, none⟩), .slice g x.length c] 48 (0, 0))) (hown : w1.ownsRow b 5 1 (.slice g x.length c) x.length (Lib.byteCells x)) (hne : (Value.slice g x.length c).ownBlock ≠ some b)
    (h2 : w2.ownsRow b 5 1 v' (x.length + y.length) (Lib.byteCells x ++ Lib.byteCells y)) (hg : w1.grownBy w2 (Value.slice g x.length c).ownBlock) :
    Pu b (x ++ y) (w2.setCell ⟨b, 1, none⟩ v') ∧ PFr b w (w2.setCell ⟨b, 1, none⟩ v') := by
  have hb2 : w2.heap[b]? = some (.cells #[.pointer (some ⟨b, 0, none⟩), .slice g x.length c] 48 (0, 0)) := (hg.block b hb1 (fun e => hne e.symm)).trans hbk
  refine ⟨?_, (hf.low.grown hg (Nat.le_of_lt hb1) (fun k hk => (hown.lt k hk).1)).setCell (p := ⟨b, 1, none⟩) (Nat.le_refl _) _, (hf.oth.grown hg (own_kind hown)).setCell ⟨b, 1, none⟩ rfl _⟩
  have h3 := Lib.BuilderAt.put (T := 48) (e := 5) (Nat.le_refl b) hb2 (bs' := Lib.byteCells (x ++ y)) (v' := v') (by rw [Lib.byteCells_append]; simpa [Lib.byteCells_length] using h2) (by decide)
  exact h3
set_option maxHeartbeats 2000000 in
set_option maxRecDepth 100000 in
theorem pbyte_any (b : Nat) (x : List UInt8) (c : UInt8) (w : World) (h : Pr b x w) (hl : x.length ≤ 9000000000) :
    Calls Tryd.prog 31 #[.pointer (some ⟨b, 0, none⟩), .int .u8 (c.toNat : Nat)] w fun e w' => e = .returned .nilIface ∧ Pr b (x ++ [c]) w' ∧ PFr b w w' := by
  obtain ⟨i0, hi, hz0, hz1, hz2⟩ := info8z
  have HC := Lib.hid (pcheck_any b x w h)
  clear h
  go_enter Tryd.func31, Tryd.ntmps31
  go_upto_region 2 with (go_at_call 41; (with_reducible refine HC.out.mono ?_); rintro e w1 ⟨rfl, h1, hb1⟩; have H1 := Lib.hid h1; have HF := Lib.hid hb1; clear h1 hb1)
  obtain ⟨g, cp, hbk, hown, hne⟩ := H1.out.open
  have c1 : w1.cell? ⟨b, 1, none⟩ = some (.slice g x.length cp) := by rw [Lib.cell_of_heap hbk]; rfl
  have hb0 : b < w1.heap.size := (Array.getElem?_eq_some_iff.1 hbk).1
  have HB := Lib.hid hbk
  have HO := Lib.hid hown
  have HN := Lib.hid hne
  clear hbk hown hne
  go_wp2_with (at_builtin; refine wpList_append_own _ rfl _ _ 44 rfl b 5 i0 (.int .u8 0) 1 1 Tryd.underlying44 hi hz0 hz1 hz2 rfl (by decide) _ _ _ rfl (HO.out.alloc _) ⟨w1.heap.size, 0, none⟩ 1 1 [.int .u8 (c.toNat : Nat)] rfl rfl ?c1 ?c2 ?c3 ?c4 ?c5 ?_)
  case c1 =>
    intro j u hj
    match j, hj with
    | 0, hj => simp at hj; subst hj; simp [Addr.add]
  case c2 => intro u hu; simp at hu; subst hu; rfl
  case c3 => unfold maxLen; omega
  case c4 => omega
  case c5 => simp; omega
  intro v' w2 hown' hgrow _
  obtain ⟨g', n', c', rfl⟩ : ∃ g n c, v' = .slice g n c := by
    rcases hown'.2 with ⟨hv, _⟩ | ⟨g, cap, cur, hv, _⟩
    · exact ⟨_, _, _, hv⟩
    · exact ⟨_, _, _, hv⟩
  have hba : (w1.alloc (.cells #[.int .u8 (c.toNat : Nat)] 5)).heap[b]? = some (.cells #[.pointer (some ⟨b, 0, none⟩), .slice g x.length cp] 48 (0, 0)) := (Lib.alloc_old w1 _ b hb0).trans HB.out
  have hb2 : w2.heap[b]? = some (.cells #[.pointer (some ⟨b, 0, none⟩), .slice g x.length cp] 48 (0, 0)) := (hgrow.block b (by simp; omega) (fun e => HN.out e.symm)).trans hba
  have d1 : w2.cell? ⟨b, 1, none⟩ = some (.slice g x.length cp) := by rw [Lib.cell_of_heap hb2]; rfl
  have f1 : w2.frozen? ⟨b, 1, none⟩ = false := Lib.frozen_of_heap hb2 1
  have HP := Lib.hid (Pu.put (y := [c]) (HF.out.trans (PFr.of (by omega) ((Below.refl w1.heap.size w1).alloc (Nat.le_refl _) (.cells #[.int .u8 (c.toNat : Nat)] 5)))) (by simp; omega) hba (HO.out.alloc _) HN.out hown' hgrow)
  clear hown' hgrow hba hb2
  go_wp2_with fail
  go_ret
  exact ⟨rfl, HP.out.1.pr, HP.out.2⟩
set_option maxHeartbeats 2000000 in
set_option maxRecDepth 100000 in
theorem pstr_any (b : Nat) (x y : List UInt8) (w : World) (h : Pr b x w) (hl : x.length + y.length ≤ 9000000000) :
    Calls Tryd.prog 30 #[.pointer (some ⟨b, 0, none⟩), .string ⟨y.toArray⟩] w fun e w' => e = .returned (.tuple #[.int .i64 y.length, .nilIface]) ∧ Pr b (x ++ y) w' ∧ PFr b w w' := by
  obtain ⟨i0, hi, hz0, hz1, hz2⟩ := info8z
  have HC := Lib.hid (pcheck_any b x w h)
  clear h
  have hy : (⟨y.toArray⟩ : ByteArray).size = y.length := by simp [ByteArray.size]
  have hs : Lib.strCells ⟨y.toArray⟩ = Lib.byteCells y := by simp [Lib.strCells, Lib.byteCells]
  obtain ⟨s, hs0⟩ : ∃ s : ByteArray, ⟨y.toArray⟩ = s := ⟨_, rfl⟩
  rw [hs0] at hy hs ⊢
  clear hs0
  have HS := Lib.hid hs
  have HY := Lib.hid hy
  clear hs hy
  go_enter Tryd.func30, Tryd.ntmps30
  go_upto_region 2 with (go_at_call 41; (with_reducible refine HC.out.mono ?_); rintro e w1 ⟨rfl, h1, hb1⟩; have H1 := Lib.hid h1; have HF := Lib.hid hb1; clear h1 hb1)
  obtain ⟨g, cp, hbk, hown, hne⟩ := H1.out.open
  have c1 : w1.cell? ⟨b, 1, none⟩ = some (.slice g x.length cp) := by rw [Lib.cell_of_heap hbk]; rfl
  have hb0 : b < w1.heap.size := (Array.getElem?_eq_some_iff.1 hbk).1
  have HB := Lib.hid hbk
  have HO := Lib.hid hown
  have HN := Lib.hid hne
  clear hbk hown hne
  go_wp2_with (at_builtin; refine Lib.wpList_append_own_string _ rfl _ _ 44 9 rfl b 5 i0 Tryd.underlying44 Tryd.underlying9 hi hz0 hz1 hz2 _ _ _ rfl HO.out s rfl ?c3 ?c4 ?c5 ?_)
  case c3 => have := HY.out; unfold maxLen; omega
  case c4 => have := HY.out; omega
  case c5 => omega
  intro v' w2 hown' hgrow _
  obtain ⟨g', n', c', rfl⟩ : ∃ g n c, v' = .slice g n c := by
    rcases hown'.2 with ⟨hv, _⟩ | ⟨g, cap, cur, hv, _⟩
    · exact ⟨_, _, _, hv⟩
    · exact ⟨_, _, _, hv⟩
  have hb2 : w2.heap[b]? = some (.cells #[.pointer (some ⟨b, 0, none⟩), .slice g x.length cp] 48 (0, 0)) := (hgrow.block b hb0 (fun e => HN.out e.symm)).trans HB.out
  have d1 : w2.cell? ⟨b, 1, none⟩ = some (.slice g x.length cp) := by rw [Lib.cell_of_heap hb2]; rfl
  have f1 : w2.frozen? ⟨b, 1, none⟩ = false := Lib.frozen_of_heap hb2 1
  rw [HS.out, HY.out] at hown'
  have HP := Lib.hid (Pu.put (y := y) HF.out hb0 HB.out HO.out HN.out hown' hgrow)
  have HE := Lib.hid (show (s.size : Int) = (y.length : Int) by rw [HY.out])
  clear hown' hgrow hb2
  go_wp2_with fail
  go_ret2
  exact ⟨by rw [HE.out]; rfl, HP.out.1.pr, HP.out.2⟩
theorem Pr.open {b : Nat} {x : List UInt8} {w : World} (h : Pr b x w) : ∃ p g c, w.heap[b]? = some (.cells #[p, .slice g x.length c] 48 (0, 0)) ∧ w.ownsRow b 5 1 (.slice g x.length c) x.length (Lib.byteCells x) := by
  obtain ⟨p, _, v, h1, h2, h3⟩ : ∃ p, Lib.BuilderAt 48 5 b b p (Lib.byteCells x) w := by
    rcases h with h | h
    · exact ⟨_, h⟩
    · exact ⟨_, h⟩
  rw [Lib.byteCells_length] at h2
  obtain ⟨g, c, rfl⟩ : ∃ g c, v = .slice g x.length c := by
    rcases h2.2 with ⟨hv, h0⟩ | ⟨g, cap, cur, hv, _⟩
    · exact ⟨none, 0, by rw [hv, h0]⟩
    · exact ⟨_, _, hv⟩
  exact ⟨p, g, c, h1, h2⟩
set_option maxRecDepth 100000 in
theorem plen_any (b : Nat) (x : List UInt8) (w : World) (h : Pr b x w) :
    Calls Tryd.prog 19 #[.pointer (some ⟨b, 0, none⟩)] w fun e w' => e = .returned (.int .i64 x.length) ∧ w = w' := by
  obtain ⟨p, g, c, hbk, -⟩ := h.open
  have c1 : w.cell? ⟨b, 1, none⟩ = some (.slice g x.length c) := by rw [Lib.cell_of_heap hbk]; rfl
  clear h hbk
  go_enter Tryd.func19, Tryd.ntmps19
  go_wp2_with fail
  go_ret
  exact ⟨rfl, rfl⟩
theorem cells8 : Tryd.prog.cellsOf 5 = 1 := by kernel_rfl
set_option maxRecDepth 100000 in
set_option maxHeartbeats 2000000 in
theorem ptext_any (b : Nat) (x : List UInt8) (w : World) (h : Pr b x w) (h0 : x ≠ []) :
    Calls Tryd.prog 20 #[.pointer (some ⟨b, 0, none⟩)] w fun e w' => e = .returned (.string ⟨x.toArray⟩) ∧ Below b w w' := by
  obtain ⟨p, g1, c, hbk, hown⟩ := h.open
  have hl0 : x.length ≠ 0 := by simpa using h0
  obtain ⟨g, cap, cur, hv, hbg, hg, hnc, hcm, hcs, htake⟩ : ∃ g cap cur, Value.slice g1 x.length c = .slice (some ⟨g, 0, none⟩) x.length cap ∧ b ≤ g ∧ w.heap[g]? = some (.cells cur 5 (0, 0)) ∧ x.length ≤ cap ∧ cap ≤ maxLen ∧ cur.size = cap * 1 ∧ cur.toList.take (x.length * 1) = Lib.byteCells x := by
    rcases hown.2 with ⟨_, hz⟩ | ⟨g, cap, cur, hv, r⟩
    · exact absurd hz hl0
    · exact ⟨g, cap, cur, hv, r⟩
  obtain ⟨rfl, rfl⟩ : g1 = some ⟨g, 0, none⟩ ∧ c = cap := by
    injection hv with e1 e2 e3
    exact ⟨e1, e3⟩
  have c1 : w.drew.cell? ⟨b, 1, none⟩ = some (.slice (some ⟨g, 0, none⟩) x.length c) := by
    have : w.drew.heap[b]? = some (.cells #[p, .slice (some ⟨g, 0, none⟩) x.length c] 48 (0, 0)) := hbk
    rw [Lib.cell_of_heap this]; rfl
  have hSD : (Builtin.unsafeSliceData_ #[44] 68 #[.slice (some ⟨g, 0, none⟩) x.length c]).run Tryd.prog w.drew = .ok (.pointer (some ⟨g, 0, none⟩)) w.drew :=
    Lib.run_unsafeSliceData_row _ _ _ _ _ _ (by omega)
  have hUS : (Builtin.unsafeString_ #[68, 3] 9 #[.pointer (some ⟨g, 0, none⟩), .int .i64 x.length]).run Tryd.prog w.drew = .ok (.string ⟨x.toArray⟩) (w.drew.freeze ⟨g, 0, none⟩ x.length) := by
    refine Lib.run_unsafeString_row w.drew 68 3 9 5 Tryd.underlying68 cells8 g cur.size (by have hg' : w.drew.heap[g]? = some (.cells cur 5 (0, 0)) := hg; simp [World.shape?, hg']) x h0 (by omega) (by unfold maxLen at hcm; omega) ?_
    intro j y hy
    exact hown.cells (g := g) rfl j (.int .u8 y.toNat) (by simp [Lib.byteCells, hy])
  clear hown hbk hg htake hv h
  go_enter Tryd.func20, Tryd.ntmps20
  have mixed : Tryd.prog.follows Departure.mixedOrders = true := by kernel_rfl
  go_wp2_with fail
  go_region_o
  all_goals
    go_wp2_with fail
    go_ret
    exact ⟨rfl, Lib.below_freeze (Below.drew (Below.refl b w)) (p := ⟨g, 0, none⟩) hbg _⟩
set_option maxRecDepth 100000 in
set_option maxHeartbeats 2000000 in
theorem papp_any (B : Nat) (xs : List Value) (n : Nat) (g : Option Addr) (cp : Nat) (c : UInt8) (hc : c.toNat < 128) (w : World) (hB : B ≤ w.heap.size) (hown : w.ownsRow B 5 1 (.slice g n cp) n xs) (hl : n ≤ 9000000000) :
    Calls Tryd.prog 55 #[.slice g n cp, .int .i32 (c.toNat : Nat)] w fun e w' => ∃ g' c', e = .returned (.slice g' (n + 1) c') ∧ w'.ownsRow B 5 1 (.slice g' (n + 1) c') (n + 1) (xs ++ [.int .u8 (c.toNat : Nat)]) ∧ (w.alloc (.cells #[.int .u8 (c.toNat : Nat)] 5)).grownBy w' (Value.slice g n cp).ownBlock := by
  obtain ⟨i0, hi, hz0, hz1, hz2⟩ := info8z
  have HO := Lib.hid hown
  clear hown
  have k1 : ((c.toNat : Nat) : Int) ≤ 127 := by omega
  have k2 : IntKind.wrap .u32 ((c.toNat : Nat) : Int) = ((c.toNat : Nat) : Int) := by rw [IntKind.wrap_u32]; omega
  have k3 : IntKind.wrap .u8 ((c.toNat : Nat) : Int) = ((c.toNat : Nat) : Int) := by rw [IntKind.wrap_u8]; omega
  go_enter Tryd.func55, Tryd.ntmps55
  go_wp2_with (at_builtin; refine wpList_append_own _ rfl _ _ 44 rfl B 5 i0 (.int .u8 0) 1 1 Tryd.underlying44 hi hz0 hz1 hz2 rfl (by decide) _ _ _ rfl (HO.out.alloc _) ⟨w.heap.size, 0, none⟩ 1 1 [.int .u8 (c.toNat : Nat)] rfl rfl ?c1 ?c2 ?c3 ?c4 ?c5 ?_)
  case c1 =>
    intro j u hj
    match j, hj with
    | 0, hj => simp at hj; subst hj; simp [Addr.add]
  case c2 => intro u hu; simp at hu; subst hu; rfl
  case c3 => unfold maxLen; omega
  case c4 => omega
  case c5 => simp; omega
  intro v' w2 hown' hgrow _
  obtain ⟨g', c', rfl⟩ : ∃ g c, v' = .slice g (n + 1) c := by
    rcases hown'.2 with ⟨_, h0⟩ | ⟨g, cap, cur, hv, _⟩
    · omega
    · exact ⟨_, _, hv⟩
  have H1 := Lib.hid hown'
  have H2 := Lib.hid hgrow
  clear hown' hgrow
  go_wp2_with fail
  go_ret
  exact ⟨g', c', rfl, H1.out, H2.out⟩
set_option maxRecDepth 100000 in
set_option maxHeartbeats 2000000 in
theorem prune_any (b : Nat) (x : List UInt8) (c : UInt8) (hc : c.toNat < 128) (w : World) (h : Pr b x w) (hl : x.length ≤ 9000000000) :
    Calls Tryd.prog 48 #[.pointer (some ⟨b, 0, none⟩), .int .i32 (c.toNat : Nat)] w fun e w' => e = .returned (.tuple #[.int .i64 1, .nilIface]) ∧ Pr b (x ++ [c]) w' ∧ PFr b w w' := by
  obtain ⟨i0, hi, hz0, hz1, hz2⟩ := info8z
  have HC := Lib.hid (pcheck_any b x w h)
  clear h
  go_enter Tryd.func48, Tryd.ntmps48
  go_upto_region 2 with (go_at_call 41; (with_reducible refine HC.out.mono ?_); rintro e w1 ⟨rfl, h1, hb1⟩; have H1 := Lib.hid h1; have HF := Lib.hid hb1; clear h1 hb1)
  obtain ⟨g, cp, hbk, hown, hne⟩ := H1.out.open
  have c1 : w1.cell? ⟨b, 1, none⟩ = some (.slice g x.length cp) := by rw [Lib.cell_of_heap hbk]; rfl
  have hb0 : b < w1.heap.size := (Array.getElem?_eq_some_iff.1 hbk).1
  have HB := Lib.hid hbk
  have HO := Lib.hid hown
  have HN := Lib.hid hne
  clear hbk hown hne
  have hba : (w1.alloc (.cells #[.int .u8 (c.toNat : Nat)] 5)).heap[b]? = some (.cells #[.pointer (some ⟨b, 0, none⟩), .slice g x.length cp] 48 (0, 0)) := (Lib.alloc_old w1 _ b hb0).trans HB.out
  have HBA := Lib.hid hba
  clear hba
  go_upto_region 4 with (go_at_call 55; (with_reducible refine (papp_any b (Lib.byteCells x) x.length g cp c hc w1 (Nat.le_of_lt hb0) HO.out hl).mono ?_); rintro e w2 ⟨g', c', rfl, hown', hgrow⟩; have hb2 : w2.heap[b]? = some (.cells #[.pointer (some ⟨b, 0, none⟩), .slice g x.length cp] 48 (0, 0)) := (hgrow.block b (by simp; omega) (fun e => HN.out e.symm)).trans HBA.out; have d1 : w2.cell? ⟨b, 1, none⟩ = some (.slice g x.length cp) := by { rw [Lib.cell_of_heap hb2]; rfl }; have f1 : w2.frozen? ⟨b, 1, none⟩ = false := Lib.frozen_of_heap hb2 1; have HP := Lib.hid (Pu.put (y := [c]) (HF.out.trans (PFr.of (by omega) ((Below.refl w1.heap.size w1).alloc (Nat.le_refl _) (.cells #[.int .u8 (c.toNat : Nat)] 5)))) (by simp; omega) HBA.out (HO.out.alloc _) HN.out hown' hgrow); have HN2 := Lib.hid hown'; clear hown' hgrow hb2)
  obtain ⟨V, hV⟩ : ∃ V, w2.setCell ⟨b, 1, none⟩ (.slice g' (x.length + 1) c') = V := ⟨_, rfl⟩
  rw [hV] at HP ⊢
  obtain ⟨g3, c3, hbk3, -, -⟩ := HP.out.1.open
  have e1 : V.cell? ⟨b, 1, none⟩ = some (.slice g3 (x ++ [c]).length c3) := by rw [Lib.cell_of_heap hbk3]; rfl
  have e2 : ((x ++ [c]).length : Int) = (x.length : Int) + 1 := by simp
  have e3 : (x.length : Int) + 1 - (x.length : Int) = 1 := by omega
  clear d1 f1 c1 hV hbk3
  go_wp2_with fail
  go_ret2
  exact ⟨rfl, HP.out.1.pr, HP.out.2⟩
end Go.Proofs.YtliapkajonbndaaDoor
