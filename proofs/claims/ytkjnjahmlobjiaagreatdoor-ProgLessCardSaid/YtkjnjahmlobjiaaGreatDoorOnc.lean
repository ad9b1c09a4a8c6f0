/-
  The program's operators: the map of them, what is looked up in it.
  The program's operators are made once: the lock, the mark that it is done; what the map holds.
-/
import Derived.Test.YtkjnjahmlobjiaaGreatDoorG05
import Derived.Test.YtkjnjahmlobjiaaGreatDoorChecked
import Derived.WalkKit
import Derived.StringKeys
import Derived.Maps.OwnOps
import Derived.StillTailTactics
import Derived.Tactics
import Derived.Tactics2
import Derived.Defers
import Derived.Laws.Pointers
import Derived.Laws.LoneSync
import Derived.RegionTactic
import Derived.RegionCalls
import Derived.ChangeAlike
import Derived.Laws.NewBlocks
import Derived.Lib.Hide
namespace Go.Proofs.YtkjnjahmlobjiaaGreatDoor
open Go.RowKit Go.WideMaps Go.MapKept Go.ChangeMaps

/-- An operator as a value. -/
def oV (i l r p : Nat) : Value := .agg #[.int .i64 (i : Nat), .int .i64 (l : Nat), .int .i64 (r : Nat), .int .i64 (p : Nat)]
def opV (s : List UInt8) : Value := oV (infixP s).1 (infixP s).2.1 (infixP s).2.2 (prefP s)
def opsN : List (List UInt8 × (Nat × Nat × Nat × Nat)) :=
  [([58, 45], (1200, 1199, 1199, 0)), ([59], (1100, 1099, 1100, 0)), ([45, 62], (1050, 1049, 1050, 0)), ([44], (1000, 999, 1000, 0)), ([92, 43], (0, 0, 0, 900)),
   ([61], (700, 699, 699, 0)), ([92, 61], (700, 699, 699, 0)), ([61, 61], (700, 699, 699, 0)), ([92, 61, 61], (700, 699, 699, 0)), ([64, 60], (700, 699, 699, 0)), ([64, 62], (700, 699, 699, 0)), ([64, 61, 60], (700, 699, 699, 0)), ([64, 62, 61], (700, 699, 699, 0)), ([105, 115], (700, 699, 699, 0)), ([61, 58, 61], (700, 699, 699, 0)), ([61, 92, 61], (700, 699, 699, 0)), ([60], (700, 699, 699, 0)), ([62], (700, 699, 699, 0)), ([61, 60], (700, 699, 699, 0)), ([62, 61], (700, 699, 699, 0)),
   ([43], (500, 500, 499, 0)), ([45], (500, 500, 499, 200)), ([42], (400, 400, 399, 0)), ([47, 47], (400, 400, 399, 0)), ([109, 111, 100], (400, 400, 399, 0))]
def lookN (s : List UInt8) : Nat × Nat × Nat × Nat := match opsN.find? (fun x => x.1 == s) with | some x => x.2 | none => (0, 0, 0, 0)
def oN (x : Nat × Nat × Nat × Nat) : Value := oV x.1 x.2.1 x.2.2.1 x.2.2.2
theorem lookN_all : ∀ x ∈ opsN, lookN x.1 = ((infixP x.1).1, (infixP x.1).2.1, (infixP x.1).2.2, prefP x.1) := by decide
theorem notKey_p {s : List UInt8} (h : s ∉ opsN.map Prod.fst) : infixP s = (0, 0, 0) ∧ prefP s = 0 := by
  have hk : ∀ k, k ∈ opsN.map Prod.fst → ¬ s = k := fun k hk e => h (by rw [e]; exact hk)
  have h7 : ∀ k ∈ ops7, k ∈ opsN.map Prod.fst := by decide
  have h5 : ∀ k ∈ ops5, k ∈ opsN.map Prod.fst := by decide
  have h4 : ∀ k ∈ ops4, k ∈ opsN.map Prod.fst := by decide
  constructor
  · unfold infixP
    rw [if_neg (hk _ (by decide)), if_neg (hk _ (by decide)), if_neg (hk _ (by decide)), if_neg (hk _ (by decide)), if_neg (fun e => h (h7 s e)), if_neg (fun e => h (h5 s e)), if_neg (fun e => h (h4 s e))]
  · unfold prefP
    rw [if_neg (hk _ (by decide)), if_neg (hk _ (by decide))]
theorem lookN_eq (s : List UInt8) : lookN s = ((infixP s).1, (infixP s).2.1, (infixP s).2.2, prefP s) := by
  by_cases h : s ∈ opsN.map Prod.fst
  · obtain ⟨x, hx, rfl⟩ := List.mem_map.1 h
    exact lookN_all x hx
  · obtain ⟨h1, h2⟩ := notKey_p h
    rw [h1, h2]
    unfold lookN
    have h3 : opsN.find? (fun x => x.1 == s) = none := by
      rw [List.find?_eq_none]
      intro x hx he
      exact h (List.mem_map.2 ⟨x, hx, by simpa using he⟩)
    rw [h3]
theorem opV_eq (s : List UInt8) : oN (lookN s) = opV s := by rw [lookN_eq]; rfl

/-- A map from texts in memory, in the order in which they came. -/
def MapIs (w : World) (b : Nat) (L : List (List UInt8 × (Nat × Nat × Nat × Nat))) : Prop :=
  ∃ es clock, w.heap[b]? = some (.map es clock) ∧ es.toList.map (fun x => (x.key, x.val)) = L.map (fun x => (Value.string ⟨x.1.toArray⟩, oN x.2))
theorem MapIs.same {w w' : World} {b : Nat} {L : List (List UInt8 × (Nat × Nat × Nat × Nat))} (h : MapIs w b L) (e : w'.heap[b]? = w.heap[b]?) : MapIs w' b L := by
  obtain ⟨es, c, h1, h2⟩ := h
  exact ⟨es, c, e.trans h1, h2⟩
theorem MapIs.lt {w : World} {b : Nat} {L : List (List UInt8 × (Nat × Nat × Nat × Nat))} (h : MapIs w b L) : b < w.heap.size := by
  obtain ⟨es, c, h1, h2⟩ := h
  exact (Array.getElem?_eq_some_iff.1 h1).1
theorem key_mk (s : List UInt8) (hs : s.length ≤ maxLen) : keyOf Tryz.prog 9 (.string ⟨s.toArray⟩) = some (.string s) := by
  have h := keyOf_string_mk (P := Tryz.prog) Tryz.underlying9 (s := ⟨s.toArray⟩) (by simpa [ByteArray.size] using hs)
  simpa using h
theorem entry_of {es : Array MapEntry} {L : List (List UInt8 × (Nat × Nat × Nat × Nat))} (h : es.toList.map (fun x => (x.key, x.val)) = L.map (fun x => (Value.string ⟨x.1.toArray⟩, oN x.2))) {e : MapEntry} (he : e ∈ es.toList) : ∃ x ∈ L, e.key = .string ⟨x.1.toArray⟩ ∧ e.val = oN x.2 := by
  have h1 : (e.key, e.val) ∈ L.map (fun x => (Value.string ⟨x.1.toArray⟩, oN x.2)) := by rw [← h]; exact List.mem_map.2 ⟨e, he, rfl⟩
  obtain ⟨x, hx, h2⟩ := List.mem_map.1 h1
  injection h2 with h2 h3
  exact ⟨x, hx, h2.symm, h3.symm⟩
theorem entry_to {es : Array MapEntry} {L : List (List UInt8 × (Nat × Nat × Nat × Nat))} (h : es.toList.map (fun x => (x.key, x.val)) = L.map (fun x => (Value.string ⟨x.1.toArray⟩, oN x.2))) {x : List UInt8 × (Nat × Nat × Nat × Nat)} (hx : x ∈ L) : ∃ e ∈ es.toList, e.key = .string ⟨x.1.toArray⟩ ∧ e.val = oN x.2 := by
  have h1 : (Value.string ⟨x.1.toArray⟩, oN x.2) ∈ es.toList.map (fun x => (x.key, x.val)) := by rw [h]; exact List.mem_map.2 ⟨x, hx, rfl⟩
  obtain ⟨e, he, h2⟩ := List.mem_map.1 h1
  injection h2 with h2 h3
  exact ⟨e, he, h2, h3⟩
theorem str_inj {a b : List UInt8} (h : Value.string ⟨a.toArray⟩ = .string ⟨b.toArray⟩) : a = b := by
  injection h with h
  injection h with h
  simpa using h
theorem map_put {w : World} {b : Nat} {L : List (List UInt8 × (Nat × Nat × Nat × Nat))} (h : MapIs w b L) (key : List UInt8) (v : Nat × Nat × Nat × Nat) (hk : key ∉ L.map Prod.fst) (hs : key.length ≤ maxLen) (hall : ∀ x ∈ L, x.1.length ≤ maxLen) :
    ∃ w', (Instr.mapUpdate 99 (.map (some b)) (.string ⟨key.toArray⟩) (oN v)).run Tryz.prog w = .ok () w' ∧ MapIs w' b (L ++ [(key, v)]) ∧ w.grownBy w' (some b) := by
  obtain ⟨es, clock, hb, he⟩ := h
  have K : Maps.Keyed Tryz.prog 9 := Maps.string_keyed Tryz.underlying9
  have hkey := key_mk key hs
  rcases K.find w hkey es.toList (fun e he' => by
    obtain ⟨x, hx, h1, _⟩ := entry_of he he'
    rw [h1]
    exact ⟨_, key_mk x.1 (hall x hx)⟩) with ⟨h1, h2⟩ | ⟨j, e0, h1, h2, h3⟩
  · refine ⟨setBlock w b (.map (es.push ⟨.string ⟨key.toArray⟩, oN v, clock⟩) (clock + 1)), by simp [Instr.mapUpdate, run_underlying Tryz.underlying99, MapKept.run_getObj_map hb, K.check w false hkey, h1, MapKept.run_setObj_map _ hb, Result.andThen, setBlock], ⟨es.push ⟨_, _, clock⟩, clock + 1, heap_setBlock_same hb _, ?_⟩, ⟨rfl, rfl, rfl, by simp [setBlock], fun i _ hi => heap_setBlock_other hb _ (fun e => hi (by rw [e]))⟩⟩
    rw [Array.toList_push, List.map_append, he, List.map_append]
    rfl
  · exfalso
    obtain ⟨x, hx, e1, _⟩ := entry_of he (List.mem_of_getElem? h2)
    rw [h3] at e1
    exact hk (List.mem_map.2 ⟨x, hx, (str_inj e1).symm⟩)
theorem wpList_insert_op (w : World) {ops : Array Oper} {rest : List Oper} {o : Oper} {a : Act} {Q : Exit → Act → World → Prop}
    (hg : o.guard = none) (m x v : Operand) (hop : o.op = Op.insert 99 m x v) (b : Nat) (L : List (List UInt8 × (Nat × Nat × Nat × Nat))) (hm : a.eval m = .map (some b)) (h : MapIs w b L)
    (key : List UInt8) (y : Nat × Nat × Nat × Nat) (hx : a.eval x = .string ⟨key.toArray⟩) (hv : a.eval v = oN y) (hk : key ∉ L.map Prod.fst) (hs : key.length ≤ maxLen) (hall : ∀ x ∈ L, x.1.length ≤ maxLen)
    (hK : ∀ w', MapIs w' b (L ++ [(key, y)]) → w.grownBy w' (some b) → wpList Tryz.prog ops Q rest (a.put o.dst undef) w') : wpList Tryz.prog ops Q (o :: rest) a w := by
  refine wpList_plain hg fun K' hK' => ?_
  obtain ⟨w', hrun, r1, r2⟩ := map_put h key y hk hs hall
  unfold Oper.wp
  simp [execOp, hop, hm, hx, hv, hrun, Result.andThen]
  exact hK' _ _ (hK w' r1 r2)
theorem run_look {w : World} {b : Nat} (h : MapIs w b opsN) (s : List UInt8) (hs : s.length ≤ maxLen) :
    (Instr.lookup 99 (.map (some b)) (.string ⟨s.toArray⟩) false).run Tryz.prog w = .ok (opV s) w := by
  obtain ⟨es, clock, hb, he⟩ := h
  have K : Maps.Keyed Tryz.prog 9 := Maps.string_keyed Tryz.underlying9
  have hkey := key_mk s hs
  have hlen : ∀ x ∈ opsN, x.1.length ≤ maxLen := fun x hx => by
    have h1 : ∀ x ∈ opsN, x.1.length ≤ 3 := by decide
    have := h1 x hx
    unfold maxLen
    omega
  rcases K.find w hkey es.toList (fun e he' => by
    obtain ⟨x, hx, h1, _⟩ := entry_of he he'
    rw [h1]
    exact ⟨_, key_mk x.1 (hlen x hx)⟩) with ⟨h1, h2⟩ | ⟨j, e0, h1, h2, h3⟩
  · have hn : s ∉ opsN.map Prod.fst := fun hm => by
      obtain ⟨x, hx, rfl⟩ := List.mem_map.1 hm
      obtain ⟨e, he1, e1, _⟩ := entry_to he hx
      exact h2 e he1 e1
    obtain ⟨p1, p2⟩ := notKey_p hn
    have hv : opV s = oV 0 0 0 0 := by unfold opV; rw [p1, p2]
    rw [hv]
    simp [Instr.lookup, run_underlying Tryz.underlying99, MapKept.run_getObj_map hb, K.check w _ hkey, h1, Result.andThen, oV]
  · obtain ⟨x, hx, e1, e2⟩ := entry_of he (List.mem_of_getElem? h2)
    rw [h3] at e1
    have e3 := str_inj e1
    have e4 : lookN s = x.2 := by
      have h9 : ∀ x ∈ opsN, lookN x.1 = x.2 := by decide
      rw [e3]
      exact h9 x hx
    have hv : e0.val = opV s := by rw [e2, ← e4, opV_eq]
    simp [Instr.lookup, run_underlying Tryz.underlying99, MapKept.run_getObj_map hb, K.check w _ hkey, h1, hv, Result.andThen]
end Go.Proofs.YtkjnjahmlobjiaaGreatDoor

namespace Go.Proofs.YtkjnjahmlobjiaaGreatDoor
open Go.RowKit

theorem disable_run (w : World) : (callFunc 143 #[]).run Tryz.prog w = .ok (.value (.tuple #[])) w := run_call_mark0 Tryz.func143 (by kernel_rfl) (by kernel_rfl) (by kernel_rfl) .disable (by kernel_rfl) w
theorem enable_run (w : World) : (callFunc 145 #[]).run Tryz.prog w = .ok (.value (.tuple #[])) w := run_call_mark0 Tryz.func145 (by kernel_rfl) (by kernel_rfl) (by kernel_rfl) .enable (by kernel_rfl) w
theorem acquire_run (a : Addr) (w : World) : (callFunc 146 #[.pointer (some a)]).run Tryz.prog w = .ok (.value (.tuple #[])) w := run_call_marked Tryz.func146 (by kernel_rfl) (by kernel_rfl) (by kernel_rfl) .acquire (by kernel_rfl) a w
theorem releaseMerge_run (a : Addr) (w : World) : (callFunc 148 #[.pointer (some a)]).run Tryz.prog w = .ok (.value (.tuple #[])) w := run_call_marked Tryz.func148 (by kernel_rfl) (by kernel_rfl) (by kernel_rfl) .releaseMerge (by kernel_rfl) a w

/-- What is deferred: the mark that it is done. -/
theorem store_deferred (a : Addr) (x : Value) (u : FrameMode) (w : World) (hc : w.cell? a = some x) (hz : w.frozen? a = false) :
    CallsD Tryz.prog 130 #[.pointer (some a), .bool true] u w fun e u' w' => u' = u ∧ (e = .returned (.tuple #[]) ∧ w' = w.drew.setCell a (.int .u32 1)) := by
  have hc' : w.drew.cell? a = some x := by go_simp
  have hz' : w.drew.frozen? a = false := by go_simp
  have hst := run_call_store (P := Tryz.prog) Tryz.func138 (by kernel_rfl) (by kernel_rfl) (by kernel_rfl) (by kernel_rfl) (k := .u32) (y := 1) hc' hz'
  go_enter_d Tryz.func130, Tryz.ntmps130
  go_wp2
  go_region_calls
  all_goals (go_end0; exact ⟨rfl, rfl⟩)

set_option maxRecDepth 100000 in
/-- What is deferred: the lock is let go. -/
theorem unlock_deferred (a : Addr) (u : FrameMode) (w : World) (hc : w.cell? a = some (.int .i32 1)) (hz : w.frozen? a = false) :
    CallsD Tryz.prog 129 #[.pointer (some a)] u w fun e u' w' => u' = u ∧ (e = .returned (.tuple #[]) ∧ w' = w.setCell a (.int .i32 0)) := by
  have hd := disable_run
  have he := enable_run
  have hr := releaseMerge_run
  have hadd := run_call_add (P := Tryz.prog) Tryz.func149 (by kernel_rfl) (by kernel_rfl) (by kernel_rfl) .i32 (by kernel_rfl) (y := -1) (s := 0) hc hz (by simp [go_sem]; rfl)
  have hcv := run_convert_to_unsafe (P := Tryz.prog) (src := 211) (dst := 182) Tryz.underlying211 Tryz.underlying182 (by kernel_rfl) hc
  go_enter_d Tryz.func129, Tryz.ntmps129
  go_wp2
  go_end0
  go_wp2
  go_end0
  exact ⟨rfl, rfl⟩

set_option maxRecDepth 100000 in
/-- The lock, free, is taken. -/
theorem lock_free (a : Addr) (w : World) (hc : w.cell? a = some (.int .i32 0)) (hz : w.frozen? a = false) :
    Calls Tryz.prog 128 #[.pointer (some a)] w fun e w' => e = .returned (.tuple #[]) ∧ w' = w.setCell a (.int .i32 1) := by
  have hd := disable_run
  have he := enable_run
  have ha := acquire_run
  have hcas := run_call_cas_hit (P := Tryz.prog) Tryz.func144 (by kernel_rfl) (by kernel_rfl) (by kernel_rfl) .i32 (by kernel_rfl) (y := 1) hc hz
  have hc' : (w.setCell a (.int .i32 1)).cell? a = some (.int .i32 1) := World.cell?_setCell_same w a _ hc
  have hcv := run_convert_to_unsafe (P := Tryz.prog) (src := 211) (dst := 182) Tryz.underlying211 Tryz.underlying182 (by kernel_rfl) hc'
  go_enter Tryz.func128, Tryz.ntmps128
  go_wp2
  first | go_end0 | (simp only [Exit.inBlock, Exit.then]; refine bodyPost_ret (results_none rfl _ _ _) rfl ?_) | refine bodyPost_ret (results_none rfl _ _ _) rfl ?_
  go_wp2
  go_end0
  exact ⟨rfl, rfl⟩

def OpsPost (w : World) (e : Ending) (w' : World) : Prop := ∃ mb, e = .returned (.map (some mb)) ∧ w.heap.size ≤ mb ∧ Below w.heap.size w w' ∧ MapIs w' mb opsN
theorem map_new (w : World) (b : Nat) (hb : b = w.heap.size) : MapIs (w.alloc (.map #[] 0)) b [] := ⟨#[], 0, by subst hb; exact heap_alloc_new w _, rfl⟩
/-- What stands while the operators are put into the map. -/
structure OpsSt (w : World) (L : List (List UInt8 × (Nat × Nat × Nat × Nat))) (wx : World) : Prop where
  m : MapIs wx (w.heap.size + 1 + 1) L
  t : wx.heap[w.heap.size]? = some (.cells #[.int .i64 700, .int .i64 699, .int .i64 699, .int .i64 0] 142 (0, 0))
  p : wx.heap[w.heap.size + 1]? = some (.cells #[.int .i64 400, .int .i64 400, .int .i64 399, .int .i64 0] 142 (0, 0))
  b : Below w.heap.size w wx
theorem OpsSt.next {w wx wy : World} {L L' : List (List UInt8 × (Nat × Nat × Nat × Nat))} (h : OpsSt w L wx) (hm : MapIs wy (w.heap.size + 1 + 1) L') (hg : wx.grownBy wy (some (w.heap.size + 1 + 1))) : OpsSt w L' wy := by
  have hl := (Array.getElem?_eq_some_iff.1 h.p).1
  refine ⟨hm, (hg.block _ (by omega) (fun e => by injection e; omega)).trans h.t, (hg.block _ hl (fun e => by injection e; omega)).trans h.p, ⟨hg.os.trans h.b.os, hg.tape.trans h.b.tape, hg.output.trans h.b.output, Nat.le_trans h.b.size hg.size, fun k hk => ?_⟩⟩
  have := h.b.size
  exact (hg.block k (by omega) (fun e => by injection e; omega)).trans (h.b.block k hk)
theorem row4o {w : World} {b : Nat} {a0 a1 a2 a3 : Value} {t : TypeId} (h : w.heap[b]? = some (Obj.cells #[a0, a1, a2, a3] t (0, 0))) :
    (w.cell? ⟨b, 0, none⟩ = some a0 ∧ w.cell? ⟨b, 1, none⟩ = some a1 ∧ w.cell? ⟨b, 2, none⟩ = some a2 ∧ w.cell? ⟨b, 3, none⟩ = some a3) := by
  simp [World.cell?, h]
set_option maxRecDepth 100000 in
set_option maxHeartbeats 4000000 in
theorem operators_any (w : World) : Calls Tryz.prog 99 #[] w fun e w' => OpsPost w e w' := by
  go_enter Tryz.func99, Tryz.ntmps99
  have hmk := @run_makeMap Tryz.prog
  have hst0 : OpsSt w [] (((w.alloc (.cells #[.int .i64 700, .int .i64 699, .int .i64 699, .int .i64 0] 142)).alloc (.cells #[.int .i64 400, .int .i64 400, .int .i64 399, .int .i64 0] 142)).alloc (.map #[] 0)) := by
    have hb : Below w.heap.size w (((w.alloc (.cells #[.int .i64 700, .int .i64 699, .int .i64 699, .int .i64 0] 142)).alloc (.cells #[.int .i64 400, .int .i64 400, .int .i64 399, .int .i64 0] 142)).alloc (.map #[] 0)) := (((Below.refl _ _).alloc (Nat.le_refl _) _).alloc (by simp) _).alloc (by simp; omega) _
    refine ⟨map_new _ _ (by simp), ?_, ?_, hb⟩
    · rw [Below.heap_alloc _ _ _ (by simp; omega), Below.heap_alloc _ _ _ (by simp)]
      exact heap_alloc_new w _
    · rw [Below.heap_alloc _ _ _ (by simp)]
      have := heap_alloc_new (w.alloc (.cells #[.int .i64 700, .int .i64 699, .int .i64 699, .int .i64 0] 142)) (.cells #[.int .i64 400, .int .i64 400, .int .i64 399, .int .i64 0] 142)
      simpa using this
  have HST := Lib.hid hst0
  clear hst0
  go_wp2_with ((first | refine wpList_insert_op _ rfl _ _ _ rfl (w.heap.size + 1 + 1) _ rfl HST.out.m _ (700, 699, 699, 0) rfl rfl (by decide) (by decide) (by decide) ?_ | refine wpList_insert_op _ rfl _ _ _ rfl (w.heap.size + 1 + 1) _ rfl HST.out.m _ (1200, 1199, 1199, 0) rfl rfl (by decide) (by decide) (by decide) ?_ | refine wpList_insert_op _ rfl _ _ _ rfl (w.heap.size + 1 + 1) _ rfl HST.out.m _ (1100, 1099, 1100, 0) rfl rfl (by decide) (by decide) (by decide) ?_ | refine wpList_insert_op _ rfl _ _ _ rfl (w.heap.size + 1 + 1) _ rfl HST.out.m _ (1050, 1049, 1050, 0) rfl rfl (by decide) (by decide) (by decide) ?_ | refine wpList_insert_op _ rfl _ _ _ rfl (w.heap.size + 1 + 1) _ rfl HST.out.m _ (1000, 999, 1000, 0) rfl rfl (by decide) (by decide) (by decide) ?_ | refine wpList_insert_op _ rfl _ _ _ rfl (w.heap.size + 1 + 1) _ rfl HST.out.m _ (0, 0, 0, 900) rfl rfl (by decide) (by decide) (by decide) ?_ | refine wpList_insert_op _ rfl _ _ _ rfl (w.heap.size + 1 + 1) _ rfl HST.out.m _ (500, 500, 499, 0) rfl rfl (by decide) (by decide) (by decide) ?_ | refine wpList_insert_op _ rfl _ _ _ rfl (w.heap.size + 1 + 1) _ rfl HST.out.m _ (500, 500, 499, 200) rfl rfl (by decide) (by decide) (by decide) ?_ | refine wpList_insert_op _ rfl _ _ _ rfl (w.heap.size + 1 + 1) _ rfl HST.out.m _ (400, 400, 399, 0) rfl rfl (by decide) (by decide) (by decide) ?_); intro w1 hm1 hg1; replace HST := Lib.hid (HST.out.next hm1 hg1); (try clear t0 t1 t2 t3 p0 p1 p2 p3); obtain ⟨t0, t1, t2, t3⟩ := row4o HST.out.t; obtain ⟨p0, p1, p2, p3⟩ := row4o HST.out.p; clear hm1 hg1)
  go_ret
  exact ⟨w.heap.size + 1 + 1, rfl, by omega, HST.out.b, HST.out.m⟩
end Go.Proofs.YtkjnjahmlobjiaaGreatDoor
