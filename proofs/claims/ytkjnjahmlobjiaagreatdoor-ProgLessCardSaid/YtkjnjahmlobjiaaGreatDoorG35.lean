/-
  The walk of finiallaw11.ProgLess.
  An argument that is a term, read from the statement's own reading: it is a term that lies in memory.
  An argument that is a row of terms, read from the statement's own reading: it is a row of terms that lies in memory.
  An argument that is a row of goals, read from the statement's own reading: it is a row of goals that lies in memory.
  Arguments that are a clause, or a program, read from the statement's own reading: they lie in memory.
-/
import Derived.Test.YtkjnjahmlobjiaaGreatDoorG34
import Derived.Test.YtkjnjahmlobjiaaGreatDoorG00
import Derived.Test.YtkjnjahmlobjiaaGreatDoorChecked
import Derived.ProofKit
import Derived.SizedLaws
import Derived.ChangeSame
import Derived.Deep.Slices
import Derived.RowKit
import Derived.Test.YtkjnjahmlobjiaaGreatDoorG02
namespace Go.Proofs.YtkjnjahmlobjiaaGreatDoor
open Go.RowKit

theorem sliceIn_take {w : World} {B : Nat} {p : List Pc} {g : Option Addr} {c : Nat} (h : Pc.sliceIn w B p (.slice g p.length c)) (k : Nat) (hk : k ≤ p.length) : Pc.sliceIn w B (p.take k) (.slice g k c) := by
  obtain ⟨g', c', e, h1, h2, h3⟩ := h
  injection e with e1 e2 e3
  subst e1 e3
  have hl : (p.take k).length = k := by rw [List.length_take]; omega
  refine ⟨g, c, by rw [hl], by omega, by omega, ?_⟩
  rcases h3 with h3 | ⟨bk, off, e, hb, hr⟩
  · exact .inl (by rw [h3, List.take_nil])
  · refine .inr ⟨bk, off, e, hb, fun i hi => ?_⟩
    obtain ⟨sv, u, h4⟩ := hr i (by omega)
    exact ⟨sv, u, by rw [List.getElem_take]; exact h4⟩
set_option maxRecDepth 100000 in
set_option maxHeartbeats 16000000 in
theorem pless_any (p : List Pc) (w : World) (u : Value) (hp : Pc.sliceIn w w.heap.size p u) (hr : Rng w) (ht : Tabs w) :
    Calls Tryz.prog 4 #[.agg #[u]] w fun e w' => e = .returned (.bool true) ∧ Below w.heap.size w w' := by
  obtain ⟨gp, cp, rfl, hcap, hpm, hrow⟩ := id hp
  have hpm2 : p.length ≤ 1599289640354 := hpm
  have HK := Lib.hid (LP.new hp ht hr)
  have HSM := Lib.hid (fun W (h : LP w p (.slice gp p.length cp) w.heap.size W) => gsome_any p W _ h.dp.hp)
  have HKN := Lib.hid knows_any
  have HCK := Lib.hid (fun W (h : LP w p (.slice gp p.length cp) w.heap.size W) hz => pcheck_any p W _ h.dp.hp h.tb hz)
  have HTK := Lib.hid (fun W (h : LP w p (.slice gp p.length cp) w.heap.size W) hz => pcheck_any (p.take (p.length - 1)) W _ (sliceIn_take h.dp.hp (p.length - 1) (Nat.sub_le _ _)) h.tb hz)
  have HLS := Lib.hid (fun (h : (checkB p).2 = 0) => check_less (k := p.length - 1) h)
  have HMT := Lib.hid (fun c (h : c ∈ p.take (p.length - 1)) => List.mem_of_mem_take h)
  have HLT := Lib.hid (show (p.take (p.length - 1)).length = p.length - 1 by rw [List.length_take]; omega)
  have HNN := Lib.hid (show 0 < p.length → ∃ bk off, gp = some ⟨bk, off, none⟩ from fun h => by
    rcases hrow with h9 | ⟨bk, off, e, -⟩
    · rw [h9] at h; exact absurd h (Nat.lt_irrefl _)
    · exact ⟨bk, off, e⟩)
  clear hp hr ht hpm hrow
  generalize hq : p.take (p.length - 1) = q at HTK HLS HMT HLT
  clear hq
  obtain ⟨np, hnp⟩ : ∃ m, p.length = m := ⟨_, rfl⟩
  rw [hnp] at HK HSM HCK HTK HLT HNN hcap hpm2 ⊢
  clear hnp
  obtain ⟨ci, ce, hcc⟩ : ∃ i e, checkB p = (i, e) := ⟨_, _, rfl⟩
  rw [hcc] at HCK HLS
  clear hcc
  go_enter Tryz.func4, Tryz.ntmps4
  go_upto_region 1 with fail
  have HK0 := Lib.hid (show LP w p (.slice gp np cp) w.heap.size (w.alloc (.cells #[.slice gp np cp] 24)) from HK.out)
  generalize w.alloc (.cells #[.slice gp np cp] 24) = u0 at HK0 ⊢
  clear HK
  have y0 := HK0.out.dp.cell0
  go_wp2_with fail
  go_at_call 6
  with_reducible refine (HSM.out _ HK0.out).mono ?_
  rintro e u1 ⟨⟨b, rfl, hbs⟩, hb⟩
  have HBS := Lib.hid hbs
  have HK1 := Lib.hid (HK0.out.next hb)
  clear hb hbs y0
  have y0 := HK1.out.dp.cell0
  have HKN1 := Lib.hid (HKN.out u1 HK1.out.rg HK1.out.tb)
  cases b with
  | false =>
    go_wp2_with (go_at_call 7; (with_reducible refine (HKN1.out).mono ?_); rintro e u2 ⟨rfl, hb⟩; have HK2 := Lib.hid (HK1.out.next hb); clear hb)
    go_ret
    exact ⟨rfl, HK2.out.dp.low⟩
  | true =>
  have hz := fits_of (HBS.out rfl).1
  have HC := Lib.hid (fun W h => HCK.out W h hz)
  have HTC := Lib.hid (fun W h => HTK.out W h (fun c hc => hz c (HMT.out c hc)))
  clear hz HCK HTK HMT
  by_cases h0 : np = 0
  · have kd : ((np : Int) == 0) = true := by rw [beq_iff_eq]; omega
    go_wp2_with (go_at_call 7; (with_reducible refine (HKN1.out).mono ?_); rintro e u2 ⟨rfl, hb⟩; have HK2 := Lib.hid (HK1.out.next hb); clear hb)
    go_ret
    exact ⟨rfl, HK2.out.dp.low⟩
  have kd : ((np : Int) == 0) = false := by rw [beq_eq_false_iff_ne]; omega
  obtain ⟨bk, off, hg⟩ := HNN.out (by omega)
  subst hg
  clear HNN HKN1
  obtain ⟨k, rfl⟩ : ∃ k, np = k + 1 := ⟨np - 1, by omega⟩
  rw [Nat.add_sub_cancel] at HTC HLT
  have kw : IntKind.i64.wrap (((k + 1 : Nat) : Int) - 1) = (k : Int) := by rw [IntKind.wrap_i64]; omega
  have ks : ((k + 1 : Nat) : Int) - 1 = (k : Int) := by omega
  clear h0
  go_upto_region 5 with (go_at_call 8; (with_reducible refine (HC.out _ HK1.out).mono ?_); rintro e u2 ⟨rfl, hb⟩; have HK2 := Lib.hid (HK1.out.next hb); clear hb y0; have y0 := HK2.out.dp.cell0)
  obtain ⟨u3, hu3⟩ : ∃ u3, u2.alloc (.cells #[.slice (some ⟨bk, off, none⟩) k cp] 24) = u3 := ⟨_, rfl⟩
  have hb3 : Below u2.heap.size u2 u3 := hu3 ▸ (Below.refl _ u2).alloc (Nat.le_refl _) _
  have hn3 : u3.heap[u2.heap.size]? = some (.cells #[.slice (some ⟨bk, off, none⟩) k cp] 24 (0, 0)) := hu3 ▸ heap_alloc_new u2 _
  rw [hu3]
  have HK3 := Lib.hid (HK2.out.next hb3)
  have HN3 := Lib.hid hn3
  have x0 : u3.cell? ⟨u2.heap.size, 0, none⟩ = some (.slice (some ⟨bk, off, none⟩) k cp) := by simp [World.cell?, hn3]
  clear hu3 hb3 hn3 y0
  generalize u2.heap.size = sx at HN3 x0 ⊢
  obtain ⟨qi, qe, hqq⟩ : ∃ i e, checkB q = (i, e) := ⟨_, _, rfl⟩
  have HLS := Lib.hid (show ce = 0 → (qi = 0 ∧ qe = 0) ∨ (qe = 9 ∧ qi < k) from fun h => by
    have h9 := HLS.out h
    rw [hqq, HLT.out] at h9
    rcases h9 with h9 | h9
    · injection h9 with h91 h92
      exact .inl ⟨h91, h92⟩
    · exact .inr h9)
  rw [hqq] at HTC
  clear hqq
  go_upto_region 6 with (go_at_call 8; (with_reducible refine (HTC.out _ HK3.out).mono ?_); rintro e u4 ⟨rfl, hb⟩; have HK4 := Lib.hid (HK3.out.next hb); have HN4 := Lib.hid ((hb.block _ (Array.getElem?_eq_some_iff.1 HN3.out).1).trans HN3.out); clear hb x0)
  have x0 : u4.cell? ⟨sx, 0, none⟩ = some (.slice (some ⟨bk, off, none⟩) k cp) := by simp [World.cell?, HN4.out]
  have HKN4 := Lib.hid (HKN.out u4 HK4.out.rg HK4.out.tb)
  by_cases hce : ce = 0
  case neg =>
    have kc : ((ce : Int) == 0) = false := by rw [beq_eq_false_iff_ne]; omega
    have kc2 : ((ce : Int) != 0) = true := by simp [bne, kc]
    go_wp2_with (go_at_call 7; (with_reducible refine (HKN4.out).mono ?_); rintro e u5 ⟨rfl, hb⟩; have HK5 := Lib.hid (HK4.out.next hb); clear hb)
    go_ret
    exact ⟨rfl, HK5.out.dp.low⟩
  rcases HLS.out hce with ⟨rfl, rfl⟩ | ⟨rfl, hqi⟩
  · subst hce
    have kc2 : (((0 : Nat) : Int) != 0) = false := rfl
    have kc3 : (((0 : Nat) : Int) == 0) = true := rfl
    go_wp2_with (go_at_call 7; (with_reducible refine (HKN4.out).mono ?_); rintro e u5 ⟨rfl, hb⟩; have HK5 := Lib.hid (HK4.out.next hb); clear hb)
    go_ret
    exact ⟨rfl, HK5.out.dp.low⟩
  · subst hce
    have kc2 : (((0 : Nat) : Int) != 0) = false := rfl
    have kc3 : (((9 : Nat) : Int) == 0) = false := rfl
    have kc4 : (((9 : Nat) : Int) == 9) = true := rfl
    have kc5 : ((qi : Int) < (k : Int)) = True := by simp only [eq_iff_iff, iff_true]; omega
    go_wp2_with (go_at_call 7; (with_reducible refine (HKN4.out).mono ?_); rintro e u5 ⟨rfl, hb⟩; have HK5 := Lib.hid (HK4.out.next hb); clear hb)
    go_ret
    exact ⟨rfl, HK5.out.dp.low⟩
end Go.Proofs.YtkjnjahmlobjiaaGreatDoor

namespace Go.Proofs.YtkjnjahmlobjiaaGreatDoor
open Go.ChangeShapes Go.WideShapes Go.ChangeAt Go.RowKit Go.Deep

theorem Tryz.cellsTerm : Tryz.prog.cellsOf 34 = 4 := by kernel_rfl
theorem Tryz.cellsInt : Tryz.prog.cellsOf 3 = 1 := by kernel_rfl
theorem Tryz.cellsStr : Tryz.prog.cellsOf 9 = 1 := by kernel_rfl
theorem Tryz.cellsArgs : Tryz.prog.cellsOf 32 = 1 := by kernel_rfl
theorem Tryz.bytesTerm : Tryz.prog.bytesOf 34 = 56 := by kernel_rfl

theorem weights_mem_all {H : Type} {P : Program} {e : TypeId} : ∀ {ds : List (DataW H)} {d : DataW H}, d ∈ ds → ∀ n ∈ d.weights P e, n ∈ DataW.weightsAll P e ds
  | d0 :: ds, d, hd, n, hn => by
    simp only [DataW.weightsAll, List.mem_append]
    rcases List.mem_cons.1 hd with rfl | hd
    · exact .inl hn
    · exact .inr (weights_mem_all hd n hn)
  | [], _, hd, _, _ => by cases hd

instance : Inhabited (Tm × Value) := ⟨(.mk 0 ByteArray.empty 0 [], .slice none 0 0)⟩

set_option maxRecDepth 100000 in
theorem open_term {H : Type} {enc : TypeId × Value → H} {W : World} {spare : Nat → Bool} {held : Bool} : ∀ (fuel : Nat) (cs : List Value) (x : DataW H × List MemPlace),
    DataW.trod enc Tryz.prog W 0 spare held fuel 34 cs = some x → (∀ n ∈ x.1.weights Tryz.prog 34, n ≤ reachBytes) →
    ∃ (t : Tm) (sv : Value), cs = [.int .i64 t.kind, .string t.name, .int .i64 t.n, sv] ∧ Tm.inn W W.heap.size t sv := by
  intro fuel
  induction fuel using Nat.strongRecOn with
  | ind fuel ih =>
  intro cs x h hw
  obtain ⟨xs, n, hn, rfl, hlen, hxl, hf⟩ := DataW.trod_struct Tryz.underlying34 h
  rw [Tryz.cellsTerm] at hlen
  match xs, hxl, cs, hlen with
  | [y0, y1, y2, y3], _, [c0, c1, c2, c3], _ =>
  have h0 := hf 0 _ rfl
  have h1 := hf 1 _ rfl
  have h2 := hf 2 _ rfl
  have h3 := hf 3 _ rfl
  replace h0 : DataW.trod enc Tryz.prog W 0 spare held n 3 (([c0, c1, c2, c3].drop 0).take (Tryz.prog.cellsOf 3)) = some y0 := h0
  replace h1 : DataW.trod enc Tryz.prog W 0 spare held n 9 (([c0, c1, c2, c3].drop 1).take (Tryz.prog.cellsOf 9)) = some y1 := h1
  replace h2 : DataW.trod enc Tryz.prog W 0 spare held n 3 (([c0, c1, c2, c3].drop 2).take (Tryz.prog.cellsOf 3)) = some y2 := h2
  replace h3 : DataW.trod enc Tryz.prog W 0 spare held n 32 (([c0, c1, c2, c3].drop 3).take (Tryz.prog.cellsOf 32)) = some y3 := h3
  rw [Tryz.cellsInt] at h0 h2
  rw [Tryz.cellsStr] at h1
  rw [Tryz.cellsArgs] at h3
  replace h0 : DataW.trod enc Tryz.prog W 0 spare held n 3 [c0] = some y0 := h0
  replace h1 : DataW.trod enc Tryz.prog W 0 spare held n 9 [c1] = some y1 := h1
  replace h2 : DataW.trod enc Tryz.prog W 0 spare held n 3 [c2] = some y2 := h2
  replace h3 : DataW.trod enc Tryz.prog W 0 spare held n 32 [c3] = some y3 := h3
  obtain ⟨k, e0, r0, w0⟩ := DataW.trod_int Tryz.underlying3 h0
  obtain ⟨s, e1, r1, w1⟩ := DataW.trod_string Tryz.underlying9 h1
  obtain ⟨m, e2, r2, w2⟩ := DataW.trod_int Tryz.underlying3 h2
  simp only [List.cons.injEq, and_true] at e0 e1 e2
  subst e0 e1 e2
  have hw3 : ∀ n ∈ y3.1.weights Tryz.prog 32, n ≤ reachBytes := by
    intro n hn
    refine hw n ?_
    simp only [DataW.weights, Tryz.underlying34]
    exact DataW.weights_mem_each (j := 3) (t := 32) (d := y3.1) rfl rfl n hn
  rcases DataW.trod_slice Tryz.underlying32 h3 with ⟨e3, _⟩ | ⟨a, len, cap, elems, rest, n', hn', e3, r3, _, hlc, hcm, hel, hcell, _, _⟩
  · simp only [List.cons.injEq, and_true] at e3
    subst e3
    refine ⟨.mk k s m [], _, rfl, ?_⟩
    rw [Tm.inn_mk]
    exact ⟨⟨w0, w1, w2⟩, none, 0, rfl, by simp, by simp, .inl rfl⟩
  · simp only [List.cons.injEq, and_true] at e3
    subst e3
    subst r3
    simp only [DataW.weights, Tryz.underlying32, Tryz.bytesTerm] at hw3
    have hbig := hw3 _ (List.mem_cons_self ..)
    simp only [List.length_map, reachBytes] at hbig
    rw [Tryz.cellsTerm] at hcell
    have hall : ∀ i, i < len → ∃ p : Tm × Value, W.cell? (a.add (i * 4)) = some (.int .i64 p.1.kind) ∧ W.cell? (a.add (i * 4 + 1)) = some (.string p.1.name) ∧ W.cell? (a.add (i * 4 + 2)) = some (.int .i64 p.1.n) ∧ W.cell? (a.add (i * 4 + 3)) = some p.2 ∧ Tm.inn W W.heap.size p.1 p.2 := by
      intro i hi
      have hc := hcell i hi
      rw [List.getElem?_eq_getElem (by omega)] at hc
      obtain ⟨cs', hc1, hc2⟩ := Option.bind_eq_some_iff.1 hc
      obtain ⟨t, sv, rfl, hin⟩ := ih n' (by omega) cs' _ hc2 (fun n hn => hw3 n (by
        refine List.mem_cons_of_mem _ (List.mem_append_left _ (weights_mem_all ?_ n hn))
        exact List.mem_map_of_mem (List.getElem_mem _)))
      obtain ⟨_, _, hat⟩ := World.cells?_some hc1
      have g0 := hat 0 (by omega)
      have g1 := hat 1 (by omega)
      have g2 := hat 2 (by omega)
      have g3 := hat 3 (by omega)
      rw [add_add] at g0 g1 g2 g3
      exact ⟨(t, sv), by simpa using g0, by simpa using g1, by simpa using g2, by simpa using g3, hin⟩
    obtain ⟨f, hf'⟩ := choose_lt hall
    refine ⟨.mk k s m ((List.range len).map fun i => (f i).1), _, rfl, ?_⟩
    rw [Tm.inn_mk]
    refine ⟨⟨w0, w1, w2⟩, some a, cap, by simp, by simpa using hlc, by simp; omega, ?_⟩
    by_cases hl0 : len = 0
    · subst hl0; exact .inl rfl
    · obtain ⟨b, off, spot⟩ := a
      have hspot : spot = none := by simpa [Addr.add] using World.cell?_spot (hf' 0 (by omega)).1
      subst hspot
      refine .inr ⟨b, off, rfl, ?_, Tm.rowIn_of fun i hi => ?_⟩
      · have := World.block_lt_of_cell? _ _ (hf' 0 (by omega)).1
        simpa [Addr.add] using this
      · have hi' : i < len := by simpa using hi
        obtain ⟨g0, g1, g2, g3, g4⟩ := hf' i hi'
        simp only [add_plain] at g0 g1 g2 g3
        refine ⟨(f i).2, ?_, ?_, ?_, ?_, ?_⟩
        · simpa using g0
        · simpa [Nat.add_assoc] using g1
        · simpa [Nat.add_assoc] using g2
        · simpa [Nat.add_assoc] using g3
        · simpa using g4

end Go.Proofs.YtkjnjahmlobjiaaGreatDoor

namespace Go.Proofs.YtkjnjahmlobjiaaGreatDoor
open Go.ChangeShapes Go.WideShapes Go.ChangeAt Go.RowKit Go.Deep

end Go.Proofs.YtkjnjahmlobjiaaGreatDoor

namespace Go.Proofs.YtkjnjahmlobjiaaGreatDoor
open Go.ChangeShapes Go.WideShapes Go.ChangeAt Go.RowKit Go.Deep

theorem Tryz.cellsGoal : Tryz.prog.cellsOf 49 = 8 := by kernel_rfl
theorem Tryz.cellsGoals : Tryz.prog.cellsOf 35 = 1 := by kernel_rfl
theorem Tryz.bytesGoal : Tryz.prog.bytesOf 49 = 136 := by kernel_rfl

structure GlV where
  g : Gl
  sv : Value
  av : Value
  bv : Value
  cv : Value
instance : Inhabited GlV := ⟨⟨.mk 0 (.mk 0 ByteArray.empty 0 []) [] [] [], .slice none 0 0, .slice none 0 0, .slice none 0 0, .slice none 0 0⟩⟩
def GlV.cells (x : GlV) : List Value := [.int .i64 x.g.kind, .int .i64 x.g.t.kind, .string x.g.t.name, .int .i64 x.g.t.n, x.sv, x.av, x.bv, x.cv]
def OpenC {H : Type} (enc : TypeId × Value → H) (W : World) (spare : Nat → Bool) (held : Bool) (fuel : Nat) : Prop := ∀ (cs : List Value) (x : DataW H × List MemPlace),
    DataW.trod enc Tryz.prog W 0 spare held fuel 49 cs = some x → (∀ n ∈ x.1.weights Tryz.prog 49, n ≤ reachBytes) →
    ∃ x : GlV, cs = x.cells ∧ Gl.inn W W.heap.size x.g x.sv x.av x.bv x.cv
set_option maxRecDepth 100000 in
theorem open_gslice {H : Type} {enc : TypeId × Value → H} {W : World} {spare : Nat → Bool} {held : Bool} {fuel : Nat} (ih : ∀ n, n < fuel → OpenC enc W spare held n) {cs : List Value} {x : DataW H × List MemPlace}
    (h : DataW.trod enc Tryz.prog W 0 spare held fuel 35 cs = some x) (hw : ∀ n ∈ x.1.weights Tryz.prog 35, n ≤ reachBytes) :
    ∃ (l : List Gl) (sv : Value), cs = [sv] ∧ Gl.sliceIn W W.heap.size l sv := by
  rcases DataW.trod_slice Tryz.underlying35 h with ⟨e3, _⟩ | ⟨a, len, cap, elems, rest, n', hn', e3, r3, _, hlc, hcm, hel, hcell, _, _⟩
  · subst e3
    exact ⟨[], _, rfl, none, 0, rfl, by simp, by simp, .inl rfl⟩
  · subst e3
    subst r3
    simp only [DataW.weights, Tryz.underlying35, Tryz.bytesGoal] at hw
    have hbig := hw _ (List.mem_cons_self ..)
    simp only [List.length_map, reachBytes] at hbig
    rw [Tryz.cellsGoal] at hcell
    have hall : ∀ i, i < len → ∃ x : GlV, W.cell? (a.add (i * 8)) = some (.int .i64 x.g.kind) ∧ W.cell? (a.add (i * 8 + 1)) = some (.int .i64 x.g.t.kind) ∧ W.cell? (a.add (i * 8 + 2)) = some (.string x.g.t.name) ∧ W.cell? (a.add (i * 8 + 3)) = some (.int .i64 x.g.t.n) ∧ W.cell? (a.add (i * 8 + 4)) = some x.sv ∧ W.cell? (a.add (i * 8 + 5)) = some x.av ∧ W.cell? (a.add (i * 8 + 6)) = some x.bv ∧ W.cell? (a.add (i * 8 + 7)) = some x.cv ∧ Gl.inn W W.heap.size x.g x.sv x.av x.bv x.cv := by
      intro i hi
      have hc := hcell i hi
      rw [List.getElem?_eq_getElem (by omega)] at hc
      obtain ⟨cs', hc1, hc2⟩ := Option.bind_eq_some_iff.1 hc
      obtain ⟨x, rfl, hin⟩ := ih n' (by omega) cs' _ hc2 (fun n hn => hw n (by
        refine List.mem_cons_of_mem _ (List.mem_append_left _ (weights_mem_all ?_ n hn))
        exact List.mem_map_of_mem (List.getElem_mem _)))
      obtain ⟨_, _, hat⟩ := World.cells?_some hc1
      have g0 := hat 0 (by omega)
      have g1 := hat 1 (by omega)
      have g2 := hat 2 (by omega)
      have g3 := hat 3 (by omega)
      have g4 := hat 4 (by omega)
      have g5 := hat 5 (by omega)
      have g6 := hat 6 (by omega)
      have g7 := hat 7 (by omega)
      rw [add_add] at g0 g1 g2 g3 g4 g5 g6 g7
      exact ⟨x, by simpa [GlV.cells] using g0, by simpa [GlV.cells] using g1, by simpa [GlV.cells] using g2, by simpa [GlV.cells] using g3, by simpa [GlV.cells] using g4, by simpa [GlV.cells] using g5, by simpa [GlV.cells] using g6, by simpa [GlV.cells] using g7, hin⟩
    obtain ⟨f, hf'⟩ := choose_lt hall
    refine ⟨(List.range len).map fun i => (f i).g, _, rfl, some a, cap, by simp, by simpa using hlc, by simp only [List.length_map, List.length_range, Gl.most]; omega, ?_⟩
    by_cases hl0 : len = 0
    · subst hl0; exact .inl rfl
    · obtain ⟨b, off, spot⟩ := a
      have hspot : spot = none := by simpa [Addr.add] using World.cell?_spot (hf' 0 (by omega)).1
      subst hspot
      refine .inr ⟨b, off, rfl, ?_, Gl.rowIn_of fun i hi => ?_⟩
      · have := World.block_lt_of_cell? _ _ (hf' 0 (by omega)).1
        simpa [Addr.add] using this
      · have hi' : i < len := by simpa using hi
        obtain ⟨g0, g1, g2, g3, g4, g5, g6, g7, g8⟩ := hf' i hi'
        simp only [add_plain] at g0 g1 g2 g3 g4 g5 g6 g7
        refine ⟨(f i).sv, (f i).av, (f i).bv, (f i).cv, ?_, ?_, ?_, ?_, ?_, ?_, ?_, ?_, ?_⟩
        · simpa using g0
        · simpa [Nat.add_assoc] using g1
        · simpa [Nat.add_assoc] using g2
        · simpa [Nat.add_assoc] using g3
        · simpa [Nat.add_assoc] using g4
        · simpa [Nat.add_assoc] using g5
        · simpa [Nat.add_assoc] using g6
        · simpa [Nat.add_assoc] using g7
        · simpa using g8
set_option maxRecDepth 100000 in
theorem open_goal {H : Type} {enc : TypeId × Value → H} {W : World} {spare : Nat → Bool} {held : Bool} : ∀ (fuel : Nat), OpenC enc W spare held fuel := by
  intro fuel
  induction fuel using Nat.strongRecOn with
  | ind fuel ih =>
  intro cs x h hw
  obtain ⟨xs, n, hn, rfl, hlen, hxl, hf⟩ := DataW.trod_struct Tryz.underlying49 h
  rw [Tryz.cellsGoal] at hlen
  match xs, hxl, cs, hlen with
  | [y0, y1, y2, y3, y4], _, [c0, c1, c2, c3, c4, c5, c6, c7], _ =>
  have h0 := hf 0 _ rfl
  have h1 := hf 1 _ rfl
  have h2 := hf 2 _ rfl
  have h3 := hf 3 _ rfl
  have h4 := hf 4 _ rfl
  replace h0 : DataW.trod enc Tryz.prog W 0 spare held n 3 (([c0, c1, c2, c3, c4, c5, c6, c7].drop 0).take (Tryz.prog.cellsOf 3)) = some y0 := h0
  replace h1 : DataW.trod enc Tryz.prog W 0 spare held n 34 (([c0, c1, c2, c3, c4, c5, c6, c7].drop 1).take (Tryz.prog.cellsOf 34)) = some y1 := h1
  replace h2 : DataW.trod enc Tryz.prog W 0 spare held n 35 (([c0, c1, c2, c3, c4, c5, c6, c7].drop 5).take (Tryz.prog.cellsOf 35)) = some y2 := h2
  replace h3 : DataW.trod enc Tryz.prog W 0 spare held n 35 (([c0, c1, c2, c3, c4, c5, c6, c7].drop 6).take (Tryz.prog.cellsOf 35)) = some y3 := h3
  replace h4 : DataW.trod enc Tryz.prog W 0 spare held n 35 (([c0, c1, c2, c3, c4, c5, c6, c7].drop 7).take (Tryz.prog.cellsOf 35)) = some y4 := h4
  rw [Tryz.cellsInt] at h0
  rw [Tryz.cellsTerm] at h1
  rw [Tryz.cellsGoals] at h2 h3 h4
  replace h0 : DataW.trod enc Tryz.prog W 0 spare held n 3 [c0] = some y0 := h0
  replace h1 : DataW.trod enc Tryz.prog W 0 spare held n 34 [c1, c2, c3, c4] = some y1 := h1
  replace h2 : DataW.trod enc Tryz.prog W 0 spare held n 35 [c5] = some y2 := h2
  replace h3 : DataW.trod enc Tryz.prog W 0 spare held n 35 [c6] = some y3 := h3
  replace h4 : DataW.trod enc Tryz.prog W 0 spare held n 35 [c7] = some y4 := h4
  obtain ⟨k, e0, r0, w0⟩ := DataW.trod_int Tryz.underlying3 h0
  simp only [List.cons.injEq, and_true] at e0
  subst e0
  have hw1 : ∀ n ∈ y1.1.weights Tryz.prog 34, n ≤ reachBytes := by
    intro n hn
    refine hw n ?_
    simp only [DataW.weights, Tryz.underlying49]
    exact DataW.weights_mem_each (j := 1) (t := 34) (d := y1.1) rfl rfl n hn
  have hw2 : ∀ n ∈ y2.1.weights Tryz.prog 35, n ≤ reachBytes := by
    intro n hn
    refine hw n ?_
    simp only [DataW.weights, Tryz.underlying49]
    exact DataW.weights_mem_each (j := 2) (t := 35) (d := y2.1) rfl rfl n hn
  have hw3 : ∀ n ∈ y3.1.weights Tryz.prog 35, n ≤ reachBytes := by
    intro n hn
    refine hw n ?_
    simp only [DataW.weights, Tryz.underlying49]
    exact DataW.weights_mem_each (j := 3) (t := 35) (d := y3.1) rfl rfl n hn
  have hw4 : ∀ n ∈ y4.1.weights Tryz.prog 35, n ≤ reachBytes := by
    intro n hn
    refine hw n ?_
    simp only [DataW.weights, Tryz.underlying49]
    exact DataW.weights_mem_each (j := 4) (t := 35) (d := y4.1) rfl rfl n hn
  obtain ⟨t, sv, e1, hin⟩ := open_term n _ _ h1 hw1
  have ihn : ∀ m, m < n → OpenC enc W spare held m := fun m hm => ih m (by omega)
  obtain ⟨la, av, e2, ha⟩ := open_gslice ihn h2 hw2
  obtain ⟨lb, bv, e3, hb⟩ := open_gslice ihn h3 hw3
  obtain ⟨lc, cv, e4, hc⟩ := open_gslice ihn h4 hw4
  simp only [List.cons.injEq, and_true] at e1 e2 e3 e4
  obtain ⟨rfl, rfl, rfl, rfl⟩ := e1
  subst e2 e3 e4
  exact ⟨⟨.mk k t la lb lc, _, _, _, _⟩, rfl, Gl.inn_mk.2 ⟨w0, hin, ha, hb, hc⟩⟩
end Go.Proofs.YtkjnjahmlobjiaaGreatDoor

namespace Go.Proofs.YtkjnjahmlobjiaaGreatDoor
open Go.ChangeShapes Go.WideShapes Go.ChangeAt Go.RowKit Go.Deep

theorem Tryz.cellsClause : Tryz.prog.cellsOf 37 = 6 := by kernel_rfl
theorem Tryz.cellsClauses : Tryz.prog.cellsOf 22 = 1 := by kernel_rfl
theorem Tryz.cellsProg : Tryz.prog.cellsOf 24 = 1 := by kernel_rfl
theorem Tryz.bytesClause : Tryz.prog.bytesOf 37 = 88 := by kernel_rfl

structure PcV where
  c : Pc
  sv : Value
  v : Value
instance : Inhabited PcV := ⟨⟨⟨.mk 0 ByteArray.empty 0 [], [], 0⟩, .slice none 0 0, .slice none 0 0⟩⟩
def PcV.cells (x : PcV) : List Value := [.int .i64 x.c.h.kind, .string x.c.h.name, .int .i64 x.c.h.n, x.sv, x.v, .int .i64 x.c.n]
set_option maxRecDepth 100000 in
theorem open_clause {H : Type} {enc : TypeId × Value → H} {W : World} {spare : Nat → Bool} {held : Bool} (fuel : Nat) (cs : List Value) (x : DataW H × List MemPlace)
    (h : DataW.trod enc Tryz.prog W 0 spare held fuel 37 cs = some x) (hw : ∀ n ∈ x.1.weights Tryz.prog 37, n ≤ reachBytes) :
    ∃ x : PcV, cs = x.cells ∧ Pc.inn W W.heap.size x.c x.sv x.v := by
  obtain ⟨xs, n, hn, rfl, hlen, hxl, hf⟩ := DataW.trod_struct Tryz.underlying37 h
  rw [Tryz.cellsClause] at hlen
  match xs, hxl, cs, hlen with
  | [y0, y1, y2], _, [c0, c1, c2, c3, c4, c5], _ =>
  have h0 := hf 0 _ rfl
  have h1 := hf 1 _ rfl
  have h2 := hf 2 _ rfl
  replace h0 : DataW.trod enc Tryz.prog W 0 spare held n 34 (([c0, c1, c2, c3, c4, c5].drop 0).take (Tryz.prog.cellsOf 34)) = some y0 := h0
  replace h1 : DataW.trod enc Tryz.prog W 0 spare held n 35 (([c0, c1, c2, c3, c4, c5].drop 4).take (Tryz.prog.cellsOf 35)) = some y1 := h1
  replace h2 : DataW.trod enc Tryz.prog W 0 spare held n 3 (([c0, c1, c2, c3, c4, c5].drop 5).take (Tryz.prog.cellsOf 3)) = some y2 := h2
  rw [Tryz.cellsTerm] at h0
  rw [Tryz.cellsGoals] at h1
  rw [Tryz.cellsInt] at h2
  replace h0 : DataW.trod enc Tryz.prog W 0 spare held n 34 [c0, c1, c2, c3] = some y0 := h0
  replace h1 : DataW.trod enc Tryz.prog W 0 spare held n 35 [c4] = some y1 := h1
  replace h2 : DataW.trod enc Tryz.prog W 0 spare held n 3 [c5] = some y2 := h2
  obtain ⟨k, e2, r2, w2⟩ := DataW.trod_int Tryz.underlying3 h2
  simp only [List.cons.injEq, and_true] at e2
  subst e2
  have hw0 : ∀ n ∈ y0.1.weights Tryz.prog 34, n ≤ reachBytes := by
    intro n hn
    refine hw n ?_
    simp only [DataW.weights, Tryz.underlying37]
    exact DataW.weights_mem_each (j := 0) (t := 34) (d := y0.1) rfl rfl n hn
  have hw1 : ∀ n ∈ y1.1.weights Tryz.prog 35, n ≤ reachBytes := by
    intro n hn
    refine hw n ?_
    simp only [DataW.weights, Tryz.underlying37]
    exact DataW.weights_mem_each (j := 1) (t := 35) (d := y1.1) rfl rfl n hn
  obtain ⟨t, sv, e0, hin⟩ := open_term n _ _ h0 hw0
  obtain ⟨l, v, e1, hl⟩ := open_gslice (fun m _ => open_goal m) h1 hw1
  simp only [List.cons.injEq, and_true] at e0 e1
  obtain ⟨rfl, rfl, rfl, rfl⟩ := e0
  subst e1
  exact ⟨⟨⟨t, l, k⟩, _, _⟩, rfl, w2, hin, hl⟩
set_option maxRecDepth 100000 in
theorem open_clauses {H : Type} {enc : TypeId × Value → H} {W : World} {spare : Nat → Bool} {held : Bool} {fuel : Nat} {cs : List Value} {x : DataW H × List MemPlace}
    (h : DataW.trod enc Tryz.prog W 0 spare held fuel 22 cs = some x) (hw : ∀ n ∈ x.1.weights Tryz.prog 22, n ≤ reachBytes) :
    ∃ (l : List Pc) (sv : Value), cs = [sv] ∧ Pc.sliceIn W W.heap.size l sv := by
  rcases DataW.trod_slice Tryz.underlying22 h with ⟨e3, _⟩ | ⟨a, len, cap, elems, rest, n', hn', e3, r3, _, hlc, hcm, hel, hcell, _, _⟩
  · subst e3
    exact ⟨[], _, rfl, none, 0, rfl, by simp, by simp, .inl rfl⟩
  · subst e3
    subst r3
    simp only [DataW.weights, Tryz.underlying22, Tryz.bytesClause] at hw
    have hbig := hw _ (List.mem_cons_self ..)
    simp only [List.length_map, reachBytes] at hbig
    rw [Tryz.cellsClause] at hcell
    have hall : ∀ i, i < len → ∃ x : PcV, W.cell? (a.add (i * 6)) = some (.int .i64 x.c.h.kind) ∧ W.cell? (a.add (i * 6 + 1)) = some (.string x.c.h.name) ∧ W.cell? (a.add (i * 6 + 2)) = some (.int .i64 x.c.h.n) ∧ W.cell? (a.add (i * 6 + 3)) = some x.sv ∧ W.cell? (a.add (i * 6 + 4)) = some x.v ∧ W.cell? (a.add (i * 6 + 5)) = some (.int .i64 x.c.n) ∧ Pc.inn W W.heap.size x.c x.sv x.v := by
      intro i hi
      have hc := hcell i hi
      rw [List.getElem?_eq_getElem (by omega)] at hc
      obtain ⟨cs', hc1, hc2⟩ := Option.bind_eq_some_iff.1 hc
      obtain ⟨x, rfl, hin⟩ := open_clause n' cs' _ hc2 (fun n hn => hw n (by
        refine List.mem_cons_of_mem _ (List.mem_append_left _ (weights_mem_all ?_ n hn))
        exact List.mem_map_of_mem (List.getElem_mem _)))
      obtain ⟨_, _, hat⟩ := World.cells?_some hc1
      have g0 := hat 0 (by omega)
      have g1 := hat 1 (by omega)
      have g2 := hat 2 (by omega)
      have g3 := hat 3 (by omega)
      have g4 := hat 4 (by omega)
      have g5 := hat 5 (by omega)
      rw [add_add] at g0 g1 g2 g3 g4 g5
      exact ⟨x, by simpa [PcV.cells] using g0, by simpa [PcV.cells] using g1, by simpa [PcV.cells] using g2, by simpa [PcV.cells] using g3, by simpa [PcV.cells] using g4, by simpa [PcV.cells] using g5, hin⟩
    obtain ⟨f, hf'⟩ := choose_lt hall
    refine ⟨(List.range len).map fun i => (f i).c, _, rfl, some a, cap, by simp, by simpa using hlc, by simp only [List.length_map, List.length_range, Pc.most]; omega, ?_⟩
    by_cases hl0 : len = 0
    · subst hl0; exact .inl rfl
    · obtain ⟨b, off, spot⟩ := a
      have hspot : spot = none := by simpa [Addr.add] using World.cell?_spot (hf' 0 (by omega)).1
      subst hspot
      refine .inr ⟨b, off, rfl, ?_, fun i hi => ?_⟩
      · have := World.block_lt_of_cell? _ _ (hf' 0 (by omega)).1
        simpa [Addr.add] using this
      · have hi' : i < len := by simpa using hi
        obtain ⟨g0, g1, g2, g3, g4, g5, g6⟩ := hf' i hi'
        simp only [add_plain] at g0 g1 g2 g3 g4 g5
        refine ⟨(f i).sv, (f i).v, ?_, ?_, ?_, ?_, ?_, ?_, ?_⟩
        · simpa using g0
        · simpa [Nat.add_assoc] using g1
        · simpa [Nat.add_assoc] using g2
        · simpa [Nat.add_assoc] using g3
        · simpa [Nat.add_assoc] using g4
        · simpa [Nat.add_assoc] using g5
        · simpa using g6
set_option maxRecDepth 100000 in
theorem open_prog0 {H : Type} {enc : TypeId × Value → H} {W : World} {spare : Nat → Bool} {held : Bool} (fuel : Nat) (cs : List Value) (x : DataW H × List MemPlace)
    (h : DataW.trod enc Tryz.prog W 0 spare held fuel 24 cs = some x) (hw : ∀ n ∈ x.1.weights Tryz.prog 24, n ≤ reachBytes) :
    ∃ (l : List Pc) (u : Value), cs = [u] ∧ Pc.sliceIn W W.heap.size l u := by
  obtain ⟨xs, n, hn, rfl, hlen, hxl, hf⟩ := DataW.trod_struct Tryz.underlying24 h
  rw [Tryz.cellsProg] at hlen
  match xs, hxl, cs, hlen with
  | [y0], _, [c0], _ =>
  have h0 := hf 0 _ rfl
  replace h0 : DataW.trod enc Tryz.prog W 0 spare held n 22 (([c0].drop 0).take (Tryz.prog.cellsOf 22)) = some y0 := h0
  rw [Tryz.cellsClauses] at h0
  replace h0 : DataW.trod enc Tryz.prog W 0 spare held n 22 [c0] = some y0 := h0
  have hw0 : ∀ n ∈ y0.1.weights Tryz.prog 22, n ≤ reachBytes := by
    intro n hn
    refine hw n ?_
    simp only [DataW.weights, Tryz.underlying24]
    exact DataW.weights_mem_each (j := 0) (t := 22) (d := y0.1) rfl rfl n hn
  obtain ⟨l, u, e, hin⟩ := open_clauses h0 hw0
  exact ⟨l, u, e, hin⟩
set_option maxRecDepth 100000 in
/-- A program as an argument. -/
theorem open_prog {H : Type} {enc : TypeId × Value → H} {W : World} {r : Reach} {base : Nat} {spare : Nat → Bool} {held : Bool} {v : Value} {d : DataW H} {p : List MemPlace} (hv : Value.okWide Tryz.prog W r base 24 v)
    (h : DataW.Trod enc Tryz.prog W 0 spare held 24 v d p) (hw : ∀ n ∈ d.weights Tryz.prog 24, n ≤ reachBytes) :
    ∃ (l : List Pc) (u : Value), v = .agg #[u] ∧ Pc.sliceIn W W.heap.size l u := by
  obtain ⟨cs, rfl, hsz⟩ := okWide_struct Tryz.underlying24 hv
  obtain ⟨fuel, hf⟩ := h
  obtain ⟨l, u, e, hin⟩ := open_prog0 fuel _ _ hf hw
  refine ⟨l, u, ?_, hin⟩
  obtain ⟨cl⟩ := cs
  simp only [Value.cells] at e
  rw [← e]
end Go.Proofs.YtkjnjahmlobjiaaGreatDoor
