/-
  The program's term, list and args: a term's text, written.
-/
import Derived.Test.YtliapkajonbndaaGreatDoorG03
import Derived.Test.YtliapkajonbndaaGreatDoorTmP
import Derived.Deep.RegionWith
namespace Go.Proofs.YtliapkajonbndaaGreatDoor
open Go.RowKit

/-- What stands at each place of the walk: the printer, the term in its box, the table. -/
structure PS (w0 : World) (b : Nat) (t : Tm) (sv : Value) (bx : Nat) (x : List UInt8) (W : World) : Prop where
  ne : b < bx
  pr : Pr b x W
  fr : PFr b w0 W
  bk : W.heap[bx]? = some (.cells #[.int .i64 t.kind, .string t.name, .int .i64 t.n, sv] 24 (0, 0))
  hi : Tm.inn W b t sv
  pw : Pow W
  pg : 0 < b
theorem PS.next {w0 : World} {b : Nat} {t : Tm} {sv : Value} {bx : Nat} {x y : List UInt8} {W W' : World} (h : PS w0 b t sv bx x W) (hp : Pr b y W') (hf : PFr b W W') : PS w0 b t sv bx y W' :=
  ⟨h.ne, hp, h.fr.trans hf, hf.block h.bk (by have := h.ne; omega) (fun c fz e => by injection e with _ e2 _; exact absurd e2 (by decide)), Tm.inn_below h.hi hf.low (Nat.le_refl _), h.pw.next hf.low h.pg, h.pg⟩
theorem PS.quiet {w0 : World} {b : Nat} {t : Tm} {sv : Value} {bx : Nat} {x : List UInt8} {W W' : World} (h : PS w0 b t sv bx x W) (hb : Below W.heap.size W W') : PS w0 b t sv bx x W' :=
  h.next (h.pr.below hb) (PFr.of (Nat.le_of_lt h.pr.lt) hb)
theorem PS.cells {w0 : World} {b : Nat} {t : Tm} {sv : Value} {bx : Nat} {x : List UInt8} {W : World} (h : PS w0 b t sv bx x W) : W.cell? ⟨bx, 0, none⟩ = some (.int .i64 t.kind) ∧ W.cell? ⟨bx, 1, none⟩ = some (.string t.name) ∧ W.cell? ⟨bx, 2, none⟩ = some (.int .i64 t.n) ∧ W.cell? ⟨bx, 3, none⟩ = some sv ∧ bx < W.heap.size := by
  refine ⟨?_, ?_, ?_, ?_, (Array.getElem?_eq_some_iff.1 h.bk).1⟩
  all_goals rw [Lib.cell_of_heap h.bk]; rfl
theorem PS.new {b : Nat} {t : Tm} {sv : Value} {x : List UInt8} {w : World} (hp : Pr b x w) (hi : Tm.inn w b t sv) (hw : Pow w) (hg : 0 < b) : PS w b t sv w.heap.size x (w.alloc (.cells #[.int .i64 t.kind, .string t.name, .int .i64 t.n, sv] 24)) := by
  have hb := (Below.refl w.heap.size w).alloc (Nat.le_refl _) (.cells #[.int .i64 t.kind, .string t.name, .int .i64 t.n, sv] 24)
  exact ⟨hp.lt, hp.below hb, PFr.of (Nat.le_of_lt hp.lt) hb, heap_alloc_new w _, Tm.inn_below hi (hb.mono (Nat.le_of_lt hp.lt)) (Nat.le_refl _), hw.next (hb.mono (Nat.le_of_lt hp.lt)) hg, hg⟩
/-- What the program's term is to say of a term. -/
def PTm (t : Tm) : Prop := ∀ (b : Nat) (x : List UInt8) (w : World) (sv : Value), Pr b x w → Tm.inn w b t sv → Pow w → 0 < b → (x ++ tx t).length ≤ 8000000000 →
  Calls Tryz.prog 16 #[.pointer (some ⟨b, 0, none⟩), .agg #[.int .i64 t.kind, .string t.name, .int .i64 t.n, sv]] w fun e w' => e = .returned (.tuple #[]) ∧ Pr b (x ++ tx t) w' ∧ PFr b w w'
set_option maxRecDepth 100000 in
set_option maxHeartbeats 4000000 in
theorem pterm_var {n : Int} (h0 : 0 ≤ n) : PTm (.mk 1 ⟨#[]⟩ n []) := by
  intro b x w sv hpr hin hpw hpg hlx
  obtain ⟨⟨_, _, hwf⟩, g, cap, rfl, -, -, -⟩ := Tm.inn_mk.1 hin
  have hwf2 := wfw64 hwf
  have hx : tx (.mk 1 ⟨#[]⟩ n []) = 95 :: dgz n := by
    unfold dgz
    rw [if_neg (by omega)]
    simp [tx, wr, txO]
  rw [hx] at hlx ⊢
  have hl1 : x.length + (dgz n).length + 1 ≤ 8000000000 := by
    simp only [List.length_append, List.length_cons] at hlx
    omega
  have HS := Lib.hid (PS.new hpr hin hpw hpg)
  have HWF := Lib.hid hwf2
  clear hin hx hwf hwf2 hpr hpw hlx
  show Calls Tryz.prog 16 #[.pointer (some ⟨b, 0, none⟩), .agg #[.int .i64 1, .string ⟨#[]⟩, .int .i64 n, .slice g 0 cap]] w _
  go_enter Tryz.func16, Tryz.ntmps16
  go_upto_region 3 with fail
  have HS1 := Lib.hid (show PS w b (.mk 1 ⟨#[]⟩ n []) (.slice g 0 cap) w.heap.size x (w.alloc (.cells #[.int .i64 1, .string ⟨#[]⟩, .int .i64 n, .slice g 0 cap] 24)) from HS.out)
  clear HS
  generalize w.alloc (.cells #[.int .i64 1, .string ⟨#[]⟩, .int .i64 n, .slice g 0 cap] 24) = v at HS1 ⊢
  have c0 : v.cell? ⟨w.heap.size, 0, none⟩ = some (.int .i64 1) := HS1.out.cells.1
  have hl := HS1.out.cells.2.2.2.2
  go_upto_region 5 with (go_at_call 26; (with_reducible refine (pbyte_k b x 95 95 rfl _ HS1.out.pr (by omega)).mono ?_); rintro e w2 ⟨rfl, hp2, hf2⟩; have HS2 := Lib.hid (HS1.out.next hp2 hf2); clear hp2 hf2)
  have c2 : w2.drew.cell? ⟨w.heap.size, 2, none⟩ = some (.int .i64 n) := HS2.out.cells.2.2.1
  have HI := Lib.hid (pitoa_any n HWF.out.1 HWF.out.2)
  have HPW := Lib.hid (show Pow w2.drew from HS2.out.pw)
  have HP := Lib.hid (fun W (hb : Below w2.drew.heap.size w2.drew W) => (HS2.out.quiet ((Below.refl _ w2).drew)).quiet hb)
  clear c0
  go_region_with (first
    | (go_at_call 29; (with_reducible refine (HI.out _ HPW.out).mono ?_); rintro e w3 ⟨rfl, hb⟩; have HS3 := Lib.hid (HP.out _ hb); clear hb)
    | (go_at_call 24; (with_reducible refine (pstr_any b (x ++ [95]) (dgz n) _ HS3.out.pr (by simp; omega)).mono ?_); rintro e w4 ⟨rfl, hp4, hf4⟩; have HS4 := Lib.hid (HS3.out.next hp4 hf4); clear hp4 hf4))
  go_wp2_with fail
  go_end0
  exact ⟨rfl, by have h9 := HS4.out.pr; rw [List.append_assoc] at h9; exact h9, HS4.out.fr⟩
set_option maxRecDepth 100000 in
set_option maxHeartbeats 4000000 in
theorem pterm_num (n : Int) : PTm (.mk 2 ⟨#[]⟩ n []) := by
  intro b x w sv hpr hin hpw hpg hlx
  obtain ⟨⟨_, _, hwf⟩, g, cap, rfl, -, -, -⟩ := Tm.inn_mk.1 hin
  have hwf2 := wfw64 hwf
  have hx : tx (.mk 2 ⟨#[]⟩ n []) = dgz n := by simp [tx, wr, txO, dgz]
  rw [hx] at hlx ⊢
  have hl1 : x.length + (dgz n).length ≤ 8000000000 := by
    simp only [List.length_append] at hlx
    omega
  have HS := Lib.hid (PS.new hpr hin hpw hpg)
  have HWF := Lib.hid hwf2
  clear hin hx hwf hwf2 hpr hpw hlx
  show Calls Tryz.prog 16 #[.pointer (some ⟨b, 0, none⟩), .agg #[.int .i64 2, .string ⟨#[]⟩, .int .i64 n, .slice g 0 cap]] w _
  go_enter Tryz.func16, Tryz.ntmps16
  go_upto_region 3 with fail
  have HS1 := Lib.hid (show PS w b (.mk 2 ⟨#[]⟩ n []) (.slice g 0 cap) w.heap.size x (w.alloc (.cells #[.int .i64 2, .string ⟨#[]⟩, .int .i64 n, .slice g 0 cap] 24)) from HS.out)
  clear HS
  generalize w.alloc (.cells #[.int .i64 2, .string ⟨#[]⟩, .int .i64 n, .slice g 0 cap] 24) = v at HS1 ⊢
  have c0 : v.cell? ⟨w.heap.size, 0, none⟩ = some (.int .i64 2) := HS1.out.cells.1
  have hl := HS1.out.cells.2.2.2.2
  go_upto_region 7 with fail
  have c2 : v.drew.cell? ⟨w.heap.size, 2, none⟩ = some (.int .i64 n) := HS1.out.cells.2.2.1
  have HI := Lib.hid (pitoa_any n HWF.out.1 HWF.out.2)
  have HPW := Lib.hid (show Pow v.drew from HS1.out.pw)
  have HP := Lib.hid (fun W (hb : Below v.drew.heap.size v.drew W) => (HS1.out.quiet ((Below.refl _ v).drew)).quiet hb)
  clear c0
  go_region_with (first
    | (go_at_call 29; (with_reducible refine (HI.out _ HPW.out).mono ?_); rintro e w3 ⟨rfl, hb⟩; have HS3 := Lib.hid (HP.out _ hb); clear hb)
    | (go_at_call 24; (with_reducible refine (pstr_any b x (dgz n) _ HS3.out.pr (by omega)).mono ?_); rintro e w4 ⟨rfl, hp4, hf4⟩; have HS4 := Lib.hid (HS3.out.next hp4 hf4); clear hp4 hf4))
  go_wp2_with fail
  go_end0
  exact ⟨rfl, HS4.out.pr, HS4.out.fr⟩
/-- A cell of an argument row. -/
theorem arg_at {W : World} {B : Nat} {l : List Tm} {g : Option Addr} {n c : Nat} (h : Tm.sliceIn W B l (.slice g n c)) (i : Nat) (hi : i < l.length) : ∃ ab ao gs ms cs, g = some ⟨ab, ao, none⟩ ∧ ab < B ∧ W.cell? ⟨ab, ao + i * 4, none⟩ = some (.int .i64 l[i].kind) ∧ W.cell? ⟨ab, ao + i * 4 + 1, none⟩ = some (.string l[i].name) ∧ W.cell? ⟨ab, ao + i * 4 + 2, none⟩ = some (.int .i64 l[i].n) ∧ W.cell? ⟨ab, ao + i * 4 + 3, none⟩ = some (.slice gs ms cs) ∧ Tm.inn W B l[i] (.slice gs ms cs) := by
  obtain ⟨ab, ao, sv, e, hb, g0, g1, g2, g3, hin⟩ := Tm.sliceIn_get h i hi
  obtain ⟨_, gs, cs, rfl, _⟩ := Tm.inn_iff.1 hin
  exact ⟨ab, ao, gs, _, cs, e, hb, g0, g1, g2, g3, hin⟩
/-- Another block, written: the printer stands. -/
theorem Pr.other {b : Nat} {x : List UInt8} {W W' : World} (h : Pr b x W) {k : Nat} (hk : k ≠ b) (ht : ∀ c fz, W.heap[k]? ≠ some (.cells c 5 fz)) (hg : W.grownBy W' (some k)) : Pr b x W' := by
  have key : ∀ p, Lib.BuilderAt 53 5 b b p (Lib.byteCells x) W → Lib.BuilderAt 53 5 b b p (Lib.byteCells x) W' := fun p hp => by
    have hlt := hp.lt
    obtain ⟨h1, v, h2, h3, h4⟩ := hp
    refine ⟨h1, v, (hg.block b hlt (fun e => hk (Option.some.inj e).symm)).trans h2, h3.kept hg ?_, h4⟩
    rcases Option.eq_none_or_eq_some v.ownBlock with e | ⟨q, e⟩
    · exact .inl e
    · refine .inr (fun e2 => ?_)
      obtain ⟨c, fz, hc⟩ := own_kind h3 k e2
      exact ht c fz hc
  rcases h with h | h
  · exact .inl (key _ h)
  · exact .inr (key _ h)
/-- Another term, stored into the box. -/
theorem PS.put {w0 : World} {b : Nat} {t d : Tm} {sv sv' : Value} {bx : Nat} {x : List UInt8} {W W' : World} (h : PS w0 b t sv bx x W) (hn : w0.heap.size ≤ bx) (hg : W.grownBy W' (some bx)) (hk : W'.heap[bx]? = some (.cells #[.int .i64 d.kind, .string d.name, .int .i64 d.n, sv'] 24 (0, 0))) (hi : Tm.inn W b d sv') : PS w0 b d sv' bx x W' := by
  have hne := h.ne
  have hlo : Below b W W' := ⟨hg.os, hg.tape, hg.output, hg.size, fun k hk => hg.block k (by have := h.pr.lt; omega) (fun e => by have := Option.some.inj e; omega)⟩
  refine ⟨h.ne, h.pr.other (by omega) (fun c fz e => by rw [h.bk] at e; injection e with e; injection e with _ e2 _; exact absurd e2 (by decide)) hg, ⟨h.fr.low.trans hlo, fun k o hk2 h1 h2 => ?_⟩, hk, Tm.inn_below hi hlo (Nat.le_refl _), h.pw.next hlo h.pg, h.pg⟩
  have h3 := h.fr.oth k o hk2 h1 h2
  have h4 := (Array.getElem?_eq_some_iff.1 hk2).1
  exact (hg.block k (Array.getElem?_eq_some_iff.1 h3).1 (fun e => by have := Option.some.inj e; omega)).trans h3
/-- How much the printer holds, off the world. -/
def plenW (b : Nat) (W : World) : Nat := match W.heap[b]? with
  | some (.cells cs _ _) => (match cs[1]? with | some (Value.slice _ n _) => n | _ => 0)
  | _ => 0
theorem plenW_pr {b : Nat} {x : List UInt8} {W : World} (h : Pr b x W) : plenW b W = x.length := by
  obtain ⟨p, g, c, h1, -⟩ := h.open
  unfold plenW
  rw [h1]
  rfl
/-- What the loop over a list's pairs holds: so much is written, and what the box's term adds makes up the whole. -/
def LsL (w0 : World) (b : Nat) (bx : Nat) (Z : List UInt8) (N : Nat) (W : World) : Prop :=
  ∃ (u : Tm) (sv : Value) (X : List UInt8), PS w0 b u sv bx X W ∧ X ++ tl u = Z ∧ u.fair = true ∧ u.size < N
theorem setC_grown (W : World) (b o : Nat) (v : Value) : W.grownBy (W.setCell ⟨b, o, none⟩ v) (some b) :=
  ⟨rfl, rfl, rfl, by simp [World.setCell], fun k _ hk => Below.heap_setCell _ _ _ k (fun e => hk (by rw [e]))⟩
theorem setC_blk {w : World} {b o : Nat} {v : Value} {cs : Array Value} {t : TypeId} {fz : Nat × Nat} (h : w.heap[b]? = some (Obj.cells cs t fz)) : (w.setCell ⟨b, o, none⟩ v).heap[b]? = some (.cells (cs.setIfInBounds o v) t fz) := by
  obtain ⟨hlt, hk⟩ := Array.getElem?_eq_some_iff.1 h
  show (w.heap.modify b _)[b]? = _
  rw [Array.getElem?_eq_getElem (by rw [Array.size_modify]; exact hlt), Array.getElem_modify_self, hk]
  rfl
theorem grown_same {W V U : World} {b : Nat} (h : W.grownBy V (some b)) (k : V.grownBy U (some b)) : W.grownBy U (some b) :=
  ⟨k.os.trans h.os, k.tape.trans h.tape, k.output.trans h.output, Nat.le_trans h.size k.size, fun i hi hne => (k.block i (Nat.lt_of_lt_of_le hi h.size) hne).trans (h.block i hi hne)⟩
theorem set4_put {w0 : World} {b : Nat} {t d : Tm} {sv sv' : Value} {bx : Nat} {x : List UInt8} {W : World} (h : PS w0 b t sv bx x W) (hn : w0.heap.size ≤ bx) (hi : Tm.inn W b d sv') :
    PS w0 b d sv' bx x ((((W.setCell ⟨bx, 0, none⟩ (.int .i64 d.kind)).setCell ⟨bx, 1, none⟩ (.string d.name)).setCell ⟨bx, 2, none⟩ (.int .i64 d.n)).setCell ⟨bx, 3, none⟩ sv') :=
  h.put hn (grown_same (grown_same (grown_same (setC_grown _ _ _ _) (setC_grown _ _ _ _)) (setC_grown _ _ _ _)) (setC_grown _ _ _ _)) (setC_blk (setC_blk (setC_blk (setC_blk h.bk)))) hi
theorem fair_kind3 {k n : Int} {s : ByteArray} {l : List Tm} (hf : (Tm.mk k s n l).fair = true) (hs : bsN s ≠ []) : k = 3 := by
  simp only [Tm.fair, Bool.and_eq_true] at hf
  have h := hf.2
  unfold Tm.alone at h
  by_cases h1 : k = 1
  · rw [if_pos h1] at h
    simp only [Bool.and_eq_true, decide_eq_true_eq] at h
    rw [← bsN_toList] at hs
    exact absurd h.1.2 hs
  · rw [if_neg h1] at h
    by_cases h2 : k = 2
    · rw [if_pos h2] at h
      simp only [Bool.and_eq_true, decide_eq_true_eq] at h
      rw [← bsN_toList] at hs
      exact absurd h.1 hs
    · rw [if_neg h2] at h
      by_cases h3 : k = 3
      · exact h3
      · rw [if_neg h3] at h
        cases h
theorem fair_args {k n : Int} {s : ByteArray} {l : List Tm} (hf : (Tm.mk k s n l).fair = true) : ∀ t ∈ l, t.fair = true := by
  simp only [Tm.fair, Bool.and_eq_true] at hf
  have h := hf.1.2
  rw [Tm.fairs_all, List.all_eq_true] at h
  exact h
theorem two_of {l : List Tm} (h : l.length = 2) : ∃ a d, l = [a, d] := by
  match l, h with
  | [a, d], _ => exact ⟨a, d, rfl⟩
theorem tl_pair {s : ByteArray} {n : Int} {a d : Tm} (hs : bsN s = [46]) : tl (.mk 3 s n [a, d]) = 44 :: (tx a ++ tl d) := by
  show tlO 3 (bsN s) n (wrs [a, d]) = _
  simp [tlO, wrs, dotO, hs, tx, tl]
theorem tl_end {s : ByteArray} {n : Int} (hs : bsN s = [91, 93]) : tl (.mk 3 s n []) = [93] := by
  show tlO 3 (bsN s) n (wrs []) = _
  simp [tlO, wrs, hs]
theorem tl_else {k : Int} {s : ByteArray} {n : Int} {l : List Tm} (h1 : ¬ (bsN s = [46] ∧ l.length = 2)) (h2 : ¬ (bsN s = [91, 93] ∧ l.length = 0)) : tl (.mk k s n l) = 124 :: (tx (.mk k s n l) ++ [93]) := by
  show tlO k (bsN s) n (wrs l) = 124 :: (txO k (bsN s) n (wrs l) ++ [93])
  unfold tlO
  rw [if_neg]
  · have hd : dotO (bsN s) (wrs l) = none := by
      rw [wrs_map]
      match l, h1 with
      | [], _ => rfl
      | [_], _ => rfl
      | [a, b], h1 =>
        simp only [List.map_cons, List.map_nil, dotO]
        rw [if_neg (fun e => h1 ⟨e, rfl⟩)]
      | _ :: _ :: _ :: _, _ => rfl
    rw [hd]
    split
    · rename_i x y h
      split at h <;> cases h
    · rfl
  · rintro ⟨_, e1, e2⟩
    refine h2 ⟨e1, ?_⟩
    rw [wrs_map] at e2
    simpa using e2
set_option maxRecDepth 100000 in
set_option maxHeartbeats 4000000 in
theorem plist_any {s : ByteArray} {n : Int} {a d : Tm} (hs : bsN s = [46]) (hf : a.fair = true ∧ d.fair = true) (ih : ∀ u : Tm, u.size < (Tm.mk 3 s n [a, d]).size → u.fair = true → PTm u)
    (b : Nat) (x : List UInt8) (w : World) (sv : Value) (hpr : Pr b x w) (hin : Tm.inn w b (.mk 3 s n [a, d]) sv) (hpw : Pow w) (hpg : 0 < b) (hlx : (x ++ tx (.mk 3 s n [a, d])).length ≤ 8000000000) :
    Calls Tryz.prog 31 #[.pointer (some ⟨b, 0, none⟩), .agg #[.int .i64 3, .string s, .int .i64 n, sv]] w fun e w' => e = .returned (.tuple #[]) ∧ Pr b (x ++ tx (.mk 3 s n [a, d])) w' ∧ PFr b w w' := by
  have hx : tx (.mk 3 s n [a, d]) = 91 :: (tx a ++ tl d) := by
    show txO 3 (bsN s) n (wrs [a, d]) = _
    simp [txO, wrs, dotO, hs, tx, tl]
  have hsz : a.size < (Tm.mk 3 s n [a, d]).size ∧ d.size < (Tm.mk 3 s n [a, d]).size := by simp only [Tm.size, Tm.sizes]; omega
  obtain ⟨N, hN⟩ : ∃ N, (Tm.mk 3 s n [a, d]).size = N := ⟨_, rfl⟩
  rw [hN] at ih hsz
  obtain ⟨Z, hZ⟩ : ∃ Z, x ++ tx (.mk 3 s n [a, d]) = Z := ⟨_, rfl⟩
  rw [hZ] at hlx ⊢
  have hZ2 : x ++ [91] ++ tx a ++ tl d = Z := by rw [← hZ, hx]; simp
  obtain ⟨_, g, cap, rfl, _⟩ := Tm.inn_iff.1 hin
  have HIH := Lib.hid ih
  have HZ := Lib.hid hZ2
  have hl1 : x.length + 1 + (tx a).length ≤ 8000000000 := by
    rw [← hZ2] at hlx
    simp only [List.length_append, List.length_cons, List.length_nil] at hlx
    omega
  have HS := Lib.hid (PS.new hpr hin hpw hpg)
  clear hin hx hpr hpw hN hZ hZ2 ih
  show Calls Tryz.prog 31 #[.pointer (some ⟨b, 0, none⟩), .agg #[.int .i64 3, .string s, .int .i64 n, .slice g 2 cap]] w _
  go_enter Tryz.func31, Tryz.ntmps31
  go_upto_region 1 with fail
  have HS1 := Lib.hid (show PS w b (.mk 3 s n [a, d]) (.slice g 2 cap) w.heap.size x (w.alloc (.cells #[.int .i64 3, .string s, .int .i64 n, .slice g 2 cap] 24)) from HS.out)
  clear HS
  generalize w.alloc (.cells #[.int .i64 3, .string s, .int .i64 n, .slice g 2 cap] 24) = v at HS1 ⊢
  have hbx := HS1.out.ne
  go_upto_region 2 with (go_at_call 26; (with_reducible refine (pbyte_k b x 91 91 rfl _ HS1.out.pr (by omega)).mono ?_); rintro e w2 ⟨rfl, hp2, hf2⟩; have HS2 := Lib.hid (HS1.out.next hp2 hf2); clear hp2 hf2)
  have hsl : Tm.sliceIn w2 b [a, d] (.slice g 2 cap) := (Tm.inn_mk.1 HS2.out.hi).2
  obtain ⟨ab, ao, gs, ms, cs, rfl, hab, g0, g1, g2, g3, hia⟩ := arg_at hsl 0 (by simp)
  have g0 : w2.cell? ⟨ab, ao, none⟩ = some (.int .i64 a.kind) := g0
  have g1 : w2.cell? ⟨ab, ao + 1, none⟩ = some (.string a.name) := by simpa using g1
  have g2 : w2.cell? ⟨ab, ao + 2, none⟩ = some (.int .i64 a.n) := by simpa using g2
  have g3 : w2.cell? ⟨ab, ao + 3, none⟩ = some (.slice gs ms cs) := by simpa using g3
  have c3 : w2.cell? ⟨w.heap.size, 3, none⟩ = some (.slice (some ⟨ab, ao, none⟩) 2 cap) := HS2.out.cells.2.2.2.1
  have hl := HS2.out.cells.2.2.2.2
  have HA := Lib.hid (HIH.out a hsz.1 hf.1 b (x ++ [91]) w2 _ HS2.out.pr hia HS2.out.pw hpg (by simp; omega))
  clear hsl hia
  go_upto_region 3 with (go_at_call 16; (with_reducible refine (HA.out).mono ?_); rintro e w3 ⟨rfl, hp3, hf3⟩; have HS3 := Lib.hid (HS2.out.next hp3 hf3); clear hp3 hf3)
  clear g0 g1 g2 g3 c3 hl
  have hsl : Tm.sliceIn w3 b [a, d] (.slice (some ⟨ab, ao, none⟩) 2 cap) := (Tm.inn_mk.1 HS3.out.hi).2
  obtain ⟨ab1, ao1, gs1, ms1, cs1, e1, hab1, g0, g1, g2, g3, hid⟩ := arg_at hsl 1 (by simp)
  obtain ⟨rfl, rfl⟩ : ab = ab1 ∧ ao = ao1 := by injection e1 with e1; injection e1 with e2 e3; exact ⟨e2, e3⟩
  have g0 : w3.cell? ⟨ab, ao + 4, none⟩ = some (.int .i64 d.kind) := by simpa using g0
  have g1 : w3.cell? ⟨ab, ao + 4 + 1, none⟩ = some (.string d.name) := by simpa using g1
  have g2 : w3.cell? ⟨ab, ao + 4 + 2, none⟩ = some (.int .i64 d.n) := by simpa using g2
  have g3 : w3.cell? ⟨ab, ao + 4 + 3, none⟩ = some (.slice gs1 ms1 cs1) := by simpa using g3
  have c0 : w3.cell? ⟨w.heap.size, 0, none⟩ = some (.int .i64 3) := HS3.out.cells.1
  have c1 : w3.cell? ⟨w.heap.size, 1, none⟩ = some (.string s) := HS3.out.cells.2.1
  have c2 : w3.cell? ⟨w.heap.size, 2, none⟩ = some (.int .i64 n) := HS3.out.cells.2.2.1
  have c3 : w3.cell? ⟨w.heap.size, 3, none⟩ = some (.slice (some ⟨ab, ao, none⟩) 2 cap) := HS3.out.cells.2.2.2.1
  have hl := HS3.out.cells.2.2.2.2
  have f0 : w3.frozen? ⟨w.heap.size, 0, none⟩ = false := Lib.frozen_of_heap HS3.out.bk 0
  have f1 : w3.frozen? ⟨w.heap.size, 1, none⟩ = false := Lib.frozen_of_heap HS3.out.bk 1
  have f2 : w3.frozen? ⟨w.heap.size, 2, none⟩ = false := Lib.frozen_of_heap HS3.out.bk 2
  have f3 : w3.frozen? ⟨w.heap.size, 3, none⟩ = false := Lib.frozen_of_heap HS3.out.bk 3
  have HS4 := Lib.hid (set4_put HS3.out (Nat.le_refl _) hid)
  clear hsl hid e1
  go_wp2_with fail
  go_loopw [] (fun wr => Hid (LsL w b w.heap.size Z N wr)) (fun wr => Z.length + 1 - plenW b wr)
  case atStart =>
    exact Lib.hid ⟨d, _, _, HS4.out, HZ.out, hf.2, hsz.2⟩
  case round =>
    clear c0 c1 c2 c3 hl f0 f1 f2 f3 g0 g1 g2 g3
    obtain ⟨u, svu, X, hps, hz, hfu, hsu⟩ := hrel.out
    clear hrel
    obtain ⟨k, s', n', l⟩ := u
    obtain ⟨_, gu, cu, rfl, _⟩ := Tm.inn_iff.1 hps.hi
    have c0 : wr.cell? ⟨w.heap.size, 0, none⟩ = some (.int .i64 k) := hps.cells.1
    have c1 : wr.cell? ⟨w.heap.size, 1, none⟩ = some (.string s') := hps.cells.2.1
    have c2 : wr.cell? ⟨w.heap.size, 2, none⟩ = some (.int .i64 n') := hps.cells.2.2.1
    have c3 : wr.cell? ⟨w.heap.size, 3, none⟩ = some (.slice gu l.length cu) := hps.cells.2.2.2.1
    have hl := hps.cells.2.2.2.2
    have hpw := plenW_pr hps.pr
    have HPL := Lib.hid hpw
    have HPS := Lib.hid hps
    have HZU := Lib.hid hz
    have HFU := Lib.hid hfu
    have HSU := Lib.hid hsu
    have hXZ : X.length + (tl (.mk k s' n' l)).length = Z.length := by rw [← hz]; simp
    have HXZ := Lib.hid hXZ
    clear hpw hps hz hfu hsu hXZ
    obtain ⟨q, hq⟩ : ∃ q, (decide (bsN s' = [46]) && decide (l.length = 2)) = q := ⟨_, rfl⟩
    have HI := Lib.hid (fun W => wpair_any k n' s' gu l.length cu q hq.symm W)
    cases q
    · have hnp : ¬ (bsN s' = [46] ∧ l.length = 2) := by simpa using hq
      obtain ⟨z, hz0⟩ : ∃ z, (decide (bsN s' = [91, 93]) && decide (l.length = 0)) = z := ⟨_, rfl⟩
      have HE := Lib.hid (fun W => wempty_any k n' s' gu l.length cu z hz0.symm W)
      cases z
      · have htl := tl_else (k := k) (n := n') hnp (by simpa using hz0)
        have HTL := Lib.hid htl
        have hlx : X.length + 1 + (tx (.mk k s' n' l)).length + 1 ≤ 8000000000 := by
          have h1 := HXZ.out
          rw [htl] at h1
          simp only [List.length_cons, List.length_append, List.length_nil] at h1
          omega
        clear htl hq hz0 hnp
        go_upto_region 8 with (go_at_call 30; (with_reducible refine (HI.out _).mono ?_); rintro e u1 ⟨rfl, hb⟩; have HQ1 := Lib.hid (HPS.out.quiet hb); have d0 : u1.cell? ⟨w.heap.size, 0, none⟩ = some (.int .i64 k) := HQ1.out.cells.1; have d1 : u1.cell? ⟨w.heap.size, 1, none⟩ = some (.string s') := HQ1.out.cells.2.1; have d2 : u1.cell? ⟨w.heap.size, 2, none⟩ = some (.int .i64 n') := HQ1.out.cells.2.2.1; have d3 : u1.cell? ⟨w.heap.size, 3, none⟩ = some (.slice gu l.length cu) := HQ1.out.cells.2.2.2.1; have dl := HQ1.out.cells.2.2.2.2; clear hb)
        clear c0 c1 c2 c3 hl
        go_upto_region 9 with (go_at_call 43; (with_reducible refine (HE.out _).mono ?_); rintro e u2 ⟨rfl, hb⟩; have HQ2 := Lib.hid (HQ1.out.quiet hb); clear d0 d1 d2 d3 dl; have d0 : u2.cell? ⟨w.heap.size, 0, none⟩ = some (.int .i64 k) := HQ2.out.cells.1; have d1 : u2.cell? ⟨w.heap.size, 1, none⟩ = some (.string s') := HQ2.out.cells.2.1; have d2 : u2.cell? ⟨w.heap.size, 2, none⟩ = some (.int .i64 n') := HQ2.out.cells.2.2.1; have d3 : u2.cell? ⟨w.heap.size, 3, none⟩ = some (.slice gu l.length cu) := HQ2.out.cells.2.2.2.1; have dl := HQ2.out.cells.2.2.2.2; clear hb)
        go_upto_region 10 with (go_at_call 26; (with_reducible refine (pbyte_k b X 124 124 rfl _ HQ2.out.pr (by omega)).mono ?_); rintro e u3 ⟨rfl, hp, hf⟩; have HQ3 := Lib.hid (HQ2.out.next hp hf); clear d0 d1 d2 d3 dl; have d0 : u3.cell? ⟨w.heap.size, 0, none⟩ = some (.int .i64 k) := HQ3.out.cells.1; have d1 : u3.cell? ⟨w.heap.size, 1, none⟩ = some (.string s') := HQ3.out.cells.2.1; have d2 : u3.cell? ⟨w.heap.size, 2, none⟩ = some (.int .i64 n') := HQ3.out.cells.2.2.1; have d3 : u3.cell? ⟨w.heap.size, 3, none⟩ = some (.slice gu l.length cu) := HQ3.out.cells.2.2.2.1; have dl := HQ3.out.cells.2.2.2.2; clear hp hf)
        have HA := Lib.hid (HIH.out (.mk k s' n' l) HSU.out HFU.out b (X ++ [124]) u3 _ HQ3.out.pr HQ3.out.hi HQ3.out.pw hpg (by simp; omega))
        have HA2 := Lib.hid (show Calls Tryz.prog 16 #[.pointer (some ⟨b, 0, none⟩), .agg #[.int .i64 k, .string s', .int .i64 n', .slice gu l.length cu]] u3 _ from HA.out)
        go_upto_region 11 with (go_at_call 16; (with_reducible refine (HA2.out).mono ?_); rintro e u4 ⟨rfl, hp, hf⟩; have HQ4 := Lib.hid (HQ3.out.next hp hf); clear hp hf)
        have hl4 : (X ++ [124] ++ tx (.mk k s' n' l)).length ≤ 8000000000 := by simp only [List.length_append, List.length_cons, List.length_nil]; omega
        go_wp2_with (go_at_call 26; (with_reducible refine (pbyte_k b _ 93 93 rfl _ HQ4.out.pr (by omega)).mono ?_); rintro e u5 ⟨rfl, hp, hf⟩; have HQ5 := Lib.hid (HQ4.out.next hp hf); clear hp hf)
        go_end0
        refine ⟨rfl, ?_, HQ5.out.fr⟩
        have h9 := HQ5.out.pr
        have e9 : X ++ [124] ++ tx (.mk k s' n' l) ++ [93] = Z := by rw [← HZU.out, HTL.out]; simp
        rw [e9] at h9
        exact h9
      · have hz1 : bsN s' = [91, 93] ∧ l.length = 0 := by simpa using hz0
        obtain rfl : l = [] := List.eq_nil_of_length_eq_zero hz1.2
        obtain rfl := fair_kind3 HFU.out (by rw [hz1.1]; simp)
        have HI := Lib.hid (fun W => wpair_any 3 n' s' gu 0 cu false (by simp) W)
        have HE := Lib.hid (fun W => wempty_any 3 n' s' gu 0 cu true (by simp [hz1.1]) W)
        have c3 : wr.cell? ⟨w.heap.size, 3, none⟩ = some (.slice gu 0 cu) := c3
        have htl := tl_end (n := n') hz1.1
        have HTL := Lib.hid htl
        have hlx : X.length + 1 ≤ 8000000000 := by
          have h1 := HXZ.out
          rw [htl] at h1
          simp only [List.length_cons, List.length_nil] at h1
          omega
        clear htl hq hz0 hnp hz1
        go_upto_region 8 with (go_at_call 30; (with_reducible refine (HI.out _).mono ?_); rintro e u1 ⟨rfl, hb⟩; have HQ1 := Lib.hid (HPS.out.quiet hb); have d0 : u1.cell? ⟨w.heap.size, 0, none⟩ = some (.int .i64 3) := HQ1.out.cells.1; have d1 : u1.cell? ⟨w.heap.size, 1, none⟩ = some (.string s') := HQ1.out.cells.2.1; have d2 : u1.cell? ⟨w.heap.size, 2, none⟩ = some (.int .i64 n') := HQ1.out.cells.2.2.1; have d3 : u1.cell? ⟨w.heap.size, 3, none⟩ = some (.slice gu 0 cu) := HQ1.out.cells.2.2.2.1; have dl := HQ1.out.cells.2.2.2.2; clear hb)
        clear c0 c1 c2 c3 hl
        go_upto_region 11 with (go_at_call 43; (with_reducible refine (HE.out _).mono ?_); rintro e u2 ⟨rfl, hb⟩; have HQ2 := Lib.hid (HQ1.out.quiet hb); clear d0 d1 d2 d3 dl; have d0 : u2.cell? ⟨w.heap.size, 0, none⟩ = some (.int .i64 3) := HQ2.out.cells.1; have d1 : u2.cell? ⟨w.heap.size, 1, none⟩ = some (.string s') := HQ2.out.cells.2.1; have d2 : u2.cell? ⟨w.heap.size, 2, none⟩ = some (.int .i64 n') := HQ2.out.cells.2.2.1; have d3 : u2.cell? ⟨w.heap.size, 3, none⟩ = some (.slice gu 0 cu) := HQ2.out.cells.2.2.2.1; have dl := HQ2.out.cells.2.2.2.2; clear hb)
        go_wp2_with (go_at_call 26; (with_reducible refine (pbyte_k b _ 93 93 rfl _ HQ2.out.pr (by omega)).mono ?_); rintro e u5 ⟨rfl, hp, hf⟩; have HQ5 := Lib.hid (HQ2.out.next hp hf); clear hp hf)
        go_end0
        refine ⟨rfl, ?_, HQ5.out.fr⟩
        have h9 := HQ5.out.pr
        have e9 : X ++ [93] = Z := by rw [← HZU.out, HTL.out]
        rw [e9] at h9
        exact h9
    · have hpp : bsN s' = [46] ∧ l.length = 2 := by simpa using hq
      obtain ⟨hs', hl2⟩ := hpp
      obtain ⟨a', d', rfl⟩ := two_of hl2
      obtain rfl := fair_kind3 HFU.out (by rw [hs']; simp)
      have HI := Lib.hid (fun W => wpair_any 3 n' s' gu 2 cu true (by simp [hs']) W)
      have c3 : wr.cell? ⟨w.heap.size, 3, none⟩ = some (.slice gu 2 cu) := c3
      have htl := tl_pair (n := n') (a := a') (d := d') hs'
      have HTL := Lib.hid htl
      have hlx : X.length + 1 + (tx a').length + (tl d').length ≤ 8000000000 := by
        have h1 := HXZ.out
        rw [htl] at h1
        simp only [List.length_cons, List.length_append] at h1
        omega
      have hsz9 : a'.size < N ∧ d'.size < N := by
        have h1 := HSU.out
        simp only [Tm.size, Tm.sizes] at h1
        omega
      have HFA := Lib.hid (fair_args HFU.out)
      clear htl hq hl2
      go_upto_region 5 with (go_at_call 30; (with_reducible refine (HI.out _).mono ?_); rintro e u1 ⟨rfl, hb⟩; have HQ1 := Lib.hid (HPS.out.quiet hb); have d0 : u1.cell? ⟨w.heap.size, 0, none⟩ = some (.int .i64 3) := HQ1.out.cells.1; have d1 : u1.cell? ⟨w.heap.size, 1, none⟩ = some (.string s') := HQ1.out.cells.2.1; have d2 : u1.cell? ⟨w.heap.size, 2, none⟩ = some (.int .i64 n') := HQ1.out.cells.2.2.1; have d3 : u1.cell? ⟨w.heap.size, 3, none⟩ = some (.slice gu 2 cu) := HQ1.out.cells.2.2.2.1; have dl := HQ1.out.cells.2.2.2.2; clear hb)
      clear c0 c1 c2 c3 hl
      go_upto_region 6 with (go_at_call 26; (with_reducible refine (pbyte_k b X 44 44 rfl _ HQ1.out.pr (by omega)).mono ?_); rintro e u3 ⟨rfl, hp, hf⟩; have HQ3 := Lib.hid (HQ1.out.next hp hf); have d0 : u3.cell? ⟨w.heap.size, 0, none⟩ = some (.int .i64 3) := HQ3.out.cells.1; have d1 : u3.cell? ⟨w.heap.size, 1, none⟩ = some (.string s') := HQ3.out.cells.2.1; have d2 : u3.cell? ⟨w.heap.size, 2, none⟩ = some (.int .i64 n') := HQ3.out.cells.2.2.1; have d3 : u3.cell? ⟨w.heap.size, 3, none⟩ = some (.slice gu 2 cu) := HQ3.out.cells.2.2.2.1; have dl := HQ3.out.cells.2.2.2.2; clear hp hf)
      have hsl : Tm.sliceIn u3 b [a', d'] (.slice gu 2 cu) := (Tm.inn_mk.1 HQ3.out.hi).2
      obtain ⟨ab2, ao2, gs2, ms2, cs2, rfl, hab2, g0, g1, g2, g3, hia⟩ := arg_at hsl 0 (by simp)
      have g0 : u3.cell? ⟨ab2, ao2, none⟩ = some (.int .i64 a'.kind) := g0
      have g1 : u3.cell? ⟨ab2, ao2 + 1, none⟩ = some (.string a'.name) := by simpa using g1
      have g2 : u3.cell? ⟨ab2, ao2 + 2, none⟩ = some (.int .i64 a'.n) := by simpa using g2
      have g3 : u3.cell? ⟨ab2, ao2 + 3, none⟩ = some (.slice gs2 ms2 cs2) := by simpa using g3
      have HA := Lib.hid (HIH.out a' hsz9.1 (HFA.out a' (by simp)) b (X ++ [44]) u3 _ HQ3.out.pr hia HQ3.out.pw hpg (by simp; omega))
      clear hsl hia
      go_upto_region 7 with (go_at_call 16; (with_reducible refine (HA.out).mono ?_); rintro e u4 ⟨rfl, hp, hf⟩; have HQ4 := Lib.hid (HQ3.out.next hp hf); clear d0 d1 d2 d3 dl; have d0 : u4.cell? ⟨w.heap.size, 0, none⟩ = some (.int .i64 3) := HQ4.out.cells.1; have d1 : u4.cell? ⟨w.heap.size, 1, none⟩ = some (.string s') := HQ4.out.cells.2.1; have d2 : u4.cell? ⟨w.heap.size, 2, none⟩ = some (.int .i64 n') := HQ4.out.cells.2.2.1; have d3 : u4.cell? ⟨w.heap.size, 3, none⟩ = some (.slice (some ⟨ab2, ao2, none⟩) 2 cu) := HQ4.out.cells.2.2.2.1; have dl := HQ4.out.cells.2.2.2.2; clear hp hf)
      clear g0 g1 g2 g3
      have hsl : Tm.sliceIn u4 b [a', d'] (.slice (some ⟨ab2, ao2, none⟩) 2 cu) := (Tm.inn_mk.1 HQ4.out.hi).2
      obtain ⟨ab3, ao3, gs3, ms3, cs3, e3, hab3, g0, g1, g2, g3, hid⟩ := arg_at hsl 1 (by simp)
      obtain ⟨rfl, rfl⟩ : ab2 = ab3 ∧ ao2 = ao3 := by injection e3 with e3; injection e3 with e2 e3; exact ⟨e2, e3⟩
      have g0 : u4.cell? ⟨ab2, ao2 + 4, none⟩ = some (.int .i64 d'.kind) := by simpa using g0
      have g1 : u4.cell? ⟨ab2, ao2 + 4 + 1, none⟩ = some (.string d'.name) := by simpa using g1
      have g2 : u4.cell? ⟨ab2, ao2 + 4 + 2, none⟩ = some (.int .i64 d'.n) := by simpa using g2
      have g3 : u4.cell? ⟨ab2, ao2 + 4 + 3, none⟩ = some (.slice gs3 ms3 cs3) := by simpa using g3
      have f0 : u4.frozen? ⟨w.heap.size, 0, none⟩ = false := Lib.frozen_of_heap HQ4.out.bk 0
      have f1 : u4.frozen? ⟨w.heap.size, 1, none⟩ = false := Lib.frozen_of_heap HQ4.out.bk 1
      have f2 : u4.frozen? ⟨w.heap.size, 2, none⟩ = false := Lib.frozen_of_heap HQ4.out.bk 2
      have f3 : u4.frozen? ⟨w.heap.size, 3, none⟩ = false := Lib.frozen_of_heap HQ4.out.bk 3
      have HQ5 := Lib.hid (set4_put (d := d') HQ4.out (Nat.le_refl _) (show Tm.inn u4 b d' _ from hid))
      clear hsl hid e3
      go_wp2_with fail
      have HL5 := Lib.hid (plenW_pr HQ5.out.pr)
      go_roundw
      case rel => exact Lib.hid ⟨d', _, _, HQ5.out, by rw [← HZU.out, HTL.out]; simp, HFA.out d' (by simp), hsz9.2⟩
      case measure =>
        have h1 := HL5.out
        have h2 := HPL.out
        have h3 := HXZ.out
        rw [h1, h2]
        simp only [List.length_append, List.length_cons, List.length_nil]
        omega
end Go.Proofs.YtliapkajonbndaaGreatDoor
