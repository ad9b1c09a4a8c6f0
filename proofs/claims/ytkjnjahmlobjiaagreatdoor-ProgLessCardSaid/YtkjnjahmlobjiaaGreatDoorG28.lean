/-
  The two Clauses, whatever text; the program's One.
  Where errors are told, how much is read.
  Is each Call there, and what is amiss first: step by step, as loops tell it. Pure.
  What the program loads, and the clause of a query, purely.
-/
import Derived.Test.YtkjnjahmlobjiaaGreatDoorG23
import Derived.Test.YtkjnjahmlobjiaaGreatDoorPrW
import Derived.Test.YtkjnjahmlobjiaaGreatDoorG02
import Derived.Test.YtkjnjahmlobjiaaGreatDoorG05
namespace Go.Proofs.YtkjnjahmlobjiaaGreatDoor
open Go.RowKit

theorem clauses_all (s : ByteArray) (w : World) (hr : Rng w) (hs : s.size ≤ 1000000) : Calls Tryz.prog 28 #[.string s] w fun e w' => ClsPost w (bs s) e w' :=
  clauses_p s w hr hs (fun _ h h2 => good_of h h2)
/-- The only clause of a text. -/
def oneE (S : List UInt8) : Except (Nat × Nat) Cl :=
  match readE S with
  | .error e => .error e
  | .ok [c] => .ok c
  | .ok _ => .error (2, S.length)
def OnlyPost (w : World) (S : List UInt8) (e : Ending) (w' : World) : Prop :=
  Below w.heap.size w w' ∧ ∃ k nm n g m c gn mn cn b cd, e = .returned (.tuple #[.agg #[.int .i64 k, .string nm, .int .i64 n, .slice g m c, .slice gn mn cn], .int .i64 (b : Nat), .int .i64 (cd : Nat)]) ∧
    (match oneE S with
      | .error (q, pl) => (q = 2 ∨ q = 3) ∧ cd = q ∧ b = pl ∧ k = 0 ∧ nm = ⟨#[]⟩ ∧ n = 0 ∧ g = none ∧ m = 0 ∧ c = 0 ∧ gn = none ∧ mn = 0 ∧ cn = 0
      | .ok (t, ns) => cd = 0 ∧ b = 0 ∧ k = t.kind ∧ nm = t.name ∧ n = t.n ∧ Tm.inn w' w'.heap.size t (.slice g m c) ∧ namesP w' (fun x => x < w'.heap.size) ns (.slice gn mn cn))
set_option maxRecDepth 100000 in
set_option maxHeartbeats 8000000 in
theorem one_p (s : ByteArray) (w : World) (hr : Rng w) (hs : s.size ≤ 1000000) : Calls Tryz.prog 30 #[.string s] w fun e w' => OnlyPost w (bs s) e w' := by
  have hbs := bs_length s
  have HC := fun w1 (hr1 : Rng w1) => Lib.hid (clauses_all s w1 hr1 hs)
  have HR := Lib.hid hr
  clear hr
  go_enter Tryz.func30, Tryz.ntmps30
  go_upto_region 1 with fail
  have hb0 : Below w.heap.size w (w.alloc (.cells #[.int .i64 0, .string ⟨#[]⟩, .int .i64 0, .slice none 0 0, .slice none 0 0] 67)) := (Below.refl _ _).alloc (Nat.le_refl _) _
  have HZ := Lib.hid (newBlk w (.cells #[.int .i64 0, .string ⟨#[]⟩, .int .i64 0, .slice none 0 0, .slice none 0 0] 67) w.heap.size rfl)
  have hzl : w.heap.size < (w.alloc (.cells #[.int .i64 0, .string ⟨#[]⟩, .int .i64 0, .slice none 0 0, .slice none 0 0] 67)).heap.size := by simp
  have HR1 := Lib.hid (HR.out.next hb0)
  obtain ⟨w1, hw1⟩ : ∃ w1, w.alloc (.cells #[.int .i64 0, .string ⟨#[]⟩, .int .i64 0, .slice none 0 0, .slice none 0 0] 67) = w1 := ⟨_, rfl⟩
  rw [hw1] at hb0 HZ hzl HR1 ⊢
  clear hw1
  have HB0 := Lib.hid hb0
  have HC1 := HC w1 HR1.out
  clear hb0 HC
  go_upto_region 2 with (go_at_call 28; (with_reducible refine (HC1.out).mono ?_); rintro e w2 ⟨hb, l, sv, b, cd, rfl, hl, hcd3, hp⟩; have HB2 := Lib.hid (HB0.out.trans (hb.mono HB0.out.size)); have HZ2 := Lib.hid ((hb.block _ hzl).trans HZ.out); have hz2 : w.heap.size < w2.heap.size := Nat.lt_of_lt_of_le hzl hb.size; have HL := Lib.hid hl; have HP := Lib.hid hp; clear hb hl hp)
  obtain ⟨⟨a0, a1, a2, a3, a4⟩, af0, af1, af2, af3, af4⟩ := row5f HZ2.out
  cases hrd : readE (bs s) with
  | error q =>
    obtain ⟨k9, pl⟩ := q
    have h0 := HP.out
    rw [hrd] at h0
    obtain ⟨h1, h2, h3, h4⟩ := h0
    subst h2 h3
    have hone : oneE (bs s) = .error (cd, b) := by unfold oneE; rw [hrd]
    have kd : ((cd : Int) == 0) = false := by rw [beq_eq_false_iff_ne]; omega
    have kd2 : ((cd : Int) != 0) = true := by simp [bne, kd]
    have HO := Lib.hid hone
    clear hrd h4 hone
    go_wp2_with fail
    have hz := set5_blk HZ2.out 0 ⟨#[]⟩ 0 (.slice none 0 0) (.slice none 0 0)
    have hf := FrP.put5 w2 w.heap.size 0 ⟨#[]⟩ 0 (.slice none 0 0) (.slice none 0 0)
    change bodyPost _ _ _ _ _ (set5 w2 w.heap.size 0 ⟨#[]⟩ 0 (.slice none 0 0) (.slice none 0 0))
    obtain ⟨V', hV'⟩ : ∃ V', set5 w2 w.heap.size 0 ⟨#[]⟩ 0 (.slice none 0 0) (.slice none 0 0) = V' := ⟨_, rfl⟩
    rw [hV'] at hz hf ⊢
    obtain ⟨⟨z0, z1, z2, z3, z4⟩, -⟩ := row5f hz
    clear hV' hz a0 a1 a2 a3 a4 af0 af1 af2 af3 af4
    refine bodyPost_ret (v := .tuple #[.agg #[.int .i64 0, .string ⟨#[]⟩, .int .i64 0, .slice none 0 0, .slice none 0 0], .int .i64 (b : Nat), .int .i64 (cd : Nat)]) (by simp [results, Tryz.results30, go_sem, z0, z1, z2, z3, z4]) rfl ?_
    exact ⟨HB2.out.trans ((hf.mono (Q := fun x => w.heap.size ≤ x) (fun x _ e => by omega)).to_below HB2.out.size), 0, ⟨#[]⟩, 0, none, 0, 0, none, 0, 0, b, cd, rfl, by rw [HO.out]; exact ⟨h1, rfl, rfl, rfl, rfl, rfl, rfl, rfl, rfl, rfl, rfl, rfl⟩⟩
  | ok l' =>
    have h0 := HP.out
    rw [hrd] at h0
    obtain ⟨h1, h2, h3⟩ := h0
    subst h1 h2 h3
    obtain ⟨g9, cap9, hsv, hrow⟩ := HL.out
    subst hsv
    by_cases h1 : l.length = 1
    · obtain ⟨⟨t, ns⟩, rfl⟩ : ∃ c, l = [c] := List.length_eq_one_iff.1 h1
      have hone : oneE (bs s) = .ok (t, ns) := by unfold oneE; rw [hrd]
      rcases hrow with h | ⟨rbk, off, xs, rfl, hlo, hrb, hcl, hce⟩
      · cases h
      obtain ⟨sv, nv, ys, rfl, hin, hnm, hys⟩ := hcl
      have hys : ys = [] := hys
      subst hys
      obtain ⟨g, m, c, hsv⟩ : ∃ g m c, sv = .slice g m c := by
        have := Tm.inn_of_P (B := w2.heap.size) (fun b hb => hb.2) t sv hin
        obtain ⟨_, g, cap, e, _⟩ := Tm.inn_iff.1 this
        exact ⟨_, _, _, e⟩
      subst hsv
      obtain ⟨gn, cn, hnv, -⟩ := id hnm
      subst hnv
      have c0 := hce 0 _ rfl
      have c1 := hce 1 _ rfl
      have c2 := hce 2 _ rfl
      have c3 := hce 3 _ rfl
      have c4 := hce 4 _ rfl
      rw [Nat.add_zero] at c0
      have HIN := Lib.hid hin
      have HNM := Lib.hid hnm
      have HO := Lib.hid hone
      clear hrd hce hin hnm hone h1
      go_wp2_with fail
      have hz := set5_blk HZ2.out t.kind t.name t.n (.slice g m c) (.slice gn ns.length cn)
      have hf := FrP.put5 w2 w.heap.size t.kind t.name t.n (.slice g m c) (.slice gn ns.length cn)
      change bodyPost _ _ _ _ _ (set5 w2 w.heap.size t.kind t.name t.n (.slice g m c) (.slice gn ns.length cn))
      obtain ⟨V', hV'⟩ : ∃ V', set5 w2 w.heap.size t.kind t.name t.n (.slice g m c) (.slice gn ns.length cn) = V' := ⟨_, rfl⟩
      rw [hV'] at hz hf ⊢
      obtain ⟨⟨z0, z1, z2, z3, z4⟩, -⟩ := row5f hz
      have hcell : ∀ b o u, (w1.heap.size ≤ b ∧ b < w2.heap.size) → w2.cell? ⟨b, o, none⟩ = some u → V'.cell? ⟨b, o, none⟩ = some u := fun b o u hb hu => hf.cell hu (by omega)
      have hin' := Tm.innP_same (ok' := fun b => b < V'.heap.size) (fun b hb => Nat.lt_of_lt_of_le hb.2 hf.size) hcell t _ HIN.out
      have hnm' := namesP_same (ok' := fun b => b < V'.heap.size) (fun b hb => Nat.lt_of_lt_of_le hb.2 hf.size) hcell HNM.out
      have HF : Hid (OnlyPost w (bs s) (.returned (.tuple #[.agg #[.int .i64 t.kind, .string t.name, .int .i64 t.n, .slice g m c, .slice gn ns.length cn], .int .i64 (0 : Nat), .int .i64 (0 : Nat)])) V') := Lib.hid ⟨HB2.out.trans ((hf.mono (Q := fun x => w.heap.size ≤ x) (fun x _ e => by omega)).to_below HB2.out.size), t.kind, t.name, t.n, g, m, c, gn, ns.length, cn, 0, 0, rfl, by rw [HO.out]; exact ⟨rfl, rfl, rfl, rfl, rfl, Tm.inn_of_P (fun b hb => hb) t _ hin', hnm'⟩⟩
      clear hV' hz hf hcell hin' hnm' a0 a1 a2 a3 a4 af0 af1 af2 af3 af4 c0 c1 c2 c3 c4
      refine bodyPost_ret (v := .tuple #[.agg #[.int .i64 t.kind, .string t.name, .int .i64 t.n, .slice g m c, .slice gn ns.length cn], .int .i64 0, .int .i64 0]) (by simp [results, Tryz.results30, go_sem, z0, z1, z2, z3, z4]) rfl ?_
      exact HF.out
    · have hone : oneE (bs s) = .error (2, s.size) := by
        unfold oneE
        rw [hrd, ← hbs]
        cases l with
        | nil => rfl
        | cons x r =>
          cases r with
          | nil => exact absurd rfl h1
          | cons y q => rfl
      have HO := Lib.hid hone
      have k1 : ((l.length : Int) == 1) = false := by rw [beq_eq_false_iff_ne]; omega
      have k2 : ((l.length : Int) != 1) = true := by simp [bne, k1]
      clear hrd hone hrow h1
      go_wp2_with fail
      have hz := set5_blk HZ2.out 0 ⟨#[]⟩ 0 (.slice none 0 0) (.slice none 0 0)
      have hf := FrP.put5 w2 w.heap.size 0 ⟨#[]⟩ 0 (.slice none 0 0) (.slice none 0 0)
      change bodyPost _ _ _ _ _ (set5 w2 w.heap.size 0 ⟨#[]⟩ 0 (.slice none 0 0) (.slice none 0 0))
      obtain ⟨V', hV'⟩ : ∃ V', set5 w2 w.heap.size 0 ⟨#[]⟩ 0 (.slice none 0 0) (.slice none 0 0) = V' := ⟨_, rfl⟩
      rw [hV'] at hz hf ⊢
      obtain ⟨⟨z0, z1, z2, z3, z4⟩, -⟩ := row5f hz
      clear hV' hz a0 a1 a2 a3 a4 af0 af1 af2 af3 af4
      refine bodyPost_ret (v := .tuple #[.agg #[.int .i64 0, .string ⟨#[]⟩, .int .i64 0, .slice none 0 0, .slice none 0 0], .int .i64 (s.size : Nat), .int .i64 (2 : Nat)]) (by simp [results, Tryz.results30, go_sem, z0, z1, z2, z3, z4]) rfl ?_
      exact ⟨HB2.out.trans ((hf.mono (Q := fun x => w.heap.size ≤ x) (fun x _ e => by omega)).to_below HB2.out.size), 0, ⟨#[]⟩, 0, none, 0, 0, none, 0, 0, s.size, 2, rfl, by rw [HO.out]; exact ⟨.inl rfl, rfl, rfl, rfl, rfl, rfl, rfl, rfl, rfl, rfl, rfl, rfl⟩⟩
end Go.Proofs.YtkjnjahmlobjiaaGreatDoor

namespace Go.Proofs.YtkjnjahmlobjiaaGreatDoor
open Go.RowKit

theorem cl_names {S : List UInt8} {ts r : Toks} {t : Tm} {ns : Names} (h : clE S ts = .ok (t, r, ns)) : ns.length ≤ ts.length := by
  unfold clE at h
  cases hr : rdTerm S FF 1200 0 ts [] with
  | error e => rw [hr] at h; cases h
  | ok p =>
    obtain ⟨u, r1, n1⟩ := p
    rw [hr] at h
    dsimp only at h
    split at h
    · injection h with h; injection h with h0 h; injection h with h1 h2; subst h0 h1 h2
      have := ((rd_went S FF).2.1 _ _ _ _ _ _ _ hr).nms
      simp only [List.length_nil] at this
      omega
    · cases h
theorem cls_len {S : List UInt8} : ∀ (f : Nat) (ts : Toks) (l : List Cl), clsE S f ts = .ok l → l.length ≤ ts.length ∧ ∀ c ∈ l, c.1.right = true ∧ c.2.length ≤ ts.length
  | 0, _, _, h => by rw [clsE] at h; cases h
  | _ + 1, [], l, h => by
    rw [clsE] at h
    injection h with h
    subst h
    simp
  | f + 1, x :: r, l, h => by
    rw [clsE] at h
    cases hc : clE S (x :: r) with
    | error e => rw [hc] at h; cases h
    | ok p =>
      obtain ⟨t, r', ns⟩ := p
      rw [hc] at h
      dsimp only at h
      by_cases hr : t.right = true
      · rw [if_pos hr] at h
        cases hq : clsE S f r' with
        | error e => rw [hq] at h; cases h
        | ok q =>
          rw [hq] at h
          injection h with h
          subst h
          obtain ⟨h1, h2⟩ := cls_len f r' q hq
          have h3 := (cl_went hc).1
          refine ⟨by simp only [List.length_cons] at h3 ⊢; omega, fun c hm => ?_⟩
          rcases List.mem_cons.1 hm with rfl | hm
          · exact ⟨hr, cl_names hc⟩
          · exact ⟨(h2 c hm).1, by have := (h2 c hm).2; omega⟩
      · rw [if_neg hr] at h
        cases h
theorem read_len {S : List UInt8} {l : List Cl} (h : readE S = .ok l) : l.length ≤ 8000 ∧ ∀ c ∈ l, c.1.right = true ∧ c.2.length ≤ 8000 := by
  unfold readE at h
  split at h
  · cases h
  · split at h
    · cases h
    · rename_i ts hl
      have h1 := lex_len _ S false 0 ts (Nat.le_refl _) hl
      obtain ⟨h2, h3⟩ := cls_len _ _ _ h
      exact ⟨by omega, fun c hc => ⟨(h3 c hc).1, by have := (h3 c hc).2; omega⟩⟩
/-! ### the contracts, for each way -/
/-- A clause at its place. -/
theorem clcP_at {w : World} {ok : Nat → Prop} : ∀ {l : List Cl} {xs : List Value}, clcP w ok l xs → ∀ (i : Nat) (h : i < l.length), ∃ sv nv, xs[i * 5]? = some (.int .i64 l[i].1.kind) ∧ xs[i * 5 + 1]? = some (.string l[i].1.name) ∧ xs[i * 5 + 2]? = some (.int .i64 l[i].1.n) ∧ xs[i * 5 + 3]? = some sv ∧ xs[i * 5 + 4]? = some nv ∧ Tm.innP w ok l[i].1 sv ∧ namesP w ok l[i].2 nv
  | [], _, _, i, h => absurd h (Nat.not_lt_zero _)
  | (t, ns) :: l, _, ⟨sv, nv, ys, e, h1, h2, h3⟩, i, hi => by
    subst e
    cases i with
    | zero => exact ⟨sv, nv, rfl, rfl, rfl, rfl, rfl, h1, h2⟩
    | succ i =>
      obtain ⟨sv', nv', g0, g1, g2, g3, g4, g5, g6⟩ := clcP_at h3 i (by simpa using hi)
      refine ⟨sv', nv', ?_, ?_, ?_, ?_, ?_, g5, g6⟩
      · rw [show (i + 1) * 5 = i * 5 + 5 by omega]; exact g0
      · rw [show (i + 1) * 5 + 1 = i * 5 + 1 + 5 by omega]; exact g1
      · rw [show (i + 1) * 5 + 2 = i * 5 + 2 + 5 by omega]; exact g2
      · rw [show (i + 1) * 5 + 3 = i * 5 + 3 + 5 by omega]; exact g3
      · rw [show (i + 1) * 5 + 4 = i * 5 + 4 + 5 by omega]; exact g4
end Go.Proofs.YtkjnjahmlobjiaaGreatDoor

namespace Go.Proofs.YtkjnjahmlobjiaaGreatDoor

theorem thG_is (p : List Pc) (g : Gl) : thG p g = ((decide (g.kind ≠ 1) || hasP p g.t) && (thL p g.a && (thL p g.b && thL p g.c))) := by
  cases g
  rw [thG]
  rfl
theorem thL_step {p : List Pc} {l : List Gl} {k : Nat} (h : k < l.length) : thL p (l.take (k + 1)) = (thL p (l.take k) && thG p l[k]) := by
  rw [List.take_succ_eq_append_getElem h, thL_all, thL_all, List.all_append]
  simp only [List.all_cons, List.all_nil, Bool.and_true]
theorem thL_bad {p : List Pc} {l : List Gl} {g : Gl} (hg : g ∈ l) (h : thG p g = false) : thL p l = false := by
  rw [thL_all, List.all_eq_false]
  exact ⟨g, hg, by rw [h]; exact Bool.false_ne_true⟩
theorem findNo_hit {α : Type} {f : α → Bool} : ∀ {l : List α} {k : Nat} (i : Nat) (hk : k < l.length), (∀ j (hj : j < k), f (l[j]'(by omega)) = true) → f l[k] = false → findNo f l i = some (i + k)
  | x :: r, 0, i, _, _, h => by
    rw [findNo, if_neg (by rw [show f x = false from h]; exact Bool.false_ne_true)]
    rfl
  | x :: r, k + 1, i, hk, ha, h => by
    have h0 : f x = true := ha 0 (by omega)
    rw [findNo, if_pos h0]
    have hk' : k < r.length := by simpa using hk
    have := findNo_hit (f := f) (l := r) (k := k) (i + 1) hk' (fun j hj => by
      have := ha (j + 1) (by omega)
      simpa using this) (by simpa using h)
    rw [this]
    congr 1
    omega
theorem findNo_none {α : Type} {f : α → Bool} : ∀ {l : List α} (i : Nat), (∀ j (hj : j < l.length), f l[j] = true) → findNo f l i = none
  | [], _, _ => rfl
  | x :: r, i, ha => by
    have h0 : f x = true := ha 0 (by simp)
    rw [findNo, if_pos h0]
    exact findNo_none (i + 1) (fun j hj => by
      have := ha (j + 1) (by simpa using hj)
      simpa using this)
end Go.Proofs.YtkjnjahmlobjiaaGreatDoor

namespace Go.Proofs.YtkjnjahmlobjiaaGreatDoor

def headOf (x : Tm) : Tm := if isB x [58, 45] 2 = true then argN x 0 else x
def bodyOf (x : Tm) : Tm := if isB x [58, 45] 2 = true then argN x 1 else trueT
/-- The clause of a text's clause, or the error. -/
def clauseE (x : Cl) : Except Nat Pc :=
  if ownB (headOf x.1) = false then .error 5
  else match goalsE (bodyOf x.1) with
    | .error q => .error q
    | .ok l => .ok ⟨headOf x.1, l, (x.2.length : Nat)⟩
/-- Those of all. -/
def progE : List Cl → Nat → Except (Nat × Nat) (List Pc)
  | [], _ => .ok []
  | x :: r, i => match clauseE x with
    | .error q => .error (q, i)
    | .ok c => match progE r (i + 1) with
      | .error e => .error e
      | .ok l => .ok (c :: l)
/-- The program of a text, or the error and its place. -/
def loadE (S : List UInt8) : Except (Nat × Nat) (List Pc) :=
  match readE S with
  | .error e => .error e
  | .ok l => match progE l 0 with
    | .error e => .error e
    | .ok p => if (checkB p).2 = 0 then .ok p else .error ((checkB p).2, (checkB p).1)
def accG (acc : List Pc) : Except (Nat × Nat) (List Pc) → Except (Nat × Nat) (List Pc)
  | .error e => .error e
  | .ok l => .ok (acc ++ l)
theorem accG_nil (r : Except (Nat × Nat) (List Pc)) : accG [] r = r := by cases r <;> rfl
theorem prog_bad {l : List Cl} {k : Nat} {acc : List Pc} {q : Nat} (hk : k < l.length) (h : accG acc (progE (l.drop k) k) = progE l 0) (hq : clauseE l[k] = .error q) : progE l 0 = .error (q, k) := by
  rw [← h, List.drop_eq_getElem_cons hk, progE, hq]
  rfl
theorem prog_next {l : List Cl} {k : Nat} {acc : List Pc} {c : Pc} (hk : k < l.length) (h : accG acc (progE (l.drop k) k) = progE l 0) (hc : clauseE l[k] = .ok c) : accG (acc ++ [c]) (progE (l.drop (k + 1)) (k + 1)) = progE l 0 := by
  rw [← h, List.drop_eq_getElem_cons hk, progE, hc]
  simp only []
  cases progE (l.drop (k + 1)) (k + 1) with
  | error e => rfl
  | ok r => simp [accG]
theorem prog_done {l : List Cl} {acc : List Pc} (h : accG acc (progE (l.drop l.length) l.length) = progE l 0) : progE l 0 = .ok acc := by
  rw [← h, List.drop_length, progE]
  simp [accG]
theorem head_small {x : Tm} (h : x.right = true) : (headOf x).size ≤ 3000 := by
  have h1 := right_size h
  unfold headOf
  split
  · rename_i h2
    have h3 := args_two (isB_iff.1 h2).2
    omega
  · exact h1
theorem body_small {x : Tm} (h : x.right = true) : (bodyOf x).size ≤ 3000 := by
  have h1 := right_size h
  unfold bodyOf
  split
  · rename_i h2
    have h3 := args_two (isB_iff.1 h2).2
    omega
  · show 1 ≤ 3000; omega
theorem clause_small {x : Cl} {c : Pc} (hx : x.1.right = true) (h : clauseE x = .ok c) : c.h.size ≤ 999999 ∧ Gl.sizes c.b ≤ 999999 ∧ c.b.length ≤ 21 := by
  unfold clauseE at h
  split at h
  · cases h
  · cases hg : goalsE (bodyOf x.1) with
    | error q => rw [hg] at h; cases h
    | ok l =>
      rw [hg] at h
      injection h with h
      subst h
      obtain ⟨h1, h2, h3⟩ := goalsE_ok hg
      have h4 := head_small hx
      have h5 := right_size h1
      exact ⟨by show (headOf x.1).size ≤ 999999; omega, by show Gl.sizes l ≤ 999999; omega, h3⟩
/-! ### queries -/
end Go.Proofs.YtkjnjahmlobjiaaGreatDoor
