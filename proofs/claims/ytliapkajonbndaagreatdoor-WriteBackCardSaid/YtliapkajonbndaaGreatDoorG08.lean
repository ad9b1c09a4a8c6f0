/-
  Goals as a tree, and how they lie in memory: no program here.
  Goals' texts, purely; whether goals are few.
  The program's Term; its anyTerm.
  The program's goal and goals; its Goals and Clause.
-/
import Derived.Test.YtliapkajonbndaaGreatDoorG01
import Derived.Test.YtliapkajonbndaaGreatDoorG06
import Derived.Test.YtliapkajonbndaaGreatDoorG07
namespace Go.Proofs.YtliapkajonbndaaGreatDoor
open Go.RowKit

/-- A goal: any fields, any goals in it. -/
inductive Gl where
  | mk (kind : Int) (t : Tm) (a b c : List Gl)
namespace Gl
def kind : Gl → Int | .mk k _ _ _ _ => k
def t : Gl → Tm | .mk _ t _ _ _ => t
def a : Gl → List Gl | .mk _ _ a _ _ => a
def b : Gl → List Gl | .mk _ _ _ b _ => b
def c : Gl → List Gl | .mk _ _ _ _ c => c
theorem ind {P : Gl → Prop} (h : ∀ k t a b c, (∀ g ∈ a, P g) → (∀ g ∈ b, P g) → (∀ g ∈ c, P g) → P (.mk k t a b c)) : ∀ g, P g := by
  intro g
  refine Gl.rec (motive_1 := P) (motive_2 := fun l => ∀ g ∈ l, P g) ?_ ?_ ?_ g
  · intro k t a b c ha hb hc
    exact h k t a b c ha hb hc
  · intro g hg
    cases hg
  · intro g l hg hl u hu
    rcases List.mem_cons.1 hu with rfl | hu
    · exact hg
    · exact hl u hu
theorem eta (g : Gl) : Gl.mk g.kind g.t g.a g.b g.c = g := by cases g; rfl
/-- So many goals of 136 bytes can be. -/
abbrev most : Nat := 1034834473200
mutual
/-- What lies in the cells of a goal behind its kind and its term's own fields: the slices of the term's Args, of A, B and C. -/
def inn (w : World) (B : Nat) : Gl → Value → Value → Value → Value → Prop
  | .mk k t a b c, sv, av, bv, cv => (Lit.int .i64 k).wf = true ∧ Tm.inn w B t sv ∧
      (∃ g cap, av = .slice g a.length cap ∧ a.length ≤ cap ∧ a.length ≤ most ∧ (a = [] ∨ ∃ bk off, g = some ⟨bk, off, none⟩ ∧ bk < B ∧ rowIn w B bk off a)) ∧
      (∃ g cap, bv = .slice g b.length cap ∧ b.length ≤ cap ∧ b.length ≤ most ∧ (b = [] ∨ ∃ bk off, g = some ⟨bk, off, none⟩ ∧ bk < B ∧ rowIn w B bk off b)) ∧
      (∃ g cap, cv = .slice g c.length cap ∧ c.length ≤ cap ∧ c.length ≤ most ∧ (c = [] ∨ ∃ bk off, g = some ⟨bk, off, none⟩ ∧ bk < B ∧ rowIn w B bk off c))
def rowIn (w : World) (B : Nat) (bk off : Nat) : List Gl → Prop
  | [] => True
  | g :: r => (∃ sv av bv cv, w.cell? ⟨bk, off, none⟩ = some (.int .i64 g.kind) ∧ w.cell? ⟨bk, off + 1, none⟩ = some (.int .i64 g.t.kind) ∧ w.cell? ⟨bk, off + 2, none⟩ = some (.string g.t.name) ∧ w.cell? ⟨bk, off + 3, none⟩ = some (.int .i64 g.t.n) ∧ w.cell? ⟨bk, off + 4, none⟩ = some sv ∧ w.cell? ⟨bk, off + 5, none⟩ = some av ∧ w.cell? ⟨bk, off + 6, none⟩ = some bv ∧ w.cell? ⟨bk, off + 7, none⟩ = some cv ∧ inn w B g sv av bv cv) ∧
      rowIn w B bk (off + 8) r
end
/-- A slice of goals. -/
def sliceIn (w : World) (B : Nat) (l : List Gl) (v : Value) : Prop :=
  ∃ g cap, v = .slice g l.length cap ∧ l.length ≤ cap ∧ l.length ≤ most ∧ (l = [] ∨ ∃ bk off, g = some ⟨bk, off, none⟩ ∧ bk < B ∧ rowIn w B bk off l)
theorem inn_mk {w : World} {B : Nat} {k : Int} {t : Tm} {a b c : List Gl} {sv av bv cv : Value} : inn w B (.mk k t a b c) sv av bv cv ↔ (Lit.int .i64 k).wf = true ∧ Tm.inn w B t sv ∧ sliceIn w B a av ∧ sliceIn w B b bv ∧ sliceIn w B c cv := by
  simp only [inn, sliceIn]
theorem inn_iff {w : World} {B : Nat} {g : Gl} {sv av bv cv : Value} : inn w B g sv av bv cv ↔ (Lit.int .i64 g.kind).wf = true ∧ Tm.inn w B g.t sv ∧ sliceIn w B g.a av ∧ sliceIn w B g.b bv ∧ sliceIn w B g.c cv := by
  cases g
  exact inn_mk
theorem rowIn_get {w : World} {B bk : Nat} : ∀ {l : List Gl} {off : Nat}, rowIn w B bk off l → ∀ (i : Nat) (h : i < l.length),
    ∃ sv av bv cv, w.cell? ⟨bk, off + i * 8, none⟩ = some (.int .i64 l[i].kind) ∧ w.cell? ⟨bk, off + i * 8 + 1, none⟩ = some (.int .i64 l[i].t.kind) ∧ w.cell? ⟨bk, off + i * 8 + 2, none⟩ = some (.string l[i].t.name) ∧ w.cell? ⟨bk, off + i * 8 + 3, none⟩ = some (.int .i64 l[i].t.n) ∧ w.cell? ⟨bk, off + i * 8 + 4, none⟩ = some sv ∧ w.cell? ⟨bk, off + i * 8 + 5, none⟩ = some av ∧ w.cell? ⟨bk, off + i * 8 + 6, none⟩ = some bv ∧ w.cell? ⟨bk, off + i * 8 + 7, none⟩ = some cv ∧ inn w B l[i] sv av bv cv
  | [], _, _, i, h => absurd h (Nat.not_lt_zero _)
  | g :: r, off, hr, i, h => by
    simp only [rowIn] at hr
    cases i with
    | zero => simpa using hr.1
    | succ i =>
      have := rowIn_get hr.2 i (by simpa using h)
      simpa [show off + 8 + i * 8 = off + (i + 1) * 8 by omega] using this
theorem rowIn_of {w : World} {B bk : Nat} : ∀ {l : List Gl} {off : Nat}, (∀ (i : Nat) (h : i < l.length),
    ∃ sv av bv cv, w.cell? ⟨bk, off + i * 8, none⟩ = some (.int .i64 l[i].kind) ∧ w.cell? ⟨bk, off + i * 8 + 1, none⟩ = some (.int .i64 l[i].t.kind) ∧ w.cell? ⟨bk, off + i * 8 + 2, none⟩ = some (.string l[i].t.name) ∧ w.cell? ⟨bk, off + i * 8 + 3, none⟩ = some (.int .i64 l[i].t.n) ∧ w.cell? ⟨bk, off + i * 8 + 4, none⟩ = some sv ∧ w.cell? ⟨bk, off + i * 8 + 5, none⟩ = some av ∧ w.cell? ⟨bk, off + i * 8 + 6, none⟩ = some bv ∧ w.cell? ⟨bk, off + i * 8 + 7, none⟩ = some cv ∧ inn w B l[i] sv av bv cv) → rowIn w B bk off l
  | [], _, _ => by simp [rowIn]
  | g :: r, off, h => by
    simp only [rowIn]
    refine ⟨?_, rowIn_of fun i hi => ?_⟩
    · have h0 := h 0 (by simp)
      rw [Nat.zero_mul, Nat.add_zero] at h0
      exact h0
    have := h (i + 1) (by simpa using hi)
    simpa [show off + 8 + i * 8 = off + (i + 1) * 8 by omega] using this
theorem rowIn_same {w w' : World} {B B' bk : Nat} {l : List Gl} (hl : ∀ g ∈ l, ∀ sv av bv cv, inn w B g sv av bv cv → inn w' B' g sv av bv cv)
    (hc : ∀ o v, w.cell? ⟨bk, o, none⟩ = some v → w'.cell? ⟨bk, o, none⟩ = some v) {off : Nat} (h : rowIn w B bk off l) : rowIn w' B' bk off l :=
  rowIn_of fun i hi => by
    obtain ⟨sv, av, bv, cv, h0, h1, h2, h3, h4, h5, h6, h7, h8⟩ := rowIn_get h i hi
    exact ⟨sv, av, bv, cv, hc _ _ h0, hc _ _ h1, hc _ _ h2, hc _ _ h3, hc _ _ h4, hc _ _ h5, hc _ _ h6, hc _ _ h7, hl _ (List.getElem_mem hi) _ _ _ _ h8⟩
theorem sliceIn_same {w w' : World} {B B' : Nat} {l : List Gl} (hl : ∀ g ∈ l, ∀ sv av bv cv, inn w B g sv av bv cv → inn w' B' g sv av bv cv) (hB : B ≤ B')
    (hc : ∀ bk o v, bk < B → w.cell? ⟨bk, o, none⟩ = some v → w'.cell? ⟨bk, o, none⟩ = some v) {v : Value} (h : sliceIn w B l v) : sliceIn w' B' l v := by
  obtain ⟨g, cap, rfl, h1, h2, h3⟩ := h
  refine ⟨g, cap, rfl, h1, h2, ?_⟩
  rcases h3 with h3 | ⟨bk, off, rfl, hb, hr⟩
  · exact .inl h3
  · exact .inr ⟨bk, off, rfl, by omega, rowIn_same hl (fun o v => hc bk o v hb) hr⟩
theorem inn_same {w w' : World} {B B' : Nat} (hB : B ≤ B') (hc : ∀ bk o v, bk < B → w.cell? ⟨bk, o, none⟩ = some v → w'.cell? ⟨bk, o, none⟩ = some v) :
    ∀ (g : Gl) (sv av bv cv : Value), inn w B g sv av bv cv → inn w' B' g sv av bv cv := by
  refine ind fun k t a b c ha hb hc' sv av bv cv h => ?_
  rw [inn_mk] at h ⊢
  exact ⟨h.1, Tm.inn_same hB hc t sv h.2.1, sliceIn_same ha hB hc h.2.2.1, sliceIn_same hb hB hc h.2.2.2.1, sliceIn_same hc' hB hc h.2.2.2.2⟩
theorem inn_below {w w' : World} {B n₀ : Nat} {g : Gl} {sv av bv cv : Value} (h : inn w B g sv av bv cv) (hb : Below n₀ w w') (hB : B ≤ n₀) : inn w' B g sv av bv cv :=
  inn_same (Nat.le_refl _) (fun bk o v hlt hc => by rw [hb.cell (p := ⟨bk, o, none⟩) (by show bk < n₀; omega)]; exact hc) g sv av bv cv h
theorem inn_mono {w : World} {B B' : Nat} {g : Gl} {sv av bv cv : Value} (h : inn w B g sv av bv cv) (hB : B ≤ B') : inn w B' g sv av bv cv :=
  inn_same hB (fun _ _ _ _ hc => hc) g sv av bv cv h
theorem sliceIn_below {w w' : World} {B n₀ : Nat} {l : List Gl} {v : Value} (h : sliceIn w B l v) (hb : Below n₀ w w') (hB : B ≤ n₀) : sliceIn w' B l v :=
  sliceIn_same (fun _ _ _ _ _ _ h => inn_below h hb hB) (Nat.le_refl _) (fun bk o v hlt hc => by rw [hb.cell (p := ⟨bk, o, none⟩) (by show bk < n₀; omega)]; exact hc) h
theorem sliceIn_mono {w : World} {B B' : Nat} {l : List Gl} {v : Value} (h : sliceIn w B l v) (hB : B ≤ B') : sliceIn w B' l v :=
  sliceIn_same (fun _ _ _ _ _ _ h => inn_mono h hB) hB (fun _ _ _ _ hc => hc) h
theorem sliceIn_next {w w' : World} {l : List Gl} {v : Value} (h : sliceIn w w.heap.size l v) (hb : Below w.heap.size w w') : sliceIn w' w'.heap.size l v := sliceIn_mono (sliceIn_below h hb (Nat.le_refl _)) hb.size
/-- A goal at its place in a row. -/
theorem sliceIn_get {w : World} {B : Nat} {l : List Gl} {v : Value} (h : sliceIn w B l v) (i : Nat) (hi : i < l.length) :
    ∃ bk off cap sv av bv cv, v = .slice (some ⟨bk, off, none⟩) l.length cap ∧ bk < B ∧ w.cell? ⟨bk, off + i * 8, none⟩ = some (.int .i64 l[i].kind) ∧ w.cell? ⟨bk, off + i * 8 + 1, none⟩ = some (.int .i64 l[i].t.kind) ∧ w.cell? ⟨bk, off + i * 8 + 2, none⟩ = some (.string l[i].t.name) ∧ w.cell? ⟨bk, off + i * 8 + 3, none⟩ = some (.int .i64 l[i].t.n) ∧ w.cell? ⟨bk, off + i * 8 + 4, none⟩ = some sv ∧ w.cell? ⟨bk, off + i * 8 + 5, none⟩ = some av ∧ w.cell? ⟨bk, off + i * 8 + 6, none⟩ = some bv ∧ w.cell? ⟨bk, off + i * 8 + 7, none⟩ = some cv ∧ inn w B l[i] sv av bv cv := by
  obtain ⟨g, cap, rfl, _, _, h | ⟨bk, off, rfl, hb, hr⟩⟩ := h
  · subst h; simp at hi
  · obtain ⟨sv, av, bv, cv, h⟩ := rowIn_get hr i hi
    exact ⟨bk, off, cap, sv, av, bv, cv, rfl, hb, h⟩
mutual
def size : Gl → Nat
  | .mk _ t a b c => t.size + sizes a + sizes b + sizes c + 1
def sizes : List Gl → Nat
  | [] => 0
  | g :: r => g.size + sizes r
end
mutual
def deep : Gl → Nat
  | .mk _ _ a b c => max (deeps a) (max (deeps b) (deeps c)) + 1
def deeps : List Gl → Nat
  | [] => 0
  | g :: r => max g.deep (deeps r)
end
theorem deep_le {l : List Gl} {g : Gl} (h : g ∈ l) : g.deep ≤ deeps l := by
  induction l with
  | nil => cases h
  | cons u r ih =>
    simp only [deeps]
    rcases List.mem_cons.1 h with rfl | h
    · omega
    · have := ih h; omega
theorem size_le {l : List Gl} {g : Gl} (h : g ∈ l) : g.size ≤ sizes l := by
  induction l with
  | nil => cases h
  | cons u r ih =>
    simp only [sizes]
    rcases List.mem_cons.1 h with rfl | h
    · omega
    · have := ih h; omega
end Gl
end Go.Proofs.YtliapkajonbndaaGreatDoor

namespace Go.Proofs.YtliapkajonbndaaGreatDoor
open Go.RowKit

/-- A term's text, whatever it is. -/
def sureX (t : Tm) : List UInt8 := if t.right = true ∧ (tx t).length ≤ 8000 then tx t else [63]
def joinX : List (List UInt8) → List UInt8
  | [] => []
  | x :: r => 44 :: 32 :: (x ++ joinX r)
def rowX : List (List UInt8) → List UInt8
  | [] => [116, 114, 117, 101]
  | x :: r => x ++ joinX r
theorem joinX_app (l r : List (List UInt8)) : joinX (l ++ r) = joinX l ++ joinX r := by
  induction l with
  | nil => rfl
  | cons x l ih => simp [joinX, ih]
theorem joinX_snoc (l : List (List UInt8)) (x : List UInt8) : joinX (l ++ [x]) = joinX l ++ 44 :: 32 :: x := by rw [joinX_app]; simp [joinX]
mutual
/-- A goal's text. -/
def gx : Gl → List UInt8
  | .mk k t a b c =>
    if k = 1 ∨ k = 2 then sureX t
    else if k = 3 then [33]
    else if k = 4 then 40 :: (rowX (gxs a) ++ ([32, 45, 62, 32] ++ (rowX (gxs b) ++ ([32, 59, 32] ++ (rowX (gxs c) ++ [41])))))
    else if k = 5 then [92, 43, 32, 40] ++ (rowX (gxs a) ++ [41])
    else [102, 97, 105, 108]
def gxs : List Gl → List (List UInt8)
  | [] => []
  | g :: r => gx g :: gxs r
end
theorem gxs_map (l : List Gl) : gxs l = l.map gx := by
  induction l with
  | nil => rfl
  | cons g r ih => rw [gxs, ih]; rfl
/-- Goals' texts. -/
def glsX (l : List Gl) : List UInt8 := rowX (gxs l)
/-- A clause's text. -/
def clX (h : Tm) (l : List Gl) : List UInt8 := match l with
  | [] => sureX h ++ [46]
  | _ => sureX h ++ ([32, 58, 45, 32] ++ (glsX l ++ [46]))
end Go.Proofs.YtliapkajonbndaaGreatDoor

namespace Go.Proofs.YtliapkajonbndaaGreatDoor
open Go.RowKit

def wtX (t : Tm) : List UInt8 × Nat := if t.right = false then ([], 1) else if 8000 < (tx t).length then ([], 3) else (tx t, 0)
theorem dgz_ne (n : Int) : dgz n ≠ [] := by
  unfold dgz
  split
  · simp
  · intro h
    have := dgs_pos n.toNat
    rw [h] at this
    simp at this
theorem nmX_ne {s : ByteArray} (h : 0 < s.size) : nmX (bsN s) ≠ [] := by
  unfold nmX
  split
  · intro e
    have := bsN_length s
    rw [e] at this
    simp at this
    omega
  · simp
theorem tx_ne {t : Tm} (hf : t.fair = true) : tx t ≠ [] := by
  obtain ⟨k, s, n, l⟩ := t
  rcases fair_sort hf with ⟨rfl, h0, rfl, rfl⟩ | ⟨rfl, rfl, rfl⟩ | ⟨rfl, rfl, h0, h20, h8⟩
  · simp [tx, wr, txO]
  · have : tx (.mk 2 ⟨#[]⟩ n []) = dgz n := by simp [tx, wr, txO, dgz]
    rw [this]
    exact dgz_ne n
  · by_cases hp : bsN s = [46] ∧ l.length = 2
    · obtain ⟨a, d, rfl⟩ := two_of hp.2
      show txO 3 (bsN s) 0 (wrs [a, d]) ≠ []
      simp [txO, wrs, dotO, hp.1]
    · rw [tx_fun hp]
      intro e
      exact nmX_ne h0 (List.append_eq_nil_iff.1 e).1
theorem Pr.fresh (w : World) : Pr w.heap.size [] (w.alloc (.cells #[.pointer none, .slice none 0 0] 53)) := Lib.fresh_isBuilder _ _ w
set_option maxRecDepth 100000 in
set_option maxHeartbeats 4000000 in
theorem wterm_any (t : Tm) (w : World) (sv : Value) (hin : Tm.inn w w.heap.size t sv) (hsz : t.size ≤ 1000000) (hpw : Pow w) :
    Calls Tryz.prog 7 #[.agg #[.int .i64 t.kind, .string t.name, .int .i64 t.n, sv]] w fun e w' => e = .returned (.tuple #[.string ⟨(wtX t).1.toArray⟩, .int .i64 ((wtX t).2 : Nat)]) ∧ Below w.heap.size w w' := by
  obtain ⟨_, g, cap, rfl, _, _, _⟩ := Tm.inn_iff.1 hin
  have hpl := hpw.lt
  have HIN := Lib.hid hin
  have HPW := Lib.hid hpw
  have HLX := Lib.hid (show t.right = true → (tx t).length ≤ 180000 from fun h => by
    simp only [Tm.right, Bool.and_eq_true, decide_eq_true_eq] at h
    have := (inn_len t h.1.1 w _ _ hin).1
    omega)
  have HFA := Lib.hid (show t.right = true → t.fair = true from fun h => by
    simp only [Tm.right, Bool.and_eq_true] at h
    exact h.1.1)
  have HX := Lib.hid (show wtX t = if t.right = false then ([], 1) else if 8000 < (tx t).length then ([], 3) else (tx t, 0) from rfl)
  obtain ⟨tk, htk⟩ : ∃ k, t.kind = k := ⟨_, rfl⟩
  clear hin hpw
  obtain ⟨m, hm⟩ : ∃ m, t.args.length = m := ⟨_, rfl⟩
  rw [hm] at HIN ⊢
  clear htk tk
  go_enter Tryz.func7, Tryz.ntmps7
  go_upto_region 1 with fail
  have hv := (Below.refl w.heap.size w).alloc (Nat.le_refl _) (.cells #[.int .i64 t.kind, .string t.name, .int .i64 t.n, .slice g m cap] 24)
  have hz := newBlk w (.cells #[.int .i64 t.kind, .string t.name, .int .i64 t.n, .slice g m cap] 24) w.heap.size rfl
  have hzl : w.heap.size < (w.alloc (.cells #[.int .i64 t.kind, .string t.name, .int .i64 t.n, .slice g m cap] 24)).heap.size := by simp
  obtain ⟨v, hv1⟩ : ∃ v, w.alloc (.cells #[.int .i64 t.kind, .string t.name, .int .i64 t.n, .slice g m cap] 24) = v := ⟨_, rfl⟩
  rw [hv1] at hv hz hzl ⊢
  clear hv1
  obtain ⟨⟨a0, a1, a2, a3⟩, -⟩ := row4 hz
  have HV := Lib.hid hv
  have HZ := Lib.hid hz
  have HI := Lib.hid (Tm.inn_mono (Tm.inn_below HIN.out hv (Nat.le_refl _)) hv.size)
  have HRC := Lib.hid (tright_any t v _ HI.out hsz)
  clear hv hz
  cases hrt : t.right with
  | false =>
    rw [hrt] at HRC HX
    have HX2 := Lib.hid (show wtX t = ([], 1) from HX.out)
    clear hrt
    go_wp2_with (go_at_call 15; (with_reducible refine (HRC.out.mono ?_)); rintro e w' ⟨rfl, hb⟩; have HB := Lib.hid hb; clear hb)
    go_ret2
    exact ⟨by rw [HX2.out]; rfl, HV.out.trans (HB.out.mono HV.out.size)⟩
  | true =>
    rw [hrt] at HRC HX
    have hxl := HLX.out hrt
    have hfa := HFA.out hrt
    clear hrt
    go_upto_region 4 with (go_at_call 15; (with_reducible refine (HRC.out.mono ?_)); rintro e w1 ⟨rfl, hb⟩; have HB := Lib.hid hb; clear hb)
    have hs1 := HB.out.size
    have hb2 := (Below.refl w1.heap.size w1).alloc (Nat.le_refl _) (.cells #[.pointer none, .slice none 0 0] 53)
    have HB2 := Lib.hid (HB.out.trans (hb2.mono hs1))
    have HP := Lib.hid (Pr.fresh w1)
    have HZ2 := Lib.hid ((hb2.block w.heap.size (by omega)).trans ((HB.out.block w.heap.size (by omega)).trans HZ.out))
    have HI2 := Lib.hid (Tm.inn_mono (Tm.inn_below (Tm.inn_below HI.out HB.out (Nat.le_refl _)) hb2 hs1) hs1)
    have HPW2 := Lib.hid (((HPW.out.next HV.out hpl).next HB.out (by omega)).next hb2 (by omega))
    obtain ⟨u, hu⟩ : ∃ u, w1.alloc (.cells #[.pointer none, .slice none 0 0] 53) = u := ⟨_, rfl⟩
    rw [hu] at hb2 HB2 HP HZ2 HI2 HPW2 ⊢
    clear hu hb2
    have hul := HP.out.lt
    obtain ⟨⟨d0, d1, d2, d3⟩, -⟩ := row4 HZ2.out
    have HT := Lib.hid (pterm_any t hfa w1.heap.size [] u _ HP.out HI2.out HPW2.out (by omega) (by rw [List.nil_append]; omega))
    clear a0 a1 a2 a3
    go_upto_region 5 with (go_at_call 16; (with_reducible refine (HT.out.mono ?_)); rintro e w2 ⟨rfl, hp, hf⟩; have HP2 := Lib.hid (show Pr w1.heap.size (tx t) w2 from hp); have HF2 := Lib.hid hf; clear hp hf)
    have HBW := Lib.hid (HV.out.trans ((HB2.out.trans (HF2.out.low.mono hs1)).mono (by omega)))
    have HLN := Lib.hid (plen_any w1.heap.size (tx t) w2 HP2.out)
    by_cases hl : 8000 < (tx t).length
    · have k1 : (8000 : Int) < ((tx t).length : Int) := by omega
      have HX2 := Lib.hid (show wtX t = ([], 3) by rw [HX.out]; simp [hl])
      go_wp2_with (go_at_call 17; (with_reducible refine (HLN.out.mono ?_)); rintro e w3 ⟨rfl, rfl⟩)
      go_ret2
      exact ⟨by rw [HX2.out]; rfl, HBW.out⟩
    · have k1 : ((8000 : Int) < ((tx t).length : Int)) = False := by simp only [eq_iff_iff, iff_false]; omega
      have HX2 := Lib.hid (show wtX t = (tx t, 0) by rw [HX.out]; simp [hl])
      have HTX := Lib.hid (ptext_any w1.heap.size (tx t) w2 HP2.out (tx_ne hfa))
      go_wp2_with (first
        | (go_at_call 17; (with_reducible refine (HLN.out.mono ?_)); rintro e w3 ⟨rfl, rfl⟩)
        | (go_at_call 18; (with_reducible refine (HTX.out.mono ?_)); rintro e w4 ⟨rfl, hb⟩; have HB4 := Lib.hid hb; clear hb))
      go_ret2
      exact ⟨by rw [HX2.out]; rfl, HBW.out.trans (HB4.out.mono (by omega))⟩
set_option maxRecDepth 100000 in
set_option maxHeartbeats 4000000 in
theorem pany_any (t : Tm) (b : Nat) (x : List UInt8) (w : World) (sv : Value) (hpr : Pr b x w) (hin : Tm.inn w b t sv) (hpw : Pow w) (hpg : 0 < b) (hsz : t.size ≤ 1000000) (hlx : (x ++ sureX t).length ≤ 8000000000) :
    Calls Tryz.prog 23 #[.pointer (some ⟨b, 0, none⟩), .agg #[.int .i64 t.kind, .string t.name, .int .i64 t.n, sv]] w fun e w' => e = .returned (.tuple #[]) ∧ Pr b (x ++ sureX t) w' ∧ PFr b w w' := by
  obtain ⟨_, g, cap, rfl, _, _, _⟩ := Tm.inn_iff.1 hin
  have HS := Lib.hid (PS.new hpr hin hpw hpg)
  have hl9 : x.length + (sureX t).length ≤ 8000000000 := by rw [List.length_append] at hlx; exact hlx
  clear hpr hin hpw hlx
  obtain ⟨m, hm⟩ : ∃ m, t.args.length = m := ⟨_, rfl⟩
  rw [hm] at HS ⊢
  clear hm
  go_enter Tryz.func23, Tryz.ntmps23
  go_upto_region 1 with fail
  have HS1 := Lib.hid HS.out
  clear HS
  generalize w.alloc (.cells #[.int .i64 t.kind, .string t.name, .int .i64 t.n, .slice g m cap] 24) = v at HS1 ⊢
  have c0 : v.cell? ⟨w.heap.size, 0, none⟩ = some (.int .i64 t.kind) := HS1.out.cells.1; have c1 : v.cell? ⟨w.heap.size, 1, none⟩ = some (.string t.name) := HS1.out.cells.2.1; have c2 : v.cell? ⟨w.heap.size, 2, none⟩ = some (.int .i64 t.n) := HS1.out.cells.2.2.1; have c3 : v.cell? ⟨w.heap.size, 3, none⟩ = some (.slice g m cap) := HS1.out.cells.2.2.2.1; have cl := HS1.out.cells.2.2.2.2
  have HT := Lib.hid (wterm_any t v _ (Tm.inn_mono HS1.out.hi (Nat.le_of_lt HS1.out.pr.lt)) hsz HS1.out.pw)
  by_cases hok : t.right = true ∧ (tx t).length ≤ 8000
  · have HX := Lib.hid (show sureX t = tx t by unfold sureX; rw [if_pos hok])
    have hwt : wtX t = (tx t, 0) := by
      have : ¬ 8000 < (tx t).length := by omega
      simp [wtX, hok.1, this]
    rw [hwt] at HT
    clear hwt hok
    rw [HX.out] at hl9
    go_wp2_with (first
      | (go_at_call 7; (refine (HT.out.mono ?_)); rintro e w2 ⟨rfl, hb⟩; have HS2 := Lib.hid (HS1.out.quiet hb); clear hb)
      | (go_at_call 24; (with_reducible refine (pstr_any b x (tx t) _ HS2.out.pr (by omega)).mono ?_); rintro e w3 ⟨rfl, hp, hf⟩; have HS3 := Lib.hid (HS2.out.next hp hf); clear hp hf))
    go_end0
    exact ⟨rfl, by rw [HX.out]; exact HS3.out.pr, HS3.out.fr⟩
  · have HX := Lib.hid (show sureX t = [63] by unfold sureX; rw [if_neg hok])
    have hwt : ∃ n : Nat, wtX t = ([], n) ∧ 0 < n := by
      unfold wtX
      cases hr : t.right with
      | false => exact ⟨1, rfl, by omega⟩
      | true =>
        have : 8000 < (tx t).length := by
          rw [hr] at hok
          simp at hok
          exact hok
        exact ⟨3, by simp [this], by omega⟩
    obtain ⟨n, hwt, hn⟩ := hwt
    rw [hwt] at HT
    clear hwt hok
    rw [HX.out] at hl9
    simp only [List.length_cons, List.length_nil] at hl9
    have k1 : ((n : Int) != 0) = true := by rw [bne_iff_ne]; omega
    have hq : ∀ W, Pr b x W → Calls Tryz.prog 24 #[.pointer (some ⟨b, 0, none⟩), .string ⟨#[63]⟩] W _ := fun W h => pstr_any b x [63] W h (by simp; omega)
    have HQ := Lib.hid hq
    clear hq
    go_wp2_with (first
      | (go_at_call 7; (refine (HT.out.mono ?_)); rintro e w2 ⟨rfl, hb⟩; have HS2 := Lib.hid (HS1.out.quiet hb); clear hb)
      | (go_at_call 24; (with_reducible refine (HQ.out _ HS2.out.pr).mono ?_); rintro e w3 ⟨rfl, hp, hf⟩; have HS3 := Lib.hid (HS2.out.next hp hf); clear hp hf))
    go_end0
    exact ⟨rfl, by rw [HX.out]; exact HS3.out.pr, HS3.out.fr⟩
end Go.Proofs.YtliapkajonbndaaGreatDoor

namespace Go.Proofs.YtliapkajonbndaaGreatDoor
open Go.RowKit

/-- What stands at each place of the walk over a goal. -/
structure PG (w0 : World) (b : Nat) (g : Gl) (sv av bv cv : Value) (bx : Nat) (x : List UInt8) (W : World) : Prop where
  ne : b < bx
  pr : Pr b x W
  fr : PFr b w0 W
  bk : W.heap[bx]? = some (.cells #[.int .i64 g.kind, .int .i64 g.t.kind, .string g.t.name, .int .i64 g.t.n, sv, av, bv, cv] 44 (0, 0))
  hi : Gl.inn W b g sv av bv cv
  pw : Pow W
  pg : 0 < b
theorem PG.next {w0 : World} {b : Nat} {g : Gl} {sv av bv cv : Value} {bx : Nat} {x y : List UInt8} {W W' : World} (h : PG w0 b g sv av bv cv bx x W) (hp : Pr b y W') (hf : PFr b W W') : PG w0 b g sv av bv cv bx y W' :=
  ⟨h.ne, hp, h.fr.trans hf, hf.block h.bk (by have := h.ne; omega) (fun c fz e => by injection e with _ e2 _; exact absurd e2 (by decide)), Gl.inn_below h.hi hf.low (Nat.le_refl _), h.pw.next hf.low h.pg, h.pg⟩
theorem PG.new {b : Nat} {g : Gl} {sv av bv cv : Value} {x : List UInt8} {w : World} (hp : Pr b x w) (hi : Gl.inn w b g sv av bv cv) (hw : Pow w) (hg : 0 < b) : PG w b g sv av bv cv w.heap.size x (w.alloc (.cells #[.int .i64 g.kind, .int .i64 g.t.kind, .string g.t.name, .int .i64 g.t.n, sv, av, bv, cv] 44)) := by
  have hb := (Below.refl w.heap.size w).alloc (Nat.le_refl _) (.cells #[.int .i64 g.kind, .int .i64 g.t.kind, .string g.t.name, .int .i64 g.t.n, sv, av, bv, cv] 44)
  exact ⟨hp.lt, hp.below hb, PFr.of (Nat.le_of_lt hp.lt) hb, heap_alloc_new w _, Gl.inn_below hi (hb.mono (Nat.le_of_lt hp.lt)) (Nat.le_refl _), hw.next (hb.mono (Nat.le_of_lt hp.lt)) hg, hg⟩
section
variable {w0 : World} {b : Nat} {g : Gl} {sv av bv cv : Value} {bx : Nat} {x : List UInt8} {W : World} (h : PG w0 b g sv av bv cv bx x W)
include h
theorem PG.bxlt : bx < W.heap.size := (Array.getElem?_eq_some_iff.1 h.bk).1
theorem PG.cell0 : W.cell? ⟨bx, 0, none⟩ = some (.int .i64 g.kind) := by rw [Lib.cell_of_heap h.bk]; rfl
theorem PG.cell1 : W.cell? ⟨bx, 1, none⟩ = some (.int .i64 g.t.kind) := by rw [Lib.cell_of_heap h.bk]; rfl
theorem PG.cell2 : W.cell? ⟨bx, 2, none⟩ = some (.string g.t.name) := by rw [Lib.cell_of_heap h.bk]; rfl
theorem PG.cell3 : W.cell? ⟨bx, 3, none⟩ = some (.int .i64 g.t.n) := by rw [Lib.cell_of_heap h.bk]; rfl
theorem PG.cell4 : W.cell? ⟨bx, 4, none⟩ = some sv := by rw [Lib.cell_of_heap h.bk]; rfl
theorem PG.cell5 : W.cell? ⟨bx, 5, none⟩ = some av := by rw [Lib.cell_of_heap h.bk]; rfl
theorem PG.cell6 : W.cell? ⟨bx, 6, none⟩ = some bv := by rw [Lib.cell_of_heap h.bk]; rfl
theorem PG.cell7 : W.cell? ⟨bx, 7, none⟩ = some cv := by rw [Lib.cell_of_heap h.bk]; rfl
end
def PGo (g : Gl) : Prop := ∀ (b : Nat) (x : List UInt8) (w : World) (sv av bv cv : Value), Pr b x w → Gl.inn w b g sv av bv cv → Pow w → 0 < b → (x ++ gx g).length ≤ 8000000000 →
  Calls Tryz.prog 38 #[.pointer (some ⟨b, 0, none⟩), .agg #[.int .i64 g.kind, .int .i64 g.t.kind, .string g.t.name, .int .i64 g.t.n, sv, av, bv, cv]] w fun e w' => e = .returned (.tuple #[]) ∧ Pr b (x ++ gx g) w' ∧ PFr b w w'
def PGs (l : List Gl) : Prop := ∀ (b : Nat) (x : List UInt8) (w : World) (v : Value), Pr b x w → Gl.sliceIn w b l v → Pow w → 0 < b → (x ++ glsX l).length ≤ 8000000000 →
  Calls Tryz.prog 25 #[.pointer (some ⟨b, 0, none⟩), v] w fun e w' => e = .returned (.tuple #[]) ∧ Pr b (x ++ glsX l) w' ∧ PFr b w w'
/-- A text that stands in the code, written. -/
theorem plit (b : Nat) (x y : List UInt8) (s : ByteArray) (hs : s = ⟨y.toArray⟩) (w : World) (h : Pr b x w) (hl : x.length + y.length ≤ 9000000000) :
    Calls Tryz.prog 24 #[.pointer (some ⟨b, 0, none⟩), .string s] w fun e w' => e = .returned (.tuple #[.int .i64 y.length, .nilIface]) ∧ Pr b (x ++ y) w' ∧ PFr b w w' := hs ▸ pstr_any b x y w h hl
/-! ### goals in a row -/
def gpf (l : List Gl) (k : Nat) : List UInt8 := match gxs (l.take k) with
  | [] => []
  | x :: r => x ++ joinX r
theorem gpf_succ (l : List Gl) (k : Nat) (h : k < l.length) : gpf l (k + 1) = gpf l k ++ ((if k = 0 then [] else [44, 32]) ++ gx l[k]) := by
  unfold gpf
  rw [gxs_map, gxs_map, List.take_succ_eq_append_getElem h, List.map_append]
  cases k with
  | zero => simp [joinX]
  | succ k =>
    cases l with
    | nil => simp at h
    | cons a q =>
      simp only [List.take_succ_cons, List.map_cons, List.cons_append, List.getElem_cons_succ]
      rw [joinX_app]
      simp [joinX]
theorem gpf_all (l : List Gl) (h : l ≠ []) : glsX l = gpf l l.length := by
  unfold gpf glsX
  rw [List.take_length]
  cases l with
  | nil => exact absurd rfl h
  | cons a q => simp [gxs, rowX]
theorem gpf_len (l : List Gl) (k : Nat) (h : l ≠ []) : (gpf l k).length ≤ (glsX l).length := by
  unfold gpf glsX
  cases l with
  | nil => exact absurd rfl h
  | cons a q =>
    cases k with
    | zero => simp [gxs]
    | succ k =>
      have : gxs q = gxs (q.take k) ++ gxs (q.drop k) := by rw [gxs_map, gxs_map, gxs_map, ← List.map_append, List.take_append_drop]
      simp only [List.take_succ_cons, gxs, rowX]
      rw [this, joinX_app]
      simp only [List.length_append]
      omega
structure PGR (w0 : World) (b : Nat) (l : List Gl) (v : Value) (x : List UInt8) (W : World) : Prop where
  pr : Pr b x W
  fr : PFr b w0 W
  hs : Gl.sliceIn W b l v
  pw : Pow W
theorem PGR.next {w0 : World} {b : Nat} {l : List Gl} {v : Value} {x y : List UInt8} {W W' : World} (h : PGR w0 b l v x W) (hg : 0 < b) (hp : Pr b y W') (hf : PFr b W W') : PGR w0 b l v y W' :=
  ⟨hp, h.fr.trans hf, Gl.sliceIn_below h.hs hf.low (Nat.le_refl _), h.pw.next hf.low hg⟩
set_option maxRecDepth 100000 in
set_option maxHeartbeats 8000000 in
theorem pgoals_of (l : List Gl) (hq : ∀ g ∈ l, PGo g) (hm : l.length ≤ 1000000) : PGs l := by
  intro b x w v hpr hsl hpw hpg hlx
  obtain ⟨g0, cap, rfl, -, -, -⟩ := id hsl
  have HPA := Lib.hid (show PGR w b l (.slice g0 l.length cap) x w from ⟨hpr, PFr.refl _ _, hsl, hpw⟩)
  have HQ := Lib.hid hq
  have hlx2 : x.length + (glsX l).length ≤ 8000000000 := by rw [List.length_append] at hlx; exact hlx
  clear hpr hsl hpw hlx hq
  obtain ⟨m, hm0⟩ : ∃ m, l.length = m := ⟨_, rfl⟩
  rw [hm0] at hm HPA ⊢
  have HM := Lib.hid hm0
  clear hm0
  by_cases hz : m = 0
  · subst hz
    obtain rfl : l = [] := List.eq_nil_of_length_eq_zero HM.out
    have hx : glsX [] = [116, 114, 117, 101] := rfl
    rw [hx] at hlx2
    simp only [List.length_cons, List.length_nil] at hlx2
    go_enter Tryz.func25, Tryz.ntmps25
    go_wp2_with (go_at_call 24; (with_reducible refine (plit b x [116, 114, 117, 101] _ rfl _ HPA.out.pr (by simp; omega)).mono ?_); rintro e u1 ⟨rfl, hp, hf⟩; have HP1 := Lib.hid (HPA.out.next hpg hp hf); clear hp hf)
    go_loopw [15] (fun i wr => i = .int .i64 0 ∧ Hid (PGR w b [] (.slice g0 0 cap) (x ++ glsX []) wr)) (fun i _ => 0)
    case atStart => exact ⟨rfl, HP1⟩
    case round =>
      obtain ⟨rfl, h⟩ := hrel
      have HE := Lib.hid h.out
      clear h
      go_wp2_with fail
      go_end0
      exact ⟨rfl, HE.out.pr, HE.out.fr⟩
  have hne : l ≠ [] := by rintro rfl; exact hz HM.out.symm
  have HAL := Lib.hid (gpf_all l hne)
  have HLE := Lib.hid (fun k => gpf_len l k hne)
  have k0 : ((m : Int) == 0) = false := by rw [beq_eq_false_iff_ne]; omega
  clear hz hne
  go_enter Tryz.func25, Tryz.ntmps25
  go_wp2_with fail
  go_loopw [15] (fun i wr => ∃ k : Nat, k ≤ m ∧ i = .int .i64 k ∧ Hid (PGR w b l (.slice g0 m cap) (x ++ gpf l k) wr)) (fun i _ => m - (intOf i).toNat)
  case atStart => exact ⟨0, Nat.zero_le _, rfl, Lib.hid (by have h := HPA.out; simpa [gpf, gxs] using h)⟩
  case round =>
    obtain ⟨k, hk, rfl, hpa⟩ := hrel
    have HP := Lib.hid hpa.out
    clear hpa
    have hXl := HLE.out k
    by_cases hlt : k < m
    · have hlt' : k < l.length := by rw [HM.out]; exact hlt
      have hsl : Gl.sliceIn wr b l (.slice g0 m cap) := HP.out.hs
      obtain ⟨ab, ao, cap2, sv, av, bv, cv, e9, hab, g0', g1, g2, g3, g4, g5, g6, g7, hia⟩ := Gl.sliceIn_get hsl k hlt'
      injection e9 with e91 e90 e92
      clear e90
      subst e91 e92
      have hsu := gpf_succ l k hlt'
      have htm := HQ.out _ (List.getElem_mem hlt')
      generalize l[k] = g at g0' g1 g2 g3 g4 g5 g6 g7 hia hsu htm
      obtain ⟨gt, mt, ct, rfl⟩ : ∃ g m c, sv = .slice g m c := by
        obtain ⟨_, g, c, e, _⟩ := Tm.inn_iff.1 (Gl.inn_iff.1 hia).2.1
        exact ⟨_, _, _, e⟩
      obtain ⟨ga, ma, ca, rfl⟩ : ∃ g m c, av = .slice g m c := by
        obtain ⟨g, c, e, _⟩ := (Gl.inn_iff.1 hia).2.2.1
        exact ⟨_, _, _, e⟩
      obtain ⟨gb, mb, cb, rfl⟩ : ∃ g m c, bv = .slice g m c := by
        obtain ⟨g, c, e, _⟩ := (Gl.inn_iff.1 hia).2.2.2.1
        exact ⟨_, _, _, e⟩
      obtain ⟨gc, mc, cc, rfl⟩ : ∃ g m c, cv = .slice g m c := by
        obtain ⟨g, c, e, _⟩ := (Gl.inn_iff.1 hia).2.2.2.2
        exact ⟨_, _, _, e⟩
      have hl9 := HLE.out (k + 1)
      have HSU := Lib.hid hsu
      have HTM := Lib.hid htm
      have HN := Lib.hid (PG.new HP.out.pr hia HP.out.pw hpg)
      have hbw2 : ab < wr.heap.size := Nat.lt_trans hab HP.out.pr.lt
      clear hsl hia htm
      have j0 : (0 : Int) ≤ (k : Int) := by omega
      have j1 : (k : Int) < (m : Int) := by omega
      have jz : (0 : Int) + (k : Int) = (k : Int) := by omega
      have jw : IntKind.i64.wrap (k : Int) = (k : Int) := by rw [IntKind.wrap_i64]; omega
      rw [hsu] at hl9
      have hl8 : x.length + (gpf l k).length + (if k = 0 then 0 else 2) + (gx g).length ≤ 8000000000 := by
        split
        · rename_i h0
          rw [if_pos h0] at hl9
          simp only [List.length_append, List.length_nil] at hl9
          omega
        · rename_i h0
          rw [if_neg h0] at hl9
          simp only [List.length_append, List.length_cons, List.length_nil] at hl9
          omega
      clear hl9 hsu
      go_upto_region 5 with fail
      have HN1 := Lib.hid HN.out
      have HPV := Lib.hid (HP.out.next hpg HN1.out.pr HN1.out.fr)
      generalize wr.alloc (.cells #[.int .i64 g.kind, .int .i64 g.t.kind, .string g.t.name, .int .i64 g.t.n, .slice gt mt ct, .slice ga ma ca, .slice gb mb cb, .slice gc mc cc] 44) = V at HN1 HPV ⊢
      clear g0' g1 g2 g3 g4 g5 g6 g7
      by_cases hk0 : k = 0
      · subst hk0
        have HSU2 := Lib.hid (show gpf l (0 + 1) = gpf l 0 ++ gx g by rw [HSU.out]; rfl)
        have kk : ((0 : Int) < (0 : Int)) = False := by simp
        rw [if_pos rfl] at hl8
        have d0 : V.cell? ⟨wr.heap.size, 0, none⟩ = some (.int .i64 g.kind) := HN1.out.cell0; have d1 : V.cell? ⟨wr.heap.size, 1, none⟩ = some (.int .i64 g.t.kind) := HN1.out.cell1; have d2 : V.cell? ⟨wr.heap.size, 2, none⟩ = some (.string g.t.name) := HN1.out.cell2; have d3 : V.cell? ⟨wr.heap.size, 3, none⟩ = some (.int .i64 g.t.n) := HN1.out.cell3; have d4 : V.cell? ⟨wr.heap.size, 4, none⟩ = some (.slice gt mt ct) := HN1.out.cell4; have d5 : V.cell? ⟨wr.heap.size, 5, none⟩ = some (.slice ga ma ca) := HN1.out.cell5; have d6 : V.cell? ⟨wr.heap.size, 6, none⟩ = some (.slice gb mb cb) := HN1.out.cell6; have d7 : V.cell? ⟨wr.heap.size, 7, none⟩ = some (.slice gc mc cc) := HN1.out.cell7; have dl := HN1.out.bxlt
        have HA := Lib.hid (HTM.out b (x ++ gpf l 0) V _ _ _ _ HN1.out.pr HN1.out.hi HN1.out.pw hpg (by simp only [List.length_append]; omega))
        go_wp2_with (go_at_call 38; (with_reducible refine (HA.out).mono ?_); rintro e u3 ⟨rfl, hp, hf⟩; have HP3 := Lib.hid (HPV.out.next hpg hp hf); clear hp hf)
        have e9 : x ++ gpf l 0 ++ gx g = x ++ gpf l (0 + 1) := by rw [HSU2.out]; simp
        rw [e9] at HP3
        have HP4 := Lib.hid HP3.out
        clear e9
        go_roundw
        case rel => exact ⟨0 + 1, by omega, by go_num, HP4⟩
        case measure => simp [intOf]; omega
      · have HSU2 := Lib.hid (show gpf l (k + 1) = gpf l k ++ ([44, 32] ++ gx g) by rw [HSU.out, if_neg hk0])
        have kk : (0 : Int) < (k : Int) := by omega
        rw [if_neg hk0] at hl8
        go_upto_region 7 with (go_at_call 24; (with_reducible refine (plit b (x ++ gpf l k) [44, 32] _ rfl _ HN1.out.pr (by simp only [List.length_append, List.length_cons, List.length_nil]; omega)).mono ?_); rintro e u2 ⟨rfl, hp, hf⟩; have HS2 := Lib.hid (HN1.out.next hp hf); have HP2 := Lib.hid (HPV.out.next hpg hp hf); have d0 : u2.cell? ⟨wr.heap.size, 0, none⟩ = some (.int .i64 g.kind) := HS2.out.cell0; have d1 : u2.cell? ⟨wr.heap.size, 1, none⟩ = some (.int .i64 g.t.kind) := HS2.out.cell1; have d2 : u2.cell? ⟨wr.heap.size, 2, none⟩ = some (.string g.t.name) := HS2.out.cell2; have d3 : u2.cell? ⟨wr.heap.size, 3, none⟩ = some (.int .i64 g.t.n) := HS2.out.cell3; have d4 : u2.cell? ⟨wr.heap.size, 4, none⟩ = some (.slice gt mt ct) := HS2.out.cell4; have d5 : u2.cell? ⟨wr.heap.size, 5, none⟩ = some (.slice ga ma ca) := HS2.out.cell5; have d6 : u2.cell? ⟨wr.heap.size, 6, none⟩ = some (.slice gb mb cb) := HS2.out.cell6; have d7 : u2.cell? ⟨wr.heap.size, 7, none⟩ = some (.slice gc mc cc) := HS2.out.cell7; have dl := HS2.out.bxlt; clear hp hf)
        have HA := Lib.hid (HTM.out b (x ++ gpf l k ++ [44, 32]) u2 _ _ _ _ HS2.out.pr HS2.out.hi HS2.out.pw hpg (by simp only [List.length_append, List.length_cons, List.length_nil]; omega))
        go_wp2_with (go_at_call 38; (with_reducible refine (HA.out).mono ?_); rintro e u3 ⟨rfl, hp, hf⟩; have HP3 := Lib.hid (HP2.out.next hpg hp hf); clear hp hf)
        have e9 : x ++ gpf l k ++ [44, 32] ++ gx g = x ++ gpf l (k + 1) := by rw [HSU2.out]; simp
        rw [e9] at HP3
        have HP4 := Lib.hid HP3.out
        clear e9
        go_roundw
        case rel => exact ⟨k + 1, by omega, by go_num, HP4⟩
        case measure => simp [intOf]; omega
    · obtain rfl : m = k := by omega
      go_wp2_with fail
      go_end0
      exact ⟨rfl, by have h9 := HP.out.pr; rw [show gpf l m = glsX l by rw [HAL.out, HM.out]] at h9; exact h9, HP.out.fr⟩
end Go.Proofs.YtliapkajonbndaaGreatDoor
