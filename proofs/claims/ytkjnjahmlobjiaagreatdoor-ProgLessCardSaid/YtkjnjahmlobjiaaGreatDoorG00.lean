/-
  What the calls lean on of the library's own variable: it holds an error.
  Terms as a tree, how they lie in memory, and what the document's functions on them are: no program here.
  Goals as a tree, and how they lie in memory: no program here.
  Tokens, purely: what stands at a place of a text, and what a text is divided into.
-/
import Derived.Test.YtkjnjahmlobjiaaGreatDoorChecked
import Derived.WalkKit
import GoSem.Op.String
namespace Go.Proofs.YtkjnjahmlobjiaaGreatDoor
open Go.RowKit

/-- What the library's variable holds: an error. -/
def Rng (w : World) : Prop := ∃ te pe, w.cell? ⟨4, 0, none⟩ = some (.iface te pe)
theorem Rng.next {w w' : World} (h : Rng w) (hb : Below w.heap.size w w') : Rng w' := by
  obtain ⟨te, pe, h⟩ := h
  exact ⟨te, pe, (hb.cell (p := ⟨4, 0, none⟩) (World.block_lt_of_cell? w _ h)).trans h⟩
end Go.Proofs.YtkjnjahmlobjiaaGreatDoor

namespace Go.Proofs.YtkjnjahmlobjiaaGreatDoor
open Go.RowKit

theorem neS {a b : ByteArray} (h : a ≠ b) : ¬ a.toList = b.toList := fun e => h (by
  rw [ByteArray.toList_eq, ByteArray.toList_eq] at e
  cases a; cases b
  congr 1
  exact Array.toList_inj.1 e)

theorem size0 (s : ByteArray) : s.size = 0 ↔ s.toList = [] := by
  rw [ByteArray.toList_eq]
  constructor
  · intro h
    exact List.length_eq_zero_iff.1 (by simpa using h)
  · intro h
    have := congrArg List.length h
    simpa using this
theorem ret_bool {a b : Bool} (h : a = b) : Ending.returned (.bool a) = .returned (.bool b) := by rw [h]
/-- A term: any fields, any terms in it. -/
inductive Tm where
  | mk (kind : Int) (name : ByteArray) (n : Int) (args : List Tm)

namespace Tm
def kind : Tm → Int | .mk k _ _ _ => k
def name : Tm → ByteArray | .mk _ s _ _ => s
def n : Tm → Int | .mk _ _ n _ => n
def args : Tm → List Tm | .mk _ _ _ l => l

theorem ind {P : Tm → Prop} (h : ∀ k s n l, (∀ t ∈ l, P t) → P (.mk k s n l)) : ∀ t, P t := by
  intro t
  refine Tm.rec (motive_1 := P) (motive_2 := fun l => ∀ t ∈ l, P t) ?_ ?_ ?_ t
  · intro k s n l ih
    exact h k s n l ih
  · intro t ht
    cases ht
  · intro t l ht hl u hu
    rcases List.mem_cons.1 hu with rfl | hu
    · exact ht
    · exact hl u hu

mutual
def size : Tm → Nat
  | .mk _ _ _ l => sizes l + 1
def sizes : List Tm → Nat
  | [] => 0
  | t :: r => t.size + sizes r
end

mutual
def deep : Tm → Nat
  | .mk _ _ _ l => deeps l + 1
def deeps : List Tm → Nat
  | [] => 0
  | t :: r => max t.deep (deeps r)
end

/-- Numbers are of 64 bits; names no longer than strings can be. -/
def headOk : Tm → Prop
  | .mk k s n _ => (Lit.int .i64 k).wf = true ∧ s.size ≤ maxLen ∧ (Lit.int .i64 n).wf = true

mutual
/-- 'sv' is the slice of the Args of a term that lies in 'w' below block B. -/
def inn (w : World) (B : Nat) : Tm → Value → Prop
  | .mk k s n l, sv => ((Lit.int .i64 k).wf = true ∧ s.size ≤ maxLen ∧ (Lit.int .i64 n).wf = true) ∧
      ∃ g cap, sv = .slice g l.length cap ∧ l.length ≤ cap ∧ l.length ≤ 2513169434900 ∧ (l = [] ∨ ∃ b off, g = some ⟨b, off, none⟩ ∧ b < B ∧ rowIn w B b off l)
def rowIn (w : World) (B : Nat) (b off : Nat) : List Tm → Prop
  | [] => True
  | t :: r => (∃ sv, w.cell? ⟨b, off, none⟩ = some (.int .i64 t.kind) ∧ w.cell? ⟨b, off + 1, none⟩ = some (.string t.name) ∧ w.cell? ⟨b, off + 2, none⟩ = some (.int .i64 t.n) ∧ w.cell? ⟨b, off + 3, none⟩ = some sv ∧ inn w B t sv) ∧
      rowIn w B b (off + 4) r
end

/-- A slice of terms. -/
def sliceIn (w : World) (B : Nat) (l : List Tm) (sv : Value) : Prop :=
  ∃ g cap, sv = .slice g l.length cap ∧ l.length ≤ cap ∧ l.length ≤ 2513169434900 ∧ (l = [] ∨ ∃ b off, g = some ⟨b, off, none⟩ ∧ b < B ∧ rowIn w B b off l)

theorem inn_mk {w : World} {B : Nat} {k : Int} {s : ByteArray} {n : Int} {l : List Tm} {sv : Value} :
    inn w B (.mk k s n l) sv ↔ ((Lit.int .i64 k).wf = true ∧ s.size ≤ maxLen ∧ (Lit.int .i64 n).wf = true) ∧ sliceIn w B l sv := by
  simp only [inn, sliceIn]

theorem inn_iff {w : World} {B : Nat} {t : Tm} {sv : Value} : inn w B t sv ↔ t.headOk ∧ sliceIn w B t.args sv := by
  cases t
  exact inn_mk

theorem rowIn_get {w : World} {B b : Nat} : ∀ {l : List Tm} {off : Nat}, rowIn w B b off l → ∀ (i : Nat) (h : i < l.length),
    ∃ sv, w.cell? ⟨b, off + i * 4, none⟩ = some (.int .i64 l[i].kind) ∧ w.cell? ⟨b, off + i * 4 + 1, none⟩ = some (.string l[i].name) ∧ w.cell? ⟨b, off + i * 4 + 2, none⟩ = some (.int .i64 l[i].n) ∧ w.cell? ⟨b, off + i * 4 + 3, none⟩ = some sv ∧ inn w B l[i] sv
  | [], _, _, i, h => absurd h (Nat.not_lt_zero _)
  | t :: r, off, hr, i, h => by
    simp only [rowIn] at hr
    cases i with
    | zero => simpa using hr.1
    | succ i =>
      have := rowIn_get hr.2 i (by simpa using h)
      simpa [show off + 4 + i * 4 = off + (i + 1) * 4 by omega] using this

theorem rowIn_of {w : World} {B b : Nat} : ∀ {l : List Tm} {off : Nat}, (∀ (i : Nat) (h : i < l.length),
    ∃ sv, w.cell? ⟨b, off + i * 4, none⟩ = some (.int .i64 l[i].kind) ∧ w.cell? ⟨b, off + i * 4 + 1, none⟩ = some (.string l[i].name) ∧ w.cell? ⟨b, off + i * 4 + 2, none⟩ = some (.int .i64 l[i].n) ∧ w.cell? ⟨b, off + i * 4 + 3, none⟩ = some sv ∧ inn w B l[i] sv) → rowIn w B b off l
  | [], _, _ => by simp [rowIn]
  | t :: r, off, h => by
    simp only [rowIn]
    refine ⟨h 0 (by simp), rowIn_of fun i hi => ?_⟩
    have := h (i + 1) (by simpa using hi)
    simpa [show off + 4 + i * 4 = off + (i + 1) * 4 by omega] using this

theorem rowIn_same {w w' : World} {B B' b : Nat} {l : List Tm} (hl : ∀ t ∈ l, ∀ sv, inn w B t sv → inn w' B' t sv)
    (hc : ∀ o v, w.cell? ⟨b, o, none⟩ = some v → w'.cell? ⟨b, o, none⟩ = some v) {off : Nat} (h : rowIn w B b off l) : rowIn w' B' b off l :=
  rowIn_of fun i hi => by
    obtain ⟨sv, h0, h1, h2, h3, h4⟩ := rowIn_get h i hi
    exact ⟨sv, hc _ _ h0, hc _ _ h1, hc _ _ h2, hc _ _ h3, hl _ (List.getElem_mem hi) _ h4⟩

theorem sliceIn_same {w w' : World} {B B' : Nat} {l : List Tm} (hl : ∀ t ∈ l, ∀ sv, inn w B t sv → inn w' B' t sv) (hB : B ≤ B')
    (hc : ∀ b o v, b < B → w.cell? ⟨b, o, none⟩ = some v → w'.cell? ⟨b, o, none⟩ = some v) {sv : Value} (h : sliceIn w B l sv) : sliceIn w' B' l sv := by
  obtain ⟨g, cap, rfl, h1, h2, h3⟩ := h
  refine ⟨g, cap, rfl, h1, h2, ?_⟩
  rcases h3 with h3 | ⟨b, off, rfl, hb, hr⟩
  · exact .inl h3
  · exact .inr ⟨b, off, rfl, by omega, rowIn_same hl (fun o v => hc b o v hb) hr⟩

theorem inn_same {w w' : World} {B B' : Nat} (hB : B ≤ B') (hc : ∀ b o v, b < B → w.cell? ⟨b, o, none⟩ = some v → w'.cell? ⟨b, o, none⟩ = some v) :
    ∀ (t : Tm) (sv : Value), inn w B t sv → inn w' B' t sv := by
  refine ind fun k s n l ih sv h => ?_
  rw [inn_mk] at h ⊢
  exact ⟨h.1, sliceIn_same ih hB hc h.2⟩

theorem inn_below {w w' : World} {B n₀ : Nat} {t : Tm} {sv : Value} (h : inn w B t sv) (hb : Below n₀ w w') (hB : B ≤ n₀) : inn w' B t sv :=
  inn_same (Nat.le_refl _) (fun b o v hlt hc => by rw [hb.cell (p := ⟨b, o, none⟩) (by show b < n₀; omega)]; exact hc) t sv h

theorem inn_mono {w : World} {B B' : Nat} {t : Tm} {sv : Value} (h : inn w B t sv) (hB : B ≤ B') : inn w B' t sv :=
  inn_same hB (fun _ _ _ _ hc => hc) t sv h

theorem sliceIn_below {w w' : World} {B n₀ : Nat} {l : List Tm} {sv : Value} (h : sliceIn w B l sv) (hb : Below n₀ w w') (hB : B ≤ n₀) : sliceIn w' B l sv :=
  sliceIn_same (fun _ _ _ h => inn_below h hb hB) (Nat.le_refl _) (fun b o v hlt hc => by rw [hb.cell (p := ⟨b, o, none⟩) (by show b < n₀; omega)]; exact hc) h

theorem sliceIn_mono {w : World} {B B' : Nat} {l : List Tm} {sv : Value} (h : sliceIn w B l sv) (hB : B ≤ B') : sliceIn w B' l sv :=
  sliceIn_same (fun _ _ _ h => inn_mono h hB) hB (fun _ _ _ _ hc => hc) h

/-- What a walk wants of element i. -/
theorem sliceIn_get {w : World} {B : Nat} {l : List Tm} {g : Option Addr} {len cap : Nat} (h : sliceIn w B l (.slice g len cap)) (i : Nat) (hi : i < l.length) :
    ∃ b off sv, g = some ⟨b, off, none⟩ ∧ b < B ∧ w.cell? ⟨b, off + i * 4, none⟩ = some (.int .i64 l[i].kind) ∧ w.cell? ⟨b, off + i * 4 + 1, none⟩ = some (.string l[i].name) ∧
      w.cell? ⟨b, off + i * 4 + 2, none⟩ = some (.int .i64 l[i].n) ∧ w.cell? ⟨b, off + i * 4 + 3, none⟩ = some sv ∧ inn w B l[i] sv := by
  obtain ⟨g', cap', he, h1, h2, h3⟩ := h
  injection he with e1 e2 e3
  subst e1
  rcases h3 with rfl | ⟨b, off, rfl, hb, hr⟩
  · simp at hi
  · obtain ⟨sv, hh⟩ := rowIn_get hr i hi
    exact ⟨b, off, sv, rfl, hb, hh⟩

theorem size_pos (t : Tm) : 0 < t.size := by cases t; simp [size]
theorem sizes_take_succ (l : List Tm) (i : Nat) (h : i < l.length) : sizes (l.take (i + 1)) = sizes (l.take i) + l[i].size := by
  induction l generalizing i with
  | nil => simp at h
  | cons t r ih =>
    cases i with
    | zero => simp [sizes]
    | succ i =>
      have := ih i (by simpa using h)
      simp only [List.take_succ_cons, sizes, List.getElem_cons_succ] at this ⊢
      omega
theorem sizes_take_le (l : List Tm) (i : Nat) : sizes (l.take i) ≤ sizes l := by
  induction l generalizing i with
  | nil => simp [sizes]
  | cons t r ih =>
    cases i with
    | zero => simp [sizes]
    | succ i =>
      have := ih i
      simp only [List.take_succ_cons, sizes] at this ⊢
      omega
theorem size_mem_le {l : List Tm} {t : Tm} (h : t ∈ l) : t.size ≤ sizes l := by
  induction l with
  | nil => cases h
  | cons u r ih =>
    rcases List.mem_cons.1 h with rfl | h
    · simp [sizes]
    · have := ih h
      simp only [sizes]
      omega
theorem deep_pos (t : Tm) : 0 < t.deep := by cases t; simp [deep]
theorem deeps_take_succ (l : List Tm) (i : Nat) (h : i < l.length) : deeps (l.take (i + 1)) = max (deeps (l.take i)) l[i].deep := by
  induction l generalizing i with
  | nil => simp at h
  | cons t r ih =>
    cases i with
    | zero => simp [deeps]
    | succ i =>
      have := ih i (by simpa using h)
      simp only [List.take_succ_cons, deeps, List.getElem_cons_succ] at this ⊢
      rw [this]; omega
theorem deeps_take_le (l : List Tm) (i : Nat) : deeps (l.take i) ≤ deeps l := by
  induction l generalizing i with
  | nil => simp [deeps]
  | cons t r ih =>
    cases i with
    | zero => simp [deeps]
    | succ i =>
      have := ih i
      simp only [List.take_succ_cons, deeps] at this ⊢
      omega
theorem deeps_le_sizes (l : List Tm) (h : ∀ t ∈ l, t.deep ≤ t.size) : deeps l ≤ sizes l := by
  induction l with
  | nil => simp [deeps]
  | cons t r ih =>
    have h1 := h t (by simp)
    have h2 := ih (fun u hu => h u (by simp [hu]))
    simp only [sizes, deeps]
    omega
theorem deep_le_size : ∀ t : Tm, t.deep ≤ t.size := ind fun k s n l ih => by
  have := deeps_le_sizes l ih
  simp only [size, deep]; omega

/-- A byte that a name may have. -/
def byteOk (c : UInt8) : Bool := decide (32 ≤ c.toNat) && decide (c.toNat ≤ 126)
def nameOk (s : ByteArray) : Bool := s.data.toList.all byteOk
/-- A term's own fields. -/
def alone (k : Int) (s : ByteArray) (n : Int) (m : Nat) : Bool :=
  if k = 1 then decide (0 ≤ n) && decide (n < 1000000) && decide (s.toList = []) && ((m : Int) == 0)
  else if k = 2 then decide (s.toList = []) && ((m : Int) == 0)
  else if k = 3 then decide (n = 0) && decide (1 ≤ (s.size : Int)) && decide ((s.size : Int) ≤ 20) && decide ((m : Int) ≤ 8)
  else false
mutual
def fair : Tm → Bool
  | .mk k s n l => nameOk s && fairs l && alone k s n l.length
def fairs : List Tm → Bool
  | [] => true
  | t :: r => t.fair && fairs r
end
def right (t : Tm) : Bool := t.fair && decide (t.size ≤ 3000) && decide (t.deep ≤ 100)

mutual
/-- Have Vars no Args, here and in all terms inside? -/
def noArgs : Tm → Bool
  | .mk k _ _ l => (if k = 1 ∧ 0 < l.length then false else true) && plain l
def plain : List Tm → Bool
  | [] => true
  | t :: r => t.noArgs && plain r
end
mutual
/-- Are two terms alike? -/
def same : Tm → Tm → Bool
  | .mk k s n l, u => decide (k = u.kind) && decide (n = u.n) && decide (s = u.name) && sames l u.args
def sames : List Tm → List Tm → Bool
  | [], [] => true
  | [], _ :: _ => false
  | _ :: _, [] => false
  | t :: r, u :: q => t.same u && sames r q
end
theorem sames_iff (l m : List Tm) (h : ∀ t ∈ l, ∀ u, t.same u = true ↔ t = u) : sames l m = true ↔ l = m := by
  induction l generalizing m with
  | nil => cases m <;> simp [sames]
  | cons t r ih =>
    cases m with
    | nil => simp [sames]
    | cons u q =>
      have h1 := h t (by simp) u
      have h2 := ih q (fun v hv => h v (by simp [hv]))
      simp only [sames, Bool.and_eq_true, h1, h2, List.cons.injEq]
theorem same_iff : ∀ (t u : Tm), t.same u = true ↔ t = u := ind fun k s n l ih u => by
  obtain ⟨k', s', n', l'⟩ := u
  have := sames_iff l l' ih
  simp only [same, kind, Tm.n, name, args, Bool.and_eq_true, this, Tm.mk.injEq]
  constructor
  · rintro ⟨⟨⟨h1, h2⟩, h3⟩, h4⟩
    exact ⟨of_decide_eq_true h1, of_decide_eq_true h3, of_decide_eq_true h2, h4⟩
  · rintro ⟨rfl, rfl, rfl, rfl⟩
    exact ⟨⟨⟨decide_eq_true rfl, decide_eq_true rfl⟩, decide_eq_true rfl⟩, rfl⟩
instance : DecidableEq Tm := fun a b => if h : a.same b = true then .isTrue ((same_iff a b).1 h) else .isFalse fun e => h ((same_iff a b).2 e)
theorem same_eq (a b : Tm) : a.same b = decide (a = b) := by
  rw [Bool.eq_iff_iff]; simp [same_iff]

mutual
/-- How many more terms there may be behind this one; below 0: too many, too deep, or too long a name. -/
def few : Tm → Int → Int → Int
  | .mk _ s _ l, most, d => if most - 1 < 0 ∨ d < 1 ∨ 100 < (s.size : Int) then -1 else fews l (most - 1) (d - 1)
def fews : List Tm → Int → Int → Int
  | [], m, _ => m
  | t :: r, m, d => if m < 0 then m else fews r (t.few m d) d
end
theorem fews_neg (l : List Tm) (m d : Int) (h : m < 0) : fews l m d = m := by cases l <;> simp [fews, h]
theorem fews_take_succ (l : List Tm) (i : Nat) (h : i < l.length) (m d : Int) (hm : 0 ≤ fews (l.take i) m d) : fews (l.take (i + 1)) m d = l[i].few (fews (l.take i) m d) d := by
  induction l generalizing i m with
  | nil => simp at h
  | cons t r ih =>
    cases i with
    | zero =>
      simp only [List.take_zero, fews] at hm
      simp [fews, show ¬ m < 0 by omega]
    | succ i =>
      simp only [List.take_succ_cons, fews, List.getElem_cons_succ] at hm ⊢
      by_cases hn : m < 0
      · rw [if_pos hn] at hm; omega
      · rw [if_neg hn] at hm
        simp only [if_neg hn]
        exact ih i (by simpa using h) _ hm
theorem fews_stop (l : List Tm) (i : Nat) (m d : Int) (hm : fews (l.take i) m d < 0) : fews l m d = fews (l.take i) m d := by
  induction l generalizing i m with
  | nil => simp [fews]
  | cons t r ih =>
    cases i with
    | zero =>
      simp only [List.take_zero, fews] at hm ⊢
      rw [if_pos hm]
    | succ i =>
      simp only [List.take_succ_cons, fews] at hm ⊢
      by_cases hn : m < 0
      · simp [hn]
      · rw [if_neg hn] at hm
        simp only [if_neg hn]
        exact ih i _ hm
theorem fews_rng (l : List Tm) (h : ∀ t ∈ l, ∀ m d : Int, 0 ≤ m → -1 ≤ t.few m d ∧ t.few m d ≤ m - 1) (m d : Int) (hm : -1 ≤ m) : -1 ≤ fews l m d ∧ fews l m d ≤ m := by
  induction l generalizing m with
  | nil => simp [fews]; omega
  | cons t r ih =>
    simp only [fews]
    by_cases hn : m < 0
    · rw [if_pos hn]; omega
    · rw [if_neg hn]
      have h1 := h t (by simp) m d (by omega)
      have h2 := ih (fun u hu => h u (by simp [hu])) (t.few m d) (by omega)
      omega
theorem few_rng : ∀ (t : Tm) (m d : Int), 0 ≤ m → -1 ≤ t.few m d ∧ t.few m d ≤ m - 1 := ind fun k s n l ih m d hm => by
  simp only [few]
  split
  · omega
  · exact fews_rng l ih _ _ (by omega)
/-- What 'few' tells. -/
theorem fews_says (l : List Tm) (h : ∀ t ∈ l, ∀ m d : Int, 0 ≤ t.few m d → (t.size : Int) ≤ m ∧ t.few m d = m - t.size ∧ (t.deep : Int) ≤ d) (m d : Int) (hm : 0 ≤ fews l m d) :
    (sizes l : Int) ≤ m ∧ fews l m d = m - sizes l ∧ (deeps l = 0 ∨ (deeps l : Int) ≤ d) := by
  induction l generalizing m with
  | nil => exact ⟨by simpa [fews, sizes] using hm, by simp [fews, sizes], .inl (by simp [deeps])⟩
  | cons t r ih =>
    simp only [fews] at hm ⊢
    by_cases hn : m < 0
    · rw [if_pos hn] at hm; omega
    · rw [if_neg hn] at hm ⊢
      have h2 := ih (fun u hu => h u (by simp [hu])) (t.few m d) hm
      by_cases hc : t.few m d < 0
      · rw [fews_neg _ _ _ hc] at hm; omega
      have h1 := h t (by simp) m d (by omega)
      simp only [sizes, deeps]
      omega
theorem few_says : ∀ (t : Tm) (m d : Int), 0 ≤ t.few m d → (t.size : Int) ≤ m ∧ t.few m d = m - t.size ∧ (t.deep : Int) ≤ d := ind fun k s n l ih m d hm => by
  simp only [few] at hm ⊢
  split at hm
  · omega
  · rename_i hc
    rw [if_neg hc]
    have := fews_says l ih _ _ hm
    simp only [size, deep]
    omega
end Tm
end Go.Proofs.YtkjnjahmlobjiaaGreatDoor

namespace Go.Proofs.YtkjnjahmlobjiaaGreatDoor
open Go.RowKit

/-- A goal: any fields, any goals in it. -/
inductive Gl where
  | mk (kind : Int) (t : Tm) (a b c : List Gl)
namespace Gl
def kind : Gl → Int | .mk k _ _ _ _ => k
def t : Gl → Tm | .mk _ t _ _ _ => t
def a : Gl → List Gl | .mk _ _ a _ _ => a
def b : Gl → List Gl | .mk _ _ _ b _ => b
def c : Gl → List Gl | .mk _ _ _ _ c => c
theorem ind {P : Gl → Prop} (h : ∀ k t a b c, (∀ g ∈ a, P g) → (∀ g ∈ b, P g) → (∀ g ∈ c, P g) → P (.mk k t a b c)) : ∀ g, P g := by
  intro g
  refine Gl.rec (motive_1 := P) (motive_2 := fun l => ∀ g ∈ l, P g) ?_ ?_ ?_ g
  · intro k t a b c ha hb hc
    exact h k t a b c ha hb hc
  · intro g hg
    cases hg
  · intro g l hg hl u hu
    rcases List.mem_cons.1 hu with rfl | hu
    · exact hg
    · exact hl u hu
/-- So many goals of 136 bytes can be. -/
abbrev most : Nat := 1034834473200
mutual
/-- What lies in the cells of a goal behind its kind and its term's own fields: the slices of the term's Args, of A, B and C. -/
def inn (w : World) (B : Nat) : Gl → Value → Value → Value → Value → Prop
  | .mk k t a b c, sv, av, bv, cv => (Lit.int .i64 k).wf = true ∧ Tm.inn w B t sv ∧
      (∃ g cap, av = .slice g a.length cap ∧ a.length ≤ cap ∧ a.length ≤ most ∧ (a = [] ∨ ∃ bk off, g = some ⟨bk, off, none⟩ ∧ bk < B ∧ rowIn w B bk off a)) ∧
      (∃ g cap, bv = .slice g b.length cap ∧ b.length ≤ cap ∧ b.length ≤ most ∧ (b = [] ∨ ∃ bk off, g = some ⟨bk, off, none⟩ ∧ bk < B ∧ rowIn w B bk off b)) ∧
      (∃ g cap, cv = .slice g c.length cap ∧ c.length ≤ cap ∧ c.length ≤ most ∧ (c = [] ∨ ∃ bk off, g = some ⟨bk, off, none⟩ ∧ bk < B ∧ rowIn w B bk off c))
def rowIn (w : World) (B : Nat) (bk off : Nat) : List Gl → Prop
  | [] => True
  | g :: r => (∃ sv av bv cv, w.cell? ⟨bk, off, none⟩ = some (.int .i64 g.kind) ∧ w.cell? ⟨bk, off + 1, none⟩ = some (.int .i64 g.t.kind) ∧ w.cell? ⟨bk, off + 2, none⟩ = some (.string g.t.name) ∧ w.cell? ⟨bk, off + 3, none⟩ = some (.int .i64 g.t.n) ∧ w.cell? ⟨bk, off + 4, none⟩ = some sv ∧ w.cell? ⟨bk, off + 5, none⟩ = some av ∧ w.cell? ⟨bk, off + 6, none⟩ = some bv ∧ w.cell? ⟨bk, off + 7, none⟩ = some cv ∧ inn w B g sv av bv cv) ∧
      rowIn w B bk (off + 8) r
end
/-- A slice of goals. -/
def sliceIn (w : World) (B : Nat) (l : List Gl) (v : Value) : Prop :=
  ∃ g cap, v = .slice g l.length cap ∧ l.length ≤ cap ∧ l.length ≤ most ∧ (l = [] ∨ ∃ bk off, g = some ⟨bk, off, none⟩ ∧ bk < B ∧ rowIn w B bk off l)
theorem inn_mk {w : World} {B : Nat} {k : Int} {t : Tm} {a b c : List Gl} {sv av bv cv : Value} : inn w B (.mk k t a b c) sv av bv cv ↔ (Lit.int .i64 k).wf = true ∧ Tm.inn w B t sv ∧ sliceIn w B a av ∧ sliceIn w B b bv ∧ sliceIn w B c cv := by
  simp only [inn, sliceIn]
theorem inn_iff {w : World} {B : Nat} {g : Gl} {sv av bv cv : Value} : inn w B g sv av bv cv ↔ (Lit.int .i64 g.kind).wf = true ∧ Tm.inn w B g.t sv ∧ sliceIn w B g.a av ∧ sliceIn w B g.b bv ∧ sliceIn w B g.c cv := by
  cases g
  exact inn_mk
theorem rowIn_get {w : World} {B bk : Nat} : ∀ {l : List Gl} {off : Nat}, rowIn w B bk off l → ∀ (i : Nat) (h : i < l.length),
    ∃ sv av bv cv, w.cell? ⟨bk, off + i * 8, none⟩ = some (.int .i64 l[i].kind) ∧ w.cell? ⟨bk, off + i * 8 + 1, none⟩ = some (.int .i64 l[i].t.kind) ∧ w.cell? ⟨bk, off + i * 8 + 2, none⟩ = some (.string l[i].t.name) ∧ w.cell? ⟨bk, off + i * 8 + 3, none⟩ = some (.int .i64 l[i].t.n) ∧ w.cell? ⟨bk, off + i * 8 + 4, none⟩ = some sv ∧ w.cell? ⟨bk, off + i * 8 + 5, none⟩ = some av ∧ w.cell? ⟨bk, off + i * 8 + 6, none⟩ = some bv ∧ w.cell? ⟨bk, off + i * 8 + 7, none⟩ = some cv ∧ inn w B l[i] sv av bv cv
  | [], _, _, i, h => absurd h (Nat.not_lt_zero _)
  | g :: r, off, hr, i, h => by
    simp only [rowIn] at hr
    cases i with
    | zero => simpa using hr.1
    | succ i =>
      have := rowIn_get hr.2 i (by simpa using h)
      simpa [show off + 8 + i * 8 = off + (i + 1) * 8 by omega] using this
theorem rowIn_of {w : World} {B bk : Nat} : ∀ {l : List Gl} {off : Nat}, (∀ (i : Nat) (h : i < l.length),
    ∃ sv av bv cv, w.cell? ⟨bk, off + i * 8, none⟩ = some (.int .i64 l[i].kind) ∧ w.cell? ⟨bk, off + i * 8 + 1, none⟩ = some (.int .i64 l[i].t.kind) ∧ w.cell? ⟨bk, off + i * 8 + 2, none⟩ = some (.string l[i].t.name) ∧ w.cell? ⟨bk, off + i * 8 + 3, none⟩ = some (.int .i64 l[i].t.n) ∧ w.cell? ⟨bk, off + i * 8 + 4, none⟩ = some sv ∧ w.cell? ⟨bk, off + i * 8 + 5, none⟩ = some av ∧ w.cell? ⟨bk, off + i * 8 + 6, none⟩ = some bv ∧ w.cell? ⟨bk, off + i * 8 + 7, none⟩ = some cv ∧ inn w B l[i] sv av bv cv) → rowIn w B bk off l
  | [], _, _ => by simp [rowIn]
  | g :: r, off, h => by
    simp only [rowIn]
    refine ⟨?_, rowIn_of fun i hi => ?_⟩
    · have h0 := h 0 (by simp)
      rw [Nat.zero_mul, Nat.add_zero] at h0
      exact h0
    have := h (i + 1) (by simpa using hi)
    simpa [show off + 8 + i * 8 = off + (i + 1) * 8 by omega] using this
theorem rowIn_same {w w' : World} {B B' bk : Nat} {l : List Gl} (hl : ∀ g ∈ l, ∀ sv av bv cv, inn w B g sv av bv cv → inn w' B' g sv av bv cv)
    (hc : ∀ o v, w.cell? ⟨bk, o, none⟩ = some v → w'.cell? ⟨bk, o, none⟩ = some v) {off : Nat} (h : rowIn w B bk off l) : rowIn w' B' bk off l :=
  rowIn_of fun i hi => by
    obtain ⟨sv, av, bv, cv, h0, h1, h2, h3, h4, h5, h6, h7, h8⟩ := rowIn_get h i hi
    exact ⟨sv, av, bv, cv, hc _ _ h0, hc _ _ h1, hc _ _ h2, hc _ _ h3, hc _ _ h4, hc _ _ h5, hc _ _ h6, hc _ _ h7, hl _ (List.getElem_mem hi) _ _ _ _ h8⟩
theorem sliceIn_same {w w' : World} {B B' : Nat} {l : List Gl} (hl : ∀ g ∈ l, ∀ sv av bv cv, inn w B g sv av bv cv → inn w' B' g sv av bv cv) (hB : B ≤ B')
    (hc : ∀ bk o v, bk < B → w.cell? ⟨bk, o, none⟩ = some v → w'.cell? ⟨bk, o, none⟩ = some v) {v : Value} (h : sliceIn w B l v) : sliceIn w' B' l v := by
  obtain ⟨g, cap, rfl, h1, h2, h3⟩ := h
  refine ⟨g, cap, rfl, h1, h2, ?_⟩
  rcases h3 with h3 | ⟨bk, off, rfl, hb, hr⟩
  · exact .inl h3
  · exact .inr ⟨bk, off, rfl, by omega, rowIn_same hl (fun o v => hc bk o v hb) hr⟩
theorem inn_same {w w' : World} {B B' : Nat} (hB : B ≤ B') (hc : ∀ bk o v, bk < B → w.cell? ⟨bk, o, none⟩ = some v → w'.cell? ⟨bk, o, none⟩ = some v) :
    ∀ (g : Gl) (sv av bv cv : Value), inn w B g sv av bv cv → inn w' B' g sv av bv cv := by
  refine ind fun k t a b c ha hb hc' sv av bv cv h => ?_
  rw [inn_mk] at h ⊢
  exact ⟨h.1, Tm.inn_same hB hc t sv h.2.1, sliceIn_same ha hB hc h.2.2.1, sliceIn_same hb hB hc h.2.2.2.1, sliceIn_same hc' hB hc h.2.2.2.2⟩
theorem inn_below {w w' : World} {B n₀ : Nat} {g : Gl} {sv av bv cv : Value} (h : inn w B g sv av bv cv) (hb : Below n₀ w w') (hB : B ≤ n₀) : inn w' B g sv av bv cv :=
  inn_same (Nat.le_refl _) (fun bk o v hlt hc => by rw [hb.cell (p := ⟨bk, o, none⟩) (by show bk < n₀; omega)]; exact hc) g sv av bv cv h
theorem inn_mono {w : World} {B B' : Nat} {g : Gl} {sv av bv cv : Value} (h : inn w B g sv av bv cv) (hB : B ≤ B') : inn w B' g sv av bv cv :=
  inn_same hB (fun _ _ _ _ hc => hc) g sv av bv cv h
theorem sliceIn_below {w w' : World} {B n₀ : Nat} {l : List Gl} {v : Value} (h : sliceIn w B l v) (hb : Below n₀ w w') (hB : B ≤ n₀) : sliceIn w' B l v :=
  sliceIn_same (fun _ _ _ _ _ _ h => inn_below h hb hB) (Nat.le_refl _) (fun bk o v hlt hc => by rw [hb.cell (p := ⟨bk, o, none⟩) (by show bk < n₀; omega)]; exact hc) h
theorem sliceIn_mono {w : World} {B B' : Nat} {l : List Gl} {v : Value} (h : sliceIn w B l v) (hB : B ≤ B') : sliceIn w B' l v :=
  sliceIn_same (fun _ _ _ _ _ _ h => inn_mono h hB) hB (fun _ _ _ _ hc => hc) h
theorem sliceIn_next {w w' : World} {l : List Gl} {v : Value} (h : sliceIn w w.heap.size l v) (hb : Below w.heap.size w w') : sliceIn w' w'.heap.size l v := sliceIn_mono (sliceIn_below h hb (Nat.le_refl _)) hb.size
/-- A goal at its place in a row. -/
theorem sliceIn_get {w : World} {B : Nat} {l : List Gl} {v : Value} (h : sliceIn w B l v) (i : Nat) (hi : i < l.length) :
    ∃ bk off cap sv av bv cv, v = .slice (some ⟨bk, off, none⟩) l.length cap ∧ bk < B ∧ w.cell? ⟨bk, off + i * 8, none⟩ = some (.int .i64 l[i].kind) ∧ w.cell? ⟨bk, off + i * 8 + 1, none⟩ = some (.int .i64 l[i].t.kind) ∧ w.cell? ⟨bk, off + i * 8 + 2, none⟩ = some (.string l[i].t.name) ∧ w.cell? ⟨bk, off + i * 8 + 3, none⟩ = some (.int .i64 l[i].t.n) ∧ w.cell? ⟨bk, off + i * 8 + 4, none⟩ = some sv ∧ w.cell? ⟨bk, off + i * 8 + 5, none⟩ = some av ∧ w.cell? ⟨bk, off + i * 8 + 6, none⟩ = some bv ∧ w.cell? ⟨bk, off + i * 8 + 7, none⟩ = some cv ∧ inn w B l[i] sv av bv cv := by
  obtain ⟨g, cap, rfl, _, _, h | ⟨bk, off, rfl, hb, hr⟩⟩ := h
  · subst h; simp at hi
  · obtain ⟨sv, av, bv, cv, h⟩ := rowIn_get hr i hi
    exact ⟨bk, off, cap, sv, av, bv, cv, rfl, hb, h⟩
mutual
def size : Gl → Nat
  | .mk _ t a b c => t.size + sizes a + sizes b + sizes c + 1
def sizes : List Gl → Nat
  | [] => 0
  | g :: r => g.size + sizes r
end
mutual
def deep : Gl → Nat
  | .mk _ _ a b c => max (deeps a) (max (deeps b) (deeps c)) + 1
def deeps : List Gl → Nat
  | [] => 0
  | g :: r => max g.deep (deeps r)
end
theorem size_le {l : List Gl} {g : Gl} (h : g ∈ l) : g.size ≤ sizes l := by
  induction l with
  | nil => cases h
  | cons u r ih =>
    simp only [sizes]
    rcases List.mem_cons.1 h with rfl | h
    · omega
    · have := ih h; omega
end Gl
end Go.Proofs.YtkjnjahmlobjiaaGreatDoor

namespace Go.Proofs.YtkjnjahmlobjiaaGreatDoor

/-- Of which sort is a byte: 1 a to z, 2 A to Z and _, 3 digits, 4 signs, 5 what stands between; else 0. -/
def sgn (c : UInt8) : Bool := [43, 45, 42, 47, 94, 60, 62, 61, 126, 58, 46, 63, 64, 35, 38, 36].contains c
def srt (c : UInt8) : Nat :=
  if 97 ≤ c.toNat ∧ c.toNat ≤ 122 then 1
  else if (65 ≤ c.toNat ∧ c.toNat ≤ 90) ∨ c.toNat = 95 then 2
  else if 48 ≤ c.toNat ∧ c.toNat ≤ 57 then 3
  else if c.toNat = 32 ∨ c.toNat = 9 ∨ c.toNat = 10 then 5
  else if sgn c ∨ c.toNat = 92 then 4 else 0
def isWord (c : UInt8) : Bool := decide (1 ≤ srt c ∧ srt c ≤ 3)
def isSign (c : UInt8) : Bool := srt c == 4
def isDigit (c : UInt8) : Bool := srt c == 3
theorem srt_lf : srt 10 = 5 := by decide
theorem word_lf : isWord 10 = false := by decide
theorem sign_lf : isSign 10 = false := by decide
theorem digit_lf : isDigit 10 = false := by decide
/-- A token, but for its place. -/
structure Tk where
  kind : Nat
  text : List UInt8
  n : Nat
  opn : Bool
/-- What digits are worth. -/
def dval (l : List UInt8) : Nat := l.foldl (fun n c => 10 * n + (c.toNat - 48)) 0
/-- What digits are; none: no number, or too great a one. -/
def numL (l : List UInt8) : Option Nat := if (l.head? = some 48 ∧ 1 < l.length) ∨ 9223372036854775807 < dval l then none else some (dval l)
/-- What stands between quotes, from behind the first one on, and how many bytes that and the last quote are. -/
def quoL : List UInt8 → Option (List UInt8 × Nat)
  | [] => none
  | c :: r =>
    if c.toNat < 32 ∨ 126 < c.toNat then none
    else if c = 39 then
      match r with
      | d :: q => if d = 39 then (quoL q).map fun x => (39 :: x.1, x.2 + 2) else some ([], 1)
      | [] => some ([], 1)
    else (quoL r).map fun x => (c :: x.1, x.2 + 1)
def opens (l : List UInt8) : Bool := l.head? == some 40
/-- A Name, an Upper: its Text has 1 to 20 bytes. -/
def nameL (kind : Nat) (text rest : List UInt8) (k : Nat) : Option (Tk × Nat) := if 1 ≤ text.length ∧ text.length ≤ 20 then some (⟨kind, text, 0, opens rest⟩, k) else none
def ends (l : List UInt8) : Bool := match l with | [] => true | c :: _ => srt c == 5 || c == 37
/-- The token at a place, and how many bytes it has. -/
def oneL (l : List UInt8) : Option (Tk × Nat) :=
  match l with
  | [] => none
  | c :: r =>
    if srt c = 1 ∨ srt c = 2 then nameL (srt c) (l.takeWhile isWord) (l.dropWhile isWord) (l.takeWhile isWord).length
    else if srt c = 3 then (numL (l.takeWhile isDigit)).map fun n => (⟨3, l.takeWhile isDigit, n, false⟩, (l.takeWhile isDigit).length)
    else if c = 39 then (quoL r).bind fun x => nameL 1 x.1 (r.drop x.2) (x.2 + 1)
    else if c = 91 ∧ r.head? = some 93 then nameL 1 [91, 93] (r.drop 1) 2
    else if c = 33 ∨ c = 59 then nameL 1 [c] r 1
    else if c = 40 ∨ c = 41 ∨ c = 91 ∨ c = 93 ∨ c = 124 ∨ c = 44 then some (⟨4, [c], 0, false⟩, 1)
    else if c = 46 ∧ (l.takeWhile isSign).length = 1 ∧ ends (l.dropWhile isSign) = true then some (⟨5, [46], 0, false⟩, 1)
    else nameL 1 (l.takeWhile isSign) (l.dropWhile isSign) (l.takeWhile isSign).length
/-- The tokens of a text with their places, from a place on; or the place at which there is none. -/
def lexL (cm : Bool) (at' : Nat) : List UInt8 → Sum Nat (List (Tk × Nat))
  | [] => .inr []
  | c :: r =>
    if cm = true ∨ c = 37 then lexL (decide (c ≠ 10)) (at' + 1) r
    else if srt c = 5 then lexL false (at' + 1) r
    else match oneL (c :: r) with
      | none => .inl at'
      | some (t, k) => match lexL false (at' + k) (r.drop (k - 1)) with
        | .inl b => .inl b
        | .inr l => .inr ((t, at') :: l)
termination_by l => l.length
decreasing_by
  all_goals simp
  all_goals omega

/-! ### a text behind a text -/
theorem tw_join {p : UInt8 → Bool} (hp : p 10 = false) (b : List UInt8) : ∀ a : List UInt8, (a ++ 10 :: b).takeWhile p = a.takeWhile p ∧ (a ++ 10 :: b).dropWhile p = a.dropWhile p ++ 10 :: b
  | [] => by simp [List.takeWhile, List.dropWhile, hp]
  | c :: r => by
    obtain ⟨h1, h2⟩ := tw_join hp b r
    by_cases h : p c = true
    · constructor <;> simp [h, h1, h2]
    · constructor <;> simp [h]
theorem opens_join (x b : List UInt8) : opens (x ++ 10 :: b) = opens x := by cases x <;> simp [opens]
theorem ends_join (x b : List UInt8) : ends (x ++ 10 :: b) = ends x := by
  cases x with
  | nil => simp [ends, srt_lf]
  | cons c r => simp [ends]
theorem tw_len {p : UInt8 → Bool} (a : List UInt8) : (a.takeWhile p).length ≤ a.length := (List.takeWhile_sublist p).length_le
theorem quoL_nil : quoL [] = none := by rw [quoL.eq_def]
theorem quoL_bad {c : UInt8} (r : List UInt8) (h : c.toNat < 32 ∨ 126 < c.toNat) : quoL (c :: r) = none := by
  rw [quoL.eq_def]
  simp only [if_pos h]
theorem quoL_two {q : List UInt8} : quoL (39 :: 39 :: q) = (quoL q).map fun x => (39 :: x.1, x.2 + 2) := by
  rw [quoL.eq_def]
  simp
theorem quoL_end {r : List UInt8} (h : r.head? ≠ some 39) : quoL (39 :: r) = some ([], 1) := by
  rw [quoL.eq_def]
  cases r with
  | nil => simp
  | cons d q =>
    have hd : ¬ d = 39 := fun e => h (by simp [e])
    simp [hd]
theorem quoL_one {c : UInt8} (r : List UInt8) (h : ¬ (c.toNat < 32 ∨ 126 < c.toNat)) (hn : ¬ c = 39) : quoL (c :: r) = (quoL r).map fun x => (c :: x.1, x.2 + 1) := by
  rw [quoL.eq_def]
  simp only [if_neg h, if_neg hn]
theorem quo_join (b : List UInt8) : ∀ (n : Nat) (r tx : List UInt8) (k : Nat), r.length ≤ n → quoL r = some (tx, k) → quoL (r ++ 10 :: b) = some (tx, k) ∧ 1 ≤ k ∧ k ≤ r.length
  | _, [], tx, k, _, h => by rw [quoL_nil] at h; cases h
  | 0, _ :: _, _, _, hn, _ => by simp at hn
  | n + 1, c :: r, tx, k, hn, h => by
    simp only [List.length_cons] at hn ⊢
    by_cases hc : c.toNat < 32 ∨ 126 < c.toNat
    · rw [quoL_bad r hc] at h; cases h
    by_cases hq : c = 39
    · subst hq
      by_cases hr : r.head? = some 39
      · obtain ⟨q, rfl⟩ : ∃ q, r = 39 :: q := by
          cases r with
          | nil => simp at hr
          | cons d q => simp at hr; exact ⟨q, by rw [hr]⟩
        rw [quoL_two] at h
        simp only [Option.map_eq_some_iff, Prod.mk.injEq] at h
        obtain ⟨⟨tx', k'⟩, h1, rfl, rfl⟩ := h
        simp only [List.length_cons] at hn ⊢
        obtain ⟨h2, h3, h4⟩ := quo_join b n q tx' k' (by omega) h1
        refine ⟨?_, by omega, by omega⟩
        simp only [List.cons_append]
        rw [quoL_two, h2]
        rfl
      · rw [quoL_end hr] at h
        injection h with h
        injection h with h1 h2
        subst h1 h2
        refine ⟨?_, by omega, by omega⟩
        simp only [List.cons_append]
        refine quoL_end fun e => hr ?_
        cases r with
        | nil => simp at e
        | cons d q => exact e
    · rw [quoL_one r hc hq] at h
      simp only [Option.map_eq_some_iff, Prod.mk.injEq] at h
      obtain ⟨⟨tx', k'⟩, h1, rfl, rfl⟩ := h
      obtain ⟨h2, h3, h4⟩ := quo_join b n r tx' k' (by omega) h1
      refine ⟨?_, by omega, by omega⟩
      simp only [List.cons_append]
      rw [quoL_one _ hc hq, h2]
      rfl
theorem name_join {kind : Nat} {text rest b : List UInt8} {k : Nat} : nameL kind text (rest ++ 10 :: b) k = nameL kind text rest k := by unfold nameL; rw [opens_join]
theorem name_says {kind : Nat} {text rest : List UInt8} {k : Nat} {t : Tk} {q : Nat} (h : nameL kind text rest k = some (t, q)) : q = k ∧ t = ⟨kind, text, 0, opens rest⟩ ∧ 1 ≤ text.length ∧ text.length ≤ 20 := by
  unfold nameL at h
  split at h
  · rename_i hl
    injection h with h
    injection h with h1 h2
    exact ⟨h2.symm, h1.symm, hl.1, hl.2⟩
  · cases h
/-- What stands at a place stands there also if a line feed and more come behind. -/
theorem one_join (b : List UInt8) {a : List UInt8} {t : Tk} {k : Nat} (h : oneL a = some (t, k)) : oneL (a ++ 10 :: b) = some (t, k) ∧ 1 ≤ k ∧ k ≤ a.length := by
  cases a with
  | nil => simp [oneL] at h
  | cons c r =>
    have jw := tw_join word_lf b (c :: r)
    have js := tw_join sign_lf b (c :: r)
    have jd := tw_join digit_lf b (c :: r)
    have lw := tw_len (p := isWord) (c :: r)
    have ls := tw_len (p := isSign) (c :: r)
    have ld := tw_len (p := isDigit) (c :: r)
    simp only [List.cons_append] at jw js jd
    unfold oneL at h ⊢
    simp only [List.cons_append] at h ⊢
    rw [jw.1, jw.2, js.1, js.2, jd.1]
    by_cases h1 : srt c = 1 ∨ srt c = 2
    · rw [if_pos h1] at h ⊢
      rw [name_join]
      have := name_says h
      exact ⟨h, by omega, by omega⟩
    rw [if_neg h1] at h ⊢
    by_cases h3 : srt c = 3
    · rw [if_pos h3] at h ⊢
      refine ⟨h, ?_⟩
      simp only [Option.map_eq_some_iff, Prod.mk.injEq] at h
      obtain ⟨n, _, _, rfl⟩ := h
      have hd : isDigit c = true := by simp [isDigit, h3]
      refine ⟨by rw [List.takeWhile_cons, if_pos hd]; simp, ld⟩
    rw [if_neg h3] at h ⊢
    by_cases hq : c = 39
    · rw [if_pos hq] at h ⊢
      simp only [Option.bind_eq_some_iff] at h
      obtain ⟨⟨tx, q⟩, h4, h5⟩ := h
      obtain ⟨h6, h7, h8⟩ := quo_join b r.length r tx q (Nat.le_refl _) h4
      have := name_says h5
      refine ⟨?_, by omega, by simp only [List.length_cons]; omega⟩
      rw [h6]
      simp only [Option.bind_some]
      rw [List.drop_append_of_le_length h8, name_join]
      exact h5
    rw [if_neg hq] at h ⊢
    by_cases hb : c = 91 ∧ r.head? = some 93
    · have hb' : c = 91 ∧ (r ++ 10 :: b).head? = some 93 := by
        obtain ⟨e1, e2⟩ := hb
        cases r with
        | nil => simp at e2
        | cons d q => exact ⟨e1, e2⟩
      rw [if_pos hb] at h
      rw [if_pos hb']
      have := name_says h
      have hr : 1 ≤ r.length := by
        cases r with
        | nil => simp at hb
        | cons d q => simp
      rw [List.drop_append_of_le_length hr, name_join]
      exact ⟨h, by omega, by simp only [List.length_cons]; omega⟩
    have hb' : ¬ (c = 91 ∧ (r ++ 10 :: b).head? = some 93) := by
      rintro ⟨e1, e2⟩
      refine hb ⟨e1, ?_⟩
      cases r with
      | nil => simp at e2
      | cons d q => exact e2
    rw [if_neg hb] at h
    rw [if_neg hb']
    by_cases h5 : c = 33 ∨ c = 59
    · rw [if_pos h5] at h ⊢
      rw [name_join]
      have := name_says h
      exact ⟨h, by omega, by simp only [List.length_cons]; omega⟩
    rw [if_neg h5] at h ⊢
    by_cases h6 : c = 40 ∨ c = 41 ∨ c = 91 ∨ c = 93 ∨ c = 124 ∨ c = 44
    · rw [if_pos h6] at h ⊢
      have h7 := h
      injection h7 with h7
      injection h7 with _ h7
      exact ⟨h, by omega, by simp only [List.length_cons]; omega⟩
    rw [if_neg h6] at h ⊢
    rw [ends_join]
    by_cases h8 : c = 46 ∧ (List.takeWhile isSign (c :: r)).length = 1 ∧ ends (List.dropWhile isSign (c :: r)) = true
    · rw [if_pos h8] at h ⊢
      have h7 := h
      injection h7 with h7
      injection h7 with _ h7
      exact ⟨h, by omega, by simp only [List.length_cons]; omega⟩
    rw [if_neg h8] at h ⊢
    rw [name_join]
    have := name_says h
    exact ⟨h, by omega, by omega⟩

/-! ### where tokens stand, and tokens alone -/
theorem tw_take {p : UInt8 → Bool} (a : List UInt8) : a.take (a.takeWhile p).length = a.takeWhile p := (List.prefix_iff_eq_take.1 (List.takeWhile_prefix p)).symm
/-! ### the tokens step by step -/
theorem lexL_nil (cm : Bool) (at' : Nat) : lexL cm at' [] = .inr [] := by rw [lexL]
theorem lexL_skip {cm : Bool} {at' : Nat} {c : UInt8} {r : List UInt8} (h : cm = true ∨ c = 37) : lexL cm at' (c :: r) = lexL (decide (c ≠ 10)) (at' + 1) r := by
  rw [lexL, if_pos h]
theorem lexL_gap {cm : Bool} {at' : Nat} {c : UInt8} {r : List UInt8} (h : ¬ (cm = true ∨ c = 37)) (h5 : srt c = 5) : lexL cm at' (c :: r) = lexL false (at' + 1) r := by
  rw [lexL, if_neg h, if_pos h5]
theorem lexL_bad {cm : Bool} {at' : Nat} {c : UInt8} {r : List UInt8} (h : ¬ (cm = true ∨ c = 37)) (h5 : ¬ srt c = 5) (ho : oneL (c :: r) = none) : lexL cm at' (c :: r) = .inl at' := by
  rw [lexL, if_neg h, if_neg h5, ho]
/-- What stands ahead of what is read further. -/
def preL (la : List (Tk × Nat)) : Sum Nat (List (Tk × Nat)) → Sum Nat (List (Tk × Nat))
  | .inl b => .inl b
  | .inr l => .inr (la ++ l)
theorem lexL_tok {cm : Bool} {at' : Nat} {c : UInt8} {r : List UInt8} {t : Tk} {k : Nat} (h : ¬ (cm = true ∨ c = 37)) (h5 : ¬ srt c = 5) (ho : oneL (c :: r) = some (t, k)) : lexL cm at' (c :: r) = preL [(t, at')] (lexL false (at' + k) (r.drop (k - 1))) := by
  rw [lexL, if_neg h, if_neg h5, ho]
  dsimp only
  cases lexL false (at' + k) (r.drop (k - 1)) <;> rfl
theorem preL_inr {la : List (Tk × Nat)} {x : Sum Nat (List (Tk × Nat))} {l : List (Tk × Nat)} (h : preL la x = .inr l) : ∃ q, x = .inr q ∧ l = la ++ q := by
  cases x with
  | inl b => cases h
  | inr q => injection h with h; exact ⟨q, rfl, h.symm⟩
theorem preL_pre (la lb : List (Tk × Nat)) (x : Sum Nat (List (Tk × Nat))) : preL la (preL lb x) = preL (la ++ lb) x := by cases x <;> simp [preL]
theorem preL_nil (x : Sum Nat (List (Tk × Nat))) : preL [] x = x := by cases x <;> simp [preL]
/-- What the tokens of a text are, where they stand. -/
structure Stand (l : List UInt8) (at' : Nat) (x : Tk × Nat) : Prop where
  lo : at' ≤ x.2
  hi : x.2 < at' + l.length
  opn : x.1.opn = true → x.1.kind ≤ 2
  text : ∀ c, l[x.2 - at']? = some c → c ≠ 39 → x.1.kind ≠ 5 → x.2 - at' + x.1.text.length ≤ l.length ∧ (l.drop (x.2 - at')).take x.1.text.length = x.1.text
  alone : ∀ c, l[x.2 - at']? = some c → c ≠ 39 → x.1.kind ≠ 5 → x.1.text ≠ [46] → lexL false 0 (x.1.text ++ [32]) = .inr [(⟨x.1.kind, x.1.text, x.1.n, false⟩, 0)]
theorem Stand.behind {l r : List UInt8} {at' k : Nat} {x : Tk × Nat} (hk : k ≤ l.length) (hr : r = l.drop k) (h : Stand r (at' + k) x) : Stand l at' x := by
  subst hr
  have h1 := h.lo
  have h2 := h.hi
  simp only [List.length_drop] at h2
  have e : ∀ c, l[x.2 - at']? = some c → (l.drop k)[x.2 - (at' + k)]? = some c := fun c hc => by
    rw [List.getElem?_drop, show k + (x.2 - (at' + k)) = x.2 - at' by omega]
    exact hc
  refine ⟨by omega, by omega, h.opn, fun c hc hq h5 => ?_, fun c hc => h.alone c (e c hc)⟩
  obtain ⟨g1, g2⟩ := h.text c (e c hc) hq h5
  simp only [List.length_drop, List.drop_drop] at g1 g2
  rw [show k + (x.2 - (at' + k)) = x.2 - at' by omega] at g2
  exact ⟨by omega, g2⟩
end Go.Proofs.YtkjnjahmlobjiaaGreatDoor

namespace Go.Proofs.YtkjnjahmlobjiaaGreatDoor

/-! ### numbers, digit by digit -/
def dfrom (n : Nat) (l : List UInt8) : Nat := l.foldl (fun n c => 10 * n + (c.toNat - 48)) n
theorem dfrom_eq : ∀ (l : List UInt8) (n : Nat), dfrom n l = n * 10 ^ l.length + dval l
  | [], n => by simp [dfrom, dval]
  | c :: r, n => by
    have h1 := dfrom_eq r (10 * n + (c.toNat - 48))
    have h2 := dfrom_eq r (c.toNat - 48)
    have e1 : dfrom n (c :: r) = dfrom (10 * n + (c.toNat - 48)) r := rfl
    have e2 : dval (c :: r) = dfrom (c.toNat - 48) r := by simp [dval, dfrom]
    rw [e1, e2, h1, h2, List.length_cons, Nat.pow_succ, Nat.add_mul]
    have : 10 * n * 10 ^ r.length = n * (10 ^ r.length * 10) := by
      rw [Nat.mul_comm 10 n, Nat.mul_assoc, Nat.mul_comm 10]
    omega
theorem dig_says {c : UInt8} (h : isDigit c = true) : 48 ≤ c.toNat ∧ c.toNat ≤ 57 := by
  simp only [isDigit, beq_iff_eq, srt] at h
  split at h
  · omega
  · split at h
    · omega
    · split at h
      · assumption
      · split at h
        · omega
        · split at h <;> omega
end Go.Proofs.YtkjnjahmlobjiaaGreatDoor
