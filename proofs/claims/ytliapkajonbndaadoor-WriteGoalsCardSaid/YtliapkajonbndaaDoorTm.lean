/-
  Terms as a tree, how they lie in memory, and what the document's functions on them are: no program here.
-/
import Derived.WalkKit
namespace Go.Proofs.YtliapkajonbndaaDoor
open Go.RowKit

theorem neS {a b : ByteArray} (h : a ≠ b) : ¬ a.toList = b.toList := fun e => h (by
  rw [ByteArray.toList_eq, ByteArray.toList_eq] at e
  cases a; cases b
  congr 1
  exact Array.toList_inj.1 e)

theorem size0 (s : ByteArray) : s.size = 0 ↔ s.toList = [] := by
  rw [ByteArray.toList_eq]
  constructor
  · intro h
    exact List.length_eq_zero_iff.1 (by simpa using h)
  · intro h
    have := congrArg List.length h
    simpa using this
theorem ret_bool {a b : Bool} (h : a = b) : Ending.returned (.bool a) = .returned (.bool b) := by rw [h]
theorem ret_int {k : IntKind} {a b : Int} (h : a = b) : Ending.returned (.int k a) = .returned (.int k b) := by rw [h]

/-- A term: any fields, any terms in it. -/
inductive Tm where
  | mk (kind : Int) (name : ByteArray) (n : Int) (args : List Tm)

namespace Tm
def kind : Tm → Int | .mk k _ _ _ => k
def name : Tm → ByteArray | .mk _ s _ _ => s
def n : Tm → Int | .mk _ _ n _ => n
def args : Tm → List Tm | .mk _ _ _ l => l

theorem ind {P : Tm → Prop} (h : ∀ k s n l, (∀ t ∈ l, P t) → P (.mk k s n l)) : ∀ t, P t := by
  intro t
  refine Tm.rec (motive_1 := P) (motive_2 := fun l => ∀ t ∈ l, P t) ?_ ?_ ?_ t
  · intro k s n l ih
    exact h k s n l ih
  · intro t ht
    cases ht
  · intro t l ht hl u hu
    rcases List.mem_cons.1 hu with rfl | hu
    · exact ht
    · exact hl u hu

mutual
def size : Tm → Nat
  | .mk _ _ _ l => sizes l + 1
def sizes : List Tm → Nat
  | [] => 0
  | t :: r => t.size + sizes r
end

mutual
def deep : Tm → Nat
  | .mk _ _ _ l => deeps l + 1
def deeps : List Tm → Nat
  | [] => 0
  | t :: r => max t.deep (deeps r)
end

/-- Numbers are of 64 bits; names no longer than strings can be. -/
def headOk : Tm → Prop
  | .mk k s n _ => (Lit.int .i64 k).wf = true ∧ s.size ≤ maxLen ∧ (Lit.int .i64 n).wf = true

mutual
/-- 'sv' is the slice of the Args of a term that lies in 'w' below block B. -/
def inn (w : World) (B : Nat) : Tm → Value → Prop
  | .mk k s n l, sv => ((Lit.int .i64 k).wf = true ∧ s.size ≤ maxLen ∧ (Lit.int .i64 n).wf = true) ∧
      ∃ g cap, sv = .slice g l.length cap ∧ l.length ≤ cap ∧ l.length ≤ 2513169434900 ∧ (l = [] ∨ ∃ b off, g = some ⟨b, off, none⟩ ∧ b < B ∧ rowIn w B b off l)
def rowIn (w : World) (B : Nat) (b off : Nat) : List Tm → Prop
  | [] => True
  | t :: r => (∃ sv, w.cell? ⟨b, off, none⟩ = some (.int .i64 t.kind) ∧ w.cell? ⟨b, off + 1, none⟩ = some (.string t.name) ∧ w.cell? ⟨b, off + 2, none⟩ = some (.int .i64 t.n) ∧ w.cell? ⟨b, off + 3, none⟩ = some sv ∧ inn w B t sv) ∧
      rowIn w B b (off + 4) r
end

/-- A slice of terms. -/
def sliceIn (w : World) (B : Nat) (l : List Tm) (sv : Value) : Prop :=
  ∃ g cap, sv = .slice g l.length cap ∧ l.length ≤ cap ∧ l.length ≤ 2513169434900 ∧ (l = [] ∨ ∃ b off, g = some ⟨b, off, none⟩ ∧ b < B ∧ rowIn w B b off l)

theorem inn_mk {w : World} {B : Nat} {k : Int} {s : ByteArray} {n : Int} {l : List Tm} {sv : Value} :
    inn w B (.mk k s n l) sv ↔ ((Lit.int .i64 k).wf = true ∧ s.size ≤ maxLen ∧ (Lit.int .i64 n).wf = true) ∧ sliceIn w B l sv := by
  simp only [inn, sliceIn]

theorem inn_iff {w : World} {B : Nat} {t : Tm} {sv : Value} : inn w B t sv ↔ t.headOk ∧ sliceIn w B t.args sv := by
  cases t
  exact inn_mk

theorem rowIn_get {w : World} {B b : Nat} : ∀ {l : List Tm} {off : Nat}, rowIn w B b off l → ∀ (i : Nat) (h : i < l.length),
    ∃ sv, w.cell? ⟨b, off + i * 4, none⟩ = some (.int .i64 l[i].kind) ∧ w.cell? ⟨b, off + i * 4 + 1, none⟩ = some (.string l[i].name) ∧ w.cell? ⟨b, off + i * 4 + 2, none⟩ = some (.int .i64 l[i].n) ∧ w.cell? ⟨b, off + i * 4 + 3, none⟩ = some sv ∧ inn w B l[i] sv
  | [], _, _, i, h => absurd h (Nat.not_lt_zero _)
  | t :: r, off, hr, i, h => by
    simp only [rowIn] at hr
    cases i with
    | zero => simpa using hr.1
    | succ i =>
      have := rowIn_get hr.2 i (by simpa using h)
      simpa [show off + 4 + i * 4 = off + (i + 1) * 4 by omega] using this

theorem rowIn_of {w : World} {B b : Nat} : ∀ {l : List Tm} {off : Nat}, (∀ (i : Nat) (h : i < l.length),
    ∃ sv, w.cell? ⟨b, off + i * 4, none⟩ = some (.int .i64 l[i].kind) ∧ w.cell? ⟨b, off + i * 4 + 1, none⟩ = some (.string l[i].name) ∧ w.cell? ⟨b, off + i * 4 + 2, none⟩ = some (.int .i64 l[i].n) ∧ w.cell? ⟨b, off + i * 4 + 3, none⟩ = some sv ∧ inn w B l[i] sv) → rowIn w B b off l
  | [], _, _ => by simp [rowIn]
  | t :: r, off, h => by
    simp only [rowIn]
    refine ⟨h 0 (by simp), rowIn_of fun i hi => ?_⟩
    have := h (i + 1) (by simpa using hi)
    simpa [show off + 4 + i * 4 = off + (i + 1) * 4 by omega] using this

theorem rowIn_same {w w' : World} {B B' b : Nat} {l : List Tm} (hl : ∀ t ∈ l, ∀ sv, inn w B t sv → inn w' B' t sv)
    (hc : ∀ o v, w.cell? ⟨b, o, none⟩ = some v → w'.cell? ⟨b, o, none⟩ = some v) {off : Nat} (h : rowIn w B b off l) : rowIn w' B' b off l :=
  rowIn_of fun i hi => by
    obtain ⟨sv, h0, h1, h2, h3, h4⟩ := rowIn_get h i hi
    exact ⟨sv, hc _ _ h0, hc _ _ h1, hc _ _ h2, hc _ _ h3, hl _ (List.getElem_mem hi) _ h4⟩

theorem sliceIn_same {w w' : World} {B B' : Nat} {l : List Tm} (hl : ∀ t ∈ l, ∀ sv, inn w B t sv → inn w' B' t sv) (hB : B ≤ B')
    (hc : ∀ b o v, b < B → w.cell? ⟨b, o, none⟩ = some v → w'.cell? ⟨b, o, none⟩ = some v) {sv : Value} (h : sliceIn w B l sv) : sliceIn w' B' l sv := by
  obtain ⟨g, cap, rfl, h1, h2, h3⟩ := h
  refine ⟨g, cap, rfl, h1, h2, ?_⟩
  rcases h3 with h3 | ⟨b, off, rfl, hb, hr⟩
  · exact .inl h3
  · exact .inr ⟨b, off, rfl, by omega, rowIn_same hl (fun o v => hc b o v hb) hr⟩

theorem inn_same {w w' : World} {B B' : Nat} (hB : B ≤ B') (hc : ∀ b o v, b < B → w.cell? ⟨b, o, none⟩ = some v → w'.cell? ⟨b, o, none⟩ = some v) :
    ∀ (t : Tm) (sv : Value), inn w B t sv → inn w' B' t sv := by
  refine ind fun k s n l ih sv h => ?_
  rw [inn_mk] at h ⊢
  exact ⟨h.1, sliceIn_same ih hB hc h.2⟩

theorem inn_below {w w' : World} {B n₀ : Nat} {t : Tm} {sv : Value} (h : inn w B t sv) (hb : Below n₀ w w') (hB : B ≤ n₀) : inn w' B t sv :=
  inn_same (Nat.le_refl _) (fun b o v hlt hc => by rw [hb.cell (p := ⟨b, o, none⟩) (by show b < n₀; omega)]; exact hc) t sv h

theorem inn_mono {w : World} {B B' : Nat} {t : Tm} {sv : Value} (h : inn w B t sv) (hB : B ≤ B') : inn w B' t sv :=
  inn_same hB (fun _ _ _ _ hc => hc) t sv h

theorem sliceIn_below {w w' : World} {B n₀ : Nat} {l : List Tm} {sv : Value} (h : sliceIn w B l sv) (hb : Below n₀ w w') (hB : B ≤ n₀) : sliceIn w' B l sv :=
  sliceIn_same (fun _ _ _ h => inn_below h hb hB) (Nat.le_refl _) (fun b o v hlt hc => by rw [hb.cell (p := ⟨b, o, none⟩) (by show b < n₀; omega)]; exact hc) h

theorem sliceIn_mono {w : World} {B B' : Nat} {l : List Tm} {sv : Value} (h : sliceIn w B l sv) (hB : B ≤ B') : sliceIn w B' l sv :=
  sliceIn_same (fun _ _ _ h => inn_mono h hB) hB (fun _ _ _ _ hc => hc) h

/-- What a walk wants of element i. -/
theorem sliceIn_get {w : World} {B : Nat} {l : List Tm} {g : Option Addr} {len cap : Nat} (h : sliceIn w B l (.slice g len cap)) (i : Nat) (hi : i < l.length) :
    ∃ b off sv, g = some ⟨b, off, none⟩ ∧ b < B ∧ w.cell? ⟨b, off + i * 4, none⟩ = some (.int .i64 l[i].kind) ∧ w.cell? ⟨b, off + i * 4 + 1, none⟩ = some (.string l[i].name) ∧
      w.cell? ⟨b, off + i * 4 + 2, none⟩ = some (.int .i64 l[i].n) ∧ w.cell? ⟨b, off + i * 4 + 3, none⟩ = some sv ∧ inn w B l[i] sv := by
  obtain ⟨g', cap', he, h1, h2, h3⟩ := h
  injection he with e1 e2 e3
  subst e1
  rcases h3 with rfl | ⟨b, off, rfl, hb, hr⟩
  · simp at hi
  · obtain ⟨sv, hh⟩ := rowIn_get hr i hi
    exact ⟨b, off, sv, rfl, hb, hh⟩

theorem size_pos (t : Tm) : 0 < t.size := by cases t; simp [size]
theorem sizes_take_succ (l : List Tm) (i : Nat) (h : i < l.length) : sizes (l.take (i + 1)) = sizes (l.take i) + l[i].size := by
  induction l generalizing i with
  | nil => simp at h
  | cons t r ih =>
    cases i with
    | zero => simp [sizes]
    | succ i =>
      have := ih i (by simpa using h)
      simp only [List.take_succ_cons, sizes, List.getElem_cons_succ] at this ⊢
      omega
theorem sizes_take_le (l : List Tm) (i : Nat) : sizes (l.take i) ≤ sizes l := by
  induction l generalizing i with
  | nil => simp [sizes]
  | cons t r ih =>
    cases i with
    | zero => simp [sizes]
    | succ i =>
      have := ih i
      simp only [List.take_succ_cons, sizes] at this ⊢
      omega
theorem size_mem_le {l : List Tm} {t : Tm} (h : t ∈ l) : t.size ≤ sizes l := by
  induction l with
  | nil => cases h
  | cons u r ih =>
    rcases List.mem_cons.1 h with rfl | h
    · simp [sizes]
    · have := ih h
      simp only [sizes]
      omega
theorem length_le_sizes (l : List Tm) : l.length ≤ sizes l := by
  induction l with
  | nil => simp
  | cons t r ih =>
    have := t.size_pos
    simp only [sizes, List.length_cons]
    omega

theorem deep_pos (t : Tm) : 0 < t.deep := by cases t; simp [deep]
theorem deeps_take_succ (l : List Tm) (i : Nat) (h : i < l.length) : deeps (l.take (i + 1)) = max (deeps (l.take i)) l[i].deep := by
  induction l generalizing i with
  | nil => simp at h
  | cons t r ih =>
    cases i with
    | zero => simp [deeps]
    | succ i =>
      have := ih i (by simpa using h)
      simp only [List.take_succ_cons, deeps, List.getElem_cons_succ] at this ⊢
      rw [this]; omega
theorem deeps_take_le (l : List Tm) (i : Nat) : deeps (l.take i) ≤ deeps l := by
  induction l generalizing i with
  | nil => simp [deeps]
  | cons t r ih =>
    cases i with
    | zero => simp [deeps]
    | succ i =>
      have := ih i
      simp only [List.take_succ_cons, deeps] at this ⊢
      omega
theorem deeps_le_sizes (l : List Tm) (h : ∀ t ∈ l, t.deep ≤ t.size) : deeps l ≤ sizes l := by
  induction l with
  | nil => simp [deeps]
  | cons t r ih =>
    have h1 := h t (by simp)
    have h2 := ih (fun u hu => h u (by simp [hu]))
    simp only [sizes, deeps]
    omega
theorem deep_le_size : ∀ t : Tm, t.deep ≤ t.size := ind fun k s n l ih => by
  have := deeps_le_sizes l ih
  simp only [size, deep]; omega

/-- A byte that a name may have. -/
def byteOk (c : UInt8) : Bool := decide (32 ≤ c.toNat) && decide (c.toNat ≤ 126)
def nameOk (s : ByteArray) : Bool := s.data.toList.all byteOk
/-- A term's own fields. -/
def alone (k : Int) (s : ByteArray) (n : Int) (m : Nat) : Bool :=
  if k = 1 then decide (0 ≤ n) && decide (n < 1000000) && decide (s.toList = []) && ((m : Int) == 0)
  else if k = 2 then decide (s.toList = []) && ((m : Int) == 0)
  else if k = 3 then decide (n = 0) && decide (1 ≤ (s.size : Int)) && decide ((s.size : Int) ≤ 20) && decide ((m : Int) ≤ 8)
  else false
mutual
def fair : Tm → Bool
  | .mk k s n l => nameOk s && fairs l && alone k s n l.length
def fairs : List Tm → Bool
  | [] => true
  | t :: r => t.fair && fairs r
end
theorem fairs_all (l : List Tm) : fairs l = l.all fair := by
  induction l with
  | nil => simp [fairs]
  | cons t r ih => simp [fairs, ih]
def right (t : Tm) : Bool := t.fair && decide (t.size ≤ 3000) && decide (t.deep ≤ 100)

mutual
/-- Have Vars no Args, here and in all terms inside? -/
def noArgs : Tm → Bool
  | .mk k _ _ l => (if k = 1 ∧ 0 < l.length then false else true) && plain l
def plain : List Tm → Bool
  | [] => true
  | t :: r => t.noArgs && plain r
end
theorem plain_all (l : List Tm) : plain l = l.all noArgs := by
  induction l with
  | nil => simp [plain]
  | cons t r ih => simp [plain, ih]

mutual
/-- Are two terms alike? -/
def same : Tm → Tm → Bool
  | .mk k s n l, u => decide (k = u.kind) && decide (n = u.n) && decide (s = u.name) && sames l u.args
def sames : List Tm → List Tm → Bool
  | [], [] => true
  | [], _ :: _ => false
  | _ :: _, [] => false
  | t :: r, u :: q => t.same u && sames r q
end
theorem sames_iff (l m : List Tm) (h : ∀ t ∈ l, ∀ u, t.same u = true ↔ t = u) : sames l m = true ↔ l = m := by
  induction l generalizing m with
  | nil => cases m <;> simp [sames]
  | cons t r ih =>
    cases m with
    | nil => simp [sames]
    | cons u q =>
      have h1 := h t (by simp) u
      have h2 := ih q (fun v hv => h v (by simp [hv]))
      simp only [sames, Bool.and_eq_true, h1, h2, List.cons.injEq]
theorem same_iff : ∀ (t u : Tm), t.same u = true ↔ t = u := ind fun k s n l ih u => by
  obtain ⟨k', s', n', l'⟩ := u
  have := sames_iff l l' ih
  simp only [same, kind, Tm.n, name, args, Bool.and_eq_true, this, Tm.mk.injEq]
  constructor
  · rintro ⟨⟨⟨h1, h2⟩, h3⟩, h4⟩
    exact ⟨of_decide_eq_true h1, of_decide_eq_true h3, of_decide_eq_true h2, h4⟩
  · rintro ⟨rfl, rfl, rfl, rfl⟩
    exact ⟨⟨⟨decide_eq_true rfl, decide_eq_true rfl⟩, decide_eq_true rfl⟩, rfl⟩
instance : DecidableEq Tm := fun a b => if h : a.same b = true then .isTrue ((same_iff a b).1 h) else .isFalse fun e => h ((same_iff a b).2 e)
theorem same_eq (a b : Tm) : a.same b = decide (a = b) := by
  rw [Bool.eq_iff_iff]; simp [same_iff]

mutual
/-- How many more terms there may be behind this one; below 0: too many, too deep, or too long a name. -/
def few : Tm → Int → Int → Int
  | .mk _ s _ l, most, d => if most - 1 < 0 ∨ d < 1 ∨ 100 < (s.size : Int) then -1 else fews l (most - 1) (d - 1)
def fews : List Tm → Int → Int → Int
  | [], m, _ => m
  | t :: r, m, d => if m < 0 then m else fews r (t.few m d) d
end
theorem fews_neg (l : List Tm) (m d : Int) (h : m < 0) : fews l m d = m := by cases l <;> simp [fews, h]
theorem fews_take_succ (l : List Tm) (i : Nat) (h : i < l.length) (m d : Int) (hm : 0 ≤ fews (l.take i) m d) : fews (l.take (i + 1)) m d = l[i].few (fews (l.take i) m d) d := by
  induction l generalizing i m with
  | nil => simp at h
  | cons t r ih =>
    cases i with
    | zero =>
      simp only [List.take_zero, fews] at hm
      simp [fews, show ¬ m < 0 by omega]
    | succ i =>
      simp only [List.take_succ_cons, fews, List.getElem_cons_succ] at hm ⊢
      by_cases hn : m < 0
      · rw [if_pos hn] at hm; omega
      · rw [if_neg hn] at hm
        simp only [if_neg hn]
        exact ih i (by simpa using h) _ hm
theorem fews_stop (l : List Tm) (i : Nat) (m d : Int) (hm : fews (l.take i) m d < 0) : fews l m d = fews (l.take i) m d := by
  induction l generalizing i m with
  | nil => simp [fews]
  | cons t r ih =>
    cases i with
    | zero =>
      simp only [List.take_zero, fews] at hm ⊢
      rw [if_pos hm]
    | succ i =>
      simp only [List.take_succ_cons, fews] at hm ⊢
      by_cases hn : m < 0
      · simp [hn]
      · rw [if_neg hn] at hm
        simp only [if_neg hn]
        exact ih i _ hm
theorem fews_rng (l : List Tm) (h : ∀ t ∈ l, ∀ m d : Int, 0 ≤ m → -1 ≤ t.few m d ∧ t.few m d ≤ m - 1) (m d : Int) (hm : -1 ≤ m) : -1 ≤ fews l m d ∧ fews l m d ≤ m := by
  induction l generalizing m with
  | nil => simp [fews]; omega
  | cons t r ih =>
    simp only [fews]
    by_cases hn : m < 0
    · rw [if_pos hn]; omega
    · rw [if_neg hn]
      have h1 := h t (by simp) m d (by omega)
      have h2 := ih (fun u hu => h u (by simp [hu])) (t.few m d) (by omega)
      omega
theorem few_rng : ∀ (t : Tm) (m d : Int), 0 ≤ m → -1 ≤ t.few m d ∧ t.few m d ≤ m - 1 := ind fun k s n l ih m d hm => by
  simp only [few]
  split
  · omega
  · exact fews_rng l ih _ _ (by omega)
/-- What 'few' tells. -/
theorem fews_says (l : List Tm) (h : ∀ t ∈ l, ∀ m d : Int, 0 ≤ t.few m d → (t.size : Int) ≤ m ∧ t.few m d = m - t.size ∧ (t.deep : Int) ≤ d) (m d : Int) (hm : 0 ≤ fews l m d) :
    (sizes l : Int) ≤ m ∧ fews l m d = m - sizes l ∧ (deeps l = 0 ∨ (deeps l : Int) ≤ d) := by
  induction l generalizing m with
  | nil => exact ⟨by simpa [fews, sizes] using hm, by simp [fews, sizes], .inl (by simp [deeps])⟩
  | cons t r ih =>
    simp only [fews] at hm ⊢
    by_cases hn : m < 0
    · rw [if_pos hn] at hm; omega
    · rw [if_neg hn] at hm ⊢
      have h2 := ih (fun u hu => h u (by simp [hu])) (t.few m d) hm
      by_cases hc : t.few m d < 0
      · rw [fews_neg _ _ _ hc] at hm; omega
      have h1 := h t (by simp) m d (by omega)
      simp only [sizes, deeps]
      omega
theorem few_says : ∀ (t : Tm) (m d : Int), 0 ≤ t.few m d → (t.size : Int) ≤ m ∧ t.few m d = m - t.size ∧ (t.deep : Int) ≤ d := ind fun k s n l ih m d hm => by
  simp only [few] at hm ⊢
  split at hm
  · omega
  · rename_i hc
    rw [if_neg hc]
    have := fews_says l ih _ _ hm
    simp only [size, deep]
    omega
def someB (l : List Tm) : Bool := decide (0 ≤ fews l 4000 200) && decide (l.length ≤ 100)
theorem some_size {l : List Tm} (h : someB l = true) {t : Tm} (ht : t ∈ l) : t.size ≤ 4000 := by
  simp only [someB, Bool.and_eq_true, decide_eq_true_eq] at h
  have := fews_says l (fun t _ m d => few_says t m d) _ _ h.1
  have := size_mem_le ht
  omega
end Tm
end Go.Proofs.YtliapkajonbndaaDoor
