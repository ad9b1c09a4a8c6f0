/-
  What the variables of a pattern are, bind by bind; a pattern filled; instances: no program here.
-/
import Derived.Test.YtjbicfimoiiglaaUni
import Derived.Test.YtjbicfimoiiglaaWith
namespace Go.Proofs.Ytjbicfimoiiglaa
open Go.RowKit

/-- One bind more, unless its variable is another term already. -/
def addB (l : List Bd) (b : Bd) : Option (List Bd) := match place l b.v with
  | none => some (l ++ [b])
  | some p => if tAt l p = b.t then some l else none
namespace Tm
mutual
/-- What the pattern's variables are, behind what they were. -/
def meet : Tm → Tm → List Bd → Option (List Bd)
  | .mk k s n ts, x, l => if k = 1 then addB l ⟨n, x⟩ else if k = x.kind ∧ s = x.name ∧ n = x.n ∧ ts.length = x.args.length then meets ts x.args l else none
def meets : List Tm → List Tm → List Bd → Option (List Bd)
  | [], _, l => some l
  | _ :: _, [], _ => none
  | t :: r, x :: q, l => (t.meet x l).bind fun l' => meets r q l'
end
end Tm
theorem meet_var {n : Int} {s : ByteArray} {ts : List Tm} {x : Tm} {l : List Bd} : (Tm.mk 1 s n ts).meet x l = addB l ⟨n, x⟩ := by simp [Tm.meet]
theorem meet_kind {k n : Int} {s : ByteArray} {ts : List Tm} {x : Tm} {l : List Bd} (hk : k ≠ 1) : (Tm.mk k s n ts).meet x l = if k = x.kind ∧ s = x.name ∧ n = x.n ∧ ts.length = x.args.length then Tm.meets ts x.args l else none := by
  simp [Tm.meet, hk]
/-- Step by step. -/
theorem meets_snoc : ∀ (ts xs : List Tm) (l : List Bd) (k : Nat) (hk : k < ts.length) (hx : ts.length = xs.length), Tm.meets (ts.take (k + 1)) (xs.take (k + 1)) l = (Tm.meets (ts.take k) (xs.take k) l).bind fun l' => ts[k].meet (xs[k]'(by omega)) l'
  | [], _, _, _, hk, _ => absurd hk (Nat.not_lt_zero _)
  | _ :: _, [], _, _, _, hx => by simp at hx
  | t :: r, x :: q, l, 0, _, _ => by
    simp only [List.take_succ_cons, List.take_zero, Tm.meets, List.getElem_cons_zero, Option.bind_some]
    cases t.meet x l <;> simp
  | t :: r, x :: q, l, k + 1, hk, hx => by
    simp only [List.take_succ_cons, Tm.meets, List.getElem_cons_succ]
    cases ht : t.meet x l with
    | none => simp
    | some l1 => simpa using meets_snoc r q l1 k (by simpa using hk) (by simpa using hx)
theorem meets_stop : ∀ (ts xs : List Tm) (l : List Bd) (k : Nat) (_ : ts.length = xs.length), Tm.meets (ts.take k) (xs.take k) l = none → Tm.meets ts xs l = none
  | [], _, _, _, _, h => by simp [Tm.meets] at h
  | _ :: _, [], _, _, hx, _ => by simp at hx
  | t :: r, x :: q, l, 0, _, h => by simp [Tm.meets] at h
  | t :: r, x :: q, l, k + 1, hx, h => by
    simp only [List.take_succ_cons, Tm.meets] at h ⊢
    cases ht : t.meet x l with
    | none => simp
    | some l1 =>
      rw [ht] at h
      simpa using meets_stop r q l1 k (by simpa using hx) (by simpa using h)

/-! ### what the binds are -/
/-- Each variable has one bind. -/
def OnceB (l : List Bd) : Prop := ∀ i (h : i < l.length), place l l[i].v = some i
def HoldsB (l : List Bd) (σ : Int → Tm) : Prop := ∀ b ∈ l, σ b.v = b.t
/-- What a filled pattern has in a variable's place. -/
def subF (l : List Bd) (v : Int) : Tm := match place l v with
  | some p => tAt l p
  | none => vTm v
theorem onceB_nil : OnceB [] := fun _i h => absurd h (Nat.not_lt_zero _)
theorem onceB_snoc {l : List Bd} {b : Bd} (h : OnceB l) (hp : place l b.v = none) : OnceB (l ++ [b]) := fun i hi => by
  rw [place_snoc]
  by_cases hil : i < l.length
  · rw [List.getElem_append_left hil, h i hil]
  · have hi2 : i = l.length := by simp at hi; omega
    subst hi2
    simp [hp]
theorem holds_subF {l : List Bd} (h : OnceB l) : HoldsB l (subF l) := fun b hb => by
  obtain ⟨i, hi, rfl⟩ := List.getElem_of_mem hb
  simp only [subF, h i hi, tAt_get hi]
theorem place_mem {l : List Bd} {v : Int} : place l v = none ↔ v ∉ l.map Bd.v := by
  rw [place_none]
  simp
theorem addB_some {l l' : List Bd} {b : Bd} (h : addB l b = some l') : (place l b.v = none ∧ l' = l ++ [b]) ∨ ∃ p, place l b.v = some p ∧ tAt l p = b.t ∧ l' = l := by
  unfold addB at h
  cases hp : place l b.v with
  | none => rw [hp] at h; exact .inl ⟨rfl, (Option.some.inj h).symm⟩
  | some p =>
    rw [hp] at h
    simp only at h
    split at h
    · rename_i e
      exact .inr ⟨p, rfl, e, (Option.some.inj h).symm⟩
    · cases h
theorem tAt_mem {l : List Bd} {v : Int} {p : Nat} (h : place l v = some p) : ∃ b ∈ l, b.v = v ∧ b.t = tAt l p := by
  obtain ⟨hp, hv, _⟩ := place_some h
  exact ⟨l[p], List.getElem_mem hp, hv, (tAt_get hp).symm⟩

namespace Tm
mutual
/-- Is a term in another one, or it? -/
def subs : Tm → List Tm
  | .mk k s n l => .mk k s n l :: subss l
def subss : List Tm → List Tm
  | [] => []
  | t :: r => t.subs ++ subss r
end
theorem subss_mem {l : List Tm} {x : Tm} : x ∈ subss l ↔ ∃ t ∈ l, x ∈ t.subs := by
  induction l with
  | nil => simp [subss]
  | cons t r ih => simp [subss, ih]
theorem subs_self (t : Tm) : t ∈ t.subs := by cases t; simp [subs]
theorem subs_arg {t x : Tm} (h : ∃ a ∈ t.args, x ∈ a.subs) : x ∈ t.subs := by
  obtain ⟨k, s, n, l⟩ := t
  simp only [subs]
  exact List.mem_cons_of_mem _ (subss_mem.2 h)
theorem deep_mem_le {l : List Tm} {t : Tm} (h : t ∈ l) : t.deep ≤ deeps l := by
  induction l with
  | nil => cases h
  | cons u r ih =>
    simp only [deeps]
    rcases List.mem_cons.1 h with rfl | h
    · omega
    · have := ih h; omega
theorem subs_right : ∀ t : Tm, ∀ x ∈ t.subs, x.size ≤ t.size ∧ x.deep ≤ t.deep ∧ (t.fair = true → x.fair = true) := ind fun k s n l ih x hx => by
  simp only [subs, List.mem_cons] at hx
  rcases hx with rfl | hx
  · exact ⟨Nat.le_refl _, Nat.le_refl _, id⟩
  · obtain ⟨t, ht, hx⟩ := subss_mem.1 hx
    obtain ⟨h1, h2, h3⟩ := ih t ht x hx
    have h4 := size_mem_le ht
    have h5 := deep_mem_le ht
    refine ⟨by simp only [size]; omega, by simp only [deep]; omega, fun hf => h3 ((fair_alone hf).2.1 t ht)⟩
end Tm
theorem right_sub {t x : Tm} (h : t.right = true) (hx : x ∈ t.subs) : x.right = true := by
  obtain ⟨h1, h2, h3⟩ := Tm.subs_right t x hx
  simp only [Tm.right, Bool.and_eq_true, decide_eq_true_eq] at h ⊢
  exact ⟨⟨h3 h.1.1, by omega⟩, by omega⟩

/-- What is met: of the binds told, and what was there stays. -/
structure Met (p x : Tm) (l l' : List Bd) : Prop where
  once : OnceB l → OnceB l'
  keep : ∀ b ∈ l, b ∈ l'
  is : ∀ σ, HoldsB l' σ → p.bnd σ = x
  vars : l'.map Bd.v = Tm.withT (l.map Bd.v) p
  subs : ∀ b ∈ l', b ∈ l ∨ b.t ∈ x.subs
structure Mets (ps xs : List Tm) (l l' : List Bd) : Prop where
  once : OnceB l → OnceB l'
  keep : ∀ b ∈ l, b ∈ l'
  is : ∀ σ, HoldsB l' σ → Tm.bnds σ ps = xs
  vars : l'.map Bd.v = Tm.withs (l.map Bd.v) ps
  subs : ∀ b ∈ l', b ∈ l ∨ ∃ x ∈ xs, b.t ∈ x.subs
theorem mets_of : ∀ (ps : List Tm) (_ : ∀ p ∈ ps, ∀ x l l', p.meet x l = some l' → Met p x l l') (xs : List Tm) (l l' : List Bd), ps.length = xs.length → Tm.meets ps xs l = some l' → Mets ps xs l l'
  | [], _, xs, l, l', hl, h => by
    simp only [Tm.meets, Option.some.injEq] at h
    subst h
    have : xs = [] := List.eq_nil_of_length_eq_zero (by simpa using hl.symm)
    subst this
    exact ⟨id, fun _ h => h, fun _ _ => by simp [Tm.bnds], by simp [Tm.withs], fun b hb => .inl hb⟩
  | _ :: _, _, [], _, _, hl, _ => by simp at hl
  | p :: r, ih, x :: q, l, l', hl, h => by
    simp only [Tm.meets] at h
    cases hp : p.meet x l with
    | none => rw [hp] at h; cases h
    | some l1 =>
      rw [hp] at h
      have h1 := ih p (by simp) x l l1 hp
      have h2 := mets_of r (fun t ht => ih t (by simp [ht])) q l1 l' (by simpa using hl) (by simpa using h)
      refine ⟨fun h => h2.once (h1.once h), fun b hb => h2.keep b (h1.keep b hb), fun σ hσ => ?_, ?_, fun b hb => ?_⟩
      · simp only [Tm.bnds]
        rw [h1.is σ (fun b hb => hσ b (h2.keep b hb)), h2.is σ hσ]
      · simp only [Tm.withs]
        rw [h2.vars, h1.vars]
      · rcases h2.subs b hb with h3 | ⟨y, hy, h3⟩
        · rcases h1.subs b h3 with h4 | h4
          · exact .inl h4
          · exact .inr ⟨x, by simp, h4⟩
        · exact .inr ⟨y, by simp [hy], h3⟩
theorem met_of : ∀ (p x : Tm) (l l' : List Bd), p.meet x l = some l' → Met p x l l' := Tm.ind fun k s n ts ih x l l' h => by
  by_cases hk : k = 1
  · subst hk
    rw [meet_var] at h
    rcases addB_some h with ⟨hp, rfl⟩ | ⟨p, hp, ht, rfl⟩
    · refine ⟨fun ho => onceB_snoc ho hp, fun b hb => by simp [hb], fun σ hσ => ?_, ?_, fun b hb => ?_⟩
      · have := hσ ⟨n, x⟩ (by simp)
        simpa [Tm.bnd] using this
      · have hn := place_mem.1 hp
        simp only [Tm.withT, if_true]
        rw [if_neg hn]
        simp
      · rcases List.mem_append.1 hb with hb | hb
        · exact .inl hb
        · rw [List.mem_singleton.1 hb]
          exact .inr (Tm.subs_self x)
    · refine ⟨id, fun _ h => h, fun σ hσ => ?_, ?_, fun b hb => .inl hb⟩
      · obtain ⟨b, hb, hv, hbt⟩ := tAt_mem hp
        have := hσ b hb
        simp only [Tm.bnd, if_true]
        simp only at hv ht
        rw [← hv, this, hbt, ht]
      · have hn : n ∈ l'.map Bd.v := by
          obtain ⟨b, hb, hv, _⟩ := tAt_mem hp
          exact List.mem_map.2 ⟨b, hb, hv⟩
        simp only [Tm.withT, if_true]
        rw [if_pos hn]
  · rw [meet_kind hk] at h
    split at h
    · rename_i hh
      have h1 := mets_of ts (fun t ht => ih t ht) x.args l l' hh.2.2.2 h
      refine ⟨h1.once, h1.keep, fun σ hσ => ?_, ?_, fun b hb => ?_⟩
      · rw [Tm.bnd_kind σ hk, h1.is σ hσ]
        obtain ⟨k', s', n', ts'⟩ := x
        simp only [Tm.kind, Tm.name, Tm.n, Tm.args] at hh ⊢
        rw [hh.1, hh.2.1, hh.2.2.1]
      · simp only [Tm.withT, if_neg hk]
        exact h1.vars
      · rcases h1.subs b hb with h2 | h2
        · exact .inl h2
        · exact .inr (Tm.subs_arg h2)
    · cases h
/-- Whatever makes the pattern the term is met. -/
theorem meets_all : ∀ (ps : List Tm) (σ : Int → Tm) (_ : ∀ p ∈ ps, ∀ l, HoldsB l σ → ∃ l', p.meet (p.bnd σ) l = some l' ∧ HoldsB l' σ) (l : List Bd), HoldsB l σ → ∃ l', Tm.meets ps (Tm.bnds σ ps) l = some l' ∧ HoldsB l' σ
  | [], _, _, l, h => ⟨l, by simp [Tm.meets], h⟩
  | p :: r, σ, ih, l, h => by
    obtain ⟨l1, h1, h2⟩ := ih p (by simp) l h
    obtain ⟨l2, h3, h4⟩ := meets_all r σ (fun t ht => ih t (by simp [ht])) l1 h2
    exact ⟨l2, by simp [Tm.meets, Tm.bnds, h1, h3], h4⟩
theorem meet_all (σ : Int → Tm) : ∀ (p : Tm) (l : List Bd), HoldsB l σ → ∃ l', p.meet (p.bnd σ) l = some l' ∧ HoldsB l' σ := Tm.ind fun k s n ts ih l h => by
  by_cases hk : k = 1
  · subst hk
    have hb : (Tm.mk 1 s n ts).bnd σ = σ n := by simp [Tm.bnd]
    rw [meet_var, hb]
    unfold addB
    cases hp : place l n with
    | none =>
      refine ⟨_, rfl, fun b hb => ?_⟩
      rcases List.mem_append.1 hb with hb | hb
      · exact h b hb
      · rw [List.mem_singleton.1 hb]
    | some p =>
      obtain ⟨b, hb, hv, ht⟩ := tAt_mem hp
      have := h b hb
      refine ⟨l, ?_, h⟩
      simp only
      rw [if_pos (by rw [← ht, ← this, hv])]
  · obtain ⟨l', h1, h2⟩ := meets_all ts σ ih l h
    refine ⟨l', ?_, h2⟩
    rw [meet_kind hk, Tm.bnd_kind σ hk]
    simp only [Tm.kind, Tm.name, Tm.n, Tm.args]
    rw [if_pos ⟨trivial, trivial, trivial, by rw [Tm.bnds_length]⟩]
    exact h1

/-- Is a term an instance of a pattern? -/
def inst (t p : Tm) : Bool := (p.meet t []).isSome
theorem inst_iff {t p : Tm} : inst t p = true ↔ ∃ σ, p.bnd σ = t := by
  unfold inst
  rw [Option.isSome_iff_exists]
  constructor
  · rintro ⟨l, h⟩
    have hm := met_of p t [] l h
    exact ⟨subF l, hm.is _ (holds_subF (hm.once onceB_nil))⟩
  · rintro ⟨σ, rfl⟩
    obtain ⟨l, h, _⟩ := meet_all σ p [] (fun b hb => by cases hb)
    exact ⟨l, h⟩
theorem inst_trans {a b c : Tm} (h : inst a b = true) (g : inst b c = true) : inst a c = true := by
  obtain ⟨σ, h⟩ := inst_iff.1 h
  obtain ⟨τ, g⟩ := inst_iff.1 g
  exact inst_iff.2 ⟨_, by rw [← h, ← g, Tm.bnd_bnd]⟩
theorem inst_self {a : Tm} (h : a.fair = true) : inst a a = true := inst_iff.2 ⟨vTm, Tm.bnd_id _ a h fun _ _ => rfl⟩
theorem inst_fill (p : Tm) (l : List Bd) : inst (p.bnd (subF l)) p = true := inst_iff.2 ⟨_, rfl⟩
/-- What a right pattern's variables are. -/
theorem meet_right {p t : Tm} {l : List Bd} (hp : p.right = true) (ht : t.right = true) (h : p.meet t [] = some l) : OnceB l ∧ l.map Bd.v = varsOf [p] ∧ (∀ b ∈ l, b.t.right = true) ∧ p.bnd (subF l) = t := by
  have hm := met_of p t [] l h
  have ho := hm.once onceB_nil
  refine ⟨ho, ?_, fun b hb => ?_, hm.is _ (holds_subF ho)⟩
  · rw [hm.vars, ← withs_vars [p] (by rw [Tm.plain_all]; simp [right_noArgs hp])]
    simp [Tm.withs]
  · rcases hm.subs b hb with h | h
    · cases h
    · exact right_sub ht h
theorem meet_okL {p t : Tm} {l : List Bd} (hp : p.right = true) (ht : t.right = true) (h : p.meet t [] = some l) : okL l := fun i hi => by
  obtain ⟨h1, h2, h3, _⟩ := meet_right hp ht h
  have hv : l[i].v ∈ varsOf [p] := by rw [← h2]; exact List.mem_map.2 ⟨_, List.getElem_mem hi, rfl⟩
  obtain ⟨u, hu, hv⟩ := (vars_vs _ _).1 hv
  rw [List.mem_singleton.1 hu] at hv
  have h4 := Tm.fair_vs p (right_fair hp) _ hv
  exact ⟨h4.1, h4.2, h1 i hi, h3 _ (List.getElem_mem hi)⟩
/-- Instances of one another are variants. -/
theorem variants_of {a b : Tm} (ha : a.fair = true) (hb : b.fair = true) : (inst a b = true ∧ inst b a = true) ↔ Tm.rens (posOf (varsOf [a])) [a] = Tm.rens (posOf (varsOf [b])) [b] := by
  constructor
  · rintro ⟨h, g⟩
    obtain ⟨σ, h⟩ := inst_iff.1 h
    obtain ⟨τ, g⟩ := inst_iff.1 g
    obtain ⟨f, hinj, _, hYg⟩ := names_of (X := [a]) (Y := [b]) (σ := σ) (τ := τ) (by simpa using ha) (by simpa [g] using hb) (by simp [g]) (by simp [g, h])
    exact (numbered_names (by simpa using ha) hinj hYg).symm
  · intro h
    have key : ∀ x y : Tm, x.fair = true → y.fair = true → Tm.rens (posOf (varsOf [x])) [x] = Tm.rens (posOf (varsOf [y])) [y] → inst x y = true := fun x y hx hy e => by
      have e2 : x.ren (posOf (varsOf [x])) = y.ren (posOf (varsOf [y])) := by simpa [Tm.rens_map] using e
      refine inst_iff.2 ⟨fun v => vTm ((varsOf [x]).getD (posOf (varsOf [y]) v).toNat 0), ?_⟩
      rw [bnd_ren (g := fun v => (varsOf [x]).getD (posOf (varsOf [y]) v).toNat 0) y hy (fun _ _ => rfl)]
      have h1 : y.ren (fun v => (varsOf [x]).getD (posOf (varsOf [y]) v).toNat 0) = (y.ren (posOf (varsOf [y]))).ren (fun v => (varsOf [x]).getD v.toNat 0) := by rw [ren_ren]
      rw [h1, ← e2, ren_ren]
      refine ren_id _ x hx fun d k hk h1 => ?_
      have hm : k.n ∈ varsOf [x] := vars_cover (l := [x]) (by simp) d k hk h1
      rw [posOf_mem hm]
      have hlt := List.idxOf_lt_length_of_mem hm
      simp [List.getD, hlt]
    exact ⟨key a b ha hb h, key b a hb ha h.symm⟩

/-! ### the document's own way -/
namespace Tm
mutual
/-- What stands where a pattern has variables. -/
def collect : Tm → Tm → Option (List Bd)
  | .mk k s n ts, x => if k = 1 then some [⟨n, x⟩] else if k = x.kind ∧ n = x.n ∧ s = x.name ∧ ts.length = x.args.length then collects ts x.args else none
def collects : List Tm → List Tm → Option (List Bd)
  | [], _ => some []
  | _ :: _, [] => none
  | t :: r, x :: q => (t.collect x).bind fun l => (collects r q).bind fun m => some (l ++ m)
end
end Tm
def addsB : List Bd → List Bd → Option (List Bd)
  | l, [] => some l
  | l, b :: r => (addB l b).bind fun l' => addsB l' r
theorem addsB_app : ∀ (m : List Bd) (l n : List Bd), addsB l (m ++ n) = (addsB l m).bind fun l' => addsB l' n
  | [], l, n => by simp [addsB]
  | b :: r, l, n => by
    simp only [List.cons_append, addsB]
    cases addB l b with
    | none => simp
    | some l1 => simpa using addsB_app r l1 n
theorem addsB_take {m : List Bd} {l : List Bd} {k : Nat} (hk : k < m.length) : addsB l (m.take (k + 1)) = (addsB l (m.take k)).bind fun l' => addB l' m[k] := by
  rw [List.take_succ_eq_append_getElem hk, addsB_app]
  cases addsB l (m.take k) with
  | none => simp
  | some l1 =>
    simp only [Option.bind_some, addsB]
    cases addB l1 m[k] <;> simp
theorem addsB_stop {m l : List Bd} {k : Nat} (h : addsB l (m.take k) = none) : addsB l m = none := by
  conv => lhs; rw [← List.take_append_drop k m]
  rw [addsB_app, h]; rfl
theorem collects_eq : ∀ (ts : List Tm) (_ : ∀ t ∈ ts, ∀ x l, t.meet x l = (t.collect x).bind fun m => addsB l m) (xs : List Tm) (l : List Bd), Tm.meets ts xs l = (Tm.collects ts xs).bind fun m => addsB l m
  | [], _, _, l => by simp [Tm.meets, Tm.collects, addsB]
  | _ :: _, _, [], l => by simp [Tm.meets, Tm.collects]
  | t :: r, ih, x :: q, l => by
    simp only [Tm.meets, Tm.collects]
    rw [ih t (by simp) x l]
    cases t.collect x with
    | none => simp
    | some m =>
      simp only [Option.bind_some]
      cases hc : Tm.collects r q with
      | none =>
        cases addsB l m with
        | none => simp
        | some l1 =>
          have := collects_eq r (fun u hu => ih u (by simp [hu])) q l1
          simp [this, hc]
      | some m2 =>
        simp only [Option.bind_some]
        rw [addsB_app]
        cases addsB l m with
        | none => simp
        | some l1 =>
          have := collects_eq r (fun u hu => ih u (by simp [hu])) q l1
          simp [this, hc]
theorem collect_eq : ∀ (p x : Tm) (l : List Bd), p.meet x l = (p.collect x).bind fun m => addsB l m := Tm.ind fun k s n ts ih x l => by
  by_cases hk : k = 1
  · subst hk
    rw [meet_var]
    simp only [Tm.collect, if_true, Option.bind_some, addsB]
    cases addB l ⟨n, x⟩ <;> simp
  · rw [meet_kind hk]
    simp only [Tm.collect, if_neg hk]
    by_cases h : k = x.kind ∧ s = x.name ∧ n = x.n ∧ ts.length = x.args.length
    · rw [if_pos h, if_pos ⟨h.1, h.2.2.1, h.2.1, h.2.2.2⟩]
      exact collects_eq ts (fun t ht x l => ih t ht x l) x.args l
    · rw [if_neg h, if_neg (fun g => h ⟨g.1, g.2.2.1, g.2.1, g.2.2.2⟩)]
      rfl
theorem collects_snoc : ∀ (ts xs : List Tm) (k : Nat) (hk : k < ts.length) (hx : ts.length = xs.length), Tm.collects (ts.take (k + 1)) (xs.take (k + 1)) = (Tm.collects (ts.take k) (xs.take k)).bind fun l => (ts[k].collect (xs[k]'(by omega))).bind fun m => some (l ++ m)
  | [], _, _, hk, _ => absurd hk (Nat.not_lt_zero _)
  | _ :: _, [], _, _, hx => by simp at hx
  | t :: r, x :: q, 0, _, _ => by
    simp only [List.take_succ_cons, List.take_zero, Tm.collects, List.getElem_cons_zero, Option.bind_some]
    cases t.collect x <;> simp
  | t :: r, x :: q, k + 1, hk, hx => by
    simp only [List.take_succ_cons, Tm.collects, List.getElem_cons_succ]
    rw [collects_snoc r q k (by simpa using hk) (by simpa using hx)]
    cases t.collect x with
    | none => simp
    | some l1 =>
      simp only [Option.bind_some]
      cases Tm.collects (r.take k) (q.take k) with
      | none => simp
      | some l2 =>
        simp only [Option.bind_some]
        have hkr : k < r.length := by simpa using hk
        have hkq : k < q.length := by have : r.length = q.length := by simpa using hx
                                      omega
        cases (r[k]'hkr).collect (q[k]'hkq) with
        | none => simp
        | some l3 => simp
theorem collects_stop : ∀ (ts xs : List Tm) (k : Nat) (_ : ts.length = xs.length), Tm.collects (ts.take k) (xs.take k) = none → Tm.collects ts xs = none
  | [], _, _, _, h => by simp [Tm.collects] at h
  | _ :: _, [], _, hx, _ => by simp at hx
  | t :: r, x :: q, 0, _, h => by simp [Tm.collects] at h
  | t :: r, x :: q, k + 1, hx, h => by
    simp only [List.take_succ_cons, Tm.collects] at h ⊢
    cases ht : t.collect x with
    | none => simp
    | some l1 =>
      rw [ht] at h
      simp only [Option.bind_some] at h ⊢
      cases hc : Tm.collects (r.take k) (q.take k) with
      | none => rw [collects_stop r q k (by simpa using hx) hc]; rfl
      | some l2 => rw [hc] at h; cases h
/-- How many binds are collected. -/
theorem collect_len : ∀ (p x : Tm) (l : List Bd), p.collect x = some l → l.length ≤ p.size := Tm.ind fun k s n ts ih x l h => by
  by_cases hk : k = 1
  · simp only [Tm.collect, if_pos hk, Option.some.injEq] at h
    subst h
    simp [Tm.size]
  · simp only [Tm.collect, if_neg hk] at h
    split at h
    · have : ∀ (ts : List Tm) (_ : ∀ t ∈ ts, ∀ x l, t.collect x = some l → l.length ≤ t.size) (xs : List Tm) (l : List Bd), Tm.collects ts xs = some l → l.length ≤ Tm.sizes ts := by
        intro ts
        induction ts with
        | nil => intro _ xs l h; simp [Tm.collects] at h; simp [h, Tm.sizes]
        | cons t r ihr =>
          intro ih xs l h
          cases xs with
          | nil => simp [Tm.collects] at h
          | cons x q =>
            simp only [Tm.collects] at h
            cases ht : t.collect x with
            | none => rw [ht] at h; cases h
            | some l1 =>
              cases hc : Tm.collects r q with
              | none => rw [ht, hc] at h; cases h
              | some l2 =>
                rw [ht, hc] at h
                simp only [Option.bind_some, Option.some.injEq] at h
                have h1 := ih t (by simp) x l1 ht
                have h2 := ihr (fun u hu => ih u (by simp [hu])) q l2 hc
                subst h
                simp only [List.length_append, Tm.sizes]
                omega
      have := this ts (fun t ht => ih t ht) x.args l h
      simp only [Tm.size]
      omega
    · cases h
end Go.Proofs.Ytjbicfimoiiglaa
