/-
  Pairs of terms that are gathered, purely; rows of such pairs in memory; append of such rows.
-/
import Derived.Test.YtjbicfimoiiglaaMsg
import Derived.Test.YtjbicfimoiiglaaRowT
namespace Go.Proofs.Ytjbicfimoiiglaa
open Go.RowKit Go.Shelf Go.Maps

/-! ### pairs that are added -/
theorem addP_ext (l : List (Tm × Tm)) (x : Tm × Tm) : ∃ r, addP l x = l ++ r := by
  unfold addP
  split
  · exact ⟨[], by simp⟩
  · exact ⟨[x], rfl⟩
theorem foldP_ext : ∀ (ds l : List (Tm × Tm)), ∃ r, ds.foldl addP l = l ++ r
  | [], l => ⟨[], by simp⟩
  | x :: ds, l => by
    obtain ⟨r, h⟩ := addP_ext l x
    obtain ⟨q, g⟩ := foldP_ext ds (l ++ r)
    exact ⟨r ++ q, by rw [List.foldl_cons, h, g, List.append_assoc]⟩
theorem idx_ext {L r : List (Tm × Tm)} {x : Tm × Tm} (h : x ∈ L) : (L ++ r).idxOf x = L.idxOf x := by rw [List.idxOf_append, if_pos h]
theorem gens_ext {L r : List (Tm × Tm)} : ∀ (l : List Tm) (_ : ∀ t ∈ l, ∀ b, (∀ x ∈ t.diffs b, x ∈ L) → t.gen (L ++ r) b = t.gen L b) (us : List Tm), (∀ x ∈ Tm.diffss l us, x ∈ L) → Tm.gens (L ++ r) l us = Tm.gens L l us
  | [], _, _, _ => by simp [Tm.gens]
  | _ :: _, _, [], _ => by simp [Tm.gens]
  | t :: q, ih, u :: us, h => by
    simp only [Tm.diffss] at h
    simp only [Tm.gens]
    rw [ih t (by simp) u fun x hx => h x (List.mem_append_left _ hx), gens_ext q (fun x hx => ih x (by simp [hx])) us fun x hx => h x (List.mem_append_right _ hx)]
theorem gen_ext {L r : List (Tm × Tm)} : ∀ (a b : Tm), (∀ x ∈ a.diffs b, x ∈ L) → a.gen (L ++ r) b = a.gen L b := Tm.ind fun k s n l ih b h => by
  simp only [Tm.diffs, Tm.gen] at h ⊢
  split
  · rename_i hl
    rw [if_pos hl] at h
    rw [gens_ext l ih b.args h]
  · rename_i hl
    rw [if_neg hl] at h
    rw [idx_ext (h _ (List.mem_singleton.2 rfl))]
/-- The pairs of two rows of terms, place by place, behind others. -/
def prsTs (L : List (Tm × Tm)) (l us : List Tm) : List (Tm × Tm) := (Tm.diffss l us).foldl addP L
theorem prs_like {L : List (Tm × Tm)} {a b : Tm} (h : likeB a b = true) : prsT L a b = prsTs L a.args b.args := by
  obtain ⟨k, s, n, l⟩ := a
  simp only [prsT, prsTs, Tm.diffs, h, if_true, Tm.args]
theorem prs_unlike {L : List (Tm × Tm)} {a b : Tm} (h : likeB a b = false) : prsT L a b = addP L (a, b) := by
  obtain ⟨k, s, n, l⟩ := a
  simp [prsT, Tm.diffs, h]
theorem gen_like {L : List (Tm × Tm)} {a b : Tm} (h : likeB a b = true) : a.gen L b = .mk a.kind a.name a.n (Tm.gens L a.args b.args) := by
  obtain ⟨k, s, n, l⟩ := a
  simp only [Tm.gen, h, if_true, Tm.args, Tm.kind, Tm.name, Tm.n]
theorem gen_unlike {L : List (Tm × Tm)} {a b : Tm} (h : likeB a b = false) : a.gen L b = vTm (L.idxOf (a, b) : Nat) := by
  obtain ⟨k, s, n, l⟩ := a
  simp [Tm.gen, h]
theorem diffss_take_succ : ∀ (l us : List Tm) (k : Nat) (hk : k < l.length) (hu : l.length = us.length), Tm.diffss (l.take (k + 1)) (us.take (k + 1)) = Tm.diffss (l.take k) (us.take k) ++ l[k].diffs (us[k]'(hu ▸ hk))
  | [], _, _, hk, _ => absurd hk (Nat.not_lt_zero _)
  | _ :: _, [], _, _, hu => by simp at hu
  | t :: r, u :: us, 0, _, _ => by simp [Tm.diffss]
  | t :: r, u :: us, k + 1, hk, hu => by
    simp only [List.take_succ_cons, Tm.diffss, List.getElem_cons_succ]
    rw [diffss_take_succ r us k (by simpa using hk) (by simpa using hu), List.append_assoc]
theorem gens_take_succ {L : List (Tm × Tm)} : ∀ (l us : List Tm) (k : Nat) (hk : k < l.length) (hu : l.length = us.length), Tm.gens L (l.take (k + 1)) (us.take (k + 1)) = Tm.gens L (l.take k) (us.take k) ++ [l[k].gen L (us[k]'(hu ▸ hk))]
  | [], _, _, hk, _ => absurd hk (Nat.not_lt_zero _)
  | _ :: _, [], _, _, hu => by simp at hu
  | t :: r, u :: us, 0, _, _ => by simp [Tm.gens]
  | t :: r, u :: us, k + 1, hk, hu => by
    simp only [List.take_succ_cons, Tm.gens, List.getElem_cons_succ, List.cons_append]
    rw [gens_take_succ r us k (by simpa using hk) (by simpa using hu)]
theorem prsTs_zero (L : List (Tm × Tm)) (l us : List Tm) : prsTs L (l.take 0) (us.take 0) = L := by simp [prsTs, Tm.diffss]
theorem prsTs_all (L : List (Tm × Tm)) {l us : List Tm} {n : Nat} (h : l.length = n) (hu : us.length = n) : prsTs L (l.take n) (us.take n) = prsTs L l us := by
  rw [List.take_of_length_le (by omega), List.take_of_length_le (by omega)]
theorem prsTs_succ (L : List (Tm × Tm)) (l us : List Tm) (k : Nat) (hk : k < l.length) (hu : l.length = us.length) : prsTs L (l.take (k + 1)) (us.take (k + 1)) = prsT (prsTs L (l.take k) (us.take k)) l[k] (us[k]'(hu ▸ hk)) := by
  unfold prsTs prsT
  rw [diffss_take_succ l us k hk hu, List.foldl_append]
theorem prsTs_mem {L : List (Tm × Tm)} {l us : List Tm} {x : Tm × Tm} (h : x ∈ Tm.diffss l us) : x ∈ prsTs L l us := (foldP_mem _ _).2 (.inr h)
/-- What was made of the pairs that stood then is what is made of those that stand now. -/
theorem gens_step (L : List (Tm × Tm)) (l us : List Tm) (k : Nat) (hk : k < l.length) (hu : l.length = us.length) :
    Tm.gens (prsTs L (l.take (k + 1)) (us.take (k + 1))) (l.take (k + 1)) (us.take (k + 1)) = Tm.gens (prsTs L (l.take k) (us.take k)) (l.take k) (us.take k) ++ [l[k].gen (prsT (prsTs L (l.take k) (us.take k)) l[k] (us[k]'(hu ▸ hk))) (us[k]'(hu ▸ hk))] := by
  rw [gens_take_succ l us k hk hu, prsTs_succ L l us k hk hu]
  obtain ⟨r, hr⟩ := foldP_ext (l[k].diffs (us[k]'(hu ▸ hk))) (prsTs L (l.take k) (us.take k))
  congr 1
  unfold prsT
  rw [hr]
  exact gens_ext _ (fun t _ b h => gen_ext t b h) _ fun x hx => prsTs_mem hx
theorem gens_length (L : List (Tm × Tm)) : ∀ (l us : List Tm), l.length = us.length → (Tm.gens L l us).length = l.length
  | [], _, _ => by simp [Tm.gens]
  | _ :: _, [], h => by simp at h
  | t :: r, u :: us, h => by simp [Tm.gens, gens_length L r us (by simpa using h)]
theorem prs_length (L : List (Tm × Tm)) (a b : Tm) : (prsT L a b).length ≤ L.length + a.size := by
  have h1 := foldP_length (a.diffs b) L
  have h2 := (diffs_sizes a b).1
  unfold prsT
  omega
theorem prsTs_length (L : List (Tm × Tm)) (l us : List Tm) : (prsTs L l us).length ≤ L.length + Tm.sizes l := by
  have h1 := foldP_length (Tm.diffss l us) L
  have h2 := (diffss_sizes l (fun t _ b => diffs_sizes t b) us).1
  unfold prsTs
  omega

/-! ### rows of pairs -/
/-- The cells of a row of pairs whose terms lie below B. -/
def cellsQ (w : World) (B : Nat) : List (Tm × Tm) → List Value → Prop
  | [], xs => xs = []
  | p :: r, xs => ∃ sa sb xs', xs = .int .i64 p.1.kind :: .string p.1.name :: .int .i64 p.1.n :: sa :: .int .i64 p.2.kind :: .string p.2.name :: .int .i64 p.2.n :: sb :: xs' ∧ Tm.inn w B p.1 sa ∧ Tm.inn w B p.2 sb ∧ cellsQ w B r xs'
theorem cellsQ_same {w w' : World} {B B' : Nat} (hB : B ≤ B') (hc : ∀ b o v, b < B → w.cell? ⟨b, o, none⟩ = some v → w'.cell? ⟨b, o, none⟩ = some v) : ∀ (l : List (Tm × Tm)) (xs : List Value), cellsQ w B l xs → cellsQ w' B' l xs
  | [], _, h => h
  | _ :: r, _, ⟨sa, sb, xs', h1, h2, h3, h4⟩ => ⟨sa, sb, xs', h1, Tm.inn_same hB hc _ _ h2, Tm.inn_same hB hc _ _ h3, cellsQ_same hB hc r xs' h4⟩
theorem cellsQ_length {w : World} {B : Nat} : ∀ (l : List (Tm × Tm)) (xs : List Value), cellsQ w B l xs → xs.length = l.length * 8
  | [], _, h => by simp only [cellsQ] at h; subst h; rfl
  | _ :: r, _, ⟨sa, sb, xs', h1, _, _, h4⟩ => by
    have := cellsQ_length r xs' h4
    rw [h1]
    simp only [List.length_cons, this]
    omega
theorem cellsQ_one {w : World} {B : Nat} : ∀ (l : List (Tm × Tm)) (xs : List Value), cellsQ w B l xs → ∀ u ∈ xs, u.oneCell' = true
  | [], _, h => by simp only [cellsQ] at h; subst h; simp
  | _ :: r, _, ⟨sa, sb, xs', h1, h2, h3, h4⟩ => by
    intro u hu
    rw [h1] at hu
    obtain ⟨_, g, c, rfl, _⟩ := Tm.inn_iff.1 h2
    obtain ⟨_, g', c', rfl, _⟩ := Tm.inn_iff.1 h3
    simp only [List.mem_cons] at hu
    rcases hu with rfl | rfl | rfl | rfl | rfl | rfl | rfl | rfl | hu
    · rfl
    · rfl
    · rfl
    · rfl
    · rfl
    · rfl
    · rfl
    · rfl
    · exact cellsQ_one r xs' h4 u hu
theorem cellsQ_app {w : World} {B : Nat} : ∀ (a b : List (Tm × Tm)) (xs ys : List Value), cellsQ w B a xs → cellsQ w B b ys → cellsQ w B (a ++ b) (xs ++ ys)
  | [], _, _, _, h, h' => by simp only [cellsQ] at h; subst h; simpa using h'
  | _ :: r, b, _, ys, ⟨sa, sb, xs', h1, h2, h3, h4⟩, h' => ⟨sa, sb, xs' ++ ys, by rw [h1]; rfl, h2, h3, cellsQ_app r b xs' ys h4 h'⟩
theorem cellsQ_get {w : World} {B : Nat} : ∀ (l : List (Tm × Tm)) (xs : List Value), cellsQ w B l xs → ∀ (i : Nat) (h : i < l.length), ∃ sa sb, xs[i * 8]? = some (.int .i64 l[i].1.kind) ∧ xs[i * 8 + 1]? = some (.string l[i].1.name) ∧ xs[i * 8 + 2]? = some (.int .i64 l[i].1.n) ∧ xs[i * 8 + 3]? = some sa ∧
      xs[i * 8 + 4]? = some (.int .i64 l[i].2.kind) ∧ xs[i * 8 + 5]? = some (.string l[i].2.name) ∧ xs[i * 8 + 6]? = some (.int .i64 l[i].2.n) ∧ xs[i * 8 + 7]? = some sb ∧ Tm.inn w B l[i].1 sa ∧ Tm.inn w B l[i].2 sb
  | [], _, _, i, h => absurd h (Nat.not_lt_zero _)
  | p :: r, _, ⟨sa, sb, xs', h1, h2, h3, h4⟩, 0, _ => ⟨sa, sb, by subst h1; exact ⟨rfl, rfl, rfl, rfl, rfl, rfl, rfl, rfl, h2, h3⟩⟩
  | p :: r, _, ⟨sa, sb, xs', h1, h2, h3, h4⟩, i + 1, h => by
    obtain ⟨ta, tb, e0, e1, e2, e3, e4, e5, e6, e7, e8⟩ := cellsQ_get r xs' h4 i (by simpa using h)
    subst h1
    have sk : ∀ c, (.int .i64 p.1.kind :: .string p.1.name :: .int .i64 p.1.n :: sa :: .int .i64 p.2.kind :: .string p.2.name :: .int .i64 p.2.n :: sb :: xs' : List Value)[(i + 1) * 8 + c]? = xs'[i * 8 + c]? := fun c => by
      rw [show (i + 1) * 8 + c = (i * 8 + c) + 8 by omega]
      rfl
    have sk0 := sk 0
    simp only [Nat.add_zero] at sk0
    refine ⟨ta, tb, sk0.trans e0, (sk 1).trans e1, (sk 2).trans e2, (sk 3).trans e3, (sk 4).trans e4, (sk 5).trans e5, (sk 6).trans e6, (sk 7).trans e7, e8⟩
/-- A row of pairs, as it is read. -/
def prsM (w : World) (B : Nat) (l : List (Tm × Tm)) (sv : Value) : Prop :=
  ∃ g cap, sv = .slice g l.length cap ∧ l.length ≤ cap ∧ l.length ≤ 1000000000 ∧ ∃ xs, cellsQ w B l xs ∧ (l = [] ∨ ∃ b off, g = some ⟨b, off, none⟩ ∧ b < B ∧ ∀ j u, xs[j]? = some u → w.cell? ⟨b, off + j, none⟩ = some u)
theorem prsM_same {w w' : World} {B B' : Nat} {l : List (Tm × Tm)} {sv : Value} (hB : B ≤ B') (hc : ∀ b o v, b < B → w.cell? ⟨b, o, none⟩ = some v → w'.cell? ⟨b, o, none⟩ = some v) (h : prsM w B l sv) : prsM w' B' l sv := by
  obtain ⟨g, cap, rfl, h1, h2, xs, h3, h4⟩ := h
  refine ⟨g, cap, rfl, h1, h2, xs, cellsQ_same hB hc _ _ h3, ?_⟩
  rcases h4 with h4 | ⟨b, off, rfl, hb, hr⟩
  · exact .inl h4
  · exact .inr ⟨b, off, rfl, by omega, fun j u hj => hc _ _ _ hb (hr j u hj)⟩
theorem prsM_below {w w' : World} {B n₀ : Nat} {l : List (Tm × Tm)} {sv : Value} (h : prsM w B l sv) (hb : Below n₀ w w') (hB : B ≤ n₀) : prsM w' B l sv :=
  prsM_same (Nat.le_refl _) (fun b o v hlt hc => by rw [hb.cell (p := ⟨b, o, none⟩) (by show b < n₀; omega)]; exact hc) h
theorem prsM_mono {w : World} {B B' : Nat} {l : List (Tm × Tm)} {sv : Value} (h : prsM w B l sv) (hB : B ≤ B') : prsM w B' l sv := prsM_same hB (fun _ _ _ _ hc => hc) h
theorem prsM_held {w w' : World} {l : List (Tm × Tm)} {sv : Value} (h : prsM w w.heap.size l sv) (hb : Below w.heap.size w w') : prsM w' w'.heap.size l sv := prsM_mono (prsM_below h hb (Nat.le_refl _)) hb.size
theorem prsM_nil (w : World) (B : Nat) : prsM w B [] (.slice none 0 0) := ⟨none, 0, rfl, by simp, by simp, [], by simp [cellsQ], .inl rfl⟩
/-- What a walk wants of pair i. -/
theorem prsM_get {w : World} {B : Nat} {l : List (Tm × Tm)} {g : Option Addr} {len cap : Nat} (h : prsM w B l (.slice g len cap)) (i : Nat) (hi : i < l.length) :
    ∃ b off sa sb, g = some ⟨b, off, none⟩ ∧ b < B ∧ w.cell? ⟨b, off + i * 8, none⟩ = some (.int .i64 l[i].1.kind) ∧ w.cell? ⟨b, off + i * 8 + 1, none⟩ = some (.string l[i].1.name) ∧ w.cell? ⟨b, off + i * 8 + 2, none⟩ = some (.int .i64 l[i].1.n) ∧ w.cell? ⟨b, off + i * 8 + 3, none⟩ = some sa ∧
      w.cell? ⟨b, off + i * 8 + 4, none⟩ = some (.int .i64 l[i].2.kind) ∧ w.cell? ⟨b, off + i * 8 + 4 + 1, none⟩ = some (.string l[i].2.name) ∧ w.cell? ⟨b, off + i * 8 + 4 + 2, none⟩ = some (.int .i64 l[i].2.n) ∧ w.cell? ⟨b, off + i * 8 + 4 + 3, none⟩ = some sb ∧ Tm.inn w B l[i].1 sa ∧ Tm.inn w B l[i].2 sb := by
  obtain ⟨g', cap', he, h1, h2, xs, h3, h4⟩ := h
  injection he with e1 e2 e3
  subst e1
  rcases h4 with rfl | ⟨b, off, rfl, hb, hr⟩
  · simp at hi
  · obtain ⟨sa, sb, c0, c1, c2, c3, c4, c5, c6, c7, i1, i2⟩ := cellsQ_get l xs h3 i hi
    exact ⟨b, off, sa, sb, rfl, hb, hr _ _ c0, hr _ _ c1, hr _ _ c2, hr _ _ c3, hr _ _ c4, hr _ _ c5, hr _ _ c6, hr _ _ c7, i1, i2⟩
/-- Pairs that lie in a row of the call's own. -/
structure PRow (W : World) (B lo : Nat) (e : TypeId) (l : List (Tm × Tm)) (sv : Value) (xs : List Value) : Prop where
  row : W.ownsRow lo e 8 sv l.length xs
  cells : cellsQ W B l xs
theorem PRow.slice {W : World} {B lo : Nat} {e : TypeId} {l : List (Tm × Tm)} {sv : Value} {xs : List Value} (h : PRow W B lo e l sv xs) : ∃ g c, sv = .slice g l.length c := by
  rcases h.row.2 with ⟨e, h0⟩ | ⟨g, cap, cur, e, _⟩
  · exact ⟨none, 0, by rw [e, h0]⟩
  · exact ⟨_, _, e⟩
theorem PRow.keep {W W' : World} {B lo : Nat} {e : TypeId} {l : List (Tm × Tm)} {sv : Value} {xs : List Value} (h : PRow W B lo e l sv xs) (hB : ∀ b, b < B → W'.heap[b]? = W.heap[b]?) (hb : ∀ b, sv.ownBlock = some b → W'.heap[b]? = W.heap[b]?) : PRow W' B lo e l sv xs :=
  ⟨ownsRow_block h.row hb, cellsQ_same (Nat.le_refl _) (fun b o _v hlt hc => (World.cell?_of_block (a := ⟨b, o, none⟩) (hB b hlt)).trans hc) _ _ h.cells⟩
theorem PRow.next {W W' : World} {B lo : Nat} {e : TypeId} {l : List (Tm × Tm)} {sv : Value} {xs : List Value} (h : PRow W B lo e l sv xs) (hb : Below W.heap.size W W') (hB : B ≤ W.heap.size) : PRow W' B lo e l sv xs :=
  h.keep (fun b hlt => hb.block b (by omega)) (fun b e => hb.block b (h.row.lt b e).2)
theorem PRow.zero (W : World) (B lo : Nat) (e : TypeId) : PRow W B lo e [] (.slice none 0 0) [] := ⟨World.ownsRow_nil _ _ _ _, by simp [cellsQ]⟩
theorem PRow.made {X : World} {B base : Nat} {e : TypeId} (hb : base ≤ X.heap.size) : PRow (X.alloc (.cells #[] e)) B base e [] (.slice (some ⟨X.heap.size, 0, none⟩) 0 0) [] :=
  ⟨World.ownsRow_lit X #[] 0 hb (by decide) rfl, by simp [cellsQ]⟩
theorem PRow.reads {W : World} {B lo : Nat} {e : TypeId} {l : List (Tm × Tm)} {sv : Value} {xs : List Value} (h : PRow W B lo e l sv xs) (hB : B ≤ W.heap.size) (hl : l.length ≤ 1000000000) : prsM W W.heap.size l sv := by
  have hc := cellsQ_same hB (fun _ _ _ _ hc => hc) _ _ h.cells
  rcases h.row.2 with ⟨e, h0⟩ | ⟨g, cap, cur, e, h1, h2, h3, _⟩
  · exact ⟨none, 0, by rw [e, h0], by omega, hl, xs, hc, .inl (List.eq_nil_of_length_eq_zero h0)⟩
  · have hob : sv.ownBlock = some g := by rw [e]; rfl
    refine ⟨_, cap, e, h3, hl, xs, hc, .inr ⟨g, 0, rfl, (h.row.lt g hob).2, fun j u hj => ?_⟩⟩
    have := World.ownsRow.cells h.row (g := g) hob j u hj
    simpa [Addr.add_lit] using this
/-- The cells of a row of pairs that is to be appended. -/
def srcPrs (w : World) (B : Nat) (l : List (Tm × Tm)) (g : Option Addr) : Prop := ∃ xs, cellsQ w B l xs ∧ (l = [] ∨ ∃ a, g = some a ∧ ∀ j u, xs[j]? = some u → w.cell? (a.add j) = some u)
theorem prsM.src {w : World} {B : Nat} {l : List (Tm × Tm)} {g : Option Addr} {n c : Nat} (h : prsM w B l (.slice g n c)) : srcPrs w B l g := by
  obtain ⟨g', cap', he, h1, h2, xs, h3, h4⟩ := h
  injection he with e1 e2 e3
  subst e1
  refine ⟨xs, h3, ?_⟩
  rcases h4 with h4 | ⟨b, off, rfl, hb, hr⟩
  · exact .inl h4
  · exact .inr ⟨_, rfl, fun j u hj => by rw [Addr.add_lit]; exact hr j u hj⟩
theorem news8 {w : World} {a0 a1 a2 a3 a4 a5 a6 a7 : Value} {t : TypeId} (n : Nat) (hn : n = w.heap.size) : ∀ (j : Nat) (u : Value), [a0, a1, a2, a3, a4, a5, a6, a7][j]? = some u → (w.alloc (.cells #[a0, a1, a2, a3, a4, a5, a6, a7] t)).cell? ((⟨n, 0, none⟩ : Addr).add j) = some u := by
  intro j u hj
  subst hn
  rw [Addr.add_lit]
  simp only [Nat.zero_add]
  rw [World.cell?_alloc_new]
  simpa using hj
theorem one8 {k n k' n' : Int} {s s' : ByteArray} {g g' : Option Addr} {m m' c c' : Nat} : ∀ u ∈ [Value.int .i64 k, .string s, .int .i64 n, .slice g m c, .int .i64 k', .string s', .int .i64 n', .slice g' m' c'], u.oneCell' = true := by
  intro u hu
  simp at hu
  rcases hu with rfl | rfl | rfl | rfl | rfl | rfl | rfl | rfl <;> rfl
/-- One pair as a source, newly made. -/
theorem srcPrs_one {w X : World} {x : Tm × Tm} {sa sb : Value} {n : Nat} {T : TypeId} (hn : n = X.heap.size) (ha : Tm.inn w w.heap.size x.1 sa) (hb : Tm.inn w w.heap.size x.2 sb) (h : Below w.heap.size w X) :
    srcPrs (X.alloc (.cells #[.int .i64 x.1.kind, .string x.1.name, .int .i64 x.1.n, sa, .int .i64 x.2.kind, .string x.2.name, .int .i64 x.2.n, sb] T)) w.heap.size [x] (some ⟨n, 0, none⟩) := by
  have h2 := h.alloc h.size (.cells #[.int .i64 x.1.kind, .string x.1.name, .int .i64 x.1.n, sa, .int .i64 x.2.kind, .string x.2.name, .int .i64 x.2.n, sb] T)
  exact ⟨[.int .i64 x.1.kind, .string x.1.name, .int .i64 x.1.n, sa, .int .i64 x.2.kind, .string x.2.name, .int .i64 x.2.n, sb], ⟨sa, sb, [], rfl, Tm.inn_below ha h2 (Nat.le_refl _), Tm.inn_below hb h2 (Nat.le_refl _), by simp [cellsQ]⟩, .inr ⟨_, rfl, news8 _ hn⟩⟩
/-- The types of a row of pairs. -/
structure PrTy (t e : TypeId) : Prop where
  und : Try.prog.underlying t = some (.slice e)
  info : (Try.prog.info? e).map (fun i => (i.zero, i.size, i.bytes)) = some (some (.agg #[.int .i64 0, .string ⟨#[]⟩, .int .i64 0, .slice none 0 0, .int .i64 0, .string ⟨#[]⟩, .int .i64 0, .slice none 0 0]), 8, 112)
theorem prTyD : PrTy 35 70 := ⟨by kernel_rfl, by kernel_rfl⟩
theorem prTyP : PrTy 91 93 := ⟨by kernel_rfl, by kernel_rfl⟩
theorem run_append_prs {w : World} {B base : Nat} {t e : TypeId} (hT : PrTy t e) (ty : TypeId) {v : Value} {l : List (Tm × Tm)} {xs : List Value} (hown : PRow w B base e l v xs) (m : List (Tm × Tm)) (g : Option Addr) (c : Nat) (hsrc : srcPrs w B m g)
    (hmax : l.length + m.length ≤ 1000000000) (hbase : base ≤ w.heap.size) (hn : B ≤ base) :
    ∃ v' w', (Builtin.append_ #[t, t] ty #[v, .slice g m.length c]).run Try.prog w = .ok v' w' ∧ (∃ zs, PRow w' B base e (l ++ m) v' zs) ∧ w.grownBy w' v.ownBlock ∧ (v'.ownBlock = v.ownBlock ∨ v'.ownBlock = some w.heap.size) := by
  obtain ⟨i0, hi, hz0, hz1, hz2⟩ := info_parts hT.info
  obtain ⟨ys, h3, h4⟩ := hsrc
  obtain ⟨v', w', hr, ho, hg, hs⟩ := run_append_any (P := Try.prog) (w := w) base t ty e i0 _ 8 112 hT.und hi hz0 hz1 hz2 rfl (by decide) v l.length xs hown.row g m.length c ys (cellsQ_length _ _ h3) (by
    rcases h4 with h4 | ⟨a, ha, hc⟩
    · exact .inl (by rw [h4]; rfl)
    · exact .inr ⟨a, ha, hc⟩) (cellsQ_one _ _ h3) (by unfold maxLen; omega) (by omega) hbase
  have hbw : Below B w w' := (Below.refl _ _).grown hg (by omega) (fun k e => by have := (hown.row.lt k e).1; omega)
  refine ⟨v', w', hr, ⟨xs ++ ys, by rw [List.length_append]; exact ho, ?_⟩, hg, hs⟩
  exact cellsQ_same (Nat.le_refl _) (fun b o v hlt hc => (hbw.cell (p := ⟨b, o, none⟩) hlt).trans hc) _ _ (cellsQ_app _ _ _ _ hown.cells h3)
theorem wp_append_prs {w : World} {o : Oper} {a : Act} {K : Act → World → Prop} {Q : Exit → Act → World → Prop} {t e : TypeId} (hT : PrTy t e) (s x : Operand)
    (ho : o.op = .call { callee := .builtin .append, args := #[s, x], argTypes := #[t, t] })
    (B base : Nat) (v : Value) (l : List (Tm × Tm)) (xs : List Value) (hs : a.eval s = v) (hown : PRow w B base e l v xs) (m : List (Tm × Tm)) (g : Option Addr) (n c : Nat) (hx : a.eval x = .slice g n c) (hnm : n = m.length) (hsrc : srcPrs w B m g)
    (hmax : l.length + m.length ≤ 1000000000) (hbase : base ≤ w.heap.size) (hn : B ≤ base)
    (h : ∀ v' w' zs, PRow w' B base e (l ++ m) v' zs → w.grownBy w' v.ownBlock → (v'.ownBlock = v.ownBlock ∨ v'.ownBlock = some w.heap.size) → K (a.put o.dst v') w') : o.wp Try.prog a w K Q := by
  subst hnm
  obtain ⟨v', w', hr, ⟨zs, h2⟩, h3, h4⟩ := run_append_prs (w := w) hT o.type hown m g c hsrc hmax hbase hn
  unfold Oper.wp execOp
  simp only [ho, resolve, invoke, builtin, Sem.run_bind, Sem.run_pure, Result.andThen_ok, List.map_toArray, List.map_cons, List.map_nil, hs, hx, hr]
  exact h v' w' zs h2 h3 h4
theorem wpList_append_prs {w : World} {ops : Array Oper} {rest : List Oper} {o : Oper} {a : Act} {Q : Exit → Act → World → Prop} (hgd : o.guard = none) {t e : TypeId} (hT : PrTy t e) (s x : Operand)
    (ho : o.op = .call { callee := .builtin .append, args := #[s, x], argTypes := #[t, t] })
    (B base : Nat) (v : Value) (l : List (Tm × Tm)) (xs : List Value) (hs : a.eval s = v) (hown : PRow w B base e l v xs) (m : List (Tm × Tm)) (g : Option Addr) (n c : Nat) (hx : a.eval x = .slice g n c) (hnm : n = m.length) (hsrc : srcPrs w B m g)
    (hmax : l.length + m.length ≤ 1000000000) (hbase : base ≤ w.heap.size) (hn : B ≤ base)
    (h : ∀ v' w' zs, PRow w' B base e (l ++ m) v' zs → w.grownBy w' v.ownBlock → (v'.ownBlock = v.ownBlock ∨ v'.ownBlock = some w.heap.size) → wpList Try.prog ops Q rest (a.put o.dst v') w') : wpList Try.prog ops Q (o :: rest) a w :=
  wpList_plain hgd fun _ hK => wp_append_prs hT s x ho B base v l xs hs hown m g n c hx hnm hsrc hmax hbase hn fun v' w' zs h2 h3 h4 => hK _ _ (h v' w' zs h2 h3 h4)
end Go.Proofs.Ytjbicfimoiiglaa
