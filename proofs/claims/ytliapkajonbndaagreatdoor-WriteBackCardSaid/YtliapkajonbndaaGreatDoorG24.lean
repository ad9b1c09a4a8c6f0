/-
  Clauses, purely; how large what is read is; rows of clauses in memory.
  The program's Vars.
-/
import Derived.Test.YtliapkajonbndaaGreatDoorPrM
import Derived.Test.YtliapkajonbndaaGreatDoorG07
import Derived.Test.YtliapkajonbndaaGreatDoorTmP
import Derived.Maps.OwnIn
import Derived.Maps.OwnSet
import Derived.Maps.AppendAt
namespace Go.Proofs.YtliapkajonbndaaGreatDoor
open Go.RowKit

theorem sizes_append (a b : List Tm) : Tm.sizes (a ++ b) = Tm.sizes a + Tm.sizes b := by
  induction a with
  | nil => simp [Tm.sizes]
  | cons t a ih => simp only [List.cons_append, Tm.sizes, ih]; omega
theorem size_fun (s : ByteArray) (l : List Tm) : (funT s l).size = Tm.sizes l + 1 := rfl
theorem size_list (l : List Tm) (t : Tm) : (listT l t).size = Tm.sizes l + l.length + t.size := by
  induction l with
  | nil => simp [listT, Tm.sizes]
  | cons x l ih =>
    have : listT (x :: l) t = funT ⟨#[46]⟩ [x, listT l t] := rfl
    rw [this, size_fun]
    simp only [Tm.sizes, ih, List.length_cons]
    omega
theorem seeT_len {m : UInt8} {ts : Toks} (h : seeT m ts = true) : ts.tail.length + 1 = ts.length := by
  cases ts with
  | nil => cases h
  | cons x r => rfl
theorem rd_size (S : List UInt8) : ∀ f : Nat,
    (∀ t now p deep ts ns u ts' ns', rdRest S f t now p deep ts ns = .ok (u, ts', ns') → u.size + 2 * ts'.length ≤ t.size + 2 * ts.length) ∧
    (∀ p deep ts ns u ts' ns', rdTerm S f p deep ts ns = .ok (u, ts', ns') → u.size + 2 * ts'.length + 1 ≤ 2 * ts.length) ∧
    (∀ x p deep ts ns u ts' ns', rdName S f x p deep ts ns = .ok (u, ts', ns') → u.1.size + 2 * ts'.length ≤ 1 + 2 * ts.length) ∧
    (∀ deep ts ns u ts' ns', rdRow S f deep ts ns = .ok (u, ts', ns') → Tm.sizes u + u.length + 2 * ts'.length ≤ 2 * ts.length)
  | 0 => by
    refine ⟨?_, ?_, ?_, ?_⟩
    · intro t now p deep ts ns u ts' ns' h; rw [rdRest] at h; cases h
    · intro p deep ts ns u ts' ns' h; rw [rdTerm] at h; cases h
    · intro x p deep ts ns u ts' ns' h; rw [rdName] at h; cases h
    · intro deep ts ns u ts' ns' h; rw [rdRow] at h; cases h
  | f + 1 => by
    obtain ⟨ih1, ih2, ih3, ih4⟩ := rd_size S f
    refine ⟨?_, ?_, ?_, ?_⟩
    · intro t now p deep ts ns u ts' ns' h
      rw [rdRest.eq_def] at h
      dsimp only at h
      split at h
      · injection h with h; injection h with h0 h; injection h with h1 h2; subst h0 h1 h2; exact Nat.le_refl _
      · rename_i x r
        split at h
        · split at h
          · cases h
          · rename_i v r1 ns1 hv
            have a1 := ih2 _ _ _ _ _ _ _ hv
            have a2 := ih1 _ _ _ _ _ _ _ _ _ h
            rw [size_fun] at a2
            simp only [Tm.sizes, List.length_cons] at a2 ⊢
            omega
        · injection h with h; injection h with h0 h; injection h with h1 h2; subst h0 h1 h2; exact Nat.le_refl _
    · intro p deep ts ns u ts' ns' h
      rw [rdTerm.eq_def] at h
      dsimp only at h
      split at h
      · cases h
      split at h
      · cases h
      rename_i x r
      simp only [List.length_cons]
      split at h
      · have a1 := ih1 _ _ _ _ _ _ _ _ _ h
        have a2 : (numT (x.1.n : Int)).size = 1 := rfl
        omega
      split at h
      · have a1 := ih1 _ _ _ _ _ _ _ _ _ h
        have a2 : (varT (varN ns x.1.text).1).size = 1 := rfl
        omega
      split at h
      · split at h
        · cases h
        · rename_i t q r1 ns1 hv
          have a1 := ih3 _ _ _ _ _ _ _ _ hv
          have a2 := ih1 _ _ _ _ _ _ _ _ _ h
          dsimp only at a1
          omega
      split at h
      · split at h
        · cases h
        · rename_i t r1 ns1 hv
          split at h
          · cases h
          · rename_i r2 hn
            have a1 := ih2 _ _ _ _ _ _ _ hv
            have a2 := needT_len hn
            have a3 := ih1 _ _ _ _ _ _ _ _ _ h
            omega
      split at h
      · split at h
        · cases h
        · rename_i l r1 ns1 hv
          have a1 := ih4 _ _ _ _ _ _ hv
          split at h
          · rename_i hs
            have a2 := seeT_len hs
            split at h
            · cases h
            · rename_i t r2 ns2 ht
              have a3 := ih2 _ _ _ _ _ _ _ ht
              split at h
              · cases h
              · rename_i r3 hn
                have a4 := needT_len hn
                have a5 := ih1 _ _ _ _ _ _ _ _ _ h
                rw [size_list] at a5
                omega
          · split at h
            · cases h
            · rename_i r3 hn
              have a4 := needT_len hn
              have a5 := ih1 _ _ _ _ _ _ _ _ _ h
              rw [size_list, size_fun] at a5
              simp only [Tm.sizes] at a5
              omega
      · cases h
    · intro x p deep ts ns u ts' ns' h
      rw [rdName] at h
      split at h
      · injection h with h; injection h with h0 h; injection h with h1 h2; subst h0 h1 h2
        have a2 : (numT (-(nextN ts : Int))).size = 1 := rfl
        have a3 : ts.tail.length ≤ ts.length := by simp
        dsimp only
        omega
      split at h
      · split at h
        · cases h
        · rename_i r1 hn
          have a1 := needT_len hn
          split at h
          · cases h
          · rename_i l r2 ns2 hv
            have a2 := ih4 _ _ _ _ _ _ hv
            split at h
            · cases h
            · rename_i r3 hn2
              have a3 := needT_len hn2
              injection h with h; injection h with h0 h; injection h with h1 h2; subst h0 h1 h2
              dsimp only
              rw [size_fun]
              omega
      split at h
      · injection h with h; injection h with h0 h; injection h with h1 h2; subst h0 h1 h2
        dsimp only
        rw [size_fun]
        simp only [Tm.sizes]
        omega
      split at h
      · cases h
      split at h
      · cases h
      · rename_i v r1 ns1 hv
        have a1 := ih2 _ _ _ _ _ _ _ hv
        injection h with h; injection h with h0 h; injection h with h1 h2; subst h0 h1 h2
        dsimp only
        rw [size_fun]
        simp only [Tm.sizes]
        omega
    · intro deep ts ns u ts' ns' h
      rw [rdRow] at h
      split at h
      · cases h
      · rename_i t r ns1 hv
        have a1 := ih2 _ _ _ _ _ _ _ hv
        split at h
        · rename_i hs
          have a2 := seeT_len hs
          split at h
          · cases h
          · rename_i l r2 ns2 hl
            have a3 := ih4 _ _ _ _ _ _ hl
            injection h with h; injection h with h0 h; injection h with h1 h2; subst h0 h1 h2
            simp only [Tm.sizes, List.length_cons]
            omega
        · injection h with h; injection h with h0 h; injection h with h1 h2; subst h0 h1 h2
          simp only [Tm.sizes, List.length_cons, List.length_nil]
          omega
abbrev Cl := Tm × Names
/-- The clauses of a row of tokens. -/
def clsE (S : List UInt8) : Nat → Toks → Except (Nat × Nat) (List Cl)
  | 0, _ => .error (9, 0)
  | _ + 1, [] => .ok []
  | f + 1, x :: r => match clE S (x :: r) with
    | .error e => .error e
    | .ok (t, r', ns) => if t.right = true then (match clsE S f r' with | .error e => .error e | .ok l => .ok ((t, ns) :: l)) else .error (3, x.2)
/-- The clauses of a text. -/
def readE (S : List UInt8) : Except (Nat × Nat) (List Cl) :=
  if 8000 < S.length then .error (3, 0)
  else match lexL false 0 S with
    | .inl b => .error (2, b)
    | .inr ts => clsE S (ts.length + 1) ts
def accC (acc : List Cl) : Except (Nat × Nat) (List Cl) → Except (Nat × Nat) (List Cl)
  | .error e => .error e
  | .ok l => .ok (acc ++ l)
theorem accC_nil (r : Except (Nat × Nat) (List Cl)) : accC [] r = r := by cases r <;> rfl
theorem clsE_nil (S : List UInt8) (f : Nat) (acc : List Cl) : accC acc (clsE S (f + 1) []) = .ok acc := by rw [clsE, accC, List.append_nil]
theorem clsE_err {S : List UInt8} {f : Nat} {acc : List Cl} {x : Tk × Nat} {r : Toks} {e : Nat × Nat} (h : clE S (x :: r) = .error e) : accC acc (clsE S (f + 1) (x :: r)) = .error e := by rw [clsE, h]; rfl
theorem clsE_wrong {S : List UInt8} {f : Nat} {acc : List Cl} {x : Tk × Nat} {r r' : Toks} {t : Tm} {ns : Names} (h : clE S (x :: r) = .ok (t, r', ns)) (hr : t.right = false) : accC acc (clsE S (f + 1) (x :: r)) = .error (3, x.2) := by
  rw [clsE, h]
  dsimp only
  rw [if_neg (by rw [hr]; simp)]
  rfl
theorem clsE_next {S : List UInt8} {f : Nat} {acc : List Cl} {x : Tk × Nat} {r r' : Toks} {t : Tm} {ns : Names} (h : clE S (x :: r) = .ok (t, r', ns)) (hr : t.right = true) : accC acc (clsE S (f + 1) (x :: r)) = accC (acc ++ [(t, ns)]) (clsE S f r') := by
  rw [clsE, h]
  dsimp only
  rw [if_pos hr]
  cases clsE S f r' with
  | error e => rfl
  | ok l => simp [accC]
theorem cl_went {S : List UInt8} {ts r : Toks} {t : Tm} {ns : Names} (h : clE S ts = .ok (t, r, ns)) : r.length + 2 ≤ ts.length ∧ (∃ u, ts = u ++ r) ∧ t.size ≤ 2 * ts.length := by
  unfold clE at h
  cases hr : rdTerm S FF 1200 0 ts [] with
  | error e => rw [hr] at h; cases h
  | ok p =>
    obtain ⟨u, r1, n1⟩ := p
    rw [hr] at h
    dsimp only at h
    by_cases he : endT r1 = true
    · rw [if_pos he] at h
      injection h with h; injection h with h0 h; injection h with h1 h2; subst h0 h1 h2
      have w := (rd_went S FF).2.1 _ _ _ _ _ _ _ hr
      have z := (rd_size S FF).2.1 _ _ _ _ _ _ _ hr
      have w1 := w.len
      obtain ⟨v, hv⟩ := w.suf
      cases r1 with
      | nil => cases he
      | cons y q =>
        simp only [List.length_cons, List.tail_cons] at w1 z ⊢
        exact ⟨by omega, ⟨v ++ [y], by rw [hv, List.append_assoc]; rfl⟩, by omega⟩
    · rw [if_neg he] at h
      cases h
/-! ### in memory -/
def clcP (w : World) (ok : Nat → Prop) : List Cl → List Value → Prop
  | [], xs => xs = []
  | (t, ns) :: l, xs => ∃ sv nv ys, xs = .int .i64 t.kind :: .string t.name :: .int .i64 t.n :: sv :: nv :: ys ∧ Tm.innP w ok t sv ∧ namesP w ok ns nv ∧ clcP w ok l ys
theorem clcP_same {w w' : World} {ok ok' : Nat → Prop} (hB : ∀ b, ok b → ok' b) (hc : ∀ b o v, ok b → w.cell? ⟨b, o, none⟩ = some v → w'.cell? ⟨b, o, none⟩ = some v) : ∀ (l : List Cl) (xs : List Value), clcP w ok l xs → clcP w' ok' l xs
  | [], _, h => h
  | (t, _) :: l, _, ⟨sv, nv, ys, e, h1, h2, h3⟩ => ⟨sv, nv, ys, e, Tm.innP_same hB hc t sv h1, namesP_same hB hc h2, clcP_same hB hc l ys h3⟩
theorem clcP_snoc {w : World} {ok : Nat → Prop} {t : Tm} {ns : Names} {sv nv : Value} (ht : Tm.innP w ok t sv) (hn : namesP w ok ns nv) : ∀ (l : List Cl) (xs : List Value), clcP w ok l xs → clcP w ok (l ++ [(t, ns)]) (xs ++ [.int .i64 t.kind, .string t.name, .int .i64 t.n, sv, nv])
  | [], _, h => by
    have h : _ = [] := h
    subst h
    exact ⟨sv, nv, [], rfl, ht, hn, rfl⟩
  | (u, ms) :: l, _, ⟨sv', nv', ys, e, h1, h2, h3⟩ => by
    subst e
    exact ⟨sv', nv', _, rfl, h1, h2, clcP_snoc ht hn l ys h3⟩
/-- A row of clauses. -/
def clsIn (w : World) (B : Nat) (l : List Cl) (sv : Value) : Prop := ∃ g cap, sv = .slice g l.length cap ∧ (l = [] ∨ ∃ b off xs, g = some ⟨b, off, none⟩ ∧ b < B ∧ clcP w (fun x => x < B) l xs ∧ ∀ j u, xs[j]? = some u → w.cell? ⟨b, off + j, none⟩ = some u)
theorem clsIn_below {w w' : World} {B B' : Nat} {l : List Cl} {sv : Value} (h : clsIn w B l sv) (hB : B ≤ B') (hb : Below B w w') : clsIn w' B' l sv := by
  obtain ⟨g, cap, e, h⟩ := h
  refine ⟨g, cap, e, h.imp id ?_⟩
  rintro ⟨b, off, xs, e, hb', h1, h2⟩
  exact ⟨b, off, xs, e, by omega, clcP_same (fun x hx => by omega) (fun x o v hx hv => (hb.cell (p := ⟨x, o, none⟩) hx).trans hv) _ _ h1, fun j u hj => (hb.cell (p := ⟨b, off + j, none⟩) hb').trans (h2 j u hj)⟩
end Go.Proofs.YtliapkajonbndaaGreatDoor

namespace Go.Proofs.YtliapkajonbndaaGreatDoor
open Go.RowKit Go.Shelf

attribute [local go_sem] Oper.semAt_some

/-- The variables that have been met, and one term more. -/
def addV (l : List Int) (x : Key) : List Int := if x.k = 1 ∧ x.n ∉ l then l ++ [x.n] else l
/-- The variables of terms, each once, in the order of their first occurrence. -/
def varsOf (l : List Tm) : List Int := (Tm.nodesL l 1).foldl addV []

theorem addV_length (ks : List Key) : ∀ vs : List Int, (ks.foldl addV vs).length ≤ vs.length + ks.length := by
  induction ks with
  | nil => intro vs; simp
  | cons x r ih =>
    intro vs
    have h1 := ih (addV vs x)
    have h2 : (addV vs x).length ≤ vs.length + 1 := by unfold addV; split <;> simp
    simp only [List.foldl_cons, List.length_cons]
    omega
theorem varsOf_length (l : List Tm) : (varsOf l).length ≤ Tm.sizes l := by
  have := addV_length (Tm.nodesL l 1) []
  rw [nodesL_length l (fun t _ d => nodes_length t d)] at this
  simpa [varsOf] using this

/-- The mark that a range over a function leaves. -/
def mark (D : Nat) : Deferred := { target := .collected D, args := #[] }

theorem leaves_marks {F : Fence} {n : Nat} {P : Program} {fn : Func} {tmps : Array Value} {R : Ending → World → Prop} : ∀ (Ds : List Nat) (W : World), (∀ D ∈ Ds, W.heap[D]? = some (Obj.deferred (some []))) → Ds.Nodup →
    (∀ W', (∀ k, k ∉ Ds → W'.heap[k]? = W.heap[k]?) → (∀ lo, lo ≤ W.heap.size → (∀ D ∈ Ds, lo ≤ D) → Below lo W W') → W'.heap.size = W.heap.size → LeavesInM F n P fn tmps R [] .returning W') → LeavesInM F n P fn tmps R (Ds.map mark) .returning W
  | [], W, _, _, h => h W (fun _ _ => rfl) (fun _ _ _ => Below.refl _ _) rfl
  | D :: Ds, W, hD, hnd, h => ⟨by simp, .inl ⟨D, _, rfl, run_takeDeferred (hD D (by simp)), leaves_marks Ds _
      (fun E hE => (World.putObj_heap_other (fun e => by subst e; exact (List.nodup_cons.1 hnd).1 hE)).trans (hD E (by simp [hE]))) (List.nodup_cons.1 hnd).2
      (fun W' h1 h2 h3 => h W' (fun k hk => (h1 k (fun hm => hk (by simp [hm]))).trans (World.putObj_heap_other (fun e => hk (by simp [e]))))
        (fun lo hlo hl => ((Below.refl lo W).grown (grownBy_putObj' W D (.deferred none)) hlo (fun k e => by cases e; exact hl D (by simp))).trans (h2 lo (by simpa using hlo) (fun E hE => hl E (by simp [hE])))) (by simpa using h3))⟩⟩

/-- A slice of numbers in memory. -/
def intsIn (w : World) (B : Nat) (l : List Int) (v : Value) : Prop :=
  ∃ g cap, v = .slice g l.length cap ∧ l.length ≤ cap ∧ l.length ≤ 1000000000 ∧ (l = [] ∨ ∃ b off, g = some ⟨b, off, none⟩ ∧ b < B ∧ ∀ i (h : i < l.length), w.cell? ⟨b, off + i, none⟩ = some (.int .i64 l[i]))

theorem Tryz.zeroUnit (w : World) : (zeroValue 82).run Tryz.prog w = .ok (.agg #[]) w := by kernel_rfl
theorem has_vars (vs : List Int) (x : Int) (_hx : (Lit.int .i64 x).wf = true) (_hwf : ∀ y ∈ vs, (Lit.int .i64 y).wf = true) : Maps.has (Maps.setOf (DataW.agg (H := Unit) []) (vs.map (Lit.int .i64))) (.int .i64 x) = decide (x ∈ vs) := by
  rw [Maps.has_setOf]
  · rw [Bool.eq_iff_iff]
    simp only [List.any_map, List.any_eq_true, Function.comp, decide_eq_true_eq]
    constructor
    · rintro ⟨y, hy, h⟩
      by_cases e : y = x
      · rw [← e]; exact hy
      · rw [Maps.sameKey_ne (fun e' => e (by cases e'; rfl))] at h
        cases h
    · intro h
      exact ⟨x, h, WideAt.sameKey_self (by simp [WideAt.IsKeyLit])⟩
  · intro y hy
    obtain ⟨z, _, rfl⟩ := List.mem_map.1 hy
    simp [WideAt.IsKeyLit]

theorem Keep.of_grown {lo : Nat} {A B : World} {row : Option Nat} (hg : A.grownBy B row) (hlo : lo ≤ A.heap.size) (h : ∀ r, row = some r → lo ≤ r ∧ ∀ cs fr, A.heap[r]? ≠ some (Obj.cells cs 24 fr)) : Keep lo A B :=
  ⟨hg.size, fun k hk => hg.block k (by omega) (fun e => by have := (h k e.symm).1; omega), fun k cs fr hk => (hg.block k (Array.getElem?_eq_some_iff.1 hk).1 (fun e => (h k e.symm).2 cs fr hk)).trans hk⟩
theorem Tryz.infoInt : (Tryz.prog.info? 3).map (fun i => (i.zero, i.size, i.bytes)) = some (some (.int .i64 0), 1, 8) := by kernel_rfl

/-- What the call's own blocks hold when so many variables have been met: h: the slice's box; h + 1: the map; h + 2: the map's box. -/
def VInv (h : Nat) (vs : List Int) (W : World) : Prop :=
  ((∃ v, Boxed W h 61 v ∧ W.ownsRow h 3 1 v vs.length (vs.map (Value.int .i64)) ∧ True) ∧ Boxed W (h + 2) 102 (.map (some (h + 1)))) ∧
  (W.ownsMap Tryz.prog 3 (unitElem (H := Unit)) (h + 1) vs.length (Maps.setOf (.agg []) (vs.map (Lit.int .i64))) ∧ ((∀ x ∈ vs, (Lit.int .i64 x).wf = true) ∧ vs.length ≤ 1000000))

theorem VInv.own (h B : Nat) (hB : h + 3 ≤ B) {β : Type} (f : β → List Int) : OwnFrom B (fun s W => VInv h (f s) W) := by
  refine OwnFrom.and (OwnFrom.and (Own.from (holdsRow_own _ _ _ _ _ (fun s => (f s).length) (fun s => (f s).map (Value.int .i64)) (fun _ _ => True)) _) (Own.from (boxed_own _ _ _) _)) (OwnFrom.and ?_ (ownFrom_pure _ _))
  intro s X Y row hs hg hr
  exact hs.kept hg (fun e => by have := (hr _ e.symm).1; omega)
theorem VInv.alloc {h : Nat} {vs : List Int} {W : World} (hv : VInv h vs W) (o : Obj) : VInv h vs (W.alloc o) := by
  obtain ⟨⟨⟨v, hb, hr, _⟩, hb2⟩, hm, hp⟩ := hv
  exact ⟨⟨⟨v, hb.alloc o, hr.alloc o, trivial⟩, hb2.alloc o⟩, hm.alloc o, hp⟩

theorem intsIn_get {w : World} {B : Nat} {l : List Int} {g : Option Addr} {len cap : Nat} (h : intsIn w B l (.slice g len cap)) (i : Nat) (hi : i < l.length) :
    ∃ b off, g = some ⟨b, off, none⟩ ∧ b < B ∧ w.cell? ⟨b, off + i, none⟩ = some (.int .i64 l[i]) := by
  obtain ⟨g', cap', he, h1, h2, h3⟩ := h
  injection he with e1 e2 e3
  subst e1
  rcases h3 with rfl | ⟨b, off, rfl, hb, hr⟩
  · simp at hi
  · exact ⟨b, off, rfl, hb, hr i hi⟩
theorem intsIn_same {w w' : World} {B B' : Nat} {l : List Int} {v : Value} (h : intsIn w B l v) (hB : B ≤ B') (hc : ∀ b o u, b < B → w.cell? ⟨b, o, none⟩ = some u → w'.cell? ⟨b, o, none⟩ = some u) : intsIn w' B' l v := by
  obtain ⟨g, cap, rfl, h1, h2, h3⟩ := h
  refine ⟨g, cap, rfl, h1, h2, ?_⟩
  rcases h3 with h3 | ⟨b, off, rfl, hb, hr⟩
  · exact .inl h3
  · exact .inr ⟨b, off, rfl, by omega, fun i hi => hc b _ _ hb (hr i hi)⟩
theorem intsIn_below {w w' : World} {B n₀ : Nat} {l : List Int} {v : Value} (h : intsIn w B l v) (hb : Below n₀ w w') (hB : B ≤ n₀) : intsIn w' B l v :=
  intsIn_same h (Nat.le_refl _) (fun b o u hlt hc => (hb.cell (p := ⟨b, o, none⟩) (by show b < n₀; omega)).trans hc)
theorem intsIn_map {w w' : World} {B m : Nat} {l : List Int} {v : Value} (h : intsIn w B l v) (hg : w.grownBy w' (some m)) (hm : ∃ es ck, w.heap[m]? = some (Obj.map es ck)) : intsIn w' B l v :=
  intsIn_same h (Nat.le_refl _) (fun b o u _ hc => hg.cell (a := ⟨b, o, none⟩) hc (fun e => by
    obtain ⟨es, ck, hm⟩ := hm
    have hbm : b = m := by simpa using e
    subst hbm
    simp [World.cell?, hm] at hc))

set_option maxRecDepth 100000 in
set_option maxHeartbeats 4000000 in
theorem tvars_any (l : List Tm) (w : World) (sv : Value) (hsl : Tm.sliceIn w w.heap.size l sv) (hsz : Tm.sizes l ≤ 1000000) :
    Calls Tryz.prog 20 #[sv] w fun e w' => ∃ v, e = .returned v ∧ intsIn w' w'.heap.size (varsOf l) v ∧ Below w.heap.size w w' ∧ (∀ x ∈ varsOf l, (Lit.int .i64 x).wf = true) := by
  refine (callsIn_wide (n := 9)).1 ?_
  have hsl0 := hsl
  obtain ⟨g, cap, rfl, hcap, hlen, _⟩ := hsl0
  obtain ⟨i0, hi, hz0, hz1, hz2⟩ := info_parts Tryz.infoInt
  have HSL := Lib.hid hsl
  clear hsl
  have hmm := @run_makeMap Tryz.prog
  refine callsIn_of_wp_marks Tryz.func20 rfl trivial ?_ rfl
  simp only [Tryz.ntmps20, List.size_toArray, List.length_cons, List.length_nil, Nat.reduceAdd, Nat.reduceSub, Array.replicate_succ, Array.replicate_zero, List.push_toArray, List.append_toArray, List.nil_append, List.cons_append]
  gi_wp2_with fail
  refine wpIn_loop (fun a wr => ∃ (k : Nat) (Ds : List Nat) (u6 u14 u15 u16 u17 u18 u42 : Value), k ≤ l.length ∧
      a = { tmps := #[.slice g l.length cap, undef, .slice none 0 0, .pointer (some ⟨w.heap.size, 0, none⟩), .pointer (some ⟨w.heap.size + 1 + 1, 0, none⟩), undef, u6, undef, undef, undef, .map (some (w.heap.size + 1)), .slice g l.length cap, .int .i64 l.length, .int .i64 k,
        u14, u15, u16, u17, u18, undef, undef, undef, undef, undef, undef, undef, undef, undef, undef, undef, undef, undef, undef, undef, undef, undef, undef, undef, undef, undef, undef, undef, u42, undef], defers := Ds.map mark } ∧
      Hid (VInv w.heap.size (varsOf (l.take k)) wr ∧ Below w.heap.size w wr ∧ (∀ D ∈ Ds, w.heap.size + 3 ≤ D ∧ wr.heap[D]? = some (.deferred (some []))) ∧ Ds.Nodup)) (fun a _ => l.length - (intOf (a.tmps.getD 13 undef)).toNat) ?start ?round
  case start =>
    refine ⟨0, [], undef, undef, undef, undef, undef, undef, undef, Nat.zero_le _, rfl, ⟨⟨⟨.slice none 0 0, ?_, World.ownsRow_nil _ _ _ _, trivial⟩, ?_⟩, ?_, by simp [varsOf, Tm.nodesL], by simp [varsOf, Tm.nodesL]⟩, ?_, by simp, by simp⟩
    · exact ((Boxed.new w _ _).alloc _).alloc _
    · exact newBlk _ _ _ (by simp)
    · have := World.ownsMap_made (w.alloc (.cells #[.slice none 0 0] 61)) Tryz.prog 3 (unitElem (H := Unit))
      simp only [World.size_alloc] at this
      exact this.alloc _
    · exact (((Below.refl _ _).alloc (Nat.le_refl _) _).alloc (by simp) _).alloc (by simp; omega) _
  case round =>
    rintro a wr ⟨k, Ds, u6, u14, u15, u16, u17, u18, u42, hk, rfl, hinv⟩
    by_cases hlt : k < l.length
    · obtain ⟨hv, hb, hD, hnd⟩ := hinv.out
      obtain ⟨b, off, sv, rfl, hbB, g0, g1, g2, g3, hin'⟩ := Tm.sliceIn_get (Tm.sliceIn_below HSL.out hb (Nat.le_refl _)) k hlt
      obtain ⟨_, ga, capa, rfl, _, _, _⟩ := Tm.inn_iff.1 hin'
      have HV := Lib.hid hv
      have HB := Lib.hid hb
      have HD := Lib.hid hD
      have HND := Lib.hid hnd
      have HIN := Lib.hid hin'
      clear hv hb hD hnd hin' hinv
      gi_wp2_with fail
      refine ⟨trivial, ?_⟩
      refine (inside_in Fence.wide 8 trivial rfl _ _ _ _ _ _ _).mono ?_
      rintro e w' ⟨rfl, rfl⟩
      gi_wp2_with fail
      have hszk : l[k].size ≤ 1000000 := Nat.le_trans (Tm.size_mem_le (List.getElem_mem hlt)) hsz
      have hws := HB.out.size
      have bX := newBlk (wr.alloc (.cells #[.int .i64 l[k].kind, .string l[k].name, .int .i64 l[k].n, .slice ga l[k].args.length capa] 24)) (.cells #[.int .i64 l[k].kind, .string l[k].name, .int .i64 l[k].n, .slice ga l[k].args.length capa] 24) (wr.heap.size + 1) (by simp)
      have hv1 := (HV.out.alloc (.cells #[.int .i64 l[k].kind, .string l[k].name, .int .i64 l[k].n, .slice ga l[k].args.length capa] 24)).alloc (.cells #[.int .i64 l[k].kind, .string l[k].name, .int .i64 l[k].n, .slice ga l[k].args.length capa] 24)
      have hbr : Below wr.heap.size wr ((wr.alloc (.cells #[.int .i64 l[k].kind, .string l[k].name, .int .i64 l[k].n, .slice ga l[k].args.length capa] 24)).alloc (.cells #[.int .i64 l[k].kind, .string l[k].name, .int .i64 l[k].n, .slice ga l[k].args.length capa] 24)) := ((Below.refl _ _).alloc (Nat.le_refl _) _).alloc (by simp) _
      have hsz1 : ((wr.alloc (.cells #[.int .i64 l[k].kind, .string l[k].name, .int .i64 l[k].n, .slice ga l[k].args.length capa] 24)).alloc (.cells #[.int .i64 l[k].kind, .string l[k].name, .int .i64 l[k].n, .slice ga l[k].args.length capa] 24)).heap.size = wr.heap.size + 2 := by simp
      obtain ⟨W1, hW1⟩ : ∃ W1, (wr.alloc (.cells #[.int .i64 l[k].kind, .string l[k].name, .int .i64 l[k].n, .slice ga l[k].args.length capa] 24)).alloc (.cells #[.int .i64 l[k].kind, .string l[k].name, .int .i64 l[k].n, .slice ga l[k].args.length capa] 24) = W1 := ⟨_, rfl⟩
      rw [hW1] at bX hv1 hbr hsz1 ⊢
      clear hW1
      have hD1 : ∀ D ∈ Ds, W1.heap[D]? = some (.deferred (some [])) := fun D hD => (hbr.block D (Array.getElem?_eq_some_iff.1 (HD.out D hD).2).1).trans (HD.out D hD).2
      have hDlt : ∀ D ∈ Ds, D < wr.heap.size := fun D hD => (Array.getElem?_eq_some_iff.1 (HD.out D hD).2).1
      have hb1 := HB.out.trans (hbr.mono hws)
      have hin1 := Tm.inn_below HIN.out hbr hws
      have hm0 : w.heap.size + 3 ≤ W1.heap.size := by
        obtain ⟨⟨_, hx⟩, _⟩ := hv1
        have := hx.lt
        omega
      have HV1 := Lib.hid hv1
      have HB1 := Lib.hid hb1
      have HD1 := Lib.hid hD1
      have HDLT := Lib.hid hDlt
      clear hbr hv1 hb1 hD1 hDlt
      refine wpIn_rangeFunc_ownH rfl (by omega) (gf := 39) (lb := #[.pointer (some ⟨wr.heap.size + 1, 0, none⟩)]) rfl trivial (enters_of Tryz.func39 (by kernel_rfl) rfl)
        (inside_stops Fence.wide rfl (9 - 1) trivial trivial rfl (wr.heap.size + 1) w.heap.size l[k] ga capa W1 (by omega) bX hin1 hszk) Keep.trans (keep_putObj (by omega)) (Below.refl _ _) (fun _ => rfl)
        (fun pre W => (VInv w.heap.size ((pre.map El.key).foldl addV (varsOf (l.take k))) W ∧ (∀ D ∈ Ds, W.heap[D]? = some (.deferred (some [])))) ∧ Below w.heap.size w W)
        (fun _ _ _ => False)
        (OwnFrom.and (OwnFrom.and (VInv.own _ _ (by omega) (fun pre : List El => (pre.map El.key).foldl addV (varsOf (l.take k)))) (fun s X Y row hs hg hr D hD => (hg.block D (Array.getElem?_eq_some_iff.1 (hs D hD)).1 (fun e => by have := (hr D e.symm).1; have := HDLT.out D hD; omega)).trans (hs D hD))) (ownFrom_below (Nat.le_refl _) (by omega)))
        (fun _ _ _ _ _ hs _ _ => hs)
        ⟨⟨HV1.out, HD1.out⟩, HB1.out⟩
        (fun x a' W => ∃ Bx, w.heap.size + 3 ≤ Bx ∧ W.heap[Bx]? = some (Obj.cells #[.int .i64 x.key.k, .string x.key.s, .int .i64 x.key.n, .slice x.g x.key.m x.cap] 24 (0, 0)) ∧
          a' = { tmps := #[.slice (some ⟨b, off, none⟩) l.length cap, undef, .slice none 0 0, .pointer (some ⟨w.heap.size, 0, none⟩), .pointer (some ⟨w.heap.size + 1 + 1, 0, none⟩), undef, .pointer (some ⟨wr.heap.size, 0, none⟩), .pointer (some ⟨Bx, 0, none⟩), undef, undef, .map (some (w.heap.size + 1)), .slice (some ⟨b, off, none⟩) l.length cap, .int .i64 l.length, .int .i64 k,
            .bool true, .pointer (some ⟨b, off + k * 4, none⟩), .agg #[.int .i64 l[k].kind, .string l[k].name, .int .i64 l[k].n, .slice ga l[k].args.length capa], .agg #[.int .i64 l[k].kind, .string l[k].name, .int .i64 l[k].n, .slice ga l[k].args.length capa], .func (.func 39) #[] #[.pointer (some ⟨wr.heap.size + 1, 0, none⟩)],
            .agg #[.int .i64 x.key.k, .string x.key.s, .int .i64 x.key.n, .slice x.g x.key.m x.cap], .int .i64 x.key.d, undef, undef, undef, undef, undef, undef, undef, undef, undef, undef, undef, undef, undef, undef, undef, undef, undef, undef, undef, undef, undef, u42, undef], defers := [] })
        (fun x a' => Own.from (fun _ X Y row hs hg hrow => by obtain ⟨Bx, h1, h2, h3⟩ := hs; exact ⟨Bx, h1, (grownBy_keeps_cells hg hrow h2 rfl).trans h2, h3⟩) _)
        ?assign ?body ?done ?stop
      case assign =>
        rintro l' pre x W K ⟨⟨hv, hD⟩, hb⟩ hK
        simp only [El.encs]
        rw [zip2]
        gi_wp2
        have hlt3 : w.heap.size + 3 ≤ W.heap.size := by
          obtain ⟨⟨_, hx⟩, _⟩ := hv
          have := hx.lt
          omega
        exact hK _ _ ((KeepsOthers.alloc _ _).from _) ((Keep.refl _ _).alloc hb.size _) ⟨⟨hv.alloc _, fun D hDm => (Below.heap_alloc _ _ _ (Array.getElem?_eq_some_iff.1 (hD D hDm)).1).trans (hD D hDm)⟩, hb.alloc hb.size _⟩ ⟨W.heap.size, hlt3, newBlk W _ _ rfl, rfl⟩
      case body =>
        rintro l' pre x a' W hl _ ⟨⟨hv, hD⟩, hb⟩ ⟨Bx, hBx, hX, rfl⟩ hlen2
        have hvs : ((pre ++ [x]).map El.key).foldl addV (varsOf (l.take k)) = addV ((pre.map El.key).foldl addV (varsOf (l.take k))) x.key := by simp
        obtain ⟨vs, hvs0⟩ : ∃ vs, (pre.map El.key).foldl addV (varsOf (l.take k)) = vs := ⟨_, rfl⟩
        rw [hvs0] at hvs hv
        clear hvs0
        obtain ⟨⟨⟨v, bV, hrow, _⟩, bM⟩, hmap, hwf, hlenv⟩ := id hv
        obtain ⟨⟨c0, c1, c2, c3⟩, _⟩ := row4 hX
        have cV := bV.cell
        have fV := bV.frozen
        have cM := bM.cell
        have HVS := Lib.hid hvs
        have HV := Lib.hid hv
        have HDD := Lib.hid hD
        have HBB := Lib.hid hb
        have hbx := hb.size
        have hXlt := (Array.getElem?_eq_some_iff.1 hX).1
        clear hvs hv hD hb hX
        by_cases hk1 : x.key.k = 1
        · rw [hk1] at c0
          have HK1 := Lib.hid hk1
          have HROW := Lib.hid hrow
          have HMAP := Lib.hid hmap
          have BV := Lib.hid bV
          have BM := Lib.hid bM
          have HWF := Lib.hid hwf
          have hVlt : w.heap.size < W.heap.size := bV.lt
          have hMlt : w.heap.size + 1 + 1 < W.heap.size := bM.lt
          by_cases hmem : x.key.n ∈ vs
          · have hh := Lib.hid ((has_vars vs x.key.n x.ok.2.2.1 hwf).trans (decide_eq_true hmem))
            have hadd : addV vs x.key = vs := by simp [addV, hmem]
            have HADD := Lib.hid hadd
            clear hadd hk1 hrow hmap bV bM hwf hmem
            gi_wp2_with (gi_at_lookup; refine wpListIn_lookup_own_unit _ rfl _ _ 102 rfl 3 82 (Maps.int_keyed Tryz.underlying3) Tryz.underlying102 (Tryz.zeroUnit _) (w.heap.size + 1) vs.length _ rfl HMAP.out _ _ rfl (Maps.keyOf_int_mk Tryz.underlying3 x.ok.2.2.1) ?_; rw [hh.out])
            exact ⟨(KeepsOthers.alloc _ _).from _, (Keep.refl _ _).alloc hbx _, ⟨by rw [HVS.out, HADD.out]; exact HV.out.alloc _, fun D hDm => (Below.heap_alloc _ _ _ (Array.getElem?_eq_some_iff.1 (HDD.out D hDm)).1).trans (HDD.out D hDm)⟩, HBB.out.alloc hbx _⟩
          · have hh := Lib.hid ((has_vars vs x.key.n x.ok.2.2.1 hwf).trans (decide_eq_false hmem))
            have hadd : addV vs x.key = vs ++ [x.key.n] := by simp [addV, hmem, hk1]
            have HADD := Lib.hid hadd
            have hnb : vs.length < maxLen := by unfold maxLen; omega
            clear hadd hk1 hrow hmap bV bM hwf hmem
            gi_wp2_with (first
              | (gi_at_lookup; refine wpListIn_lookup_own_unit _ rfl _ _ 102 rfl 3 82 (Maps.int_keyed Tryz.underlying3) Tryz.underlying102 (Tryz.zeroUnit _) (w.heap.size + 1) vs.length _ rfl HMAP.out _ _ rfl (Maps.keyOf_int_mk Tryz.underlying3 x.ok.2.2.1) ?_; rw [hh.out])
              | (gi_at_mapUpdate; refine wpListIn_mapUpdate_own _ rfl _ _ _ 102 rfl 3 82 (Maps.int_keyed Tryz.underlying3) Tryz.underlying102 _ (w.heap.size + 1) vs.length _ rfl (HMAP.out.alloc _) hnb _ _ _ rfl rfl (Maps.keyOf_int_mk Tryz.underlying3 x.ok.2.2.1) _ [] unitElem_mk ?_; intro w1 hown1 hgrow1
                 have bV1 : Boxed w1 w.heap.size 61 v := (BV.out.alloc _).kept hgrow1 (by simp)
                 have cV1 := bV1.cell
                 have fV1 := bV1.frozen
                 have d2 : w1.cell? ⟨Bx, 2, none⟩ = some (.int .i64 x.key.n) := hgrow1.cell (a := ⟨Bx, 2, none⟩) ((World.cell?_alloc_lt _ _ _ hXlt).trans c2) (by simp; omega)
                 have hrow1 := (HROW.out.alloc (Obj.cells #[] 82)).kept hgrow1 (.inr (fun e => by
                   obtain ⟨es, ck, hm, _⟩ := HMAP.out
                   rcases HROW.out.2 with ⟨rfl, _⟩ | ⟨g', cap', cur, rfl, _, hg', _⟩
                   · simp [Value.ownBlock] at e
                   · simp [Value.ownBlock] at e
                     rw [e, hm] at hg'
                     simp at hg'))
                 have hs1 := hgrow1.size
                 simp only [World.size_alloc] at hs1
                 have HOWN1 := Lib.hid hown1
                 have HGROW1 := Lib.hid hgrow1
                 have BV1 := Lib.hid bV1
                 have HROW1 := Lib.hid hrow1
                 clear hown1 hgrow1 bV1 hrow1)
              | (gi_at_builtin; refine wpListIn_append_own _ rfl _ _ 61 rfl w.heap.size 3 i0 (.int .i64 0) 1 8 Tryz.underlying61 hi hz0 hz1 hz2 rfl (by decide) v vs.length _ rfl (HROW1.out.alloc _) ⟨w1.heap.size, 0, none⟩ 1 1 [.int .i64 x.key.n] rfl rfl (cell_one_new _ _ _) (by simp [Value.oneCell']) (by unfold maxLen; omega) (by omega) (by simp; omega) ?_; intro v' w2 hown' hgrow _; obtain ⟨g', cap', rfl⟩ := ownsRow_succ hown'; obtain ⟨hv1, hv2, hr2, hk2, hb2⟩ := BV1.out.appended (by decide) HROW1.out (by omega) (Nat.le_refl _) hown' hgrow; have hc1 := hv1.cell; have hf1 := hv1.frozen))
            have hne : some (w.heap.size + 1) ≠ v.ownBlock := fun e => by
              obtain ⟨es, ck, hm, _⟩ := HOWN1.out
              rcases HROW1.out.2 with ⟨rfl, _⟩ | ⟨g', cap', cur, rfl, _, hg', _⟩
              · simp [Value.ownBlock] at e
              · simp [Value.ownBlock] at e
                rw [← e, hm] at hg'
                simp at hg'
            have hlenx : (vs ++ [x.key.n]).length ≤ 1000000 := by
              rw [← HADD.out, ← HVS.out]
              have h1 := addV_length ((pre ++ [x]).map El.key) (varsOf (l.take k))
              have h2 := varsOf_length (l.take k)
              have h3 := Tm.sizes_take_succ l k hlt
              have h4 := Tm.sizes_take_le l (k + 1)
              simp only [List.length_map, List.length_append, List.length_cons, List.length_nil] at h1
              omega
            refine ⟨(((KeepsOthers.alloc W _).from _).trans (KeepsFrom.of_grownBy HGROW1.out (fun j e => by cases e; omega))).trans (hk2.from _), ?_, ⟨?_, fun D hDm => ?_⟩, ?_⟩
            · refine (((Keep.refl _ _).alloc hbx _).trans (Keep.of_grown HGROW1.out (by simp; omega) (fun r e => ?_))).trans ((((Keep.refl _ _).alloc (by omega) _).trans (Keep.of_grown hgrow (by simp; omega) (fun r e => ?_))).trans (keep_set hv1 (by decide) (Nat.le_refl _) _))
              · cases e
                refine ⟨by omega, fun cs fr h => ?_⟩
                obtain ⟨es, ck, hm, _⟩ := HMAP.out.alloc (Obj.cells #[] 82)
                rw [hm] at h
                cases h
              · rcases (HROW1.out.alloc (Obj.cells #[.int .i64 x.key.n] 3)).2 with ⟨rfl, _⟩ | ⟨g2, cap2, cur, rfl, hbase, hg2, _⟩
                · simp [Value.ownBlock] at e
                · obtain rfl : g2 = r := by simpa [Value.ownBlock] using e
                  refine ⟨hbase, fun cs fr h => ?_⟩
                  rw [hg2] at h
                  simp at h
            · rw [HVS.out, HADD.out]
              refine ⟨⟨⟨_, hv2, ?_, trivial⟩, ?_⟩, ?_, ?_, hlenx⟩
              · simpa using hr2
              · have b1 : Boxed w1 (w.heap.size + 2) 102 (.map (some (w.heap.size + 1))) := (BM.out.alloc _).kept HGROW1.out (by simp)
                exact ((b1.alloc _).kept hgrow (b1.not_row (by decide) HROW1.out)).other (by omega) _
              · have m1 := ((HOWN1.out.alloc (Obj.cells #[.int .i64 x.key.n] 3)).kept hgrow hne).setCell (a := ⟨w.heap.size, 0, none⟩) (by simp) (.slice (some ⟨g', 0, none⟩) (vs.length + 1) cap')
                rw [List.map_append, List.map_cons, List.map_nil, Maps.setOf_snoc, List.length_append]
                exact m1
              · intro y hy
                rcases List.mem_append.1 hy with hy | hy
                · exact HWF.out y hy
                · obtain rfl : y = x.key.n := by simpa using hy
                  exact x.ok.2.2.1
            · have h0 := HDD.out D hDm
              have hlo := (HD.out D hDm).1
              have h1 := (Below.heap_alloc W (Obj.cells #[] 82) D (Array.getElem?_eq_some_iff.1 h0).1).trans h0
              have h2 := (HGROW1.out.block D (Array.getElem?_eq_some_iff.1 h1).1 (by simp; omega)).trans h1
              exact hk2.same D _ h2 rfl
            · exact ((HBB.out.alloc hbx _).grown HGROW1.out (by simp; omega) (fun j e => by cases e; omega)).trans hb2
        · have hk1b : (x.key.k != 1) = true := by rw [bne_iff_ne]; exact hk1
          have hadd : addV vs x.key = vs := by simp [addV, hk1]
          have HADD := Lib.hid hadd
          clear hadd hrow hmap bV bM hwf
          gi_wp2
          exact ⟨KeepsFrom.refl _ _, Keep.refl _ _, ⟨by rw [HVS.out, HADD.out]; exact HV.out, HDD.out⟩, HBB.out⟩
      case done =>
        rintro D ys W hD hS ⟨⟨hv, hDs⟩, hb⟩ hK
        have hvs : (ys.map El.key).foldl addV (varsOf (l.take k)) = varsOf (l.take (k + 1)) := by
          rw [hS]
          unfold varsOf
          rw [nodesL_take_succ l k hlt, List.foldl_append]
        rw [hvs] at hv
        have hfin : Hid (VInv w.heap.size (varsOf (l.take (k + 1))) W ∧ Below w.heap.size w W ∧ (∀ E ∈ D :: Ds, w.heap.size + 3 ≤ E ∧ W.heap[E]? = some (.deferred (some []))) ∧ (D :: Ds).Nodup) := by
          refine ⟨hv, hb, fun E hE => ?_, List.nodup_cons.2 ⟨fun hm => ?_, HND.out⟩⟩
          · rcases List.mem_cons.1 hE with rfl | hE
            · exact ⟨by omega, hK⟩
            · exact ⟨(HD.out E hE).1, hDs E hE⟩
          · have := HDLT.out D hm
            omega
        clear hv hDs hb hK hS hvs
        gi_wp2
        exact ⟨⟨k + 1, D :: Ds, _, _, _, _, _, _, _, by omega, by push_cast; rfl, hfin⟩, by simp [intOf]; omega⟩
      case stop =>
        rintro D c pre W _ _ h _
        exact h.elim
    · obtain rfl : k = l.length := by omega
      obtain ⟨hv, hb, hD, hnd⟩ := hinv.out
      rw [List.take_length] at hv
      obtain ⟨⟨⟨v, bV, hrow, _⟩, bM⟩, hmap, hwf, hlenv⟩ := hv
      have cV := bV.cell
      have BV := Lib.hid bV
      have HROW := Lib.hid hrow
      have HBB := Lib.hid hb
      have HD := Lib.hid hD
      have HND := Lib.hid hnd
      have HWF := Lib.hid hwf
      have hbz := hb.size
      clear hinv bV hrow bM hmap hwf hb hD hnd
      gi_wp2_with fail
      refine leaves_marks Ds wr (fun D hD => (HD.out D hD).2) HND.out fun W' h1 h2 h3 => ?_
      refine ⟨_, results_tmp rfl _ _ _, _, rfl, ?_, HBB.out.trans (h2 w.heap.size hbz (fun D hD => by have := (HD.out D hD).1; omega)), HWF.out⟩
      rcases HROW.out.2 with ⟨rfl, h0⟩ | ⟨gr, cr, cur, rfl, hbase, hg, hn, _⟩
      · refine ⟨none, 0, ?_, by omega, by omega, .inl (List.eq_nil_of_length_eq_zero h0)⟩
        rw [h0]
        rfl
      · refine ⟨_, cr, rfl, hn, by omega, .inr ⟨gr, 0, rfl, ?_, fun i hi => ?_⟩⟩
        · have := (Array.getElem?_eq_some_iff.1 hg).1
          omega
        · have hc := HROW.out.cells (g := gr) rfl i (.int .i64 (varsOf l)[i]) (by simp [hi])
          rw [Addr.add_lit] at hc
          refine (World.cell?_of_block (a := ⟨gr, 0 + i, none⟩) (h1 gr (fun hm => ?_))).trans hc
          have := (HD.out gr hm).2
          rw [hg] at this
          cases this
end Go.Proofs.YtliapkajonbndaaGreatDoor
