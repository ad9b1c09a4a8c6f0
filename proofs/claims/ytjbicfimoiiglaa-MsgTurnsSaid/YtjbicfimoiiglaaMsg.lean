/-
  Least generalisations, purely: the pairs that differ, the term that is built of them, and what it is.
  The least generalisation of a term and an instance of it is the term, numbered; it is right.
-/
import Derived.Test.YtjbicfimoiiglaaMat
import Derived.Test.YtjbicfimoiiglaaVari
namespace Go.Proofs.Ytjbicfimoiiglaa
open Go.RowKit

/-- Do two terms begin alike? -/
def likeB (a b : Tm) : Bool := decide (a.kind ≠ 1 ∧ a.kind = b.kind ∧ a.n = b.n ∧ a.name = b.name ∧ a.args.length = b.args.length)
theorem likeB_iff {a b : Tm} : likeB a b = true ↔ a.kind ≠ 1 ∧ a.kind = b.kind ∧ a.n = b.n ∧ a.name = b.name ∧ a.args.length = b.args.length := by simp [likeB]
theorem likeB_swap (a b : Tm) : likeB b a = likeB a b := by
  rw [Bool.eq_iff_iff, likeB_iff, likeB_iff]
  constructor
  · rintro ⟨h1, h2, h3, h4, h5⟩
    exact ⟨fun e => h1 (h2.trans e), h2.symm, h3.symm, h4.symm, h5.symm⟩
  · rintro ⟨h1, h2, h3, h4, h5⟩
    exact ⟨fun e => h1 (h2.trans e), h2.symm, h3.symm, h4.symm, h5.symm⟩
def addP (l : List (Tm × Tm)) (x : (Tm × Tm)) : List (Tm × Tm) := if x ∈ l then l else l ++ [x]
mutual
/-- The pairs that differ, as they are met. -/
def Tm.diffs : Tm → Tm → List (Tm × Tm)
  | .mk k s n l, b => if likeB (.mk k s n l) b = true then Tm.diffss l b.args else [(.mk k s n l, b)]
def Tm.diffss : List Tm → List Tm → List (Tm × Tm)
  | [], _ => []
  | _ :: _, [] => []
  | t :: r, u :: us => t.diffs u ++ Tm.diffss r us
end
def prsT (l : List (Tm × Tm)) (a b : Tm) : List (Tm × Tm) := (a.diffs b).foldl addP l
mutual
/-- The generalisation, of what pairs are. -/
def Tm.gen (L : List (Tm × Tm)) : Tm → Tm → Tm
  | .mk k s n l, b => if likeB (.mk k s n l) b = true then .mk k s n (Tm.gens L l b.args) else vTm (L.idxOf (Tm.mk k s n l, b))
def Tm.gens (L : List (Tm × Tm)) : List Tm → List Tm → List Tm
  | [], _ => []
  | _ :: _, [] => []
  | t :: r, u :: us => t.gen L u :: Tm.gens L r us
end
def msgT (a b : Tm) : Tm := a.gen (prsT [] a b) b

/-! ### the pairs -/
theorem addP_mem {l : List (Tm × Tm)} {x y : (Tm × Tm)} : y ∈ addP l x ↔ y ∈ l ∨ y = x := by
  unfold addP
  split
  · exact ⟨.inl, fun h => h.elim id (fun e => e ▸ ‹_›)⟩
  · simp
theorem addP_nodup {l : List (Tm × Tm)} {x : (Tm × Tm)} (h : l.Nodup) : (addP l x).Nodup := by
  unfold addP
  split
  · exact h
  · rename_i hx
    exact List.nodup_append.2 ⟨h, by simp, fun a ha b hb e => hx (by rw [List.mem_singleton.1 hb] at e; exact e ▸ ha)⟩
theorem addP_length (l : List (Tm × Tm)) (x : (Tm × Tm)) : (addP l x).length ≤ l.length + 1 := by unfold addP; split <;> simp
theorem foldP_mem {y : (Tm × Tm)} : ∀ (ds l : List (Tm × Tm)), y ∈ ds.foldl addP l ↔ y ∈ l ∨ y ∈ ds
  | [], l => by simp
  | x :: r, l => by rw [List.foldl_cons, foldP_mem r, addP_mem, List.mem_cons, or_assoc]
theorem foldP_nodup : ∀ (ds l : List (Tm × Tm)), l.Nodup → (ds.foldl addP l).Nodup
  | [], _, h => h
  | x :: r, l, h => by rw [List.foldl_cons]; exact foldP_nodup r _ (addP_nodup h)
theorem foldP_length : ∀ (ds l : List (Tm × Tm)), (ds.foldl addP l).length ≤ l.length + ds.length
  | [], _ => by simp
  | x :: r, l => by
    rw [List.foldl_cons]
    have h1 := foldP_length r (addP l x)
    have h2 := addP_length l x
    simp only [List.length_cons]
    omega
theorem prs_mem {l : List (Tm × Tm)} {a b : Tm} {y : (Tm × Tm)} : y ∈ prsT l a b ↔ y ∈ l ∨ y ∈ a.diffs b := foldP_mem _ _
theorem prs_nodup {l : List (Tm × Tm)} {a b : Tm} (h : l.Nodup) : (prsT l a b).Nodup := foldP_nodup _ _ h
/-- Places that differ are places of both. -/
theorem diffss_sizes : ∀ (l : List Tm) (_ : ∀ t ∈ l, ∀ b, (t.diffs b).length ≤ t.size ∧ (t.diffs b).length ≤ b.size) (us : List Tm), (Tm.diffss l us).length ≤ Tm.sizes l ∧ (Tm.diffss l us).length ≤ Tm.sizes us
  | [], _, _ => by simp [Tm.diffss]
  | _ :: _, _, [] => by simp [Tm.diffss]
  | t :: r, ih, u :: us => by
    have h1 := ih t (by simp) u
    have h2 := diffss_sizes r (fun x hx => ih x (by simp [hx])) us
    simp only [Tm.diffss, List.length_append, Tm.sizes]
    omega
theorem diffs_sizes : ∀ (a b : Tm), (a.diffs b).length ≤ a.size ∧ (a.diffs b).length ≤ b.size := Tm.ind fun k s n l ih b => by
  have hb := b.size_pos
  simp only [Tm.diffs]
  split
  · have h1 := diffss_sizes l ih b.args
    obtain ⟨k', s', n', us⟩ := b
    simp only [Tm.size, Tm.args] at h1 ⊢
    omega
  · simp only [List.length_cons, List.length_nil, Tm.size]
    omega
/-! ### both are instances -/
def fstS (L : List (Tm × Tm)) (v : Int) : Tm := match L[v.toNat]? with
  | some p => p.1
  | none => vTm v
def sndS (L : List (Tm × Tm)) (v : Int) : Tm := match L[v.toNat]? with
  | some p => p.2
  | none => vTm v
theorem idx_get {L : List (Tm × Tm)} {x : (Tm × Tm)} (h : x ∈ L) : L[L.idxOf x]? = some x := by
  have h1 := List.idxOf_lt_length_iff.2 h
  rw [List.getElem?_eq_getElem h1, List.getElem_idxOf]
theorem gens_fst {L : List (Tm × Tm)} : ∀ (l : List Tm) (_ : ∀ t ∈ l, ∀ b, (∀ x ∈ t.diffs b, x ∈ L) → (t.gen L b).bnd (fstS L) = t ∧ (t.gen L b).bnd (sndS L) = b) (us : List Tm), l.length = us.length → (∀ x ∈ Tm.diffss l us, x ∈ L) → Tm.bnds (fstS L) (Tm.gens L l us) = l ∧ Tm.bnds (sndS L) (Tm.gens L l us) = us
  | [], _, [], _, _ => by simp [Tm.gens, Tm.bnds]
  | [], _, _ :: _, h, _ => by simp at h
  | _ :: _, _, [], h, _ => by simp at h
  | t :: r, ih, u :: us, hl, h => by
    simp only [Tm.diffss] at h
    have h1 := ih t (by simp) u fun x hx => h x (List.mem_append_left _ hx)
    have h2 := gens_fst r (fun x hx => ih x (by simp [hx])) us (by simpa using hl) fun x hx => h x (List.mem_append_right _ hx)
    simp only [Tm.gens, Tm.bnds, h1.1, h1.2, h2.1, h2.2]
    exact ⟨trivial, trivial⟩
theorem gen_fst {L : List (Tm × Tm)} : ∀ (a b : Tm), (∀ x ∈ a.diffs b, x ∈ L) → (a.gen L b).bnd (fstS L) = a ∧ (a.gen L b).bnd (sndS L) = b := Tm.ind fun k s n l ih b h => by
  simp only [Tm.diffs, Tm.gen] at h ⊢
  split
  · rename_i hl
    rw [if_pos hl] at h
    obtain ⟨h1, h2, h3, h4, h5⟩ := likeB_iff.1 hl
    obtain ⟨k', s', n', us⟩ := b
    simp only [Tm.kind, Tm.n, Tm.name, Tm.args] at h1 h2 h3 h4 h5 h ⊢
    subst h2 h3 h4
    have h6 := gens_fst l ih us h5 h
    rw [Tm.bnd_kind _ h1, Tm.bnd_kind _ h1, h6.1, h6.2]
    exact ⟨rfl, rfl⟩
  · rename_i hl
    rw [if_neg hl] at h
    have h1 := idx_get (h _ (List.mem_singleton.2 rfl))
    rw [Tm.bnd_var, Tm.bnd_var]
    simp only [fstS, sndS, Int.toNat_natCast, h1]
    exact ⟨trivial, trivial⟩
theorem msg_inst (a b : Tm) : inst a (msgT a b) = true ∧ inst b (msgT a b) = true := by
  have h := gen_fst (L := prsT [] a b) a b fun x hx => prs_mem.2 (.inr hx)
  exact ⟨inst_iff.2 ⟨_, h.1⟩, inst_iff.2 ⟨_, h.2⟩⟩
/-! ### it is the least one -/
theorem gens_bnd {L : List (Tm × Tm)} {θ τ : Int → Tm} : ∀ (l : List Tm) (_ : ∀ t ∈ l, (t.bnd θ).gen L (t.bnd τ) = t.bnd fun v => (θ v).gen L (τ v)), Tm.gens L (Tm.bnds θ l) (Tm.bnds τ l) = Tm.bnds (fun v => (θ v).gen L (τ v)) l
  | [], _ => by simp [Tm.gens, Tm.bnds]
  | t :: r, ih => by
    simp only [Tm.gens, Tm.bnds]
    rw [ih t (by simp), gens_bnd r fun x hx => ih x (by simp [hx])]
theorem gen_bnd {L : List (Tm × Tm)} {θ τ : Int → Tm} : ∀ c : Tm, (c.bnd θ).gen L (c.bnd τ) = c.bnd fun v => (θ v).gen L (τ v) := Tm.ind fun k s n l ih => by
  by_cases hk : k = 1
  · subst hk; simp [Tm.bnd]
  · rw [Tm.bnd_kind _ hk, Tm.bnd_kind _ hk, Tm.bnd_kind _ hk]
    have hl : likeB (.mk k s n (Tm.bnds θ l)) (.mk k s n (Tm.bnds τ l)) = true := likeB_iff.2 ⟨hk, rfl, rfl, rfl, by simp [Tm.args, Tm.bnds_length]⟩
    simp only [Tm.gen, hl, if_true, Tm.args]
    rw [gens_bnd l ih]
theorem msg_least {a b c : Tm} (h : inst a c = true) (g : inst b c = true) : inst (msgT a b) c = true := by
  obtain ⟨θ, rfl⟩ := inst_iff.1 h
  obtain ⟨τ, rfl⟩ := inst_iff.1 g
  exact inst_iff.2 ⟨_, gen_bnd c |>.symm⟩
/-! ### it is no greater -/
theorem gens_size {L : List (Tm × Tm)} : ∀ (l : List Tm) (_ : ∀ t ∈ l, ∀ b, (t.gen L b).size ≤ t.size ∧ (t.gen L b).size ≤ b.size ∧ (t.gen L b).deep ≤ t.deep) (us : List Tm), Tm.sizes (Tm.gens L l us) ≤ Tm.sizes l ∧ Tm.sizes (Tm.gens L l us) ≤ Tm.sizes us ∧ Tm.deeps (Tm.gens L l us) ≤ Tm.deeps l
  | [], _, _ => by simp [Tm.gens, Tm.sizes, Tm.deeps]
  | _ :: _, _, [] => by simp [Tm.gens, Tm.sizes, Tm.deeps]
  | t :: r, ih, u :: us => by
    have h1 := ih t (by simp) u
    have h2 := gens_size r (fun x hx => ih x (by simp [hx])) us
    simp only [Tm.gens, Tm.sizes, Tm.deeps]
    omega
theorem gen_size {L : List (Tm × Tm)} : ∀ (a b : Tm), (a.gen L b).size ≤ a.size ∧ (a.gen L b).size ≤ b.size ∧ (a.gen L b).deep ≤ a.deep := Tm.ind fun k s n l ih b => by
  have hb := b.size_pos
  simp only [Tm.gen]
  split
  · have h1 := gens_size l ih b.args
    obtain ⟨k', s', n', us⟩ := b
    simp only [Tm.size, Tm.deep, Tm.args] at h1 ⊢
    omega
  · simp only [vTm, Tm.size, Tm.sizes, Tm.deep, Tm.deeps]
    omega
/-! ### the other order -/
theorem diffss_swap : ∀ (l : List Tm) (_ : ∀ t ∈ l, ∀ b, b.diffs t = (t.diffs b).map Prod.swap) (us : List Tm), Tm.diffss us l = (Tm.diffss l us).map Prod.swap
  | [], _, [] => rfl
  | [], _, _ :: _ => by simp [Tm.diffss]
  | _ :: _, _, [] => by simp [Tm.diffss]
  | t :: r, ih, u :: us => by
    simp only [Tm.diffss, List.map_append]
    rw [ih t (by simp) u, diffss_swap r (fun x hx => ih x (by simp [hx])) us]
theorem diffs_swap : ∀ (a b : Tm), b.diffs a = (a.diffs b).map Prod.swap := Tm.ind fun k s n l ih b => by
  obtain ⟨k', s', n', us⟩ := b
  simp only [Tm.diffs, likeB_swap (.mk k s n l) (.mk k' s' n' us), Tm.args]
  split
  · exact diffss_swap l ih us
  · rfl
theorem swap_mem {l : List (Tm × Tm)} {x : (Tm × Tm)} : x.swap ∈ l.map Prod.swap ↔ x ∈ l := by
  constructor
  · intro h
    obtain ⟨y, hy, e⟩ := List.mem_map.1 h
    have : x = y := by
      have := congrArg Prod.swap e
      simpa using this.symm
    exact this ▸ hy
  · exact fun h => List.mem_map.2 ⟨x, h, rfl⟩
theorem addP_swap (l : List (Tm × Tm)) (x : (Tm × Tm)) : addP (l.map Prod.swap) x.swap = (addP l x).map Prod.swap := by
  unfold addP
  by_cases h : x ∈ l
  · rw [if_pos h, if_pos (swap_mem.2 h)]
  · rw [if_neg h, if_neg (fun h' => h (swap_mem.1 h'))]
    simp
theorem foldP_swap : ∀ (ds l : List (Tm × Tm)), (ds.map Prod.swap).foldl addP (l.map Prod.swap) = (ds.foldl addP l).map Prod.swap
  | [], _ => rfl
  | x :: r, l => by rw [List.map_cons, List.foldl_cons, List.foldl_cons, addP_swap, foldP_swap r]
theorem idx_swap : ∀ (L : List (Tm × Tm)) (x : (Tm × Tm)), (L.map Prod.swap).idxOf x.swap = L.idxOf x
  | [], _ => rfl
  | y :: r, x => by
    have h : (y.swap == x.swap) = (y == x) := by
      rw [Bool.eq_iff_iff, beq_iff_eq, beq_iff_eq]
      exact ⟨fun e => by have := congrArg Prod.swap e; simpa using this, fun e => by rw [e]⟩
    rw [List.map_cons, List.idxOf_cons, List.idxOf_cons, h, idx_swap r]
theorem gens_swap {L : List (Tm × Tm)} : ∀ (l : List Tm) (_ : ∀ t ∈ l, ∀ b, b.gen (L.map Prod.swap) t = t.gen L b) (us : List Tm), Tm.gens (L.map Prod.swap) us l = Tm.gens L l us
  | [], _, [] => rfl
  | [], _, _ :: _ => by simp [Tm.gens]
  | _ :: _, _, [] => by simp [Tm.gens]
  | t :: r, ih, u :: us => by
    simp only [Tm.gens]
    rw [ih t (by simp) u, gens_swap r (fun x hx => ih x (by simp [hx])) us]
theorem gen_swap {L : List (Tm × Tm)} : ∀ (a b : Tm), b.gen (L.map Prod.swap) a = a.gen L b := Tm.ind fun k s n l ih b => by
  obtain ⟨k', s', n', us⟩ := b
  simp only [Tm.gen, likeB_swap (.mk k s n l) (.mk k' s' n' us), Tm.args]
  split
  · rename_i hl
    obtain ⟨_, h2, h3, h4, _⟩ := likeB_iff.1 hl
    simp only [Tm.kind, Tm.n, Tm.name] at h2 h3 h4
    rw [h2, h3, h4, gens_swap l ih us]
  · exact congrArg (fun i : Nat => vTm (i : Int)) (idx_swap L (Tm.mk k s n l, Tm.mk k' s' n' us))
theorem msg_swap (a b : Tm) : msgT b a = msgT a b := by
  unfold msgT prsT
  rw [diffs_swap a b, show ([] : List (Tm × Tm)) = ([] : List (Tm × Tm)).map Prod.swap from rfl, foldP_swap]
  exact gen_swap a b
end Go.Proofs.Ytjbicfimoiiglaa

namespace Go.Proofs.Ytjbicfimoiiglaa
open Go.RowKit

def addI (l : List Int) (v : Int) : List Int := if v ∈ l then l else l ++ [v]
theorem nodes_vsL : ∀ (l : List Tm) (_ : ∀ t ∈ l, ∀ d acc, (t.nodes d).foldl addV acc = t.vs.foldl addI acc) (d : Int) (acc : List Int), (Tm.nodesL l d).foldl addV acc = (Tm.vss l).foldl addI acc
  | [], _, _, _ => by simp [Tm.nodesL, Tm.vss]
  | t :: r, ih, d, acc => by
    simp only [Tm.nodesL, Tm.vss, List.foldl_append]
    rw [ih t (by simp), nodes_vsL r fun x hx => ih x (by simp [hx])]
theorem nodes_vs' : ∀ (t : Tm) (d : Int) (acc : List Int), (t.nodes d).foldl addV acc = t.vs.foldl addI acc := Tm.ind fun k s n l ih d acc => by
  simp only [Tm.nodes, Tm.vs, List.foldl_cons]
  by_cases hk : k = 1
  · subst hk
    simp only [if_true, List.foldl_cons]
    rw [nodes_vsL l ih]
    congr 1
    unfold addV addI
    by_cases h : n ∈ acc <;> simp [h]
  · simp only [hk, if_false]
    rw [nodes_vsL l ih]
    congr 1
    simp [addV, hk]
theorem varsOf_vs (t : Tm) : varsOf [t] = t.vs.foldl addI [] := by
  have : Tm.nodesL [t] 1 = t.nodes 1 := by simp [Tm.nodesL]
  unfold varsOf
  rw [this]
  exact nodes_vs' t 1 []
def pairV (θ : Int → Tm) (v : Int) : (Tm × Tm) := (vTm v, θ v)
theorem pairV_inj {θ : Int → Tm} {u v : Int} (h : pairV θ u = pairV θ v) : u = v := by
  have := congrArg (fun p : (Tm × Tm) => p.1.n) h
  simpa [pairV, vTm, Tm.n] using this
theorem like_bnd {θ : Int → Tm} {k : Int} {s : ByteArray} {n : Int} {l : List Tm} (hk : k ≠ 1) : likeB (.mk k s n l) ((Tm.mk k s n l).bnd θ) = true := by
  rw [Tm.bnd_kind _ hk]
  exact likeB_iff.2 ⟨hk, rfl, rfl, rfl, by simp [Tm.args, Tm.bnds_length]⟩
theorem diffss_bnd {θ : Int → Tm} : ∀ (l : List Tm) (_ : ∀ t ∈ l, t.diffs (t.bnd θ) = t.vs.map (pairV θ)), Tm.diffss l (Tm.bnds θ l) = (Tm.vss l).map (pairV θ)
  | [], _ => by simp [Tm.diffss, Tm.vss]
  | t :: r, ih => by
    simp only [Tm.bnds, Tm.diffss, Tm.vss, List.map_append]
    rw [ih t (by simp), diffss_bnd r fun x hx => ih x (by simp [hx])]
theorem diffs_bnd {θ : Int → Tm} : ∀ a : Tm, a.fair = true → a.diffs (a.bnd θ) = a.vs.map (pairV θ) := Tm.ind fun k s n l ih hf => by
  by_cases hk : k = 1
  · subst hk
    obtain ⟨e, _, _⟩ := Tm.fair_var hf
    rw [e]
    have h1 : likeB (vTm n) ((vTm n).bnd θ) = false := by
      cases h : likeB (vTm n) ((vTm n).bnd θ) with
      | false => rfl
      | true => exact absurd rfl (likeB_iff.1 h).1
    have h2 : (vTm n).diffs ((vTm n).bnd θ) = [(vTm n, (vTm n).bnd θ)] := by
      unfold vTm at h1 ⊢
      simp only [Tm.diffs, h1]
      simp
    rw [h2, Tm.bnd_var, Tm.vs_vTm]
    rfl
  · have hl := like_bnd (θ := θ) (s := s) (n := n) (l := l) hk
    rw [Tm.bnd_kind _ hk] at hl ⊢
    simp only [Tm.diffs, hl, if_true, Tm.args, Tm.vs, hk, if_false]
    exact diffss_bnd l fun t ht => ih t ht ((Tm.fair_alone hf).2.1 t ht)
theorem fold_pairV {θ : Int → Tm} : ∀ (vs acc : List Int), (vs.map (pairV θ)).foldl addP (acc.map (pairV θ)) = (vs.foldl addI acc).map (pairV θ)
  | [], _ => rfl
  | v :: r, acc => by
    have hm : pairV θ v ∈ acc.map (pairV θ) ↔ v ∈ acc := ⟨fun h => by
      obtain ⟨u, hu, e⟩ := List.mem_map.1 h
      exact pairV_inj e ▸ hu, fun h => List.mem_map.2 ⟨v, h, rfl⟩⟩
    have h1 : addP (acc.map (pairV θ)) (pairV θ v) = (addI acc v).map (pairV θ) := by
      unfold addP addI
      by_cases h : v ∈ acc
      · rw [if_pos (hm.2 h), if_pos h]
      · rw [if_neg (fun h' => h (hm.1 h')), if_neg h]
        simp
    rw [List.map_cons, List.foldl_cons, h1, List.foldl_cons, fold_pairV r]
theorem prs_bnd {θ : Int → Tm} {a : Tm} (hf : a.fair = true) : prsT [] a (a.bnd θ) = (varsOf [a]).map (pairV θ) := by
  unfold prsT
  rw [diffs_bnd a hf, varsOf_vs]
  exact fold_pairV a.vs []
theorem idx_pairV {θ : Int → Tm} (v : Int) : ∀ vs : List Int, (vs.map (pairV θ)).idxOf (pairV θ v) = vs.idxOf v
  | [] => rfl
  | u :: r => by
    have h : (pairV θ u == pairV θ v) = (u == v) := by
      rw [Bool.eq_iff_iff, beq_iff_eq, beq_iff_eq]
      exact ⟨pairV_inj, fun e => by rw [e]⟩
    rw [List.map_cons, List.idxOf_cons, List.idxOf_cons, h, idx_pairV v r]
theorem gens_pos {θ : Int → Tm} {vs : List Int} : ∀ (l : List Tm) (_ : ∀ t ∈ l, t.gen (vs.map (pairV θ)) (t.bnd θ) = t.ren (posOf vs)), Tm.gens (vs.map (pairV θ)) l (Tm.bnds θ l) = Tm.rens (posOf vs) l
  | [], _ => by simp [Tm.gens, Tm.rens]
  | t :: r, ih => by
    simp only [Tm.bnds, Tm.gens, Tm.rens]
    rw [ih t (by simp), gens_pos r fun x hx => ih x (by simp [hx])]
theorem gen_pos {θ : Int → Tm} {vs : List Int} : ∀ a : Tm, a.fair = true → (∀ v ∈ a.vs, v ∈ vs) → a.gen (vs.map (pairV θ)) (a.bnd θ) = a.ren (posOf vs) := Tm.ind fun k s n l ih hf hv => by
  by_cases hk : k = 1
  · subst hk
    obtain ⟨e, _, _⟩ := Tm.fair_var hf
    rw [e] at hv ⊢
    have h1 : likeB (vTm n) ((vTm n).bnd θ) = false := by
      cases h : likeB (vTm n) ((vTm n).bnd θ) with
      | false => rfl
      | true => exact absurd rfl (likeB_iff.1 h).1
    have hn : n ∈ vs := hv n (by rw [Tm.vs_vTm]; simp)
    have h2 : (vTm n).gen (vs.map (pairV θ)) ((vTm n).bnd θ) = vTm ((vs.map (pairV θ)).idxOf (vTm n, (vTm n).bnd θ) : Nat) := by
      unfold vTm at h1 ⊢
      simp only [Tm.gen, h1]
      simp [vTm]
    rw [h2, Tm.bnd_var]
    have h3 := idx_pairV (θ := θ) n vs
    unfold pairV at h3
    rw [show (List.idxOf (vTm n, θ n) (List.map (pairV θ) vs)) = vs.idxOf n from h3]
    simp [vTm, Tm.ren, posOf, hn]
  · have hl := like_bnd (θ := θ) (s := s) (n := n) (l := l) hk
    rw [Tm.bnd_kind _ hk] at hl ⊢
    simp only [Tm.gen, hl, if_true, Tm.args, Tm.ren, hk, if_false]
    rw [gens_pos l fun t ht => ih t ht ((Tm.fair_alone hf).2.1 t ht) fun v hv' => hv v (Tm.vs_mem_args ht hv')]
theorem msg_bnd {θ : Int → Tm} {a : Tm} (hf : a.fair = true) : msgT a (a.bnd θ) = numT a := by
  unfold msgT numT
  rw [prs_bnd hf]
  exact gen_pos a hf fun v hv => (vars_vs [a] v).2 ⟨a, by simp, hv⟩
theorem msg_self {a : Tm} (hf : a.fair = true) : msgT a a = numT a := by
  have h := msg_bnd (θ := vTm) hf
  rwa [Tm.bnd_id vTm a hf fun _ _ => rfl] at h
theorem msg_of_inst {a b : Tm} (hf : a.fair = true) (h : inst b a = true) : msgT a b = msgT a a := by
  obtain ⟨θ, rfl⟩ := inst_iff.1 h
  rw [msg_bnd hf, msg_self hf]
/-! ### it is right -/
theorem gens_fair {L : List (Tm × Tm)} : ∀ (l : List Tm) (_ : ∀ t ∈ l, ∀ b, t.fair = true → (∀ x ∈ t.diffs b, x ∈ L) → (t.gen L b).fair = true) (us : List Tm), l.length = us.length → (∀ t ∈ l, t.fair = true) → (∀ x ∈ Tm.diffss l us, x ∈ L) → (∀ t ∈ Tm.gens L l us, t.fair = true) ∧ (Tm.gens L l us).length = l.length
  | [], _, _, _, _, _ => by simp [Tm.gens]
  | _ :: _, _, [], h, _, _ => by simp at h
  | t :: r, ih, u :: us, hl, hf, h => by
    simp only [Tm.diffss] at h
    have h1 := ih t (by simp) u (hf t (by simp)) fun x hx => h x (List.mem_append_left _ hx)
    have h2 := gens_fair r (fun x hx => ih x (by simp [hx])) us (by simpa using hl) (fun x hx => hf x (by simp [hx])) fun x hx => h x (List.mem_append_right _ hx)
    simp only [Tm.gens]
    refine ⟨fun x hx => ?_, by simp [h2.2]⟩
    rcases List.mem_cons.1 hx with rfl | hx
    · exact h1
    · exact h2.1 x hx
theorem gen_fair {L : List (Tm × Tm)} (hL : L.length ≤ 1000000) : ∀ (a b : Tm), a.fair = true → (∀ x ∈ a.diffs b, x ∈ L) → (a.gen L b).fair = true := Tm.ind fun k s n l ih b hf h => by
  simp only [Tm.diffs, Tm.gen] at h ⊢
  split
  · rename_i hl
    rw [if_pos hl] at h
    obtain ⟨h1, _, _, _, h5⟩ := likeB_iff.1 hl
    obtain ⟨f1, f2, f3⟩ := Tm.fair_alone hf
    have h6 := gens_fair l ih b.args h5 f2 h
    exact Tm.fair_mk f1 h6.1 (by rw [h6.2]; exact f3)
  · rename_i hl
    rw [if_neg hl] at h
    have h1 := List.idxOf_lt_length_iff.2 (h _ (List.mem_singleton.2 rfl))
    exact Tm.fair_vTm (by omega) (by omega)
theorem msg_right {a b : Tm} (ha : a.right = true) : (msgT a b).right = true := by
  have hs := gen_size (L := prsT [] a b) a b
  have hd := diffs_sizes a b
  simp only [Tm.right, Bool.and_eq_true, decide_eq_true_eq] at ha ⊢
  have hlen : (prsT [] a b).length ≤ 1000000 := by
    have := foldP_length (a.diffs b) []
    unfold prsT
    simp only [List.length_nil] at this
    omega
  refine ⟨⟨gen_fair hlen a b ha.1.1 fun x hx => prs_mem.2 (.inr hx), ?_⟩, ?_⟩
  · exact Nat.le_trans hs.1 ha.1.2
  · exact Nat.le_trans hs.2.2 ha.2
end Go.Proofs.Ytjbicfimoiiglaa
