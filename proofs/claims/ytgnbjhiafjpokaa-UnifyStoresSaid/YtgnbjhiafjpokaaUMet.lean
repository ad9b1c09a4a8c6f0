/-
  The document's Walk: a term, as far as it is bound itself.
  The document's 'in' and 'within': is a number in a row, is a variable in what a term becomes.
  The document's Within; and what one equation of two terms does, purely: the cases of 'unify'.
  What 'unify' of the document carries along: the pairs of variables that were met, in memory and what they say; bounds; right terms' Args.
-/
import Derived.Test.YtgnbjhiafjpokaaBds
import Derived.Test.YtgnbjhiafjpokaaUni
import Derived.Test.YtgnbjhiafjpokaaBld
import Derived.Test.YtgnbjhiafjpokaaKahn
import Derived.Deep.RegionLaw
namespace Go.Proofs.Ytgnbjhiafjpokaa
open Go.RowKit Go.Shelf Go.Maps

/-- A row of binds in a block of which something is known, their terms' Args below B. -/
def bdsQ (w : World) (B : Nat) (row : Nat → Prop) (l : List Bd) (sv : Value) : Prop :=
  ∃ g cap, sv = .slice g l.length cap ∧ l.length ≤ cap ∧ l.length ≤ 2199023255552 ∧ (∀ x ∈ l, (Lit.int .i64 x.v).wf = true) ∧ (l = [] ∨ ∃ b off, g = some ⟨b, off, none⟩ ∧ row b ∧ ∀ i (h : i < l.length), bdAt w B b (off + i * 5) l[i])
theorem bdsQ_of {w : World} {B B' : Nat} {l : List Bd} {sv : Value} {row : Nat → Prop} (h : bdsIn w B l sv) (hB : B ≤ B') (hr : ∀ b, b < B → row b) : bdsQ w B' row l sv := by
  obtain ⟨g, cap, e, h1, h2, h3, h4⟩ := bdsIn_mono h hB
  obtain ⟨g0, cap0, e0, _, _, _, h40⟩ := h
  rw [e0] at e
  injection e with e1 e2 e3
  subst e1
  refine ⟨g0, cap0, e0, by rw [e3]; exact h1, h2, h3, ?_⟩
  rcases h40 with h | ⟨b, off, hg, hb, _⟩
  · exact .inl h
  · rcases h4 with h | ⟨b', off', hg', _, hc⟩
    · exact .inl h
    · rw [hg] at hg'
      cases hg'
      exact .inr ⟨b, off, hg, hr b hb, hc⟩
theorem bdsQ_in {w : World} {B B' : Nat} {l : List Bd} {sv : Value} {row : Nat → Prop} (h : bdsQ w B row l sv) (hB : B ≤ B') (hr : ∀ b, row b → b < B') : bdsIn w B' l sv := by
  obtain ⟨g, cap, e, h1, h2, h3, h4⟩ := h
  refine ⟨g, cap, e, h1, h2, h3, ?_⟩
  rcases h4 with h | ⟨b, off, hg, hb, hc⟩
  · exact .inl h
  · refine .inr ⟨b, off, hg, hr b hb, fun i hi => ?_⟩
    obtain ⟨sv, c0, c1, c2, c3, c4, c5⟩ := hc i hi
    exact ⟨sv, c0, c1, c2, c3, c4, Tm.inn_mono c5 hB⟩
theorem bdsQ_same {w w' : World} {B : Nat} {l : List Bd} {sv : Value} {row row' : Nat → Prop} (h : bdsQ w B row l sv) (hr : ∀ b, row b → row' b) (hB : ∀ b o v, b < B → w.cell? ⟨b, o, none⟩ = some v → w'.cell? ⟨b, o, none⟩ = some v)
    (hc : ∀ b o v, row b → w.cell? ⟨b, o, none⟩ = some v → w'.cell? ⟨b, o, none⟩ = some v) : bdsQ w' B row' l sv := by
  obtain ⟨g, cap, e, h1, h2, h3, h4⟩ := h
  refine ⟨g, cap, e, h1, h2, h3, ?_⟩
  rcases h4 with h | ⟨b, off, hg, hb, hcc⟩
  · exact .inl h
  · refine .inr ⟨b, off, hg, hr b hb, fun i hi => ?_⟩
    obtain ⟨sv, c0, c1, c2, c3, c4, c5⟩ := hcc i hi
    exact ⟨sv, hc _ _ _ hb c0, hc _ _ _ hb c1, hc _ _ _ hb c2, hc _ _ _ hb c3, hc _ _ _ hb c4, Tm.inn_same (Nat.le_refl _) hB _ _ c5⟩
theorem bdsQ_get {w : World} {B : Nat} {row : Nat → Prop} {l : List Bd} {g : Option Addr} {len cap : Nat} (h : bdsQ w B row l (.slice g len cap)) (i : Nat) (hi : i < l.length) :
    ∃ b off sv, g = some ⟨b, off, none⟩ ∧ row b ∧ w.cell? ⟨b, off + i * 5, none⟩ = some (.int .i64 l[i].v) ∧ w.cell? ⟨b, off + i * 5 + 1, none⟩ = some (.int .i64 l[i].t.kind) ∧ w.cell? ⟨b, off + i * 5 + 2, none⟩ = some (.string l[i].t.name) ∧
      w.cell? ⟨b, off + i * 5 + 3, none⟩ = some (.int .i64 l[i].t.n) ∧ w.cell? ⟨b, off + i * 5 + 4, none⟩ = some sv ∧ Tm.inn w B l[i].t sv := by
  obtain ⟨g', cap', he, h1, h2, _, h3⟩ := h
  injection he with e1 e2 e3
  subst e1
  rcases h3 with rfl | ⟨b, off, rfl, hb, hr⟩
  · simp at hi
  · obtain ⟨sv, hh⟩ := hr i hi
    exact ⟨b, off, sv, rfl, hb, hh⟩
/-- Rows that lie in memory. -/
def here (w : World) (b : Nat) : Prop := b < w.heap.size
theorem bdsQ_below {w w' : World} {B : Nat} {l : List Bd} {sv : Value} (h : bdsQ w B (here w) l sv) (hb : Below w.heap.size w w') (hB : B ≤ w.heap.size) : bdsQ w' B (here w') l sv :=
  bdsQ_same h (fun b hb' => Nat.lt_of_lt_of_le hb' hb.size) (fun b o v hlt hc => (hb.cell (p := ⟨b, o, none⟩) (by show b < w.heap.size; omega)).trans hc) (fun b o v hlt hc => (hb.cell (p := ⟨b, o, none⟩) hlt).trans hc)

/-- A term that is not bound, and is what another one is, as far as that is bound. -/
structure Walked (l : List Bd) (t u : Tm) : Prop where
  from_ : u = t ∨ ∃ b ∈ l, u = b.t
  free : u.kind = 1 → place l u.n = none
  same : ∀ θ, Solves θ l → t.bnd θ = u.bnd θ
theorem Walked.right {l : List Bd} {t u : Tm} (h : Walked l t u) (hl : RightL l) (ht : t.right = true) : u.right = true := by
  rcases h.from_ with rfl | ⟨b, hb, rfl⟩
  · exact ht
  · obtain ⟨i, hi, rfl⟩ := List.getElem_of_mem hb
    exact (hl.1 i hi).2.2.2
theorem Walked.self {l : List Bd} {t : Tm} (h : t.kind = 1 → place l t.n = none) : Walked l t t := ⟨.inl rfl, h, fun _ _ => rfl⟩
theorem Walked.step {l : List Bd} {s : ByteArray} {n : Int} {ts : List Tm} {p : Nat} {u : Tm} (hpl : p < l.length) (hv : l[p].v = n) (h : Walked l l[p].t u) : Walked l (.mk 1 s n ts) u := by
  refine ⟨.inr ?_, h.free, fun θ hθ => ?_⟩
  · rcases h.from_ with rfl | hb
    · exact ⟨_, List.getElem_mem hpl, rfl⟩
    · exact hb
  · have h1 := hθ _ (List.getElem_mem hpl)
    rw [hv, h.same θ hθ] at h1
    simpa [Tm.bnd] using h1
def WalkPost (l : List Bd) (t : Tm) (B : Nat) (w : World) (e : Ending) (w' : World) : Prop :=
  ∃ u g c, e = .returned (.agg #[.int .i64 u.kind, .string u.name, .int .i64 u.n, .slice g u.args.length c]) ∧ Tm.inn w' B u (.slice g u.args.length c) ∧ Below w.heap.size w w' ∧ Walked l t u

set_option maxRecDepth 100000 in
set_option maxHeartbeats 4000000 in
theorem walk_any (l : List Bd) (hl : l.length ≤ 1000000) (r : Nat → Nat) (hr : Ranked l r) (B : Nat) :
    ∀ (R : Nat) (t : Tm), (t.kind = 1 → ∀ p, place l t.n = some p → r p < R) → ∀ (w : World) (svl sv : Value), B ≤ w.heap.size → bdsQ w B (here w) l svl → Tm.inn w B t sv →
    Calls Try.prog 83 #[svl, .agg #[.int .i64 t.kind, .string t.name, .int .i64 t.n, sv]] w fun e w' => WalkPost l t B w e w' := by
  intro R
  induction R using Nat.strongRecOn with
  | ind R ih =>
  rintro ⟨k, s, n, ts⟩ hrank w svl sv hB hbl hin
  obtain ⟨_, g, cap, rfl, hcap, hlen, _⟩ := Tm.inn_iff.1 hin
  obtain ⟨gl, cl, rfl, hcl, hll, _, _⟩ := id hbl
  simp only [Tm.kind, Tm.name, Tm.n, Tm.args] at hrank hlen hcap ⊢
  have hb0 := al2 w (.cells #[.int .i64 k, .string s, .int .i64 n, .slice g ts.length cap] 27) (.cells #[.int .i64 0, .string ⟨#[]⟩, .int .i64 0, .slice none 0 0] 27)
  have hbl2 := bdsQ_below hbl hb0 hB
  have hin2 := Tm.inn_below hin hb0 hB
  have hpa := place_any l n _ _ (bdsQ_in hbl2 (Nat.le_trans hB hb0.size) (fun _ h => h)) hl
  have HB0 := Lib.hid hb0
  have HIN := Lib.hid hin
  have HIH := Lib.hid ih
  have HR := Lib.hid hr
  have HPA := Lib.hid hpa
  by_cases hb : k = 1 ∧ ∃ p, place l n = some p
  · obtain ⟨rfl, p, hp⟩ := hb
    obtain ⟨hpl, hpv, _⟩ := place_some hp
    have hpi : placeI l n = (p : Int) := by simp [placeI, hp]
    have hrp := hrank rfl p hp
    obtain ⟨b, off, sv2, hgl, hbB', g0, g1, g2, g3, g4, hinp⟩ := bdsQ_get hbl2 p hpl
    have hbB : b < w.heap.size + 2 := by simpa [here] using hbB'
    clear hbB'
    subst hgl
    obtain ⟨ga, capa, rfl⟩ := inn_sl hinp
    have hvr : l[p].t.kind = 1 → ∀ q, place l l[p].t.n = some q → r q < r p := fun hk q hq => hr p hpl q (deps_mem.2 ⟨l[p].t.n, by rw [tAt_get hpl]; exact var_mem hk, hq⟩)
    have hih := HIH.out (r p) hrp l[p].t hvr _ _ _ (Nat.le_trans hB hb0.size) hbl2 hinp
    have hst : ∀ u, Walked l l[p].t u → Walked l (.mk 1 s n ts) u := fun u h => h.step hpl hpv
    have HST := Lib.hid hst
    rw [hpi] at hpa
    have HPA := Lib.hid hpa
    have hIH := Lib.hid hih
    clear hp hpv hrp hvr hb0 hbl2 hin2 hinp hpa hih hst hrank hbl hin ih hr hpi
    go_enter Try.func83, Try.ntmps83
    go_wp2_with fail
    refine HPA.out.mono ?_
    rintro e w' ⟨rfl, rfl⟩
    go_wp2_with fail
    refine hIH.out.mono ?_
    rintro e w3 ⟨u, gu, cu, rfl, hinu, hb3, hwk⟩
    have hres3 : w3.heap[w.heap.size + 1]? = some (Obj.cells #[.int .i64 0, .string ⟨#[]⟩, .int .i64 0, .slice none 0 0] 27 (0, 0)) := (hb3.block _ (by simp)).trans (newBlk _ _ _ (by simp))
    obtain ⟨⟨c0, c1, c2, c3⟩, f0, f1, f2, f3⟩ := row4 hres3
    have hs3 : w.heap.size + 2 ≤ w3.heap.size := by have := hb3.size; simpa using this
    have HB3 := Lib.hid (HB0.out.trans (hb3.mono (by simp; omega)))
    have HINU := Lib.hid hinu
    have HWK := Lib.hid hwk
    clear hb3 hres3 hinu hwk hIH
    go_wp2_with fail
    refine bodyPost_ret (v := .agg #[.int .i64 u.kind, .string u.name, .int .i64 u.n, .slice gu u.args.length cu]) (by simp [results, Try.results83, go_sem, c0, c1, c2, c3]) rfl ?_
    refine ⟨u, gu, cu, rfl, Tm.inn_same (Nat.le_refl _) (fun b o v hb' hc => ?_) _ _ HINU.out, set4_below HB3.out (by omega) _ _ _ _, HST.out u HWK.out⟩
    have hne : b ≠ w.heap.size + 1 := by omega
    exact (World.cell?_of_block (a := ⟨b, o, none⟩) (set4_blk w3 _ _ _ _ hne)).trans hc
  · have hfree : k = 1 → place l n = none := fun hk => by
      cases hp : place l n with
      | none => rfl
      | some p => exact absurd ⟨hk, p, hp⟩ hb
    have hself : Walked l (.mk k s n ts) (.mk k s n ts) := Walked.self hfree
    have hpi : k = 1 → placeI l n = -1 := fun hk => by simp [placeI, hfree hk]
    have HSELF := Lib.hid hself
    have HPI := Lib.hid hpi
    clear hfree hself hpi hrank hbl hin ih hr hb hb0 hbl2 hin2 hpa
    have hfin : WalkPost l (.mk k s n ts) B w (.returned (.agg #[.int .i64 k, .string s, .int .i64 n, .slice g ts.length cap])) ((w.alloc (.cells #[.int .i64 k, .string s, .int .i64 n, .slice g ts.length cap] 27)).alloc (.cells #[.int .i64 k, .string s, .int .i64 n, .slice g ts.length cap] 27)) :=
      ⟨.mk k s n ts, g, cap, rfl, Tm.inn_below HIN.out (al2 w _ _) hB, al2 w _ _, HSELF.out⟩
    have HFIN := Lib.hid hfin
    clear hfin
    by_cases hk : k = 1
    · subst hk
      have hpa := HPA.out
      rw [HPI.out rfl] at hpa
      have HPA2 := Lib.hid hpa
      clear hpa
      go_enter Try.func83, Try.ntmps83
      go_wp2_with fail
      refine HPA2.out.mono ?_
      rintro e w' ⟨rfl, rfl⟩
      go_wp2_with fail
      refine bodyPost_ret (v := .agg #[.int .i64 1, .string s, .int .i64 n, .slice g ts.length cap]) (by simp [results, Try.results83, go_sem]) rfl ?_
      exact HFIN.out
    · go_enter Try.func83, Try.ntmps83
      go_wp2_with fail
      refine bodyPost_ret (v := .agg #[.int .i64 k, .string s, .int .i64 n, .slice g ts.length cap]) (by simp [results, Try.results83, go_sem]) rfl ?_
      exact HFIN.out
end Go.Proofs.Ytgnbjhiafjpokaa

namespace Go.Proofs.Ytgnbjhiafjpokaa
open Go.RowKit Go.Shelf Go.Maps

theorem grown_alloc (w : World) (o : Obj) (r : Option Nat) : w.grownBy (w.alloc o) r := grownBy_none ((Below.refl _ _).alloc (Nat.le_refl _) _) r
theorem inn_grown {w w' : World} {B : Nat} {t : Tm} {sv : Value} {row : Option Nat} (h : Tm.inn w B t sv) (hg : w.grownBy w' row) (hr : ∀ k, row = some k → B ≤ k) : Tm.inn w' B t sv :=
  Tm.inn_same (Nat.le_refl _) (fun b o v hlt hc => hg.cell hc (fun e => by have := hr b e.symm; omega)) _ _ h
theorem ints_lo {w : World} {lo : Nat} {v : Value} {l : List Int} (h : ownInts w lo v l) : ∀ k, v.ownBlock = some k → lo ≤ k := fun k e => (World.ownsRow.lt h k e).1

theorem step_append_int {w : World} {ops : Array Oper} {o : Oper} {a : Act} {K : Act → World → Prop} {Q : Exit → Act → World → Prop} {E : Prop} (hgd : o.guard = none) (s x : Operand)
    (ho : o.op = .call { callee := .builtin .append, args := #[s, x], argTypes := #[46, 46] })
    (base : Nat) (v : Value) (l : List Int) (n : Int) (hs : a.eval s = v) (hown : ownInts w base v l)
    (H c : Nat) (hx : a.eval x = .slice (some ⟨H, 0, none⟩) 1 c) (hnews : ∀ j u, [Value.int .i64 n][j]? = some u → w.cell? ((⟨H, 0, none⟩ : Addr).add j) = some u)
    (hn : l.length ≤ 1000000) (hbase : base ≤ w.heap.size)
    (h : ∀ v' w', ownInts w' base v' (l ++ [n]) → w.grownBy w' v.ownBlock → (v'.ownBlock = v.ownBlock ∨ ∀ b, v'.ownBlock = some b → w.heap.size ≤ b) → K (a.put o.dst v') w') :
    if Region.wanted o (yielded ops a.tmps) = true then Oper.wp Try.prog o a w K Q else E := by
  have hw : Region.wanted o (yielded ops a.tmps) = true := by simp [Region.wanted, hgd]
  rw [if_pos hw]
  obtain ⟨i0, hi, hz0, hz1, hz2⟩ := info_parts Try.infoInt
  obtain ⟨v', w', hr, h2, h3, h4⟩ := run_append_any (P := Try.prog) (w := w) base 46 o.type 3 i0 (.int .i64 0) 1 8 Try.underlying46 hi hz0 hz1 hz2 rfl (by decide) v l.length _ hown (some ⟨H, 0, none⟩) 1 c [.int .i64 n] rfl (.inr ⟨_, rfl, hnews⟩) (by simp [Value.oneCell']) (by unfold maxLen; omega) (by omega) hbase
  unfold Oper.wp execOp
  simp only [ho, resolve, invoke, builtin, Sem.run_bind, Sem.run_pure, Result.andThen_ok, List.map_toArray, List.map_cons, List.map_nil, hs, hx, hr]
  refine h v' w' ?_ h3 ?_
  · unfold ownInts
    rw [List.length_append, List.map_append]
    exact h2
  · rcases h4 with h4 | h4
    · exact .inl h4
    · exact .inr fun b hb => by rw [h4] at hb; cases hb; exact Nat.le_refl _

theorem news1w {w : World} {a : Value} {t : TypeId} (H : Nat) (hH : w.heap.size = H) : ∀ (j : Nat) (u : Value), [a][j]? = some u → (w.alloc (.cells #[a] t)).cell? ((⟨H, 0, none⟩ : Addr).add j) = some u := by
  subst hH
  intro j u hu
  obtain ⟨hj, rfl⟩ := List.getElem?_eq_some_iff.1 hu
  obtain rfl : j = 0 := by simpa using hj
  rw [Addr.add_lit]
  simp [World.cell?_alloc_new]
theorem cell_step {w w5 : World} {o : Obj} {row : Option Nat} {b o' : Nat} {u : Value} (hg : ((w.alloc o).drew).grownBy w5 row) (hne : some b ≠ row) (hc : w.cell? ⟨b, o', none⟩ = some u) : w5.cell? ⟨b, o', none⟩ = some u :=
  hg.cell (a := ⟨b, o', none⟩) (by
    have hlt := World.block_lt_of_cell? _ _ hc
    exact (World.cell?_alloc_old _ _ _ (Nat.ne_of_lt hlt)).trans hc) hne

set_option maxHeartbeats 400000 in
theorem in_any (l : List Int) (n : Int) (w : World) (sv : Value) (hsl : intsIn w w.heap.size l sv) :
    Calls Try.prog 102 #[sv, .int .i64 n] w fun e w' => e = .returned (.bool (decide (n ∈ l))) ∧ w = w' := by
  obtain ⟨g, cap, rfl, hcap, hlen, _⟩ := id hsl
  have HSL := Lib.hid hsl
  clear hsl
  go_enter Try.func102, Try.ntmps102
  go_wp2_with fail
  go_loop [5] (fun i => ∃ k : Nat, k ≤ l.length ∧ i = .int .i64 k ∧ Hid (∀ j (h : j < l.length), j < k → l[j] ≠ n)) (fun i => l.length - (intOf i).toNat)
  case atStart => exact ⟨0, Nat.zero_le _, rfl, fun j _ h => by omega⟩
  case round =>
    obtain ⟨k, hk, rfl, hp⟩ := hrel
    by_cases hlt : k < l.length
    · obtain ⟨b, off, rfl, hbB, g0⟩ := intsIn_get HSL.out k hlt
      by_cases he : l[k] = n
      · have HR := Lib.hid (show decide (n ∈ l) = true by rw [decide_eq_true_eq, ← he]; exact List.getElem_mem hlt)
        have heb : (l[k] == n) = true := by simpa using he
        clear he
        go_wp2_with fail
        go_ret
        exact ⟨by rw [HR.out]; rfl, rfl⟩
      · have heb : (l[k] == n) = false := by simpa using he
        have HE := Lib.hid he
        clear he
        go_wp2_with fail
        go_round
        case rel =>
          refine ⟨k + 1, by omega, by go_num, fun j hj hjk => ?_⟩
          by_cases hjj : j < k
          · exact hp.out j hj hjj
          · obtain rfl : j = k := by omega
            exact HE.out
        case measure => simp [intOf]; omega
    · obtain rfl : k = l.length := by omega
      have HR := Lib.hid (show decide (n ∈ l) = false by
        rw [decide_eq_false_iff_not]
        intro hm
        obtain ⟨j, hj, he⟩ := List.getElem_of_mem hm
        exact hp.out j hj hj he)
      go_wp2_with fail
      go_ret
      exact ⟨by rw [HR.out]; rfl, rfl⟩

theorem bound_len {l : List Bd} : ∀ {met : List Int}, (∀ u ∈ met, ∃ q, place l u = some q) → (met.filterMap (place l)).length = met.length
  | [], _ => rfl
  | u :: m, h => by
    obtain ⟨q, hq⟩ := h u (by simp)
    rw [List.filterMap_cons, hq]
    simp only [List.length_cons]
    rw [bound_len fun x hx => h x (by simp [hx])]
/-- The bound variables that were gone into: those that are done don't hold it, the others lie above. -/
structure WPre (l : List Bd) (r : Nat → Nat) (σ : Int → Tm) (v : Int) (R : Nat) (met : List Int) : Prop where
  ok : ∀ u ∈ met, ¬ v ∈ (σ u).vs ∨ ∃ q, place l u = some q ∧ R ≤ r q
  nd : met.Nodup
  bd : ∀ u ∈ met, ∃ q, place l u = some q
theorem WPre.len {l : List Bd} {r : Nat → Nat} {σ : Int → Tm} {v : Int} {R : Nat} {met : List Int} (h : WPre l r σ v R met) : met.length ≤ l.length := by
  rw [← bound_len h.bd]
  refine nodup_len _ _ (filterMap_nodup h.nd fun a b q ha hb => ?_) fun x hx => ?_
  · obtain ⟨_, h1, _⟩ := place_some ha
    obtain ⟨_, h2, _⟩ := place_some hb
    rw [← h1, ← h2]
  · obtain ⟨u, _, hu⟩ := List.mem_filterMap.1 hx
    exact (place_some hu).1
/-- What within tells. -/
structure WOut (l : List Bd) (σ : Int → Tm) (v : Int) (met : List Int) (x : Prop) (q : Bool) (met' : List Int) : Prop where
  says : q = true ↔ x
  ok : q = false → ∀ u ∈ met', u ∈ met ∨ ¬ v ∈ (σ u).vs
  nd : met'.Nodup
  bd : ∀ u ∈ met', ∃ q, place l u = some q
theorem WPre.next {l : List Bd} {r : Nat → Nat} {σ : Int → Tm} {v : Int} {R : Nat} {met met' : List Int} {x : Prop} (h : WPre l r σ v R met) (g : WOut l σ v met x false met') : WPre l r σ v R met' :=
  ⟨fun u hu => by
    rcases g.ok rfl u hu with h1 | h1
    · exact h.ok u h1
    · exact .inl h1, g.nd, g.bd⟩
def WithinPost (l : List Bd) (σ : Int → Tm) (v : Int) (lo : Nat) (met : List Int) (x : Prop) (vm : Value) (w : World) (e : Ending) (w' : World) : Prop :=
  ∃ q v' met', e = .returned (.tuple #[.bool q, v']) ∧ ownInts w' lo v' met' ∧ w.grownBy w' vm.ownBlock ∧ (v'.ownBlock = vm.ownBlock ∨ ∀ b, v'.ownBlock = some b → w.heap.size ≤ b) ∧ WOut l σ v met x q met'

set_option maxRecDepth 100000 in
set_option maxHeartbeats 4000000 in
theorem within_any (l : List Bd) (hl : l.length ≤ 1000000) (σ : Int → Tm) (hσ : Sol l σ) (r : Nat → Nat) (hr : Ranked l r) (v : Int) (hv : place l v = none) (B lo : Nat) (hBlo : B ≤ lo) :
    ∀ (R : Nat) (t : Tm) (met : List Int), (∀ u ∈ t.vs, ∀ p, place l u = some p → r p < R) → WPre l r σ v R met → ∀ (w : World) (svl sv vm : Value), lo ≤ w.heap.size → bdsIn w B l svl → Tm.inn w B t sv → ownInts w lo vm met →
    Calls Try.prog 97 #[svl, .int .i64 v, .agg #[.int .i64 t.kind, .string t.name, .int .i64 t.n, sv], vm] w fun e w' => WithinPost l σ v lo met (v ∈ (t.bnd σ).vs) vm w e w' := by
  intro R
  induction R using Nat.strongRecOn with
  | ind R ihR =>
  refine Tm.ind fun k s n ts ih => ?_
  intro met hrank hpre w svl sv vm hlo hbl hin hown
  obtain ⟨_, g, cap, rfl, hcap, hlen, _⟩ := Tm.inn_iff.1 hin
  obtain ⟨gl, cl, rfl, hcl, hll, _, _⟩ := id hbl
  obtain ⟨gm, cm, rfl⟩ := owns_slice hown
  have hml := hpre.len
  simp only [Tm.kind, Tm.name, Tm.n, Tm.args] at hlen hcap ⊢
  have hal : Below w.heap.size w (w.alloc (.cells #[.int .i64 k, .string s, .int .i64 n, .slice g ts.length cap] 27)) := (Below.refl _ _).alloc (Nat.le_refl _) _
  have hbl2 := bdsIn_below hbl hal (Nat.le_trans hBlo hlo)
  have hin2 := Tm.inn_below hin hal (Nat.le_trans hBlo hlo)
  have hown2 := ownInts_below hown hal
  have hmlt : ∀ j, (Value.slice gm met.length cm).ownBlock = some j → lo ≤ j ∧ j < w.heap.size := fun j e => World.ownsRow.lt hown j e
  have hgr0 : w.grownBy (w.alloc (.cells #[.int .i64 k, .string s, .int .i64 n, .slice g ts.length cap] 27)) (Value.slice gm met.length cm).ownBlock := grown_alloc _ _ _
  have HGR0 := Lib.hid hgr0
  have HMLT := Lib.hid hmlt
  have HPRE := Lib.hid hpre
  have HIN := Lib.hid hin2
  have HBL := Lib.hid hbl2
  have HOWN := Lib.hid hown2
  have HRANK := Lib.hid hrank
  have HIH := Lib.hid ih
  have HIHR := Lib.hid ihR
  have HS := Lib.hid hσ
  have HR := Lib.hid hr
  have HV := Lib.hid hv
  have hpa := place_any l n _ _ (bdsIn_mono hbl2 (Nat.le_trans hBlo (Nat.le_trans hlo hal.size))) hl
  by_cases hk : k = 1
  · subst hk
    have hxs : (Tm.mk 1 s n ts).bnd σ = σ n := by simp [Tm.bnd]
    cases hp : place l n with
    | none =>
      have hpi : placeI l n = -1 := by simp [placeI, hp]
      rw [hpi] at hpa
      have HPA := Lib.hid hpa
      have hout : WOut l σ v met (v ∈ ((Tm.mk 1 s n ts).bnd σ).vs) (n == v) met := ⟨by rw [hxs, hσ.free n hp, Tm.vs_vTm, List.mem_singleton, beq_iff_eq]; exact eq_comm, fun _ u hu => .inl hu, hpre.nd, hpre.bd⟩
      have HOUT := Lib.hid hout
      clear hin hbl hown hrank hpre ih ihR hσ hr hv hal hbl2 hin2 hown2 hpa hp hpi hxs hout hmlt hgr0
      go_enter Try.func97, Try.ntmps97
      go_wp2_with fail
      refine HPA.out.mono ?_
      rintro e w' ⟨rfl, rfl⟩
      go_wp2_with fail
      go_ret2
      exact ⟨_, _, met, rfl, HOWN.out, HGR0.out, .inl rfl, HOUT.out⟩
    | some p =>
      obtain ⟨hpl, hpv, _⟩ := place_some hp
      have hpi : placeI l n = (p : Int) := by simp [placeI, hp]
      have hnv : (n == v) = false := by
        rw [beq_eq_false_iff_ne]
        rintro rfl
        rw [hv] at hp
        cases hp
      have hrp := hrank n (by simp [Tm.vs]) p hp
      have hxs2 : σ n = l[p].t.bnd σ := by rw [hσ.bound n p hp, tAt_get hpl]
      rw [hpi] at hpa
      have hia := in_any met n _ _ (ints_of_own hown2 (by omega))
      have HPA := Lib.hid hpa
      by_cases hm : n ∈ met
      · have hnot : ¬ v ∈ (σ n).vs := by
          rcases hpre.ok n hm with h | ⟨q, hq, hle⟩
          · exact h
          · rw [hp] at hq
            cases hq
            omega
        rw [decide_eq_true hm] at hia
        have hout : WOut l σ v met (v ∈ ((Tm.mk 1 s n ts).bnd σ).vs) false met := ⟨by rw [hxs]; exact ⟨(fun h => by cases h), fun h => absurd h hnot⟩, fun _ u hu => .inl hu, hpre.nd, hpre.bd⟩
        have HOUT := Lib.hid hout
        have HIA := Lib.hid hia
        clear hin hbl hown hrank hpre ih ihR hσ hr hv hal hbl2 hin2 hown2 hpa hp hpi hxs hxs2 hout hmlt hgr0 hia hm hnot hrp hpv
        go_enter Try.func97, Try.ntmps97
        go_wp2_with fail
        refine HPA.out.mono ?_
        rintro e w' ⟨rfl, rfl⟩
        go_wp2_with fail
        refine HIA.out.mono ?_
        rintro e w' ⟨rfl, rfl⟩
        go_wp2_with fail
        go_ret2
        exact ⟨_, _, met, rfl, HOWN.out, HGR0.out, .inl rfl, HOUT.out⟩
      · rw [decide_eq_false hm] at hia
        have HIA := Lib.hid hia
        obtain ⟨b, off, sv2, hgl, hbB, g0, g1, g2, g3, g4, hinp⟩ := bdsIn_get hbl2 p hpl
        subst hgl
        obtain ⟨ga, capa, rfl⟩ := inn_sl hinp
        have hvr : ∀ u ∈ l[p].t.vs, ∀ q, place l u = some q → r q < r p := fun u hu q hq => hr p hpl q (deps_mem.2 ⟨u, by rw [tAt_get hpl]; exact hu, hq⟩)
        have hpre2 : WPre l r σ v (r p) (met ++ [n]) := ⟨fun u hu => by
          rcases List.mem_append.1 hu with hu | hu
          · rcases hpre.ok u hu with h | ⟨q, hq, hle⟩
            · exact .inl h
            · exact .inr ⟨q, hq, by omega⟩
          · rw [List.mem_singleton.1 hu]
            exact .inr ⟨p, hp, Nat.le_refl _⟩, List.nodup_append.2 ⟨hpre.nd, by simp, fun a ha b hb e => by
            rw [List.mem_singleton.1 hb] at e
            exact hm (e ▸ ha)⟩, fun u hu => by
          rcases List.mem_append.1 hu with hu | hu
          · exact hpre.bd u hu
          · rw [List.mem_singleton.1 hu]
            exact ⟨p, hp⟩⟩
        have hnb : some b ≠ (Value.slice gm met.length cm).ownBlock := fun e => by have := (hmlt b e.symm).1; omega
        have hal2 : ∀ W : World, Below W.heap.size W ((W.alloc (.cells #[.int .i64 n] 3)).drew) := fun W => ((Below.refl _ W).alloc (Nat.le_refl _) _).drew
        obtain ⟨W1, hW1⟩ : ∃ W1, w.alloc (.cells #[.int .i64 1, .string s, .int .i64 n, .slice g ts.length cap] 27) = W1 := ⟨_, rfl⟩
        have hcall : ∀ (w5 : World) (v5 : Value), ownInts w5 lo v5 (met ++ [n]) → ((W1.alloc (.cells #[.int .i64 n] 3)).drew).grownBy w5 (Value.slice gm met.length cm).ownBlock →
            Calls Try.prog 97 #[.slice (some ⟨b, off, none⟩) l.length cl, .int .i64 v, .agg #[.int .i64 l[p].t.kind, .string l[p].t.name, .int .i64 l[p].t.n, .slice ga l[p].t.args.length capa], v5] w5 fun e w' => WithinPost l σ v lo (met ++ [n]) (v ∈ (l[p].t.bnd σ).vs) v5 w5 e w' := fun w5 v5 h5 hg5 => by
          subst hW1
          have hs5 := hg5.size
          simp at hs5
          have hrow : ∀ k, (Value.slice gm met.length cm).ownBlock = some k → B ≤ k := fun k e => Nat.le_trans hBlo (hmlt k e).1
          exact HIHR.out (r p) hrp l[p].t (met ++ [n]) hvr hpre2 w5 _ _ v5 (by omega) (bdsIn_grown (bdsIn_below hbl2 (hal2 _) (by simp; omega)) hg5 hrow) (inn_grown (Tm.inn_below hinp (hal2 _) (by simp; omega)) hg5 hrow) h5
        have hfin : ∀ (w5 w6 : World) (v5 v6 : Value) (q : Bool) (met6 : List Int), ((W1.alloc (.cells #[.int .i64 n] 3)).drew).grownBy w5 (Value.slice gm met.length cm).ownBlock →
            (v5.ownBlock = (Value.slice gm met.length cm).ownBlock ∨ ∀ b, v5.ownBlock = some b → ((W1.alloc (.cells #[.int .i64 n] 3)).drew).heap.size ≤ b) → ownInts w6 lo v6 met6 → w5.grownBy w6 v5.ownBlock → (v6.ownBlock = v5.ownBlock ∨ ∀ b, v6.ownBlock = some b → w5.heap.size ≤ b) →
            WOut l σ v (met ++ [n]) (v ∈ (l[p].t.bnd σ).vs) q met6 → WithinPost l σ v lo met (v ∈ ((Tm.mk 1 s n ts).bnd σ).vs) (.slice gm met.length cm) w (.returned (.tuple #[.bool q, v6])) w6 := fun w5 w6 v5 v6 q met6 hg5 hs5 h6 hg6 hs6 ho => by
          have hsz : w.heap.size < ((W1.alloc (.cells #[.int .i64 n] 3)).drew).heap.size := by subst hW1; simp; omega
          have hsz5 := hg5.size
          have hw5 : w.grownBy w5 (Value.slice gm met.length cm).ownBlock := grown_trans (grownBy_none (by subst hW1; exact hal.trans ((hal2 _).mono hal.size)) _) hg5 (fun k e => .inl e)
          refine ⟨q, v6, met6, rfl, h6, grown_trans hw5 hg6 (fun k e => ?_), ?_, ⟨by rw [hxs, hxs2]; exact ho.says, fun hq u hu => ?_, ho.nd, ho.bd⟩⟩
          · rcases hs5 with h | h
            · exact .inl (e.trans h)
            · have := h k e.symm
              exact .inr (by omega)
          · rcases hs6 with h | h
            · rw [h]
              rcases hs5 with h' | h'
              · exact .inl h'
              · exact .inr fun b hb => by have := h' b hb; omega
            · exact .inr fun b hb => by have := h b hb; omega
          · rcases ho.ok hq u hu with h | h
            · rcases List.mem_append.1 h with h | h
              · exact .inl h
              · rw [List.mem_singleton.1 h]
                refine .inr fun hc => ?_
                have := ho.says.2 (by rw [← hxs2]; exact hc)
                rw [hq] at this
                cases this
            · exact .inr h
        have hbW : b < w.heap.size + 1 := by omega
        have HCALL := Lib.hid hcall
        have HFIN := Lib.hid hfin
        subst hW1
        clear hin hbl hown hrank hpre ih ihR hσ hr hv hbl2 hin2 hown2 hpa hp hpi hxs hxs2 hgr0 hia hm hrp hpv hvr hpre2 hcall hfin hinp hal2 HIH HIHR HGR0 HIN HBL
        go_enter Try.func97, Try.ntmps97
        go_wp2_with fail
        refine HPA.out.mono ?_
        rintro e w' ⟨rfl, rfl⟩
        go_wp2_with fail
        refine HIA.out.mono ?_
        rintro e w' ⟨rfl, rfl⟩
        go_wp2_with fail
        have HNEWS := Lib.hid (fun (j : Nat) (u : Value) (hu : [Value.int .i64 n][j]? = some u) => (news1w (w := w.alloc (.cells #[.int .i64 1, .string s, .int .i64 n, .slice g ts.length cap] 27)) (t := 3) (w.heap.size + 1) (by simp) j u hu : (((w.alloc (.cells #[.int .i64 1, .string s, .int .i64 n, .slice g ts.length cap] 27)).alloc (.cells #[.int .i64 n] 3)).drew).cell? ((⟨w.heap.size + 1, 0, none⟩ : Addr).add j) = some u))
        go_region_law (first
          | ((refine step_append_int (by rfl) _ _ (by rfl) lo (.slice gm met.length cm) met n (by rfl) (by first | exact ownInts.drew (HOWN.out.alloc _) | exact HOWN.out.alloc _ | exact (ownInts.drew HOWN.out).alloc _) (w.heap.size + 1) 1 (by rfl) HNEWS.out (by omega) (by simp; omega) ?_; intro v5 w5 hown5 hgrow hsep; have hs5 := hgrow.size; have d1 := cell_step hgrow hnb g1; have d2 := cell_step hgrow hnb g2; have d3 := cell_step hgrow hnb g3; have d4 := cell_step hgrow hnb g4))
          | ((refine step_open (by rfl) ?_; go_simp; go_at_call 97; refine (HCALL.out w5 v5 hown5 hgrow).mono ?_; rintro e w6 ⟨q, v6, met6, rfl, hown6, hgr6, hsep6, hout6⟩)))
        all_goals go_wp2_with fail
        all_goals go_ret2
        all_goals exact HFIN.out w5 w6 v5 v6 q met6 hgrow hsep hown6 hgr6 hsep6 hout6
  · have hkf : (k == 1) = false := by simp [hk]
    have hvs : ∀ x, x ∈ ((Tm.mk k s n ts).bnd σ).vs ↔ ∃ t ∈ ts, x ∈ (t.bnd σ).vs := fun x => by
      rw [Tm.bnd_kind σ hk]
      simp only [Tm.vs, if_neg hk]
      rw [Tm.vss_mem, Tm.bnds_map]
      constructor
      · rintro ⟨t, ht, hx⟩
        obtain ⟨t0, ht0, rfl⟩ := List.mem_map.1 ht
        exact ⟨t0, ht0, hx⟩
      · rintro ⟨t, ht, hx⟩
        exact ⟨_, List.mem_map.2 ⟨t, ht, rfl⟩, hx⟩
    have hrk : ∀ t ∈ ts, ∀ u ∈ t.vs, ∀ p, place l u = some p → r p < R := fun t ht u hu => hrank u (Tm.vs_mem_args ht hu)
    have HVS := Lib.hid hvs
    have HRK := Lib.hid hrk
    have HIN0 := Lib.hid hin
    have HBL0 := Lib.hid hbl
    have hlo1 : lo ≤ w.heap.size := hlo
    clear hin hbl hown hrank hpre ih ihR hσ hr hv hal hbl2 hin2 hown2 hpa hvs hrk hmlt hgr0 HIN HBL HIHR HRANK
    go_enter Try.func97, Try.ntmps97
    go_wp2_with fail
    go_loopw [3, 11] (fun m i wr => ∃ (k' : Nat) (met' : List Int), k' ≤ ts.length ∧ i = .int .i64 k' ∧ Hid (ownInts wr lo m met') ∧ Hid (WOut l σ v met (∃ j, ∃ h : j < ts.length, j < k' ∧ v ∈ (ts[j].bnd σ).vs) false met') ∧ Hid (w.grownBy wr (Value.slice gm met.length cm).ownBlock) ∧
      Hid (m.ownBlock = (Value.slice gm met.length cm).ownBlock ∨ ∀ b, m.ownBlock = some b → w.heap.size < b) ∧ w.heap.size < wr.heap.size ∧ wr.cell? ⟨w.heap.size, 3, none⟩ = some (.slice g ts.length cap)) (fun _ i _ => ts.length - (intOf i).toNat)
    case atStart =>
      refine ⟨0, met, Nat.zero_le _, rfl, HOWN.out, ?_, HGR0.out, .inl rfl, by simp, by simp⟩
      exact ⟨⟨(fun h => by cases h), fun ⟨j, _, h, _⟩ => absurd h (Nat.not_lt_zero _)⟩, fun _ u hu => .inl hu, HPRE.out.nd, HPRE.out.bd⟩
    case round =>
      obtain ⟨k', met', hk', rfl, ho, hw, hg, hsep, hs, c3⟩ := hrel
      have HO := Lib.hid ho.out
      have HW := Lib.hid hw.out
      have HG := Lib.hid hg.out
      have HSEP := Lib.hid hsep.out
      have hnw : u3.ownBlock ≠ some w.heap.size := fun e => by
        rcases HSEP.out with h | h
        · have := HMLT.out _ (h ▸ e); omega
        · have := h _ e; omega
      by_cases hlt : k' < ts.length
      · have hrow : ∀ k, (Value.slice gm met.length cm).ownBlock = some k → B ≤ k := fun k e => Nat.le_trans hBlo (HMLT.out k e).1
        have hsl := (Tm.inn_mk.1 (inn_grown HIN0.out HG.out hrow)).2
        obtain ⟨b, off, sv, rfl, hbB, g0, g1, g2, g3, hin'⟩ := Tm.sliceIn_get hsl k' hlt
        obtain ⟨ga, ca, rfl⟩ := inn_sl hin'
        have hc := HIH.out ts[k'] (List.getElem_mem hlt) met' (HRK.out _ (List.getElem_mem hlt)) (HPRE.out.next HW.out) wr _ _ u3 (by omega) (bdsIn_grown HBL0.out HG.out hrow) hin' HO.out
        have HC := Lib.hid hc
        have HNW := Lib.hid hnw
        clear ho hw hg hsep hsl hin' hc hrow hnw
        go_wp2_with fail
        refine HC.out.mono ?_
        rintro e w1 ⟨q, v1, met1, rfl, hown1, hgr1, hsep1, hout1⟩
        have hs1 := hgr1.size
        have d3 : w1.cell? ⟨w.heap.size, 3, none⟩ = some (.slice (some ⟨b, off, none⟩) ts.length cap) := hgr1.cell c3 (fun e => HNW.out e.symm)
        have hgw : w.grownBy w1 (Value.slice gm met.length cm).ownBlock := grown_trans HG.out hgr1 (fun k e => by
          rcases HSEP.out with h | h
          · exact .inl (e.trans h)
          · have := h k e.symm
            exact .inr (by omega))
        have hsw : v1.ownBlock = (Value.slice gm met.length cm).ownBlock ∨ ∀ b, v1.ownBlock = some b → w.heap.size < b := by
          rcases hsep1 with h | h
          · rw [h]; exact HSEP.out
          · exact .inr fun b hb => by have := h b hb; omega
        have HGW := Lib.hid hgw
        have HSW := Lib.hid hsw
        have HOWN1 := Lib.hid hown1
        cases q with
        | true =>
          have hout : WOut l σ v met (v ∈ ((Tm.mk k s n ts).bnd σ).vs) true met1 := ⟨⟨fun _ => (HVS.out v).2 ⟨_, List.getElem_mem hlt, hout1.says.1 rfl⟩, fun _ => rfl⟩, (fun h => by cases h), hout1.nd, hout1.bd⟩
          have HOUT := Lib.hid hout
          clear hgw hsw hown1 hgr1 hsep1 hout1 hout
          go_wp2_with fail
          go_ret2
          exact ⟨_, _, met1, rfl, HOWN1.out, HGW.out, HSW.out.imp id (fun h b hb => Nat.le_of_lt (h b hb)), HOUT.out⟩
        | false =>
          have hout : WOut l σ v met (∃ j, ∃ h : j < ts.length, j < k' + 1 ∧ v ∈ (ts[j].bnd σ).vs) false met1 := by
            refine ⟨⟨(fun h => by cases h), fun ⟨j, hj, hjk, hm⟩ => ?_⟩, fun _ u hu => ?_, hout1.nd, hout1.bd⟩
            · by_cases hjj : j < k'
              · exact HW.out.says.2 ⟨j, hj, hjj, hm⟩
              · obtain rfl : j = k' := by omega
                exact hout1.says.2 hm
            · rcases hout1.ok rfl u hu with h | h
              · exact HW.out.ok rfl u h
              · exact .inr h
          have HOUT := Lib.hid hout
          clear hgw hsw hown1 hgr1 hsep1 hout1 hout
          go_wp2_with fail
          go_roundw
          case rel => exact ⟨k' + 1, met1, by omega, by go_num, HOWN1.out, HOUT.out, HGW.out, HSW.out, by omega, d3⟩
          case measure => simp [intOf]; omega
      · obtain rfl : k' = ts.length := by omega
        have hout : WOut l σ v met (v ∈ ((Tm.mk k s n ts).bnd σ).vs) false met' := ⟨by
          rw [HVS.out]
          refine ⟨(fun h => by cases h), fun ⟨t, ht, hm⟩ => ?_⟩
          obtain ⟨j, hj, rfl⟩ := List.getElem_of_mem ht
          exact HW.out.says.2 ⟨j, hj, hj, hm⟩, HW.out.ok, HW.out.nd, HW.out.bd⟩
        have HOUT := Lib.hid hout
        clear ho hw hg hsep hnw hout
        go_wp2_with fail
        go_ret2
        exact ⟨_, _, met', rfl, HO.out, HG.out, HSEP.out.imp id (fun h b hb => Nat.le_of_lt (h b hb)), HOUT.out⟩
end Go.Proofs.Ytgnbjhiafjpokaa

namespace Go.Proofs.Ytgnbjhiafjpokaa
open Go.RowKit Go.Shelf Go.Maps

set_option maxRecDepth 100000 in
set_option maxHeartbeats 4000000 in
theorem occ_any (l : List Bd) (hl : l.length ≤ 1000000) (σ : Int → Tm) (hσ : Sol l σ) (r : Nat → Nat) (hr : Ranked l r) (v : Int) (hv : place l v = none) (t : Tm) (w : World) (svl sv : Value) (hbl : bdsIn w w.heap.size l svl) (hin : Tm.inn w w.heap.size t sv) :
    Calls Try.prog 84 #[svl, .int .i64 v, .agg #[.int .i64 t.kind, .string t.name, .int .i64 t.n, sv]] w fun e w' => ∃ q, e = .returned (.bool q) ∧ (q = true ↔ v ∈ (t.bnd σ).vs) ∧ Below w.heap.size w w' := by
  obtain ⟨g, cap, rfl⟩ := inn_sl hin
  obtain ⟨gl, cl, rfl, _, _, _, _⟩ := id hbl
  have hal : Below w.heap.size w (w.alloc (.cells #[.int .i64 t.kind, .string t.name, .int .i64 t.n, .slice g t.args.length cap] 27)) := (Below.refl _ _).alloc (Nat.le_refl _) _
  obtain ⟨M, hM⟩ := bound_of r l.length
  have hpre : WPre l r σ v M [] := ⟨(fun u hu => by cases hu), List.nodup_nil, (fun u hu => by cases hu)⟩
  have hown : ∀ W : World, ownInts W W.heap.size (.slice none 0 0) [] := fun W => ⟨rfl, .inl ⟨rfl, rfl⟩⟩
  have hc := within_any l hl σ hσ r hr v hv _ _ (Nat.le_refl _) M t [] (fun u _ p hp => hM p (place_some hp).1) hpre _ _ _ _ (Nat.le_refl _) (bdsIn_held hbl hal) (Tm.inn_mono (Tm.inn_below hin hal (Nat.le_refl _)) hal.size) (hown _)
  have HC := Lib.hid hc
  have HAL := Lib.hid hal
  clear hc hal hown hpre hM hbl hin hσ hr hv
  go_enter Try.func84, Try.ntmps84
  go_wp2_with fail
  refine HC.out.mono ?_
  rintro e w1 ⟨q, v', met', rfl, _, hg, _, ho⟩
  have hsays := Lib.hid ho.says
  have hb1 : Below w.heap.size w w1 := HAL.out.trans ⟨hg.os, hg.tape, hg.output, hg.size, fun k hk => hg.block k (by simp; omega) (fun e => by cases e)⟩
  have HB1 := Lib.hid hb1
  clear hg ho hb1
  go_wp2_with fail
  go_ret
  exact ⟨q, rfl, hsays.out, HB1.out⟩

/-! ### one equation -/
/-- Both are one variable: nothing is to be done. -/
theorem mgu_same {l : List Bd} (hl : RightL l) {a b a' b' : Tm} (ha : Walked l a a') (hb : Walked l b b') (he : a' = b') : MguOf l a b l :=
  ⟨hl, fun θ => ⟨fun h => ⟨h, by rw [ha.same θ h, hb.same θ h, he]⟩, fun h => h.1⟩⟩
/-- A variable is bound. -/
theorem mgu_bind {l : List Bd} {σ : Int → Tm} (hl : RightL l) (hσ : Sol l σ) {a b a' b' : Tm} (ha : Walked l a a') (hb : Walked l b b') (hra : a'.right = true) (hrb : b'.right = true) (hk : b'.kind = 1) (hn : ¬ b'.n ∈ (a'.bnd σ).vs) :
    MguOf l a b (l ++ [⟨b'.n, a'⟩]) := by
  obtain ⟨hv, h0, h1⟩ := Tm.var_of (right_fair hrb) hk
  refine ⟨right_snoc hl hσ h0 h1 (hb.free hk) hra hn, fun θ => ?_⟩
  rw [solves_snoc]
  refine and_congr_right fun hθ => ?_
  rw [ha.same θ hθ, hb.same θ hθ, hv, Tm.bnd_var]
  exact eq_comm
theorem MguOf.comm {l l' : List Bd} {a b : Tm} (h : MguOf l a b l') : MguOf l b a l' := ⟨h.right, fun θ => by rw [h.iff, eq_comm]⟩
theorem NoMgu.comm {l : List Bd} {a b : Tm} (h : NoMgu l a b) : NoMgu l b a := fun θ hθ e => h θ hθ e.symm
/-- A variable inside of what it would have to be. -/
theorem none_occurs {l : List Bd} {σ : Int → Tm} (hl : RightL l) (hσ : Sol l σ) {a b a' b' : Tm} (ha : Walked l a a') (hb : Walked l b b') (hra : a'.right = true) (hrb : b'.right = true) (hk : b'.kind = 1) (hne : ¬ (a'.kind = 1 ∧ a'.n = b'.n)) (hn : b'.n ∈ (a'.bnd σ).vs) :
    NoMgu l a b := fun θ hθ e => by
  rw [ha.same θ hθ, hb.same θ hθ] at e
  obtain ⟨hv, h0, h1⟩ := Tm.var_of (right_fair hrb) hk
  by_cases hka : a'.kind = 1
  · obtain ⟨hva, _, _⟩ := Tm.var_of (right_fair hra) hka
    rw [hva, Tm.bnd_var, hσ.free _ (ha.free hka), Tm.vs_vTm, List.mem_singleton] at hn
    exact hne ⟨hka, hn.symm⟩
  · rw [hv, Tm.bnd_var] at e
    exact occurs_none hl hσ hθ (right_fair hra) hka hn e.symm
/-- Heads that differ. -/
theorem none_heads {l : List Bd} {a b a' b' : Tm} (ha : Walked l a a') (hb : Walked l b b') (hka : a'.kind ≠ 1) (hkb : b'.kind ≠ 1) (hne : ¬ (a'.kind = b'.kind ∧ a'.name = b'.name ∧ a'.n = b'.n ∧ a'.args.length = b'.args.length)) : NoMgu l a b := fun θ hθ e => by
  rw [ha.same θ hθ, hb.same θ hθ, Tm.bnd_eq_iff θ hka hkb] at e
  exact hne ⟨e.1, e.2.1, e.2.2.1, by simpa using congrArg List.length e.2.2.2⟩
/-- Arg by Arg: l' makes alike what stands ahead of place i. -/
def MguTo (l : List Bd) (a' b' : Tm) (i : Nat) (l' : List Bd) : Prop :=
  RightL l' ∧ ∀ θ, Solves θ l' ↔ Solves θ l ∧ ∀ j, j < i → ∀ (h : j < a'.args.length) (h' : j < b'.args.length), a'.args[j].bnd θ = b'.args[j].bnd θ
theorem MguTo.start {l : List Bd} (hl : RightL l) (a' b' : Tm) : MguTo l a' b' 0 l := ⟨hl, fun _ => ⟨fun h => ⟨h, fun _ hj => absurd hj (Nat.not_lt_zero _)⟩, fun h => h.1⟩⟩
theorem MguTo.step {l l1 l2 : List Bd} {a' b' : Tm} {i : Nat} (h : MguTo l a' b' i l1) (hi : i < a'.args.length) (hi' : i < b'.args.length) (g : MguOf l1 a'.args[i] b'.args[i] l2) : MguTo l a' b' (i + 1) l2 := by
  refine ⟨g.right, fun θ => ?_⟩
  rw [g.iff, h.2]
  constructor
  · rintro ⟨⟨h1, h2⟩, h3⟩
    refine ⟨h1, fun j hj hja hjb => ?_⟩
    by_cases hji : j < i
    · exact h2 j hji hja hjb
    · obtain rfl : j = i := by omega
      exact h3
  · rintro ⟨h1, h2⟩
    exact ⟨⟨h1, fun j hj => h2 j (by omega)⟩, h2 i (by omega) hi hi'⟩
theorem MguTo.done {l l' : List Bd} {a b a' b' : Tm} (ha : Walked l a a') (hb : Walked l b b') (hka : a'.kind ≠ 1) (hkb : b'.kind ≠ 1) (hk : a'.kind = b'.kind) (hs : a'.name = b'.name) (hn : a'.n = b'.n) (hlen : a'.args.length = b'.args.length)
    (h : MguTo l a' b' a'.args.length l') : MguOf l a b l' := by
  refine ⟨h.1, fun θ => ?_⟩
  rw [h.2]
  refine and_congr_right fun hθ => ?_
  rw [ha.same θ hθ, hb.same θ hθ, Tm.bnd_eq_iff θ hka hkb]
  constructor
  · intro h1
    refine ⟨hk, hs, hn, List.ext_getElem (by simp [hlen]) fun j hj hj' => ?_⟩
    simp only [List.getElem_map]
    exact h1 j (by simpa using hj) (by simpa using hj) (by simpa using hj')
  · intro h1 j hj hja hjb
    have := congrArg (fun L => L[j]?) h1.2.2.2
    simpa [hja, hjb] using this
theorem MguTo.none {l l1 : List Bd} {a b a' b' : Tm} (ha : Walked l a a') (hb : Walked l b b') (hka : a'.kind ≠ 1) (hkb : b'.kind ≠ 1) {i : Nat} (h : MguTo l a' b' i l1) (hi : i < a'.args.length) (hi' : i < b'.args.length) (g : NoMgu l1 a'.args[i] b'.args[i]) : NoMgu l a b := fun θ hθ e => by
  rw [ha.same θ hθ, hb.same θ hθ, Tm.bnd_eq_iff θ hka hkb] at e
  have hall : ∀ j, ∀ (h : j < a'.args.length) (h' : j < b'.args.length), a'.args[j].bnd θ = b'.args[j].bnd θ := fun j hja hjb => by
    have := congrArg (fun L => L[j]?) e.2.2.2
    simpa [hja, hjb] using this
  exact g θ ((h.2 θ).2 ⟨hθ, fun j _ hja hjb => hall j hja hjb⟩) (hall i hi hi')
/-- Two that were met: alike already, or the first of them holds what is made alike now. -/
def MetOK (l : List Bd) (a : Tm) (met : List (Int × Int)) : Prop := ∀ x ∈ met, (∀ θ, Solves θ l → θ x.1 = θ x.2) ∨ ∀ θ, Solves θ l → (a.bnd θ).size < (θ x.1).size
/-- Two variables that were met are alike. -/
theorem mgu_met {l : List Bd} (hl : RightL l) {a b : Tm} (hka : a.kind = 1) (hkb : b.kind = 1) {met : List (Int × Int)} (h : MetOK l a met) (hm : (a.n, b.n) ∈ met) : MguOf l a b l := by
  obtain ⟨k, s, n, ts⟩ := a
  obtain ⟨k', s', n', ts'⟩ := b
  have h1 : k = 1 := hka
  have h2 : k' = 1 := hkb
  subst h1 h2
  refine ⟨hl, fun θ => ⟨fun hθ => ⟨hθ, ?_⟩, fun h => h.1⟩⟩
  rcases h _ hm with h | h
  · simpa [Tm.bnd, Tm.n] using h θ hθ
  · have := h θ hθ
    simp [Tm.bnd, Tm.n] at this
end Go.Proofs.Ytgnbjhiafjpokaa

namespace Go.Proofs.Ytgnbjhiafjpokaa
open Go.RowKit Go.Shelf Go.Maps

/-- A list of binds is no longer than there are numbers. -/
theorem okL_len {l : List Bd} (h : okL l) : l.length ≤ 1000000 := by
  have hn : (l.map fun b => b.v.toNat).Nodup := by
    refine List.pairwise_iff_getElem.2 fun i j hi hj hij e => ?_
    have hi' : i < l.length := by simpa using hi
    have hj' : j < l.length := by simpa using hj
    simp only [List.getElem_map] at e
    have h1 := h i hi'
    have h2 := h j hj'
    have he : l[i].v = l[j].v := by omega
    have h3 := h1.2.2.1
    rw [he, h2.2.2.1] at h3
    simp at h3
    omega
  have := nodup_len 1000000 _ hn (fun x hx => by
    obtain ⟨b, hb, rfl⟩ := List.mem_map.1 hx
    obtain ⟨i, hi, rfl⟩ := List.getElem_of_mem hb
    have := h i hi
    omega)
  simpa using this

/-! ### the pairs -/
def metCells (met : List (Int × Int)) : List Value := met.flatMap fun x => [.int .i64 x.1, .int .i64 x.2]
theorem metCells_length (met : List (Int × Int)) : (metCells met).length = met.length * 2 := by
  induction met with
  | nil => rfl
  | cons x r ih =>
    have h : metCells (x :: r) = .int .i64 x.1 :: .int .i64 x.2 :: metCells r := rfl
    rw [h, List.length_cons, List.length_cons, List.length_cons, ih]
    omega
theorem metCells_get : ∀ (met : List (Int × Int)) (i : Nat) (h : i < met.length), (metCells met)[i * 2]? = some (.int .i64 met[i].1) ∧ (metCells met)[i * 2 + 1]? = some (.int .i64 met[i].2)
  | [], i, h => absurd h (Nat.not_lt_zero _)
  | x :: r, 0, _ => ⟨rfl, rfl⟩
  | x :: r, i + 1, h => by
    have h' := metCells_get r i (by simpa using h)
    have e : metCells (x :: r) = .int .i64 x.1 :: .int .i64 x.2 :: metCells r := rfl
    rw [e, show (i + 1) * 2 = i * 2 + 1 + 1 by omega, show i * 2 + 1 + 1 + 1 = (i * 2 + 1) + 1 + 1 by omega]
    simpa using h'
theorem metCells_snoc (met : List (Int × Int)) (x : Int × Int) : metCells (met ++ [x]) = metCells met ++ [.int .i64 x.1, .int .i64 x.2] := by
  simp [metCells]
/-- A row of pairs that the calls hand on. -/
def ownMet (w : World) (lo : Nat) (v : Value) (met : List (Int × Int)) : Prop := w.ownsRow lo 115 2 v met.length (metCells met)
theorem ownMet_below {w w' : World} {lo : Nat} {v : Value} {met : List (Int × Int)} (h : ownMet w lo v met) (hb : Below w.heap.size w w') : ownMet w' lo v met := ownsRow_below h hb
theorem ownMet_nil (w : World) (lo : Nat) : ownMet w lo (.slice none 0 0) [] := ⟨rfl, .inl ⟨rfl, rfl⟩⟩
theorem ownMet_lt {w : World} {lo : Nat} {v : Value} {met : List (Int × Int)} (h : ownMet w lo v met) : ∀ k, v.ownBlock = some k → lo ≤ k ∧ k < w.heap.size := fun k e => World.ownsRow.lt h k e
theorem ownMet_get {w : World} {lo : Nat} {v : Value} {met : List (Int × Int)} (h : ownMet w lo v met) (i : Nat) (hi : i < met.length) :
    ∃ b c, v = .slice (some ⟨b, 0, none⟩) met.length c ∧ b < w.heap.size ∧ w.cell? ⟨b, i * 2, none⟩ = some (.int .i64 met[i].1) ∧ w.cell? ⟨b, i * 2 + 1, none⟩ = some (.int .i64 met[i].2) := by
  rcases h.2 with ⟨rfl, h0⟩ | ⟨gr, cr, cur, rfl, hbase, hg, _⟩
  · omega
  · obtain ⟨h1, h2⟩ := metCells_get met i hi
    have c1 := World.ownsRow.cells h (g := gr) rfl (i * 2) _ h1
    have c2 := World.ownsRow.cells h (g := gr) rfl (i * 2 + 1) _ h2
    rw [Addr.add_lit] at c1 c2
    simp only [Nat.zero_add] at c1 c2
    exact ⟨gr, cr, rfl, (Array.getElem?_eq_some_iff.1 hg).1, c1, c2⟩
theorem Try.infoBoth : (Try.prog.info? 115).map (fun i => (i.zero, i.size, i.bytes)) = some (some (.agg #[.int .i64 0, .int .i64 0]), 2, 16) := by kernel_rfl
/-- No pair twice; each of two variables. -/
structure MetBd (met : List (Int × Int)) : Prop where
  nd : met.Nodup
  rng : ∀ x ∈ met, (0 ≤ x.1 ∧ x.1 < 1000000) ∧ 0 ≤ x.2 ∧ x.2 < 1000000
theorem MetBd.nil : MetBd [] := ⟨List.nodup_nil, fun _ h => by cases h⟩
theorem MetBd.snoc {met : List (Int × Int)} (h : MetBd met) {x : Int × Int} (hx : ¬ x ∈ met) (h1 : 0 ≤ x.1 ∧ x.1 < 1000000) (h2 : 0 ≤ x.2 ∧ x.2 < 1000000) : MetBd (met ++ [x]) :=
  ⟨List.nodup_append.2 ⟨h.nd, by simp, fun a ha b hb e => by
    rw [List.mem_singleton.1 hb] at e
    exact hx (e ▸ ha)⟩, fun y hy => by
    rcases List.mem_append.1 hy with hy | hy
    · exact h.rng y hy
    · rw [List.mem_singleton.1 hy]
      exact ⟨h1, h2⟩⟩
theorem MetBd.len {met : List (Int × Int)} (h : MetBd met) : met.length ≤ 1000000000000 := by
  have hn : (met.map fun x => (x.1 * 1000000 + x.2).toNat).Nodup := by
    refine List.pairwise_iff_getElem.2 fun i j hi hj hij e => ?_
    have hi' : i < met.length := by simpa using hi
    have hj' : j < met.length := by simpa using hj
    simp only [List.getElem_map] at e
    have h1 := h.rng _ (List.getElem_mem hi')
    have h2 := h.rng _ (List.getElem_mem hj')
    have h3 : met[i].1 = met[j].1 := by omega
    have h4 : met[i].2 = met[j].2 := by omega
    have h5 : met[i] = met[j] := Prod.ext h3 h4
    have := (List.getElem_inj h.nd).1 h5
    omega
  have := nodup_len 1000000000000 _ hn (fun x hx => by
    obtain ⟨b, hb, rfl⟩ := List.mem_map.1 hx
    have := h.rng b hb
    omega)
  simpa using this
theorem MetOK.mono {l l' : List Bd} {a : Tm} {met : List (Int × Int)} (h : MetOK l a met) (hs : ∀ θ, Solves θ l' → Solves θ l) : MetOK l' a met := fun x hx => by
  rcases h x hx with h | h
  · exact .inl fun θ hθ => h θ (hs θ hθ)
  · exact .inr fun θ hθ => h θ (hs θ hθ)
/-- An Arg lies in what holds it. -/
theorem size_arg (θ : Int → Tm) {t u : Tm} (hk : t.kind ≠ 1) (hu : u ∈ t.args) : (u.bnd θ).size < (t.bnd θ).size := by
  obtain ⟨k, s, n, l⟩ := t
  exact Tm.size_bnd_arg θ hk hu
theorem MetOK.arg {l : List Bd} {a a' u : Tm} {met : List (Int × Int)} (h : MetOK l a met) (ha : Walked l a a') (hk : a'.kind ≠ 1) (hu : u ∈ a'.args) : MetOK l u met := fun x hx => by
  rcases h x hx with h | h
  · exact .inl h
  · refine .inr fun θ hθ => Nat.lt_trans ?_ (h θ hθ)
    rw [ha.same θ hθ]
    exact size_arg θ hk hu
/-- With the pair that is being made alike: it holds each Arg. -/
theorem MetOK.add {l : List Bd} {a a' u : Tm} {met : List (Int × Int)} (h : MetOK l a met) (ha : Walked l a a') (hka : a.kind = 1) (m : Int) (hk : a'.kind ≠ 1) (hu : u ∈ a'.args) : MetOK l u (met ++ [(a.n, m)]) := fun x hx => by
  rcases List.mem_append.1 hx with hx | hx
  · exact h.arg ha hk hu x hx
  · rw [List.mem_singleton.1 hx]
    refine .inr fun θ hθ => ?_
    have h1 := ha.same θ hθ
    rw [bnd_var_n θ hka] at h1
    rw [h1]
    exact size_arg θ hk hu
/-- What the calls leave of the pairs: those that were there, and pairs that are alike. -/
def MetOut (l' : List Bd) (met met' : List (Int × Int)) : Prop := ∀ x ∈ met', x ∈ met ∨ ∀ θ, Solves θ l' → θ x.1 = θ x.2
theorem MetOut.refl (l' : List Bd) (met : List (Int × Int)) : MetOut l' met met := fun _ h => .inl h
theorem MetOut.snoc {l' : List Bd} {met met' : List (Int × Int)} {x : Int × Int} (h : MetOut l' (met ++ [x]) met') (hx : ∀ θ, Solves θ l' → θ x.1 = θ x.2) : MetOut l' met met' := fun y hy => by
  rcases h y hy with h | h
  · rcases List.mem_append.1 h with h | h
    · exact .inl h
    · rw [List.mem_singleton.1 h]
      exact .inr hx
  · exact .inr h
theorem MetOut.trans {l' l'' : List Bd} {m1 m2 m3 : List (Int × Int)} (h : MetOut l' m1 m2) (g : MetOut l'' m2 m3) (hs : ∀ θ, Solves θ l'' → Solves θ l') : MetOut l'' m1 m3 := fun y hy => by
  rcases g y hy with g | g
  · rcases h y g with h | h
    · exact .inl h
    · exact .inr fun θ hθ => h θ (hs θ hθ)
  · exact .inr g
/-- The pairs that a call left serve the next. -/
theorem MetOK.next {l l' : List Bd} {u : Tm} {met met' : List (Int × Int)} (h : MetOK l u met) (g : MetOut l' met met') (hs : ∀ θ, Solves θ l' → Solves θ l) : MetOK l' u met' := fun y hy => by
  rcases g y hy with g | g
  · exact h.mono hs y g
  · exact .inl g
end Go.Proofs.Ytgnbjhiafjpokaa
