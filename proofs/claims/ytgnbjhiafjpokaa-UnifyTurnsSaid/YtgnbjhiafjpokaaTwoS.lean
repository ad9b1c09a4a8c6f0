/-
  What a nil store tells; that making a pair alike again binds nothing.
  Two stores beside one another, as the law holds them; two rows of terms that are gathered side by side.
-/
import Derived.Test.YtgnbjhiafjpokaaSVal
import Derived.Test.YtgnbjhiafjpokaaRowT
namespace Go.Proofs.Ytgnbjhiafjpokaa
open Go.RowKit Go.Shelf Go.Maps

/-- What is alike already binds nothing more. -/
theorem again_nil {l bs : List Bd} {a b : Tm} (h : MguOf l a b (l ++ bs)) (hl : RightL l) (he : ∀ θ, Solves θ l → a.bnd θ = b.bnd θ) : bs = [] := by
  obtain ⟨σ, hσ⟩ := sol_of hl
  obtain ⟨τ, hτ⟩ := sol_of h.right
  rcases bs with _ | ⟨c, r⟩
  · rfl
  exfalso
  have hi : l.length < (l ++ c :: r).length := by simp
  obtain ⟨h0, h1, hp, _⟩ := h.right.1 l.length hi
  have hc : (l ++ c :: r)[l.length] = c := by simp
  rw [hc] at h0 h1 hp
  have hn : place l c.v = none := place_none.2 fun x hx e => by
    obtain ⟨_, _, hj⟩ := place_some hp
    obtain ⟨j, hj', rfl⟩ := List.getElem_of_mem hx
    exact hj j hj' (by rw [List.getElem_append_left hj']; exact e)
  have hss : Solves σ (l ++ c :: r) := (h.iff σ).2 ⟨hσ.solves hl.1, he _ (hσ.solves hl.1)⟩
  obtain ⟨rk, hrk⟩ := h.right.2
  have hb : (τ c.v).bnd σ = vTm c.v := by rw [hτ.below hrk hss, hσ.free _ hn]
  have hf := hτ.fair c.v h0 h1
  have hcl := hτ.clear c.v
  cases hT : τ c.v with
  | mk k s n args =>
    rw [hT] at hb hf hcl
    by_cases hk : k = 1
    · subst hk
      obtain ⟨e, h3, h4⟩ := Tm.fair_var hf
      rw [e] at hb hcl
      rw [Tm.bnd_var] at hb
      have hq := hcl n (by rw [Tm.vs_vTm]; simp)
      have hnl : place l n = none := place_none.2 fun x hx => place_none.1 hq x (List.mem_append_left _ hx)
      rw [hσ.free n hnl] at hb
      have hnv : n = c.v := by simpa [vTm] using hb
      rw [hnv, hp] at hq
      cases hq
    · rw [Tm.bnd_kind σ hk] at hb
      simp [vTm] at hb
      exact hk hb.1

set_option maxRecDepth 100000 in
set_option maxHeartbeats 2000000 in
theorem mark_nil (W : World) : Calls Try.prog 38 #[.pointer none] W fun e W' => e = .returned (.int .i64 0) ∧ W = W' := by
  have hp := Try.underlying60
  go_enter Try.func38, Try.ntmps38
  go_wp2_with fail
  go_ret
  exact ⟨rfl, rfl⟩
set_option maxRecDepth 100000 in
set_option maxHeartbeats 2000000 in
theorem undo_nil (W : World) : Calls Try.prog 40 #[.pointer none, .int .i64 0] W fun e W' => e = .returned (.int .i64 1) ∧ W = W' := by
  have hp := Try.underlying60
  go_enter Try.func40, Try.ntmps40
  go_wp2_with fail
  go_ret
  exact ⟨rfl, rfl⟩
set_option maxRecDepth 100000 in
set_option maxHeartbeats 2000000 in
theorem unify_nil (W : World) (xa xb : Value) (a0 a1 a2 a3 b0 b1 b2 b3 : Value) (hxa : xa = .agg #[a0, a1, a2, a3]) (hxb : xb = .agg #[b0, b1, b2, b3]) :
    Calls Try.prog 39 #[.pointer none, xa, xb] W fun e W' => e = .returned (.tuple #[.bool false, .int .i64 1]) ∧ Below W.heap.size W W' := by
  subst hxa hxb
  have hb0 := al2 W (.cells #[a0, a1, a2, a3] 27) (.cells #[b0, b1, b2, b3] 27)
  have HB := Lib.hid hb0
  clear hb0
  have hp := Try.underlying60
  go_enter Try.func39, Try.ntmps39
  go_wp2_with fail
  refine bodyPost_ret (v := .tuple #[.bool false, .int .i64 1]) (by simp [results, Try.results39, go_sem]) rfl ?_
  exact ⟨rfl, HB.out⟩
end Go.Proofs.Ytgnbjhiafjpokaa

namespace Go.Proofs.Ytgnbjhiafjpokaa
open Go.RowKit Go.Shelf Go.Maps

/-- Two stores that share nothing of their own; all of them lies below lo. -/
def Pair (W : World) (B lo sb : Nat) (l : List Bd) (su : Nat) (m : List Bd) (k : Nat) : Prop :=
  ∃ K svS mv xs Ku svu mvu xu, Str W B sb l K svS mv xs ∧ Str W B su m Ku svu mvu xu ∧ (∀ b, owned su svu mvu b → ¬ owned sb svS mv b) ∧ K ≤ k ∧ Ku ≤ k ∧ SLow lo sb svS mv ∧ SLow lo su svu mvu
theorem Pair.swap {W : World} {B lo sb su k : Nat} {l m : List Bd} (h : Pair W B lo sb l su m k) : Pair W B lo su m sb l k := by
  obtain ⟨K, svS, mv, xs, Ku, svu, mvu, xu, h1, h2, h3, h4, h5, h6, h7⟩ := h
  exact ⟨Ku, svu, mvu, xu, K, svS, mv, xs, h2, h1, fun b h g => h3 b g h, h5, h4, h7, h6⟩
theorem Str.far {W W' : World} {B sb lo K : Nat} {l : List Bd} {svS mv : Value} {xs : List Value} (h : Str W B sb l K svS mv xs) (hl : SLow lo sb svS mv) (hb : Below lo W W') : Str W' B sb l K svS mv xs := ⟨h.mem.far hl hb, h.nil_, h.right⟩
theorem Str.next {W W' : World} {B sb K : Nat} {l : List Bd} {svS mv : Value} {xs : List Value} (h : Str W B sb l K svS mv xs) (hb : Below W.heap.size W W') : Str W' B sb l K svS mv xs := ⟨h.mem.next hb, h.nil_, h.right⟩
theorem Pair.next {W W' : World} {B lo sb su k : Nat} {l m : List Bd} (h : Pair W B lo sb l su m k) (hb : Below lo W W') : Pair W' B lo sb l su m k := by
  obtain ⟨K, svS, mv, xs, Ku, svu, mvu, xu, h1, h2, h3, h4, h5, h6, h7⟩ := h
  exact ⟨K, svS, mv, xs, Ku, svu, mvu, xu, h1.far h6 hb, h2.far h7 hb, h3, h4, h5, h6, h7⟩
theorem Pair.made {W1 W2 : World} {B sb su : Nat} (h1 : Str W1 B sb [] 0 (.slice none 0 0) (.map none) []) (hb : Below W1.heap.size W1 W2) (h2 : Str W2 B su [] 0 (.slice none 0 0) (.map none) []) (hne : W1.heap.size ≤ su) : Pair W2 B W2.heap.size sb [] su [] 0 := by
  have h3 := h1.next hb
  have hl := h1.mem.low.box
  refine ⟨_, _, _, _, _, _, _, _, h3, h2, fun b hu hs => ?_, Nat.le_refl _, Nat.le_refl _, h3.mem.low, h2.mem.low⟩
  rcases hu with rfl | e | e
  · rcases hs with e | e | e
    · omega
    · cases e
    · cases e
  · cases e
  · cases e
theorem SFr.below {W W' : World} {B sb : Nat} {svS mv svS' mv' : Value} (h : SFr B sb svS mv svS' mv' W W') (hB : B ≤ W.heap.size) (hlow : ∀ b, owned sb svS mv b → B ≤ b) : Below B W W' :=
  ⟨h.os, h.tape, h.output, h.size, fun b hb => h.block b (by omega) fun ho => by have := hlow b ho; omega⟩
def PUniPost (B sb su k : Nat) (l m : List Bd) (V : List Int) (a b : Tm) (W : World) (e : Ending) (W' : World) : Prop :=
  ∃ (q : Bool) (l' : List Bd), e = .returned (.tuple #[.bool q, .int .i64 0]) ∧ Below B W W' ∧ Pair W' B W'.heap.size sb l' su m (k + 1000) ∧ inV V l' ∧ ((q = true ∧ MguOf l a b l' ∧ ∃ bs, l' = l ++ bs) ∨ (q = false ∧ NoMgu l a b ∧ l' = l))
theorem Pair.unify {W : World} {B lo sb su k : Nat} {l m : List Bd} (h : Pair W B lo sb l su m k) {V : List Int} (hV : inV V l) (hVl : V.length ≤ 300) (hk : k ≤ 1000000) {a b : Tm} {sva svb : Value} (hra : a.right = true) (hrb : b.right = true) (hVa : ∀ v ∈ a.vs, v ∈ V) (hVb : ∀ v ∈ b.vs, v ∈ V)
    (hina : Tm.inn W B a sva) (hinb : Tm.inn W B b svb) :
    Calls Try.prog 39 #[.pointer (some ⟨sb, 0, none⟩), .agg #[.int .i64 a.kind, .string a.name, .int .i64 a.n, sva], .agg #[.int .i64 b.kind, .string b.name, .int .i64 b.n, svb]] W fun e W' => PUniPost B sb su k l m V a b W e W' := by
  obtain ⟨K, svS, mv, xs, Ku, svu, mvu, xu, h1, h2, h3, h4, h5, h6, h7⟩ := h
  refine (sunify_any h1 hV hVl (by omega) hra hrb hVa hVb hina hinb).mono ?_
  rintro e W' ⟨q, l', K', svS', mv', xs', rfl, hs', hf, hK', hV', hc⟩
  have hlo := h1.mem.lo
  have hbx := h1.mem.low.box
  have hlu := h2.mem.low
  have hu' := h2.aside hf h3 h1.low
  have hsz := hf.size
  exact ⟨q, l', rfl, hf.below (by omega) h1.low, ⟨K', svS', mv', xs', Ku, svu, mvu, xu, hs', hu', fun b hb => hf.new b (by
    rcases hb with rfl | e | e
    · exact hlu.box
    · exact hlu.row b e
    · exact hlu.map b e) (h3 b hb), by omega, by omega, hs'.mem.low, hu'.mem.low⟩, hV', hc⟩
theorem Pair.mark {W : World} {B lo sb su k : Nat} {l m : List Bd} (h : Pair W B lo sb l su m k) : Calls Try.prog 38 #[.pointer (some ⟨sb, 0, none⟩)] W fun e W' => e = .returned (.int .i64 (l.length : Nat)) ∧ W = W' := by
  obtain ⟨K, svS, mv, xs, Ku, svu, mvu, xu, h1, _⟩ := h
  exact mark_any h1.mem
theorem Pair.value {W : World} {B lo sb su k : Nat} {l m : List Bd} (h : Pair W B lo sb l su m k) {σ : Int → Tm} (hσ : Sol l σ) {t : Tm} {st : Value} (hin : Tm.inn W W.heap.size t st) (hsz : t.size ≤ 1000000) {V : List Int} (hV : inV V l) (hVl : V.length ≤ 300) :
    Calls Try.prog 41 #[.pointer (some ⟨sb, 0, none⟩), .agg #[.int .i64 t.kind, .string t.name, .int .i64 t.n, st]] W fun e W' => AppPostP l σ t W e W' := by
  obtain ⟨K, svS, mv, xs, Ku, svu, mvu, xu, h1, _⟩ := h
  exact value_any h1 hσ hin hsz hV hVl

/-! ### what the law compares -/
theorem turn_pure {a b : Tm} {l m : List Bd} {q1 q2 : Bool} (h1 : (q1 = true ∧ MguOf [] a b l ∧ ∃ bs, l = [] ++ bs) ∨ (q1 = false ∧ NoMgu [] a b ∧ l = [])) (h2 : (q2 = true ∧ MguOf [] b a m ∧ ∃ bs, m = [] ++ bs) ∨ (q2 = false ∧ NoMgu [] b a ∧ m = [])) :
    q2 = q1 ∧ Alike l m ∧ RightL l ∧ RightL m ∧ (q1 = false → l = []) ∧ (q1 = true → ∀ θ, Solves θ l → a.bnd θ = b.bnd θ) := by
  have hnil : RightL [] := ⟨fun i hi => absurd hi (Nat.not_lt_zero _), fun _ => 0, fun i hi => absurd hi (Nat.not_lt_zero _)⟩
  rcases h1 with ⟨rfl, h1, _⟩ | ⟨rfl, h1, rfl⟩
  · rcases h2 with ⟨rfl, h2, _⟩ | ⟨rfl, h2, rfl⟩
    · exact ⟨rfl, h1.turned h2 (Alike.refl _), h1.right, h2.right, (fun h => by cases h), fun _ θ hθ => ((h1.iff θ).1 hθ).2⟩
    · obtain ⟨σ, hσ⟩ := sol_of h1.right
      have := (h1.iff σ).1 (hσ.solves h1.right.1)
      exact absurd this.2.symm (h2 σ this.1)
  · rcases h2 with ⟨rfl, h2, _⟩ | ⟨rfl, h2, rfl⟩
    · obtain ⟨σ, hσ⟩ := sol_of h2.right
      have := (h2.iff σ).1 (hσ.solves h2.right.1)
      exact absurd this.2.symm (h1 σ this.1)
    · exact ⟨rfl, Alike.refl _, hnil, hnil, (fun _ => rfl), (fun h => by cases h)⟩
theorem again_pure {a b : Tm} {l l2 : List Bd} {q1 q3 : Bool} (h1 : (q1 = true ∧ MguOf [] a b l ∧ ∃ bs, l = [] ++ bs) ∨ (q1 = false ∧ NoMgu [] a b ∧ l = [])) (h3 : (q3 = true ∧ MguOf l a b l2 ∧ ∃ bs, l2 = l ++ bs) ∨ (q3 = false ∧ NoMgu l a b ∧ l2 = l)) : q3 = q1 ∧ l2 = l := by
  rcases h1 with ⟨rfl, h1, _⟩ | ⟨rfl, h1, rfl⟩
  · rcases h3 with ⟨rfl, h3, bs, rfl⟩ | ⟨rfl, h3, rfl⟩
    · have := again_nil h3 h1.right fun θ hθ => ((h1.iff θ).1 hθ).2
      subst this
      exact ⟨rfl, by simp⟩
    · obtain ⟨σ, hσ⟩ := sol_of h1.right
      have h4 := hσ.solves h1.right.1
      exact absurd ((h1.iff σ).1 h4).2 (h3 σ h4)
  · rcases h3 with ⟨rfl, h3, _⟩ | ⟨rfl, h3, rfl⟩
    · obtain ⟨σ, hσ⟩ := sol_of h3.right
      have := (h3.iff σ).1 (hσ.solves h3.right.1)
      exact absurd this.2 (h1 σ this.1)
    · exact ⟨rfl, rfl⟩
/-- What both stores tell of a term is of one kind. -/
theorem value_pure {l m : List Bd} {σ τ : Int → Tm} (he : Alike l m) (hl : RightL l) (hm : RightL m) (hσ : Sol l σ) (hτ : Sol m τ) {t X Y : Tm} {E F : Int} (ht : t.right = true) (h : AppSpec l σ t X E) (g : AppSpec m τ t Y F) : E = F ∧ (E = 0 → X = t.bnd σ ∧ Y = t.bnd τ ∧ X.right = true ∧ Y.right = true) := by
  have hf : ∀ x ∈ [t], x.fair = true := fun x hx => by simp only [List.mem_singleton] at hx; rw [hx]; exact right_fair ht
  have k1 := (he.names hl hm hσ hτ hf).2 t (by simp)
  have k2 := (he.symm.names hm hl hτ hσ hf).2 t (by simp)
  rcases h with ⟨h, _⟩ | ⟨_, ⟨h, h1, h2⟩ | ⟨h, h1, h2⟩⟩
  · exact absurd ⟨hl, ht⟩ h
  · rcases g with ⟨g, _⟩ | ⟨_, ⟨g, g1, g2⟩ | ⟨g, g1, g2⟩⟩
    · exact absurd ⟨hm, ht⟩ g
    · exact ⟨by rw [h2, g2], fun e => by omega⟩
    · rw [k2 g] at h; cases h
  · rcases g with ⟨g, _⟩ | ⟨_, ⟨g, g1, g2⟩ | ⟨g, g1, g2⟩⟩
    · exact absurd ⟨hm, ht⟩ g
    · rw [k1 h] at g; cases g
    · exact ⟨by rw [h2, g2], fun _ => ⟨h1, g1, by rw [h1]; exact h, by rw [g1]; exact g⟩⟩

/-! ### two rows that are gathered -/
def ok2 (lo : Nat) (W : World) (v u : Value) (b : Nat) : Prop := lo ≤ b ∧ b < W.heap.size ∧ v.ownBlock ≠ some b ∧ u.ownBlock ≠ some b
structure R2 (lo : Nat) (W : World) (v : Value) (l : List Tm) (xs : List Value) (u : Value) (m : List Tm) (ys : List Value) : Prop where
  o1 : W.ownsRow lo 27 4 v l.length xs
  o2 : W.ownsRow lo 27 4 u m.length ys
  c1 : Tm.cellsP W (ok2 lo W v u) l xs
  c2 : Tm.cellsP W (ok2 lo W v u) m ys
  ne : ∀ b, v.ownBlock = some b → u.ownBlock ≠ some b
theorem ok2_swap {lo : Nat} {W : World} {v u : Value} {b : Nat} (h : ok2 lo W v u b) : ok2 lo W u v b := ⟨h.1, h.2.1, h.2.2.2, h.2.2.1⟩
theorem R2.swap {lo : Nat} {W : World} {v u : Value} {l m : List Tm} {xs ys : List Value} (h : R2 lo W v l xs u m ys) : R2 lo W u m ys v l xs :=
  ⟨h.o2, h.o1, Tm.cellsP_same (fun _ => ok2_swap) (fun _ _ _ _ hc => hc) _ _ h.c2, Tm.cellsP_same (fun _ => ok2_swap) (fun _ _ _ _ hc => hc) _ _ h.c1, fun b e f => h.ne b f e⟩
theorem R2.start (lo : Nat) (W : World) : R2 lo W (.slice none 0 0) [] [] (.slice none 0 0) [] [] := ⟨World.ownsRow_nil _ _ _ _, World.ownsRow_nil _ _ _ _, by simp [Tm.cellsP], by simp [Tm.cellsP], fun b e => by cases e⟩
theorem ok2_next {lo : Nat} {W W' : World} {v u : Value} (hb : Below W.heap.size W W') {t : Tm} {sv : Value} (h : Tm.innP W (ok2 lo W v u) t sv) : Tm.innP W' (ok2 lo W' v u) t sv :=
  Tm.innP_same (fun _b g => ⟨g.1, Nat.lt_of_lt_of_le g.2.1 hb.size, g.2.2⟩) (fun b o _x g hc => (hb.cell (p := ⟨b, o, none⟩) g.2.1).trans hc) _ _ h
theorem R2.next {lo : Nat} {W W' : World} {v u : Value} {l m : List Tm} {xs ys : List Value} (h : R2 lo W v l xs u m ys) (hb : Below W.heap.size W W') : R2 lo W' v l xs u m ys :=
  ⟨ownsRow_below h.o1 hb, ownsRow_below h.o2 hb, Tm.cellsP_same (fun _b g => ⟨g.1, Nat.lt_of_lt_of_le g.2.1 hb.size, g.2.2⟩) (fun b o _x g hc => (hb.cell (p := ⟨b, o, none⟩) g.2.1).trans hc) _ _ h.c1,
    Tm.cellsP_same (fun _b g => ⟨g.1, Nat.lt_of_lt_of_le g.2.1 hb.size, g.2.2⟩) (fun b o _x g hc => (hb.cell (p := ⟨b, o, none⟩) g.2.1).trans hc) _ _ h.c2, h.ne⟩
/-- What is made anew lies in neither row. -/
theorem R2.fresh {lo : Nat} {W W' : World} {v u : Value} {l m : List Tm} {xs ys : List Value} (h : R2 lo W v l xs u m ys) (hlo : lo ≤ W.heap.size) {t : Tm} {sv : Value} (hin : Tm.innP W' (fun b => W.heap.size ≤ b ∧ b < W'.heap.size) t sv) : Tm.innP W' (ok2 lo W' v u) t sv :=
  Tm.innP_same (fun b g => ⟨by omega, g.2, fun e => by have := (h.o1.lt b e).2; omega, fun e => by have := (h.o2.lt b e).2; omega⟩) (fun _ _ _ _ hc => hc) _ _ hin
theorem R2.app {lo : Nat} {W W3 : World} {v v' u : Value} {l m : List Tm} {xs ys : List Value} {tmp : Obj} {t : Tm} {sv : Value} (h : R2 lo W v l xs u m ys) (ht : Tm.innP W (ok2 lo W v u) t sv)
    (hown : W3.ownsRow lo 27 4 v' (l.length + 1) (xs ++ [.int .i64 t.kind, .string t.name, .int .i64 t.n, sv])) (hgrow : (W.alloc tmp).grownBy W3 v.ownBlock)
    (hsep : v'.ownBlock = v.ownBlock ∨ ∀ b, v'.ownBlock = some b → (W.alloc tmp).heap.size ≤ b) :
    R2 lo W3 v' (l ++ [t]) (xs ++ [.int .i64 t.kind, .string t.name, .int .i64 t.n, sv]) u m ys ∧ ∀ x sx, Tm.innP W (ok2 lo W v u) x sx → Tm.innP W3 (ok2 lo W3 v' u) x sx := by
  have hs3 : W.heap.size + 1 ≤ W3.heap.size := by simpa using hgrow.size
  have cell3 : ∀ b o x, ok2 lo W v u b → W.cell? ⟨b, o, none⟩ = some x → W3.cell? ⟨b, o, none⟩ = some x := fun b o x g hc =>
    hgrow.cell (a := ⟨b, o, none⟩) (by rw [World.cell?_alloc_lt _ _ _ (by exact g.2.1)]; exact hc) (fun e => g.2.2.1 e.symm)
  have okk : ∀ b, ok2 lo W v u b → ok2 lo W3 v' u b := fun b g => ⟨g.1, by have := g.2.1; omega, by
    rcases hsep with e | e
    · rw [e]; exact g.2.2.1
    · intro f
      have := e b f
      have := g.2.1
      simp at *
      omega, g.2.2.2⟩
  refine ⟨⟨by simpa using hown, ownsRow_block h.o2 (fun b e => ?_), Tm.cellsP_snoc (Tm.innP_same okk cell3 _ _ ht) _ _ (Tm.cellsP_same okk cell3 _ _ h.c1), Tm.cellsP_same okk cell3 _ _ h.c2, fun b e f => ?_⟩, fun x sx hx => Tm.innP_same okk cell3 _ _ hx⟩
  · have hlt := (h.o2.lt b e).2
    exact (hgrow.block b (by simp; omega) (fun f => h.ne b f.symm e)).trans (Below.heap_alloc _ _ _ hlt)
  · rcases hsep with g | g
    · rw [g] at e; exact h.ne b e f
    · have h1 := g b e
      have h2 := (h.o2.lt b f).2
      simp at h1
      omega
/-- A row that is whole, as a slice. -/
theorem R2.slice {lo : Nat} {W : World} {v u : Value} {l m : List Tm} {xs ys : List Value} (h : R2 lo W v l xs u m ys) (hl : l.length ≤ 1000000) : Tm.sliceIn W W.heap.size l v :=
  Tm.sliceIn_of_P (ok := fun b => b < W.heap.size) (fun b hb => hb) (Tm.sliceP_of_owns h.o1 h.c1 (by omega) (fun b hb => hb.2.1) (fun b e => (h.o1.lt b e).2))
end Go.Proofs.Ytgnbjhiafjpokaa
