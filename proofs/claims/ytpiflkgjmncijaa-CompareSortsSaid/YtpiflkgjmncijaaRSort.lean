/-
  Rows of terms that a call gathers of terms that lay before: append of any such row.
  The document's Sort of terms that are fair.
-/
import Derived.Test.YtpiflkgjmncijaaRen
import Derived.Test.YtpiflkgjmncijaaWith
import Derived.Test.YtpiflkgjmncijaaRCmp
import Derived.Test.YtpiflkgjmncijaaPlaces
import Derived.Deep.QuietTactic
import Derived.BigQuiet
namespace Go.Proofs.Ytpiflkgjmncijaa
open Go.RowKit

/-- The cells of a term in a row, and their source. -/
theorem cellsP_length {w : World} {ok : Nat → Prop} : ∀ (l : List Tm) (xs : List Value), Tm.cellsP w ok l xs → xs.length = l.length * 4
  | [], xs, h => by simp only [Tm.cellsP] at h; subst h; rfl
  | t :: r, xs, ⟨sv, xs', h1, _, h3⟩ => by
    have := cellsP_length r xs' h3
    subst h1
    simp only [List.length_cons, this]
    omega
theorem cellsP_one {w : World} {ok : Nat → Prop} : ∀ (l : List Tm) (xs : List Value), Tm.cellsP w ok l xs → ∀ u ∈ xs, u.oneCell' = true
  | [], xs, h, u, hu => by simp only [Tm.cellsP] at h; subst h; cases hu
  | t :: r, xs, ⟨sv, xs', h1, h2, h3⟩, u, hu => by
    subst h1
    obtain ⟨_, g, c, rfl, _⟩ := Tm.innP_iff.1 h2
    simp only [List.mem_cons] at hu
    rcases hu with rfl | rfl | rfl | rfl | hu
    · rfl
    · rfl
    · rfl
    · rfl
    · exact cellsP_one r xs' h3 u hu
theorem cellsP_app {w : World} {ok : Nat → Prop} : ∀ (a b : List Tm) (xs ys : List Value), Tm.cellsP w ok a xs → Tm.cellsP w ok b ys → Tm.cellsP w ok (a ++ b) (xs ++ ys)
  | [], b, xs, ys, ha, hb => by simp only [Tm.cellsP] at ha; subst ha; exact hb
  | t :: r, b, xs, ys, ⟨sv, xs', h1, h2, h3⟩, hb => ⟨sv, xs' ++ ys, by rw [h1]; rfl, h2, cellsP_app r b xs' ys h3 hb⟩
theorem cellsP_take {w : World} {ok : Nat → Prop} : ∀ (l : List Tm) (xs : List Value) (p : Nat), Tm.cellsP w ok l xs → Tm.cellsP w ok (l.take p) (xs.take (p * 4)) ∧ Tm.cellsP w ok (l.drop p) (xs.drop (p * 4))
  | l, xs, 0, h => by simpa [Tm.cellsP] using h
  | [], xs, p + 1, h => by simp only [Tm.cellsP] at h; subst h; simp [Tm.cellsP]
  | t :: r, xs, p + 1, ⟨sv, xs', h1, h2, h3⟩ => by
    obtain ⟨i1, i2⟩ := cellsP_take r xs' p h3
    subst h1
    rw [show (p + 1) * 4 = p * 4 + 1 + 1 + 1 + 1 by omega]
    exact ⟨⟨sv, xs'.take (p * 4), rfl, h2, i1⟩, i2⟩
/-- A row of terms that lie, but for the row itself, below n₀. -/
def ownTms (w : World) (n₀ base : Nat) (v : Value) (l : List Tm) : Prop := ∃ xs, w.ownsRow base 24 4 v l.length xs ∧ Tm.cellsP w (fun b => b < n₀) l xs
theorem ownTms_below {W W' : World} {n₀ base : Nat} {v : Value} {l : List Tm} (h : ownTms W n₀ base v l) (hb : Below W.heap.size W W') (hn : n₀ ≤ W.heap.size) : ownTms W' n₀ base v l := by
  obtain ⟨xs, h1, h2⟩ := h
  exact ⟨xs, ownsRow_below h1 hb, Tm.cellsP_same (fun _ h => h) (fun b o v hlt hc => (hb.cell (p := ⟨b, o, none⟩) (by show b < _; omega)).trans hc) _ _ h2⟩
theorem ownTms_base {w : World} {n₀ base base' : Nat} {v : Value} {l : List Tm} (hb : base' ≤ base) (h : ownTms w n₀ base v l) : ownTms w n₀ base' v l := by
  obtain ⟨xs, h1, h2⟩ := h
  refine ⟨xs, ⟨h1.1, ?_⟩, h2⟩
  rcases h1.2 with h3 | ⟨b, cap, cur, h3, h4, h5⟩
  · exact .inl h3
  · exact .inr ⟨b, cap, cur, h3, Nat.le_trans hb h4, h5⟩
theorem ownTms_none (w : World) (n₀ base : Nat) : ownTms w n₀ base (.slice none 0 0) [] := ⟨[], World.ownsRow_nil _ _ _ _, by simp [Tm.cellsP]⟩
theorem ownTms_made {X : World} {n₀ base : Nat} (hb : base ≤ X.heap.size) : ownTms (X.alloc (.cells #[] 24)) n₀ base (.slice (some ⟨X.heap.size, 0, none⟩) 0 0) [] :=
  ⟨[], World.ownsRow_lit X #[] 0 hb (by decide) rfl, by simp [Tm.cellsP]⟩
/-- Where the cells of a row of terms lie that is appended. -/
def srcTms (w : World) (n₀ : Nat) (l : List Tm) (g : Option Addr) : Prop := ∃ xs, Tm.cellsP w (fun b => b < n₀) l xs ∧ (l = [] ∨ ∃ a, g = some a ∧ ∀ j u, xs[j]? = some u → w.cell? (a.add j) = some u)
theorem srcTms_below {W W' : World} {n₀ : Nat} {g : Option Addr} {l : List Tm} (h : srcTms W n₀ l g) (hb : Below W.heap.size W W') (hn : n₀ ≤ W.heap.size) : srcTms W' n₀ l g := by
  obtain ⟨xs, h1, h2⟩ := h
  refine ⟨xs, Tm.cellsP_same (fun _ h => h) (fun b o v hlt hc => (hb.cell (p := ⟨b, o, none⟩) (by show b < _; omega)).trans hc) _ _ h1, ?_⟩
  rcases h2 with h2 | ⟨a, rfl, hc⟩
  · exact .inl h2
  · exact .inr ⟨a, rfl, fun j u hj => (hb.cell (World.block_lt_of_cell? _ _ (hc j u hj))).trans (hc j u hj)⟩

theorem run_append_tms {w : World} (n₀ base : Nat) (ty : TypeId) (v : Value) (l : List Tm) (hown : ownTms w n₀ base v l) (m : List Tm) (g : Option Addr) (c : Nat) (hsrc : srcTms w n₀ m g)
    (hmax : l.length + m.length ≤ 1000000000) (hbase : base ≤ w.heap.size) (hn : n₀ ≤ base) :
    ∃ v' w', (Builtin.append_ #[22, 22] ty #[v, .slice g m.length c]).run Try.prog w = .ok v' w' ∧ ownTms w' n₀ base v' (l ++ m) ∧ w.grownBy w' v.ownBlock ∧ (∀ j, v.ownBlock = some j → base ≤ j) ∧ (v'.ownBlock = v.ownBlock ∨ v'.ownBlock = some w.heap.size) := by
  obtain ⟨i0, hi, hz0, hz1, hz2⟩ := info_parts Try.infoTm
  obtain ⟨xs, h1, h2⟩ := hown
  obtain ⟨ys, h3, h4⟩ := hsrc
  obtain ⟨v', w', hr, ho, hg, hs⟩ := run_append_any (P := Try.prog) (w := w) base 22 ty 24 i0 _ 4 56 Try.underlying22 hi hz0 hz1 hz2 rfl (by decide) v l.length xs h1 g m.length c ys (cellsP_length _ _ h3) (by
    rcases h4 with h4 | ⟨a, ha, hc⟩
    · exact .inl (by rw [h4]; rfl)
    · exact .inr ⟨a, ha, hc⟩) (cellsP_one _ _ h3) (by unfold maxLen; omega) (by omega) hbase
  have hlow : ∀ j, v.ownBlock = some j → base ≤ j := fun j e => (World.ownsRow.lt h1 j e).1
  have hbw : Below n₀ w w' := (Below.refl _ _).grown hg (by omega) (fun k e => by have := hlow k e; omega)
  refine ⟨v', w', hr, ⟨xs ++ ys, by rw [List.length_append]; exact ho, ?_⟩, hg, hlow, hs⟩
  exact Tm.cellsP_same (fun _ h => h) (fun b o v hlt hc => (hbw.cell (p := ⟨b, o, none⟩) hlt).trans hc) _ _ (cellsP_app _ _ _ _ h2 h3)

theorem wp_append_tms {w : World} {o : Oper} {a : Act} {K : Act → World → Prop} {Q : Exit → Act → World → Prop} (s x : Operand)
    (ho : o.op = .call { callee := .builtin .append, args := #[s, x], argTypes := #[22, 22] })
    (n₀ base : Nat) (v : Value) (l : List Tm) (hs : a.eval s = v) (hown : ownTms w n₀ base v l) (m : List Tm) (g : Option Addr) (c : Nat) (hx : a.eval x = .slice g m.length c) (hsrc : srcTms w n₀ m g)
    (hmax : l.length + m.length ≤ 1000000000) (hbase : base ≤ w.heap.size) (hn : n₀ ≤ base)
    (h : ∀ v' w', ownTms w' n₀ base v' (l ++ m) → w.grownBy w' v.ownBlock → (∀ j, v.ownBlock = some j → base ≤ j) → (v'.ownBlock = v.ownBlock ∨ v'.ownBlock = some w.heap.size) → K (a.put o.dst v') w') : o.wp Try.prog a w K Q := by
  obtain ⟨v', w', hr, h2, h3, h4, h5⟩ := run_append_tms (w := w) n₀ base o.type v l hown m g c hsrc hmax hbase hn
  unfold Oper.wp execOp
  simp only [ho, resolve, invoke, builtin, Sem.run_bind, Sem.run_pure, Result.andThen_ok, List.map_toArray, List.map_cons, List.map_nil, hs, hx, hr]
  exact h v' w' h2 h3 h4 h5
theorem wpList_append_tms {w : World} {ops : Array Oper} {rest : List Oper} {o : Oper} {a : Act} {Q : Exit → Act → World → Prop} (hgd : o.guard = none) (s x : Operand)
    (ho : o.op = .call { callee := .builtin .append, args := #[s, x], argTypes := #[22, 22] })
    (n₀ base : Nat) (v : Value) (l : List Tm) (hs : a.eval s = v) (hown : ownTms w n₀ base v l) (m : List Tm) (g : Option Addr) (c : Nat) (hx : a.eval x = .slice g m.length c) (hsrc : srcTms w n₀ m g)
    (hmax : l.length + m.length ≤ 1000000000) (hbase : base ≤ w.heap.size) (hn : n₀ ≤ base)
    (h : ∀ v' w', ownTms w' n₀ base v' (l ++ m) → w.grownBy w' v.ownBlock → (∀ j, v.ownBlock = some j → base ≤ j) → (v'.ownBlock = v.ownBlock ∨ v'.ownBlock = some w.heap.size) → wpList Try.prog ops Q rest (a.put o.dst v') w') : wpList Try.prog ops Q (o :: rest) a w :=
  wpList_plain hgd fun _ hK => wp_append_tms s x ho n₀ base v l hs hown m g c hx hsrc hmax hbase hn fun v' w' h2 h3 h4 h5 => hK _ _ (h v' w' h2 h3 h4 h5)
theorem ownTms_slice {w : World} {n₀ base : Nat} {v : Value} {l : List Tm} (h : ownTms w n₀ base v l) (hn : n₀ ≤ w.heap.size) (hl : l.length ≤ 1000000) : Tm.sliceIn w w.heap.size l v := by
  obtain ⟨xs, h1, h2⟩ := h
  exact Tm.sliceIn_of_P (ok := fun b => b < w.heap.size) (fun b hb => hb) (Tm.sliceP_of_owns h1 h2 (by omega) (fun b hb => Nat.lt_of_lt_of_le hb hn) (fun b e => (World.ownsRow.lt h1 b e).2))
/-- A row that isn't empty: its block; its parts as sources. -/
theorem ownTms_parts {w : World} {n₀ base : Nat} {v : Value} {l : List Tm} (h : ownTms w n₀ base v l) (h0 : 0 < l.length) :
    ∃ b cap, v = .slice (some ⟨b, 0, none⟩) l.length cap ∧ l.length ≤ cap ∧ base ≤ b ∧ b < w.heap.size ∧ (∀ p, srcTms w n₀ (l.take p) (some ⟨b, 0, none⟩)) ∧ ∀ p g, (p < l.length → g = some ⟨b, p * 4, none⟩) → srcTms w n₀ (l.drop p) g := by
  obtain ⟨xs, h1, h2⟩ := h
  rcases id h1.2 with ⟨_, hx⟩ | ⟨b, cap, cur, rfl, hbase, hcur, hcap, _⟩
  · omega
  · have hc := World.ownsRow.cells h1 (g := b) rfl
    refine ⟨b, cap, rfl, hcap, hbase, (Array.getElem?_eq_some_iff.1 hcur).1, fun p => ?_, fun p g hg => ?_⟩
    · refine ⟨xs.take (p * 4), (cellsP_take _ _ p h2).1, .inr ⟨_, rfl, fun j u hj => hc j u ?_⟩⟩
      rw [List.getElem?_take] at hj
      split at hj
      · exact hj
      · cases hj
    · refine ⟨xs.drop (p * 4), (cellsP_take _ _ p h2).2, ?_⟩
      by_cases hp : p < l.length
      · refine .inr ⟨_, hg hp, fun j u hj => ?_⟩
        rw [List.getElem?_drop] at hj
        have := hc _ u hj
        simpa [Addr.add_lit] using this
      · exact .inl (List.drop_of_length_le (by omega))
theorem rowP_of_in {w : World} {B b : Nat} {l : List Tm} (hl : ∀ t ∈ l, ∀ sv, Tm.inn w B t sv → Tm.innP w (fun b => b < B) t sv) : ∀ {off : Nat}, Tm.rowIn w B b off l → Tm.rowP w (fun b => b < B) b off l := by
  induction l with
  | nil => intro off _; simp [Tm.rowP]
  | cons t r ih =>
    intro off h
    simp only [Tm.rowIn] at h
    simp only [Tm.rowP]
    obtain ⟨⟨sv, h0, h1, h2, h3, h4⟩, h5⟩ := h
    exact ⟨⟨sv, h0, h1, h2, h3, hl t (by simp) sv h4⟩, ih (fun u hu => hl u (by simp [hu])) h5⟩
theorem innP_of_inn {w : World} {B : Nat} : ∀ (t : Tm) (sv : Value), Tm.inn w B t sv → Tm.innP w (fun b => b < B) t sv := by
  refine Tm.ind fun k s n l ih sv h => ?_
  rw [Tm.inn_mk] at h
  rw [Tm.innP_mk]
  obtain ⟨h1, g, cap, rfl, h2, h3, h4⟩ := h
  refine ⟨h1, g, cap, rfl, h2, h3, ?_⟩
  rcases h4 with h4 | ⟨b, off, rfl, hb, hr⟩
  · exact .inl h4
  · exact .inr ⟨b, off, rfl, hb, rowP_of_in ih hr⟩
/-- One term as a source. -/
theorem srcTms_one {w X : World} {t : Tm} {g : Option Addr} {m c : Nat} {T : TypeId} (h : Tm.inn w w.heap.size t (.slice g m c)) (hb : Below w.heap.size w X) : srcTms (X.alloc (.cells #[.int .i64 t.kind, .string t.name, .int .i64 t.n, .slice g m c] T)) w.heap.size [t] (some ⟨X.heap.size, 0, none⟩) := by
  have hb2 := hb.alloc hb.size (.cells #[.int .i64 t.kind, .string t.name, .int .i64 t.n, .slice g m c] T)
  exact ⟨[.int .i64 t.kind, .string t.name, .int .i64 t.n, .slice g m c], ⟨_, [], rfl, innP_of_inn _ _ (Tm.inn_below h hb2 (Nat.le_refl _)), by simp [Tm.cellsP]⟩, .inr ⟨_, rfl, news4⟩⟩
theorem srcTms_one_at {w X : World} {t : Tm} {g : Option Addr} {m c : Nat} {T : TypeId} {z : Nat} (hz : X.heap.size = z) (h : Tm.inn w w.heap.size t (.slice g m c)) (hb : Below w.heap.size w X) : srcTms (X.alloc (.cells #[.int .i64 t.kind, .string t.name, .int .i64 t.n, .slice g m c] T)) w.heap.size [t] (some ⟨z, 0, none⟩) := by
  subst hz
  exact srcTms_one h hb


set_option maxRecDepth 100000 in
set_option maxHeartbeats 8000000 in
theorem rsort_any (l : List Tm) (hf : ∀ t ∈ l, t.fair = true) (hl : l.length ≤ 1000) (w : World) (sv : Value) (hsl : Tm.sliceIn w w.heap.size l sv) :
    Calls Try.prog 20 #[sv] w fun e w' => ∃ g c, (e = .returned (.slice g (sortTm l).length c) ∧ Tm.sliceIn w' w'.heap.size (sortTm l) (.slice g (sortTm l).length c)) ∧ Below w.heap.size w w' := by
  have hsl0 := hsl
  obtain ⟨g, cap, rfl, hcap, hlen, _⟩ := hsl0
  have HSL := Lib.hid hsl
  have HF := Lib.hid hf
  clear hsl hf
  go_enter Try.func20, Try.ntmps20
  go_wp2_with fail
  go_loopw [3, 4] (fun v i wr => ∃ k : Nat, k ≤ l.length ∧ i = .int .i64 k ∧ (k = 0 → v = .slice none 0 0) ∧ Hid (ownTms wr w.heap.size w.heap.size v (sortTm (l.take k))) ∧ Hid (Below w.heap.size w wr)) (fun _ i _ => l.length - (intOf i).toNat)
  case atStart => exact ⟨0, Nat.zero_le _, rfl, fun _ => rfl, ownTms_none _ _ _, Below.refl _ _⟩
  case round =>
    obtain ⟨k, hk, rfl, hk0, hown, hb⟩ := hrel
    have hbs := hb.out.size
    by_cases hlt : k < l.length
    · have hsk := sortTm_take hlt
      have hfair := fun x (hx : x ∈ sortTm (l.take k)) => HF.out x (List.mem_of_mem_take ((sortTm_mem _ _).1 hx))
      have hlen2 := sortTm_length (l.take k)
      rw [List.length_take] at hlen2
      have hpos : k ≠ 0 → 0 < (sortTm (l.take k)).length := fun hk => by
        obtain ⟨j, rfl⟩ : ∃ j, k = j + 1 := ⟨k - 1, by omega⟩
        rw [sortTm_take (by omega)]
        exact insT_ne _ _
      obtain ⟨acc, hacc⟩ : ∃ acc, sortTm (l.take k) = acc := ⟨_, rfl⟩
      rw [hacc] at hsk hown hfair hlen2 hpos
      have HSK := Lib.hid hsk
      have HFAIR := Lib.hid hfair
      have HACC := Lib.hid hacc
      clear hsk hfair hacc
      obtain ⟨b, off, sv, rfl, hat⟩ := TmAt.of HSL.out k hlt
      obtain ⟨_, ga, capa, rfl, _, _, _⟩ := Tm.inn_iff.1 hat.inn
      have HAT := Lib.hid hat
      have hft := HF.out _ (List.getElem_mem hlt)
      clear hat
      by_cases h0 : acc = []
      · have hk00 : k = 0 := by
          by_cases e : k = 0
          · exact e
          · have := hpos e; rw [h0] at this; simp at this
        obtain rfl := hk0 hk00
        subst h0
        have HK00 := Lib.hid hk00
        clear hk00 hk0 hpos
        go_wp2_with fail
        refine wp_loop_rounds 1 ?_
        rw [rounds_succ]
        go_wp2_with fail
        go_quiet (fail)
        have hd1 := below_drewN (Below.refl wr.heap.size wr) nq
        have hz1 : (wr.drewN nq).heap.size = wr.heap.size := rfl
        revert hd1 hz1
        generalize wr.drewN nq = W1
        clear nq
        intro hd1 hz1
        go_wp2_with fail
        go_quiet (fail)
        have hd2 := hd1.trans ((below_drewN (Below.refl W1.heap.size W1) nq).mono (by omega))
        have hz2 : (W1.drewN nq).heap.size = wr.heap.size := hz1
        revert hd2 hz2
        generalize W1.drewN nq = W2
        clear nq hd1 hz1
        intro hd2 hz2
        have HBW := Lib.hid (hb.out.trans (hd2.mono hbs))
        have hw2 : w.heap.size ≤ W2.heap.size := by omega
        have hw2b : wr.heap.size ≤ W2.heap.size := by omega
        clear hd2 hz2 hb
        have HBA := Lib.hid (HBW.out.alloc (by omega) (Obj.cells #[] 24))
        obtain ⟨e0, e1, e2, e3, _⟩ := HAT.out.next HBA.out
        go_wp2_with (first
          | (at_builtin; refine wpList_append_tms rfl _ _ rfl w.heap.size w.heap.size (.slice (some ⟨W2.heap.size, 0, none⟩) 0 0) [] rfl (ownTms_below (ownTms_made hw2) ((Below.refl _ _).alloc (Nat.le_refl _) _) HBA.out.size) [l[k]] _ 1 rfl (srcTms_one_at (by simp) HAT.out.inn HBA.out) (by simp) (by simp; omega) (Nat.le_refl _) ?_
             intro v2 w2 hown2 hgrow2 hlow2 _
             have hB2 : Below w.heap.size w w2 := (HBA.out.alloc HBA.out.size _).grown hgrow2 (by simp; omega) (fun j e => hlow2 j e)
             have HOWN2 := Lib.hid hown2
             have HGROW2 := Lib.hid hgrow2
             have HB2 := Lib.hid hB2
             have hz2 := hB2.size
             clear hown2 hgrow2 hlow2 hB2 e0 e1 e2 e3)
          | (at_builtin; refine wpList_append_tms rfl _ _ rfl w.heap.size w.heap.size v2 [l[k]] rfl HOWN2.out ([]) _ _ rfl ?_ (by simp) (by omega) (Nat.le_refl _) ?_
             · exact ⟨[], by simp [Tm.cellsP], .inl rfl⟩
             intro v3 w3 hown3 hgrow3 hlow3 _
             have hB3 : Below w.heap.size w w3 := HB2.out.grown hgrow3 hz2 (fun j e => hlow3 j e)
             have HOWN3 := Lib.hid hown3
             have HB3 := Lib.hid hB3
             clear hown3 hgrow3 hlow3 hB3))
        have hs := HSK.out
        refine ⟨⟨k + 1, by omega, by go_num, fun e => absurd e (by omega), ?_, HB3⟩, ?_⟩
        · rw [hs]
          exact HOWN3.out
        · simp [intOf]; omega
      · have hn0 : 0 < acc.length := List.length_pos_iff.2 h0
        obtain ⟨bo, capo, rfl, hcapo, hbo1, hbo2, hsrcT, hsrcD⟩ := ownTms_parts hown.out hn0
        have hacc := Lib.hid (ownTms_slice hown.out hbs (by omega))
        have HSRCT := Lib.hid hsrcT
        have HSRCD := Lib.hid hsrcD
        clear hsrcT hsrcD hpos hk0 h0
        obtain ⟨n, hn⟩ : ∃ n, n = acc.length := ⟨_, rfl⟩
        have HN := Lib.hid hn
        rw [← hn] at hn0 hcapo hlen2 hown ⊢
        have hlen3 : n ≤ 1000 := by omega
        clear hn
        go_wp2_with fail
        obtain ⟨w5, hw5⟩ : ∃ w5 : World, w5 = wr := ⟨_, rfl⟩
        rw [← hw5] at hacc HSRCT HSRCD hb hbs hbo2 hown ⊢
        clear hw5
        go_loopw [5] (fun i wi => ∃ p : Nat, p ≤ n ∧ i = .int .i64 p ∧ Hid (∀ j (h : j < acc.length), j < p → acc[j].cmp l[k] < 0) ∧ Hid (Below w5.heap.size w5 wi)) (fun i _ => n - (intOf i).toNat)
        case atStart => exact ⟨0, Nat.zero_le _, rfl, fun j h hj => absurd hj (by omega), Below.refl _ _⟩
        case round =>
          obtain ⟨p, hp, rfl, hlow, hbi⟩ := hrel
          have hbis := hbi.out.size
          have hzi : w.heap.size ≤ wr.heap.size := by omega
          have HBI := Lib.hid (hb.out.trans (hbi.out.mono hbs))
          have hatl := Lib.hid (HAT.out.next HBI.out)
          obtain ⟨e0, e1, e2, e3, _⟩ := hatl.out
          by_cases hpn : p < n
          · have hpa : p < acc.length := by rw [← HN.out]; exact hpn
            obtain ⟨b2, o2, sv2, ea, hat2⟩ := TmAt.of hacc.out p hpa
            cases ea
            rw [Nat.zero_add] at hat2
            have hat3 := Lib.hid (hat2.next hbi.out)
            clear hat2
            obtain ⟨f0, f1, f2, f3, hin2⟩ := hat3.out
            have hc := Lib.hid (rcmp_any acc[p] l[k] wr.drew wr.heap.size sv2 _ (HFAIR.out _ (List.getElem_mem hpa)) hft (by simp) (Tm.inn_below hin2 (n₀ := wr.heap.size) ((Below.refl _ _).drew) (Nat.le_refl _)) (Tm.inn_below hatl.out.inn (n₀ := wr.heap.size) ((Below.refl _ _).drew) (Nat.le_refl _)))
            clear hin2
            go_wp2_with fail
            go_still_tail 13, (by kernel_rfl)
            go_wp2_with fail
            refine hc.out.mono ?_
            rintro e w1 ⟨rfl, hb1⟩
            have HB1 := Lib.hid (hbi.out.trans ((Below.refl wr.heap.size wr).drew.trans hb1 |>.mono hbis))
            have hat4 := Lib.hid (hat3.out.next ((Below.refl wr.heap.size wr).drew.trans hb1))
            have hatm := Lib.hid (hatl.out.next ((Below.refl wr.heap.size wr).drew.trans hb1))
            clear hb1 e0 e1 e2 e3 f0 f1 f2 f3 hc hat3 hatl
            by_cases hcmp : acc[p].cmp l[k] < 0
            · have HLOW := Lib.hid (fun j (h : j < acc.length) (hj : j < p + 1) => show acc[j].cmp l[k] < 0 by
                by_cases e : j = p
                · subst e
                  exact hcmp
                · exact hlow.out j h (by omega))
              clear hlow hat4 hatm HBI hbi
              go_wp2_with fail
              go_roundw
              case rel => exact ⟨p + 1, by omega, by go_num, HLOW, HB1⟩
              case measure => simp [intOf]; omega
            · have HCMP := Lib.hid hcmp
              have hcd : decide (acc[p].cmp l[k] < 0) = false := decide_eq_false hcmp
              have hbi1 := HB1.out.size
              clear HBI hbi
              obtain ⟨f0, f1, f2, f3, hin2⟩ := hat4.out
              obtain ⟨e0, e1, e2, e3, hin3⟩ := hatm.out
              have hc := Lib.hid (rcmp_any acc[p] l[k] w1.drew w1.heap.size sv2 _ (HFAIR.out _ (List.getElem_mem hpa)) hft (by simp) (Tm.inn_below hin2 (n₀ := w1.heap.size) ((Below.refl _ _).drew) (Nat.le_refl _)) (Tm.inn_below hin3 (n₀ := w1.heap.size) ((Below.refl _ _).drew) (Nat.le_refl _)))
              clear hin2 hin3
              go_wp2_with fail
              go_still_tail 13, (by kernel_rfl)
              go_wp2_with fail
              refine hc.out.mono ?_
              rintro e w6 ⟨rfl, hb2⟩
              have HB5 := Lib.hid (HB1.out.trans ((Below.refl w1.heap.size w1).drew.trans hb2 |>.mono hbi1))
              clear hb2 e0 e1 e2 e3 f0 f1 f2 f3 hc hat4 hatm HB1
              by_cases h0 : acc[p].cmp l[k] = 0
              · have hins := Lib.hid (HSK.out.trans (insT_there acc p hpa hlow.out h0))
                have HB3 := Lib.hid (hb.out.trans (HB5.out.mono hbs))
                have HO6 := Lib.hid (ownTms_below hown.out HB5.out hbs)
                rw [h0]
                clear hcmp hcd h0 hlow hown
                go_wp2_with fail
                refine ⟨⟨k + 1, by omega, by go_num, fun e => absurd e (by omega), ?_, HB3⟩, ?_⟩
                · rw [hins.out]
                  exact HO6.out
                · simp [intOf]; omega
              · have hzd : (acc[p].cmp l[k] == 0) = false := by simpa using h0
                have HINS := Lib.hid (HSK.out.trans (insT_put acc p (Nat.le_of_lt hpa) hlow.out (fun _ => ⟨by have := HCMP.out; omega, h0⟩)))
                clear hcmp h0 hlow hown HCMP
                obtain ⟨W2, hW2⟩ : ∃ x : World, x = w6 := ⟨_, rfl⟩
                rw [← hW2] at HB5 ⊢
                clear hW2
                have hz5 := HB5.out.size
                have hz5a : w5.heap.size ≤ (W2.alloc (Obj.cells #[] 24)).heap.size := by simp; omega
                have HB5A := Lib.hid (HB5.out.alloc hz5 (Obj.cells #[] 24))
                have HTK := Lib.hid (show (acc.take p).length = p by rw [List.length_take, ← HN.out]; omega)
                have HTD := Lib.hid (show (acc.drop p).length = n - p by rw [List.length_drop, ← HN.out])
                have hpn1 : p ≤ n := by omega
                have HB := Lib.hid hb.out
                clear hb
                go_wp2_with (first
                  | (at_builtin; refine wpList_append_tms rfl _ _ rfl w.heap.size w5.heap.size (.slice (some ⟨W2.heap.size, 0, none⟩) 0 0) [] rfl (ownTms_made hz5) (acc.take p) (some ⟨bo, 0, none⟩) capo (by rw [HTK.out]; rfl) (srcTms_below (HSRCT.out p) HB5A.out hbs) (by rw [HTK.out]; simp; omega) hz5a hbs ?_
                     intro v1 x1 hown1 hgrow1 hlow1 _
                     have hB1 : Below w5.heap.size w5 x1 := HB5A.out.grown hgrow1 hz5a (fun j e => hlow1 j e)
                     obtain ⟨e0, e1, e2, e3, _⟩ := HAT.out.next (HB.out.trans (hB1.mono hbs))
                     have hz1 := hB1.size
                     have HOWN1 := Lib.hid hown1
                     have HB1 := Lib.hid hB1
                     have HBW1 := Lib.hid (HB.out.trans (hB1.mono hbs))
                     have hy1 : w.heap.size ≤ x1.heap.size := by omega
                     clear hown1 hgrow1 hlow1 hB1)
                  | (at_builtin; refine wpList_append_tms rfl _ _ rfl w.heap.size w5.heap.size v1 ([] ++ acc.take p) rfl (ownTms_below HOWN1.out ((Below.refl _ _).alloc (Nat.le_refl _) _) hy1) [l[k]] _ 1 rfl (srcTms_one_at (by simp) HAT.out.inn HBW1.out) (by rw [List.nil_append, HTK.out]; simp; omega) (by simp; omega) hbs ?_
                     intro v2 x2 hown2 hgrow2 hlow2 _
                     have hB2 : Below w5.heap.size w5 x2 := (HB1.out.alloc hz1 _).grown hgrow2 (by simp; omega) (fun j e => hlow2 j e)
                     have HOWN2 := Lib.hid hown2
                     have HB2 := Lib.hid hB2
                     have hz2 := hB2.size
                     clear hown2 hgrow2 hlow2 hB2 e0 e1 e2 e3)
                  | (at_builtin; refine wpList_append_tms rfl _ _ rfl w.heap.size w5.heap.size v2 ([] ++ acc.take p ++ [l[k]]) rfl HOWN2.out (acc.drop p) (some ⟨bo, p * 4, none⟩) (capo - p) (by rw [HTD.out]; rfl) (srcTms_below (HSRCD.out p _ (fun _ => rfl)) HB2.out hbs) (by rw [HTD.out, List.nil_append, List.length_append, HTK.out]; simp; omega) hz2 hbs ?_
                     intro v3 x3 hown3 hgrow3 hlow3 _
                     have hB3 : Below w5.heap.size w5 x3 := HB2.out.grown hgrow3 hz2 (fun j e => hlow3 j e)
                     have HOWN3 := Lib.hid hown3
                     have HB3 := Lib.hid (HB.out.trans (hB3.mono hbs))
                     clear hown3 hgrow3 hlow3 hB3))
                refine ⟨⟨k + 1, by omega, by go_num, fun e => absurd e (by omega), ?_, HB3⟩, ?_⟩
                · rw [HINS.out]
                  exact ownTms_base hbs HOWN3.out
                · simp [intOf]; omega
          · obtain rfl : p = n := by omega
            have HINS := Lib.hid (HSK.out.trans (insT_put acc p (by rw [← HN.out]; exact Nat.le_refl _) hlow.out (fun h => absurd h (by rw [← HN.out]; exact Nat.lt_irrefl _))))
            clear hlow hown hatl e0 e1 e2 e3 HBI
            go_wp2_with fail
            go_quiet (fail)
            have hd1 := below_drewN (Below.refl wr.heap.size wr) nq
            have hz1 : (wr.drewN nq).heap.size = wr.heap.size := rfl
            revert hd1 hz1
            generalize wr.drewN nq = W1
            clear nq
            intro hd1 hz1
            go_wp2_with fail
            go_quiet (fail)
            have hd2 := hd1.trans ((below_drewN (Below.refl W1.heap.size W1) nq).mono (by omega))
            revert hd2
            generalize W1.drewN nq = W3
            clear nq hd1 hz1
            intro hd2
            have HB5 := Lib.hid (hbi.out.trans (hd2.mono hbis))
            clear hd2 hbi hzi hbis
            obtain ⟨W2, hW2⟩ : ∃ x : World, x = W3 := ⟨_, rfl⟩
            rw [← hW2] at HB5 ⊢
            clear hW2
            have hz5 := HB5.out.size
            have hz5a : w5.heap.size ≤ (W2.alloc (Obj.cells #[] 24)).heap.size := by simp; omega
            have HB5A := Lib.hid (HB5.out.alloc hz5 (Obj.cells #[] 24))
            have HTK := Lib.hid (show (acc.take p).length = p by rw [List.length_take, ← HN.out]; omega)
            have HTD := Lib.hid (show (acc.drop p) = [] by apply List.drop_of_length_le; rw [← HN.out]; exact Nat.le_refl _)
            have HB := Lib.hid hb.out
            clear hb
            go_wp2_with (first
              | (at_builtin; refine wpList_append_tms rfl _ _ rfl w.heap.size w5.heap.size (.slice (some ⟨W2.heap.size, 0, none⟩) 0 0) [] rfl (ownTms_made hz5) (acc.take p) (some ⟨bo, 0, none⟩) capo (by rw [HTK.out]; rfl) (srcTms_below (HSRCT.out p) HB5A.out hbs) (by rw [HTK.out]; simp; omega) hz5a hbs ?_
                 intro v1 x1 hown1 hgrow1 hlow1 _
                 have hB1 : Below w5.heap.size w5 x1 := HB5A.out.grown hgrow1 hz5a (fun j e => hlow1 j e)
                 obtain ⟨e0, e1, e2, e3, _⟩ := HAT.out.next (HB.out.trans (hB1.mono hbs))
                 have hz1 := hB1.size
                 have HOWN1 := Lib.hid hown1
                 have HB1 := Lib.hid hB1
                 have HBW1 := Lib.hid (HB.out.trans (hB1.mono hbs))
                 have hy1 : w.heap.size ≤ x1.heap.size := by omega
                 clear hown1 hgrow1 hlow1 hB1)
              | (at_builtin; refine wpList_append_tms rfl _ _ rfl w.heap.size w5.heap.size v1 ([] ++ acc.take p) rfl (ownTms_below HOWN1.out ((Below.refl _ _).alloc (Nat.le_refl _) _) hy1) [l[k]] _ 1 rfl (srcTms_one_at (by simp) HAT.out.inn HBW1.out) (by rw [List.nil_append, HTK.out]; simp; omega) (by simp; omega) hbs ?_
                 intro v2 x2 hown2 hgrow2 hlow2 _
                 have hB2 : Below w5.heap.size w5 x2 := (HB1.out.alloc hz1 _).grown hgrow2 (by simp; omega) (fun j e => hlow2 j e)
                 have HOWN2 := Lib.hid hown2
                 have HB2 := Lib.hid hB2
                 have hz2 := hB2.size
                 clear hown2 hgrow2 hlow2 hB2 e0 e1 e2 e3)
              | (at_builtin; refine wpList_append_tms rfl _ _ rfl w.heap.size w5.heap.size v2 ([] ++ acc.take p ++ [l[k]]) rfl HOWN2.out [] _ _ rfl ⟨[], by simp [Tm.cellsP], .inl rfl⟩ (by rw [List.nil_append, List.length_append, HTK.out]; simp; omega) hz2 hbs ?_
                 intro v3 x3 hown3 hgrow3 hlow3 _
                 have hB3 : Below w5.heap.size w5 x3 := HB2.out.grown hgrow3 hz2 (fun j e => hlow3 j e)
                 have HOWN3 := Lib.hid hown3
                 have HB3 := Lib.hid (HB.out.trans (hB3.mono hbs))
                 clear hown3 hgrow3 hlow3 hB3))
            refine ⟨⟨k + 1, by omega, by go_num, fun e => absurd e (by omega), ?_, HB3⟩, ?_⟩
            · rw [HINS.out, HTD.out]
              exact ownTms_base hbs HOWN3.out
            · simp [intOf]; omega
    · obtain rfl : k = l.length := by omega
      have ho := hown.out
      rw [List.take_length] at ho
      have hsl := ownTms_slice ho hbs (by have := sortTm_length l; omega)
      obtain ⟨gr, cr, rfl, _⟩ := id hsl
      have HR := Lib.hid hsl
      clear ho hsl hown
      go_wp2_with fail
      go_ret
      exact ⟨_, _, ⟨rfl, HR.out⟩, hb.out⟩
end Go.Proofs.Ytpiflkgjmncijaa
