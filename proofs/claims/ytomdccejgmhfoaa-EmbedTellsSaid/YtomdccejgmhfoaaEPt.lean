/-
  Rows of parts in memory: a term, and the places of its Args' parts; what a call leaves that puts parts behind others.
-/
import Derived.Test.YtomdccejgmhfoaaEmbP
import Derived.Test.YtomdccejgmhfoaaTurnA
namespace Go.Proofs.Ytomdccejgmhfoaa
open Go.RowKit Go.Shelf Go.Maps

/-- A part as it lies: where its term's Args lie, where the places of its own Args lie. -/
structure QM where
  p : Pt
  ts : Value
  ks : Value
def qmCells (x : QM) : List Value := [.int .i64 x.p.t.kind, .string x.p.t.name, .int .i64 x.p.t.n, x.ts, x.ks]
def qRow (M : List QM) : List Value := M.flatMap qmCells
def qsOf (M : List QM) : List Pt := M.map QM.p
theorem qsOf_length (M : List QM) : (qsOf M).length = M.length := by simp [qsOf]
theorem qsOf_snoc (M : List QM) (x : QM) : qsOf (M ++ [x]) = qsOf M ++ [x.p] := by simp [qsOf]
theorem qsOf_get {M : List QM} {i : Nat} (h : i < M.length) : (qsOf M)[i]'(by rw [qsOf_length]; exact h) = M[i].p := by simp [qsOf]
theorem qRow_length (M : List QM) : (qRow M).length = M.length * 5 := by
  induction M with
  | nil => rfl
  | cons x r ih =>
    have h : qRow (x :: r) = qmCells x ++ qRow r := rfl
    rw [h, List.length_append, ih, List.length_cons]
    simp [qmCells]
    omega
theorem qRow_get : ∀ (M : List QM) (i : Nat) (h : i < M.length) (j : Nat), j < 5 → (qRow M)[i * 5 + j]? = (qmCells M[i])[j]?
  | [], i, h, _, _ => absurd h (Nat.not_lt_zero _)
  | x :: r, 0, _, j, hj => by
    have h : qRow (x :: r) = qmCells x ++ qRow r := rfl
    rw [h, List.getElem?_append_left (by simp [qmCells]; omega)]
    simp
  | x :: r, i + 1, h, j, hj => by
    have e : qRow (x :: r) = qmCells x ++ qRow r := rfl
    have := qRow_get r i (by simpa using h) j hj
    rw [e, List.getElem?_append_right (by simp [qmCells]; omega)]
    have h6 : (qmCells x).length = 5 := rfl
    rw [h6, show (i + 1) * 5 + j - 5 = i * 5 + j by omega, this]
    simp
theorem qRow_snoc (M : List QM) (x : QM) : qRow (M ++ [x]) = qRow M ++ qmCells x := by simp [qRow]
def places7 (l : List Nat) : List Value := l.map fun n => .int .i64 (n : Nat)
theorem places7_snoc (l : List Nat) (n : Nat) : places7 (l ++ [n]) = places7 l ++ [.int .i64 (n : Nat)] := by simp [places7]

/-- Places in a block that 'ok' allows. -/
def atIn (W : World) (ok : Nat → Prop) (js : List Nat) (sv : Value) : Prop :=
  ∃ g c, sv = .slice g js.length c ∧ (js = [] ∨ ∃ b, g = some ⟨b, 0, none⟩ ∧ ok b ∧ b < W.heap.size ∧ ∀ k (h : k < js.length), W.cell? ⟨b, k, none⟩ = some (.int .i64 (js[k] : Nat)))
theorem atIn.kept {W W' : World} {ok ok' : Nat → Prop} {js : List Nat} {sv : Value} (h : atIn W ok js sv) (hs : W.heap.size ≤ W'.heap.size) (hb : ∀ b, ok b → b < W.heap.size → W'.heap[b]? = W.heap[b]?) (hok : ∀ b, b < W.heap.size → ok b → ok' b) : atIn W' ok' js sv := by
  obtain ⟨g, c, e, h⟩ := h
  refine ⟨g, c, e, ?_⟩
  rcases h with h | ⟨b, h1, h2, h3, h4⟩
  · exact .inl h
  · exact .inr ⟨b, h1, hok b h3 h2, by omega, fun k hk => (World.cell?_of_block (a := ⟨b, k, none⟩) (hb b h2 h3)).trans (h4 k hk)⟩
theorem atIn_of_own {W : World} {ok : Nat → Prop} {lo n : Nat} {js : List Nat} {sv : Value} (h : W.ownsRow lo 3 1 sv n (places7 js)) (hn : js.length = n) (hok : ∀ b, sv.ownBlock = some b → ok b) : atIn W ok js sv := by
  subst hn
  rcases h.2 with ⟨e, h0⟩ | ⟨g, cap, cur, e, h1, h2, h3⟩
  · exact ⟨none, 0, by rw [e, h0], .inl (List.eq_nil_of_length_eq_zero h0)⟩
  · have hob : sv.ownBlock = some g := by rw [e]; rfl
    refine ⟨_, cap, e, .inr ⟨g, rfl, hok g hob, (h.lt g hob).2, fun k hk => ?_⟩⟩
    have := World.ownsRow.cells h (g := g) hob k (.int .i64 (js[k] : Nat)) (by simp [places7, hk])
    simpa [Addr.add_lit] using this

/-- Parts in a row of the call's own; the places lie in blocks that 'ok' allows. -/
structure QRow (W : World) (ok : Nat → Prop) (B lo : Nat) (e : TypeId) (M : List QM) (v : Value) : Prop where
  row : W.ownsRow lo e 5 v M.length (qRow M)
  ts : ∀ x ∈ M, Tm.inn W B x.p.t x.ts
  ks : ∀ x ∈ M, atIn W (fun b => ok b ∧ lo ≤ b ∧ v.ownBlock ≠ some b) x.p.at' x.ks
  hB : B ≤ lo
  lo' : lo ≤ W.heap.size
theorem QRow.slice {W : World} {ok : Nat → Prop} {B lo : Nat} {e : TypeId} {M : List QM} {v : Value} (h : QRow W ok B lo e M v) : ∃ g c, v = .slice g M.length c := owns_slice h.row
theorem QRow.keep {W W' : World} {ok : Nat → Prop} {B lo : Nat} {e : TypeId} {M : List QM} {v : Value} (h : QRow W ok B lo e M v) (hs : W.heap.size ≤ W'.heap.size) (hlow : ∀ b, b < B → W'.heap[b]? = W.heap[b]?) (hup : ∀ b, lo ≤ b → b < W.heap.size → (ok b ∨ v.ownBlock = some b) → W'.heap[b]? = W.heap[b]?) : QRow W' ok B lo e M v :=
  ⟨ownsRow_block h.row (fun b e => hup b (h.row.lt b e).1 (h.row.lt b e).2 (.inr e)), fun x hx => Tm.inn_same (Nat.le_refl _) (fun b o _ hlt hc => (World.cell?_of_block (a := ⟨b, o, none⟩) (hlow b hlt)).trans hc) _ _ (h.ts x hx),
    fun x hx => (h.ks x hx).kept hs (fun b hb hlt => hup b hb.2.1 hlt (.inl hb.1)) (fun _ _ hb => hb), h.hB, Nat.le_trans h.lo' hs⟩
theorem QRow.next {W W' : World} {ok : Nat → Prop} {B lo : Nat} {e : TypeId} {M : List QM} {v : Value} (h : QRow W ok B lo e M v) (hb : Below W.heap.size W W') : QRow W' ok B lo e M v :=
  h.keep hb.size (fun b hlt => hb.block b (by have := h.hB; have := h.lo'; omega)) (fun b _ hlt _ => hb.block b hlt)
theorem QRow.weak {W : World} {ok ok' : Nat → Prop} {B lo : Nat} {e : TypeId} {M : List QM} {v : Value} (h : QRow W ok B lo e M v) (hok : ∀ b, b < W.heap.size → ok b → ok' b) : QRow W ok' B lo e M v :=
  ⟨h.row, h.ts, fun x hx => (h.ks x hx).kept (Nat.le_refl _) (fun _ _ _ => rfl) (fun b hlt hb => ⟨hok b hlt hb.1, hb.2⟩), h.hB, h.lo'⟩
theorem QRow.zero {W : World} {ok : Nat → Prop} {B lo : Nat} (e : TypeId) (hB : B ≤ lo) (hlo : lo ≤ W.heap.size) : QRow W ok B lo e [] (.slice none 0 0) :=
  ⟨World.ownsRow_nil _ _ _ _, (fun x hx => by cases hx), (fun x hx => by cases hx), hB, hlo⟩

/-- What calls leave that write only what 'P' names, and the row that they put parts behind. -/
structure QFr (W W' : World) (P : Nat → Prop) (v v' : Value) : Prop where
  os : W'.os = W.os
  tape : W'.tape = W.tape
  output : W'.output = W.output
  size : W.heap.size ≤ W'.heap.size
  block : ∀ b, b < W.heap.size → ¬ P b → v.ownBlock ≠ some b → W'.heap[b]? = W.heap[b]?
  own : ∀ b, v'.ownBlock = some b → v.ownBlock = some b ∨ W.heap.size ≤ b
theorem QFr.trans {W W' W'' : World} {P : Nat → Prop} {v v' v'' : Value} (h : QFr W W' P v v') (g : QFr W' W'' P v' v'') : QFr W W'' P v v'' where
  os := g.os.trans h.os
  tape := g.tape.trans h.tape
  output := g.output.trans h.output
  size := Nat.le_trans h.size g.size
  block := fun b hb hp hv => (g.block b (Nat.lt_of_lt_of_le hb h.size) hp fun e => by
    rcases h.own b e with h1 | h1
    · exact hv h1
    · omega).trans (h.block b hb hp hv)
  own := fun b e => by
    rcases g.own b e with h1 | h1
    · exact h.own b h1
    · exact .inr (Nat.le_trans h.size h1)
theorem QFr.of {W W' : World} (hb : Below W.heap.size W W') (P : Nat → Prop) (v : Value) : QFr W W' P v v := ⟨hb.os, hb.tape, hb.output, hb.size, fun b hlt _ _ => hb.block b hlt, fun _ e => .inl e⟩
theorem QFr.below {W W' : World} {P : Nat → Prop} {lo : Nat} {v v' : Value} (h : QFr W W' P v v') (hp : ∀ b, P b → lo ≤ b) (hv : ∀ b, v.ownBlock = some b → lo ≤ b) (hlo : lo ≤ W.heap.size) : Below lo W W' :=
  ⟨h.os, h.tape, h.output, h.size, fun b hb => h.block b (by omega) (fun e => by have := hp b e; omega) fun e => by have := hv b e; omega⟩

theorem partsTos_take_succ : ∀ (l : List Tm) (j : Nat) (h : j < l.length) (L : List Pt) (ps : List Nat),
    Tm.partsTos L ps (l.take (j + 1)) = (l[j].partsTo (Tm.partsTos L ps (l.take j)).1, (Tm.partsTos L ps (l.take j)).2 ++ [(l[j].partsTo (Tm.partsTos L ps (l.take j)).1).length - 1])
  | [], j, h, _, _ => absurd h (Nat.not_lt_zero _)
  | t :: q, 0, _, L, ps => by simp [Tm.partsTos]
  | t :: q, j + 1, h, L, ps => by
    simp only [List.take_succ_cons, Tm.partsTos, List.getElem_cons_succ]
    exact partsTos_take_succ q j (by simpa using h) _ _
theorem partsTos_places_len : ∀ (l : List Tm) (L : List Pt) (ps : List Nat), (Tm.partsTos L ps l).2.length = ps.length + l.length
  | [], _, _ => by simp [Tm.partsTos]
  | t :: q, L, ps => by
    simp only [Tm.partsTos]
    rw [partsTos_places_len q]
    simp
    omega

/-- What the loop over the Args holds. -/
structure DL (W1 wr : World) (P ok : Nat → Prop) (B lo : Nat) (e : TypeId) (M : List QM) (l : List Tm) (v : Value) (j : Nat) (va : Value) (Mj : List QM) (vj : Value) : Prop where
  row : QRow wr (fun b => ok b ∧ va.ownBlock ≠ some b) B lo e Mj vj
  qs : qsOf Mj = (Tm.partsTos (qsOf M) [] (l.take j)).1
  own : wr.ownsRow W1.heap.size 3 1 va j (places7 (Tm.partsTos (qsOf M) [] (l.take j)).2)
  fr : QFr W1 wr P v vj
  sep : ∀ q, va.ownBlock = some q → vj.ownBlock ≠ some q
theorem DL.start {W1 : World} {P ok : Nat → Prop} {B lo : Nat} {e : TypeId} {M : List QM} {l : List Tm} {v : Value} (h : QRow W1 ok B lo e M v) : DL W1 W1 P ok B lo e M l v 0 (.slice none 0 0) M v :=
  ⟨h.weak (fun b _ hb => ⟨hb, fun e => by cases e⟩), by simp [Tm.partsTos], World.ownsRow_nil _ _ _ _, QFr.of (Below.refl _ _) P v, fun q e => by cases e⟩
/-- One Arg more. -/
theorem DL.step {W1 wr wa W2 W3 : World} {P ok : Nat → Prop} {B lo : Nat} {e : TypeId} {M Mj M2 : List QM} {l : List Tm} {v va va' vj v2 : Value} {j : Nat} {t : Tm} {tmp : Obj} (hj : j < l.length) (ht : l[j] = t) (_hP : ∀ b, P b → b < W1.heap.size)
    (h : DL W1 wr P ok B lo e M l v j va Mj vj) (hwa : Below wr.heap.size wr wa) (hR : QRow W2 (fun b => ok b ∧ va.ownBlock ≠ some b) B lo e M2 v2) (hqs : qsOf M2 = t.partsTo (qsOf Mj)) (hF : QFr wa W2 P vj v2) (hlo : lo ≤ W1.heap.size)
    {ps : List Nat} (hps : (Tm.partsTos (qsOf M) [] (l.take j)).2 = ps) (hown : W3.ownsRow W1.heap.size 3 1 va' (j + 1) (places7 ps ++ [.int .i64 ((M2.length - 1 : Nat) : Int)])) (hg : (W2.alloc tmp).grownBy W3 va.ownBlock) (hs : va'.ownBlock = va.ownBlock ∨ ∀ b, va'.ownBlock = some b → (W2.alloc tmp).heap.size ≤ b) :
    DL W1 W3 P ok B lo e M l v (j + 1) va' M2 v2 := by
  subst ht hps
  have hs1 := h.fr.size
  have hs2 := hwa.size
  have hs3 := hF.size
  have hs4 : W2.heap.size + 1 ≤ W3.heap.size := by simpa using hg.size
  have hB := hR.hB
  have blk3 : ∀ b, b < W2.heap.size → va.ownBlock ≠ some b → W3.heap[b]? = W2.heap[b]? := fun b hb hne => (hg.block b (by simp; omega) (fun e => hne e.symm)).trans (Below.heap_alloc _ _ _ hb)
  have oa : ∀ b, va.ownBlock = some b → W1.heap.size ≤ b ∧ b < wr.heap.size := fun b e => h.own.lt b e
  have na : ∀ b, va.ownBlock = some b → v2.ownBlock ≠ some b := fun b e e' => by
    rcases hF.own b e' with h1 | h1
    · exact h.sep b e h1
    · have := (oa b e).2; omega
  have sa : ∀ b, b < W2.heap.size → va.ownBlock ≠ some b → va'.ownBlock ≠ some b := fun b hb hne e => by
    rcases hs with h | h
    · exact hne (h ▸ e)
    · have := h b e; simp at this; omega
  have hsucc := partsTos_take_succ l j hj (qsOf M) []
  have hl2 : M2.length = (l[j].partsTo (qsOf Mj)).length := by rw [← hqs, qsOf_length]
  refine ⟨?_, ?_, ?_, ?_, ?_⟩
  · have h1 : QRow W3 (fun b => ok b ∧ va.ownBlock ≠ some b) B lo e M2 v2 := by
      refine hR.keep (by omega) (fun b hb => blk3 b (by have := hR.lo'; omega) (fun e => by have := (oa b e).1; omega)) (fun b hlo' hlt hor => blk3 b hlt fun e => ?_)
      rcases hor with ⟨_, h2⟩ | h2
      · exact h2 e
      · exact na b e h2
    refine ⟨h1.row, h1.ts, fun x hx => ?_, h1.hB, h1.lo'⟩
    have hk := hR.ks x hx
    exact hk.kept (by omega) (fun b hb hlt => blk3 b hlt hb.1.2) (fun b hlt hb => ⟨⟨hb.1.1, sa b hlt hb.1.2⟩, hb.2⟩)
  · rw [hsucc, hqs, h.qs]
  · rw [hsucc, ← h.qs, ← hl2, places7_snoc]
    exact hown
  · have h1 := (h.fr.trans (QFr.of hwa P vj)).trans hF
    exact ⟨hg.os.trans h1.os, hg.tape.trans h1.tape, hg.output.trans h1.output, by omega, fun b hb hp hv => (blk3 b (by omega) (fun e => by have := (oa b e).1; omega)).trans (h1.block b hb hp hv), h1.own⟩
  · intro q e e'
    rcases hs with h2 | h2
    · exact na q (h2 ▸ e) e'
    · have h3 := h2 q e
      have h4 := (hR.row.lt q e').2
      simp at h3
      omega
/-- The whole term's part, behind those of its Args. -/
theorem DL.done {W1 wr W3 : World} {P ok : Nat → Prop} {B lo n : Nat} {e : TypeId} {M Mj : List QM} {k m : Int} {s : ByteArray} {l : List Tm} {v va vj vf sx : Value} {tmp : Obj} (hn : l.length = n) (h : DL W1 wr P ok B lo e M l v n va Mj vj) (hok : ∀ b, W1.heap.size ≤ b → ok b) (hlo : lo ≤ W1.heap.size) (hx : Tm.inn wr B (.mk k s m l) sx)
    (hown : W3.ownsRow lo e 5 vf (Mj.length + 1) (qRow Mj ++ [.int .i64 k, .string s, .int .i64 m, sx, va])) (hg : (wr.alloc tmp).grownBy W3 vj.ownBlock) (hs : vf.ownBlock = vj.ownBlock ∨ ∀ b, vf.ownBlock = some b → (wr.alloc tmp).heap.size ≤ b) :
    ∃ M', QRow W3 ok B lo e M' vf ∧ qsOf M' = (Tm.mk k s m l).partsTo (qsOf M) ∧ QFr W1 W3 P v vf ∧ M'.length = Mj.length + 1 := by
  have hs1 := h.fr.size
  have hs4 : wr.heap.size + 1 ≤ W3.heap.size := by simpa using hg.size
  have hB := h.row.hB
  have hl1 := h.row.lo'
  have ov : ∀ b, vj.ownBlock = some b → lo ≤ b ∧ b < wr.heap.size := fun b e => h.row.row.lt b e
  have oa : ∀ b, va.ownBlock = some b → W1.heap.size ≤ b ∧ b < wr.heap.size := fun b e => h.own.lt b e
  have blk3 : ∀ b, b < wr.heap.size → vj.ownBlock ≠ some b → W3.heap[b]? = wr.heap[b]? := fun b hb hne => (hg.block b (by simp; omega) (fun e => hne e.symm)).trans (Below.heap_alloc _ _ _ hb)
  have sv : ∀ b, b < wr.heap.size → vj.ownBlock ≠ some b → vf.ownBlock ≠ some b := fun b hb hne e => by
    rcases hs with h | h
    · exact hne (h ▸ e)
    · have := h b e; simp at this; omega
  have hqs := h.qs
  have howna := h.own
  rw [List.take_of_length_le (by omega)] at hqs howna
  have hpl := partsTos_places_len l (qsOf M) []
  simp only [List.length_nil, Nat.zero_add] at hpl
  have low : ∀ b, b < B → W3.heap[b]? = wr.heap[b]? := fun b hb => blk3 b (by omega) (fun e => by have := (ov b e).1; omega)
  refine ⟨Mj ++ [⟨⟨.mk k s m l, (Tm.partsTos (qsOf M) [] l).2⟩, sx, va⟩], ⟨?_, fun x hx' => ?_, fun x hx' => ?_, hB, by omega⟩, ?_, ?_, by simp⟩
  · rw [List.length_append, qRow_snoc]; exact hown
  · have hin : ∀ (t : Tm) (u : Value), Tm.inn wr B t u → Tm.inn W3 B t u := fun t u h' => Tm.inn_same (Nat.le_refl _) (fun b o _ hlt hc => (World.cell?_of_block (a := ⟨b, o, none⟩) (low b hlt)).trans hc) _ _ h'
    rcases List.mem_append.1 hx' with h1 | h1
    · exact hin _ _ (h.row.ts x h1)
    · rw [List.mem_singleton.1 h1]; exact hin _ _ hx
  · rcases List.mem_append.1 hx' with h1 | h1
    · exact (h.row.ks x h1).kept (by omega) (fun b hb hlt => blk3 b hlt hb.2.2) (fun b hlt hb => ⟨hb.1.1, hb.2.1, sv b hlt hb.2.2⟩)
    · rw [List.mem_singleton.1 h1]
      have h2 : atIn wr (fun b => W1.heap.size ≤ b ∧ vj.ownBlock ≠ some b) (Tm.partsTos (qsOf M) [] l).2 va := atIn_of_own howna (by omega) (fun b e => ⟨(oa b e).1, h.sep b e⟩)
      exact h2.kept (by omega) (fun b hb hlt => blk3 b hlt hb.2) (fun b hlt hb => ⟨hok b hb.1, by omega, sv b hlt hb.2⟩)
  · rw [qsOf_snoc, hqs]
    simp only [Tm.partsTo]
  · exact ⟨hg.os.trans h.fr.os, hg.tape.trans h.fr.tape, hg.output.trans h.fr.output, by omega, fun b hb hp hv => (blk3 b (by omega) (fun e => by
      rcases h.fr.own b e with h1 | h1
      · exact hv h1
      · omega)).trans (h.fr.block b hb hp hv), fun b e => by
      rcases hs with h1 | h1
      · exact h.fr.own b (h1 ▸ e)
      · have := h1 b e; simp at this; exact .inr (by omega)⟩

theorem mk7_kind (k : Int) (s : ByteArray) (n : Int) (l : List Tm) : (Tm.mk k s n l).kind = k := rfl
theorem mk7_name (k : Int) (s : ByteArray) (n : Int) (l : List Tm) : (Tm.mk k s n l).name = s := rfl
theorem mk7_n (k : Int) (s : ByteArray) (n : Int) (l : List Tm) : (Tm.mk k s n l).n = n := rfl
theorem mk7_args (k : Int) (s : ByteArray) (n : Int) (l : List Tm) : (Tm.mk k s n l).args = l := rfl
theorem inn_sl7 {W : World} {B : Nat} {t : Tm} {sv : Value} (h : Tm.inn W B t sv) : ∃ g c, sv = .slice g t.args.length c := by
  obtain ⟨_, g, c, e, _⟩ := Tm.inn_iff.1 h
  exact ⟨g, c, e⟩
theorem news1e {w : World} {a0 : Value} {t : TypeId} (n : Nat) (hn : n = w.heap.size) : ∀ (j : Nat) (u : Value), [a0][j]? = some u → (w.alloc (.cells #[a0] t)).cell? ((⟨n, 0, none⟩ : Addr).add j) = some u := by
  intro j u hj
  subst hn
  rw [Addr.add_lit]
  simp only [Nat.zero_add]
  rw [World.cell?_alloc_new]
  simpa using hj
theorem news5e {w : World} {a0 a1 a2 a3 a4 : Value} {t : TypeId} (n : Nat) (hn : n = w.heap.size) : ∀ (j : Nat) (u : Value), [a0, a1, a2, a3, a4][j]? = some u → (w.alloc (.cells #[a0, a1, a2, a3, a4] t)).cell? ((⟨n, 0, none⟩ : Addr).add j) = some u := by
  intro j u hj
  subst hn
  rw [Addr.add_lit]
  simp only [Nat.zero_add]
  rw [World.cell?_alloc_new]
  simpa using hj
theorem one5e {k n : Int} {s : ByteArray} {g g' : Option Addr} {m m' c c' : Nat} : ∀ u ∈ [Value.int .i64 k, .string s, .int .i64 n, .slice g m c, .slice g' m' c'], u.oneCell' = true := by
  intro u hu
  simp at hu
  rcases hu with rfl | rfl | rfl | rfl | rfl <;> rfl
/-- The types of a row of parts. -/
structure QTy (t e : TypeId) : Prop where
  und : Try.prog.underlying t = some (.slice e)
  info : (Try.prog.info? e).map (fun i => (i.zero, i.size, i.bytes)) = some (some (.agg #[.int .i64 0, .string ⟨#[]⟩, .int .i64 0, .slice none 0 0, .slice none 0 0]), 5, 80)
theorem qTyD : QTy 76 79 := ⟨by kernel_rfl, by kernel_rfl⟩
theorem qTyP : QTy 81 99 := ⟨by kernel_rfl, by kernel_rfl⟩

/-- Parts, as they are read. -/
structure QAt (W : World) (hi : Nat) (M : List QM) (sv : Value) : Prop where
  row : ∃ b c, sv = .slice (some ⟨b, 0, none⟩) M.length c ∧ b < hi ∧ ∀ i (h : i < M.length) j (hj : j < 5), W.cell? ⟨b, i * 5 + j, none⟩ = some ((qmCells M[i])[j]'hj)
  ks : ∀ x ∈ M, atIn W (fun b => b < hi) x.p.at' x.ks
  hi' : hi ≤ W.heap.size
  ts : ∀ x ∈ M, ∃ g n c, x.ts = .slice g n c
theorem QAt.below {W W' : World} {hi : Nat} {M : List QM} {sv : Value} (h : QAt W hi M sv) (hb : Below hi W W') : QAt W' hi M sv := by
  obtain ⟨b, c, e, h1, h2⟩ := h.row
  have hh := h.hi'
  exact ⟨⟨b, c, e, h1, fun i hi j hj => (hb.cell (p := ⟨b, i * 5 + j, none⟩) h1).trans (h2 i hi j hj)⟩, fun x hx => (h.ks x hx).kept hb.size (fun b hb' _ => hb.block b hb') (fun _ _ h => h), Nat.le_trans hh hb.size, h.ts⟩
theorem QAt.mono {W : World} {hi hi2 : Nat} {M : List QM} {sv : Value} (h : QAt W hi M sv) (hh : hi ≤ hi2) (h2 : hi2 ≤ W.heap.size) : QAt W hi2 M sv := by
  obtain ⟨b, c, e, h1, h3⟩ := h.row
  exact ⟨⟨b, c, e, by omega, h3⟩, fun x hx => (h.ks x hx).kept (Nat.le_refl _) (fun _ _ _ => rfl) (fun b _ hb => by omega), h2, h.ts⟩
theorem QRow.reads {W : World} {ok : Nat → Prop} {B lo : Nat} {e : TypeId} {M : List QM} {v : Value} (h : QRow W ok B lo e M v) (hM : 0 < M.length) : QAt W W.heap.size M v := by
  refine ⟨?_, fun x hx => (h.ks x hx).kept (Nat.le_refl _) (fun _ _ _ => rfl) (fun b hlt _ => hlt), Nat.le_refl _, fun x hx => by
    obtain ⟨g, c, e⟩ := inn_sl7 (h.ts x hx)
    exact ⟨g, _, c, e⟩⟩
  rcases h.row.2 with ⟨_, h0⟩ | ⟨g, cap, cur, e, h1, h2, h3⟩
  · omega
  · have hob : v.ownBlock = some g := by rw [e]; rfl
    refine ⟨g, cap, e, (h.row.lt g hob).2, fun i hi j hj => ?_⟩
    have hg := qRow_get M i hi j hj
    have hl : j < (qmCells M[i]).length := hj
    have := World.ownsRow.cells h.row (g := g) hob (i * 5 + j) (qmCells M[i])[j] (by rw [hg, List.getElem?_eq_getElem hl])
    simp only [Addr.add_lit, Nat.zero_add] at this
    exact this
/-- What a walk wants of part i. -/
theorem QAt.get {W : World} {hi : Nat} {M : List QM} {b n c : Nat} (h : QAt W hi M (.slice (some ⟨b, 0, none⟩) n c)) (i : Nat) (hi2 : i < M.length) :
    b < hi ∧ W.cell? ⟨b, i * 5, none⟩ = some (.int .i64 M[i].p.t.kind) ∧ W.cell? ⟨b, i * 5 + 1, none⟩ = some (.string M[i].p.t.name) ∧ W.cell? ⟨b, i * 5 + 2, none⟩ = some (.int .i64 M[i].p.t.n) ∧ W.cell? ⟨b, i * 5 + 3, none⟩ = some M[i].ts ∧ W.cell? ⟨b, i * 5 + 4, none⟩ = some M[i].ks := by
  obtain ⟨b', c', e, h1, h2⟩ := h.row
  injection e with e1 e2 e3
  injection e1 with e1
  injection e1 with e1
  subst e1
  exact ⟨h1, h2 i hi2 0 (by omega), h2 i hi2 1 (by omega), h2 i hi2 2 (by omega), h2 i hi2 3 (by omega), h2 i hi2 4 (by omega)⟩
theorem QAt.len {W : World} {hi : Nat} {M : List QM} {g : Option Addr} {n c : Nat} (h : QAt W hi M (.slice g n c)) : n = M.length ∧ ∃ b, g = some ⟨b, 0, none⟩ ∧ b < hi := by
  obtain ⟨b', c', e, h1, h2⟩ := h.row
  injection e with e1 e2 e3
  exact ⟨e2, b', e1, h1⟩
theorem atIn.get {W : World} {ok : Nat → Prop} {js : List Nat} {g : Option Addr} {n c : Nat} (h : atIn W ok js (.slice g n c)) {k : Nat} (hk : k < js.length) : ∃ b, g = some ⟨b, 0, none⟩ ∧ ok b ∧ b < W.heap.size ∧ W.cell? ⟨b, k, none⟩ = some (.int .i64 (js[k] : Nat)) := by
  obtain ⟨g', c', e, h⟩ := h
  injection e with e1 e2 e3
  subst e1
  rcases h with h | ⟨b, h1, h2, h3, h4⟩
  · rw [h] at hk; simp at hk
  · exact ⟨b, h1, h2, h3, h4 k hk⟩
end Go.Proofs.Ytomdccejgmhfoaa
