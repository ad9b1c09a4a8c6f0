/-
  The document's reader in memory; its fail, see, need.
  The document's operators, by their texts.
  append, whatever is appended: nothing too.
  The document's variables: the number of a text.
  The document's reader: what its functions are to do, whether something is amiss or not.
  The document's rest: what stands behind a term.
  The document's Term when something is amiss, and its row.
  The document's name: what begins with a name.
-/
import Derived.Test.YtliapkajonbndaaGreatDoorG13
import Derived.Test.YtliapkajonbndaaGreatDoorTmP
import Derived.BigQuiet
import Derived.Deep.QuietTactic
import Derived.Maps.AppendAt
import Derived.StillTailTactics
import Derived.Test.YtliapkajonbndaaGreatDoorChecked
import Derived.WalkKit
import Derived.RegionTactic
import Derived.Deep.CutRange
import Derived.Deep.LoopGhost
import Derived.Deep.DeepCutAuto
namespace Go.Proofs.YtliapkajonbndaaGreatDoor
open Go.RowKit

/-- A row of texts in memory, in blocks that 'ok' allows. -/
def namesP (w : World) (ok : Nat → Prop) (l : Names) (sv : Value) : Prop :=
  ∃ g cap, sv = .slice g l.length cap ∧ l.length ≤ cap ∧ (l = [] ∨ ∃ b off, g = some ⟨b, off, none⟩ ∧ ok b ∧ ∀ i (h : i < l.length), w.cell? ⟨b, off + i, none⟩ = some (.string ⟨l[i].toArray⟩))
theorem namesP_same {w w' : World} {ok ok' : Nat → Prop} {l : Names} {sv : Value} (hB : ∀ b, ok b → ok' b) (hc : ∀ b o v, ok b → w.cell? ⟨b, o, none⟩ = some v → w'.cell? ⟨b, o, none⟩ = some v) (h : namesP w ok l sv) : namesP w' ok' l sv := by
  obtain ⟨g, cap, rfl, h1, h⟩ := h
  refine ⟨g, cap, rfl, h1, ?_⟩
  rcases h with h | ⟨b, off, rfl, hb, h⟩
  · exact .inl h
  · exact .inr ⟨b, off, rfl, hB b hb, fun i hi => hc b _ _ hb (h i hi)⟩
/-- Tokens in memory, in a block that 'ok' allows. -/
def toksP (w : World) (ok : Nat → Prop) (l : Toks) (sv : Value) : Prop :=
  ∃ g cap, sv = .slice g l.length cap ∧ (l = [] ∨ ∃ b off, g = some ⟨b, off, none⟩ ∧ ok b ∧ ∀ i (h : i < l.length),
    w.cell? ⟨b, off + i * 5, none⟩ = some (.int .i64 (l[i].1.kind : Nat)) ∧ w.cell? ⟨b, off + i * 5 + 1, none⟩ = some (.string ⟨l[i].1.text.toArray⟩) ∧ w.cell? ⟨b, off + i * 5 + 2, none⟩ = some (.int .i64 (l[i].1.n : Nat)) ∧ w.cell? ⟨b, off + i * 5 + 3, none⟩ = some (.int .i64 (l[i].2 : Nat)) ∧ w.cell? ⟨b, off + i * 5 + 4, none⟩ = some (.bool l[i].1.opn))
theorem toksP_same {w w' : World} {ok : Nat → Prop} {l : Toks} {sv : Value} (hc : ∀ b o v, ok b → w.cell? ⟨b, o, none⟩ = some v → w'.cell? ⟨b, o, none⟩ = some v) (h : toksP w ok l sv) : toksP w' ok l sv := by
  obtain ⟨g, cap, rfl, h⟩ := h
  refine ⟨g, cap, rfl, ?_⟩
  rcases h with h | ⟨b, off, rfl, hb, h⟩
  · exact .inl h
  · refine .inr ⟨b, off, rfl, hb, fun i hi => ?_⟩
    obtain ⟨h0, h1, h2, h3, h4⟩ := h i hi
    exact ⟨hc _ _ _ hb h0, hc _ _ _ hb h1, hc _ _ _ hb h2, hc _ _ _ hb h3, hc _ _ _ hb h4⟩
theorem toksP_at {w : World} {ok : Nat → Prop} {l : Toks} {sv : Value} (h : toksP w ok l sv) (i : Nat) (hi : i < l.length) : ∃ b off cap, sv = .slice (some ⟨b, off, none⟩) l.length cap ∧ ok b ∧
    w.cell? ⟨b, off + i * 5, none⟩ = some (.int .i64 (l[i].1.kind : Nat)) ∧ w.cell? ⟨b, off + i * 5 + 1, none⟩ = some (.string ⟨l[i].1.text.toArray⟩) ∧ w.cell? ⟨b, off + i * 5 + 2, none⟩ = some (.int .i64 (l[i].1.n : Nat)) ∧ w.cell? ⟨b, off + i * 5 + 3, none⟩ = some (.int .i64 (l[i].2 : Nat)) ∧ w.cell? ⟨b, off + i * 5 + 4, none⟩ = some (.bool l[i].1.opn) := by
  obtain ⟨g, cap, rfl, h | ⟨b, off, rfl, hb, h⟩⟩ := h
  · subst h; simp at hi
  · exact ⟨b, off, cap, rfl, hb, h i hi⟩
/-- Blocks that are none of those that stores go to. -/
def okN (X : Nat → Prop) (W : World) (b : Nat) : Prop := ¬ X b ∧ b < W.heap.size
theorem row6 {w : World} {b : Nat} {a0 a1 a2 a3 a4 a5 : Value} {t : TypeId} (h : w.heap[b]? = some (Obj.cells #[a0, a1, a2, a3, a4, a5] t (0, 0))) :
    (w.cell? ⟨b, 0, none⟩ = some a0 ∧ w.cell? ⟨b, 1, none⟩ = some a1 ∧ w.cell? ⟨b, 2, none⟩ = some a2 ∧ w.cell? ⟨b, 3, none⟩ = some a3 ∧ w.cell? ⟨b, 4, none⟩ = some a4 ∧ w.cell? ⟨b, 5, none⟩ = some a5) ∧
    (w.frozen? ⟨b, 0, none⟩ = false ∧ w.frozen? ⟨b, 1, none⟩ = false ∧ w.frozen? ⟨b, 2, none⟩ = false ∧ w.frozen? ⟨b, 3, none⟩ = false ∧ w.frozen? ⟨b, 4, none⟩ = false ∧ w.frozen? ⟨b, 5, none⟩ = false) := by
  simp [World.cell?, World.frozen?, h]
theorem set_blk {w : World} {b o : Nat} {v : Value} {cs : Array Value} {t : TypeId} {fz : Nat × Nat} (h : w.heap[b]? = some (Obj.cells cs t fz)) : (w.setCell ⟨b, o, none⟩ v).heap[b]? = some (.cells (cs.setIfInBounds o v) t fz) := by
  obtain ⟨hlt, hk⟩ := Array.getElem?_eq_some_iff.1 h
  show (w.heap.modify b _)[b]? = _
  rw [Array.getElem?_eq_getElem (by rw [Array.size_modify]; exact hlt), Array.getElem_modify_self, hk]
  rfl
theorem okN_grown {X : Nat → Prop} {W W' : World} {r : Option Nat} (hg : W.grownBy W' r) (b : Nat) (h : okN X W b) : okN X W' b := ⟨h.1, Nat.lt_of_lt_of_le h.2 hg.size⟩
theorem cell_grown {X : Nat → Prop} {W W' : World} {rb : Nat} (hX : X rb) (hg : W.grownBy W' (some rb)) (b o : Nat) (v : Value) (hb : okN X W b) (h : W.cell? ⟨b, o, none⟩ = some v) : W'.cell? ⟨b, o, none⟩ = some v := hg.cell h (fun e => hb.1 (by cases e; exact hX))
theorem grown_set (W : World) (b o : Nat) (v : Value) : W.grownBy (W.setCell ⟨b, o, none⟩ v) (some b) :=
  ⟨rfl, rfl, rfl, by simp [World.setCell], fun k _ hk => Below.heap_setCell _ _ _ k (fun e => hk (by rw [e]))⟩
theorem grown_dn {W W' : World} {r : Option Nat} (h : W.grownBy W' r) (n : Nat) : W.grownBy (W'.drewN n) r := ⟨h.os, h.tape, h.output, h.size, h.block⟩
theorem toksP_mono {X : Nat → Prop} {w w' : World} {rb : Nat} {l : Toks} {sv : Value} (hX : X rb) (hg : w.grownBy w' (some rb)) (h : toksP w (okN X w) l sv) : toksP w' (okN X w') l sv := by
  obtain ⟨g, cap, rfl, h2⟩ := toksP_same (fun b o v hb hc => cell_grown hX hg b o v hb hc) h
  refine ⟨g, cap, rfl, ?_⟩
  rcases h2 with h2 | ⟨b, off, rfl, hb, h2⟩
  · exact .inl h2
  · exact .inr ⟨b, off, rfl, okN_grown hg b hb, h2⟩
def SeePost (W : World) (b : Bool) (e : Ending) (W' : World) : Prop := e = .returned (.bool b) ∧ ∃ n, W' = W.drewN n
end Go.Proofs.YtliapkajonbndaaGreatDoor

namespace Go.Proofs.YtliapkajonbndaaGreatDoor
open Go.RowKit

def strC (l : Names) : Array Value := (l.map fun x => Value.string ⟨x.toArray⟩).toArray
theorem strC_at (w : World) (l : Names) (t : TypeId) (i : Nat) (h : i < l.length) : (w.alloc (.cells (strC l) t)).cell? ⟨w.heap.size, i, none⟩ = some (.string ⟨l[i].toArray⟩) := by
  have hb := newBlk w (.cells (strC l) t) _ rfl
  simp only [World.cell?, hb]
  simp [strC, h]
def InfPost (W : World) (tx : List UInt8) (e : Ending) (W' : World) : Prop := e = .returned (.tuple #[.int .i64 ((infixP tx).1 : Nat), .int .i64 ((infixP tx).2.1 : Nat), .int .i64 ((infixP tx).2.2 : Nat)]) ∧ Below W.heap.size W W'
end Go.Proofs.YtliapkajonbndaaGreatDoor

namespace Go.Proofs.YtliapkajonbndaaGreatDoor
open Go.RowKit

/-- append, whatever is appended: nothing too. -/
theorem run_append_any {P : Program} {w : World} (base : Nat) (t ty e : TypeId) (i : TypeInfo) (z : Value) (size bytes : Nat) (ht : P.underlying t = some (.slice e)) (hi : P.info? e = some i) (hz : i.zero = some z)
    (hsize : i.size = size) (hby : i.bytes = bytes) (hzs : z.cells.size = size) (hsz : 0 < size)
    (v : Value) (n : Nat) (xs : List Value) (hown : w.ownsRow base e size v n xs)
    (g : Option Addr) (m c : Nat) (news : List Value) (hl : news.length = m * size) (hnews : m = 0 ∨ ∃ a, g = some a ∧ ∀ j u, news[j]? = some u → w.cell? (a.add j) = some u) (h1 : ∀ u ∈ news, u.oneCell' = true)
    (h63 : n + m ≤ maxLen) (hbytes : (n + m) * bytes ≤ 140737488355328) (hbase : base ≤ w.heap.size) :
    ∃ v' w', (Builtin.append_ #[t, t] ty #[v, .slice g m c]).run P w = .ok v' w' ∧ w'.ownsRow base e size v' (n + m) (xs ++ news) ∧ w.grownBy w' v.ownBlock ∧
      (v'.ownBlock = v.ownBlock ∨ v'.ownBlock = some w.heap.size) := by
  cases g with
  | none =>
    obtain rfl : m = 0 := by
      rcases hnews with h | ⟨a, h, _⟩
      · exact h
      · cases h
    obtain rfl : news = [] := List.eq_nil_of_length_eq_zero (by simpa using hl)
    refine ⟨v, w, ?_, by simpa using hown, ⟨rfl, rfl, rfl, Nat.le_refl _, fun _ _ _ => rfl⟩, .inl rfl⟩
    rcases hown.2 with ⟨rfl, rfl⟩ | ⟨g, cap, cur, rfl, _, _, hnc, _⟩
    · simp [Builtin.append_, run_underlying ht, sizeOf, typeInfo, hi, Builtin.lenOf, Builtin.firstCells]
    · simp [Builtin.append_, run_underlying ht, sizeOf, typeInfo, hi, Builtin.lenOf, Builtin.firstCells, hnc, storeCells]
  | some a =>
    obtain ⟨v', w', h2, h3, h4, _, h5⟩ := run_append_own_at (P := P) w base t ty e i z size bytes ht hi hz hsize hby hzs hsz v n xs hown a m c news hl (by
      rcases hnews with h | ⟨a', h, hc⟩
      · subst h
        obtain rfl : news = [] := List.eq_nil_of_length_eq_zero (by simpa using hl)
        intro j u hu
        simp at hu
      · injection h with h
        subst h
        exact hc) h1 h63 hbytes hbase
    exact ⟨v', w', h2, h3, h4, h5⟩
theorem wpList_append_any {P : Program} {w : World} {ops : Array Oper} {rest : List Oper} {o : Oper} {a : Act} {Q : Exit → Act → World → Prop} (hgd : o.guard = none) (s x : Operand) (t : TypeId)
    (ho : o.op = .call { callee := .builtin .append, args := #[s, x], argTypes := #[t, t] })
    (base : Nat) (e : TypeId) (i : TypeInfo) (z : Value) (size bytes : Nat) (ht : P.underlying t = some (.slice e)) (hi : P.info? e = some i) (hz : i.zero = some z)
    (hsize : i.size = size) (hby : i.bytes = bytes) (hzs : z.cells.size = size) (hsz : 0 < size)
    (v : Value) (n : Nat) (xs : List Value) (hs : a.eval s = v) (hown : w.ownsRow base e size v n xs)
    (g : Option Addr) (m c : Nat) (news : List Value) (hx : a.eval x = .slice g m c) (hl : news.length = m * size) (hnews : m = 0 ∨ ∃ a, g = some a ∧ ∀ j u, news[j]? = some u → w.cell? (a.add j) = some u) (h1 : ∀ u ∈ news, u.oneCell' = true)
    (h63 : n + m ≤ maxLen) (hbytes : (n + m) * bytes ≤ 140737488355328) (hbase : base ≤ w.heap.size)
    (h : ∀ v' w', w'.ownsRow base e size v' (n + m) (xs ++ news) → w.grownBy w' v.ownBlock → (v'.ownBlock = v.ownBlock ∨ v'.ownBlock = some w.heap.size) → wpList P ops Q rest (a.put o.dst v') w') : wpList P ops Q (o :: rest) a w := by
  obtain ⟨v', w', hr, h2, h3, h4⟩ := run_append_any (P := P) (w := w) base t o.type e i z size bytes ht hi hz hsize hby hzs hsz v n xs hown g m c news hl hnews h1 h63 hbytes hbase
  refine wpList_plain hgd fun K' hK' => ?_
  unfold Oper.wp execOp
  simp only [ho, resolve, invoke, builtin, Sem.run_bind, Sem.run_pure, Result.andThen_ok, List.map_toArray, List.map_cons, List.map_nil, hs, hx, hr]
  exact hK' _ _ (h v' w' h2 h3 h4)
end Go.Proofs.YtliapkajonbndaaGreatDoor

namespace Go.Proofs.YtliapkajonbndaaGreatDoor
open Go.RowKit

theorem Tryz.infoStr : (Tryz.prog.info? 9).map (fun i => (i.zero, i.size, i.bytes)) = some (some (.string ⟨#[]⟩), 1, 16) := by kernel_rfl
theorem findN_some : ∀ {tx : List UInt8} {ns : Names} {i : Nat}, findN tx ns = some i → ∃ h : i < ns.length, ns[i] = tx ∧ ∀ j (hj : j < ns.length), j < i → ns[j] ≠ tx
  | tx, [], i, h => by cases h
  | tx, x :: r, i, h => by
    unfold findN at h
    split at h
    · rename_i hx
      injection h with h
      subst h
      exact ⟨by simp, hx, fun j _ hj => absurd hj (Nat.not_lt_zero _)⟩
    · rename_i hx
      obtain ⟨k, hk, rfl⟩ := Option.map_eq_some_iff.1 h
      obtain ⟨h1, h2, h3⟩ := findN_some hk
      refine ⟨by simp; omega, by simpa using h2, fun j hj hji => ?_⟩
      cases j with
      | zero => exact hx
      | succ j => exact h3 j (by simpa using hj) (by omega)
theorem findN_none : ∀ {tx : List UInt8} {ns : Names}, findN tx ns = none → ∀ j (hj : j < ns.length), ns[j] ≠ tx
  | tx, [], _, j, hj => by simp at hj
  | tx, x :: r, h, j, hj => by
    unfold findN at h
    split at h
    · cases h
    · rename_i hx
      cases j with
      | zero => exact hx
      | succ j => exact findN_none (Option.map_eq_none_iff.1 h) j (by simpa using hj)
theorem own_pos {W : World} {base : Nat} {e : TypeId} {size : Nat} {v : Value} {k : Nat} {xs : List Value} (h : W.ownsRow base e size v k xs) (hk : 0 < k) : ∃ g cap, v = .slice (some ⟨g, 0, none⟩) k cap := by
  rcases h.2 with ⟨_, h0⟩ | ⟨g, cap, _, rfl, _⟩
  · omega
  · exact ⟨g, cap, rfl⟩
theorem namesP_at {w : World} {ok : Nat → Prop} {l : Names} {sv : Value} (h : namesP w ok l sv) (i : Nat) (hi : i < l.length) : ∃ b off cap, sv = .slice (some ⟨b, off, none⟩) l.length cap ∧ l.length ≤ cap ∧ ok b ∧ w.cell? ⟨b, off + i, none⟩ = some (.string ⟨l[i].toArray⟩) := by
  obtain ⟨g, cap, rfl, h1, h | ⟨b, off, rfl, hb, h⟩⟩ := h
  · subst h; simp at hi
  · exact ⟨b, off, cap, rfl, h1, hb, h i hi⟩
end Go.Proofs.YtliapkajonbndaaGreatDoor

namespace Go.Proofs.YtliapkajonbndaaGreatDoor
open Go.RowKit

abbrev RSt := Except (Nat × Nat) (Toks × Names)
def seeE (m : UInt8) : RSt → Bool
  | .ok (ts, _) => seeT m ts
  | .error _ => false
def needE (S : List UInt8) (m : UInt8) : RSt → RSt
  | .ok (ts, ns) => match needT S m ts with | .ok r => .ok (r, ns) | .error e => .error e
  | .error e => .error e
def stOf {α : Type} : RRes α → RSt
  | .ok (_, ts, ns) => .ok (ts, ns)
  | .error e => .error e
def valOf {α : Type} : RRes α → Option α
  | .ok (u, _, _) => some u
  | .error _ => none
def termE (S : List UInt8) (f p deep : Nat) : RSt → RRes Tm
  | .ok (ts, ns) => rdTerm S f p deep ts ns
  | .error e => .error e
def rowE (S : List UInt8) (f deep : Nat) : RSt → RRes (List Tm)
  | .ok (ts, ns) => rdRow S f deep ts ns
  | .error e => .error e
def restE (S : List UInt8) (f now p deep : Nat) : RRes Tm → RRes Tm
  | .ok (t, ts, ns) => rdRest S f t now p deep ts ns
  | .error e => .error e
/-- Tokens as texts have them. -/
structure Small (s : ByteArray) (L : Toks) : Prop where
  size : s.size ≤ 1000000
  len : L.length ≤ 1000000
  tok : ∀ x ∈ L, x.1.text.length ≤ 1000000 ∧ x.1.n ≤ 9223372036854775807 ∧ x.2 < s.size ∧ x.1.kind ≤ 5
/-- A term as a value, if there is one. -/
def TV (X : Nat → Prop) (W : World) (u : Option Tm) (k : Int) (nm : ByteArray) (n : Int) (sv : Value) : Prop :=
  (Lit.int .i64 k).wf = true ∧ (Lit.int .i64 n).wf = true ∧ (∃ g m c, sv = .slice g m c) ∧ ∀ t, u = some t → k = t.kind ∧ nm = t.name ∧ n = t.n ∧ Tm.innP W (okN X W) t sv
theorem TV.grown {X : Nat → Prop} {W W' : World} {rb : Nat} {u : Option Tm} {k : Int} {nm : ByteArray} {n : Int} {sv : Value} (h : TV X W u k nm n sv) (hX : X rb) (hg : W.grownBy W' (some rb)) : TV X W' u k nm n sv := by
  refine ⟨h.1, h.2.1, h.2.2.1, fun t ht => ?_⟩
  obtain ⟨h1, h2, h3, h4⟩ := h.2.2.2 t ht
  exact ⟨h1, h2, h3, Tm.innP_same (fun b hb => okN_grown hg b hb) (fun b o v hb hc => cell_grown hX hg b o v hb hc) t sv h4⟩
def aggT (k : Int) (nm : ByteArray) (n : Int) (sv : Value) : Value := .agg #[.int .i64 k, .string nm, .int .i64 n, sv]
/-- There is room: fuel for the tokens, few variables. -/
def Room (f k : Nat) (x : RSt) : Prop := ∀ ts ns, x = .ok (ts, ns) → 4 * ts.length + k ≤ f ∧ ns.length + ts.length ≤ 2000000
/-- A row of terms as the reader's functions make it, whatever they are. -/
def RowJ (X : Nat → Prop) (W : World) (m : Nat) (sv : Value) : Prop :=
  ∃ b off c, sv = .slice (some ⟨b, off, none⟩) m c ∧ m ≤ c ∧ okN X W b ∧ ∀ i, i < m → ∃ k nm n g' m' c', W.cell? ⟨b, off + i * 4, none⟩ = some (.int .i64 k) ∧ W.cell? ⟨b, off + i * 4 + 1, none⟩ = some (.string nm) ∧ W.cell? ⟨b, off + i * 4 + 2, none⟩ = some (.int .i64 n) ∧ W.cell? ⟨b, off + i * 4 + 3, none⟩ = some (.slice g' m' c')
end Go.Proofs.YtliapkajonbndaaGreatDoor

namespace Go.Proofs.YtliapkajonbndaaGreatDoor
open Go.RowKit

theorem rdRest_nil (S : List UInt8) (f : Nat) (t : Tm) (now p deep : Nat) (ns : Names) : rdRest S (f + 1) t now p deep [] ns = .ok (t, [], ns) := by rw [rdRest]
theorem rdRest_stop {S : List UInt8} {f : Nat} {t : Tm} {now p deep : Nat} {x : Tk × Nat} {r : Toks} {ns : Names} (h : opT now p (x :: r) = false) : rdRest S (f + 1) t now p deep (x :: r) ns = .ok (t, x :: r, ns) := by
  rw [rdRest, if_neg (by rw [h]; simp)]
theorem rdRest_go {S : List UInt8} {f : Nat} {t : Tm} {now p deep : Nat} {x : Tk × Nat} {r : Toks} {ns : Names} (h : opT now p (x :: r) = true) : rdRest S (f + 1) t now p deep (x :: r) ns = restE S f (infixP x.1.text).1 p deep (match rdTerm S f (infixP x.1.text).2.2 deep r ns with | .error e => .error e | .ok (u, r', ns') => .ok (funT (nmT x) [t, u], r', ns')) := by
  rw [rdRest, if_pos h]
  cases rdTerm S f (infixP x.1.text).2.2 deep r ns <;> rfl
theorem TV.ext {X X' : Nat → Prop} {W W' : World} {u : Option Tm} {k : Int} {nm : ByteArray} {n : Int} {sv : Value} (h : TV X W u k nm n sv) (hb : Below W.heap.size W W') (hX : ∀ b, X' b → X b ∨ W.heap.size ≤ b) : TV X' W' u k nm n sv := by
  refine ⟨h.1, h.2.1, h.2.2.1, fun t ht => ?_⟩
  obtain ⟨h1, h2, h3, h4⟩ := h.2.2.2 t ht
  exact ⟨h1, h2, h3, Tm.innP_same (fun b hb' => ⟨fun hx => by rcases hX b hx with h | h; exact hb'.1 h; have := hb'.2; omega, Nat.lt_of_lt_of_le hb'.2 hb.size⟩) (fun b o v hb' hv => (hb.cell (p := ⟨b, o, none⟩) hb'.2).trans hv) t sv h4⟩
theorem TV.less {X X' : Nat → Prop} {W : World} {u : Option Tm} {k : Int} {nm : ByteArray} {n : Int} {sv : Value} (h : TV X' W u k nm n sv) (hX : ∀ b, X b → X' b) : TV X W u k nm n sv := by
  refine ⟨h.1, h.2.1, h.2.2.1, fun t ht => ?_⟩
  obtain ⟨h1, h2, h3, h4⟩ := h.2.2.2 t ht
  exact ⟨h1, h2, h3, Tm.innP_same (fun b hb => ⟨fun hx => hb.1 (hX b hx), hb.2⟩) (fun _ _ _ _ h => h) t sv h4⟩
/-- What is left alone besides: the two boxes of the call. -/
def X2 (X : Nat → Prop) (tb : Nat) (b : Nat) : Prop := X b ∨ b = tb ∨ b = tb + 1
theorem row5t {w : World} {b : Nat} {a0 a1 a2 a3 a4 : Value} {t : TypeId} (h : w.heap[b]? = some (Obj.cells #[a0, a1, a2, a3, a4] t (0, 0))) :
    (w.cell? ⟨b, 0, none⟩ = some a0 ∧ w.cell? ⟨b, 1, none⟩ = some a1 ∧ w.cell? ⟨b, 2, none⟩ = some a2 ∧ w.cell? ⟨b, 3, none⟩ = some a3 ∧ w.cell? ⟨b, 4, none⟩ = some a4) ∧
    (w.frozen? ⟨b, 0, none⟩ = false ∧ w.frozen? ⟨b, 1, none⟩ = false ∧ w.frozen? ⟨b, 2, none⟩ = false ∧ w.frozen? ⟨b, 3, none⟩ = false ∧ w.frozen? ⟨b, 4, none⟩ = false) := by
  simp [World.cell?, World.frozen?, h]
theorem infixP_le (tx : List UInt8) : (infixP tx).1 ≤ 1200 ∧ (infixP tx).2.1 ≤ 1200 ∧ (infixP tx).2.2 ≤ 1200 := by
  unfold infixP
  repeat' split
  all_goals decide
/-- A term of two. -/
def madeE (x : Tk × Nat) (t : Tm) : RRes Tm → RRes Tm
  | .error e => .error e
  | .ok (u, r, ns) => .ok (funT (nmT x) [t, u], r, ns)
theorem madeE_st (x : Tk × Nat) (t : Tm) (r : RRes Tm) : stOf (madeE x t r) = stOf r := by cases r <;> rfl
theorem madeE_val (x : Tk × Nat) (t : Tm) (r : RRes Tm) : valOf (madeE x t r) = (valOf r).map (fun u => funT (nmT x) [t, u]) := by cases r <;> rfl
theorem madeE_ok {x : Tk × Nat} {t : Tm} {r : RRes Tm} {ts : Toks} {ns : Names} (h : stOf (madeE x t r) = .ok (ts, ns)) : ∃ u, r = .ok (u, ts, ns) := by
  rw [madeE_st] at h
  cases r with
  | error e => cases h
  | ok r => obtain ⟨u, ts', ns'⟩ := r; injection h with h; injection h with h1 h2; subst h1 h2; exact ⟨u, rfl⟩
def set4 (W : World) (b : Nat) (k : Int) (nm : ByteArray) (n : Int) (sv : Value) : World := (((W.setCell ⟨b, 0, none⟩ (.int .i64 k)).setCell ⟨b, 1, none⟩ (.string nm)).setCell ⟨b, 2, none⟩ (.int .i64 n)).setCell ⟨b, 3, none⟩ sv
theorem set4_grown (W : World) (b : Nat) (k : Int) (nm : ByteArray) (n : Int) (sv : Value) : W.grownBy (set4 W b k nm n sv) (some b) :=
  grown_trans (grown_trans (grown_trans (grown_set W b 0 _) (grown_set _ b 1 _) (fun _ e => .inl e)) (grown_set _ b 2 _) (fun _ e => .inl e)) (grown_set _ b 3 _) (fun _ e => .inl e)
theorem set4_blk {W : World} {b : Nat} {v0 v1 v2 v3 : Value} {t : TypeId} {fz : Nat × Nat} (h : W.heap[b]? = some (Obj.cells #[v0, v1, v2, v3] t fz)) (k : Int) (nm : ByteArray) (n : Int) (sv : Value) : (set4 W b k nm n sv).heap[b]? = some (.cells #[.int .i64 k, .string nm, .int .i64 n, sv] t fz) := set_blk (set_blk (set_blk (set_blk h)))
theorem pair_slice {W : World} {ok : Nat → Prop} {b : Nat} {t u : Tm} {sv sv' : Value} {T : TypeId} {fz : Nat × Nat} (h : W.heap[b]? = some (Obj.cells #[.int .i64 t.kind, .string t.name, .int .i64 t.n, sv, .int .i64 u.kind, .string u.name, .int .i64 u.n, sv'] T fz)) (hb : ok b) (ht : Tm.innP W ok t sv) (hu : Tm.innP W ok u sv') : Tm.sliceP W ok [t, u] (.slice (some ⟨b, 0, none⟩) 2 2) := by
  refine ⟨_, 2, rfl, by simp, by simp, .inr ⟨b, 0, rfl, hb, Tm.rowP_of_cells [t, u] [.int .i64 t.kind, .string t.name, .int .i64 t.n, sv, .int .i64 u.kind, .string u.name, .int .i64 u.n, sv'] 0 ⟨_, _, rfl, ht, _, _, rfl, hu, rfl⟩ fun j v hj => ?_⟩⟩
  simp only [World.cell?, h, Nat.zero_add]
  simpa using hj
end Go.Proofs.YtliapkajonbndaaGreatDoor

namespace Go.Proofs.YtliapkajonbndaaGreatDoor
open Go.RowKit

theorem Tryz.infoTmR : (Tryz.prog.info? 24).map (fun i => (i.zero, i.size, i.bytes)) = some (some (.agg #[.int .i64 0, .string ⟨#[]⟩, .int .i64 0, .slice none 0 0]), 4, 56) := by kernel_rfl
/-- Out of the row's block too. -/
def XV (X : Nat → Prop) (v : Value) (b : Nat) : Prop := X b ∨ v.ownBlock = some b
def rowF (S : List UInt8) (f deep : Nat) : RRes (List Tm) → RRes (List Tm)
  | .error e => .error e
  | .ok (l, ts, ns) => if seeT 44 ts = true then (match rdRow S f deep ts.tail ns with | .error e => .error e | .ok (l', r, n) => .ok (l ++ l', r, n)) else .ok (l, ts, ns)
def addE (l : List Tm) : RRes Tm → RRes (List Tm)
  | .error e => .error e
  | .ok (t, ts, ns) => .ok (l ++ [t], ts, ns)
theorem addE_st (l : List Tm) (r : RRes Tm) : stOf (addE l r) = stOf r := by cases r <;> rfl
theorem addE_val (l : List Tm) (r : RRes Tm) : valOf (addE l r) = (valOf r).map fun t => l ++ [t] := by cases r <;> rfl
theorem rdRow_eq (S : List UInt8) (f deep : Nat) (ts : Toks) (ns : Names) : rdRow S (f + 1) deep ts ns = rowF S f deep (addE [] (rdTerm S f 999 (deep + 1) ts ns)) := by
  rw [rdRow]
  cases rdTerm S f 999 (deep + 1) ts ns with
  | error e => rfl
  | ok r =>
    obtain ⟨t, r, ns1⟩ := r
    simp only [addE, rowF, List.nil_append]
    by_cases h : seeT 44 r = true
    · rw [if_pos h, if_pos h]
      cases rdRow S f deep r.tail ns1 <;> rfl
    · rw [if_neg h, if_neg h]
theorem rowF_step {S : List UInt8} {f deep : Nat} {l : List Tm} {ts : Toks} {ns : Names} (h : seeT 44 ts = true) : rowF S (f + 1) deep (.ok (l, ts, ns)) = rowF S f deep (addE l (rdTerm S f 999 (deep + 1) ts.tail ns)) := by
  simp only [rowF, if_pos h]
  rw [rdRow_eq]
  cases rdTerm S f 999 (deep + 1) ts.tail ns with
  | error e => rfl
  | ok r =>
    obtain ⟨t, r, ns1⟩ := r
    simp only [addE, rowF, List.nil_append]
    by_cases h : seeT 44 r = true
    · rw [if_pos h, if_pos h]
      cases rdRow S f deep r.tail ns1 with
      | error e => rfl
      | ok r => simp
    · rw [if_neg h, if_neg h]
theorem rowF_stop {S : List UInt8} {f deep : Nat} {y : RRes (List Tm)} (h : seeE 44 (stOf y) = false) : rowF S f deep y = y := by
  cases y with
  | error e => rfl
  | ok y =>
    obtain ⟨l, ts, ns⟩ := y
    have h1 : ¬ seeT 44 ts = true := by rw [show seeT 44 ts = seeE 44 (stOf (.ok (l, ts, ns))) from rfl, h]; simp
    simp only [rowF, if_neg h1]
theorem rowE_eq {S : List UInt8} {f deep : Nat} {x : RSt} (hroom : Room f 4 x) : rowE S f deep x = rowF S (f - 1) deep (addE [] (termE S (f - 1) 999 (deep + 1) x)) := by
  cases x with
  | error e => rfl
  | ok x =>
    obtain ⟨ts, ns⟩ := x
    have h0 := (hroom ts ns rfl).1
    obtain ⟨g, rfl⟩ : ∃ g, f = g + 1 := ⟨f - 1, by omega⟩
    exact rdRow_eq S g deep ts ns
/-- A term's values, whatever they are. -/
structure Raw where
  k : Int
  nm : ByteArray
  n : Int
  g : Option Addr
  m : Nat
  c : Nat
def Raw.vs (r : Raw) : List Value := [.int .i64 r.k, .string r.nm, .int .i64 r.n, .slice r.g r.m r.c]
theorem raw_at : ∀ (q : List Raw) (i j : Nat) (h : i < q.length), j < 4 → (q.flatMap Raw.vs)[i * 4 + j]? = (q[i].vs)[j]?
  | r :: q, 0, j, _, hj => by
    rw [List.flatMap_cons, List.getElem?_append_left (by simp [Raw.vs]; omega)]
    simp
  | r :: q, i + 1, j, h, hj => by
    rw [List.flatMap_cons, List.getElem?_append_right (by simp [Raw.vs]; omega)]
    have h1 : (i + 1) * 4 + j - r.vs.length = i * 4 + j := by simp [Raw.vs]; omega
    rw [h1]
    have h2 := raw_at q i j (by simpa using h) hj
    simpa using h2
theorem news4r (w : World) (k : Int) (nm : ByteArray) (n : Int) (sv : Value) (T : TypeId) (b : Nat) (hb : b = w.heap.size) : ∀ j u, ([.int .i64 k, .string nm, .int .i64 n, sv] : List Value)[j]? = some u → (w.alloc (.cells #[.int .i64 k, .string nm, .int .i64 n, sv] T)).cell? ((⟨b, 0, none⟩ : Addr).add j) = some u := by
  intro j u hj
  have h := newBlk w (.cells #[.int .i64 k, .string nm, .int .i64 n, sv] T) b hb
  rw [Addr.add_lit]
  simp only [World.cell?, h, Nat.zero_add]
  simpa using hj
/-- What grows: more blocks are left alone, those that are left alone may be written. -/
theorem okN_grow {X X' : Nat → Prop} {W W' : World} {r : Option Nat} (hg : W.grownBy W' r) (hX : ∀ b, X' b → X b ∨ W.heap.size ≤ b) (b : Nat) (h : okN X W b) : okN X' W' b :=
  ⟨fun hx => by rcases hX b hx with h1 | h1; exact h.1 h1; have := h.2; omega, Nat.lt_of_lt_of_le h.2 hg.size⟩
theorem cell_grow {X : Nat → Prop} {W W' : World} {r : Option Nat} (hg : W.grownBy W' r) (hr : ∀ b, r = some b → X b) (b o : Nat) (v : Value) (hb : okN X W b) (h : W.cell? ⟨b, o, none⟩ = some v) : W'.cell? ⟨b, o, none⟩ = some v := hg.cell h (fun e => hb.1 (hr b e.symm))
theorem grown_allc (w : World) (o : Obj) (r : Option Nat) : w.grownBy (w.alloc o) r :=
  have hb := (Below.refl w.heap.size w).alloc (Nat.le_refl _) o
  ⟨hb.os, hb.tape, hb.output, hb.size, fun q hq _ => hb.block q hq⟩
theorem room_term {S : List UInt8} {f p deep : Nat} {x : RSt} (h : Room f 4 x) : Room (f - 1) 0 (stOf (termE S (f - 1) p deep x)) := by
  intro ts ns e
  cases x with
  | error e' => cases e
  | ok x =>
    obtain ⟨ts0, ns0⟩ := x
    have h0 := h ts0 ns0 rfl
    cases hr : rdTerm S (f - 1) p deep ts0 ns0 with
    | error e' => rw [termE, hr] at e; cases e
    | ok r =>
      obtain ⟨u, r1, n1⟩ := r
      rw [termE, hr] at e
      injection e with e
      injection e with e1 e2
      subst e1 e2
      have h1 := (rd_went S (f - 1)).2.1 _ _ _ _ _ _ _ hr
      have h2 := h1.len
      have h3 := h1.nms
      exact ⟨by omega, by omega⟩
end Go.Proofs.YtliapkajonbndaaGreatDoor

namespace Go.Proofs.YtliapkajonbndaaGreatDoor
open Go.RowKit

def zeroTk : Tk × Nat := (⟨0, [], 0, false⟩, 0)
theorem wf64 {n : Int} (h1 : -9223372036854775808 ≤ n) (h2 : n ≤ 9223372036854775807) : (Lit.int .i64 n).wf = true := by
  show (decide (IntKind.i64.min ≤ n) && decide (n ≤ IntKind.i64.max)) = true
  rw [Bool.and_eq_true, decide_eq_true_eq, decide_eq_true_eq]
  exact ⟨h1, h2⟩
/-- A name with its brackets. -/
def openE (S : List UInt8) (f deep : Nat) (x : Tk × Nat) (st : RSt) : RRes (Tm × Nat) :=
  match rowE S f deep (needE S 40 st) with
  | .error e => .error e
  | .ok (l, r, n) => match needE S 41 (.ok (r, n)) with
    | .error e => .error e
    | .ok (r', n') => .ok ((funT (nmT x) l, 0), r', n')
theorem openE_eq (S : List UInt8) (f deep : Nat) (x : Tk × Nat) (ts : Toks) (ns : Names) : openE S f deep x (.ok (ts, ns)) = (match needT S 40 ts with
      | .error e => .error e
      | .ok r1 => match rdRow S f deep r1 ns with
        | .error e => .error e
        | .ok (l, r2, ns2) => match needT S 41 r2 with
          | .error e => .error e
          | .ok r3 => .ok ((funT (nmT x) l, 0), r3, ns2)) := by
  unfold openE needE
  dsimp only
  cases needT S 40 ts with
  | error e => rfl
  | ok r1 =>
    simp only [rowE]
    cases rdRow S f deep r1 ns with
    | error e => rfl
    | ok q =>
      obtain ⟨l, r2, ns2⟩ := q
      dsimp only
      cases needT S 41 r2 <;> rfl
theorem openE_st (S : List UInt8) (f deep : Nat) (x : Tk × Nat) (st : RSt) : stOf (openE S f deep x st) = needE S 41 (stOf (rowE S f deep (needE S 40 st))) := by
  unfold openE
  cases rowE S f deep (needE S 40 st) with
  | error e => rfl
  | ok r =>
    obtain ⟨l, r, n⟩ := r
    show stOf (match needE S 41 (.ok (r, n)) with | .error e => .error e | .ok (r', n') => .ok ((funT (nmT x) l, 0), r', n')) = needE S 41 (.ok (r, n))
    cases needE S 41 (.ok (r, n)) <;> rfl
theorem openE_val {S : List UInt8} {f deep : Nat} {x : Tk × Nat} {st : RSt} {u : Tm × Nat} (h : valOf (openE S f deep x st) = some u) : ∃ l, valOf (rowE S f deep (needE S 40 st)) = some l ∧ u = (funT (nmT x) l, 0) := by
  unfold openE at h
  cases hr : rowE S f deep (needE S 40 st) with
  | error e => rw [hr] at h; cases h
  | ok r =>
    obtain ⟨l, r, n⟩ := r
    rw [hr] at h
    dsimp only at h
    cases hn : needE S 41 (.ok (r, n)) with
    | error e => rw [hn] at h; cases h
    | ok q =>
      rw [hn] at h
      injection h with h
      exact ⟨l, rfl, h.symm⟩
theorem needE_room {S : List UInt8} {m : UInt8} {f k : Nat} {x : RSt} (h : Room f k x) : Room f (k + 4) (needE S m x) := by
  intro ts ns e
  cases x with
  | error e' => cases e
  | ok x =>
    obtain ⟨t0, n0⟩ := x
    have h0 := h t0 n0 rfl
    unfold needE at e
    dsimp only at e
    cases hn : needT S m t0 with
    | error e' => rw [hn] at e; cases e
    | ok r =>
      rw [hn] at e
      injection e with e
      injection e with e1 e2
      subst e1 e2
      have h1 := (Went.need (ns := n0) hn)
      have h2 := h1.len
      exact ⟨by omega, by omega⟩
theorem TV.fn {X : Nat → Prop} {W : World} {u : Option Tm} {nm : ByteArray} {g : Option Addr} {m c : Nat} (hs : nm.size ≤ maxLen) (h : ∀ t, u = some t → ∃ l, t = funT nm l ∧ Tm.sliceP W (okN X W) l (.slice g m c)) : TV X W u 3 nm 0 (.slice g m c) := by
  refine ⟨by decide, by decide, ⟨_, _, _, rfl⟩, fun t ht => ?_⟩
  obtain ⟨l, rfl, hl⟩ := h t ht
  refine ⟨rfl, rfl, rfl, ?_⟩
  rw [funT, Tm.innP_mk]
  exact ⟨⟨by decide, hs, by decide⟩, hl⟩
theorem sliceP_grow {X : Nat → Prop} {W W' : World} {r : Option Nat} {l : List Tm} {sv : Value} (h : Tm.sliceP W (okN X W) l sv) (hg : W.grownBy W' r) (hr : ∀ b, r = some b → X b) : Tm.sliceP W' (okN X W') l sv :=
  Tm.sliceP_same (fun t _ sv' ht => Tm.innP_same (okN_grow hg (fun _ hx => .inl hx)) (cell_grow hg hr) t sv' ht) (okN_grow hg (fun _ hx => .inl hx)) (cell_grow hg hr) h
def prefE (x : Tk × Nat) (q : Nat) : RRes Tm → RRes (Tm × Nat)
  | .error e => .error e
  | .ok (u, r, ns) => .ok ((funT (nmT x) [u], q), r, ns)
theorem prefE_st (x : Tk × Nat) (q : Nat) (r : RRes Tm) : stOf (prefE x q r) = stOf r := by cases r <;> rfl
theorem prefE_val (x : Tk × Nat) (q : Nat) (r : RRes Tm) : valOf (prefE x q r) = (valOf r).map (fun u => (funT (nmT x) [u], q)) := by cases r <;> rfl
theorem one_slice {W : World} {ok : Nat → Prop} {b : Nat} {t : Tm} {sv : Value} {T : TypeId} {fz : Nat × Nat} (h : W.heap[b]? = some (Obj.cells #[.int .i64 t.kind, .string t.name, .int .i64 t.n, sv] T fz)) (hb : ok b) (ht : Tm.innP W ok t sv) : Tm.sliceP W ok [t] (.slice (some ⟨b, 0, none⟩) 1 1) := by
  refine ⟨_, 1, rfl, by simp, by simp, .inr ⟨b, 0, rfl, hb, Tm.rowP_of_cells [t] [.int .i64 t.kind, .string t.name, .int .i64 t.n, sv] 0 ⟨_, _, rfl, ht, rfl⟩ fun j v hj => ?_⟩⟩
  simp only [World.cell?, h, Nat.zero_add]
  simpa using hj
/-- A term without arguments. -/
theorem TV.atom {X : Nat → Prop} {W : World} (t : Tm) (ha : t.args = []) (h1 : (Lit.int .i64 t.kind).wf = true) (h2 : (Lit.int .i64 t.n).wf = true) (h3 : t.name.size ≤ maxLen) : TV X W (some t) t.kind t.name t.n (.slice none 0 0) := by
  refine ⟨h1, h2, ⟨_, _, _, rfl⟩, fun u hu => ?_⟩
  obtain rfl : t = u := by simpa using hu
  refine ⟨rfl, rfl, rfl, ?_⟩
  obtain ⟨k, nm, n, l⟩ := t
  obtain rfl : l = [] := ha
  rw [Tm.innP_mk]
  exact ⟨⟨h1, h3, h2⟩, none, 0, rfl, by simp, by simp, .inl rfl⟩
end Go.Proofs.YtliapkajonbndaaGreatDoor
