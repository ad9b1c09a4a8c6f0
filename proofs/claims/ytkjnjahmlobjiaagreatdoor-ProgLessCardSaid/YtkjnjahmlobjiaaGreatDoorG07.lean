/-
  The document's One at digits.
  The document's One at a sign of its own, and at brackets.
  The document's One at a sign that is a name, at brackets that are one, at quotes.
  The document's One at signs, and at a byte that begins no token.
  The document's One, at whatever byte.
  The document's Tokens.
  Tokens in memory.
  The document's reader in memory; its fail, see, need.
  The document's operators, by their texts.
  append, whatever is appended: nothing too.
  The document's variables: the number of a text.
  The document's reader: what its functions are to do, whether something is amiss or not.
  Whether variables have no Args, and the document's variables, purely.
  The document's own answers: the variables of terms.
  The document's own answers: the variables of a row of terms.
  The document's vars and fair.
-/
import Derived.Test.YtkjnjahmlobjiaaGreatDoorLxA
import Derived.Test.YtkjnjahmlobjiaaGreatDoorG02
import Derived.Maps.AppendAt
import Derived.Test.YtkjnjahmlobjiaaGreatDoorG05
import Derived.BigQuiet
import Derived.Deep.QuietTactic
import Derived.StillTailTactics
import Derived.Test.YtkjnjahmlobjiaaGreatDoorChecked
import Derived.WalkKit
import Derived.RegionTactic
import Derived.Deep.CutRange
import Derived.Deep.LoopGhost
import Derived.Deep.RegionHeld3
import Derived.Test.YtkjnjahmlobjiaaGreatDoorG01
import Derived.Deep.DeepCutAuto
namespace Go.Proofs.YtkjnjahmlobjiaaGreatDoor
open Go.RowKit

end Go.Proofs.YtkjnjahmlobjiaaGreatDoor

namespace Go.Proofs.YtkjnjahmlobjiaaGreatDoor
open Go.RowKit

end Go.Proofs.YtkjnjahmlobjiaaGreatDoor

namespace Go.Proofs.YtkjnjahmlobjiaaGreatDoor
open Go.RowKit

end Go.Proofs.YtkjnjahmlobjiaaGreatDoor

namespace Go.Proofs.YtkjnjahmlobjiaaGreatDoor
open Go.RowKit

end Go.Proofs.YtkjnjahmlobjiaaGreatDoor

namespace Go.Proofs.YtkjnjahmlobjiaaGreatDoor
open Go.RowKit

end Go.Proofs.YtkjnjahmlobjiaaGreatDoor

namespace Go.Proofs.YtkjnjahmlobjiaaGreatDoor
open Go.RowKit

/-- A token's cells. -/
def tokC (x : Tk × Nat) : List Value := [.int .i64 (x.1.kind : Nat), .string ⟨x.1.text.toArray⟩, .int .i64 (x.1.n : Nat), .int .i64 (x.2 : Nat), .bool x.1.opn]
theorem lnews {w : World} {L : List Value} {t : TypeId} (H : Nat) (hH : w.heap.size = H) : ∀ (j : Nat) (u : Value), L[j]? = some u → (w.alloc (.cells L.toArray t)).cell? ((⟨H, 0, none⟩ : Addr).add j) = some u := by
  subst hH
  intro j u hu
  rw [Addr.add_lit]
  simp only [Nat.zero_add, World.cell?]
  rw [lnewBlk w (.cells L.toArray t)]
  simpa using hu
theorem bs_mk {x : ByteArray} {l : List UInt8} (h : bs x = l) : x = ⟨l.toArray⟩ := by
  subst h
  cases x
  simp [bs]
end Go.Proofs.YtkjnjahmlobjiaaGreatDoor

namespace Go.Proofs.YtkjnjahmlobjiaaGreatDoor
open Go.RowKit

/-- Tokens in memory. -/
def toksIn (w : World) (B : Nat) (l : List (Tk × Nat)) (sv : Value) : Prop :=
  ∃ g cap, sv = .slice g l.length cap ∧ (l = [] ∨ ∃ b off, g = some ⟨b, off, none⟩ ∧ b < B ∧ ∀ i (h : i < l.length),
    w.cell? ⟨b, off + i * 5, none⟩ = some (.int .i64 (l[i].1.kind : Nat)) ∧ w.cell? ⟨b, off + i * 5 + 1, none⟩ = some (.string ⟨l[i].1.text.toArray⟩) ∧ w.cell? ⟨b, off + i * 5 + 2, none⟩ = some (.int .i64 (l[i].1.n : Nat)) ∧ w.cell? ⟨b, off + i * 5 + 3, none⟩ = some (.int .i64 (l[i].2 : Nat)) ∧ w.cell? ⟨b, off + i * 5 + 4, none⟩ = some (.bool l[i].1.opn))
theorem tok_get (l : List (Tk × Nat)) (i : Nat) (h : i < l.length) (j : Nat) (hj : j < 5) : (l.flatMap tokC)[i * 5 + j]? = (tokC l[i])[j]? := by
  induction l generalizing i with
  | nil => simp at h
  | cons x r ih =>
    rw [List.flatMap_cons]
    have hx : (tokC x).length = 5 := rfl
    cases i with
    | zero => rw [List.getElem?_append_left (by rw [hx]; omega)]; simp
    | succ k =>
      rw [List.getElem?_append_right (by rw [hx]; omega), hx, show (k + 1) * 5 + j - 5 = k * 5 + j by omega, ih k (by simpa using h)]
      rfl
theorem toksIn_of_owns {W : World} {base : Nat} {ty : TypeId} {l : List (Tk × Nat)} {sv : Value} (h : W.ownsRow base ty 5 sv l.length (l.flatMap tokC)) : toksIn W W.heap.size l sv := by
  rcases h.2 with ⟨rfl, h0⟩ | ⟨g, cap, cur, rfl, _⟩
  · have : l = [] := List.eq_nil_of_length_eq_zero h0
    subst this
    exact ⟨none, 0, rfl, .inl rfl⟩
  · refine ⟨_, cap, rfl, .inr ⟨g, 0, rfl, (h.lt g rfl).2, fun i hi => ?_⟩⟩
    have key : ∀ j (hj : j < 5) u, (tokC l[i])[j]? = some u → W.cell? ⟨g, 0 + i * 5 + j, none⟩ = some u := fun j hj u hu => by
      have h1 := h.cells (g := g) rfl (i * 5 + j) u (by rw [tok_get l i hi j hj]; exact hu)
      rw [Addr.add_lit] at h1
      rw [Nat.add_assoc]
      exact h1
    exact ⟨key 0 (by decide) _ rfl, key 1 (by decide) _ rfl, key 2 (by decide) _ rfl, key 3 (by decide) _ rfl, key 4 (by decide) _ rfl⟩
end Go.Proofs.YtkjnjahmlobjiaaGreatDoor

namespace Go.Proofs.YtkjnjahmlobjiaaGreatDoor
open Go.RowKit

/-- A row of texts in memory, in blocks that 'ok' allows. -/
def namesP (w : World) (ok : Nat → Prop) (l : Names) (sv : Value) : Prop :=
  ∃ g cap, sv = .slice g l.length cap ∧ l.length ≤ cap ∧ (l = [] ∨ ∃ b off, g = some ⟨b, off, none⟩ ∧ ok b ∧ ∀ i (h : i < l.length), w.cell? ⟨b, off + i, none⟩ = some (.string ⟨l[i].toArray⟩))
theorem namesP_same {w w' : World} {ok ok' : Nat → Prop} {l : Names} {sv : Value} (hB : ∀ b, ok b → ok' b) (hc : ∀ b o v, ok b → w.cell? ⟨b, o, none⟩ = some v → w'.cell? ⟨b, o, none⟩ = some v) (h : namesP w ok l sv) : namesP w' ok' l sv := by
  obtain ⟨g, cap, rfl, h1, h⟩ := h
  refine ⟨g, cap, rfl, h1, ?_⟩
  rcases h with h | ⟨b, off, rfl, hb, h⟩
  · exact .inl h
  · exact .inr ⟨b, off, rfl, hB b hb, fun i hi => hc b _ _ hb (h i hi)⟩
/-- Tokens in memory, in a block that 'ok' allows. -/
def toksP (w : World) (ok : Nat → Prop) (l : Toks) (sv : Value) : Prop :=
  ∃ g cap, sv = .slice g l.length cap ∧ (l = [] ∨ ∃ b off, g = some ⟨b, off, none⟩ ∧ ok b ∧ ∀ i (h : i < l.length),
    w.cell? ⟨b, off + i * 5, none⟩ = some (.int .i64 (l[i].1.kind : Nat)) ∧ w.cell? ⟨b, off + i * 5 + 1, none⟩ = some (.string ⟨l[i].1.text.toArray⟩) ∧ w.cell? ⟨b, off + i * 5 + 2, none⟩ = some (.int .i64 (l[i].1.n : Nat)) ∧ w.cell? ⟨b, off + i * 5 + 3, none⟩ = some (.int .i64 (l[i].2 : Nat)) ∧ w.cell? ⟨b, off + i * 5 + 4, none⟩ = some (.bool l[i].1.opn))
theorem toksP_same {w w' : World} {ok : Nat → Prop} {l : Toks} {sv : Value} (hc : ∀ b o v, ok b → w.cell? ⟨b, o, none⟩ = some v → w'.cell? ⟨b, o, none⟩ = some v) (h : toksP w ok l sv) : toksP w' ok l sv := by
  obtain ⟨g, cap, rfl, h⟩ := h
  refine ⟨g, cap, rfl, ?_⟩
  rcases h with h | ⟨b, off, rfl, hb, h⟩
  · exact .inl h
  · refine .inr ⟨b, off, rfl, hb, fun i hi => ?_⟩
    obtain ⟨h0, h1, h2, h3, h4⟩ := h i hi
    exact ⟨hc _ _ _ hb h0, hc _ _ _ hb h1, hc _ _ _ hb h2, hc _ _ _ hb h3, hc _ _ _ hb h4⟩
theorem toksP_at {w : World} {ok : Nat → Prop} {l : Toks} {sv : Value} (h : toksP w ok l sv) (i : Nat) (hi : i < l.length) : ∃ b off cap, sv = .slice (some ⟨b, off, none⟩) l.length cap ∧ ok b ∧
    w.cell? ⟨b, off + i * 5, none⟩ = some (.int .i64 (l[i].1.kind : Nat)) ∧ w.cell? ⟨b, off + i * 5 + 1, none⟩ = some (.string ⟨l[i].1.text.toArray⟩) ∧ w.cell? ⟨b, off + i * 5 + 2, none⟩ = some (.int .i64 (l[i].1.n : Nat)) ∧ w.cell? ⟨b, off + i * 5 + 3, none⟩ = some (.int .i64 (l[i].2 : Nat)) ∧ w.cell? ⟨b, off + i * 5 + 4, none⟩ = some (.bool l[i].1.opn) := by
  obtain ⟨g, cap, rfl, h | ⟨b, off, rfl, hb, h⟩⟩ := h
  · subst h; simp at hi
  · exact ⟨b, off, cap, rfl, hb, h i hi⟩
/-- Blocks that are none of those that stores go to. -/
def okN (X : Nat → Prop) (W : World) (b : Nat) : Prop := ¬ X b ∧ b < W.heap.size
theorem set_blk {w : World} {b o : Nat} {v : Value} {cs : Array Value} {t : TypeId} {fz : Nat × Nat} (h : w.heap[b]? = some (Obj.cells cs t fz)) : (w.setCell ⟨b, o, none⟩ v).heap[b]? = some (.cells (cs.setIfInBounds o v) t fz) := by
  obtain ⟨hlt, hk⟩ := Array.getElem?_eq_some_iff.1 h
  show (w.heap.modify b _)[b]? = _
  rw [Array.getElem?_eq_getElem (by rw [Array.size_modify]; exact hlt), Array.getElem_modify_self, hk]
  rfl
theorem okN_grown {X : Nat → Prop} {W W' : World} {r : Option Nat} (hg : W.grownBy W' r) (b : Nat) (h : okN X W b) : okN X W' b := ⟨h.1, Nat.lt_of_lt_of_le h.2 hg.size⟩
theorem cell_grown {X : Nat → Prop} {W W' : World} {rb : Nat} (hX : X rb) (hg : W.grownBy W' (some rb)) (b o : Nat) (v : Value) (hb : okN X W b) (h : W.cell? ⟨b, o, none⟩ = some v) : W'.cell? ⟨b, o, none⟩ = some v := hg.cell h (fun e => hb.1 (by cases e; exact hX))
theorem grown_set (W : World) (b o : Nat) (v : Value) : W.grownBy (W.setCell ⟨b, o, none⟩ v) (some b) :=
  ⟨rfl, rfl, rfl, by simp [World.setCell], fun k _ hk => Below.heap_setCell _ _ _ k (fun e => hk (by rw [e]))⟩
end Go.Proofs.YtkjnjahmlobjiaaGreatDoor

namespace Go.Proofs.YtkjnjahmlobjiaaGreatDoor
open Go.RowKit

end Go.Proofs.YtkjnjahmlobjiaaGreatDoor

namespace Go.Proofs.YtkjnjahmlobjiaaGreatDoor
open Go.RowKit

/-- append, whatever is appended: nothing too. -/
theorem run_append_any {P : Program} {w : World} (base : Nat) (t ty e : TypeId) (i : TypeInfo) (z : Value) (size bytes : Nat) (ht : P.underlying t = some (.slice e)) (hi : P.info? e = some i) (hz : i.zero = some z)
    (hsize : i.size = size) (hby : i.bytes = bytes) (hzs : z.cells.size = size) (hsz : 0 < size)
    (v : Value) (n : Nat) (xs : List Value) (hown : w.ownsRow base e size v n xs)
    (g : Option Addr) (m c : Nat) (news : List Value) (hl : news.length = m * size) (hnews : m = 0 ∨ ∃ a, g = some a ∧ ∀ j u, news[j]? = some u → w.cell? (a.add j) = some u) (h1 : ∀ u ∈ news, u.oneCell' = true)
    (h63 : n + m ≤ maxLen) (hbytes : (n + m) * bytes ≤ 140737488355328) (hbase : base ≤ w.heap.size) :
    ∃ v' w', (Builtin.append_ #[t, t] ty #[v, .slice g m c]).run P w = .ok v' w' ∧ w'.ownsRow base e size v' (n + m) (xs ++ news) ∧ w.grownBy w' v.ownBlock ∧
      (v'.ownBlock = v.ownBlock ∨ v'.ownBlock = some w.heap.size) := by
  cases g with
  | none =>
    obtain rfl : m = 0 := by
      rcases hnews with h | ⟨a, h, _⟩
      · exact h
      · cases h
    obtain rfl : news = [] := List.eq_nil_of_length_eq_zero (by simpa using hl)
    refine ⟨v, w, ?_, by simpa using hown, ⟨rfl, rfl, rfl, Nat.le_refl _, fun _ _ _ => rfl⟩, .inl rfl⟩
    rcases hown.2 with ⟨rfl, rfl⟩ | ⟨g, cap, cur, rfl, _, _, hnc, _⟩
    · simp [Builtin.append_, run_underlying ht, sizeOf, typeInfo, hi, Builtin.lenOf, Builtin.firstCells]
    · simp [Builtin.append_, run_underlying ht, sizeOf, typeInfo, hi, Builtin.lenOf, Builtin.firstCells, hnc, storeCells]
  | some a =>
    obtain ⟨v', w', h2, h3, h4, _, h5⟩ := run_append_own_at (P := P) w base t ty e i z size bytes ht hi hz hsize hby hzs hsz v n xs hown a m c news hl (by
      rcases hnews with h | ⟨a', h, hc⟩
      · subst h
        obtain rfl : news = [] := List.eq_nil_of_length_eq_zero (by simpa using hl)
        intro j u hu
        simp at hu
      · injection h with h
        subst h
        exact hc) h1 h63 hbytes hbase
    exact ⟨v', w', h2, h3, h4, h5⟩
theorem wpList_append_any {P : Program} {w : World} {ops : Array Oper} {rest : List Oper} {o : Oper} {a : Act} {Q : Exit → Act → World → Prop} (hgd : o.guard = none) (s x : Operand) (t : TypeId)
    (ho : o.op = .call { callee := .builtin .append, args := #[s, x], argTypes := #[t, t] })
    (base : Nat) (e : TypeId) (i : TypeInfo) (z : Value) (size bytes : Nat) (ht : P.underlying t = some (.slice e)) (hi : P.info? e = some i) (hz : i.zero = some z)
    (hsize : i.size = size) (hby : i.bytes = bytes) (hzs : z.cells.size = size) (hsz : 0 < size)
    (v : Value) (n : Nat) (xs : List Value) (hs : a.eval s = v) (hown : w.ownsRow base e size v n xs)
    (g : Option Addr) (m c : Nat) (news : List Value) (hx : a.eval x = .slice g m c) (hl : news.length = m * size) (hnews : m = 0 ∨ ∃ a, g = some a ∧ ∀ j u, news[j]? = some u → w.cell? (a.add j) = some u) (h1 : ∀ u ∈ news, u.oneCell' = true)
    (h63 : n + m ≤ maxLen) (hbytes : (n + m) * bytes ≤ 140737488355328) (hbase : base ≤ w.heap.size)
    (h : ∀ v' w', w'.ownsRow base e size v' (n + m) (xs ++ news) → w.grownBy w' v.ownBlock → (v'.ownBlock = v.ownBlock ∨ v'.ownBlock = some w.heap.size) → wpList P ops Q rest (a.put o.dst v') w') : wpList P ops Q (o :: rest) a w := by
  obtain ⟨v', w', hr, h2, h3, h4⟩ := run_append_any (P := P) (w := w) base t o.type e i z size bytes ht hi hz hsize hby hzs hsz v n xs hown g m c news hl hnews h1 h63 hbytes hbase
  refine wpList_plain hgd fun K' hK' => ?_
  unfold Oper.wp execOp
  simp only [ho, resolve, invoke, builtin, Sem.run_bind, Sem.run_pure, Result.andThen_ok, List.map_toArray, List.map_cons, List.map_nil, hs, hx, hr]
  exact hK' _ _ (h v' w' h2 h3 h4)
end Go.Proofs.YtkjnjahmlobjiaaGreatDoor

namespace Go.Proofs.YtkjnjahmlobjiaaGreatDoor
open Go.RowKit

theorem Tryz.infoStr : (Tryz.prog.info? 9).map (fun i => (i.zero, i.size, i.bytes)) = some (some (.string ⟨#[]⟩), 1, 16) := by kernel_rfl
theorem findN_some : ∀ {tx : List UInt8} {ns : Names} {i : Nat}, findN tx ns = some i → ∃ h : i < ns.length, ns[i] = tx ∧ ∀ j (hj : j < ns.length), j < i → ns[j] ≠ tx
  | tx, [], i, h => by cases h
  | tx, x :: r, i, h => by
    unfold findN at h
    split at h
    · rename_i hx
      injection h with h
      subst h
      exact ⟨by simp, hx, fun j _ hj => absurd hj (Nat.not_lt_zero _)⟩
    · rename_i hx
      obtain ⟨k, hk, rfl⟩ := Option.map_eq_some_iff.1 h
      obtain ⟨h1, h2, h3⟩ := findN_some hk
      refine ⟨by simp; omega, by simpa using h2, fun j hj hji => ?_⟩
      cases j with
      | zero => exact hx
      | succ j => exact h3 j (by simpa using hj) (by omega)
theorem findN_none : ∀ {tx : List UInt8} {ns : Names}, findN tx ns = none → ∀ j (hj : j < ns.length), ns[j] ≠ tx
  | tx, [], _, j, hj => by simp at hj
  | tx, x :: r, h, j, hj => by
    unfold findN at h
    split at h
    · cases h
    · rename_i hx
      cases j with
      | zero => exact hx
      | succ j => exact findN_none (Option.map_eq_none_iff.1 h) j (by simpa using hj)
theorem own_pos {W : World} {base : Nat} {e : TypeId} {size : Nat} {v : Value} {k : Nat} {xs : List Value} (h : W.ownsRow base e size v k xs) (hk : 0 < k) : ∃ g cap, v = .slice (some ⟨g, 0, none⟩) k cap := by
  rcases h.2 with ⟨_, h0⟩ | ⟨g, cap, _, rfl, _⟩
  · omega
  · exact ⟨g, cap, rfl⟩
end Go.Proofs.YtkjnjahmlobjiaaGreatDoor

namespace Go.Proofs.YtkjnjahmlobjiaaGreatDoor
open Go.RowKit

abbrev RSt := Except (Nat × Nat) (Toks × Names)
def seeE (m : UInt8) : RSt → Bool
  | .ok (ts, _) => seeT m ts
  | .error _ => false
def needE (S : List UInt8) (m : UInt8) : RSt → RSt
  | .ok (ts, ns) => match needT S m ts with | .ok r => .ok (r, ns) | .error e => .error e
  | .error e => .error e
def valOf {α : Type} : RRes α → Option α
  | .ok (u, _, _) => some u
  | .error _ => none
def termE (S : List UInt8) (f p deep : Nat) : RSt → RRes Tm
  | .ok (ts, ns) => rdTerm S f p deep ts ns
  | .error e => .error e
def rowE (S : List UInt8) (f deep : Nat) : RSt → RRes (List Tm)
  | .ok (ts, ns) => rdRow S f deep ts ns
  | .error e => .error e
def restE (S : List UInt8) (f now p deep : Nat) : RRes Tm → RRes Tm
  | .ok (t, ts, ns) => rdRest S f t now p deep ts ns
  | .error e => .error e
/-- A term as a value, if there is one. -/
def TV (X : Nat → Prop) (W : World) (u : Option Tm) (k : Int) (nm : ByteArray) (n : Int) (sv : Value) : Prop :=
  (Lit.int .i64 k).wf = true ∧ (Lit.int .i64 n).wf = true ∧ (∃ g m c, sv = .slice g m c) ∧ ∀ t, u = some t → k = t.kind ∧ nm = t.name ∧ n = t.n ∧ Tm.innP W (okN X W) t sv
theorem TV.grown {X : Nat → Prop} {W W' : World} {rb : Nat} {u : Option Tm} {k : Int} {nm : ByteArray} {n : Int} {sv : Value} (h : TV X W u k nm n sv) (hX : X rb) (hg : W.grownBy W' (some rb)) : TV X W' u k nm n sv := by
  refine ⟨h.1, h.2.1, h.2.2.1, fun t ht => ?_⟩
  obtain ⟨h1, h2, h3, h4⟩ := h.2.2.2 t ht
  exact ⟨h1, h2, h3, Tm.innP_same (fun b hb => okN_grown hg b hb) (fun b o v hb hc => cell_grown hX hg b o v hb hc) t sv h4⟩
/-- There is room: fuel for the tokens, few variables. -/
def Room (f k : Nat) (x : RSt) : Prop := ∀ ts ns, x = .ok (ts, ns) → 4 * ts.length + k ≤ f ∧ ns.length + ts.length ≤ 2000000
/-- A row of terms as the reader's functions make it, whatever they are. -/
def RowJ (X : Nat → Prop) (W : World) (m : Nat) (sv : Value) : Prop :=
  ∃ b off c, sv = .slice (some ⟨b, off, none⟩) m c ∧ m ≤ c ∧ okN X W b ∧ ∀ i, i < m → ∃ k nm n g' m' c', W.cell? ⟨b, off + i * 4, none⟩ = some (.int .i64 k) ∧ W.cell? ⟨b, off + i * 4 + 1, none⟩ = some (.string nm) ∧ W.cell? ⟨b, off + i * 4 + 2, none⟩ = some (.int .i64 n) ∧ W.cell? ⟨b, off + i * 4 + 3, none⟩ = some (.slice g' m' c')
end Go.Proofs.YtkjnjahmlobjiaaGreatDoor

namespace Go.Proofs.YtkjnjahmlobjiaaGreatDoor
open Go.RowKit

namespace Tm
end Tm
end Go.Proofs.YtkjnjahmlobjiaaGreatDoor

namespace Go.Proofs.YtkjnjahmlobjiaaGreatDoor
open Go.RowKit

def ownInts (w : World) (base : Nat) (v : Value) (l : List Int) : Prop := w.ownsRow base 3 1 v l.length (l.map (Value.int .i64))

theorem ownInts.alloc {X : World} {base : Nat} {v : Value} {l : List Int} (h : ownInts X base v l) (o : Obj) : ownInts (X.alloc o) base v l := World.ownsRow.alloc h o
theorem ownInts.drew {X : World} {base : Nat} {v : Value} {l : List Int} (h : ownInts X base v l) : ownInts X.drew base v l := h
/-- What stays while the row is made: what lay ahead, and the term's box. -/
def WSt (w W : World) : Prop := Below w.heap.size w W ∧ w.heap.size < W.heap.size
theorem WSt.alloc {w W : World} {n : Int} (h : W.cell? ⟨w.heap.size, 2, none⟩ = some (.int .i64 n) ∧ WSt w W) (o : Obj) : (W.alloc o).cell? ⟨w.heap.size, 2, none⟩ = some (.int .i64 n) ∧ WSt w (W.alloc o) :=
  ⟨by rw [World.cell?_alloc_old _ _ _ (Nat.ne_of_lt h.2.2)]; exact h.1, h.2.1.alloc (by have := h.2.2; omega) o, by have := h.2.2; simp; omega⟩
theorem WSt.drew {w W : World} {n : Int} (h : W.cell? ⟨w.heap.size, 2, none⟩ = some (.int .i64 n) ∧ WSt w W) : (W.drew).cell? ⟨w.heap.size, 2, none⟩ = some (.int .i64 n) ∧ WSt w (W.drew) :=
  ⟨h.1, h.2.1.drew, h.2.2⟩
theorem WSt.grown {w W W' : World} {n : Int} {row : Option Nat} (h : W.cell? ⟨w.heap.size, 2, none⟩ = some (.int .i64 n) ∧ WSt w W) (hg : W.grownBy W' row) (hr : ∀ j, row = some j → w.heap.size + 1 ≤ j) :
    W'.cell? ⟨w.heap.size, 2, none⟩ = some (.int .i64 n) ∧ WSt w W' :=
  ⟨hg.cell h.1 (fun e => by have := hr _ e.symm; simp at this; omega), h.2.1.grown hg (by have := h.2.2; omega) (fun k e => by have := hr k e; omega), by have := hg.size; have := h.2.2; omega⟩

end Go.Proofs.YtkjnjahmlobjiaaGreatDoor

namespace Go.Proofs.YtkjnjahmlobjiaaGreatDoor
open Go.RowKit

end Go.Proofs.YtkjnjahmlobjiaaGreatDoor

namespace Go.Proofs.YtkjnjahmlobjiaaGreatDoor
open Go.RowKit

theorem dg_one {W : World} {t : Tm} {sv : Value} {b : Nat} (hb : W.heap[b]? = some (Obj.cells #[.int .i64 t.kind, .string t.name, .int .i64 t.n, sv] 34 (0, 0))) (ht : Tm.inn W W.heap.size t sv) : Tm.sliceIn W W.heap.size [t] (.slice (some ⟨b, 0, none⟩) 1 1) := by
  refine ⟨_, 1, rfl, Nat.le_refl _, by simp, .inr ⟨b, 0, rfl, (Array.getElem?_eq_some_iff.1 hb).1, ?_⟩⟩
  simp only [Tm.rowIn]
  refine ⟨⟨sv, ?_, ?_, ?_, ?_, ht⟩, trivial⟩ <;> simp [World.cell?, hb]
/-- A term in a box of the call's own. -/
structure DB (w0 : World) (t : Tm) (sv : Value) (bx : Nat) (W : World) : Prop where
  low : Below w0.heap.size w0 W
  bk : W.heap[bx]? = some (.cells #[.int .i64 t.kind, .string t.name, .int .i64 t.n, sv] 34 (0, 0))
  hi : Tm.inn W W.heap.size t sv
theorem DB.lt {w0 : World} {t : Tm} {sv : Value} {bx : Nat} {W : World} (h : DB w0 t sv bx W) : bx < W.heap.size := (Array.getElem?_eq_some_iff.1 h.bk).1
theorem dg_next {W W' : World} {t : Tm} {sv : Value} (h : Tm.inn W W.heap.size t sv) (hb : Below W.heap.size W W') : Tm.inn W' W'.heap.size t sv := Tm.inn_mono (Tm.inn_below h hb (Nat.le_refl _)) hb.size
theorem DB.next {w0 : World} {t : Tm} {sv : Value} {bx : Nat} {W W' : World} (h : DB w0 t sv bx W) (hb : Below W.heap.size W W') : DB w0 t sv bx W' :=
  ⟨h.low.trans (hb.mono h.low.size), (hb.block _ h.lt).trans h.bk, dg_next h.hi hb⟩
theorem DB.new {t : Tm} {sv : Value} {w : World} (hi : Tm.inn w w.heap.size t sv) : DB w t sv w.heap.size (w.alloc (.cells #[.int .i64 t.kind, .string t.name, .int .i64 t.n, sv] 34)) := by
  have hb := (Below.refl w.heap.size w).alloc (Nat.le_refl _) (.cells #[.int .i64 t.kind, .string t.name, .int .i64 t.n, sv] 34)
  exact ⟨hb, heap_alloc_new w _, dg_next hi hb⟩
section
variable {w0 : World} {t : Tm} {sv : Value} {bx : Nat} {W : World} (k : DB w0 t sv bx W)
include k
theorem DB.c0 : W.cell? ⟨bx, 0, none⟩ = some (.int .i64 t.kind) := by simp [World.cell?, k.bk]
theorem DB.c1 : W.cell? ⟨bx, 1, none⟩ = some (.string t.name) := by simp [World.cell?, k.bk]
theorem DB.c2 : W.cell? ⟨bx, 2, none⟩ = some (.int .i64 t.n) := by simp [World.cell?, k.bk]
theorem DB.c3 : W.cell? ⟨bx, 3, none⟩ = some sv := by simp [World.cell?, k.bk]
end
end Go.Proofs.YtkjnjahmlobjiaaGreatDoor
