/-
  What a store keeps in memory: its binds, and where each variable is bound; the program's find.
-/
import Derived.Test.YtgnbjhiafjpokaaPlc
import Derived.Test.YtgnbjhiafjpokaaFlat
import Derived.Test.YtgnbjhiafjpokaaRowT
import Derived.Test.YtgnbjhiafjpokaaUfEnd
namespace Go.Proofs.Ytgnbjhiafjpokaa
open Go.RowKit Go.Shelf Go.Maps

/-- A map from numbers to numbers. -/
def MapF (W : World) (m K : Nat) (f : Int → Option Nat) : Prop :=
  ∃ D, W.ownsMap Try.prog 3 (plainElem (H := Unit) Try.prog 3) m K D ∧ ∀ v, (∀ i, f v = some i → has D (.int .i64 v) = true ∧ D.atKey (.int .i64 v) (.lit (.int .i64 0)) = .lit (.int .i64 (i : Int))) ∧ (f v = none → has D (.int .i64 v) = false)
theorem MapF.lt {W : World} {m K : Nat} {f : Int → Option Nat} (h : MapF W m K f) : m < W.heap.size := by
  obtain ⟨D, h1, _⟩ := h
  exact h1.lt
theorem MapF.of_block {W W' : World} {m K : Nat} {f : Int → Option Nat} (h : MapF W m K f) (hb : W'.heap[m]? = W.heap[m]?) : MapF W' m K f := by
  obtain ⟨D, ⟨es, ck, h1, r⟩, h2⟩ := h
  exact ⟨D, ⟨es, ck, hb.trans h1, r⟩, h2⟩
theorem MapF.mono {W : World} {m K K' : Nat} {f : Int → Option Nat} (h : MapF W m K f) (hK : K ≤ K') : MapF W m K' f := by
  obtain ⟨D, h1, h2⟩ := h
  exact ⟨D, h1.mono hK, h2⟩
theorem MapF.congr {W : World} {m K : Nat} {f g : Int → Option Nat} (h : MapF W m K f) (e : ∀ v, f v = g v) : MapF W m K g := by
  rw [← funext e]; exact h
theorem MapF.made (W : World) : MapF (W.alloc (.map #[] 0)) W.heap.size 0 (fun _ => none) :=
  ⟨.map [], World.ownsMap_made W Try.prog 3 (plainElem (H := Unit) Try.prog 3), fun _ => ⟨(fun _ h => by cases h), fun _ => rfl⟩⟩
theorem MapF.put {W W' : World} {m K : Nat} {f : Int → Option Nat} {D : DataW Unit} {u : Int} {i : Nat} (h0 : W.ownsMap Try.prog 3 (plainElem (H := Unit) Try.prog 3) m K D)
    (h : ∀ v, (∀ i, f v = some i → has D (.int .i64 v) = true ∧ D.atKey (.int .i64 v) (.lit (.int .i64 0)) = .lit (.int .i64 (i : Int))) ∧ (f v = none → has D (.int .i64 v) = false))
    (hw : W'.ownsMap Try.prog 3 (plainElem (H := Unit) Try.prog 3) m (K + 1) (D.put (.int .i64 u) (.lit (.int .i64 (i : Int))))) : MapF W' m (K + 1) (upd f u i) := by
  have hk : WideAt.IsKeyLit (.int .i64 u) := by simp [WideAt.IsKeyLit]
  refine ⟨_, hw, fun v => ⟨fun j hj => ?_, fun hj => ?_⟩⟩
  · unfold upd at hj
    split at hj
    · rename_i e
      subst e
      cases hj
      exact ⟨has_put_same h0.isMap hk _, atKey_put_same h0.isMap hk _ _⟩
    · rename_i e
      have hne : Lit.int .i64 v ≠ .int .i64 u := by simpa using e
      rw [has_put_other hne, atKey_put_other hne]
      exact (h v).1 j hj
  · unfold upd at hj
    split at hj
    · cases hj
    · rename_i e
      have hne : Lit.int .i64 v ≠ .int .i64 u := by simpa using e
      rw [has_put_other hne]
      exact (h v).2 hj
theorem wpList_lookup_f (w : World) {ops : Array Oper} {rest : List Oper} {o : Oper} {a : Act} {Q : Exit → Act → World → Prop}
    (hg : o.guard = none) (m x : Operand) (hop : o.op = Op.lookup 93 m x true) (b K : Nat) (f : Int → Option Nat) (hm : a.eval m = .map (some b)) (h : MapF w b K f)
    (v : Int) (hx : a.eval x = .int .i64 v) (hwf : (Lit.int .i64 v).wf = true) (c : Int) (q : Bool) (hc : (q = true ∧ ∃ p : Nat, f v = some p ∧ c = p) ∨ (q = false ∧ f v = none ∧ c = 0))
    (hK : wpList Try.prog ops Q rest (a.put o.dst (.tuple #[.int .i64 c, .bool q])) w) : wpList Try.prog ops Q (o :: rest) a w := by
  obtain ⟨D, hown, hD⟩ := h
  refine wpList_lookup_own_ok_int w hg m x 93 hop 3 3 .i64 (Maps.int_keyed Try.underlying3) Try.underlying93 Try.underlying3 (Try.zeroInt w) b K D hm hown _ _ hx (Maps.keyOf_int_mk Try.underlying3 hwf) fun c' hat _ => ?_
  rcases hc with ⟨rfl, p, hp, rfl⟩ | ⟨rfl, hp, rfl⟩
  · obtain ⟨h1, h2⟩ := (hD v).1 p hp
    rw [h2] at hat
    rw [h1]
    simp only [DataW.lit.injEq, Lit.int.injEq, true_and] at hat
    rw [← hat]
    exact hK
  · have h1 := (hD v).2 hp
    rw [atKey_of_not_has h1] at hat
    rw [h1]
    simp only [DataW.lit.injEq, Lit.int.injEq, true_and] at hat
    rw [← hat]
    exact hK
set_option maxRecDepth 100000 in
theorem wpList_lookup_f_nil (w : World) {ops : Array Oper} {rest : List Oper} {o : Oper} {a : Act} {Q : Exit → Act → World → Prop}
    (hg : o.guard = none) (m x : Operand) (hop : o.op = Op.lookup 93 m x true) (hm : a.eval m = .map none) (v : Int) (hx : a.eval x = .int .i64 v) (hwf : (Lit.int .i64 v).wf = true)
    (hK : wpList Try.prog ops Q rest (a.put o.dst (.tuple #[.int .i64 0, .bool false])) w) : wpList Try.prog ops Q (o :: rest) a w := by
  refine wpList_plain hg fun K' hK' => ?_
  have hrun := Maps.look_nil (w := w) true (Maps.int_keyed Try.underlying3) Try.underlying93 (Try.zeroInt w) (Maps.keyOf_int_mk Try.underlying3 hwf)
  unfold Oper.wp
  simp only [execOp, hop, hm, hx]
  exact hK' _ _ hK

/-- A store in memory: l, in the order in which it was bound; what it binds lies below block B, itself from there on. -/
structure SMem (W : World) (B sb : Nat) (l : List Bd) (K : Nat) (svS mv : Value) (xs : List Value) : Prop where
  box : W.heap[sb]? = some (.cells #[svS, mv] 95 (0, 0))
  row : W.ownsRow B 33 5 svS l.length xs
  cells : cellsB W (fun b => b < B) l xs
  map : (mv = .map none ∧ l = []) ∨ ∃ m, mv = .map (some m) ∧ MapF W m K (place l) ∧ B ≤ m ∧ svS.ownBlock ≠ some m ∧ m ≠ sb
  lo : B ≤ sb
  sep : svS.ownBlock ≠ some sb
  ok : okL l
  len : l.length ≤ 1000
def SIn (W : World) (B sb : Nat) (l : List Bd) (K : Nat) : Prop := ∃ svS mv xs, SMem W B sb l K svS mv xs
theorem SMem.keep {W W' : World} {B sb : Nat} {l : List Bd} {K : Nat} {svS mv : Value} {xs : List Value} (h : SMem W B sb l K svS mv xs) (hb : ∀ b, b < W.heap.size → W'.heap[b]? = W.heap[b]?) : SMem W' B sb l K svS mv xs := by
  have hsb : sb < W.heap.size := (Array.getElem?_eq_some_iff.1 h.box).1
  have hlo := h.lo
  refine ⟨(hb sb hsb).trans h.box, ?_, cellsB_same (fun _ h => h) (fun b o v hlt hc => (World.cell?_of_block (a := ⟨b, o, none⟩) (hb b (by omega))).trans hc) l xs h.cells, ?_, h.lo, h.sep, h.ok, h.len⟩
  · refine ⟨h.row.1, ?_⟩
    rcases h.row.2 with hn | ⟨g, cap, cur, rfl, h1, h2, h3⟩
    · exact .inl hn
    · exact .inr ⟨g, cap, cur, rfl, h1, (hb g (Array.getElem?_eq_some_iff.1 h2).1).trans h2, h3⟩
  · rcases h.map with hm | ⟨m, e, h1, h2⟩
    · exact .inl hm
    · exact .inr ⟨m, e, h1.of_block (hb m h1.lt), h2⟩
theorem SMem.next {W W' : World} {B sb : Nat} {l : List Bd} {K : Nat} {svS mv : Value} {xs : List Value} (h : SMem W B sb l K svS mv xs) (hb : Below W.heap.size W W') : SMem W' B sb l K svS mv xs := h.keep hb.block
/-- All of a store lies below some block. -/
structure SLow (lo sb : Nat) (svS mv : Value) : Prop where
  box : sb < lo
  row : ∀ b, svS.ownBlock = some b → b < lo
  map : ∀ m, mv = .map (some m) → m < lo
theorem SMem.low {W : World} {B sb : Nat} {l : List Bd} {K : Nat} {svS mv : Value} {xs : List Value} (h : SMem W B sb l K svS mv xs) : SLow W.heap.size sb svS mv := by
  refine ⟨(Array.getElem?_eq_some_iff.1 h.box).1, fun b e => (h.row.lt b e).2, fun m e => ?_⟩
  rcases h.map with ⟨hm, _⟩ | ⟨m', e', h1, _⟩
  · rw [hm] at e; cases e
  · rw [e'] at e; cases e; exact h1.lt
theorem SMem.far {W W' : World} {B sb lo : Nat} {l : List Bd} {K : Nat} {svS mv : Value} {xs : List Value} (h : SMem W B sb l K svS mv xs) (hl : SLow lo sb svS mv) (hb : Below lo W W') : SMem W' B sb l K svS mv xs := by
  have hlo := h.lo
  have hsb := hl.box
  refine ⟨(hb.block sb hl.box).trans h.box, ?_, cellsB_same (fun _ h => h) (fun b o v hlt hc => (World.cell?_of_block (a := ⟨b, o, none⟩) (hb.block b (by omega))).trans hc) l xs h.cells, ?_, h.lo, h.sep, h.ok, h.len⟩
  · refine ⟨h.row.1, ?_⟩
    rcases h.row.2 with hn | ⟨g, cap, cur, rfl, h1, h2, h3⟩
    · exact .inl hn
    · exact .inr ⟨g, cap, cur, rfl, h1, (hb.block g (hl.row g rfl)).trans h2, h3⟩
  · rcases h.map with hm | ⟨m, e, h1, h2⟩
    · exact .inl hm
    · exact .inr ⟨m, e, h1.of_block (hb.block m (hl.map m e)), h2⟩
/-- What a walk wants of the store's bind i. -/
theorem SMem.get {W : World} {B sb : Nat} {l : List Bd} {K : Nat} {svS mv : Value} {xs : List Value} (h : SMem W B sb l K svS mv xs) (i : Nat) (hi : i < l.length) :
    ∃ g c sv, svS = .slice (some ⟨g, 0, none⟩) l.length c ∧ B ≤ g ∧ g < W.heap.size ∧ W.cell? ⟨g, i * 5, none⟩ = some (.int .i64 l[i].v) ∧ W.cell? ⟨g, i * 5 + 1, none⟩ = some (.int .i64 l[i].t.kind) ∧ W.cell? ⟨g, i * 5 + 2, none⟩ = some (.string l[i].t.name) ∧
      W.cell? ⟨g, i * 5 + 3, none⟩ = some (.int .i64 l[i].t.n) ∧ W.cell? ⟨g, i * 5 + 4, none⟩ = some sv ∧ Tm.inn W B l[i].t sv := by
  rcases h.row.2 with ⟨_, h0⟩ | ⟨g, cap, cur, e, h1, h2, h3⟩
  · omega
  · have hob : svS.ownBlock = some g := by rw [e]; rfl
    obtain ⟨sv, c0, c1, c2, c3, c4, c5⟩ := rowB_of_cells (B := B) (b := g) (fun _ h => h) l xs 0 h.cells (fun j u hj => by
      have := World.ownsRow.cells h.row (g := g) hob j u hj
      simpa [Addr.add_lit] using this) i hi
    simp only [Nat.zero_add] at c0 c1 c2 c3 c4
    exact ⟨g, cap, sv, e, h1, (h.row.lt g hob).2, c0, c1, c2, c3, c4, c5⟩
theorem SMem.slice {W : World} {B sb : Nat} {l : List Bd} {K : Nat} {svS mv : Value} {xs : List Value} (h : SMem W B sb l K svS mv xs) : ∃ g c, svS = .slice g l.length c := by
  rcases h.row.2 with ⟨e, h0⟩ | ⟨g, cap, cur, e, _⟩
  · exact ⟨none, 0, by rw [e, h0]⟩
  · exact ⟨_, _, e⟩
theorem set4_from (W : World) {n b : Nat} (hb : n ≤ b) (a0 a1 a2 a3 : Value) : Below n W (set4 W b a0 a1 a2 a3) :=
  (((((Below.refl n W).setCell (p := ⟨b, 0, none⟩) hb _).setCell (p := ⟨b, 1, none⟩) hb _).setCell (p := ⟨b, 2, none⟩) hb _).setCell (p := ⟨b, 3, none⟩) hb _)
theorem row2 {w : World} {b : Nat} {a0 a1 : Value} {t : TypeId} (h : w.heap[b]? = some (Obj.cells #[a0, a1] t (0, 0))) :
    (w.cell? ⟨b, 0, none⟩ = some a0 ∧ w.cell? ⟨b, 1, none⟩ = some a1) ∧ w.frozen? ⟨b, 0, none⟩ = false ∧ w.frozen? ⟨b, 1, none⟩ = false := by
  simp [World.cell?, World.frozen?, h]

/-- What find tells. -/
def SFindPost (l : List Bd) (B : Nat) (v : Int) (w : World) (e : Ending) (w' : World) : Prop :=
  Below w.heap.size w w' ∧ ∃ t g c q, e = .returned (.tuple #[.agg #[.int .i64 t.kind, .string t.name, .int .i64 t.n, .slice g t.args.length c], .bool q]) ∧
    ((q = true ∧ ∃ p, ∃ hp : p < l.length, place l v = some p ∧ t = l[p].t ∧ Tm.inn w' B t (.slice g t.args.length c)) ∨ (q = false ∧ place l v = none))
theorem wpList_lookup_find {w : World} {ops : Array Oper} {rest : List Oper} {o : Oper} {a : Act} {Q : Exit → Act → World → Prop} {l : List Bd} {K : Nat} {mv : Value}
    (hg : o.guard = none) (m x : Operand) (hop : o.op = Op.lookup 93 m x true) (hm : a.eval m = mv) (h : (mv = .map none ∧ l = []) ∨ ∃ b, mv = .map (some b) ∧ MapF w b K (place l))
    (v : Int) (hx : a.eval x = .int .i64 v) (hwf : (Lit.int .i64 v).wf = true) (c : Int) (q : Bool) (hc : (q = true ∧ ∃ p : Nat, place l v = some p ∧ c = p) ∨ (q = false ∧ place l v = none ∧ c = 0))
    (hK : wpList Try.prog ops Q rest (a.put o.dst (.tuple #[.int .i64 c, .bool q])) w) : wpList Try.prog ops Q (o :: rest) a w := by
  rcases h with ⟨rfl, rfl⟩ | ⟨b, rfl, hf⟩
  · rcases hc with ⟨rfl, p, hp, _⟩ | ⟨rfl, _, rfl⟩
    · cases hp
    · exact wpList_lookup_f_nil w hg m x hop hm v hx hwf hK
  · exact wpList_lookup_f w hg m x hop b K _ hm hf v hx hwf c q hc hK
set_option maxRecDepth 100000 in
set_option maxHeartbeats 2000000 in
theorem sfind_any (l : List Bd) (B sb K : Nat) (v : Int) (w : World) (svS mv : Value) (xs : List Value) (hS : SMem w B sb l K svS mv xs) (hwf : (Lit.int .i64 v).wf = true) :
    Calls Try.prog 89 #[.pointer (some ⟨sb, 0, none⟩), .int .i64 v] w fun e w' => SFindPost l B v w e w' := by
  obtain ⟨⟨c0, c1⟩, _, _⟩ := row2 hS.box
  obtain ⟨gs, cs, rfl⟩ := hS.slice
  have hS2 := hS.keep (W' := w.alloc (.cells #[.int .i64 0, .string ⟨#[]⟩, .int .i64 0, .slice none 0 0] 27)) (fun b hb => Below.heap_alloc _ _ _ hb)
  have hmm : (mv = .map none ∧ l = []) ∨ ∃ b, mv = .map (some b) ∧ MapF (w.alloc (.cells #[.int .i64 0, .string ⟨#[]⟩, .int .i64 0, .slice none 0 0] 27)) b K (place l) := by
    rcases hS2.map with h | ⟨m, e, h1, _⟩
    · exact .inl h
    · exact .inr ⟨m, e, h1⟩
  have hsl := hS.low.box
  have hlen := hS.len
  have HW := Lib.hid hwf
  have HM := Lib.hid hmm
  have HS := Lib.hid hS
  clear hwf hmm hS2
  cases hp : place l v with
  | some p =>
    obtain ⟨hpl, hpv, _⟩ := place_some hp
    obtain ⟨g, c, sv, e1, hBg, hgl, g0, g1, g2, g3, g4, hin⟩ := hS.get p hpl
    injection e1 with e2 e3 e4
    subst e2 e4
    obtain ⟨ga, ca, rfl⟩ := inn_sl hin
    have HIN := Lib.hid hin
    have HP := Lib.hid hp
    have HEQ := Lib.hid hpv
    have hi0 : (0 : Int) ≤ (p : Int) := by omega
    have hi1 : (p : Int) < (l.length : Int) := by omega
    clear hS hin hp hpv
    go_enter Try.func89, Try.ntmps89
    go_wp2_with (at_lookup; refine wpList_lookup_find rfl _ _ rfl rfl HM.out v rfl HW.out (p : Int) true (.inl ⟨rfl, p, HP.out, rfl⟩) ?_)
    refine bodyPost_ret (v := .tuple #[.agg #[.int .i64 l[p].t.kind, .string l[p].t.name, .int .i64 l[p].t.n, .slice ga l[p].t.args.length ca], .bool true]) (by simp [results, Try.results89, go_sem]) rfl ?_
    have hb := set4_below ((Below.refl w.heap.size w).alloc (Nat.le_refl _) (.cells #[.int .i64 0, .string ⟨#[]⟩, .int .i64 0, .slice none 0 0] 27)) (Nat.le_refl _) (.int .i64 l[p].t.kind) (.string l[p].t.name) (.int .i64 l[p].t.n) (.slice ga l[p].t.args.length ca)
    have hlo := HS.out.lo
    have hbb : Below w.heap.size w (w.alloc (.cells #[.int .i64 l[p].t.kind, .string l[p].t.name, .int .i64 l[p].t.n, .slice ga l[p].t.args.length ca] 27)) := (Below.refl _ _).alloc (Nat.le_refl _) _
    exact ⟨hbb, l[p].t, ga, ca, true, rfl, .inl ⟨rfl, p, hpl, HP.out, rfl, Tm.inn_below HIN.out hbb (by omega)⟩⟩
  | none =>
    have HP := Lib.hid hp
    clear hS hp
    go_enter Try.func89, Try.ntmps89
    go_wp2_with (at_lookup; refine wpList_lookup_find rfl _ _ rfl rfl HM.out v rfl HW.out 0 false (.inr ⟨rfl, HP.out, rfl⟩) ?_)
    refine bodyPost_ret (v := .tuple #[.agg #[.int .i64 0, .string ⟨#[]⟩, .int .i64 0, .slice none 0 0], .bool false]) (by simp [results, Try.results89, go_sem]) rfl ?_
    exact ⟨(Below.refl _ _).alloc (Nat.le_refl _) _, .mk 0 ⟨#[]⟩ 0 [], none, 0, false, rfl, .inr ⟨rfl, HP.out⟩⟩
end Go.Proofs.Ytgnbjhiafjpokaa
