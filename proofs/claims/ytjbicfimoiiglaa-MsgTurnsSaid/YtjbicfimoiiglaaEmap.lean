/-
  A term that is built as long as there is room: no program here.
  A map from variables to terms, in memory; the program's end of a chain.
-/
import Derived.Test.YtjbicfimoiiglaaSub
import Derived.Test.YtjbicfimoiiglaaBds
import Derived.Maps.OwnOps
import Derived.Maps.OwnSet
import Derived.Maps.AppendAt
namespace Go.Proofs.Ytjbicfimoiiglaa
open Go.RowKit

namespace Tm
def zero : Tm := .mk 0 ⟨#[]⟩ 0 []
mutual
/-- What is built of a term, and how much room is left. -/
def cut : Tm → Nat → Tm × Nat
  | .mk k s n l, room => if room = 0 then (.mk 0 ⟨#[]⟩ 0 [], 0) else (.mk k s n (cuts l (room - 1)).1, (cuts l (room - 1)).2)
def cuts : List Tm → Nat → List Tm × Nat
  | [], room => ([], room)
  | t :: r, room => ((t.cut room).1 :: (cuts r (t.cut room).2).1, (cuts r (t.cut room).2).2)
end
theorem cuts_snoc (l : List Tm) (t : Tm) : ∀ room : Nat, cuts (l ++ [t]) room = ((cuts l room).1 ++ [(t.cut (cuts l room).2).1], (t.cut (cuts l room).2).2) := by
  induction l with
  | nil => intro room; simp [cuts]
  | cons u r ih => intro room; simp [cuts, ih]
theorem cuts_length (l : List Tm) : ∀ room : Nat, (cuts l room).1.length = l.length := by
  induction l with
  | nil => intro room; simp [cuts]
  | cons u r ih => intro room; simp [cuts, ih]
theorem cuts_le (l : List Tm) (h : ∀ t ∈ l, ∀ room, (t.cut room).2 ≤ room) : ∀ room : Nat, (cuts l room).2 ≤ room := by
  induction l with
  | nil => intro room; simp [cuts]
  | cons u r ih =>
    intro room
    simp only [cuts]
    have h1 := h u (by simp) room
    have h2 := ih (fun t ht => h t (by simp [ht])) (u.cut room).2
    omega
theorem cut_le : ∀ (t : Tm) (room : Nat), (t.cut room).2 ≤ room := ind fun k s n l ih room => by
  simp only [cut]
  split
  · omega
  · have := cuts_le l ih (room - 1)
    simp only
    omega
/-- There is room for all of it. -/
theorem cuts_all (l : List Tm) (h : ∀ t ∈ l, ∀ room, t.size ≤ room → t.cut room = (t, room - t.size)) : ∀ room : Nat, sizes l ≤ room → cuts l room = (l, room - sizes l) := by
  induction l with
  | nil => intro room _; simp [cuts, sizes]
  | cons u r ih =>
    intro room hr
    simp only [sizes] at hr
    have h1 := h u (by simp) room (by omega)
    have h2 := ih (fun t ht => h t (by simp [ht])) (room - u.size) (by omega)
    simp only [cuts, h1, h2, sizes]
    rw [show room - u.size - sizes r = room - (u.size + sizes r) by omega]
theorem cut_all : ∀ (t : Tm) (room : Nat), t.size ≤ room → t.cut room = (t, room - t.size) := ind fun k s n l ih room h => by
  simp only [size] at h
  have := cuts_all l ih (room - 1) (by omega)
  simp only [cut, this, size]
  rw [if_neg (by omega), show room - 1 - sizes l = room - (sizes l + 1) by omega]
/-- There is none: what is built is not right. -/
theorem cuts_over (l : List Tm) (h : ∀ t ∈ l, ∀ room, room < t.size → (t.cut room).1.fair = false ∧ (t.cut room).2 = 0) (h0 : ∀ t ∈ l, ∀ room, t.size ≤ room → t.cut room = (t, room - t.size)) :
    ∀ room : Nat, room < sizes l → fairs (cuts l room).1 = false ∧ (cuts l room).2 = 0 := by
  induction l with
  | nil => intro room hr; simp [sizes] at hr
  | cons u r ih =>
    intro room hr
    simp only [sizes] at hr
    simp only [cuts, fairs, Bool.and_eq_false_iff]
    by_cases hu : room < u.size
    · obtain ⟨h1, h2⟩ := h u (by simp) room hu
      refine ⟨.inl h1, ?_⟩
      rw [h2]
      have := cuts_le r (fun t _ room => cut_le t room) 0
      omega
    · rw [h0 u (by simp) room (by omega)]
      obtain ⟨h1, h2⟩ := ih (fun t ht => h t (by simp [ht])) (fun t ht => h0 t (by simp [ht])) (room - u.size) (by omega)
      exact ⟨.inr h1, h2⟩
theorem cut_over : ∀ (t : Tm) (room : Nat), room < t.size → (t.cut room).1.fair = false ∧ (t.cut room).2 = 0 := ind fun k s n l ih room h => by
  simp only [size] at h
  simp only [cut]
  by_cases hr : room = 0
  · subst hr
    simp [fair, alone]
  · rw [if_neg hr]
    obtain ⟨h1, h2⟩ := cuts_over l ih (fun t _ => cut_all t) (room - 1) (by omega)
    refine ⟨?_, h2⟩
    simp only [fair, h1, Bool.and_false, Bool.false_and]
theorem cuts_sizes (l : List Tm) (h : ∀ t ∈ l, ∀ room, (t.cut room).1.size + 8 * (t.cut room).2 ≤ 8 * room + 1) : ∀ room : Nat, sizes (cuts l room).1 + 8 * (cuts l room).2 ≤ 8 * room + l.length := by
  induction l with
  | nil => intro room; simp [cuts, sizes]
  | cons u r ih =>
    intro room
    have h1 := h u (by simp) room
    have h2 := ih (fun t ht => h t (by simp [ht])) (u.cut room).2
    simp only [cuts, sizes, List.length_cons]
    omega
theorem fair_args {k : Int} {s : ByteArray} {n : Int} {l : List Tm} (h : (Tm.mk k s n l).fair = true) : l.length ≤ 8 := by
  have h3 := (fair_alone h).2.2
  simp only [alone] at h3
  split at h3
  · simp at h3; simp [h3.2]
  · split at h3
    · simp at h3; simp [h3.2]
    · split at h3
      · simp at h3; omega
      · cases h3
theorem cut_size : ∀ (t : Tm), t.fair = true → ∀ room, (t.cut room).1.size + 8 * (t.cut room).2 ≤ 8 * room + 1 := ind fun k s n l ih h room => by
  have hl := fair_args h
  have hc := cuts_sizes l (fun t ht room => ih t ht ((fair_alone h).2.1 t ht) room) (room - 1)
  simp only [cut]
  split
  · simp [size, sizes]
  · simp only [size]; omega
/-- What is built of a fair term is right just if that is. -/
theorem cut_right (t : Tm) : (t.cut 3000).1.right = t.right ∧ (t.right = true → (t.cut 3000).1 = t) := by
  by_cases hs : t.size ≤ 3000
  · rw [cut_all t 3000 hs]
    exact ⟨rfl, fun _ => rfl⟩
  · have h1 := (cut_over t 3000 (by omega)).1
    have h2 : t.right = false := by simp [right]; intro _ h; omega
    exact ⟨by rw [h2]; simp [right, h1], fun h3 => by rw [h2] at h3; cases h3⟩
theorem cut_kind (t : Tm) {room : Nat} (h : room ≠ 0) : (t.cut room).1.kind = t.kind ∧ (t.cut room).1.name = t.name ∧ (t.cut room).1.n = t.n ∧ (t.cut room).1.args = (cuts t.args (room - 1)).1 ∧ (t.cut room).2 = (cuts t.args (room - 1)).2 := by
  obtain ⟨k, s, n, l⟩ := t
  simp [cut, h, kind, name, Tm.n, args]

/-- What a term with its own room is: what it becomes, if that is small enough and no deeper than that. -/
def fits (t : Tm) (m d : Int) : Prop := (t.size : Int) ≤ m ∧ (t.deep : Int) ≤ d
theorem fitsArgs {l : List Tm} : ∀ {m d : Int}, ((sizes l : Int) ≤ m ∧ (deeps l : Int) ≤ d) ↔ ((sizes l : Int) ≤ m ∧ ∀ t ∈ l, (t.deep : Int) ≤ d) ∧ (deeps l : Int) ≤ d := fun {m d} => by
  constructor
  · rintro ⟨h1, h2⟩
    refine ⟨⟨h1, fun t ht => ?_⟩, h2⟩
    have : ∀ (r : List Tm), t ∈ r → t.deep ≤ deeps r := by
      intro r
      induction r with
      | nil => intro h; cases h
      | cons u q ih =>
        intro h
        simp only [deeps]
        rcases List.mem_cons.1 h with rfl | h
        · omega
        · have := ih h; omega
    have := this l ht
    omega
  · rintro ⟨⟨h1, _⟩, h2⟩
    exact ⟨h1, h2⟩
end Tm
/-- What a chain's end is. -/
structure EndOK (l : List Bd) (σ : Int → Tm) (x e : Tm) : Prop where
  fair : e.fair = true
  stop : e.kind = 1 → place l e.n = none
  same : e.bnd σ = x.bnd σ
theorem EndOK.self {l : List Bd} {σ : Int → Tm} {x : Tm} (h : x.fair = true) (hs : x.kind = 1 → place l x.n = none) : EndOK l σ x x := ⟨h, hs, rfl⟩
theorem EndOK.args {l : List Bd} {σ : Int → Tm} (hσ : Sol l σ) {x e : Tm} (h : EndOK l σ x e) : x.bnd σ = .mk e.kind e.name e.n (Tm.bnds σ e.args) := by
  rw [← h.same]
  obtain ⟨k, s, n, ts⟩ := e
  by_cases hk : k = 1
  · subst hk
    have hv := Tm.fair_var h.fair
    have hp := h.stop rfl
    have h1 := hσ.free n hp
    have hts : ts = [] := by have := hv.1; simp only [vTm, Tm.mk.injEq] at this; exact this.2.2.2
    subst hts
    rw [hv.1, Tm.bnd_var, h1]
    rfl
  · simp [Tm.bnd, hk, Tm.kind, Tm.name, Tm.n, Tm.args]
end Go.Proofs.Ytjbicfimoiiglaa

namespace Go.Proofs.Ytjbicfimoiiglaa
open Go.RowKit Go.Shelf Go.Maps

/-- A term that a map holds reads as itself. -/
def heldElem (v : Value) : Option (DataW Value × List MemPlace) := some (.held v, [])
def zeroV : Value := .agg #[.int .i64 0, .string ⟨#[]⟩, .int .i64 0, .slice none 0 0]
theorem Try.zeroTm (w : World) : (zeroValue 24).run Try.prog w = .ok zeroV w := by kernel_rfl

theorem wpList_lookup_tm (w : World) {ops : Array Oper} {rest : List Oper} {o : Oper} {a : Act} {Q : Exit → Act → World → Prop}
    (hg : o.guard = none) (m x : Operand) (hop : o.op = Op.lookup 71 m x true) (b n : Nat) (D : DataW Value) (hm : a.eval m = .map (some b)) (hown : w.ownsMap Try.prog 3 heldElem b n D)
    (v : Int) (hx : a.eval x = .int .i64 v) (hwf : (Lit.int .i64 v).wf = true) (u : Value) (q : Bool)
    (hat : (q = true ∧ ∀ zd, D.atKey (.int .i64 v) zd = .held u) ∨ (q = false ∧ u = zeroV ∧ ∀ zd, D.atKey (.int .i64 v) zd = zd))
    (hK : wpList Try.prog ops Q rest (a.put o.dst (.tuple #[u, .bool q])) w) : wpList Try.prog ops Q (o :: rest) a w := by
  refine wpList_lookup_own_ok w hg m x 71 hop 3 24 (Maps.int_keyed Try.underlying3) Try.underlying71 heldElem (Try.zeroTm w) (.held zeroV) [] rfl b n D hm hown _ _ hx (Maps.keyOf_int_mk Try.underlying3 hwf) fun v' ps hv => ?_
  simp only [heldElem, Option.some.injEq, Prod.mk.injEq] at hv
  rcases hat with ⟨rfl, h⟩ | ⟨rfl, rfl, h⟩
  · rw [h] at hv
    rw [Maps.has_true_of_atKey h]
    have := hv.1
    simp only [DataW.held.injEq] at this
    rw [this]; exact hK
  · rw [h] at hv
    rw [Maps.has_false_of_atKey h]
    have := hv.1
    simp only [DataW.held.injEq] at this
    rw [this]; exact hK

/-- What a map of chains' ends holds, for the variables of a domain. -/
def EntryOK (l : List Bd) (σ : Int → Tm) (B : Nat) (W : World) (D : DataW Value) (v : Int) : Prop :=
  ∃ e sv, (∀ zd, D.atKey (.int .i64 v) zd = .held (.agg #[.int .i64 e.kind, .string e.name, .int .i64 e.n, sv])) ∧ EndOK l σ (vTm v) e ∧ Tm.inn W B e sv
structure EMap (l : List Bd) (σ : Int → Tm) (dom : Int → Bool) (m n B : Nat) (W : World) : Prop where
  own : ∃ D, W.ownsMap Try.prog 3 heldElem m n D ∧ ∀ v, (Lit.int .i64 v).wf = true → (dom v = true → EntryOK l σ B W D v) ∧ (dom v = false → ∀ zd, D.atKey (.int .i64 v) zd = zd)
theorem EMap.same {l : List Bd} {σ : Int → Tm} {dom : Int → Bool} {m n B : Nat} {W W' : World} (h : EMap l σ dom m n B W) (hm : W'.heap[m]? = W.heap[m]?) (hc : ∀ b o v, b < B → W.cell? ⟨b, o, none⟩ = some v → W'.cell? ⟨b, o, none⟩ = some v) : EMap l σ dom m n B W' := by
  obtain ⟨D, ⟨es, ck, h1, r⟩, h2⟩ := h.own
  refine ⟨D, ⟨es, ck, hm.trans h1, r⟩, fun v hv => ⟨fun hd => ?_, (h2 v hv).2⟩⟩
  obtain ⟨e, sv, e1, e2, e3⟩ := (h2 v hv).1 hd
  exact ⟨e, sv, e1, e2, Tm.inn_same (Nat.le_refl _) hc _ _ e3⟩
theorem EMap.lt {l : List Bd} {σ : Int → Tm} {dom : Int → Bool} {m n B : Nat} {W : World} (h : EMap l σ dom m n B W) : m < W.heap.size := by
  obtain ⟨D, h1, _⟩ := h.own
  exact h1.lt
theorem EMap.next {l : List Bd} {σ : Int → Tm} {dom : Int → Bool} {m n B : Nat} {W W' : World} (h : EMap l σ dom m n B W) (hb : Below W.heap.size W W') (hB : B ≤ W.heap.size) : EMap l σ dom m n B W' :=
  h.same (hb.block m h.lt) fun b o v hlt hc => by rw [hb.cell (p := ⟨b, o, none⟩) (by show b < W.heap.size; omega)]; exact hc
theorem EMap.kept {l : List Bd} {σ : Int → Tm} {dom : Int → Bool} {m n B r : Nat} {W W' : World} (h : EMap l σ dom m n B W) (hg : W.grownBy W' (some r)) (hm : m ≠ r) (hB : B ≤ r) : EMap l σ dom m n B W' :=
  h.same (hg.block m h.lt (by simp [hm])) fun b o v hlt hc => hg.cell hc (by simp; omega)

theorem headOk_of {x : Tm} (h : x.headOk) : (Lit.int .i64 x.kind).wf = true ∧ x.name.size ≤ maxLen ∧ (Lit.int .i64 x.n).wf = true := by
  cases x
  exact h
/-- What the end of a chain is. -/
def EndPost (l : List Bd) (σ : Int → Tm) (B : Nat) (x : Tm) (w : World) (e : Ending) (w' : World) : Prop :=
  ∃ t sv', e = .returned (.agg #[.int .i64 t.kind, .string t.name, .int .i64 t.n, sv']) ∧ EndOK l σ x t ∧ Tm.inn w' B t sv' ∧ Below w.heap.size w w'

set_option maxRecDepth 100000 in
set_option maxHeartbeats 2000000 in
theorem end_any (l : List Bd) (σ : Int → Tm) (dom : Int → Bool) (m n B : Nat) (x : Tm) (w : World) (sv : Value) (hM : EMap l σ dom m n B w) (hB : B ≤ w.heap.size) (hx : x.fair = true) (hin : Tm.inn w B x sv)
    (hdom : x.kind = 1 → (dom x.n = true ∨ (dom x.n = false ∧ place l x.n = none))) :
    Calls Try.prog 75 #[.map (some m), .agg #[.int .i64 x.kind, .string x.name, .int .i64 x.n, sv]] w fun e w' => EndPost l σ B x w e w' := by
  obtain ⟨hh, g, cap, rfl, hcap, hlen, _⟩ := Tm.inn_iff.1 hin
  obtain ⟨hk, hss, hn⟩ := headOk_of hh
  have hb2 : Below w.heap.size w ((w.alloc (.cells #[.int .i64 x.kind, .string x.name, .int .i64 x.n, .slice g x.args.length cap] 24)).alloc (.cells #[.int .i64 0, .string ⟨#[]⟩, .int .i64 0, .slice none 0 0] 24)) := ((Below.refl _ _).alloc (Nat.le_refl _) _).alloc (by simp) _
  have HB2 := Lib.hid hb2
  have HIN := Lib.hid hin
  have HX := Lib.hid hx
  have HM := Lib.hid hM
  have HN := Lib.hid hn
  by_cases hk1 : x.kind = 1
  · have hk1b : (x.kind != 1) = false := by simp [hk1]
    have hD := hdom hk1
    obtain ⟨D, hown, hall⟩ := hM.own
    have hv := hall x.n hn
    have hvx : x = vTm x.n := by
      obtain ⟨k, s, n, ts⟩ := x
      simp only [Tm.kind] at hk1
      subst hk1
      exact (Tm.fair_var hx).1
    have HVX := Lib.hid hvx
    clear hb2 hin hx hM hn hk hss hdom hh hvx hall hk1
    cases hd : dom x.n with
    | true =>
      obtain ⟨e, sv', hat, hend, hine⟩ := hv.1 hd
      obtain ⟨_, ge, ce, rfl, _, _, _⟩ := Tm.inn_iff.1 hine
      have HAT := Lib.hid hat
      have HEND := Lib.hid hend
      have HINE := Lib.hid hine
      have HOWN := Lib.hid hown
      clear hat hend hine hown hv hD hd
      go_enter Try.func75, Try.ntmps75
      go_wp2_with (at_lookup; refine wpList_lookup_tm _ rfl _ _ rfl m n D rfl ((HOWN.out.alloc _).alloc _) x.n rfl HN.out (.agg #[.int .i64 e.kind, .string e.name, .int .i64 e.n, .slice ge e.args.length ce]) true (.inl ⟨rfl, HAT.out⟩) ?_)
      refine bodyPost_ret (v := .agg #[.int .i64 e.kind, .string e.name, .int .i64 e.n, .slice ge e.args.length ce]) (by simp [results, Try.results75, go_sem]) rfl ?_
      refine ⟨e, _, rfl, ?_, ?_, ?_⟩
      · rw [HVX.out]
        exact HEND.out
      · refine Tm.inn_same (Nat.le_refl _) (fun b o u hlt hc => ?_) _ _ HINE.out
        rw [(al3 _ _ _ _).cell (p := ⟨b, o, none⟩) (by show b < w.heap.size; omega)]
        exact hc
      · exact al3 _ _ _ _
    | false =>
      have hp : place l x.n = none := by
        rcases hD with h | ⟨_, h⟩
        · rw [hd] at h; cases h
        · exact h
      have hz := hv.2 hd
      have HZ := Lib.hid hz
      have HP := Lib.hid hp
      have HOWN := Lib.hid hown
      clear hown hv hD hd hz hp
      go_enter Try.func75, Try.ntmps75
      go_wp2_with (at_lookup; refine wpList_lookup_tm _ rfl _ _ rfl m n D rfl ((HOWN.out.alloc _).alloc _) x.n rfl HN.out (.agg #[.int .i64 0, .string ⟨#[]⟩, .int .i64 0, .slice none 0 0]) false (.inr ⟨rfl, rfl, HZ.out⟩) ?_)
      refine bodyPost_ret (v := .agg #[.int .i64 x.kind, .string x.name, .int .i64 x.n, .slice g x.args.length cap]) (by simp [results, Try.results75, go_sem]) rfl ?_
      refine ⟨x, _, rfl, EndOK.self HX.out (fun _ => HP.out), ?_, ?_⟩
      · refine Tm.inn_same (Nat.le_refl _) (fun b o u hlt hc => ?_) _ _ HIN.out
        rw [(al3 _ _ _ _).cell (p := ⟨b, o, none⟩) (by show b < w.heap.size; omega)]
        exact hc
      · exact al3 _ _ _ _
  · have hk1b : (x.kind != 1) = true := by simp [hk1]
    have HK1 := Lib.hid hk1
    clear hb2 hin hx hM hn hk hss hdom hh hk1
    go_enter Try.func75, Try.ntmps75
    go_wp2_with fail
    refine bodyPost_ret (v := .agg #[.int .i64 x.kind, .string x.name, .int .i64 x.n, .slice g x.args.length cap]) (by simp [results, Try.results75, go_sem]) rfl ?_
    refine ⟨x, _, rfl, EndOK.self HX.out (fun h => absurd h HK1.out), ?_, ?_⟩
    · refine Tm.inn_same (Nat.le_refl _) (fun b o u hlt hc => ?_) _ _ HIN.out
      rw [(al2 _ _ _).cell (p := ⟨b, o, none⟩) (by show b < w.heap.size; omega)]
      exact hc
    · exact al2 _ _ _
end Go.Proofs.Ytjbicfimoiiglaa
