/-
  A map from variables to terms, in memory; the program's end of a chain.
-/
import Derived.Test.YtpiflkgjmncijaaCut
import Derived.Test.YtpiflkgjmncijaaBds
import Derived.Maps.OwnOps
import Derived.Maps.OwnSet
import Derived.Maps.AppendAt
namespace Go.Proofs.Ytpiflkgjmncijaa
open Go.RowKit Go.Shelf Go.Maps

/-- A term that a map holds reads as itself. -/
def heldElem (v : Value) : Option (DataW Value × List MemPlace) := some (.held v, [])
def zeroV : Value := .agg #[.int .i64 0, .string ⟨#[]⟩, .int .i64 0, .slice none 0 0]
theorem Try.zeroTm (w : World) : (zeroValue 24).run Try.prog w = .ok zeroV w := by kernel_rfl

theorem wpList_lookup_tm (w : World) {ops : Array Oper} {rest : List Oper} {o : Oper} {a : Act} {Q : Exit → Act → World → Prop}
    (hg : o.guard = none) (m x : Operand) (hop : o.op = Op.lookup 74 m x true) (b n : Nat) (D : DataW Value) (hm : a.eval m = .map (some b)) (hown : w.ownsMap Try.prog 3 heldElem b n D)
    (v : Int) (hx : a.eval x = .int .i64 v) (hwf : (Lit.int .i64 v).wf = true) (u : Value) (q : Bool)
    (hat : (q = true ∧ ∀ zd, D.atKey (.int .i64 v) zd = .held u) ∨ (q = false ∧ u = zeroV ∧ ∀ zd, D.atKey (.int .i64 v) zd = zd))
    (hK : wpList Try.prog ops Q rest (a.put o.dst (.tuple #[u, .bool q])) w) : wpList Try.prog ops Q (o :: rest) a w := by
  refine wpList_lookup_own_ok w hg m x 74 hop 3 24 (Maps.int_keyed Try.underlying3) Try.underlying74 heldElem (Try.zeroTm w) (.held zeroV) [] rfl b n D hm hown _ _ hx (Maps.keyOf_int_mk Try.underlying3 hwf) fun v' ps hv => ?_
  simp only [heldElem, Option.some.injEq, Prod.mk.injEq] at hv
  rcases hat with ⟨rfl, h⟩ | ⟨rfl, rfl, h⟩
  · rw [h] at hv
    rw [Maps.has_true_of_atKey h]
    have := hv.1
    simp only [DataW.held.injEq] at this
    rw [this]; exact hK
  · rw [h] at hv
    rw [Maps.has_false_of_atKey h]
    have := hv.1
    simp only [DataW.held.injEq] at this
    rw [this]; exact hK

/-- What a map of chains' ends holds, for the variables of a domain. -/
def EntryOK (l : List Bd) (σ : Int → Tm) (B : Nat) (W : World) (D : DataW Value) (v : Int) : Prop :=
  ∃ e sv, (∀ zd, D.atKey (.int .i64 v) zd = .held (.agg #[.int .i64 e.kind, .string e.name, .int .i64 e.n, sv])) ∧ EndOK l σ (vTm v) e ∧ Tm.inn W B e sv
structure EMap (l : List Bd) (σ : Int → Tm) (dom : Int → Bool) (m n B : Nat) (W : World) : Prop where
  own : ∃ D, W.ownsMap Try.prog 3 heldElem m n D ∧ ∀ v, (Lit.int .i64 v).wf = true → (dom v = true → EntryOK l σ B W D v) ∧ (dom v = false → ∀ zd, D.atKey (.int .i64 v) zd = zd)
theorem EMap.same {l : List Bd} {σ : Int → Tm} {dom : Int → Bool} {m n B : Nat} {W W' : World} (h : EMap l σ dom m n B W) (hm : W'.heap[m]? = W.heap[m]?) (hc : ∀ b o v, b < B → W.cell? ⟨b, o, none⟩ = some v → W'.cell? ⟨b, o, none⟩ = some v) : EMap l σ dom m n B W' := by
  obtain ⟨D, ⟨es, ck, h1, r⟩, h2⟩ := h.own
  refine ⟨D, ⟨es, ck, hm.trans h1, r⟩, fun v hv => ⟨fun hd => ?_, (h2 v hv).2⟩⟩
  obtain ⟨e, sv, e1, e2, e3⟩ := (h2 v hv).1 hd
  exact ⟨e, sv, e1, e2, Tm.inn_same (Nat.le_refl _) hc _ _ e3⟩
theorem EMap.lt {l : List Bd} {σ : Int → Tm} {dom : Int → Bool} {m n B : Nat} {W : World} (h : EMap l σ dom m n B W) : m < W.heap.size := by
  obtain ⟨D, h1, _⟩ := h.own
  exact h1.lt
theorem EMap.next {l : List Bd} {σ : Int → Tm} {dom : Int → Bool} {m n B : Nat} {W W' : World} (h : EMap l σ dom m n B W) (hb : Below W.heap.size W W') (hB : B ≤ W.heap.size) : EMap l σ dom m n B W' :=
  h.same (hb.block m h.lt) fun b o v hlt hc => by rw [hb.cell (p := ⟨b, o, none⟩) (by show b < W.heap.size; omega)]; exact hc
theorem EMap.kept {l : List Bd} {σ : Int → Tm} {dom : Int → Bool} {m n B r : Nat} {W W' : World} (h : EMap l σ dom m n B W) (hg : W.grownBy W' (some r)) (hm : m ≠ r) (hB : B ≤ r) : EMap l σ dom m n B W' :=
  h.same (hg.block m h.lt (by simp [hm])) fun b o v hlt hc => hg.cell hc (by simp; omega)

theorem headOk_of {x : Tm} (h : x.headOk) : (Lit.int .i64 x.kind).wf = true ∧ x.name.size ≤ maxLen ∧ (Lit.int .i64 x.n).wf = true := by
  cases x
  exact h
/-- What the end of a chain is. -/
def EndPost (l : List Bd) (σ : Int → Tm) (B : Nat) (x : Tm) (w : World) (e : Ending) (w' : World) : Prop :=
  ∃ t sv', e = .returned (.agg #[.int .i64 t.kind, .string t.name, .int .i64 t.n, sv']) ∧ EndOK l σ x t ∧ Tm.inn w' B t sv' ∧ Below w.heap.size w w'

set_option maxRecDepth 100000 in
set_option maxHeartbeats 2000000 in
theorem end_any (l : List Bd) (σ : Int → Tm) (dom : Int → Bool) (m n B : Nat) (x : Tm) (w : World) (sv : Value) (hM : EMap l σ dom m n B w) (hB : B ≤ w.heap.size) (hx : x.fair = true) (hin : Tm.inn w B x sv)
    (hdom : x.kind = 1 → (dom x.n = true ∨ (dom x.n = false ∧ place l x.n = none))) :
    Calls Try.prog 70 #[.map (some m), .agg #[.int .i64 x.kind, .string x.name, .int .i64 x.n, sv]] w fun e w' => EndPost l σ B x w e w' := by
  obtain ⟨hh, g, cap, rfl, hcap, hlen, _⟩ := Tm.inn_iff.1 hin
  obtain ⟨hk, hss, hn⟩ := headOk_of hh
  have hb2 : Below w.heap.size w ((w.alloc (.cells #[.int .i64 x.kind, .string x.name, .int .i64 x.n, .slice g x.args.length cap] 24)).alloc (.cells #[.int .i64 0, .string ⟨#[]⟩, .int .i64 0, .slice none 0 0] 24)) := ((Below.refl _ _).alloc (Nat.le_refl _) _).alloc (by simp) _
  have HB2 := Lib.hid hb2
  have HIN := Lib.hid hin
  have HX := Lib.hid hx
  have HM := Lib.hid hM
  have HN := Lib.hid hn
  by_cases hk1 : x.kind = 1
  · have hk1b : (x.kind != 1) = false := by simp [hk1]
    have hD := hdom hk1
    obtain ⟨D, hown, hall⟩ := hM.own
    have hv := hall x.n hn
    have hvx : x = vTm x.n := by
      obtain ⟨k, s, n, ts⟩ := x
      simp only [Tm.kind] at hk1
      subst hk1
      exact (Tm.fair_var hx).1
    have HVX := Lib.hid hvx
    clear hb2 hin hx hM hn hk hss hdom hh hvx hall hk1
    cases hd : dom x.n with
    | true =>
      obtain ⟨e, sv', hat, hend, hine⟩ := hv.1 hd
      obtain ⟨_, ge, ce, rfl, _, _, _⟩ := Tm.inn_iff.1 hine
      have HAT := Lib.hid hat
      have HEND := Lib.hid hend
      have HINE := Lib.hid hine
      have HOWN := Lib.hid hown
      clear hat hend hine hown hv hD hd
      go_enter Try.func70, Try.ntmps70
      go_wp2_with (at_lookup; refine wpList_lookup_tm _ rfl _ _ rfl m n D rfl ((HOWN.out.alloc _).alloc _) x.n rfl HN.out (.agg #[.int .i64 e.kind, .string e.name, .int .i64 e.n, .slice ge e.args.length ce]) true (.inl ⟨rfl, HAT.out⟩) ?_)
      refine bodyPost_ret (v := .agg #[.int .i64 e.kind, .string e.name, .int .i64 e.n, .slice ge e.args.length ce]) (by simp [results, Try.results70, go_sem]) rfl ?_
      refine ⟨e, _, rfl, ?_, ?_, ?_⟩
      · rw [HVX.out]
        exact HEND.out
      · refine Tm.inn_same (Nat.le_refl _) (fun b o u hlt hc => ?_) _ _ HINE.out
        rw [(al3 _ _ _ _).cell (p := ⟨b, o, none⟩) (by show b < w.heap.size; omega)]
        exact hc
      · exact al3 _ _ _ _
    | false =>
      have hp : place l x.n = none := by
        rcases hD with h | ⟨_, h⟩
        · rw [hd] at h; cases h
        · exact h
      have hz := hv.2 hd
      have HZ := Lib.hid hz
      have HP := Lib.hid hp
      have HOWN := Lib.hid hown
      clear hown hv hD hd hz hp
      go_enter Try.func70, Try.ntmps70
      go_wp2_with (at_lookup; refine wpList_lookup_tm _ rfl _ _ rfl m n D rfl ((HOWN.out.alloc _).alloc _) x.n rfl HN.out (.agg #[.int .i64 0, .string ⟨#[]⟩, .int .i64 0, .slice none 0 0]) false (.inr ⟨rfl, rfl, HZ.out⟩) ?_)
      refine bodyPost_ret (v := .agg #[.int .i64 x.kind, .string x.name, .int .i64 x.n, .slice g x.args.length cap]) (by simp [results, Try.results70, go_sem]) rfl ?_
      refine ⟨x, _, rfl, EndOK.self HX.out (fun _ => HP.out), ?_, ?_⟩
      · refine Tm.inn_same (Nat.le_refl _) (fun b o u hlt hc => ?_) _ _ HIN.out
        rw [(al3 _ _ _ _).cell (p := ⟨b, o, none⟩) (by show b < w.heap.size; omega)]
        exact hc
      · exact al3 _ _ _ _
  · have hk1b : (x.kind != 1) = true := by simp [hk1]
    have HK1 := Lib.hid hk1
    clear hb2 hin hx hM hn hk hss hdom hh hk1
    go_enter Try.func70, Try.ntmps70
    go_wp2_with fail
    refine bodyPost_ret (v := .agg #[.int .i64 x.kind, .string x.name, .int .i64 x.n, .slice g x.args.length cap]) (by simp [results, Try.results70, go_sem]) rfl ?_
    refine ⟨x, _, rfl, EndOK.self HX.out (fun h => absurd h HK1.out), ?_, ?_⟩
    · refine Tm.inn_same (Nat.le_refl _) (fun b o u hlt hc => ?_) _ _ HIN.out
      rw [(al2 _ _ _).cell (p := ⟨b, o, none⟩) (by show b < w.heap.size; omega)]
      exact hc
    · exact al2 _ _ _
end Go.Proofs.Ytpiflkgjmncijaa
