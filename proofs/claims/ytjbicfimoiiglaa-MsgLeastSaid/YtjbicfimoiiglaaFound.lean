/-
  The program's found and Instance: whether a term is an instance of a pattern, and what its variables are.
-/
import Derived.Test.YtjbicfimoiiglaaMeet
import Derived.Test.YtjbicfimoiiglaaBox
import Derived.Test.YtjbicfimoiiglaaTermB
namespace Go.Proofs.Ytjbicfimoiiglaa
open Go.RowKit Go.Shelf Go.Maps

def FoundPost (w : World) (p x : Tm) (e : Ending) (w' : World) : Prop :=
  ∃ (q : Bool) (m : Nat), e = .returned (.tuple #[.map (some m), .bool q]) ∧ Below w.heap.size w w' ∧ ((q = true ∧ ∃ l K, p.meet x [] = some l ∧ K ≤ p.size ∧ MapT w' m K w.heap.size l ∧ w.heap.size ≤ m) ∨ (q = false ∧ p.meet x [] = none))
set_option maxRecDepth 100000 in
set_option maxHeartbeats 2000000 in
theorem found_any (p x : Tm) (w : World) (sp sx : Value) (hin : Tm.inn w w.heap.size p sp) (hinx : Tm.inn w w.heap.size x sx) (hsz : p.size ≤ 1000000) :
    Calls Try.prog 52 #[.agg #[.int .i64 p.kind, .string p.name, .int .i64 p.n, sp], .agg #[.int .i64 x.kind, .string x.name, .int .i64 x.n, sx]] w fun e w' => FoundPost w p x e w' := by
  obtain ⟨g, c, rfl⟩ := inn_slice hin
  obtain ⟨g', c', rfl⟩ := inn_slice hinx
  have h5 := al5 w (.cells #[.int .i64 p.kind, .string p.name, .int .i64 p.n, .slice g p.args.length c] 24) (.cells #[.int .i64 x.kind, .string x.name, .int .i64 x.n, .slice g' x.args.length c'] 24) (.map #[] 0) (.cells #[.map (some (w.heap.size + 1 + 1))] 71)
    (.cells #[.func (.func 69) #[] #[.pointer (some ⟨w.heap.size + 1 + 1 + 1, 0, none⟩), .pointer (some ⟨w.heap.size + 1 + 1 + 1 + 1, 0, none⟩)]] 33)
  obtain ⟨hb5, _, k2, k3, k4, hsz5⟩ := h5
  obtain ⟨W, hW⟩ : ∃ W, (((((w.alloc (.cells #[.int .i64 p.kind, .string p.name, .int .i64 p.n, .slice g p.args.length c] 24)).alloc (.cells #[.int .i64 x.kind, .string x.name, .int .i64 x.n, .slice g' x.args.length c'] 24)).alloc (.map #[] 0)).alloc (.cells #[.map (some (w.heap.size + 1 + 1))] 71)).alloc
    (.cells #[.func (.func 69) #[] #[.pointer (some ⟨w.heap.size + 1 + 1 + 1, 0, none⟩), .pointer (some ⟨w.heap.size + 1 + 1 + 1 + 1, 0, none⟩)]] 33)) = W := ⟨_, rfl⟩
  have hM : MapT W (w.heap.size + 1 + 1) 0 w.heap.size [] := by
    rw [← hW]
    have h0 := MapT.start ((w.alloc (.cells #[.int .i64 p.kind, .string p.name, .int .i64 p.n, .slice g p.args.length c] 24)).alloc (.cells #[.int .i64 x.kind, .string x.name, .int .i64 x.n, .slice g' x.args.length c'] 24)) w.heap.size
    have h1 := h0.next (al2 _ (.cells #[.map (some (w.heap.size + 1 + 1))] 71) (.cells #[.func (.func 69) #[] #[.pointer (some ⟨w.heap.size + 1 + 1 + 1, 0, none⟩), .pointer (some ⟨w.heap.size + 1 + 1 + 1 + 1, 0, none⟩)]] 33)) (by simp; omega)
    simpa using h1
  rw [hW] at hb5 k2 k3 k4 hsz5
  have hC : MCtx W w.heap.size (w.heap.size + 1 + 1) (w.heap.size + 1 + 1 + 1) (w.heap.size + 1 + 1 + 1 + 1) := ⟨k3, k4, by omega, by omega, by omega⟩
  have hcl := meet_any p x [] W w.heap.size (w.heap.size + 1 + 1) (w.heap.size + 1 + 1 + 1) (w.heap.size + 1 + 1 + 1 + 1) 0 _ _ hC hM (Tm.inn_below hin hb5 (Nat.le_refl _)) (Tm.inn_below hinx hb5 (Nat.le_refl _)) (by omega)
  have HCL := Lib.hid hcl
  have HB5 := Lib.hid hb5
  have HW := Lib.hid hW
  have HC := Lib.hid hC
  clear hcl hb5 hW k2 k3 k4 hsz5 hM hC hin hinx
  have hmk := @run_makeMap Try.prog
  go_enter Try.func52, Try.ntmps52
  go_wp2_with fail
  rw [HW.out]
  refine HCL.out.mono ?_
  rintro e w6 ⟨q, rfl, hg6, hcase⟩
  have hC6 := HC.out.kept hg6
  have cV := hC6.kv.cell
  have hb6 : Below w.heap.size w w6 := below_grown HB5.out hg6 (by omega)
  have HF := Lib.hid (show FoundPost w p x (.returned (.tuple #[.map (some (w.heap.size + 1 + 1)), .bool q])) w6 from ⟨q, _, rfl, hb6, by
    rcases hcase with ⟨h1, l, K, h2, h3, h4⟩ | h
    · exact .inl ⟨h1, l, K, h2, by omega, h4, by omega⟩
    · exact .inr h⟩)
  clear hC6 hb6 hcase hg6 HCL
  go_wp2_with fail
  go_ret2
  exact HF.out

theorem inst_none {t p : Tm} : p.meet t [] = none ↔ inst t p = false := by unfold inst; simp
set_option maxRecDepth 100000 in
set_option maxHeartbeats 2000000 in
theorem instance_any (t p : Tm) (w : World) (st sp : Value) (hint : Tm.inn w w.heap.size t st) (hinp : Tm.inn w w.heap.size p sp) (hst : t.size ≤ 1000000) (hsp : p.size ≤ 1000000) :
    Calls Try.prog 22 #[.agg #[.int .i64 t.kind, .string t.name, .int .i64 t.n, st], .agg #[.int .i64 p.kind, .string p.name, .int .i64 p.n, sp]] w fun e w' => e = .returned (.bool (p.right && t.right && inst t p)) ∧ Below w.heap.size w w' := by
  have hst0 := TSt.start hint hinp
  obtain ⟨g, c, rfl⟩ := inn_slice hint
  obtain ⟨g', c', rfl⟩ := inn_slice hinp
  obtain ⟨W0, hW⟩ : ∃ W0, ((w.alloc (Obj.cells #[.int .i64 t.kind, .string t.name, .int .i64 t.n, .slice g t.args.length c] 24 (0, 0))).alloc (Obj.cells #[.int .i64 p.kind, .string p.name, .int .i64 p.n, .slice g' p.args.length c'] 24 (0, 0))) = W0 := ⟨_, rfl⟩
  rw [hW] at hst0
  have HW := Lib.hid hW
  have A0 := Lib.hid hst0
  obtain ⟨r, hr⟩ : ∃ r, (p.right && t.right && inst t p) = r := ⟨_, rfl⟩
  rw [hr]
  have HR := Lib.hid hr
  clear hint hinp hW hst0 hr
  go_enter Try.func22, Try.ntmps22
  go_wp2_with fail
  rw [HW.out]
  refine (tright_any p W0 _ A0.out.ib hsp).mono ?_
  rintro e W1 ⟨rfl, hb1⟩
  have A1 := Lib.hid (A0.out.next hb1)
  clear hb1 A0
  cases hp : p.right with
  | false =>
    have hr : r = false := by rw [← HR.out, hp]; rfl
    subst hr
    clear hp
    go_wp2_with fail
    go_ret
    exact ⟨rfl, A1.out.below⟩
  | true =>
    obtain ⟨a0, a1, a2, a3, b0, b1, b2, b3, _⟩ := A1.out.cells
    have HP := Lib.hid hp
    clear hp
    go_wp2_with fail
    refine (tright_any t W1 _ A1.out.ia hst).mono ?_
    rintro e W2 ⟨rfl, hb2⟩
    have A2 := Lib.hid (A1.out.next hb2)
    clear hb2 A1 a0 a1 a2 a3 b0 b1 b2 b3
    cases ht : t.right with
    | false =>
      have hr : r = false := by rw [← HR.out, ht, HP.out]; rfl
      subst hr
      clear ht
      go_wp2_with fail
      go_ret
      exact ⟨rfl, A2.out.below⟩
    | true =>
      obtain ⟨a0, a1, a2, a3, b0, b1, b2, b3, _⟩ := A2.out.cells
      have HT := Lib.hid ht
      clear ht
      go_wp2_with fail
      refine (found_any p t W2 _ _ A2.out.ib A2.out.ia hsp).mono ?_
      rintro e W3 ⟨q, m, rfl, hb3, hcase⟩
      have hq : q = r := by
        rw [← HR.out, HP.out, HT.out, Bool.true_and, Bool.true_and]
        rcases hcase with ⟨rfl, l, K, h, _⟩ | ⟨rfl, h⟩
        · unfold inst; rw [h]; rfl
        · exact (inst_none.1 h).symm
      have A3 := Lib.hid (A2.out.next hb3).below
      subst hq
      clear hcase hb3 A2 a0 a1 a2 a3 b0 b1 b2 b3
      go_wp2_with fail
      go_ret
      exact ⟨rfl, A3.out⟩
end Go.Proofs.Ytjbicfimoiiglaa
