/-
  The document's name: a token of a name, in new memory.
-/
import Derived.Test.YtlildhacfimaaaaDoorLxC
namespace Go.Proofs.YtlildhacfimaaaaDoor
open Go.RowKit

/-- A token as a value. -/
def tokV (kind : Nat) (x : ByteArray) (n at' : Nat) (o : Bool) : Value := .agg #[.int .i64 (kind : Nat), .string x, .int .i64 (n : Nat), .int .i64 (at' : Nat), .bool o]
def noTok : Value := .tuple #[.agg #[.int .i64 0, .string ⟨#[]⟩, .int .i64 0, .int .i64 0, .bool false], .int .i64 (-1)]
def NamePost (w : World) (l : List UInt8) (kind : Nat) (x : ByteArray) (at' to : Nat) (e : Ending) (w' : World) : Prop :=
  Below w.heap.size w w' ∧ ((¬ (1 ≤ x.size ∧ x.size ≤ 20) ∧ e = .returned noTok) ∨ ((1 ≤ x.size ∧ x.size ≤ 20) ∧ e = .returned (.tuple #[tokV kind x 0 at' (opens (l.drop to)), .int .i64 (to : Nat)])))
theorem opens_at (s : ByteArray) (to : Nat) (h : to < s.size) : opens ((bs s).drop to) = ((s[to].toNat : Int) == 40) := by
  rw [List.drop_eq_getElem_cons (by rw [bs_length]; exact h), bs_get s to h]
  unfold opens
  rw [Bool.eq_iff_iff]
  simp only [List.head?_cons, beq_iff_eq, Option.some.injEq]
  constructor
  · intro e; rw [e]; rfl
  · intro e; exact UInt8.toNat_inj.1 (by show s[to].toNat = 40; omega)
theorem opens_no (s : ByteArray) (to : Nat) (h : ¬ to < s.size) : opens ((bs s).drop to) = false := by
  rw [List.drop_eq_nil_of_le (by rw [bs_length]; omega)]
  rfl
set_option maxRecDepth 100000 in
set_option maxHeartbeats 2000000 in
theorem dname_any (s : ByteArray) (kind : Nat) (text : ByteArray) (at' to : Nat) (w : World) (_hs : s.size ≤ 1000000) :
    Calls Tryd.prog 27 #[.string s, .int .i64 (kind : Nat), .string text, .int .i64 (at' : Nat), .int .i64 (to : Nat)] w fun e w' => NamePost w (bs s) kind text at' to e w' := by
  by_cases h1 : text.size < 1
  · go_enter Tryd.func27, Tryd.ntmps27
    go_wp2_with fail
    refine bodyPost_ret (v := noTok) (by simp [results, noTok, Tryd.results27, go_sem]) rfl ?_
    exact ⟨(Below.refl _ _).alloc (Nat.le_refl _) _, .inl ⟨by omega, rfl⟩⟩
  by_cases h2 : 20 < text.size
  · have h3 : 1 ≤ text.size := by omega
    clear h1
    go_enter Tryd.func27, Tryd.ntmps27
    go_wp2_with fail
    refine bodyPost_ret (v := noTok) (by simp [results, noTok, Tryd.results27, go_sem]) rfl ?_
    exact ⟨(Below.refl _ _).alloc (Nat.le_refl _) _, .inl ⟨by omega, rfl⟩⟩
  have h3 : 1 ≤ text.size := by omega
  have h4 : text.size ≤ 20 := by omega
  clear h1 h2
  by_cases h5 : to < s.size
  · have HO := Lib.hid (opens_at s to h5)
    cases hb : ((s[to].toNat : Int) == 40) with
    | true =>
      go_enter Tryd.func27, Tryd.ntmps27
      go_wp2_with fail
      refine bodyPost_ret (v := .tuple #[tokV kind text 0 at' true, .int .i64 (to : Nat)]) (by simp [results, tokV, Tryd.results27, go_sem]) rfl ?_
      exact ⟨(Below.refl _ _).alloc (Nat.le_refl _) _, .inr ⟨⟨h3, h4⟩, by rw [HO.out, hb]⟩⟩
    | false =>
      go_enter Tryd.func27, Tryd.ntmps27
      go_wp2_with fail
      refine bodyPost_ret (v := .tuple #[tokV kind text 0 at' false, .int .i64 (to : Nat)]) (by simp [results, tokV, Tryd.results27, go_sem]) rfl ?_
      exact ⟨(Below.refl _ _).alloc (Nat.le_refl _) _, .inr ⟨⟨h3, h4⟩, by rw [HO.out, hb]⟩⟩
  · have HO := Lib.hid (opens_no s to h5)
    go_enter Tryd.func27, Tryd.ntmps27
    go_wp2_with fail
    refine bodyPost_ret (v := .tuple #[tokV kind text 0 at' false, .int .i64 (to : Nat)]) (by simp [results, tokV, Tryd.results27, go_sem]) rfl ?_
    exact ⟨(Below.refl _ _).alloc (Nat.le_refl _) _, .inr ⟨⟨h3, h4⟩, by rw [HO.out]⟩⟩
end Go.Proofs.YtlildhacfimaaaaDoor
