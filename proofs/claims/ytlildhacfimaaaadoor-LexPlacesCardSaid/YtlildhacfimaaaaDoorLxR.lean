/-
  LexJoins' body, if the program's Tokens says what it is to say.
-/
import Derived.Test.YtlildhacfimaaaaDoorLxQ
namespace Go.Proofs.YtlildhacfimaaaaDoor
open Go.RowKit

theorem lex_ok (HL : LexSays) (s : ByteArray) (w : World) (hr0 : Rng w) (hs : s.size ≤ 8000) {l : List (Tk × Nat)} (h : lexL false 0 (bs s) = .inr l) : Calls Tryd.prog 7 #[.string s] w fun e w' => Below w.heap.size w w' ∧ ∃ g cap, e = .returned (.tuple #[.slice g l.length cap, .int .i64 0, .int .i64 0]) ∧ toksIn w' w'.heap.size l (.slice g l.length cap) :=
  (lex_says HL s w hr0 (by omega)).mono fun e w' h' => by
    obtain ⟨hb, l', g, cap, b, c, rfl, ht, _, hr⟩ := h'
    obtain ⟨rfl, rfl, rfl⟩ := res_fun (.inr (.inr ⟨hs, h, rfl, rfl⟩)) hr
    exact ⟨hb, g, cap, rfl, ht⟩
theorem lex_no (HL : LexSays) (s : ByteArray) (w : World) (hr0 : Rng w) (hs : s.size ≤ 8000) {b : Nat} (h : lexL false 0 (bs s) = .inl b) : Calls Tryd.prog 7 #[.string s] w fun e w' => Below w.heap.size w w' ∧ ∃ g cap, e = .returned (.tuple #[.slice g 0 cap, .int .i64 (b : Nat), .int .i64 2]) :=
  (lex_says HL s w hr0 (by omega)).mono fun e w' h' => by
    obtain ⟨hb, l', g, cap, b', c, rfl, ht, _, hr⟩ := h'
    obtain ⟨rfl, rfl, rfl⟩ := res_fun (.inr (.inl ⟨hs, h, rfl, rfl⟩)) hr
    exact ⟨hb, g, cap, rfl⟩
theorem lex_any (HL : LexSays) (s : ByteArray) (w : World) (hr0 : Rng w) (hs : s.size ≤ 8000) : Calls Tryd.prog 7 #[.string s] w fun e w' => Below w.heap.size w w' ∧ ∃ g n cap b c, e = .returned (.tuple #[.slice g n cap, .int .i64 b, .int .i64 c]) :=
  (lex_says HL s w hr0 (by omega)).mono fun e w' h' => by
    obtain ⟨hb, l', g, cap, b', c, rfl, ht, _, hr⟩ := h'
    exact ⟨hb, g, _, cap, _, _, rfl⟩
theorem join_lex (a b : ByteArray) {la : List (Tk × Nat)} (h : lexL false 0 (bs a) = .inr la) : lexL false 0 (bs (a ++ ⟨#[10]⟩ ++ b)) = preL la (shL (a.size + 1) (lexL false 0 (bs b))) := by
  have e : bs (a ++ ⟨#[10]⟩ ++ b) = bs a ++ 10 :: bs b := by rw [bs_append, bs_append]; simp [bs]
  rw [e, lex_join (bs b) _ (bs a) false 0 la (Nat.le_refl _) h, bs_length]
  have := lex_shift (a.size + 1) _ (bs b) false 0 (Nat.le_refl _)
  rw [Nat.zero_add] at this
  rw [Nat.zero_add, this]
set_option maxRecDepth 100000 in
set_option maxHeartbeats 2000000 in
theorem ljoins_big (HL : LexSays) (a b : ByteArray) (w : World) (hr : Rng w) (hz : 3000 < a.size ∨ 3000 < b.size) :
    Calls Tryd.prog 4 #[.string a, .string b] w fun e w' => e = .returned (.bool true) ∧ Below w.heap.size w w' := by
  have HK := Lib.hid (fun u h => lknows_any HL u h)
  have HR := Lib.hid hr
  clear hr
  clear HL
  by_cases h1 : 3000 < a.size
  · clear hz
    go_enter Tryd.func4, Tryd.ntmps4
    go_wp2_with (go_at_call 6; refine (HK.out _ HR.out).mono ?_; rintro e w1 ⟨rfl, hb1⟩; have HB1 := Lib.hid hb1; have HR := Lib.hid (HR.out.next hb1); clear hb1)
    go_ret
    exact ⟨rfl, HB1.out⟩
  · have h2 : 3000 < b.size := by omega
    have h3 : a.size ≤ 3000 := by omega
    clear hz h1
    go_enter Tryd.func4, Tryd.ntmps4
    go_wp2_with (go_at_call 6; refine (HK.out _ HR.out).mono ?_; rintro e w1 ⟨rfl, hb1⟩; have HB1 := Lib.hid hb1; have HR := Lib.hid (HR.out.next hb1); clear hb1)
    go_ret
    exact ⟨rfl, HB1.out⟩
set_option maxRecDepth 100000 in
set_option maxHeartbeats 2000000 in
theorem ljoins_no1 (HL : LexSays) (a b : ByteArray) (w : World) (hr : Rng w) (h1 : a.size ≤ 3000) (h2 : b.size ≤ 3000) {ba : Nat} (ha : lexL false 0 (bs a) = .inl ba) :
    Calls Tryd.prog 4 #[.string a, .string b] w fun e w' => e = .returned (.bool true) ∧ Below w.heap.size w w' := by
  have HK := Lib.hid (fun u h => lknows_any HL u h)
  have HR := Lib.hid hr
  clear hr
  have HA := Lib.hid (fun u h => lex_no HL a u h (by omega) ha)
  have HB := Lib.hid (fun s u hr h => lex_any HL s u hr h)
  have hsz : (a ++ ⟨#[10]⟩ ++ b).size ≤ 8000 := by
    rw [ByteArray.size_append, ByteArray.size_append]
    have : (⟨#[10]⟩ : ByteArray).size = 1 := rfl
    omega
  have HSZ := Lib.hid hsz
  clear HL ha hsz
  go_enter Tryd.func4, Tryd.ntmps4
  go_wp2_with (first
    | (go_at_call 7; (with_reducible refine (HA.out _ HR.out).mono ?_); rintro e w1 ⟨hb1, g1, c1, rfl⟩; have HB1 := Lib.hid hb1; have HR := Lib.hid (HR.out.next hb1); clear hb1)
    | (go_at_call 7; (with_reducible refine (HB.out b _ HR.out (by omega)).mono ?_); rintro e w2 ⟨hb2, g2, n2, c2, p2, q2, rfl⟩; have HB2 := Lib.hid hb2; have HR := Lib.hid (HR.out.next hb2); clear hb2)
    | (go_at_call 7; refine (HB.out _ _ HR.out HSZ.out).mono ?_; rintro e w3 ⟨hb3, g3, n3, c3, p3, q3, rfl⟩; have HB3 := Lib.hid hb3; have HR := Lib.hid (HR.out.next hb3); clear hb3)
    | (go_at_call 6; refine (HK.out _ HR.out).mono ?_; rintro e w4 ⟨rfl, hb4⟩; have HB4 := Lib.hid hb4; have HR := Lib.hid (HR.out.next hb4); clear hb4))
  go_ret
  exact ⟨rfl, ((HB1.out.trans (HB2.out.mono HB1.out.size)).trans (HB3.out.mono (by have := HB1.out.size; have := HB2.out.size; omega))).trans (HB4.out.mono (by have := HB1.out.size; have := HB2.out.size; have := HB3.out.size; omega))⟩
end Go.Proofs.YtlildhacfimaaaaDoor
