/-
  What the program's Tokens is to say; the law's examples.
-/
import Derived.Test.YtlildhacfimaaaaDoorLxS
import Derived.Test.YtlildhacfimaaaaDoorRng
namespace Go.Proofs.YtlildhacfimaaaaDoor
open Go.RowKit

def LexPost (w : World) (s : ByteArray) (e : Ending) (w' : World) : Prop :=
  Below w.heap.size w w' ∧ ∃ (l : List (Tk × Nat)) (sv : Value) (b c : Nat), e = .returned (.tuple #[sv, .int .i64 (b : Nat), .int .i64 (c : Nat)]) ∧ toksIn w' w'.heap.size l sv ∧ l.length ≤ s.size ∧ b ≤ s.size ∧
    ((8000 < s.size ∧ l = [] ∧ b = 0 ∧ c = 3) ∨ (s.size ≤ 8000 ∧ lexL false 0 (bs s) = .inl b ∧ l = [] ∧ c = 2) ∨ (s.size ≤ 8000 ∧ lexL false 0 (bs s) = .inr l ∧ b = 0 ∧ c = 0))
def LexSays : Prop := ∀ (s : ByteArray) (w : World), Rng w → s.size ≤ 1000000 → Calls Tryd.prog 7 #[.string s] w fun e w' => LexPost w s e w'
def knS1 : ByteArray := ⟨#[102, 40, 88, 49, 41, 46, 32, 97, 61, 46, 98]⟩
def knS2 : ByteArray := ⟨#[97, 32, 1]⟩
def knL : List (Tk × Nat) := [(⟨1, [102], 0, true⟩, 0), (⟨4, [40], 0, false⟩, 1), (⟨2, [88, 49], 0, false⟩, 2), (⟨4, [41], 0, false⟩, 4), (⟨5, [46], 0, false⟩, 5), (⟨1, [97], 0, false⟩, 7), (⟨1, [61, 46], 0, false⟩, 8), (⟨1, [98], 0, false⟩, 10)]
theorem know_1 : lexL false 0 (bs knS1) = .inr knL := by
  have h11 : lexL false 11 [] = .inr [] := lexL_nil _ _
  have h10 : lexL false 10 [98] = .inr [(⟨1, [98], 0, false⟩, 10)] := (lexL_tok (t := ⟨1, [98], 0, false⟩) (k := 1) (by decide) (by decide) (by rfl)).trans (congrArg (preL _) h11)
  have h8 : lexL false 8 [61, 46, 98] = .inr [(⟨1, [61, 46], 0, false⟩, 8), (⟨1, [98], 0, false⟩, 10)] := (lexL_tok (t := ⟨1, [61, 46], 0, false⟩) (k := 2) (by decide) (by decide) (by rfl)).trans (congrArg (preL _) h10)
  have h7 : lexL false 7 [97, 61, 46, 98] = .inr [(⟨1, [97], 0, false⟩, 7), (⟨1, [61, 46], 0, false⟩, 8), (⟨1, [98], 0, false⟩, 10)] := (lexL_tok (t := ⟨1, [97], 0, false⟩) (k := 1) (by decide) (by decide) (by rfl)).trans (congrArg (preL _) h8)
  have h6 : lexL false 6 [32, 97, 61, 46, 98] = .inr [(⟨1, [97], 0, false⟩, 7), (⟨1, [61, 46], 0, false⟩, 8), (⟨1, [98], 0, false⟩, 10)] := (lexL_gap (by decide) (by decide)).trans h7
  have h5 : lexL false 5 [46, 32, 97, 61, 46, 98] = .inr [(⟨5, [46], 0, false⟩, 5), (⟨1, [97], 0, false⟩, 7), (⟨1, [61, 46], 0, false⟩, 8), (⟨1, [98], 0, false⟩, 10)] := (lexL_tok (t := ⟨5, [46], 0, false⟩) (k := 1) (by decide) (by decide) (by rfl)).trans (congrArg (preL _) h6)
  have h4 : lexL false 4 [41, 46, 32, 97, 61, 46, 98] = .inr [(⟨4, [41], 0, false⟩, 4), (⟨5, [46], 0, false⟩, 5), (⟨1, [97], 0, false⟩, 7), (⟨1, [61, 46], 0, false⟩, 8), (⟨1, [98], 0, false⟩, 10)] := (lexL_tok (t := ⟨4, [41], 0, false⟩) (k := 1) (by decide) (by decide) (by rfl)).trans (congrArg (preL _) h5)
  have h2 : lexL false 2 [88, 49, 41, 46, 32, 97, 61, 46, 98] = .inr [(⟨2, [88, 49], 0, false⟩, 2), (⟨4, [41], 0, false⟩, 4), (⟨5, [46], 0, false⟩, 5), (⟨1, [97], 0, false⟩, 7), (⟨1, [61, 46], 0, false⟩, 8), (⟨1, [98], 0, false⟩, 10)] := (lexL_tok (t := ⟨2, [88, 49], 0, false⟩) (k := 2) (by decide) (by decide) (by rfl)).trans (congrArg (preL _) h4)
  have h1 : lexL false 1 [40, 88, 49, 41, 46, 32, 97, 61, 46, 98] = .inr [(⟨4, [40], 0, false⟩, 1), (⟨2, [88, 49], 0, false⟩, 2), (⟨4, [41], 0, false⟩, 4), (⟨5, [46], 0, false⟩, 5), (⟨1, [97], 0, false⟩, 7), (⟨1, [61, 46], 0, false⟩, 8), (⟨1, [98], 0, false⟩, 10)] := (lexL_tok (t := ⟨4, [40], 0, false⟩) (k := 1) (by decide) (by decide) (by rfl)).trans (congrArg (preL _) h2)
  exact (lexL_tok (at' := 0) (c := 102) (r := [40, 88, 49, 41, 46, 32, 97, 61, 46, 98]) (t := ⟨1, [102], 0, true⟩) (k := 1) (by decide) (by decide) (by rfl)).trans (congrArg (preL _) h1)
theorem know_2 : lexL false 0 (bs knS2) = .inl 2 := by
  have h2 : lexL false 2 [1] = .inl 2 := lexL_bad (by decide) (by decide) (by rfl)
  have h1 : lexL false 1 [32, 1] = .inl 2 := (lexL_gap (by decide) (by decide)).trans h2
  exact (lexL_tok (at' := 0) (c := 97) (r := [32, 1]) (t := ⟨1, [97], 0, false⟩) (k := 1) (by decide) (by decide) (by rfl)).trans (congrArg (preL _) h1)
/-- What the law looks at of its first example's tokens. -/
def K6 (W : World) (b off : Nat) : Prop :=
  W.cell? ⟨b, off + 1, none⟩ = some (.string ⟨#[102]⟩) ∧ W.cell? ⟨b, off + 4, none⟩ = some (.bool true) ∧ W.cell? ⟨b, off + 10, none⟩ = some (.int .i64 2) ∧ W.cell? ⟨b, off + 20, none⟩ = some (.int .i64 5) ∧ W.cell? ⟨b, off + 31, none⟩ = some (.string ⟨#[61, 46]⟩) ∧ W.cell? ⟨b, off + 38, none⟩ = some (.int .i64 10)
theorem K6.next {W W' : World} {b off : Nat} (h : K6 W b off) (hlt : b < W.heap.size) (hb : Below W.heap.size W W') : K6 W' b off := by
  have key : ∀ o v, W.cell? ⟨b, o, none⟩ = some v → W'.cell? ⟨b, o, none⟩ = some v := fun o v hv => (World.cell?_of_block (a := ⟨b, o, none⟩) (hb.block b hlt)).trans hv
  obtain ⟨h0, h1, h2, h3, h4, h5⟩ := h
  exact ⟨key _ _ h0, key _ _ h1, key _ _ h2, key _ _ h3, key _ _ h4, key _ _ h5⟩
theorem K6_of {W : World} {B : Nat} {sv : Value} (h : toksIn W B knL sv) : ∃ b off c, sv = .slice (some ⟨b, off, none⟩) 8 c ∧ b < B ∧ K6 W b off := by
  obtain ⟨g, c, rfl, h | ⟨b, off, rfl, hb, h⟩⟩ := h
  · cases h
  · exact ⟨b, off, c, rfl, hb, (h 0 (by decide)).2.1, (h 0 (by decide)).2.2.2.2, (h 2 (by decide)).1, (h 4 (by decide)).1, (h 6 (by decide)).2.1, (h 7 (by decide)).2.2.2.1⟩
theorem lex_one (HL : LexSays) (w : World) (hr : Rng w) : Calls Tryd.prog 7 #[.string ⟨#[102, 40, 88, 49, 41, 46, 32, 97, 61, 46, 98]⟩] w fun e w' => ∃ b off c, e = .returned (.tuple #[.slice (some ⟨b, off, none⟩) 8 c, .int .i64 0, .int .i64 0]) ∧ b < w'.heap.size ∧ K6 w' b off ∧ Below w.heap.size w w' :=
  (HL knS1 w hr (by decide)).mono fun e w' h => by
    obtain ⟨hb, l, sv, b, c, rfl, ht, _, _, h | h | h⟩ := h
    · exact absurd h.1 (by decide)
    · rw [know_1] at h; cases h.2.1
    · rw [know_1] at h
      obtain ⟨_, h1, rfl, rfl⟩ := h
      injection h1 with h1
      subst h1
      obtain ⟨b', off, c', rfl, h2, h3⟩ := K6_of ht
      exact ⟨b', off, c', rfl, h2, h3, hb⟩
theorem lex_two (HL : LexSays) (w : World) (hr : Rng w) : Calls Tryd.prog 7 #[.string ⟨#[97, 32, 1]⟩] w fun e w' => ∃ sv, e = .returned (.tuple #[sv, .int .i64 2, .int .i64 2]) ∧ Below w.heap.size w w' :=
  (HL knS2 w hr (by decide)).mono fun e w' h => by
    obtain ⟨hb, l, sv, b, c, rfl, ht, _, _, h | h | h⟩ := h
    · exact absurd h.1 (by decide)
    · rw [know_2] at h
      obtain ⟨_, h1, rfl, rfl⟩ := h
      injection h1 with h1
      subst h1
      exact ⟨sv, rfl, hb⟩
    · rw [know_2] at h; cases h.2.1
set_option maxRecDepth 100000 in
set_option maxHeartbeats 2000000 in
theorem lknows_any (HL : LexSays) (w : World) (hr : Rng w) :
    Calls Tryd.prog 6 #[] w fun e w' => e = .returned (.bool true) ∧ Below w.heap.size w w' := by
  have H1 := Lib.hid (fun u h => lex_one HL u h)
  have H2 := Lib.hid (fun u h => lex_two HL u h)
  have HR := Lib.hid hr
  clear HL hr
  go_enter Tryd.func6, Tryd.ntmps6
  go_wp2_with (first
    | (go_at_call 7; (with_reducible refine (H1.out _ HR.out).mono ?_); rintro e w1 ⟨b, off, c1, rfl, hlt, hk, hb1⟩; have HK := Lib.hid hk; have HB1 := Lib.hid hb1; clear hk hb1)
    | (go_at_call 7; (with_reducible refine (H2.out _ (HR.out.next HB1.out)).mono ?_); rintro e w2 ⟨sv2, rfl, hb2⟩; obtain ⟨k0, k1, k2, k3, k4, k5⟩ := K6.next HK.out hlt hb2; have HB2 := Lib.hid hb2; clear hb2))
  go_ret
  exact ⟨rfl, HB1.out.trans (HB2.out.mono HB1.out.size)⟩
end Go.Proofs.YtlildhacfimaaaaDoor
