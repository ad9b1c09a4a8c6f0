/-
  LexJoins whole; LexPlaces' body, if the program's Tokens says what it is to say.
-/
import Derived.Test.YtlildhacfimaaaaDoorLxT
namespace Go.Proofs.YtlildhacfimaaaaDoor
open Go.RowKit

theorem ljoins_any (HL : LexSays) (a b : ByteArray) (w : World) (hr : Rng w) :
    Calls Tryd.prog 4 #[.string a, .string b] w fun e w' => e = .returned (.bool true) ∧ Below w.heap.size w w' := by
  by_cases hz : 3000 < a.size ∨ 3000 < b.size
  · exact ljoins_big HL a b w hr hz
  cases ha : lexL false 0 (bs a) with
  | inl ba => exact ljoins_no1 HL a b w hr (by omega) (by omega) ha
  | inr la =>
    cases hb : lexL false 0 (bs b) with
    | inl bb => exact ljoins_no2 HL a b w hr (by omega) (by omega) ha hb
    | inr lb => exact ljoins_yes HL a b w hr (by omega) (by omega) ha hb
set_option maxRecDepth 100000 in
set_option maxHeartbeats 2000000 in
theorem lplaces_no (HL : LexSays) (s : ByteArray) (w : World) (hr : Rng w) (h1 : s.size ≤ 3000) {b : Nat} (hb : lexL false 0 (bs s) = .inl b) :
    Calls Tryd.prog 5 #[.string s] w fun e w' => e = .returned (.bool true) ∧ Below w.heap.size w w' := by
  have HK := Lib.hid (fun u h => lknows_any HL u h)
  have HR := Lib.hid hr
  clear hr
  have HA := Lib.hid (fun u h => lex_no HL s u h (by omega) hb)
  have hbb := lex_bad_at _ _ _ _ _ (Nat.le_refl _) hb
  rw [bs_length] at hbb
  have hb3 : b < s.size := by omega
  clear HL hb hbb
  go_enter Tryd.func5, Tryd.ntmps5
  go_wp2_with (first
    | (go_at_call 7; (with_reducible refine (HA.out _ HR.out).mono ?_); rintro e w1 ⟨hb1, g1, c1, rfl⟩; have HB1 := Lib.hid hb1; have HR := Lib.hid (HR.out.next hb1); clear hb1)
    | (go_at_call 6; refine (HK.out _ HR.out).mono ?_; rintro e w4 ⟨rfl, hb4⟩; have HB4 := Lib.hid hb4; have HR := Lib.hid (HR.out.next hb4); clear hb4))
  go_ret
  exact ⟨rfl, HB1.out.trans (HB4.out.mono HB1.out.size)⟩
set_option maxRecDepth 100000 in
set_option maxHeartbeats 2000000 in
theorem lplaces_big (HL : LexSays) (s : ByteArray) (w : World) (hr : Rng w) (h1 : 3000 < s.size) :
    Calls Tryd.prog 5 #[.string s] w fun e w' => e = .returned (.bool true) ∧ Below w.heap.size w w' := by
  have HK := Lib.hid (fun u h => lknows_any HL u h)
  have HR := Lib.hid hr
  clear hr
  clear HL
  go_enter Tryd.func5, Tryd.ntmps5
  go_wp2_with (go_at_call 6; refine (HK.out _ HR.out).mono ?_; rintro e w4 ⟨rfl, hb4⟩; have HB4 := Lib.hid hb4; have HR := Lib.hid (HR.out.next hb4); clear hb4)
  go_ret
  exact ⟨rfl, HB4.out⟩
/-- The text that stands at a token's place is its own. -/
theorem stand_text {s : ByteArray} {x : Tk × Nat} (h : Stand (bs s) 0 x) (hlt : x.2 < s.size) (hq : s[x.2] ≠ 39) (h5 : x.1.kind ≠ 5) : x.2 + x.1.text.length ≤ s.size ∧ s.extract x.2 (x.2 + x.1.text.length) = ⟨x.1.text.toArray⟩ := by
  have hc : (bs s)[x.2 - 0]? = some s[x.2] := by
    rw [Nat.sub_zero, List.getElem?_eq_getElem (by rw [bs_length]; exact hlt), bs_get s x.2 hlt]
  obtain ⟨e1, e2⟩ := h.text _ hc hq h5
  rw [Nat.sub_zero] at e1 e2
  rw [bs_length] at e1
  refine ⟨e1, bs_mk ?_⟩
  rw [bs_extract, show x.2 + x.1.text.length - x.2 = x.1.text.length by omega, e2]
theorem stand_alone {s : ByteArray} {x : Tk × Nat} (h : Stand (bs s) 0 x) (hlt : x.2 < s.size) (hq : s[x.2] ≠ 39) (h5 : x.1.kind ≠ 5) (hd : x.1.text ≠ [46]) : lexL false 0 (bs (⟨x.1.text.toArray⟩ ++ ⟨#[32]⟩)) = .inr [(⟨x.1.kind, x.1.text, x.1.n, false⟩, 0)] := by
  have hc : (bs s)[x.2 - 0]? = some s[x.2] := by
    rw [Nat.sub_zero, List.getElem?_eq_getElem (by rw [bs_length]; exact hlt), bs_get s x.2 hlt]
  have e := h.alone _ hc hq h5 hd
  have e2 : bs ((⟨x.1.text.toArray⟩ : ByteArray) ++ ⟨#[32]⟩) = x.1.text ++ [32] := by rw [bs_append]; simp [bs]
  rw [e2, e]
end Go.Proofs.YtlildhacfimaaaaDoor
