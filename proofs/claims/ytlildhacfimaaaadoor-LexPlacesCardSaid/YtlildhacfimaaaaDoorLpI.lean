/-
  The program's Tokens says what it is to say.
-/
import Derived.Test.YtlildhacfimaaaaDoorLpH
import Derived.Test.YtlildhacfimaaaaDoorLxP
namespace Go.Proofs.YtlildhacfimaaaaDoor
open Go.RowKit

theorem Tryd.infoPk : (Tryd.prog.info? 33).map (fun i => (i.zero, i.size, i.bytes)) = some (some (.agg #[.int .i64 0, .string ⟨#[]⟩, .int .i64 0, .int .i64 0, .bool false]), 5, 48) := by kernel_rfl
/-- Behind what only separates stands no separator. -/
def Sepd (l : List UInt8) (q : Nat) : Prop := ∀ c r, l.drop q = c :: r → ¬ c = 37 ∧ ¬ srt c = 5
theorem gap_step (l : List UInt8) (q : Nat) : lexL false q (l.drop q) = lexL false (q + gapL false (l.drop q)) (l.drop (q + gapL false (l.drop q))) ∧ Sepd l (q + gapL false (l.drop q)) := by
  have e : l.drop (q + gapL false (l.drop q)) = (l.drop q).drop (gapL false (l.drop q)) := by rw [List.drop_drop]
  unfold Sepd
  rw [e]
  rcases gap_lex (l.drop q) false q with ⟨h1, h2⟩ | ⟨c, r, h1, h2, h3, h4⟩
  · rw [h1, h2, lexL_nil]
    exact ⟨rfl, fun c r h => by cases h⟩
  · rw [h1, h4]
    refine ⟨rfl, fun c' r' h => ?_⟩
    injection h with h _
    subst h
    exact ⟨h2, h3⟩
theorem gapL_le : ∀ (l : List UInt8) (cm : Bool), gapL cm l ≤ l.length
  | [], _ => Nat.le_refl _
  | c :: r, cm => by
    rw [gapL_cons]
    have h1 := gapL_le r (decide (c ≠ 10))
    have h2 := gapL_le r false
    simp only [List.length_cons]
    repeat' split
    all_goals omega
theorem bs_from (s : ByteArray) (q : Nat) : bs (s.extract q s.size) = (bs s).drop q := by
  rw [bs_extract, List.take_of_length_le (by rw [List.length_drop, bs_length]; exact Nat.le_refl _)]
theorem from_size (s : ByteArray) (q : Nat) (h : q ≤ s.size) : (s.extract q s.size).size = s.size - q := by
  rw [ByteArray.size_extract]; omega
theorem run_from {P : Program} {t : TypeId} (h : P.underlying t = some .string) (s : ByteArray) (n : Nat) (x : Int) (hx : x = (n : Int)) (hn : n ≤ s.size) (w : World) : (Instr.slice t (.string s) (some (.int .i64 x)) none none).run P w = .ok (.string (s.extract n s.size)) w := by
  subst hx
  rw [run_slice_string_from_if (h := h), if_pos (by omega)]
  rfl
set_option maxRecDepth 100000 in
set_option maxHeartbeats 4000000 in
theorem lex_tokens : LexSays := by
  intro s w hr hs
  by_cases hz : 8000 < s.size
  · go_enter Tryd.func7, Tryd.ntmps7
    go_wp2_with fail
    go_ret3
    exact ⟨Below.refl _ _, [], .slice none 0 0, 0, 3, rfl, ⟨none, 0, rfl, .inl rfl⟩, Nat.zero_le _, Nat.zero_le _, .inl ⟨hz, rfl, rfl, rfl⟩⟩
  have hz1 : s.size ≤ 8000 := by omega
  have HZ1 := Lib.hid hz1
  clear hz
  obtain ⟨i0, hi, hi0, hi1, hi2⟩ := info_parts Tryd.infoPk
  have hg0 := gap_step (bs s) 0
  rw [List.drop_zero, Nat.zero_add] at hg0
  have hgl := gapL_le (bs s) false
  rw [bs_length] at hgl
  have HG := Lib.hid (fun u => gap_any s u hs)
  generalize gapL false (bs s) = g0 at hg0 hgl HG
  have HG0 := Lib.hid hg0
  have HR := Lib.hid hr
  clear hg0 hr
  go_enter Tryd.func7, Tryd.ntmps7
  go_wp2_with (go_at_call 10; (with_reducible refine (HG.out _).mono ?_); rintro e w0 ⟨rfl, hb0⟩; have HB0 := Lib.hid hb0; clear hb0)
  go_loopw [5, 6] (fun v i wr => ∃ (q : Nat) (l : List (Tk × Nat)), q ≤ s.size ∧ l.length ≤ q ∧ i = .int .i64 q ∧ Hid (lexL false 0 (bs s) = preL l (lexL false q ((bs s).drop q)) ∧ Sepd (bs s) q) ∧ Hid (wr.ownsRow w.heap.size 33 5 v l.length (l.flatMap tokC)) ∧ Hid (Below w.heap.size w wr)) (fun _ i _ => s.size - (intOf i).toNat)
  case atStart => exact ⟨g0, [], hgl, Nat.zero_le _, rfl, Lib.hid ⟨by rw [preL_nil]; exact HG0.out.1, HG0.out.2⟩, Lib.hid (World.ownsRow_nil _ _ _ _), HB0⟩
  case round =>
    obtain ⟨q, l, hq, hl, rfl, hlex, hown, hb⟩ := hrel
    have HB := Lib.hid hb.out
    have HLEX := Lib.hid hlex.out
    have HOWN := Lib.hid hown.out
    clear hb hlex hown
    by_cases hlt : q < s.size
    · have hdrop := pdrop_at s q hlt
      have hsep := HLEX.out.2 _ _ hdrop
      have hsl := fun u => run_from Tryd.underlying9 s q (q : Int) rfl hq u
      have hx0 : 0 < (s.extract q s.size).size := by rw [from_size s q hq]; omega
      have hone := fun u hru => pfirst_any (s.extract q s.size) u hru hx0 (by rw [from_size s q hq]; omega)
      rw [bs_from] at hone
      cases ho : oneL ((bs s).drop q) with
      | none =>
        have hend : lexL false 0 (bs s) = .inl q := by
          rw [hdrop] at ho
          rw [HLEX.out.1, hdrop, lexL_bad (by rintro (h | h); cases h; exact hsep.1 h) hsep.2 ho]
          rfl
        have HEND := Lib.hid hend
        have HO := Lib.hid (fun u hru => (hone u hru).mono fun e w' (h : FPost u ((bs s).drop q) e w') => (show Below u.heap.size u w' ∧ e = .returned (.tuple #[.agg #[.int .i64 0, .string ⟨#[]⟩, .int .i64 0, .int .i64 0, .bool false], .int .i64 0]) from by
          obtain ⟨kind, x, n, o, m, he, hb, ht⟩ := h
          rcases ht with ⟨_, rfl, rfl, rfl, rfl, rfl⟩ | ⟨h, _⟩
          · exact ⟨hb, he⟩
          · rw [ho] at h; cases h))
        clear hend hdrop hone ho hx0 hsep
        go_wp2_with (go_at_call 11; (refine (HO.out _ (HR.out.next HB.out)).mono ?_); rintro e w2 ⟨hb2, rfl⟩; have HB2 := Lib.hid hb2; clear hb2)
        go_ret3
        exact ⟨(HB.out.trans (HB2.out.mono HB.out.size)).alloc (by have := HB.out.size; have := HB2.out.size; omega) _, [], .slice none 0 0, q, 2, rfl, ⟨none, 0, rfl, .inl rfl⟩, Nat.zero_le _, hq, .inr (.inl ⟨HZ1.out, HEND.out, rfl, rfl⟩)⟩
      | some y =>
        obtain ⟨t, k⟩ := y
        have hk := (one_join [] ho).2
        rw [List.length_drop, bs_length] at hk
        have hk1 := hk.1
        have hk2 : q + k ≤ s.size := by omega
        obtain ⟨to, hto⟩ : ∃ to, q + k = to := ⟨_, rfl⟩
        have hstep : lexL false 0 (bs s) = preL (l ++ [(t, q)]) (lexL false to ((bs s).drop to)) := by
          rw [hdrop] at ho
          rw [HLEX.out.1, hdrop, lexL_tok (by rintro (h | h); cases h; exact hsep.1 h) hsep.2 ho, preL_pre, List.drop_drop, show q + 1 + (k - 1) = to by omega, hto]
        have hgs := gap_step (bs s) to
        have hg9 := gapL_le ((bs s).drop to) false
        rw [List.length_drop, bs_length] at hg9
        have hgp := fun u => gap_any (s.extract to s.size) u (by rw [from_size s to (by omega)]; omega)
        rw [bs_from] at hgp
        rw [hgs.1] at hstep
        have hsep2 := hgs.2
        clear hgs
        generalize gapL false ((bs s).drop to) = g at hstep hg9 hgp hsep2
        have HGP := Lib.hid hgp
        have HSTEP := Lib.hid (show lexL false 0 (bs s) = preL (l ++ [(t, q)]) (lexL false (to + g) ((bs s).drop (to + g))) ∧ Sepd (bs s) (to + g) from ⟨hstep, hsep2⟩)
        have HO := Lib.hid (fun u hru => (hone u hru).mono fun e w' (h : FPost u ((bs s).drop q) e w') => (show Below u.heap.size u w' ∧ e = .returned (.tuple #[.agg #[.int .i64 (t.kind : Nat), .string ⟨t.text.toArray⟩, .int .i64 (t.n : Nat), .int .i64 0, .bool t.opn], .int .i64 (k : Nat)]) from by
          obtain ⟨kind, x, n, o, m, he, hb, ht⟩ := h
          rcases ht with ⟨h, _⟩ | ⟨h, _⟩
          · rw [ho] at h; cases h
          · rw [ho] at h
            injection h with h
            injection h with h1 h2
            subst h1 h2
            rw [he, bs_mk (x := x) rfl]
            exact ⟨hb, rfl⟩))
        have hsl2 := fun u => run_from Tryd.underlying9 s to ((q : Int) + (k : Int)) (by omega) (by omega) u
        have bk : ((k : Int) == 0) = false := by rw [beq_eq_false_iff_ne]; omega
        have hto1 : q + 1 ≤ to := by omega
        have hto2 : to + g ≤ s.size := by omega
        have hto3 : k ≤ 8000 := by omega
        have HTO := Lib.hid hto
        have hg8 : g ≤ 8000 := by omega
        clear hstep hdrop hone ho hk hk1 hk2 hto hgp hsep hsep2 hx0 hg9
        have ones : ∀ u ∈ tokC (t, q), u.oneCell' = true := by simp [tokC, Value.oneCell']
        have hl8 : l.length ≤ 8000 := by omega
        have hq8 : q ≤ 8000 := by omega
        go_wp2_with (first
          | (go_at_call 11; (refine (HO.out _ (HR.out.next HB.out)).mono ?_); rintro e w2 ⟨hb2, rfl⟩; have HB2 := Lib.hid hb2; clear hb2)
          | (go_at_call 10; (refine (HGP.out _).mono ?_); rintro e w4 ⟨rfl, hb4⟩; have HB4 := Lib.hid hb4; clear hb4)
          | (at_builtin; refine wpList_append_sep _ rfl _ _ 23 rfl w.heap.size 33 i0 _ 5 48 Tryd.underlying23 hi hi0 hi1 hi2 rfl (by decide) _ l.length _ rfl (((ownsRow_below HOWN.out HB2.out).alloc _).alloc _) ⟨w2.heap.size + 1, 0, none⟩ 1 1 (tokC (t, q)) rfl (by decide) rfl (lnews (w2.heap.size + 1) (by simp)) ones (by unfold maxLen; omega) (by omega) (by have := HB.out.size; have := HB2.out.size; simp; omega) ?_; intro v' w3 hown3 hgrow hsep3; have HOWN3 := Lib.hid hown3; have HGROW := Lib.hid hgrow; clear hown3 hgrow hsep3))
        have HT := HTO.out
        refine ⟨⟨to + g, l ++ [(t, q)], hto2, by simp; omega, congrArg (Value.int .i64) (by omega), HSTEP, Lib.hid ?_, Lib.hid ?_⟩, ?_⟩
        · rw [List.length_append, show (l ++ [(t, q)]).flatMap tokC = l.flatMap tokC ++ tokC (t, q) by simp [List.flatMap_append]]
          exact ownsRow_below HOWN3.out HB4.out
        · have h1 := HB.out.size
          have h2 := HB2.out.size
          have h3 := (((HB.out.trans (HB2.out.mono HB.out.size)).alloc (by omega) _).alloc (by simp; omega) _).grown HGROW.out (by simp; omega) (fun j e => (HOWN.out.lt j e).1)
          exact h3.trans (HB4.out.mono h3.size)
        · simp [intOf]; omega
    · obtain rfl : s.size = q := by omega
      have hend : lexL false 0 (bs s) = .inr l := by
        rw [HLEX.out.1, List.drop_eq_nil_of_le (by rw [bs_length]; exact Nat.le_refl _), lexL_nil]
        simp [preL]
      have HEND := Lib.hid hend
      clear hend
      go_wp2_with fail
      go_ret3
      exact ⟨HB.out, l, _, 0, 0, rfl, toksIn_of_owns HOWN.out, hl, Nat.zero_le _, .inr (.inr ⟨HZ1.out, HEND.out, rfl, rfl⟩)⟩
end Go.Proofs.YtlildhacfimaaaaDoor
