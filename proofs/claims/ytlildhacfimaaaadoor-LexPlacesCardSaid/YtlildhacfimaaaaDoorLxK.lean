/-
  The document's Tokens.
-/
import Derived.Test.YtlildhacfimaaaaDoorLxJ
import Derived.Test.YtlildhacfimaaaaDoorTmP
import Derived.Maps.AppendAt
namespace Go.Proofs.YtlildhacfimaaaaDoor
open Go.RowKit

/-- A token's cells. -/
def tokC (x : Tk × Nat) : List Value := [.int .i64 (x.1.kind : Nat), .string ⟨x.1.text.toArray⟩, .int .i64 (x.1.n : Nat), .int .i64 (x.2 : Nat), .bool x.1.opn]
theorem Tryd.infoTk : (Tryd.prog.info? 39).map (fun i => (i.zero, i.size, i.bytes)) = some (some (.agg #[.int .i64 0, .string ⟨#[]⟩, .int .i64 0, .int .i64 0, .bool false]), 5, 48) := by kernel_rfl
theorem lnews {w : World} {L : List Value} {t : TypeId} (H : Nat) (hH : w.heap.size = H) : ∀ (j : Nat) (u : Value), L[j]? = some u → (w.alloc (.cells L.toArray t)).cell? ((⟨H, 0, none⟩ : Addr).add j) = some u := by
  subst hH
  intro j u hu
  rw [Addr.add_lit]
  simp only [Nat.zero_add, World.cell?]
  rw [lnewBlk w (.cells L.toArray t)]
  simpa using hu
theorem bs_mk {x : ByteArray} {l : List UInt8} (h : bs x = l) : x = ⟨l.toArray⟩ := by
  subst h
  cases x
  simp [bs]
def TokensPost (w : World) (s : ByteArray) (e : Ending) (w' : World) : Prop :=
  Below w.heap.size w w' ∧ ((8000 < s.size ∧ e = .returned (.tuple #[.slice none 0 0, .int .i64 0, .int .i64 3])) ∨
    (s.size ≤ 8000 ∧ ∃ b : Nat, lexL false 0 (bs s) = .inl b ∧ e = .returned (.tuple #[.slice none 0 0, .int .i64 (b : Nat), .int .i64 2])) ∨
    (s.size ≤ 8000 ∧ ∃ (l : List (Tk × Nat)) (sv : Value), lexL false 0 (bs s) = .inr l ∧ l.length ≤ s.size ∧ e = .returned (.tuple #[sv, .int .i64 0, .int .i64 0]) ∧ w'.ownsRow w.heap.size 39 5 sv l.length (l.flatMap tokC)))
set_option maxRecDepth 100000 in
set_option maxHeartbeats 2000000 in
theorem dtokens_any (s : ByteArray) (w : World) (hs : s.size ≤ 1000000) :
    Calls Tryd.prog 8 #[.string s] w fun e w' => TokensPost w s e w' := by
  by_cases hz : 8000 < s.size
  · go_enter Tryd.func8, Tryd.ntmps8
    go_wp2_with fail
    go_ret3
    exact ⟨Below.refl _ _, .inl ⟨hz, rfl⟩⟩
  have hz1 : s.size ≤ 8000 := by omega
  have HZ1 := Lib.hid hz1
  clear hz
  obtain ⟨i0, hi, hi0, hi1, hi2⟩ := info_parts Tryd.infoTk
  go_enter Tryd.func8, Tryd.ntmps8
  go_wp2_with fail
  go_loopw [5, 6, 7] (fun v i c wr => ∃ (q : Nat) (l : List (Tk × Nat)) (cm : Bool), q ≤ s.size ∧ l.length ≤ q ∧ i = .int .i64 q ∧ c = .bool cm ∧ Hid (lexL false 0 (bs s) = preL l (lexL cm q ((bs s).drop q))) ∧ Hid (wr.ownsRow w.heap.size 39 5 v l.length (l.flatMap tokC)) ∧ Below w.heap.size w wr) (fun _ i _ _ => s.size - (intOf i).toNat)
  case atStart => exact ⟨0, [], false, Nat.zero_le _, Nat.le_refl _, rfl, rfl, Lib.hid (by rw [preL_nil]; rfl), Lib.hid (World.ownsRow_nil _ _ _ _), Below.refl _ _⟩
  case round =>
    obtain ⟨q, l, cm, hq, hl, rfl, rfl, hlex, hown, hb⟩ := hrel
    have HB := Lib.hid hb
    have HLEX := Lib.hid hlex.out
    have HOWN := Lib.hid hown.out
    clear hb hlex hown
    by_cases hlt : q < s.size
    · have hdrop := drop_at s q hlt
      by_cases hcm : cm = true ∨ s[q] = 37
      · have hstep : ∀ cm', decide (s[q] ≠ 10) = cm' → lexL false 0 (bs s) = preL l (lexL cm' (q + 1) ((bs s).drop (q + 1))) := fun cm' h => by
          rw [HLEX.out, hdrop, lexL_skip hcm, h]
        have HSTEP := Lib.hid hstep
        have hcm2 : cm = true ∨ (cm = false ∧ ((s[q].toNat : Int) == 37) = true) := by
          rcases hcm with h | h
          · exact .inl h
          · cases cm with
            | true => exact .inl rfl
            | false => exact .inr ⟨rfl, by rw [h]; rfl⟩
        have h10 : (s[q] = 10 ∧ ((s[q].toNat : Int) == 10) = true) ∨ (s[q] ≠ 10 ∧ ((s[q].toNat : Int) == 10) = false) := by
          by_cases h : s[q] = 10
          · exact .inl ⟨h, by rw [h]; rfl⟩
          · exact .inr ⟨h, eq_byte (n := 10) (by decide) h⟩
        clear hdrop hcm hstep
        rcases hcm2 with rfl | ⟨rfl, b37⟩
        all_goals
          rcases h10 with ⟨h, b10⟩ | ⟨h, b10⟩
        all_goals
          have H10 := Lib.hid h
          clear h
          go_wp2_with fail
          go_roundw
          case rel =>
            refine ⟨q + 1, l, decide (s[q] ≠ 10), by omega, by omega, by go_num, ?_, Lib.hid (HSTEP.out _ rfl), HOWN, HB.out⟩
            refine congrArg Value.bool ?_
            first | exact (decide_eq_true H10.out).symm | exact (decide_eq_false (fun h : s[q] ≠ 10 => h H10.out)).symm | (rw [bne, b10]; exact (decide_eq_true H10.out).symm) | (rw [bne, b10]; exact (decide_eq_false (fun h : s[q] ≠ 10 => h H10.out)).symm)
          case measure => simp [intOf]; omega
      obtain ⟨rfl, h37⟩ : cm = false ∧ s[q] ≠ 37 := by
        cases cm with
        | true => exact absurd (.inl rfl) hcm
        | false => exact ⟨rfl, fun h => hcm (.inr h)⟩
      have b37 : ((s[q].toNat : Int) == 37) = false := eq_byte (n := 37) (by decide) h37
      obtain ⟨r, hr⟩ : ∃ r, srt s[q] = r := ⟨_, rfl⟩
      have hsort := fun u => dsort_any s[q] u
      rw [hr] at hsort
      have HS := Lib.hid hsort
      clear hsort
      by_cases h5 : r = 5
      · subst h5
        have hstep : lexL false 0 (bs s) = preL l (lexL false (q + 1) ((bs s).drop (q + 1))) := by
          rw [HLEX.out, hdrop, lexL_gap hcm hr]
        have HSTEP := Lib.hid hstep
        clear hstep hdrop hcm h37 hr
        go_wp2_with (go_at_call 12; (with_reducible refine (HS.out _).mono ?_); rintro e w' ⟨rfl, rfl⟩)
        go_roundw
        case rel => exact ⟨q + 1, l, _, by omega, by omega, by go_num, rfl, HSTEP, HOWN, HB.out⟩
        case measure => simp [intOf]; omega
      have b5 : ((r : Int) == 5) = false := by rw [beq_eq_false_iff_ne]; omega
      have hone := fun u => done_any s q u hlt hs
      cases ho : oneL ((bs s).drop q) with
      | none =>
        have hend : lexL false 0 (bs s) = .inl q := by
          rw [hdrop] at ho
          rw [HLEX.out, hdrop, lexL_bad hcm (by rw [hr]; exact h5) ho]
          rfl
        have HEND := Lib.hid hend
        have HO := Lib.hid (fun u => (hone u).mono fun e w' (h : OnePost u (bs s) q e w') => (show Below u.heap.size u w' ∧ e = .returned (.tuple #[.agg #[.int .i64 0, .string ⟨#[]⟩, .int .i64 0, .int .i64 0, .bool false], .int .i64 (-1)]) from ⟨h.1, by
          rcases h.2 with h | ⟨_, _, _, h, _⟩
          · exact h.2
          · rw [ho] at h; cases h⟩))
        clear hend hdrop hcm h37 hr hone ho h5
        go_wp2_with (first
          | (go_at_call 12; (with_reducible refine (HS.out _).mono ?_); rintro e w' ⟨rfl, rfl⟩)
          | (go_at_call 13; refine (HO.out _).mono ?_; rintro e w2 ⟨hb2, rfl⟩; have HB2 := Lib.hid hb2; clear hb2))
        go_ret3
        exact ⟨(HB.out.trans (HB2.out.mono HB.out.size)).alloc (by have := HB.out.size; have := HB2.out.size; omega) _, .inr (.inl ⟨HZ1.out, q, HEND.out, rfl⟩)⟩
      | some y =>
        obtain ⟨t, k⟩ := y
        have hk := (one_join [] ho).2
        rw [List.length_drop, bs_length] at hk
        have hk1 := hk.1
        have hk2 : q + k ≤ s.size := by omega
        have hstep : lexL false 0 (bs s) = preL (l ++ [(t, q)]) (lexL false (q + k) ((bs s).drop (q + k))) := by
          rw [hdrop] at ho
          rw [HLEX.out, hdrop, lexL_tok hcm (by rw [hr]; exact h5) ho, preL_pre, List.drop_drop, show q + 1 + (k - 1) = q + k by omega]
        have HSTEP := Lib.hid hstep
        have HO := Lib.hid (fun u => (hone u).mono fun e w' (h : OnePost u (bs s) q e w') => (show Below u.heap.size u w' ∧ e = .returned (.tuple #[.agg #[.int .i64 (t.kind : Nat), .string ⟨t.text.toArray⟩, .int .i64 (t.n : Nat), .int .i64 (q : Nat), .bool t.opn], .int .i64 (q + k : Nat)]) from ⟨h.1, by
          rcases h.2 with h | ⟨t', x, k', h1, h2, h3⟩
          · rw [ho] at h; cases h.1
          · rw [ho] at h1
            injection h1 with h1
            injection h1 with h1 h4
            subst h1 h4
            rw [h3, bs_mk h2]
            rfl⟩))
        obtain ⟨to, hto⟩ : ∃ to, q + k = to := ⟨_, rfl⟩
        rw [hto] at HO HSTEP hk2
        have hto1 : q + 1 ≤ to := by omega
        clear hstep hdrop hcm h37 hr hone ho h5 hk hk1 hto
        have ones : ∀ u ∈ tokC (t, q), u.oneCell' = true := by simp [tokC, Value.oneCell']
        have hl8 : l.length ≤ 8000 := by omega
        go_wp2_with (first
          | (go_at_call 12; (with_reducible refine (HS.out _).mono ?_); rintro e w' ⟨rfl, rfl⟩)
          | (go_at_call 13; refine (HO.out _).mono ?_; rintro e w2 ⟨hb2, rfl⟩; have HB2 := Lib.hid hb2; clear hb2)
          | (at_builtin; refine wpList_append_sep _ rfl _ _ 27 rfl w.heap.size 39 i0 _ 5 48 Tryd.underlying27 hi hi0 hi1 hi2 rfl (by decide) _ l.length _ rfl (((ownsRow_below HOWN.out HB2.out).alloc _).alloc _) ⟨w2.heap.size + 1, 0, none⟩ 1 1 (tokC (t, q)) rfl (by decide) rfl (lnews (w2.heap.size + 1) (by simp)) ones (by unfold maxLen; omega) (by omega) (by have := HB.out.size; have := HB2.out.size; simp; omega) ?_; intro v' w3 hown3 hgrow hsep))
        go_roundw
        case rel =>
          refine ⟨to, l ++ [(t, q)], false, hk2, by simp; omega, rfl, rfl, HSTEP, Lib.hid ?_, ?_⟩
          · rw [List.length_append, show (l ++ [(t, q)]).flatMap tokC = l.flatMap tokC ++ tokC (t, q) by simp [List.flatMap_append]]
            exact hown3
          · have h1 := HB.out.size
            have h2 := HB2.out.size
            exact (((HB.out.trans (HB2.out.mono HB.out.size)).alloc (by omega) _).alloc (by simp; omega) _).grown hgrow (by simp; omega) (fun j e => (HOWN.out.lt j e).1)
        case measure => simp [intOf]; omega
    · obtain rfl : s.size = q := by omega
      have hend : lexL false 0 (bs s) = .inr l := by
        rw [HLEX.out, List.drop_eq_nil_of_le (by rw [bs_length]; exact Nat.le_refl _), lexL_nil]
        simp [preL]
      have HEND := Lib.hid hend
      clear hend
      go_wp2_with fail
      go_ret3
      exact ⟨HB.out, .inr (.inr ⟨HZ1.out, l, _, HEND.out, hl, rfl, HOWN.out⟩)⟩
end Go.Proofs.YtlildhacfimaaaaDoor
