/-
  The document's One: the token at a place.
-/
import Derived.Test.YtlildhacfimaaaaDoorLxD
import Derived.Deep.RegionHeld3
import Derived.Deep.RegionWith
namespace Go.Proofs.YtlildhacfimaaaaDoor
open Go.RowKit

def OnePost (w : World) (l : List UInt8) (at' : Nat) (e : Ending) (w' : World) : Prop :=
  Below w.heap.size w w' ∧ ((oneL (l.drop at') = none ∧ e = .returned noTok) ∨ ∃ (t : Tk) (x : ByteArray) (k : Nat), oneL (l.drop at') = some (t, k) ∧ bs x = t.text ∧ e = .returned (.tuple #[tokV t.kind x t.n at' t.opn, .int .i64 (at' + k : Nat)]))
theorem run_cut {P : Program} {t : TypeId} (h : P.underlying t = some .string) (s : ByteArray) (a b : Nat) (h1 : a ≤ b) (h2 : b ≤ s.size) (w : World) : (Instr.slice t (.string s) (some (.int .i64 (a : Int))) (some (.int .i64 (b : Int))) none).run P w = .ok (.string (s.extract a b)) w := by
  have := run_slice_string (P := P) w t s .i64 .i64 (a : Int) (b : Int) h (by omega) (by omega) (by omega)
  rw [this]
  rfl
theorem drop_at (s : ByteArray) (q : Nat) (h : q < s.size) : (bs s).drop q = s[q] :: (bs s).drop (q + 1) := by
  rw [List.drop_eq_getElem_cons (by rw [bs_length]; exact h), bs_get s q h]
theorem lnewBlk (w : World) (o : Obj) : (w.alloc o).heap[w.heap.size]? = some o := by
  show (w.heap.push o)[w.heap.size]? = some o
  simp
/-- The result stands empty in memory of its own. -/
structure ZSt (w W : World) : Prop where
  below : Below w.heap.size w W
  blk : W.heap[w.heap.size]? = some (Obj.cells #[.int .i64 0, .string ⟨#[]⟩, .int .i64 0, .int .i64 0, .bool false] 39 (0, 0))
  size : w.heap.size < W.heap.size
theorem zst0 (w : World) : ZSt w (w.alloc (Obj.cells #[.int .i64 0, .string ⟨#[]⟩, .int .i64 0, .int .i64 0, .bool false] 39 (0, 0))) :=
  ⟨(Below.refl _ _).alloc (Nat.le_refl _) _, lnewBlk _ _, by simp⟩
theorem ZSt.next {w W W' : World} (h : ZSt w W) (hb : Below W.heap.size W W') : ZSt w W' :=
  ⟨h.below.trans (hb.mono h.below.size), (hb.block w.heap.size h.size).trans h.blk, Nat.lt_of_lt_of_le h.size hb.size⟩
theorem ZSt.cells {w W : World} (h : ZSt w W) : (W.cell? ⟨w.heap.size, 0, none⟩ = some (.int .i64 0) ∧ W.cell? ⟨w.heap.size, 1, none⟩ = some (.string ⟨#[]⟩) ∧ W.cell? ⟨w.heap.size, 2, none⟩ = some (.int .i64 0) ∧ W.cell? ⟨w.heap.size, 3, none⟩ = some (.int .i64 0) ∧ W.cell? ⟨w.heap.size, 4, none⟩ = some (.bool false)) ∧
    (W.frozen? ⟨w.heap.size, 0, none⟩ = false ∧ W.frozen? ⟨w.heap.size, 1, none⟩ = false ∧ W.frozen? ⟨w.heap.size, 2, none⟩ = false ∧ W.frozen? ⟨w.heap.size, 3, none⟩ = false ∧ W.frozen? ⟨w.heap.size, 4, none⟩ = false) := by
  simp [World.cell?, World.frozen?, h.blk]
theorem set5_below {w W : World} (h : Below w.heap.size w W) (a0 a1 a2 a3 a4 : Value) : Below w.heap.size w (((((W.setCell ⟨w.heap.size, 0, none⟩ a0).setCell ⟨w.heap.size, 1, none⟩ a1).setCell ⟨w.heap.size, 2, none⟩ a2).setCell ⟨w.heap.size, 3, none⟩ a3).setCell ⟨w.heap.size, 4, none⟩ a4) :=
  ((((h.setCell (p := ⟨_, 0, none⟩) (Nat.le_refl _) _).setCell (p := ⟨_, 1, none⟩) (Nat.le_refl _) _).setCell (p := ⟨_, 2, none⟩) (Nat.le_refl _) _).setCell (p := ⟨_, 3, none⟩) (Nat.le_refl _) _).setCell (p := ⟨_, 4, none⟩) (Nat.le_refl _) _
theorem cut_tw {p : UInt8 → Bool} (s : ByteArray) (at' to : Nat) (h : at' + (((bs s).drop at').takeWhile p).length = to) : bs (s.extract at' to) = ((bs s).drop at').takeWhile p ∧ (bs s).drop to = ((bs s).drop at').dropWhile p := by
  obtain ⟨l, hl⟩ : ∃ l, (bs s).drop at' = l := ⟨_, rfl⟩
  rw [hl] at h ⊢
  have e : to - at' = (l.takeWhile p).length := by omega
  refine ⟨by rw [bs_extract, hl, e, tw_take], ?_⟩
  have : (bs s).drop to = l.drop (to - at') := by rw [← hl, List.drop_drop]; congr 1; omega
  rw [this, e]
  conv => lhs; arg 2; rw [← List.takeWhile_append_dropWhile (p := p) (l := l)]
  rw [List.drop_left]
theorem one_ok {s : ByteArray} {at' to kind : Nat} {x : ByteArray} {w w' : World} {e : Ending} (hone : oneL ((bs s).drop at') = nameL kind (bs x) ((bs s).drop to) (to - at')) (h1 : at' ≤ to) (hn : 1 ≤ x.size ∧ x.size ≤ 20) (hb : Below w.heap.size w w') (he : e = .returned (.tuple #[tokV kind x 0 at' (opens ((bs s).drop to)), .int .i64 (to : Nat)])) : OnePost w (bs s) at' e w' := by
  refine ⟨hb, .inr ⟨⟨kind, bs x, 0, opens ((bs s).drop to)⟩, x, to - at', ?_, rfl, ?_⟩⟩
  · rw [hone, name_is (by rw [bs_length]; exact hn.1) (by rw [bs_length]; exact hn.2)]
  · rw [he, show at' + (to - at') = to by omega]
theorem one_no {s : ByteArray} {at' to kind : Nat} {x : ByteArray} {w w' : World} {e : Ending} (hone : oneL ((bs s).drop at') = nameL kind (bs x) ((bs s).drop to) (to - at')) (hn : ¬ (1 ≤ x.size ∧ x.size ≤ 20)) (hb : Below w.heap.size w w') (he : e = .returned noTok) : OnePost w (bs s) at' e w' := by
  refine ⟨hb, .inl ⟨?_, he⟩⟩
  rw [hone]
  unfold nameL
  rw [if_neg (by rw [bs_length]; exact hn)]
theorem one_word (s : ByteArray) (at' to kind : Nat) (h : at' < s.size) (hk : srt s[at'] = kind) (h12 : kind = 1 ∨ kind = 2) (hto : at' + (((bs s).drop at').takeWhile isWord).length = to) : oneL ((bs s).drop at') = nameL kind (bs (s.extract at' to)) ((bs s).drop to) (to - at') := by
  obtain ⟨e1, e2⟩ := cut_tw s at' to hto
  have e3 : to - at' = (((bs s).drop at').takeWhile isWord).length := by omega
  rw [e1, e2, e3, drop_at s at' h]
  unfold oneL
  simp only
  rw [if_pos (by rw [hk]; exact h12), hk]
set_option maxRecDepth 100000 in
set_option maxHeartbeats 2000000 in
theorem done_word1 (s : ByteArray) (at' : Nat) (w : World) (hat : at' < s.size) (hs : s.size ≤ 1000000) (hk : srt s[at'] = 1) :
    Calls Tryd.prog 13 #[.string s, .int .i64 (at' : Nat)] w fun e w' => OnePost w (bs s) at' e w' := by
  obtain ⟨to, hto⟩ : ∃ to, at' + (((bs s).drop at').takeWhile isWord).length = to := ⟨_, rfl⟩
  have hone := one_word s at' to 1 hat hk (by decide) hto
  have hsort := fun u => dsort_any s[at'] u
  rw [hk] at hsort
  have hword := fun u => dword_any s at' u (by omega) hs
  rw [hto] at hword
  have hlen := tw_len (p := isWord) ((bs s).drop at')
  rw [List.length_drop, bs_length] at hlen
  have h1 : at' ≤ to := by omega
  have h2 : to ≤ s.size := by omega
  have hsl := fun u => run_cut Tryd.underlying9 s at' to h1 h2 u
  have HS := Lib.hid hsort
  have HW := Lib.hid hword
  have HONE := Lib.hid hone
  clear hsort hword hto hk hlen hone
  go_enter Tryd.func13, Tryd.ntmps13
  go_wp2_with (first
    | (go_at_call 12; refine (HS.out _).mono ?_; rintro e w' ⟨rfl, rfl⟩)
    | (go_at_call 28; refine (HW.out _).mono ?_; rintro e w' ⟨rfl, rfl⟩))
  have hst := zst0 w
  revert hst
  generalize (w.alloc (Obj.cells #[.int .i64 0, .string ⟨#[]⟩, .int .i64 0, .int .i64 0, .bool false] 39 (0, 0))) = W0
  intro hst
  have HST := Lib.hid hst
  clear hst
  by_cases hn : 1 ≤ (s.extract at' to).size ∧ (s.extract at' to).size ≤ 20
  · have HN := Lib.hid (fun u => (dname_any s 1 (s.extract at' to) at' to u hs).mono fun e w' (h : NamePost u (bs s) 1 (s.extract at' to) at' to e w') => (show Below u.heap.size u w' ∧ e = .returned (.tuple #[.agg #[.int .i64 1, .string (s.extract at' to), .int .i64 0, .int .i64 (at' : Nat), .bool (opens ((bs s).drop to))], .int .i64 (to : Nat)]) from ⟨h.1, by
      rcases h.2 with h | h
      · exact absurd hn h.1
      · exact h.2⟩))
    have HH := Lib.hid hn
    clear hn
    go_region_with (first
      | (go_at_call 28; refine (HW.out _).mono ?_; rintro e w' ⟨rfl, rfl⟩)
      | (go_at_call 27; refine (HN.out _).mono ?_; rintro e w' ⟨hb, rfl⟩; have hst2 := HST.out.next (((Below.refl _ _).drew).trans (by first | exact hb | exact hb.mono (Nat.le_refl _))); obtain ⟨⟨c0, c1, c2, c3, c4⟩, f0, f1, f2, f3, f4⟩ := hst2.cells))
    all_goals
      go_wp2_with fail
      refine bodyPost_ret (v := .tuple #[tokV 1 (s.extract at' to) 0 at' (opens ((bs s).drop to)), .int .i64 (to : Nat)]) (by simp [results, tokV, Tryd.results13, go_sem, c0, c1, c2, c3, c4]) rfl ?_
      exact one_ok HONE.out h1 HH.out (set5_below (ZSt.below (by assumption)) _ _ _ _ _) rfl
  · have HN := Lib.hid (fun u => (dname_any s 1 (s.extract at' to) at' to u hs).mono fun e w' (h : NamePost u (bs s) 1 (s.extract at' to) at' to e w') => (show Below u.heap.size u w' ∧ e = .returned (.tuple #[.agg #[.int .i64 0, .string ⟨#[]⟩, .int .i64 0, .int .i64 0, .bool false], .int .i64 (-1)]) from ⟨h.1, by
      rcases h.2 with h | h
      · exact h.2
      · exact absurd h.1 hn⟩))
    have HH := Lib.hid hn
    clear hn
    go_region_with (first
      | (go_at_call 28; refine (HW.out _).mono ?_; rintro e w' ⟨rfl, rfl⟩)
      | (go_at_call 27; refine (HN.out _).mono ?_; rintro e w' ⟨hb, rfl⟩; have hst2 := HST.out.next (((Below.refl _ _).drew).trans (by first | exact hb | exact hb.mono (Nat.le_refl _))); obtain ⟨⟨c0, c1, c2, c3, c4⟩, f0, f1, f2, f3, f4⟩ := hst2.cells))
    all_goals
      go_wp2_with fail
      refine bodyPost_ret (v := noTok) (by simp [results, noTok, Tryd.results13, go_sem, c0, c1, c2, c3, c4]) rfl ?_
      exact one_no HONE.out HH.out (set5_below (ZSt.below (by assumption)) _ _ _ _ _) rfl
set_option maxRecDepth 100000 in
set_option maxHeartbeats 2000000 in
theorem done_word2 (s : ByteArray) (at' : Nat) (w : World) (hat : at' < s.size) (hs : s.size ≤ 1000000) (hk : srt s[at'] = 2) :
    Calls Tryd.prog 13 #[.string s, .int .i64 (at' : Nat)] w fun e w' => OnePost w (bs s) at' e w' := by
  obtain ⟨to, hto⟩ : ∃ to, at' + (((bs s).drop at').takeWhile isWord).length = to := ⟨_, rfl⟩
  have hone := one_word s at' to 2 hat hk (by decide) hto
  have hsort := fun u => dsort_any s[at'] u
  rw [hk] at hsort
  have hword := fun u => dword_any s at' u (by omega) hs
  rw [hto] at hword
  have hlen := tw_len (p := isWord) ((bs s).drop at')
  rw [List.length_drop, bs_length] at hlen
  have h1 : at' ≤ to := by omega
  have h2 : to ≤ s.size := by omega
  have hsl := fun u => run_cut Tryd.underlying9 s at' to h1 h2 u
  have HS := Lib.hid hsort
  have HW := Lib.hid hword
  have HONE := Lib.hid hone
  clear hsort hword hto hk hlen hone
  go_enter Tryd.func13, Tryd.ntmps13
  go_wp2_with (first
    | (go_at_call 12; refine (HS.out _).mono ?_; rintro e w' ⟨rfl, rfl⟩)
    | (go_at_call 28; refine (HW.out _).mono ?_; rintro e w' ⟨rfl, rfl⟩))
  have hst := zst0 w
  revert hst
  generalize (w.alloc (Obj.cells #[.int .i64 0, .string ⟨#[]⟩, .int .i64 0, .int .i64 0, .bool false] 39 (0, 0))) = W0
  intro hst
  have HST := Lib.hid hst
  clear hst
  by_cases hn : 1 ≤ (s.extract at' to).size ∧ (s.extract at' to).size ≤ 20
  · have HN := Lib.hid (fun u => (dname_any s 2 (s.extract at' to) at' to u hs).mono fun e w' (h : NamePost u (bs s) 2 (s.extract at' to) at' to e w') => (show Below u.heap.size u w' ∧ e = .returned (.tuple #[.agg #[.int .i64 2, .string (s.extract at' to), .int .i64 0, .int .i64 (at' : Nat), .bool (opens ((bs s).drop to))], .int .i64 (to : Nat)]) from ⟨h.1, by
      rcases h.2 with h | h
      · exact absurd hn h.1
      · exact h.2⟩))
    have HH := Lib.hid hn
    clear hn
    go_region_with (first
      | (go_at_call 28; refine (HW.out _).mono ?_; rintro e w' ⟨rfl, rfl⟩)
      | (go_at_call 27; refine (HN.out _).mono ?_; rintro e w' ⟨hb, rfl⟩; have hst2 := HST.out.next (((Below.refl _ _).drew).trans (by first | exact hb | exact hb.mono (Nat.le_refl _))); obtain ⟨⟨c0, c1, c2, c3, c4⟩, f0, f1, f2, f3, f4⟩ := hst2.cells))
    all_goals
      go_wp2_with fail
      refine bodyPost_ret (v := .tuple #[tokV 2 (s.extract at' to) 0 at' (opens ((bs s).drop to)), .int .i64 (to : Nat)]) (by simp [results, tokV, Tryd.results13, go_sem, c0, c1, c2, c3, c4]) rfl ?_
      exact one_ok HONE.out h1 HH.out (set5_below (ZSt.below (by assumption)) _ _ _ _ _) rfl
  · have HN := Lib.hid (fun u => (dname_any s 2 (s.extract at' to) at' to u hs).mono fun e w' (h : NamePost u (bs s) 2 (s.extract at' to) at' to e w') => (show Below u.heap.size u w' ∧ e = .returned (.tuple #[.agg #[.int .i64 0, .string ⟨#[]⟩, .int .i64 0, .int .i64 0, .bool false], .int .i64 (-1)]) from ⟨h.1, by
      rcases h.2 with h | h
      · exact h.2
      · exact absurd h.1 hn⟩))
    have HH := Lib.hid hn
    clear hn
    go_region_with (first
      | (go_at_call 28; refine (HW.out _).mono ?_; rintro e w' ⟨rfl, rfl⟩)
      | (go_at_call 27; refine (HN.out _).mono ?_; rintro e w' ⟨hb, rfl⟩; have hst2 := HST.out.next (((Below.refl _ _).drew).trans (by first | exact hb | exact hb.mono (Nat.le_refl _))); obtain ⟨⟨c0, c1, c2, c3, c4⟩, f0, f1, f2, f3, f4⟩ := hst2.cells))
    all_goals
      go_wp2_with fail
      refine bodyPost_ret (v := noTok) (by simp [results, noTok, Tryd.results13, go_sem, c0, c1, c2, c3, c4]) rfl ?_
      exact one_no HONE.out HH.out (set5_below (ZSt.below (by assumption)) _ _ _ _ _) rfl
end Go.Proofs.YtlildhacfimaaaaDoor
