/-
  The program's first: the token at the beginning of a text.
  The program's Tokens says what it is to say.
  The program's Tokens: the row's capacity, too.
-/
import Derived.Test.YtkjnjahmlobjiaaGreatDoorLpE
import Derived.Test.YtkjnjahmlobjiaaGreatDoorG23
namespace Go.Proofs.YtkjnjahmlobjiaaGreatDoor
open Go.RowKit

def TokR (l : List UInt8) (kind : Nat) (x : ByteArray) (n : Nat) (o : Bool) (m : Nat) : Prop :=
  (oneL l = none ∧ kind = 0 ∧ x = ⟨#[]⟩ ∧ n = 0 ∧ o = false ∧ m = 0) ∨ (oneL l = some (⟨kind, bs x, n, o⟩, m) ∧ m ≤ l.length)
def FPost (w : World) (l : List UInt8) (e : Ending) (w' : World) : Prop :=
  ∃ (kind : Nat) (x : ByteArray) (n : Nat) (o : Bool) (m : Nat), e = .returned (.tuple #[.agg #[.int .i64 (kind : Nat), .string x, .int .i64 (n : Nat), .int .i64 0, .bool o], .int .i64 (m : Nat)]) ∧ Below w.heap.size w w' ∧ TokR l kind x n o m
theorem nm_tok {w w' : World} {s x : ByteArray} {kind n : Nat} {e : Ending} (h : NmPost w (bs s) kind x n e w') (hone : oneL (bs s) = nameL kind (bs x) ((bs s).drop n) n) (hn : n ≤ s.size) : FPost w (bs s) e w' := by
  rcases h.2 with ⟨h1, h2⟩ | ⟨h1, h2⟩
  · refine ⟨0, ⟨#[]⟩, 0, false, 0, h2, h.1, .inl ⟨?_, rfl, rfl, rfl, rfl, rfl⟩⟩
    rw [hone, nameL, if_neg (by rw [bs_length]; exact h1)]
  · refine ⟨kind, x, 0, opens ((bs s).drop n), n, h2, h.1, .inr ⟨?_, by rw [bs_length]; exact hn⟩⟩
    rw [hone, nameL, if_pos (by rw [bs_length]; exact h1)]
theorem pq_tok {w w' : World} {s : ByteArray} {e : Ending} (h : PqPost w (bs s) e w') (hone : oneL (bs s) = (quoL ((bs s).drop 1)).bind fun x => nameL 1 x.1 (((bs s).drop 1).drop x.2) (x.2 + 1)) : FPost w (bs s) e w' := by
  rcases h.2 with ⟨h1, h2⟩ | ⟨t, x, k, h1, h2, h3, h4⟩
  · exact ⟨0, ⟨#[]⟩, 0, false, 0, h2, h.1, .inl ⟨hone.trans h1, rfl, rfl, rfl, rfl, rfl⟩⟩
  · refine ⟨t.kind, x, t.n, t.opn, k, h4, h.1, .inr ⟨?_, h3⟩⟩
    rw [hone, h1, h2]
theorem pn_tok {w w' : World} {s x : ByteArray} {e : Ending} (h : PnPost w x e w') (hone : oneL (bs s) = (numL (bs x)).map fun v => (⟨3, bs x, v, false⟩, (bs x).length)) (hx : x.size ≤ s.size) : FPost w (bs s) e w' := by
  rcases h.2 with ⟨h1, h2⟩ | ⟨v, h1, h2⟩
  · exact ⟨0, ⟨#[]⟩, 0, false, 0, h2, h.1, .inl ⟨by rw [hone, h1]; rfl, rfl, rfl, rfl, rfl, rfl⟩⟩
  · refine ⟨3, x, v, false, x.size, h2, h.1, .inr ⟨?_, by rw [bs_length]; exact hx⟩⟩
    rw [hone, h1, bs_length]
    rfl
theorem bs_ne {s : ByteArray} (h0 : 0 < s.size) : bs s = s[0] :: (bs s).drop 1 := by
  have := pdrop_at s 0 h0
  rwa [List.drop_zero] at this
theorem tw_cut {p : UInt8 → Bool} (s : ByteArray) (n : Nat) (h : ((bs s).takeWhile p).length = n) : bs (s.extract 0 n) = (bs s).takeWhile p ∧ (bs s).drop n = (bs s).dropWhile p ∧ n ≤ s.size := by
  have h1 := cut_tw (p := p) s 0 n (by rw [List.drop_zero]; omega)
  rw [List.drop_zero] at h1
  have h2 := tw_len (p := p) (bs s)
  rw [bs_length] at h2
  exact ⟨h1.1, h1.2, by omega⟩
/-! ### what stands at the beginning, purely -/
theorem one_w (s : ByteArray) (h0 : 0 < s.size) (kind n : Nat) (hk : srt s[0] = kind) (h12 : kind = 1 ∨ kind = 2) (h : ((bs s).takeWhile isWord).length = n) : oneL (bs s) = nameL kind (bs (s.extract 0 n)) ((bs s).drop n) n := by
  obtain ⟨e1, e2, _⟩ := tw_cut s n h
  rw [e1, e2, ← h]
  conv => lhs; rw [bs_ne h0]
  unfold oneL
  simp only
  rw [if_pos (by rw [hk]; exact h12), hk, ← bs_ne h0]
theorem one_n (s : ByteArray) (h0 : 0 < s.size) (n : Nat) (hk : srt s[0] = 3) (h : ((bs s).takeWhile isDigit).length = n) : oneL (bs s) = (numL (bs (s.extract 0 n))).map fun v => (⟨3, bs (s.extract 0 n), v, false⟩, (bs (s.extract 0 n)).length) := by
  obtain ⟨e1, e2, _⟩ := tw_cut s n h
  rw [e1]
  conv => lhs; rw [bs_ne h0]
  unfold oneL
  simp only
  rw [if_neg (by rw [hk]; decide), if_pos hk, ← bs_ne h0]
theorem one_q (s : ByteArray) (h0 : 0 < s.size) (hc : s[0] = 39) : oneL (bs s) = (quoL ((bs s).drop 1)).bind fun x => nameL 1 x.1 (((bs s).drop 1).drop x.2) (x.2 + 1) := by
  conv => lhs; rw [bs_ne h0]
  unfold oneL
  simp only
  rw [hc, if_neg (by decide), if_neg (by decide), if_pos rfl]
theorem one_e (s : ByteArray) (h0 : 0 < s.size) (h : endS (bs s) = true) : oneL (bs s) = some (⟨5, [46], 0, false⟩, 1) := by
  have h1 : s[0] = 46 := by
    unfold endS at h
    rw [Bool.and_eq_true, decide_eq_true_eq] at h
    have h2 := h.1
    rw [bs_ne h0] at h2
    exact Option.some.inj h2
  have h2 : (bs s).head? = some 46 := by rw [bs_ne h0, h1]; rfl
  have h3 := (end_tw h2).2 h
  conv => lhs; rw [bs_ne h0]
  unfold oneL
  simp only
  rw [h1, if_neg (by decide), if_neg (by decide), if_neg (by decide), if_neg (by rintro ⟨h, _⟩; revert h; decide), if_neg (by decide), if_neg (by decide), if_pos]
  rw [← h1, ← bs_ne h0]
  exact ⟨rfl, h3.1, h3.2⟩
theorem one_s (s : ByteArray) (h0 : 0 < s.size) (n : Nat) (hk : srt s[0] = 4) (he : endS (bs s) = false) (h : ((bs s).takeWhile isSign).length = n) : oneL (bs s) = nameL 1 (bs (s.extract 0 n)) ((bs s).drop n) n := by
  obtain ⟨e1, e2, _⟩ := tw_cut s n h
  rw [e1, e2, ← h]
  have hb := byte_all (fun c => decide (srt c = 4 → ¬ (c = 39) ∧ ¬ c = 91 ∧ ¬ (c = 33 ∨ c = 59) ∧ ¬ (c = 40 ∨ c = 41 ∨ c = 91 ∨ c = 93 ∨ c = 124 ∨ c = 44))) (by decide +kernel) s[0]
  obtain ⟨b1, b2, b3, b4⟩ := of_decide_eq_true hb hk
  conv => lhs; rw [bs_ne h0]
  unfold oneL
  simp only
  rw [if_neg (by rw [hk]; decide), if_neg (by rw [hk]; decide), if_neg b1, if_neg (fun h => b2 h.1), if_neg b3, if_neg b4, ← bs_ne h0, if_neg]
  rintro ⟨h1, h2, h3⟩
  have h4 : (bs s).head? = some 46 := by rw [bs_ne h0, h1]; rfl
  rw [(end_tw h4).1 ⟨h2, h3⟩] at he
  cases he
theorem one_x (s : ByteArray) (h0 : 0 < s.size) (hc : s[0] = 33 ∨ s[0] = 59) : oneL (bs s) = nameL 1 (bs (s.extract 0 1)) ((bs s).drop 1) 1 := by
  have e : bs (s.extract 0 1) = [s[0]] := bs_byte s 0 h0
  rw [e]
  conv => lhs; rw [bs_ne h0]
  unfold oneL
  simp only
  have h1 : ¬ (srt s[0] = 1 ∨ srt s[0] = 2) ∧ ¬ srt s[0] = 3 ∧ ¬ s[0] = 39 ∧ ¬ s[0] = 91 := by rcases hc with h | h <;> rw [h] <;> decide
  rw [if_neg h1.1, if_neg h1.2.1, if_neg h1.2.2.1, if_neg (fun h => h1.2.2.2 h.1), if_pos hc]
theorem one_b (s : ByteArray) (h0 : 1 < s.size) (hc : s[0] = 91) (hd : s[1] = 93) : oneL (bs s) = nameL 1 (bs (s.extract 0 2)) ((bs s).drop 2) 2 := by
  have e1 : bs s = 91 :: 93 :: (bs s).drop 2 := by
    rw [bs_ne (by omega : 0 < s.size), pdrop_at s 1 h0, hc, hd]
    rfl
  have e : bs (s.extract 0 2) = [91, 93] := by rw [bs_extract, List.drop_zero, e1]; rfl
  rw [e]
  conv => lhs; rw [e1]
  unfold oneL
  simp only
  rw [if_neg (by decide), if_neg (by decide), if_neg (by decide), if_pos (by simp)]
  rfl
theorem one_m (s : ByteArray) (h0 : 0 < s.size) (hm : (bs mkS).contains s[0] = true) (hb : ¬ (s[0] = 91 ∧ ((bs s).drop 1).head? = some 93)) : oneL (bs s) = some (⟨4, [s[0]], 0, false⟩, 1) := by
  have hq := byte_all (fun c => decide ((bs mkS).contains c = true → ¬ (srt c = 1 ∨ srt c = 2) ∧ ¬ srt c = 3 ∧ ¬ (c = 39) ∧ ¬ (c = 33 ∨ c = 59) ∧ (c = 40 ∨ c = 41 ∨ c = 91 ∨ c = 93 ∨ c = 124 ∨ c = 44))) (by decide +kernel) s[0]
  obtain ⟨b1, b2, b3, b4, b5⟩ := of_decide_eq_true hq hm
  conv => lhs; rw [bs_ne h0]
  unfold oneL
  simp only
  rw [if_neg b1, if_neg b2, if_neg b3, if_neg hb, if_neg b4, if_pos b5]
theorem one_z (s : ByteArray) (h0 : 0 < s.size) (h123 : ¬ (srt s[0] = 1 ∨ srt s[0] = 2) ∧ ¬ srt s[0] = 3) (h39 : ¬ s[0] = 39) (hs : isSign s[0] = false) (hx : ¬ (s[0] = 33 ∨ s[0] = 59)) (hm : (bs mkS).contains s[0] = false) : oneL (bs s) = none := by
  have hq := byte_all (fun c => decide ((bs mkS).contains c = false → isSign c = false → ¬ c = 91 ∧ ¬ c = 46 ∧ ¬ (c = 40 ∨ c = 41 ∨ c = 91 ∨ c = 93 ∨ c = 124 ∨ c = 44))) (by decide +kernel) s[0]
  obtain ⟨b1, b2, b3⟩ := of_decide_eq_true hq hm hs
  conv => lhs; rw [bs_ne h0]
  unfold oneL
  simp only
  rw [if_neg h123.1, if_neg h123.2, if_neg h39, if_neg (fun h => b1 h.1), if_neg hx, if_neg b3, if_neg (fun h => b2 h.1), List.takeWhile_cons, hs, nameL, if_neg (by simp)]
theorem pre_any (s : ByteArray) (b : Bool) (hb : (decide (1 < s.size) && decide ((bs s).take 2 = [91, 93])) = b) (w : World) : Calls Tryz.prog 79 #[.string s, .string ⟨#[91, 93]⟩] w fun e w' => e = .returned (.bool b) ∧ w = w' :=
  (Tryz.strings_HasPrefix _ _ w).mono fun e w' h => by
    obtain ⟨rfl, rfl⟩ := h
    refine ⟨?_, rfl⟩
    have hl := bs_length s
    rw [← hb, ← hl]
    show Ending.returned (.bool (Lib.hasPrefix (bs s) [91, 93])) = _
    congr 2
    unfold Lib.hasPrefix
    match bs s with
    | [] => rfl
    | [c] => simp [List.isPrefixOf]
    | c :: d :: r =>
      rw [Bool.eq_iff_iff]
      simp only [List.isPrefixOf_cons_cons, List.isPrefixOf_nil_left, Bool.and_true, Bool.and_eq_true, beq_iff_eq, decide_eq_true_eq, List.length_cons, List.take_succ_cons, List.take_zero, List.cons.injEq, and_true]
      constructor
      · rintro ⟨rfl, rfl⟩; exact ⟨by omega, rfl, rfl⟩
      · rintro ⟨_, rfl, rfl⟩; exact ⟨rfl, rfl⟩
set_option maxRecDepth 100000 in
set_option maxHeartbeats 4000000 in
theorem pf_word1 (s : ByteArray) (w : World) (h0 : 0 < s.size) (hs : s.size ≤ 1000000) (hk : srt s[0] = 1) :
    Calls Tryz.prog 60 #[.string s] w fun e w' => FPost w (bs s) e w' := by
  obtain ⟨n, hn⟩ : ∃ n, ((bs s).takeWhile isWord).length = n := ⟨_, rfl⟩
  have hone := one_w s h0 1 n hk (by decide) hn
  have hle := (tw_cut s n hn).2.2
  have HF := Lib.hid (fun u => (punq_any 1 s n u hle hs).mono fun e w' h => nm_tok h hone hle)
  have HSP := Lib.hid (fun u => span_word s u hs)
  rw [hn] at HSP
  have HLO : Hid (∀ u, Calls Tryz.prog 70 #[.int .i32 (s[0].toNat : Nat)] u fun e w' => e = .returned (.bool true) ∧ u = w') := Lib.hid fun u => by have h := plow_any (s[0].toNat : Nat) u; rw [low_of, decide_eq_true hk] at h; exact h
  clear hn hone hk
  have h256 : s[0].toNat < 256 := s[0].toNat_lt
  have HST := Lib.hid (pst0 w)
  go_enter Tryz.func60, Tryz.ntmps60
  go_wp2_with (first
    | (go_at_call 70; (with_reducible refine (HLO.out _).mono ?_); rintro e w1 ⟨rfl, rfl⟩)
    | (go_at_call 68; (refine (HSP.out _).mono ?_); rintro e w1 ⟨rfl, hb⟩; have hst := HST.out.next hb; clear HST hb; have HST := Lib.hid hst; clear hst)
    | (go_at_call 71; (refine (HF.out _).mono ?_); rintro e w1 ⟨kind, x, v, o, m, rfl, hb, ht⟩; have HT := Lib.hid ht; have hst := HST.out.next hb; clear HST hb ht; obtain ⟨⟨c0, c1, c2, c3, c4⟩, f0, f1, f2, f3, f4⟩ := hst.cells; have HST := Lib.hid hst; clear hst))
  refine bodyPost_ret (v := .tuple #[.agg #[.int .i64 (kind : Nat), .string x, .int .i64 (v : Nat), .int .i64 0, .bool o], .int .i64 (m : Nat)]) (by simp [results, Tryz.results60, go_sem, c0, c1, c2, c3, c4]) rfl ?_
  exact ⟨kind, x, v, o, m, rfl, set5_below HST.out.below _ _ _ _ _, HT.out⟩
set_option maxRecDepth 100000 in
set_option maxHeartbeats 4000000 in
theorem pf_word2 (s : ByteArray) (w : World) (h0 : 0 < s.size) (hs : s.size ≤ 1000000) (hk : srt s[0] = 2) :
    Calls Tryz.prog 60 #[.string s] w fun e w' => FPost w (bs s) e w' := by
  obtain ⟨n, hn⟩ : ∃ n, ((bs s).takeWhile isWord).length = n := ⟨_, rfl⟩
  have hone := one_w s h0 2 n hk (by decide) hn
  have hle := (tw_cut s n hn).2.2
  have HF := Lib.hid (fun u => (punq_any 2 s n u hle hs).mono fun e w' h => nm_tok h hone hle)
  have HSP := Lib.hid (fun u => span_word s u hs)
  rw [hn] at HSP
  have h1 : ¬ srt s[0] = 1 := by rw [hk]; decide
  have HLO : Hid (∀ u, Calls Tryz.prog 70 #[.int .i32 (s[0].toNat : Nat)] u fun e w' => e = .returned (.bool false) ∧ u = w') := Lib.hid fun u => by have h := plow_any (s[0].toNat : Nat) u; rw [low_of, decide_eq_false h1] at h; exact h
  have HUP : Hid (∀ u, Calls Tryz.prog 73 #[.int .i32 (s[0].toNat : Nat)] u fun e w' => e = .returned (.bool true) ∧ u = w') := Lib.hid fun u => by have h := pup_any (s[0].toNat : Nat) u; rw [up_of, decide_eq_true hk] at h; exact h
  clear h1
  clear hn hone hk
  have h256 : s[0].toNat < 256 := s[0].toNat_lt
  have HST := Lib.hid (pst0 w)
  go_enter Tryz.func60, Tryz.ntmps60
  go_wp2_with (first
    | (go_at_call 70; (with_reducible refine (HLO.out _).mono ?_); rintro e w1 ⟨rfl, rfl⟩)
    | (go_at_call 73; (with_reducible refine (HUP.out _).mono ?_); rintro e w1 ⟨rfl, rfl⟩)
    | (go_at_call 68; (refine (HSP.out _).mono ?_); rintro e w1 ⟨rfl, hb⟩; have hst := HST.out.next hb; clear HST hb; have HST := Lib.hid hst; clear hst)
    | (go_at_call 71; (refine (HF.out _).mono ?_); rintro e w1 ⟨kind, x, v, o, m, rfl, hb, ht⟩; have HT := Lib.hid ht; have hst := HST.out.next hb; clear HST hb ht; obtain ⟨⟨c0, c1, c2, c3, c4⟩, f0, f1, f2, f3, f4⟩ := hst.cells; have HST := Lib.hid hst; clear hst))
  refine bodyPost_ret (v := .tuple #[.agg #[.int .i64 (kind : Nat), .string x, .int .i64 (v : Nat), .int .i64 0, .bool o], .int .i64 (m : Nat)]) (by simp [results, Tryz.results60, go_sem, c0, c1, c2, c3, c4]) rfl ?_
  exact ⟨kind, x, v, o, m, rfl, set5_below HST.out.below _ _ _ _ _, HT.out⟩
theorem of_tw {p : UInt8 → Bool} {l : List UInt8} (c : UInt8) (h : c ∈ l.takeWhile p) : p c = true := by
  induction l with
  | nil => cases h
  | cons d r ih =>
    rw [List.takeWhile_cons] at h
    cases hd : p d
    · rw [hd] at h; simp at h
    · rw [hd] at h
      simp only [if_true, List.mem_cons] at h
      rcases h with rfl | h
      · exact hd
      · exact ih h
set_option maxRecDepth 100000 in
set_option maxHeartbeats 4000000 in
theorem pf_num (s : ByteArray) (w : World) (h0 : 0 < s.size) (hs : s.size ≤ 1000000) (hr0 : Rng w) (hk : srt s[0] = 3) :
    Calls Tryz.prog 60 #[.string s] w fun e w' => FPost w (bs s) e w' := by
  obtain ⟨n, hn⟩ : ∃ n, ((bs s).takeWhile isDigit).length = n := ⟨_, rfl⟩
  have hone := one_n s h0 n hk hn
  obtain ⟨e1, _, hle⟩ := tw_cut s n hn
  have hx : (s.extract 0 n).size = n := by rw [← bs_length, e1, hn]
  have hn0 : 0 < n := by
    rw [← hn]
    conv => rhs; rw [bs_ne h0]
    rw [List.takeWhile_cons, show isDigit s[0] = true by rw [isDigit, hk]; rfl]
    simp
  have hdg : ∀ c ∈ bs (s.extract 0 n), isDigit c = true := by
    rw [e1]
    exact fun c hc => of_tw c hc
  have HF := Lib.hid (fun u (hru : Rng u) => (pnum_any (s.extract 0 n) u hru (by omega) (by omega) hdg).mono fun e w' h => pn_tok h hone (by omega))
  have HSP := Lib.hid (fun u => span_digit s u hs)
  rw [hn] at HSP
  have hsl := fun u => run_upto Tryz.underlying9 s n hle u
  have h1 : ¬ srt s[0] = 1 := by rw [hk]; decide
  have h2 : ¬ srt s[0] = 2 := by rw [hk]; decide
  have HLO : Hid (∀ u, Calls Tryz.prog 70 #[.int .i32 (s[0].toNat : Nat)] u fun e w' => e = .returned (.bool false) ∧ u = w') := Lib.hid fun u => by have h := plow_any (s[0].toNat : Nat) u; rw [low_of, decide_eq_false h1] at h; exact h
  have HUP : Hid (∀ u, Calls Tryz.prog 73 #[.int .i32 (s[0].toNat : Nat)] u fun e w' => e = .returned (.bool false) ∧ u = w') := Lib.hid fun u => by have h := pup_any (s[0].toNat : Nat) u; rw [up_of, decide_eq_false h2] at h; exact h
  have HDI : Hid (∀ u, Calls Tryz.prog 74 #[.int .i32 (s[0].toNat : Nat)] u fun e w' => e = .returned (.bool true) ∧ u = w') := Lib.hid fun u => by have h := pdig_any (s[0].toNat : Nat) u; rw [dig_of, show isDigit s[0] = true by rw [isDigit, hk]; rfl] at h; exact h
  clear hn hone hk h1 h2 e1 hx hdg
  have h256 : s[0].toNat < 256 := s[0].toNat_lt
  have HST := Lib.hid (pst0 w)
  go_enter Tryz.func60, Tryz.ntmps60
  go_wp2_with (first
    | (go_at_call 70; (with_reducible refine (HLO.out _).mono ?_); rintro e w1 ⟨rfl, rfl⟩)
    | (go_at_call 73; (with_reducible refine (HUP.out _).mono ?_); rintro e w1 ⟨rfl, rfl⟩)
    | (go_at_call 74; (with_reducible refine (HDI.out _).mono ?_); rintro e w1 ⟨rfl, rfl⟩)
    | (go_at_call 68; (refine (HSP.out _).mono ?_); rintro e w1 ⟨rfl, hb⟩; have hst := HST.out.next hb; clear HST hb; have HST := Lib.hid hst; clear hst)
    | (go_at_call 75; (refine (HF.out _ (hr0.next HST.out.below)).mono ?_); rintro e w1 ⟨kind, x, v, o, m, rfl, hb, ht⟩; have HT := Lib.hid ht; have hst := HST.out.next hb; clear HST hb ht; obtain ⟨⟨c0, c1, c2, c3, c4⟩, f0, f1, f2, f3, f4⟩ := hst.cells; have HST := Lib.hid hst; clear hst))
  refine bodyPost_ret (v := .tuple #[.agg #[.int .i64 (kind : Nat), .string x, .int .i64 (v : Nat), .int .i64 0, .bool o], .int .i64 (m : Nat)]) (by simp [results, Tryz.results60, go_sem, c0, c1, c2, c3, c4]) rfl ?_
  exact ⟨kind, x, v, o, m, rfl, set5_below HST.out.below _ _ _ _ _, HT.out⟩
set_option maxRecDepth 100000 in
set_option maxHeartbeats 4000000 in
theorem pf_quo (s : ByteArray) (w : World) (h0 : 0 < s.size) (hs : s.size ≤ 1000000) (hc : s[0] = 39) :
    Calls Tryz.prog 60 #[.string s] w fun e w' => FPost w (bs s) e w' := by
  have hone := one_q s h0 hc
  have HF := Lib.hid (fun u => (pquoted_any s u h0 hs).mono fun e w' h => pq_tok h hone)
  have h1 : ¬ srt s[0] = 1 := by rw [hc]; decide
  have h2 : ¬ srt s[0] = 2 := by rw [hc]; decide
  have h3 : ¬ srt s[0] = 3 := by rw [hc]; decide
  have HLO : Hid (∀ u, Calls Tryz.prog 70 #[.int .i32 (s[0].toNat : Nat)] u fun e w' => e = .returned (.bool false) ∧ u = w') := Lib.hid fun u => by have h := plow_any (s[0].toNat : Nat) u; rw [low_of, decide_eq_false h1] at h; exact h
  have HUP : Hid (∀ u, Calls Tryz.prog 73 #[.int .i32 (s[0].toNat : Nat)] u fun e w' => e = .returned (.bool false) ∧ u = w') := Lib.hid fun u => by have h := pup_any (s[0].toNat : Nat) u; rw [up_of, decide_eq_false h2] at h; exact h
  have HDI : Hid (∀ u, Calls Tryz.prog 74 #[.int .i32 (s[0].toNat : Nat)] u fun e w' => e = .returned (.bool false) ∧ u = w') := Lib.hid fun u => by have h := pdig_any (s[0].toNat : Nat) u; rw [dig_of, show isDigit s[0] = false by rw [isDigit, beq_eq_false_iff_ne]; exact h3] at h; exact h
  have b39 : ((s[0].toNat : Int) == 39) = true := by rw [hc]; rfl
  clear hone hc h1 h2 h3
  have h256 : s[0].toNat < 256 := s[0].toNat_lt
  have HST := Lib.hid (pst0 w)
  go_enter Tryz.func60, Tryz.ntmps60
  go_wp2_with (first
    | (go_at_call 70; (with_reducible refine (HLO.out _).mono ?_); rintro e w1 ⟨rfl, rfl⟩)
    | (go_at_call 73; (with_reducible refine (HUP.out _).mono ?_); rintro e w1 ⟨rfl, rfl⟩)
    | (go_at_call 74; (with_reducible refine (HDI.out _).mono ?_); rintro e w1 ⟨rfl, rfl⟩)
    | (go_at_call 76; (refine (HF.out _).mono ?_); rintro e w1 ⟨kind, x, v, o, m, rfl, hb, ht⟩; have HT := Lib.hid ht; have hst := HST.out.next hb; clear HST hb ht; obtain ⟨⟨c0, c1, c2, c3, c4⟩, f0, f1, f2, f3, f4⟩ := hst.cells; have HST := Lib.hid hst; clear hst))
  refine bodyPost_ret (v := .tuple #[.agg #[.int .i64 (kind : Nat), .string x, .int .i64 (v : Nat), .int .i64 0, .bool o], .int .i64 (m : Nat)]) (by simp [results, Tryz.results60, go_sem, c0, c1, c2, c3, c4]) rfl ?_
  exact ⟨kind, x, v, o, m, rfl, set5_below HST.out.below _ _ _ _ _, HT.out⟩
set_option maxRecDepth 100000 in
set_option maxHeartbeats 4000000 in
theorem pf_end (s : ByteArray) (w : World) (h0 : 0 < s.size) (hs : s.size ≤ 1000000) (h1 : ¬ srt s[0] = 1) (h2 : ¬ srt s[0] = 2) (h3 : ¬ srt s[0] = 3) (h39 : ¬ s[0] = 39) (he : endS (bs s) = true) :
    Calls Tryz.prog 60 #[.string s] w fun e w' => FPost w (bs s) e w' := by
  have hone := one_e s h0 he
  have HLO : Hid (∀ u, Calls Tryz.prog 70 #[.int .i32 (s[0].toNat : Nat)] u fun e w' => e = .returned (.bool false) ∧ u = w') := Lib.hid fun u => by have h := plow_any (s[0].toNat : Nat) u; rw [low_of, decide_eq_false h1] at h; exact h
  have HUP : Hid (∀ u, Calls Tryz.prog 73 #[.int .i32 (s[0].toNat : Nat)] u fun e w' => e = .returned (.bool false) ∧ u = w') := Lib.hid fun u => by have h := pup_any (s[0].toNat : Nat) u; rw [up_of, decide_eq_false h2] at h; exact h
  have HDI : Hid (∀ u, Calls Tryz.prog 74 #[.int .i32 (s[0].toNat : Nat)] u fun e w' => e = .returned (.bool false) ∧ u = w') := Lib.hid fun u => by have h := pdig_any (s[0].toNat : Nat) u; rw [dig_of, show isDigit s[0] = false by rw [isDigit, beq_eq_false_iff_ne]; exact h3] at h; exact h
  have b39 : ((s[0].toNat : Int) == 39) = false := peq_byte (n := 39) (by decide) h39
  have HEN : Hid (∀ u, Calls Tryz.prog 77 #[.string s] u fun e w' => e = .returned (.bool true) ∧ u = w') := Lib.hid fun u => by have h := pend_any s u h0 hs; rw [he] at h; exact h
  have hsl := fun u => run_upto Tryz.underlying9 s 1 h0 u
  have hx : bs (s.extract 0 1) = [46] := by
    have h46 : s[0] = 46 := by
      unfold endS at he
      rw [Bool.and_eq_true, decide_eq_true_eq, bs_ne h0] at he
      exact Option.some.inj he.1
    rw [show bs (s.extract 0 1) = [s[0]] from bs_byte s 0 h0, h46]
  have HX := Lib.hid hx
  have HONE := Lib.hid hone
  clear hone he h1 h2 h3 h39 hx
  have h256 : s[0].toNat < 256 := s[0].toNat_lt
  have HST := Lib.hid (pst0 w)
  go_enter Tryz.func60, Tryz.ntmps60
  go_wp2_with (first
    | (go_at_call 70; (with_reducible refine (HLO.out _).mono ?_); rintro e w1 ⟨rfl, rfl⟩)
    | (go_at_call 73; (with_reducible refine (HUP.out _).mono ?_); rintro e w1 ⟨rfl, rfl⟩)
    | (go_at_call 74; (with_reducible refine (HDI.out _).mono ?_); rintro e w1 ⟨rfl, rfl⟩)
    | (go_at_call 77; (with_reducible refine (HEN.out _).mono ?_); rintro e w1 ⟨rfl, rfl⟩))
  refine bodyPost_ret (v := .tuple #[.agg #[.int .i64 5, .string (s.extract 0 1), .int .i64 0, .int .i64 0, .bool false], .int .i64 1]) (by simp [results, Tryz.results60, go_sem]) rfl ?_
  refine ⟨5, s.extract 0 1, 0, false, 1, rfl, ?_, .inr ⟨by rw [HONE.out, HX.out], by rw [bs_length]; omega⟩⟩
  first | exact set5_below HST.out.below _ _ _ _ _ | exact (Below.refl _ _).alloc (Nat.le_refl _) _
set_option maxRecDepth 100000 in
set_option maxHeartbeats 4000000 in
theorem pf_sign (s : ByteArray) (w : World) (h0 : 0 < s.size) (hs : s.size ≤ 1000000) (hk : srt s[0] = 4) (he : endS (bs s) = false) :
    Calls Tryz.prog 60 #[.string s] w fun e w' => FPost w (bs s) e w' := by
  obtain ⟨n, hn⟩ : ∃ n, ((bs s).takeWhile isSign).length = n := ⟨_, rfl⟩
  have hone := one_s s h0 n hk he hn
  have hle := (tw_cut s n hn).2.2
  have HF := Lib.hid (fun u => (punq_any 1 s n u hle hs).mono fun e w' h => nm_tok h hone hle)
  have HSP := Lib.hid (fun u => span_sign s u hs)
  rw [hn] at HSP
  have h1 : ¬ srt s[0] = 1 := by rw [hk]; decide
  have h2 : ¬ srt s[0] = 2 := by rw [hk]; decide
  have h3 : ¬ srt s[0] = 3 := by rw [hk]; decide
  have h39 : ¬ s[0] = 39 := fun e => by rw [e] at hk; revert hk; decide
  have HLO : Hid (∀ u, Calls Tryz.prog 70 #[.int .i32 (s[0].toNat : Nat)] u fun e w' => e = .returned (.bool false) ∧ u = w') := Lib.hid fun u => by have h := plow_any (s[0].toNat : Nat) u; rw [low_of, decide_eq_false h1] at h; exact h
  have HUP : Hid (∀ u, Calls Tryz.prog 73 #[.int .i32 (s[0].toNat : Nat)] u fun e w' => e = .returned (.bool false) ∧ u = w') := Lib.hid fun u => by have h := pup_any (s[0].toNat : Nat) u; rw [up_of, decide_eq_false h2] at h; exact h
  have HDI : Hid (∀ u, Calls Tryz.prog 74 #[.int .i32 (s[0].toNat : Nat)] u fun e w' => e = .returned (.bool false) ∧ u = w') := Lib.hid fun u => by have h := pdig_any (s[0].toNat : Nat) u; rw [dig_of, show isDigit s[0] = false by rw [isDigit, beq_eq_false_iff_ne]; exact h3] at h; exact h
  have b39 : ((s[0].toNat : Int) == 39) = false := peq_byte (n := 39) (by decide) h39
  have HEN : Hid (∀ u, Calls Tryz.prog 77 #[.string s] u fun e w' => e = .returned (.bool false) ∧ u = w') := Lib.hid fun u => by have h := pend_any s u h0 hs; rw [he] at h; exact h
  have HSG : Hid (∀ u, Calls Tryz.prog 78 #[.int .i32 (s[0].toNat : Nat)] u fun e w' => e = .returned (.bool true) ∧ Below u.heap.size u w') := Lib.hid fun u => by have h := psig_any (s[0].toNat : Nat) (by omega) u; rw [sig_of, show isSign s[0] = true by rw [isSign, hk]; rfl] at h; exact h
  clear hn hone hk he h1 h2 h3 h39
  have h256 : s[0].toNat < 256 := s[0].toNat_lt
  have HST := Lib.hid (pst0 w)
  go_enter Tryz.func60, Tryz.ntmps60
  go_wp2_with (first
    | (go_at_call 70; (with_reducible refine (HLO.out _).mono ?_); rintro e w1 ⟨rfl, rfl⟩)
    | (go_at_call 73; (with_reducible refine (HUP.out _).mono ?_); rintro e w1 ⟨rfl, rfl⟩)
    | (go_at_call 74; (with_reducible refine (HDI.out _).mono ?_); rintro e w1 ⟨rfl, rfl⟩)
    | (go_at_call 77; (with_reducible refine (HEN.out _).mono ?_); rintro e w1 ⟨rfl, rfl⟩)
    | (go_at_call 78; (refine (HSG.out _).mono ?_); rintro e w1 ⟨rfl, hb⟩; have hst := HST.out.next hb; clear HST hb; have HST := Lib.hid hst; clear hst)
    | (go_at_call 68; (refine (HSP.out _).mono ?_); rintro e w1 ⟨rfl, hb⟩; have hst := HST.out.next hb; clear HST hb; have HST := Lib.hid hst; clear hst)
    | (go_at_call 71; (refine (HF.out _).mono ?_); rintro e w1 ⟨kind, x, v, o, m, rfl, hb, ht⟩; have HT := Lib.hid ht; have hst := HST.out.next hb; clear HST hb ht; obtain ⟨⟨c0, c1, c2, c3, c4⟩, f0, f1, f2, f3, f4⟩ := hst.cells; have HST := Lib.hid hst; clear hst))
  refine bodyPost_ret (v := .tuple #[.agg #[.int .i64 (kind : Nat), .string x, .int .i64 (v : Nat), .int .i64 0, .bool o], .int .i64 (m : Nat)]) (by simp [results, Tryz.results60, go_sem, c0, c1, c2, c3, c4]) rfl ?_
  exact ⟨kind, x, v, o, m, rfl, set5_below HST.out.below _ _ _ _ _, HT.out⟩
set_option maxRecDepth 100000 in
set_option maxHeartbeats 4000000 in
theorem pf_33 (s : ByteArray) (w : World) (h0 : 0 < s.size) (hs : s.size ≤ 1000000) (hc : s[0] = 33) :
    Calls Tryz.prog 60 #[.string s] w fun e w' => FPost w (bs s) e w' := by
  have hone := one_x s h0 (by rw [hc]; decide)
  have HF := Lib.hid (fun u => (punq_any 1 s 1 u h0 hs).mono fun e w' h => nm_tok h hone h0)
  have h1 : ¬ srt s[0] = 1 := by rw [hc]; decide
  have h2 : ¬ srt s[0] = 2 := by rw [hc]; decide
  have h3 : ¬ srt s[0] = 3 := by rw [hc]; decide
  have h39 : ¬ s[0] = 39 := by rw [hc]; decide
  have he : endS (bs s) = false := by
    unfold endS
    rw [Bool.and_eq_false_iff]
    refine .inl (decide_eq_false ?_)
    rw [bs_ne h0, hc, List.head?_cons, Option.some.injEq]
    decide
  have HLO : Hid (∀ u, Calls Tryz.prog 70 #[.int .i32 (s[0].toNat : Nat)] u fun e w' => e = .returned (.bool false) ∧ u = w') := Lib.hid fun u => by have h := plow_any (s[0].toNat : Nat) u; rw [low_of, decide_eq_false h1] at h; exact h
  have HUP : Hid (∀ u, Calls Tryz.prog 73 #[.int .i32 (s[0].toNat : Nat)] u fun e w' => e = .returned (.bool false) ∧ u = w') := Lib.hid fun u => by have h := pup_any (s[0].toNat : Nat) u; rw [up_of, decide_eq_false h2] at h; exact h
  have HDI : Hid (∀ u, Calls Tryz.prog 74 #[.int .i32 (s[0].toNat : Nat)] u fun e w' => e = .returned (.bool false) ∧ u = w') := Lib.hid fun u => by have h := pdig_any (s[0].toNat : Nat) u; rw [dig_of, show isDigit s[0] = false by rw [isDigit, beq_eq_false_iff_ne]; exact h3] at h; exact h
  have b39 : ((s[0].toNat : Int) == 39) = false := peq_byte (n := 39) (by decide) h39
  have HEN : Hid (∀ u, Calls Tryz.prog 77 #[.string s] u fun e w' => e = .returned (.bool false) ∧ u = w') := Lib.hid fun u => by have h := pend_any s u h0 hs; rw [he] at h; exact h
  have HSG : Hid (∀ u, Calls Tryz.prog 78 #[.int .i32 (s[0].toNat : Nat)] u fun e w' => e = .returned (.bool false) ∧ Below u.heap.size u w') := Lib.hid fun u => by have h := psig_any (s[0].toNat : Nat) (by omega) u; rw [sig_of, show isSign s[0] = false by rw [hc]; decide] at h; exact h
  have b33 : ((s[0].toNat : Int) == 33) = true := by rw [hc]; rfl
  clear hone hc he h1 h2 h3 h39
  have h256 : s[0].toNat < 256 := s[0].toNat_lt
  have HST := Lib.hid (pst0 w)
  go_enter Tryz.func60, Tryz.ntmps60
  go_wp2_with (first
    | (go_at_call 70; (with_reducible refine (HLO.out _).mono ?_); rintro e w1 ⟨rfl, rfl⟩)
    | (go_at_call 73; (with_reducible refine (HUP.out _).mono ?_); rintro e w1 ⟨rfl, rfl⟩)
    | (go_at_call 74; (with_reducible refine (HDI.out _).mono ?_); rintro e w1 ⟨rfl, rfl⟩)
    | (go_at_call 77; (with_reducible refine (HEN.out _).mono ?_); rintro e w1 ⟨rfl, rfl⟩)
    | (go_at_call 78; (refine (HSG.out _).mono ?_); rintro e w1 ⟨rfl, hb⟩; have hst := HST.out.next hb; clear HST hb; have HST := Lib.hid hst; clear hst)
    | (go_at_call 71; (refine (HF.out _).mono ?_); rintro e w1 ⟨kind, x, v, o, m, rfl, hb, ht⟩; have HT := Lib.hid ht; have hst := HST.out.next hb; clear HST hb ht; obtain ⟨⟨c0, c1, c2, c3, c4⟩, f0, f1, f2, f3, f4⟩ := hst.cells; have HST := Lib.hid hst; clear hst))
  refine bodyPost_ret (v := .tuple #[.agg #[.int .i64 (kind : Nat), .string x, .int .i64 (v : Nat), .int .i64 0, .bool o], .int .i64 (m : Nat)]) (by simp [results, Tryz.results60, go_sem, c0, c1, c2, c3, c4]) rfl ?_
  exact ⟨kind, x, v, o, m, rfl, set5_below HST.out.below _ _ _ _ _, HT.out⟩
set_option maxRecDepth 100000 in
set_option maxHeartbeats 4000000 in
theorem pf_59 (s : ByteArray) (w : World) (h0 : 0 < s.size) (hs : s.size ≤ 1000000) (hc : s[0] = 59) :
    Calls Tryz.prog 60 #[.string s] w fun e w' => FPost w (bs s) e w' := by
  have hone := one_x s h0 (by rw [hc]; decide)
  have HF := Lib.hid (fun u => (punq_any 1 s 1 u h0 hs).mono fun e w' h => nm_tok h hone h0)
  have h1 : ¬ srt s[0] = 1 := by rw [hc]; decide
  have h2 : ¬ srt s[0] = 2 := by rw [hc]; decide
  have h3 : ¬ srt s[0] = 3 := by rw [hc]; decide
  have h39 : ¬ s[0] = 39 := by rw [hc]; decide
  have he : endS (bs s) = false := by
    unfold endS
    rw [Bool.and_eq_false_iff]
    refine .inl (decide_eq_false ?_)
    rw [bs_ne h0, hc, List.head?_cons, Option.some.injEq]
    decide
  have HLO : Hid (∀ u, Calls Tryz.prog 70 #[.int .i32 (s[0].toNat : Nat)] u fun e w' => e = .returned (.bool false) ∧ u = w') := Lib.hid fun u => by have h := plow_any (s[0].toNat : Nat) u; rw [low_of, decide_eq_false h1] at h; exact h
  have HUP : Hid (∀ u, Calls Tryz.prog 73 #[.int .i32 (s[0].toNat : Nat)] u fun e w' => e = .returned (.bool false) ∧ u = w') := Lib.hid fun u => by have h := pup_any (s[0].toNat : Nat) u; rw [up_of, decide_eq_false h2] at h; exact h
  have HDI : Hid (∀ u, Calls Tryz.prog 74 #[.int .i32 (s[0].toNat : Nat)] u fun e w' => e = .returned (.bool false) ∧ u = w') := Lib.hid fun u => by have h := pdig_any (s[0].toNat : Nat) u; rw [dig_of, show isDigit s[0] = false by rw [isDigit, beq_eq_false_iff_ne]; exact h3] at h; exact h
  have b39 : ((s[0].toNat : Int) == 39) = false := peq_byte (n := 39) (by decide) h39
  have HEN : Hid (∀ u, Calls Tryz.prog 77 #[.string s] u fun e w' => e = .returned (.bool false) ∧ u = w') := Lib.hid fun u => by have h := pend_any s u h0 hs; rw [he] at h; exact h
  have HSG : Hid (∀ u, Calls Tryz.prog 78 #[.int .i32 (s[0].toNat : Nat)] u fun e w' => e = .returned (.bool false) ∧ Below u.heap.size u w') := Lib.hid fun u => by have h := psig_any (s[0].toNat : Nat) (by omega) u; rw [sig_of, show isSign s[0] = false by rw [hc]; decide] at h; exact h
  have b33 : ((s[0].toNat : Int) == 33) = false := by rw [hc]; rfl
  have b59 : ((s[0].toNat : Int) == 59) = true := by rw [hc]; rfl
  clear hone hc he h1 h2 h3 h39
  have h256 : s[0].toNat < 256 := s[0].toNat_lt
  have HST := Lib.hid (pst0 w)
  go_enter Tryz.func60, Tryz.ntmps60
  go_wp2_with (first
    | (go_at_call 70; (with_reducible refine (HLO.out _).mono ?_); rintro e w1 ⟨rfl, rfl⟩)
    | (go_at_call 73; (with_reducible refine (HUP.out _).mono ?_); rintro e w1 ⟨rfl, rfl⟩)
    | (go_at_call 74; (with_reducible refine (HDI.out _).mono ?_); rintro e w1 ⟨rfl, rfl⟩)
    | (go_at_call 77; (with_reducible refine (HEN.out _).mono ?_); rintro e w1 ⟨rfl, rfl⟩)
    | (go_at_call 78; (refine (HSG.out _).mono ?_); rintro e w1 ⟨rfl, hb⟩; have hst := HST.out.next hb; clear HST hb; have HST := Lib.hid hst; clear hst)
    | (go_at_call 71; (refine (HF.out _).mono ?_); rintro e w1 ⟨kind, x, v, o, m, rfl, hb, ht⟩; have HT := Lib.hid ht; have hst := HST.out.next hb; clear HST hb ht; obtain ⟨⟨c0, c1, c2, c3, c4⟩, f0, f1, f2, f3, f4⟩ := hst.cells; have HST := Lib.hid hst; clear hst))
  refine bodyPost_ret (v := .tuple #[.agg #[.int .i64 (kind : Nat), .string x, .int .i64 (v : Nat), .int .i64 0, .bool o], .int .i64 (m : Nat)]) (by simp [results, Tryz.results60, go_sem, c0, c1, c2, c3, c4]) rfl ?_
  exact ⟨kind, x, v, o, m, rfl, set5_below HST.out.below _ _ _ _ _, HT.out⟩
set_option maxRecDepth 100000 in
set_option maxHeartbeats 4000000 in
theorem pf_nil (s : ByteArray) (w : World) (h0 : 0 < s.size) (hs : s.size ≤ 1000000) (hz : 1 < s.size) (hc : s[0] = 91) (hd : s[1] = 93) :
    Calls Tryz.prog 60 #[.string s] w fun e w' => FPost w (bs s) e w' := by
  have hone := one_b s hz hc hd
  have HF := Lib.hid (fun u => (punq_any 1 s 2 u hz hs).mono fun e w' h => nm_tok h hone hz)
  have h1 : ¬ srt s[0] = 1 := by rw [hc]; decide
  have h2 : ¬ srt s[0] = 2 := by rw [hc]; decide
  have h3 : ¬ srt s[0] = 3 := by rw [hc]; decide
  have h39 : ¬ s[0] = 39 := by rw [hc]; decide
  have hx : ¬ (s[0] = 33 ∨ s[0] = 59) := by rw [hc]; decide
  have he : endS (bs s) = false := by
    unfold endS
    rw [Bool.and_eq_false_iff]
    refine .inl (decide_eq_false ?_)
    rw [bs_ne h0, hc, List.head?_cons, Option.some.injEq]
    decide
  have hp : (decide (1 < s.size) && decide ((bs s).take 2 = [91, 93])) = true := by
    rw [decide_eq_true hz, Bool.true_and, decide_eq_true_eq, bs_ne h0, pdrop_at s 1 hz, hc, hd]
    rfl
  have HLO : Hid (∀ u, Calls Tryz.prog 70 #[.int .i32 (s[0].toNat : Nat)] u fun e w' => e = .returned (.bool false) ∧ u = w') := Lib.hid fun u => by have h := plow_any (s[0].toNat : Nat) u; rw [low_of, decide_eq_false h1] at h; exact h
  have HUP : Hid (∀ u, Calls Tryz.prog 73 #[.int .i32 (s[0].toNat : Nat)] u fun e w' => e = .returned (.bool false) ∧ u = w') := Lib.hid fun u => by have h := pup_any (s[0].toNat : Nat) u; rw [up_of, decide_eq_false h2] at h; exact h
  have HDI : Hid (∀ u, Calls Tryz.prog 74 #[.int .i32 (s[0].toNat : Nat)] u fun e w' => e = .returned (.bool false) ∧ u = w') := Lib.hid fun u => by have h := pdig_any (s[0].toNat : Nat) u; rw [dig_of, show isDigit s[0] = false by rw [isDigit, beq_eq_false_iff_ne]; exact h3] at h; exact h
  have b39 : ((s[0].toNat : Int) == 39) = false := peq_byte (n := 39) (by decide) h39
  have HEN : Hid (∀ u, Calls Tryz.prog 77 #[.string s] u fun e w' => e = .returned (.bool false) ∧ u = w') := Lib.hid fun u => by have h := pend_any s u h0 hs; rw [he] at h; exact h
  have HSG : Hid (∀ u, Calls Tryz.prog 78 #[.int .i32 (s[0].toNat : Nat)] u fun e w' => e = .returned (.bool false) ∧ Below u.heap.size u w') := Lib.hid fun u => by have h := psig_any (s[0].toNat : Nat) (by omega) u; rw [sig_of, show isSign s[0] = false by rw [hc]; decide] at h; exact h
  have b33 : ((s[0].toNat : Int) == 33) = false := peq_byte (n := 33) (by decide) (fun e => hx (.inl e))
  have b59 : ((s[0].toNat : Int) == 59) = false := peq_byte (n := 59) (by decide) (fun e => hx (.inr e))
  have HPR : Hid (∀ u, Calls Tryz.prog 79 #[.string s, .string ⟨#[91, 93]⟩] u fun e w' => e = .returned (.bool true) ∧ u = w') := Lib.hid fun u => pre_any s _ hp u
  clear hone hc hd hp he h1 h2 h3 h39 hx
  have h256 : s[0].toNat < 256 := s[0].toNat_lt
  have HST := Lib.hid (pst0 w)
  go_enter Tryz.func60, Tryz.ntmps60
  go_wp2_with (first
    | (go_at_call 70; (with_reducible refine (HLO.out _).mono ?_); rintro e w1 ⟨rfl, rfl⟩)
    | (go_at_call 73; (with_reducible refine (HUP.out _).mono ?_); rintro e w1 ⟨rfl, rfl⟩)
    | (go_at_call 74; (with_reducible refine (HDI.out _).mono ?_); rintro e w1 ⟨rfl, rfl⟩)
    | (go_at_call 77; (with_reducible refine (HEN.out _).mono ?_); rintro e w1 ⟨rfl, rfl⟩)
    | (go_at_call 78; (refine (HSG.out _).mono ?_); rintro e w1 ⟨rfl, hb⟩; have hst := HST.out.next hb; clear HST hb; have HST := Lib.hid hst; clear hst)
    | (go_at_call 79; (with_reducible refine (HPR.out _).mono ?_); rintro e w1 ⟨rfl, rfl⟩)
    | (go_at_call 71; (refine (HF.out _).mono ?_); rintro e w1 ⟨kind, x, v, o, m, rfl, hb, ht⟩; have HT := Lib.hid ht; have hst := HST.out.next hb; clear HST hb ht; obtain ⟨⟨c0, c1, c2, c3, c4⟩, f0, f1, f2, f3, f4⟩ := hst.cells; have HST := Lib.hid hst; clear hst))
  refine bodyPost_ret (v := .tuple #[.agg #[.int .i64 (kind : Nat), .string x, .int .i64 (v : Nat), .int .i64 0, .bool o], .int .i64 (m : Nat)]) (by simp [results, Tryz.results60, go_sem, c0, c1, c2, c3, c4]) rfl ?_
  exact ⟨kind, x, v, o, m, rfl, set5_below HST.out.below _ _ _ _ _, HT.out⟩
set_option maxRecDepth 100000 in
set_option maxHeartbeats 4000000 in
theorem pf_mark (s : ByteArray) (w : World) (h0 : 0 < s.size) (hs : s.size ≤ 1000000) (h1 : ¬ srt s[0] = 1) (h2 : ¬ srt s[0] = 2) (h3 : ¬ srt s[0] = 3) (h39 : ¬ s[0] = 39) (he : endS (bs s) = false) (hsg : isSign s[0] = false) (hx : ¬ (s[0] = 33 ∨ s[0] = 59)) (hp : (decide (1 < s.size) && decide ((bs s).take 2 = [91, 93])) = false) (hm : (bs mkS).contains s[0] = true) :
    Calls Tryz.prog 60 #[.string s] w fun e w' => FPost w (bs s) e w' := by
  have hb : ¬ (s[0] = 91 ∧ ((bs s).drop 1).head? = some 93) := by
    rintro ⟨e1, e2⟩
    have hz : 1 < s.size := by
      by_cases hz : 1 < s.size
      · exact hz
      · rw [List.drop_eq_nil_of_le (by rw [bs_length]; omega)] at e2; cases e2
    rw [decide_eq_true hz, Bool.true_and, decide_eq_false_iff_not] at hp
    rw [pdrop_at s 1 hz] at e2
    apply hp
    rw [bs_ne h0, pdrop_at s 1 hz, e1, Option.some.inj e2]
    rfl
  have hone := one_m s h0 hm hb
  have HLO : Hid (∀ u, Calls Tryz.prog 70 #[.int .i32 (s[0].toNat : Nat)] u fun e w' => e = .returned (.bool false) ∧ u = w') := Lib.hid fun u => by have h := plow_any (s[0].toNat : Nat) u; rw [low_of, decide_eq_false h1] at h; exact h
  have HUP : Hid (∀ u, Calls Tryz.prog 73 #[.int .i32 (s[0].toNat : Nat)] u fun e w' => e = .returned (.bool false) ∧ u = w') := Lib.hid fun u => by have h := pup_any (s[0].toNat : Nat) u; rw [up_of, decide_eq_false h2] at h; exact h
  have HDI : Hid (∀ u, Calls Tryz.prog 74 #[.int .i32 (s[0].toNat : Nat)] u fun e w' => e = .returned (.bool false) ∧ u = w') := Lib.hid fun u => by have h := pdig_any (s[0].toNat : Nat) u; rw [dig_of, show isDigit s[0] = false by rw [isDigit, beq_eq_false_iff_ne]; exact h3] at h; exact h
  have b39 : ((s[0].toNat : Int) == 39) = false := peq_byte (n := 39) (by decide) h39
  have HEN : Hid (∀ u, Calls Tryz.prog 77 #[.string s] u fun e w' => e = .returned (.bool false) ∧ u = w') := Lib.hid fun u => by have h := pend_any s u h0 hs; rw [he] at h; exact h
  have HSG : Hid (∀ u, Calls Tryz.prog 78 #[.int .i32 (s[0].toNat : Nat)] u fun e w' => e = .returned (.bool false) ∧ Below u.heap.size u w') := Lib.hid fun u => by have h := psig_any (s[0].toNat : Nat) (by omega) u; rw [sig_of, hsg] at h; exact h
  have b33 : ((s[0].toNat : Int) == 33) = false := peq_byte (n := 33) (by decide) (fun e => hx (.inl e))
  have b59 : ((s[0].toNat : Int) == 59) = false := peq_byte (n := 59) (by decide) (fun e => hx (.inr e))
  have HPR : Hid (∀ u, Calls Tryz.prog 79 #[.string s, .string ⟨#[91, 93]⟩] u fun e w' => e = .returned (.bool false) ∧ u = w') := Lib.hid fun u => pre_any s _ hp u
  have HMK : Hid (∀ u, Calls Tryz.prog 80 #[.string ⟨#[40, 41, 91, 93, 124, 44]⟩, .int .i32 (s[0].toNat : Nat)] u fun e w' => e = .returned (.bool true) ∧ Below u.heap.size u w') := Lib.hid fun u => by have h := has_any mkS mkS_asc (by decide) (by decide) (s[0].toNat : Nat) (by omega) u; rw [has_of mkS mkS_asc, hm] at h; exact h
  have hsl := fun u => run_upto Tryz.underlying9 s 1 h0 u
  have HX := Lib.hid (show bs (s.extract 0 1) = [s[0]] from bs_byte s 0 h0)
  have HONE := Lib.hid hone
  clear hone he h1 h2 h3 h39 hx hp hm hsg hb
  have h256 : s[0].toNat < 256 := s[0].toNat_lt
  have HST := Lib.hid (pst0 w)
  go_enter Tryz.func60, Tryz.ntmps60
  go_wp2_with (first
    | (go_at_call 70; (with_reducible refine (HLO.out _).mono ?_); rintro e w1 ⟨rfl, rfl⟩)
    | (go_at_call 73; (with_reducible refine (HUP.out _).mono ?_); rintro e w1 ⟨rfl, rfl⟩)
    | (go_at_call 74; (with_reducible refine (HDI.out _).mono ?_); rintro e w1 ⟨rfl, rfl⟩)
    | (go_at_call 77; (with_reducible refine (HEN.out _).mono ?_); rintro e w1 ⟨rfl, rfl⟩)
    | (go_at_call 78; (refine (HSG.out _).mono ?_); rintro e w1 ⟨rfl, hb⟩; have hst := HST.out.next hb; clear HST hb; have HST := Lib.hid hst; clear hst)
    | (go_at_call 79; (with_reducible refine (HPR.out _).mono ?_); rintro e w1 ⟨rfl, rfl⟩)
    | (go_at_call 80; (refine (HMK.out _).mono ?_); rintro e w1 ⟨rfl, hb⟩; have hst := HST.out.next hb; clear HST hb; obtain ⟨⟨c0, c1, c2, c3, c4⟩, f0, f1, f2, f3, f4⟩ := hst.cells; have HST := Lib.hid hst; clear hst))
  refine bodyPost_ret (v := .tuple #[.agg #[.int .i64 4, .string (s.extract 0 1), .int .i64 0, .int .i64 0, .bool false], .int .i64 1]) (by simp [results, Tryz.results60, go_sem, c0, c1, c2, c3, c4]) rfl ?_
  exact ⟨4, s.extract 0 1, 0, false, 1, rfl, set5_below HST.out.below _ _ _ _ _, .inr ⟨by rw [HONE.out, HX.out], by rw [bs_length]; omega⟩⟩
set_option maxRecDepth 100000 in
set_option maxHeartbeats 4000000 in
theorem pf_none (s : ByteArray) (w : World) (h0 : 0 < s.size) (hs : s.size ≤ 1000000) (h1 : ¬ srt s[0] = 1) (h2 : ¬ srt s[0] = 2) (h3 : ¬ srt s[0] = 3) (h39 : ¬ s[0] = 39) (he : endS (bs s) = false) (hsg : isSign s[0] = false) (hx : ¬ (s[0] = 33 ∨ s[0] = 59)) (hp : (decide (1 < s.size) && decide ((bs s).take 2 = [91, 93])) = false) (hm : (bs mkS).contains s[0] = false) :
    Calls Tryz.prog 60 #[.string s] w fun e w' => FPost w (bs s) e w' := by
  have hone := one_z s h0 ⟨by rintro (h | h); exact h1 h; exact h2 h, h3⟩ h39 hsg hx hm
  have HLO : Hid (∀ u, Calls Tryz.prog 70 #[.int .i32 (s[0].toNat : Nat)] u fun e w' => e = .returned (.bool false) ∧ u = w') := Lib.hid fun u => by have h := plow_any (s[0].toNat : Nat) u; rw [low_of, decide_eq_false h1] at h; exact h
  have HUP : Hid (∀ u, Calls Tryz.prog 73 #[.int .i32 (s[0].toNat : Nat)] u fun e w' => e = .returned (.bool false) ∧ u = w') := Lib.hid fun u => by have h := pup_any (s[0].toNat : Nat) u; rw [up_of, decide_eq_false h2] at h; exact h
  have HDI : Hid (∀ u, Calls Tryz.prog 74 #[.int .i32 (s[0].toNat : Nat)] u fun e w' => e = .returned (.bool false) ∧ u = w') := Lib.hid fun u => by have h := pdig_any (s[0].toNat : Nat) u; rw [dig_of, show isDigit s[0] = false by rw [isDigit, beq_eq_false_iff_ne]; exact h3] at h; exact h
  have b39 : ((s[0].toNat : Int) == 39) = false := peq_byte (n := 39) (by decide) h39
  have HEN : Hid (∀ u, Calls Tryz.prog 77 #[.string s] u fun e w' => e = .returned (.bool false) ∧ u = w') := Lib.hid fun u => by have h := pend_any s u h0 hs; rw [he] at h; exact h
  have HSG : Hid (∀ u, Calls Tryz.prog 78 #[.int .i32 (s[0].toNat : Nat)] u fun e w' => e = .returned (.bool false) ∧ Below u.heap.size u w') := Lib.hid fun u => by have h := psig_any (s[0].toNat : Nat) (by omega) u; rw [sig_of, hsg] at h; exact h
  have b33 : ((s[0].toNat : Int) == 33) = false := peq_byte (n := 33) (by decide) (fun e => hx (.inl e))
  have b59 : ((s[0].toNat : Int) == 59) = false := peq_byte (n := 59) (by decide) (fun e => hx (.inr e))
  have HPR : Hid (∀ u, Calls Tryz.prog 79 #[.string s, .string ⟨#[91, 93]⟩] u fun e w' => e = .returned (.bool false) ∧ u = w') := Lib.hid fun u => pre_any s _ hp u
  have HMK : Hid (∀ u, Calls Tryz.prog 80 #[.string ⟨#[40, 41, 91, 93, 124, 44]⟩, .int .i32 (s[0].toNat : Nat)] u fun e w' => e = .returned (.bool false) ∧ Below u.heap.size u w') := Lib.hid fun u => by have h := has_any mkS mkS_asc (by decide) (by decide) (s[0].toNat : Nat) (by omega) u; rw [has_of mkS mkS_asc, hm] at h; exact h
  have HONE := Lib.hid hone
  clear hone he h1 h2 h3 h39 hx hp hm hsg
  have h256 : s[0].toNat < 256 := s[0].toNat_lt
  have HST := Lib.hid (pst0 w)
  go_enter Tryz.func60, Tryz.ntmps60
  go_wp2_with (first
    | (go_at_call 70; (with_reducible refine (HLO.out _).mono ?_); rintro e w1 ⟨rfl, rfl⟩)
    | (go_at_call 73; (with_reducible refine (HUP.out _).mono ?_); rintro e w1 ⟨rfl, rfl⟩)
    | (go_at_call 74; (with_reducible refine (HDI.out _).mono ?_); rintro e w1 ⟨rfl, rfl⟩)
    | (go_at_call 77; (with_reducible refine (HEN.out _).mono ?_); rintro e w1 ⟨rfl, rfl⟩)
    | (go_at_call 78; (refine (HSG.out _).mono ?_); rintro e w1 ⟨rfl, hb⟩; have hst := HST.out.next hb; clear HST hb; have HST := Lib.hid hst; clear hst)
    | (go_at_call 79; (with_reducible refine (HPR.out _).mono ?_); rintro e w1 ⟨rfl, rfl⟩)
    | (go_at_call 80; (refine (HMK.out _).mono ?_); rintro e w1 ⟨rfl, hb⟩; have hst := HST.out.next hb; clear HST hb; obtain ⟨⟨c0, c1, c2, c3, c4⟩, f0, f1, f2, f3, f4⟩ := hst.cells; have HST := Lib.hid hst; clear hst))
  refine bodyPost_ret (v := pnoTok) (by simp [results, pnoTok, Tryz.results60, go_sem, c0, c1, c2, c3, c4]) rfl ?_
  exact ⟨0, ⟨#[]⟩, 0, false, 0, rfl, set5_below HST.out.below _ _ _ _ _, .inl ⟨HONE.out, rfl, rfl, rfl, rfl, rfl⟩⟩
theorem pfirst_any (s : ByteArray) (w : World) (hr : Rng w) (h0 : 0 < s.size) (hs : s.size ≤ 1000000) :
    Calls Tryz.prog 60 #[.string s] w fun e w' => FPost w (bs s) e w' := by
  by_cases h1 : srt s[0] = 1
  · exact pf_word1 s w h0 hs h1
  by_cases h2 : srt s[0] = 2
  · exact pf_word2 s w h0 hs h2
  by_cases h3 : srt s[0] = 3
  · exact pf_num s w h0 hs hr h3
  by_cases h39 : s[0] = 39
  · exact pf_quo s w h0 hs h39
  cases he : endS (bs s) with
  | true => exact pf_end s w h0 hs h1 h2 h3 h39 he
  | false =>
    cases hsg : isSign s[0] with
    | true => exact pf_sign s w h0 hs (by simpa [isSign] using hsg) he
    | false =>
      by_cases h33 : s[0] = 33
      · exact pf_33 s w h0 hs h33
      by_cases h59 : s[0] = 59
      · exact pf_59 s w h0 hs h59
      have hx : ¬ (s[0] = 33 ∨ s[0] = 59) := by
        rintro (h | h)
        · exact h33 h
        · exact h59 h
      cases hp : (decide (1 < s.size) && decide ((bs s).take 2 = [91, 93])) with
      | true =>
        rw [Bool.and_eq_true, decide_eq_true_eq, decide_eq_true_eq] at hp
        obtain ⟨hz, ht⟩ := hp
        rw [bs_ne h0, pdrop_at s 1 hz] at ht
        simp only [List.take_succ_cons, List.take_zero, List.cons.injEq, and_true] at ht
        exact pf_nil s w h0 hs hz ht.1 ht.2
      | false =>
        cases hm : (bs mkS).contains s[0] with
        | true => exact pf_mark s w h0 hs h1 h2 h3 h39 he hsg hx hp hm
        | false => exact pf_none s w h0 hs h1 h2 h3 h39 he hsg hx hp hm
end Go.Proofs.YtkjnjahmlobjiaaGreatDoor

namespace Go.Proofs.YtkjnjahmlobjiaaGreatDoor
open Go.RowKit

theorem Tryz.infoPk : (Tryz.prog.info? 103).map (fun i => (i.zero, i.size, i.bytes)) = some (some (.agg #[.int .i64 0, .string ⟨#[]⟩, .int .i64 0, .int .i64 0, .bool false]), 5, 48) := by kernel_rfl
/-- Behind what only separates stands no separator. -/
def Sepd (l : List UInt8) (q : Nat) : Prop := ∀ c r, l.drop q = c :: r → ¬ c = 37 ∧ ¬ srt c = 5
theorem gap_step (l : List UInt8) (q : Nat) : lexL false q (l.drop q) = lexL false (q + gapL false (l.drop q)) (l.drop (q + gapL false (l.drop q))) ∧ Sepd l (q + gapL false (l.drop q)) := by
  have e : l.drop (q + gapL false (l.drop q)) = (l.drop q).drop (gapL false (l.drop q)) := by rw [List.drop_drop]
  unfold Sepd
  rw [e]
  rcases gap_lex (l.drop q) false q with ⟨h1, h2⟩ | ⟨c, r, h1, h2, h3, h4⟩
  · rw [h1, h2, lexL_nil]
    exact ⟨rfl, fun c r h => by cases h⟩
  · rw [h1, h4]
    refine ⟨rfl, fun c' r' h => ?_⟩
    injection h with h _
    subst h
    exact ⟨h2, h3⟩
theorem gapL_le : ∀ (l : List UInt8) (cm : Bool), gapL cm l ≤ l.length
  | [], _ => Nat.le_refl _
  | c :: r, cm => by
    rw [gapL_cons]
    have h1 := gapL_le r (decide (c ≠ 10))
    have h2 := gapL_le r false
    simp only [List.length_cons]
    repeat' split
    all_goals omega
theorem bs_from (s : ByteArray) (q : Nat) : bs (s.extract q s.size) = (bs s).drop q := by
  rw [bs_extract, List.take_of_length_le (by rw [List.length_drop, bs_length]; exact Nat.le_refl _)]
theorem from_size (s : ByteArray) (q : Nat) (h : q ≤ s.size) : (s.extract q s.size).size = s.size - q := by
  rw [ByteArray.size_extract]; omega
theorem run_from {P : Program} {t : TypeId} (h : P.underlying t = some .string) (s : ByteArray) (n : Nat) (x : Int) (hx : x = (n : Int)) (hn : n ≤ s.size) (w : World) : (Instr.slice t (.string s) (some (.int .i64 x)) none none).run P w = .ok (.string (s.extract n s.size)) w := by
  subst hx
  rw [run_slice_string_from_if (h := h), if_pos (by omega)]
  rfl
end Go.Proofs.YtkjnjahmlobjiaaGreatDoor

namespace Go.Proofs.YtkjnjahmlobjiaaGreatDoor
open Go.RowKit

def CapOk (lo : Nat) (e : Ending) : Prop := ∃ g n c u v, e = .returned (.tuple #[.slice g n c, u, v]) ∧ n ≤ c ∧ c ≤ 9223372036854775807 ∧ ∀ b, (Value.slice g n c).ownBlock = some b → lo ≤ b
theorem own_cap {W : World} {base : Nat} {e : TypeId} {size : Nat} {v : Value} {k : Nat} {xs : List Value} (h : W.ownsRow base e size v k xs) (a b : Value) : CapOk base (.returned (.tuple #[v, a, b])) := by
  rcases h.2 with ⟨hv, _⟩ | ⟨g, cap, _, hv, _, _, h1, h2, _⟩
  · exact ⟨_, _, _, a, b, by rw [hv], Nat.le_refl _, by omega, fun b hb => by cases hb⟩
  · exact ⟨_, _, _, a, b, by rw [hv], h1, by simpa [maxLen] using h2, fun b hb => (h.lt b (by rw [hv]; exact hb)).1⟩
set_option maxRecDepth 100000 in
set_option maxHeartbeats 4000000 in
theorem lex_own : ∀ (s : ByteArray) (w : World), Rng w → s.size ≤ 1000000 → Calls Tryz.prog 44 #[.string s] w fun e w' => LexPost w s e w' ∧ CapOk w.heap.size e := by
  intro s w hr hs
  by_cases hz : 8000 < s.size
  · go_enter Tryz.func44, Tryz.ntmps44
    go_wp2_with fail
    go_ret3
    exact ⟨⟨Below.refl _ _, [], .slice none 0 0, 0, 3, rfl, ⟨none, 0, rfl, .inl rfl⟩, Nat.zero_le _, Nat.zero_le _, .inl ⟨hz, rfl, rfl, rfl⟩⟩, _, _, _, _, _, rfl, Nat.le_refl _, by omega, fun b hb => by cases hb⟩
  have hz1 : s.size ≤ 8000 := by omega
  have HZ1 := Lib.hid hz1
  clear hz
  obtain ⟨i0, hi, hi0, hi1, hi2⟩ := info_parts Tryz.infoPk
  have hg0 := gap_step (bs s) 0
  rw [List.drop_zero, Nat.zero_add] at hg0
  have hgl := gapL_le (bs s) false
  rw [bs_length] at hgl
  have HG := Lib.hid (fun u => gap_any s u hs)
  generalize gapL false (bs s) = g0 at hg0 hgl HG
  have HG0 := Lib.hid hg0
  have HR := Lib.hid hr
  clear hg0 hr
  go_enter Tryz.func44, Tryz.ntmps44
  go_wp2_with (go_at_call 59; (with_reducible refine (HG.out _).mono ?_); rintro e w0 ⟨rfl, hb0⟩; have HB0 := Lib.hid hb0; clear hb0)
  go_loopw [5, 6] (fun v i wr => ∃ (q : Nat) (l : List (Tk × Nat)), q ≤ s.size ∧ l.length ≤ q ∧ i = .int .i64 q ∧ Hid (lexL false 0 (bs s) = preL l (lexL false q ((bs s).drop q)) ∧ Sepd (bs s) q) ∧ Hid (wr.ownsRow w.heap.size 103 5 v l.length (l.flatMap tokC)) ∧ Hid (Below w.heap.size w wr)) (fun _ i _ => s.size - (intOf i).toNat)
  case atStart => exact ⟨g0, [], hgl, Nat.zero_le _, rfl, Lib.hid ⟨by rw [preL_nil]; exact HG0.out.1, HG0.out.2⟩, Lib.hid (World.ownsRow_nil _ _ _ _), HB0⟩
  case round =>
    obtain ⟨q, l, hq, hl, rfl, hlex, hown, hb⟩ := hrel
    have HB := Lib.hid hb.out
    have HLEX := Lib.hid hlex.out
    have HOWN := Lib.hid hown.out
    clear hb hlex hown
    by_cases hlt : q < s.size
    · have hdrop := pdrop_at s q hlt
      have hsep := HLEX.out.2 _ _ hdrop
      have hsl := fun u => run_from Tryz.underlying9 s q (q : Int) rfl hq u
      have hx0 : 0 < (s.extract q s.size).size := by rw [from_size s q hq]; omega
      have hone := fun u hru => pfirst_any (s.extract q s.size) u hru hx0 (by rw [from_size s q hq]; omega)
      rw [bs_from] at hone
      cases ho : oneL ((bs s).drop q) with
      | none =>
        have hend : lexL false 0 (bs s) = .inl q := by
          rw [hdrop] at ho
          rw [HLEX.out.1, hdrop, lexL_bad (by rintro (h | h); cases h; exact hsep.1 h) hsep.2 ho]
          rfl
        have HEND := Lib.hid hend
        have HO := Lib.hid (fun u hru => (hone u hru).mono fun e w' (h : FPost u ((bs s).drop q) e w') => (show Below u.heap.size u w' ∧ e = .returned (.tuple #[.agg #[.int .i64 0, .string ⟨#[]⟩, .int .i64 0, .int .i64 0, .bool false], .int .i64 0]) from by
          obtain ⟨kind, x, n, o, m, he, hb, ht⟩ := h
          rcases ht with ⟨_, rfl, rfl, rfl, rfl, rfl⟩ | ⟨h, _⟩
          · exact ⟨hb, he⟩
          · rw [ho] at h; cases h))
        clear hend hdrop hone ho hx0 hsep
        go_wp2_with (go_at_call 60; (refine (HO.out _ (HR.out.next HB.out)).mono ?_); rintro e w2 ⟨hb2, rfl⟩; have HB2 := Lib.hid hb2; clear hb2)
        go_ret3
        exact ⟨⟨(HB.out.trans (HB2.out.mono HB.out.size)).alloc (by have := HB.out.size; have := HB2.out.size; omega) _, [], .slice none 0 0, q, 2, rfl, ⟨none, 0, rfl, .inl rfl⟩, Nat.zero_le _, hq, .inr (.inl ⟨HZ1.out, HEND.out, rfl, rfl⟩)⟩, _, _, _, _, _, rfl, Nat.le_refl _, by omega, fun b hb => by cases hb⟩
      | some y =>
        obtain ⟨t, k⟩ := y
        have hk := (one_join [] ho).2
        rw [List.length_drop, bs_length] at hk
        have hk1 := hk.1
        have hk2 : q + k ≤ s.size := by omega
        obtain ⟨tq, hto⟩ : ∃ tq, q + k = tq := ⟨_, rfl⟩
        have hstep : lexL false 0 (bs s) = preL (l ++ [(t, q)]) (lexL false tq ((bs s).drop tq)) := by
          rw [hdrop] at ho
          rw [HLEX.out.1, hdrop, lexL_tok (by rintro (h | h); cases h; exact hsep.1 h) hsep.2 ho, preL_pre, List.drop_drop, show q + 1 + (k - 1) = tq by omega, hto]
        have hgs := gap_step (bs s) tq
        have hg9 := gapL_le ((bs s).drop tq) false
        rw [List.length_drop, bs_length] at hg9
        have hgp := fun u => gap_any (s.extract tq s.size) u (by rw [from_size s tq (by omega)]; omega)
        rw [bs_from] at hgp
        rw [hgs.1] at hstep
        have hsep2 := hgs.2
        clear hgs
        generalize gapL false ((bs s).drop tq) = g at hstep hg9 hgp hsep2
        have HGP := Lib.hid hgp
        have HSTEP := Lib.hid (show lexL false 0 (bs s) = preL (l ++ [(t, q)]) (lexL false (tq + g) ((bs s).drop (tq + g))) ∧ Sepd (bs s) (tq + g) from ⟨hstep, hsep2⟩)
        have HO := Lib.hid (fun u hru => (hone u hru).mono fun e w' (h : FPost u ((bs s).drop q) e w') => (show Below u.heap.size u w' ∧ e = .returned (.tuple #[.agg #[.int .i64 (t.kind : Nat), .string ⟨t.text.toArray⟩, .int .i64 (t.n : Nat), .int .i64 0, .bool t.opn], .int .i64 (k : Nat)]) from by
          obtain ⟨kind, x, n, o, m, he, hb, ht⟩ := h
          rcases ht with ⟨h, _⟩ | ⟨h, _⟩
          · rw [ho] at h; cases h
          · rw [ho] at h
            injection h with h
            injection h with h1 h2
            subst h1 h2
            rw [he, bs_mk (x := x) rfl]
            exact ⟨hb, rfl⟩))
        have hsl2 := fun u => run_from Tryz.underlying9 s tq ((q : Int) + (k : Int)) (by omega) (by omega) u
        have bk : ((k : Int) == 0) = false := by rw [beq_eq_false_iff_ne]; omega
        have hto1 : q + 1 ≤ tq := by omega
        have hto2 : tq + g ≤ s.size := by omega
        have hto3 : k ≤ 8000 := by omega
        have HTO := Lib.hid hto
        have hg8 : g ≤ 8000 := by omega
        clear hstep hdrop hone ho hk hk1 hk2 hto hgp hsep hsep2 hx0 hg9
        have ones : ∀ u ∈ tokC (t, q), u.oneCell' = true := by simp [tokC, Value.oneCell']
        have hl8 : l.length ≤ 8000 := by omega
        have hq8 : q ≤ 8000 := by omega
        go_wp2_with (first
          | (go_at_call 60; (refine (HO.out _ (HR.out.next HB.out)).mono ?_); rintro e w2 ⟨hb2, rfl⟩; have HB2 := Lib.hid hb2; clear hb2)
          | (go_at_call 59; (refine (HGP.out _).mono ?_); rintro e w4 ⟨rfl, hb4⟩; have HB4 := Lib.hid hb4; clear hb4)
          | (at_builtin; refine wpList_append_sep _ rfl _ _ 85 rfl w.heap.size 103 i0 _ 5 48 Tryz.underlying85 hi hi0 hi1 hi2 rfl (by decide) _ l.length _ rfl (((ownsRow_below HOWN.out HB2.out).alloc _).alloc _) ⟨w2.heap.size + 1, 0, none⟩ 1 1 (tokC (t, q)) rfl (by decide) rfl (lnews (w2.heap.size + 1) (by simp)) ones (by unfold maxLen; omega) (by omega) (by have := HB.out.size; have := HB2.out.size; simp; omega) ?_; intro v' w3 hown3 hgrow hsep3; have HOWN3 := Lib.hid hown3; have HGROW := Lib.hid hgrow; clear hown3 hgrow hsep3))
        have HT := HTO.out
        refine ⟨⟨tq + g, l ++ [(t, q)], hto2, by simp; omega, congrArg (Value.int .i64) (by omega), HSTEP, Lib.hid ?_, Lib.hid ?_⟩, ?_⟩
        · rw [List.length_append, show (l ++ [(t, q)]).flatMap tokC = l.flatMap tokC ++ tokC (t, q) by simp [List.flatMap_append]]
          exact ownsRow_below HOWN3.out HB4.out
        · have h1 := HB.out.size
          have h2 := HB2.out.size
          have h3 := (((HB.out.trans (HB2.out.mono HB.out.size)).alloc (by omega) _).alloc (by simp; omega) _).grown HGROW.out (by simp; omega) (fun j e => (HOWN.out.lt j e).1)
          exact h3.trans (HB4.out.mono h3.size)
        · simp [intOf]; omega
    · obtain rfl : s.size = q := by omega
      have hend : lexL false 0 (bs s) = .inr l := by
        rw [HLEX.out.1, List.drop_eq_nil_of_le (by rw [bs_length]; exact Nat.le_refl _), lexL_nil]
        simp [preL]
      have HEND := Lib.hid hend
      clear hend
      go_wp2_with fail
      go_ret3
      exact ⟨⟨HB.out, l, _, 0, 0, rfl, toksIn_of_owns HOWN.out, hl, Nat.zero_le _, .inr (.inr ⟨HZ1.out, HEND.out, rfl, rfl⟩)⟩, own_cap HOWN.out _ _⟩
end Go.Proofs.YtkjnjahmlobjiaaGreatDoor
