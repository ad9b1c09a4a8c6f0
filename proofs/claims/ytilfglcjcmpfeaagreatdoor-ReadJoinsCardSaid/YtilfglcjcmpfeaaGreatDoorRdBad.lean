/-
  Where errors are told, how much is read.
-/
import Derived.Test.YtilfglcjcmpfeaaGreatDoorOne
namespace Go.Proofs.YtilfglcjcmpfeaaGreatDoor
open Go.RowKit

theorem place_le {S : List UInt8} {ts : Toks} (h : ∀ x ∈ ts, x.2 ≤ S.length) : placeT S ts ≤ S.length := by
  cases ts with
  | nil => exact Nat.le_refl _
  | cons x r => exact h x (List.mem_cons_self ..)
theorem need_badT {S : List UInt8} {m : UInt8} {ts : Toks} {e : Nat × Nat} (h : needT S m ts = .error e) (hts : ∀ x ∈ ts, x.2 ≤ S.length) : e.2 ≤ S.length := by
  unfold needT at h
  split at h
  · cases h
  · injection h with h
    subst h
    exact place_le hts
theorem suf_le {S : List UInt8} {ts r : Toks} (h : ∃ u, ts = u ++ r) (hts : ∀ x ∈ ts, x.2 ≤ S.length) : ∀ x ∈ r, x.2 ≤ S.length := fun x hx => by
  obtain ⟨u, rfl⟩ := h
  exact hts x (List.mem_append_right _ hx)
theorem need_suf {S : List UInt8} {m : UInt8} {ts r : Toks} (h : needT S m ts = .ok r) : ∃ u, ts = u ++ r := by
  obtain ⟨x, rfl, _⟩ := needT_ok h
  exact ⟨[x], rfl⟩
theorem tail_suf (ts : Toks) : ∃ u, ts = u ++ ts.tail := by
  cases ts with
  | nil => exact ⟨[], rfl⟩
  | cons x r => exact ⟨[x], rfl⟩
theorem rd_bad (S : List UInt8) : ∀ f : Nat,
    (∀ t now p deep ts ns e, rdRest S f t now p deep ts ns = .error e → (∀ x ∈ ts, x.2 ≤ S.length) → e.2 ≤ S.length) ∧
    (∀ p deep ts ns e, rdTerm S f p deep ts ns = .error e → (∀ x ∈ ts, x.2 ≤ S.length) → e.2 ≤ S.length) ∧
    (∀ x p deep ts ns e, rdName S f x p deep ts ns = .error e → x.2 ≤ S.length → (∀ x ∈ ts, x.2 ≤ S.length) → e.2 ≤ S.length) ∧
    (∀ deep ts ns e, rdRow S f deep ts ns = .error e → (∀ x ∈ ts, x.2 ≤ S.length) → e.2 ≤ S.length)
  | 0 => by
    refine ⟨?_, ?_, ?_, ?_⟩
    · intro t now p deep ts ns e h; rw [rdRest] at h; injection h with h; subst h; intro _; exact Nat.zero_le _
    · intro p deep ts ns e h; rw [rdTerm] at h; injection h with h; subst h; intro _; exact Nat.zero_le _
    · intro x p deep ts ns e h; rw [rdName] at h; injection h with h; subst h; intro _ _; exact Nat.zero_le _
    · intro deep ts ns e h; rw [rdRow] at h; injection h with h; subst h; intro _; exact Nat.zero_le _
  | f + 1 => by
    obtain ⟨ih1, ih2, ih3, ih4⟩ := rd_bad S f
    obtain ⟨w1, w2, w3, w4⟩ := rd_went S f
    refine ⟨?_, ?_, ?_, ?_⟩
    · intro t now p deep ts ns e h hts
      rw [rdRest.eq_def] at h
      dsimp only at h
      split at h
      · cases h
      · rename_i x r
        have hr : ∀ y ∈ r, y.2 ≤ S.length := fun y hy => hts y (List.mem_cons_of_mem _ hy)
        split at h
        · split at h
          · rename_i e' hv
            injection h with h
            subst h
            exact ih2 _ _ _ _ _ hv hr
          · rename_i v r1 ns1 hv
            exact ih1 _ _ _ _ _ _ _ h (suf_le (w2 _ _ _ _ _ _ _ hv).suf hr)
        · cases h
    · intro p deep ts ns e h hts
      rw [rdTerm.eq_def] at h
      dsimp only at h
      split at h
      · injection h with h; subst h; exact place_le hts
      split at h
      · injection h with h; subst h; exact Nat.le_refl _
      rename_i x r
      have hx := hts x (List.mem_cons_self ..)
      have hr : ∀ y ∈ r, y.2 ≤ S.length := fun y hy => hts y (List.mem_cons_of_mem _ hy)
      split at h
      · exact ih1 _ _ _ _ _ _ _ h hr
      split at h
      · exact ih1 _ _ _ _ _ _ _ h hr
      split at h
      · split at h
        · rename_i e' hv
          injection h with h
          subst h
          exact ih3 _ _ _ _ _ _ hv hx hr
        · rename_i t q r1 ns1 hv
          exact ih1 _ _ _ _ _ _ _ h (suf_le (w3 _ _ _ _ _ _ _ _ hv).suf hr)
      split at h
      · split at h
        · rename_i e' hv
          injection h with h
          subst h
          exact ih2 _ _ _ _ _ hv hr
        · rename_i t r1 ns1 hv
          have h1 := suf_le (w2 _ _ _ _ _ _ _ hv).suf hr
          split at h
          · rename_i e' hn
            injection h with h
            subst h
            exact need_badT hn h1
          · rename_i r2 hn
            exact ih1 _ _ _ _ _ _ _ h (suf_le (need_suf hn) h1)
      split at h
      · split at h
        · rename_i e' hv
          injection h with h
          subst h
          exact ih4 _ _ _ _ hv hr
        · rename_i l r1 ns1 hv
          have h1 := suf_le (w4 _ _ _ _ _ _ hv).suf hr
          split at h
          · split at h
            · rename_i e' ht
              injection h with h
              subst h
              exact ih2 _ _ _ _ _ ht (suf_le (tail_suf _) h1)
            · rename_i t r2 ns2 ht
              have h2 := suf_le (w2 _ _ _ _ _ _ _ ht).suf (suf_le (tail_suf _) h1)
              split at h
              · rename_i e' hn
                injection h with h
                subst h
                exact need_badT hn h2
              · rename_i r3 hn
                exact ih1 _ _ _ _ _ _ _ h (suf_le (need_suf hn) h2)
          · split at h
            · rename_i e' hn
              injection h with h
              subst h
              exact need_badT hn h1
            · rename_i r3 hn
              exact ih1 _ _ _ _ _ _ _ h (suf_le (need_suf hn) h1)
      · injection h with h; subst h; exact hx
    · intro x p deep ts ns e h hx hts
      rw [rdName] at h
      split at h
      · cases h
      split at h
      · split at h
        · rename_i e' hn
          injection h with h
          subst h
          exact need_badT hn hts
        · rename_i r1 hn
          have h1 := suf_le (need_suf hn) hts
          split at h
          · rename_i e' hv
            injection h with h
            subst h
            exact ih4 _ _ _ _ hv h1
          · rename_i l r2 ns2 hv
            have h2 := suf_le (w4 _ _ _ _ _ _ hv).suf h1
            split at h
            · rename_i e' hn2
              injection h with h
              subst h
              exact need_badT hn2 h2
            · cases h
      split at h
      · cases h
      split at h
      · injection h with h; subst h; exact hx
      split at h
      · rename_i e' hv
        injection h with h
        subst h
        exact ih2 _ _ _ _ _ hv hts
      · cases h
    · intro deep ts ns e h hts
      rw [rdRow] at h
      split at h
      · rename_i e' hv
        injection h with h
        subst h
        exact ih2 _ _ _ _ _ hv hts
      · rename_i t r ns1 hv
        have h1 := suf_le (w2 _ _ _ _ _ _ _ hv).suf hts
        split at h
        · split at h
          · rename_i e' hl
            injection h with h
            subst h
            exact ih4 _ _ _ _ hl (suf_le (tail_suf _) h1)
          · cases h
        · cases h
theorem cl_bad {S : List UInt8} {ts : Toks} {e : Nat × Nat} (h : clE S ts = .error e) (hts : ∀ x ∈ ts, x.2 ≤ S.length) : e.2 ≤ S.length := by
  unfold clE at h
  cases hr : rdTerm S FF 1200 0 ts [] with
  | error e' =>
    rw [hr] at h
    injection h with h
    subst h
    exact (rd_bad S FF).2.1 _ _ _ _ _ hr hts
  | ok p =>
    obtain ⟨u, r1, n1⟩ := p
    rw [hr] at h
    dsimp only at h
    split at h
    · cases h
    · injection h with h
      subst h
      exact place_le (suf_le ((rd_went S FF).2.1 _ _ _ _ _ _ _ hr).suf hts)
theorem cls_bad {S : List UInt8} : ∀ (f : Nat) (ts : Toks) (e : Nat × Nat), clsE S f ts = .error e → (∀ x ∈ ts, x.2 ≤ S.length) → e.2 ≤ S.length
  | 0, _, _, h, _ => by rw [clsE] at h; injection h with h; subst h; exact Nat.zero_le _
  | _ + 1, [], _, h, _ => by rw [clsE] at h; cases h
  | f + 1, x :: r, e, h, hts => by
    rw [clsE] at h
    cases hc : clE S (x :: r) with
    | error e' =>
      rw [hc] at h
      injection h with h
      subst h
      exact cl_bad hc hts
    | ok p =>
      obtain ⟨t, r', ns⟩ := p
      rw [hc] at h
      dsimp only at h
      by_cases hr : t.right = true
      · rw [if_pos hr] at h
        cases hq : clsE S f r' with
        | error e' =>
          rw [hq] at h
          injection h with h
          subst h
          exact cls_bad f r' e' hq (suf_le (cl_went hc).2.1 hts)
        | ok q => rw [hq] at h; cases h
      · rw [if_neg hr] at h
        injection h with h
        subst h
        exact hts x (List.mem_cons_self ..)
theorem read_bad {S : List UInt8} {e : Nat × Nat} (h : readE S = .error e) : e.2 ≤ S.length := by
  unfold readE at h
  split at h
  · injection h with h; subst h; exact Nat.zero_le _
  · split at h
    · rename_i b hl
      injection h with h
      subst h
      have := (lex_bad_at _ S false 0 b (Nat.le_refl _) hl).2
      dsimp only
      omega
    · rename_i ts hl
      exact cls_bad _ _ _ h (fun x hx => by have := (lex_ge _ S false 0 ts (Nat.le_refl _) hl x hx).2; omega)
theorem cl_names {S : List UInt8} {ts r : Toks} {t : Tm} {ns : Names} (h : clE S ts = .ok (t, r, ns)) : ns.length ≤ ts.length := by
  unfold clE at h
  cases hr : rdTerm S FF 1200 0 ts [] with
  | error e => rw [hr] at h; cases h
  | ok p =>
    obtain ⟨u, r1, n1⟩ := p
    rw [hr] at h
    dsimp only at h
    split at h
    · injection h with h; injection h with h0 h; injection h with h1 h2; subst h0 h1 h2
      have := ((rd_went S FF).2.1 _ _ _ _ _ _ _ hr).nms
      simp only [List.length_nil] at this
      omega
    · cases h
theorem cls_len {S : List UInt8} : ∀ (f : Nat) (ts : Toks) (l : List Cl), clsE S f ts = .ok l → l.length ≤ ts.length ∧ ∀ c ∈ l, c.1.right = true ∧ c.2.length ≤ ts.length
  | 0, _, _, h => by rw [clsE] at h; cases h
  | _ + 1, [], l, h => by
    rw [clsE] at h
    injection h with h
    subst h
    simp
  | f + 1, x :: r, l, h => by
    rw [clsE] at h
    cases hc : clE S (x :: r) with
    | error e => rw [hc] at h; cases h
    | ok p =>
      obtain ⟨t, r', ns⟩ := p
      rw [hc] at h
      dsimp only at h
      by_cases hr : t.right = true
      · rw [if_pos hr] at h
        cases hq : clsE S f r' with
        | error e => rw [hq] at h; cases h
        | ok q =>
          rw [hq] at h
          injection h with h
          subst h
          obtain ⟨h1, h2⟩ := cls_len f r' q hq
          have h3 := (cl_went hc).1
          refine ⟨by simp only [List.length_cons] at h3 ⊢; omega, fun c hm => ?_⟩
          rcases List.mem_cons.1 hm with rfl | hm
          · exact ⟨hr, cl_names hc⟩
          · exact ⟨(h2 c hm).1, by have := (h2 c hm).2; omega⟩
      · rw [if_neg hr] at h
        cases h
theorem read_len {S : List UInt8} {l : List Cl} (h : readE S = .ok l) : l.length ≤ 8000 ∧ ∀ c ∈ l, c.1.right = true ∧ c.2.length ≤ 8000 := by
  unfold readE at h
  split at h
  · cases h
  · split at h
    · cases h
    · rename_i ts hl
      have h1 := lex_len _ S false 0 ts (Nat.le_refl _) hl
      obtain ⟨h2, h3⟩ := cls_len _ _ _ h
      exact ⟨by omega, fun c hc => ⟨(h3 c hc).1, by have := (h3 c hc).2; omega⟩⟩
theorem one_is {S : List UInt8} {c : Cl} (h : oneE S = .ok c) : readE S = .ok [c] := by
  unfold oneE at h
  split at h
  · cases h
  · rename_i c' hc
    injection h with h
    rw [hc, h]
  · cases h
theorem one_bad {S : List UInt8} {e : Nat × Nat} (h : oneE S = .error e) : e.2 ≤ S.length := by
  unfold oneE at h
  split at h
  · rename_i e' he
    injection h with h
    subst h
    exact read_bad he
  · cases h
  · injection h with h
    subst h
    exact Nat.le_refl _
/-! ### the contracts, for each way -/
theorem clsP_no {s : ByteArray} {w : World} (hr : Rng w) (hs : s.size ≤ 1000000) {k pl : Nat} (h : readE (bs s) = .error (k, pl)) :
    Calls Tryz.prog 8 #[.string s] w fun e w' => (∃ g cap, e = .returned (.tuple #[.slice g 0 cap, .int .i64 (pl : Nat), .int .i64 (k : Nat)]) ∧ (k = 2 ∨ k = 3)) ∧ Below w.heap.size w w' :=
  (clauses_all s w hr hs).mono fun e w' hp => by
    obtain ⟨hb, l, sv, b, c, rfl, hl, _, hm⟩ := hp
    rw [h] at hm
    obtain ⟨h1, rfl, rfl, rfl⟩ := hm
    obtain ⟨g, cap, rfl, _⟩ := hl
    exact ⟨⟨g, cap, rfl, h1⟩, hb⟩
theorem clsP_ok {s : ByteArray} {w : World} (hr : Rng w) (hs : s.size ≤ 1000000) {l : List Cl} (h : readE (bs s) = .ok l) :
    Calls Tryz.prog 8 #[.string s] w fun e w' => (∃ g cap, e = .returned (.tuple #[.slice g l.length cap, .int .i64 0, .int .i64 0]) ∧ clsIn w' w'.heap.size l (.slice g l.length cap)) ∧ Below w.heap.size w w' :=
  (clauses_all s w hr hs).mono fun e w' hp => by
    obtain ⟨hb, l', sv, b, c, rfl, hl, _, hm⟩ := hp
    rw [h] at hm
    obtain ⟨rfl, rfl, rfl⟩ := hm
    have hl := hl.less
    obtain ⟨g, cap, rfl, _⟩ := id hl
    exact ⟨⟨g, cap, rfl, hl⟩, hb⟩
theorem clsD_no {s : ByteArray} {w : World} (hs : s.size ≤ 1000000) {k pl : Nat} (h : readE (bs s) = .error (k, pl)) :
    Calls Tryz.prog 9 #[.string s] w fun e w' => (∃ g cap, e = .returned (.tuple #[.slice g 0 cap, .int .i64 (pl : Nat), .int .i64 (k : Nat)]) ∧ (k = 2 ∨ k = 3)) ∧ Below w.heap.size w w' :=
  (dclauses_all s w hs).mono fun e w' hp => by
    obtain ⟨hb, l, sv, b, c, rfl, hl, _, hm⟩ := hp
    rw [h] at hm
    obtain ⟨h1, rfl, rfl, rfl⟩ := hm
    obtain ⟨g, cap, rfl, _⟩ := hl
    exact ⟨⟨g, cap, rfl, h1⟩, hb⟩
theorem clsD_ok {s : ByteArray} {w : World} (hs : s.size ≤ 1000000) {l : List Cl} (h : readE (bs s) = .ok l) :
    Calls Tryz.prog 9 #[.string s] w fun e w' => (∃ g cap, e = .returned (.tuple #[.slice g l.length cap, .int .i64 0, .int .i64 0]) ∧ clsIn w' w'.heap.size l (.slice g l.length cap)) ∧ Below w.heap.size w w' :=
  (dclauses_all s w hs).mono fun e w' hp => by
    obtain ⟨hb, l', sv, b, c, rfl, hl, _, hm⟩ := hp
    rw [h] at hm
    obtain ⟨rfl, rfl, rfl⟩ := hm
    obtain ⟨g, cap, rfl, _⟩ := id hl
    exact ⟨⟨g, cap, rfl, hl⟩, hb⟩
theorem oneP_no {s : ByteArray} {w : World} (hr : Rng w) (hs : s.size ≤ 1000000) {k pl : Nat} (h : oneE (bs s) = .error (k, pl)) :
    Calls Tryz.prog 12 #[.string s] w fun e w' => (e = .returned (.tuple #[.agg #[.int .i64 0, .string ⟨#[]⟩, .int .i64 0, .slice none 0 0, .slice none 0 0], .int .i64 (pl : Nat), .int .i64 (k : Nat)]) ∧ (k = 2 ∨ k = 3)) ∧ Below w.heap.size w w' :=
  (one_p s w hr hs).mono fun e w' hp => by
    obtain ⟨hb, k', nm, n, g, m, c, gn, mn, cn, b, cd, rfl, hm⟩ := hp
    rw [h] at hm
    obtain ⟨h1, rfl, rfl, rfl, rfl, rfl, rfl, rfl, rfl, rfl, rfl, rfl⟩ := hm
    exact ⟨⟨rfl, h1⟩, hb⟩
theorem oneP_ok {s : ByteArray} {w : World} (hr : Rng w) (hs : s.size ≤ 1000000) {t : Tm} {ns : Names} (h : oneE (bs s) = .ok (t, ns)) :
    Calls Tryz.prog 12 #[.string s] w fun e w' => (∃ g c gn cn, e = .returned (.tuple #[.agg #[.int .i64 t.kind, .string t.name, .int .i64 t.n, .slice g t.args.length c, .slice gn ns.length cn], .int .i64 0, .int .i64 0]) ∧ Tm.inn w' w'.heap.size t (.slice g t.args.length c) ∧ namesP w' (fun x => x < w'.heap.size) ns (.slice gn ns.length cn)) ∧ Below w.heap.size w w' :=
  (one_p s w hr hs).mono fun e w' hp => by
    obtain ⟨hb, k', nm, n, g, m, c, gn, mn, cn, b, cd, rfl, hm⟩ := hp
    rw [h] at hm
    obtain ⟨rfl, rfl, rfl, rfl, rfl, hi, hn⟩ := hm
    obtain ⟨_, g', cap, e1, _⟩ := Tm.inn_iff.1 hi
    injection e1 with e1 e2 e3
    subst e1 e2 e3
    obtain ⟨gn', cn', e4, _⟩ := id hn
    injection e4 with e4 e5 e6
    subst e4 e5 e6
    exact ⟨⟨_, _, _, _, rfl, hi, hn⟩, hb⟩
/-- A clause at its place. -/
theorem clcP_at {w : World} {ok : Nat → Prop} : ∀ {l : List Cl} {xs : List Value}, clcP w ok l xs → ∀ (i : Nat) (h : i < l.length), ∃ sv nv, xs[i * 5]? = some (.int .i64 l[i].1.kind) ∧ xs[i * 5 + 1]? = some (.string l[i].1.name) ∧ xs[i * 5 + 2]? = some (.int .i64 l[i].1.n) ∧ xs[i * 5 + 3]? = some sv ∧ xs[i * 5 + 4]? = some nv ∧ Tm.innP w ok l[i].1 sv ∧ namesP w ok l[i].2 nv
  | [], _, _, i, h => absurd h (Nat.not_lt_zero _)
  | (t, ns) :: l, _, ⟨sv, nv, ys, e, h1, h2, h3⟩, i, hi => by
    subst e
    cases i with
    | zero => exact ⟨sv, nv, rfl, rfl, rfl, rfl, rfl, h1, h2⟩
    | succ i =>
      obtain ⟨sv', nv', g0, g1, g2, g3, g4, g5, g6⟩ := clcP_at h3 i (by simpa using hi)
      refine ⟨sv', nv', ?_, ?_, ?_, ?_, ?_, g5, g6⟩
      · rw [show (i + 1) * 5 = i * 5 + 5 by omega]; exact g0
      · rw [show (i + 1) * 5 + 1 = i * 5 + 1 + 5 by omega]; exact g1
      · rw [show (i + 1) * 5 + 2 = i * 5 + 2 + 5 by omega]; exact g2
      · rw [show (i + 1) * 5 + 3 = i * 5 + 3 + 5 by omega]; exact g3
      · rw [show (i + 1) * 5 + 4 = i * 5 + 4 + 5 by omega]; exact g4
theorem clsIn_at {w : World} {B : Nat} {l : List Cl} {sv : Value} (h : clsIn w B l sv) (i : Nat) (hi : i < l.length) : ∃ b off cap g m c gn cn, sv = .slice (some ⟨b, off, none⟩) l.length cap ∧ b < B ∧ m = l[i].1.args.length ∧
    w.cell? ⟨b, off + i * 5, none⟩ = some (.int .i64 l[i].1.kind) ∧ w.cell? ⟨b, off + i * 5 + 1, none⟩ = some (.string l[i].1.name) ∧ w.cell? ⟨b, off + i * 5 + 2, none⟩ = some (.int .i64 l[i].1.n) ∧ w.cell? ⟨b, off + i * 5 + 3, none⟩ = some (.slice g m c) ∧ w.cell? ⟨b, off + i * 5 + 4, none⟩ = some (.slice gn l[i].2.length cn) ∧ Tm.inn w B l[i].1 (.slice g m c) ∧ namesP w (fun x => x < B) l[i].2 (.slice gn l[i].2.length cn) := by
  obtain ⟨g, cap, rfl, h | ⟨b, off, xs, rfl, hb, hc, hx⟩⟩ := h
  · subst h; simp at hi
  · obtain ⟨sv, nv, g0, g1, g2, g3, g4, g5, g6⟩ := clcP_at hc i hi
    have g5 := Tm.inn_of_P (fun b hb => hb) _ _ g5
    obtain ⟨_, g', cap', rfl, _⟩ := Tm.inn_iff.1 g5
    obtain ⟨gn, cn, rfl, _⟩ := id g6
    exact ⟨b, off, cap, g', _, cap', gn, cn, rfl, hb, rfl, hx _ _ g0, hx _ _ g1, hx _ _ g2, hx _ _ g3, hx _ _ g4, g5, g6⟩
end Go.Proofs.YtilfglcjcmpfeaaGreatDoor
