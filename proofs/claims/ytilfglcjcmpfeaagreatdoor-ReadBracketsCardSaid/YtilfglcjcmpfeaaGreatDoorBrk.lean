/-
  Brackets around a clause, purely.
-/
import Derived.Test.YtilfglcjcmpfeaaGreatDoorJn
import Derived.Test.YtilfglcjcmpfeaaGreatDoorRdBad
namespace Go.Proofs.YtilfglcjcmpfeaaGreatDoor
open Go.RowKit

theorem tw_sp {p : UInt8 → Bool} (hp : p 32 = false) (b : List UInt8) : ∀ a : List UInt8, (a ++ 32 :: b).takeWhile p = a.takeWhile p ∧ (a ++ 32 :: b).dropWhile p = a.dropWhile p ++ 32 :: b
  | [] => by simp [List.takeWhile, List.dropWhile, hp]
  | c :: r => by
    obtain ⟨h1, h2⟩ := tw_sp hp b r
    by_cases h : p c = true
    · constructor <;> simp [h, h1, h2]
    · constructor <;> simp [h]
theorem opens_spc (x b : List UInt8) : opens (x ++ 32 :: b) = opens x := by cases x <;> simp [opens]
theorem ends_spc (x b : List UInt8) : ends (x ++ 32 :: b) = ends x := by
  cases x with
  | nil => simp [ends, show srt 32 = 5 by decide]
  | cons c r => simp [ends]
theorem name_spc {kind : Nat} {text rest b : List UInt8} {k : Nat} : nameL kind text (rest ++ 32 :: b) k = nameL kind text rest k := by unfold nameL; rw [opens_spc]
theorem quo_sp : ∀ (n : Nat) (r tx : List UInt8) (k : Nat), r.length ≤ n → quoL (r ++ [32, 46]) = some (tx, k) → quoL r = some (tx, k)
  | _, [], tx, k, _, h => by
    have h2 : quoL ([] ++ [32, 46]) = none := by rfl
    rw [h2] at h
    cases h
  | 0, _ :: _, _, _, hn, _ => by simp at hn
  | n + 1, c :: r, tx, k, hn, h => by
    simp only [List.length_cons] at hn
    rw [List.cons_append] at h
    by_cases hc : c.toNat < 32 ∨ 126 < c.toNat
    · rw [quoL_bad _ hc] at h; cases h
    by_cases hq : c = 39
    · subst hq
      by_cases hr : r.head? = some 39
      · obtain ⟨q, rfl⟩ : ∃ q, r = 39 :: q := by
          cases r with
          | nil => simp at hr
          | cons d q => simp at hr; exact ⟨q, by rw [hr]⟩
        rw [List.cons_append, quoL_two] at h
        simp only [Option.map_eq_some_iff, Prod.mk.injEq] at h
        obtain ⟨⟨tx', k'⟩, h1, rfl, rfl⟩ := h
        simp only [List.length_cons] at hn
        rw [quoL_two, quo_sp n q tx' k' (by omega) h1]
        rfl
      · have hr2 : (r ++ [32, 46]).head? ≠ some 39 := fun e => hr (by
          cases r with
          | nil => simp at e
          | cons d q => exact e)
        rw [quoL_end hr2] at h
        rw [quoL_end hr, h]
    · rw [quoL_one _ hc hq] at h
      simp only [Option.map_eq_some_iff, Prod.mk.injEq] at h
      obtain ⟨⟨tx', k'⟩, h1, rfl, rfl⟩ := h
      rw [quoL_one r hc hq, quo_sp n r tx' k' (by omega) h1]
      rfl
/-- What stands at a place behind which a space and a dot come, stands there without. -/
theorem one_sp {c : UInt8} {r : List UInt8} {t : Tk} {k : Nat} (h : oneL (c :: (r ++ [32, 46])) = some (t, k)) : oneL (c :: r) = some (t, k) := by
  have jw := tw_sp word_sp [46] (c :: r)
  have js := tw_sp sign_sp [46] (c :: r)
  have jd := tw_sp digit_sp [46] (c :: r)
  rw [List.cons_append] at jw js jd
  unfold oneL at h ⊢
  simp only at h ⊢
  rw [jw.1, jw.2, js.1, js.2, jd.1] at h
  by_cases h1 : srt c = 1 ∨ srt c = 2
  · rw [if_pos h1] at h ⊢
    rw [name_spc] at h
    exact h
  rw [if_neg h1] at h ⊢
  by_cases h3 : srt c = 3
  · rw [if_pos h3] at h ⊢
    exact h
  rw [if_neg h3] at h ⊢
  by_cases hq : c = 39
  · rw [if_pos hq] at h ⊢
    simp only [Option.bind_eq_some_iff] at h
    obtain ⟨⟨tx, q⟩, h4, h5⟩ := h
    have h6 := quo_sp r.length r tx q (Nat.le_refl _) h4
    have h8 := (quo_join [] r.length r tx q (Nat.le_refl _) h6).2.2
    rw [h6]
    simp only [Option.bind_some]
    dsimp only at h5
    rw [List.drop_append_of_le_length h8, name_spc] at h5
    exact h5
  rw [if_neg hq] at h ⊢
  by_cases hb : c = 91 ∧ r.head? = some 93
  · have hb' : c = 91 ∧ (r ++ [32, 46]).head? = some 93 := by
      obtain ⟨e1, e2⟩ := hb
      cases r with
      | nil => simp at e2
      | cons d q => exact ⟨e1, e2⟩
    rw [if_pos hb'] at h
    rw [if_pos hb]
    have hr : 1 ≤ r.length := by
      cases r with
      | nil => simp at hb
      | cons d q => simp
    rw [List.drop_append_of_le_length hr, name_spc] at h
    exact h
  have hb' : ¬ (c = 91 ∧ (r ++ [32, 46]).head? = some 93) := by
    rintro ⟨e1, e2⟩
    refine hb ⟨e1, ?_⟩
    cases r with
    | nil => simp at e2
    | cons d q => exact e2
  rw [if_neg hb'] at h
  rw [if_neg hb]
  by_cases h5 : c = 33 ∨ c = 59
  · rw [if_pos h5] at h ⊢
    rw [name_spc] at h
    exact h
  rw [if_neg h5] at h ⊢
  by_cases h6 : c = 40 ∨ c = 41 ∨ c = 91 ∨ c = 93 ∨ c = 124 ∨ c = 44
  · rw [if_pos h6] at h ⊢
    exact h
  rw [if_neg h6] at h ⊢
  rw [ends_spc] at h
  by_cases h8 : c = 46 ∧ (List.takeWhile isSign (c :: r)).length = 1 ∧ ends (List.dropWhile isSign (c :: r)) = true
  · rw [if_pos h8] at h ⊢
    exact h
  rw [if_neg h8] at h ⊢
  rw [name_spc] at h
  exact h
def dotE (p : Nat) : Tk × Nat := (⟨5, [46], 0, false⟩, p)
theorem lex_sp : ∀ (n : Nat) (S : List UInt8) (cm : Bool) (at' : Nat) (L : Toks), S.length ≤ n → lexL cm at' (S ++ [32, 46]) = .inr L → ∃ ts, lexL cm at' S = .inr ts ∧ (L = ts ∨ L = ts ++ [dotE (at' + S.length + 1)])
  | _, [], cm, at', L, _, h => by
    refine ⟨[], lexL_nil _ _, ?_⟩
    rw [List.nil_append] at h
    cases cm with
    | true =>
      rw [lexL_skip (.inl rfl), lexL_skip (.inl (by decide)), lexL_nil] at h
      injection h with h
      exact .inl h.symm
    | false =>
      rw [lexL_gap (by decide) (by decide), lexL_tok (t := ⟨5, [46], 0, false⟩) (k := 1) (by decide) (by decide) (by rfl), List.drop_nil, lexL_nil] at h
      injection h with h
      exact .inr h.symm
  | 0, _ :: _, _, _, _, hn, _ => by simp at hn
  | n + 1, c :: r, cm, at', L, hn, h => by
    simp only [List.length_cons] at hn
    rw [List.cons_append] at h
    by_cases h1 : cm = true ∨ c = 37
    · rw [lexL_skip h1] at h ⊢
      obtain ⟨ts, e1, e2⟩ := lex_sp n r _ _ L (by omega) h
      exact ⟨ts, e1, by rw [List.length_cons, show at' + (r.length + 1) + 1 = at' + 1 + r.length + 1 by omega]; exact e2⟩
    by_cases h5 : srt c = 5
    · rw [lexL_gap h1 h5] at h ⊢
      obtain ⟨ts, e1, e2⟩ := lex_sp n r _ _ L (by omega) h
      exact ⟨ts, e1, by rw [List.length_cons, show at' + (r.length + 1) + 1 = at' + 1 + r.length + 1 by omega]; exact e2⟩
    cases ho : oneL (c :: (r ++ [32, 46])) with
    | none => rw [lexL_bad h1 h5 ho] at h; cases h
    | some x =>
      obtain ⟨t, k⟩ := x
      have ho2 := one_sp ho
      obtain ⟨_, hk1, hk2⟩ := one_join [] ho2
      rw [lexL_tok h1 h5 ho] at h
      rw [lexL_tok h1 h5 ho2]
      obtain ⟨q, h2, rfl⟩ := preL_inr h
      simp only [List.length_cons] at hk2
      rw [List.drop_append_of_le_length (by omega)] at h2
      obtain ⟨ts, e1, e2⟩ := lex_sp n _ _ _ q (by rw [List.length_drop]; omega) h2
      rw [e1]
      refine ⟨[(t, at')] ++ ts, rfl, ?_⟩
      rcases e2 with rfl | rfl
      · exact .inl rfl
      · refine .inr ?_
        rw [List.append_assoc, List.length_drop, List.length_cons, show at' + k + (r.length - (k - 1)) + 1 = at' + (r.length + 1) + 1 by omega]
theorem lex_brk {S : List UInt8} {ts : Toks} (h : lexL false 0 S = .inr ts) : lexL false 0 (40 :: (S ++ [10, 41, 32, 46])) = .inr ((⟨4, [40], 0, false⟩, 0) :: (sh 1 ts ++ [(⟨4, [41], 0, false⟩, S.length + 2), dotE (S.length + 4)])) := by
  have h1 : lexL false (0 + 1) S = .inr (sh 1 ts) := by rw [lex_shift 1 _ S false 0 (Nat.le_refl _), h]; rfl
  have e3 : lexL false (0 + 1 + S.length + 1 + 1) [32, 46] = .inr [dotE (S.length + 4)] := by
    rw [lexL_gap (by decide) (by decide), lexL_tok (t := ⟨5, [46], 0, false⟩) (k := 1) (by decide) (by decide) (by rfl), List.drop_nil, lexL_nil, show 0 + 1 + S.length + 1 + 1 + 1 = S.length + 4 by omega]
    rfl
  have e2 : lexL false (0 + 1 + S.length + 1) [41, 32, 46] = .inr [(⟨4, [41], 0, false⟩, S.length + 2), dotE (S.length + 4)] := by
    refine (lexL_tok (t := ⟨4, [41], 0, false⟩) (k := 1) (by decide) (by decide) (by rfl)).trans ((congrArg (preL _) e3).trans ?_)
    rw [show 0 + 1 + S.length + 1 = S.length + 2 by omega]
    rfl
  have e1 := lex_join [41, 32, 46] _ S false (0 + 1) (sh 1 ts) (Nat.le_refl _) h1
  rw [e2] at e1
  exact (lexL_tok (t := ⟨4, [40], 0, false⟩) (k := 1) (by decide) (by decide) (by rfl)).trans (congrArg (preL _) e1)
theorem one_of {S : List UInt8} {c : Cl} (h : readE S = .ok [c]) : oneE S = .ok c := by unfold oneE; rw [h]
/-- A clause with brackets around it. -/
theorem brk_ok {S : List UInt8} {t : Tm} {ns : Names} (hS : S.length ≤ 900) (h : oneE (S ++ [32, 46]) = .ok (t, ns)) : oneE S = .ok (t, ns) ∨ oneE (40 :: (S ++ [10, 41, 32, 46])) = .ok (t, ns) := by
  have h := one_is h
  unfold readE at h
  rw [if_neg (by simp; omega)] at h
  cases hx : lexL false 0 (S ++ [32, 46]) with
  | inl p => rw [hx] at h; cases h
  | inr L =>
    rw [hx] at h
    dsimp only at h
    obtain ⟨ts, hts, hL⟩ := lex_sp _ S false 0 L (Nat.le_refl _) hx
    have hpl := lex_ge _ S false 0 ts (Nat.le_refl _) hts
    have hlen := lex_len _ S false 0 ts (Nat.le_refl _) hts
    have hm0 : ∀ i, i < S.length → S[i]? = (S ++ [32, 46])[i]? := fun i hi => (List.getElem?_append_left hi).symm
    rcases hL with rfl | rfl
    · refine .inl (one_of ?_)
      have hc := clsE_app (X := []) (N := S.length) hm0 _ _ (L.length + 1) L _ (Nat.le_refl _) h (fun x hx => by have := (hpl x hx).2; omega) (by rw [FF_eq]; omega) (by simp)
      rw [List.append_nil] at hc
      unfold readE
      rw [if_neg (by omega), hts]
      dsimp only
      rw [hc]
      rw [List.length_nil, clsE]
      rfl
    · refine .inr (one_of ?_)
      -- the clause and the row behind it
      obtain ⟨x, r, hxr⟩ : ∃ x r, ts ++ [dotE (0 + S.length + 1)] = x :: r := by
        cases ts with
        | nil => exact ⟨_, _, rfl⟩
        | cons y q => exact ⟨_, _, rfl⟩
      rw [hxr, clsE] at h
      cases hc : clE (S ++ [32, 46]) (x :: r) with
      | error e => rw [hc] at h; cases h
      | ok p =>
        obtain ⟨t', r', ns'⟩ := p
        rw [hc] at h
        dsimp only at h
        by_cases hr : t'.right = true
        · rw [if_pos hr] at h
          cases hq : clsE (S ++ [32, 46]) (x :: r).length r' with
          | error e => rw [hq] at h; cases h
          | ok q =>
            rw [hq] at h
            injection h with h
            injection h with h3 h4
            injection h3 with h5 h6
            subst h4 h5 h6
            have hr' : r' = [] := by
              cases r' with
              | nil => rfl
              | cons y z =>
                rw [List.length_cons, clsE] at hq
                cases hc2 : clE (S ++ [32, 46]) (y :: z) with
                | error e => rw [hc2] at hq; cases hq
                | ok p =>
                  obtain ⟨a1, a2, a3⟩ := p
                  rw [hc2] at hq
                  dsimp only at hq
                  by_cases hr2 : a1.right = true
                  · rw [if_pos hr2] at hq
                    cases hq2 : clsE (S ++ [32, 46]) r.length a2 with
                    | error e => rw [hq2] at hq; cases hq
                    | ok z => rw [hq2] at hq; cases hq
                  · rw [if_neg hr2] at hq; cases hq
            subst hr'
            clear hq
            rw [← hxr] at hc
            unfold clE at hc
            cases ht : rdTerm (S ++ [32, 46]) FF 1200 0 (ts ++ [dotE (0 + S.length + 1)]) [] with
            | error e => rw [ht] at hc; cases hc
            | ok p =>
              obtain ⟨u, r1, n1⟩ := p
              rw [ht] at hc
              dsimp only at hc
              by_cases he : endT r1 = true
              · rw [if_pos he] at hc
                injection hc with hc; injection hc with h3 hc; injection hc with h4 h5
                subst h3 h5
                obtain ⟨y, hy⟩ : ∃ y, r1 = [y] := by
                  cases r1 with
                  | nil => cases he
                  | cons y z =>
                    have : z = [] := h4
                    exact ⟨y, by rw [this]⟩
                subst hy
                obtain ⟨v, hv⟩ := ((rd_went _ FF).2.1 _ _ _ _ _ _ _ ht).suf
                have hv2 := List.append_inj' hv rfl
                have hy2 : dotE (0 + S.length + 1) = y := by injection hv2.2
                subst hy2
                have hE : EndU [dotE (0 + S.length + 1)] := ⟨_, [], rfl, rfl⟩
                have hD : DeadU [((⟨4, [41], 0, false⟩ : Tk), S.length + 2), dotE (S.length + 4)] := ⟨_, _, rfl, .inr ⟨rfl, rfl⟩⟩
                have hm1 : ∀ i, i < S.length → (40 :: (S ++ [10, 41, 32, 46]))[i + 1]? = (S ++ [32, 46])[i]? := fun i hi => by
                  rw [List.getElem?_cons_succ, List.getElem?_append_left hi, List.getElem?_append_left hi]
                obtain ⟨r2, e1, _, _, e2⟩ := (rd_ok hE hD hm1 FF).2.1 _ _ _ _ _ _ _ ht (fun x hx => by have := (hpl x hx).2; omega) (FF - 1) 1 (by rw [FF_eq]; omega) (.inr (by omega))
                have hr2 : r2 = [] := by
                  have := congrArg List.length e1
                  simp only [List.length_append, List.length_cons, List.length_nil] at this
                  exact List.eq_nil_of_length_eq_zero (by omega)
                subst hr2
                rw [sh_nil, List.nil_append] at e2
                have hcl : clE (40 :: (S ++ [10, 41, 32, 46])) ((⟨4, [40], 0, false⟩, 0) :: (sh 1 ts ++ [(⟨4, [41], 0, false⟩, S.length + 2), dotE (S.length + 4)])) = .ok (u, [], n1) := by
                  unfold clE
                  rw [show FF = (FF - 1) + 1 by rw [FF_eq], rdTerm.eq_def]
                  dsimp only
                  rw [if_neg (by omega), if_neg (by decide), if_neg (by decide), if_neg (by decide), if_pos (by rfl), e2]
                  dsimp only
                  rw [show needT (40 :: (S ++ [10, 41, 32, 46])) 41 [((⟨4, [41], 0, false⟩ : Tk), S.length + 2), dotE (S.length + 4)] = .ok [dotE (S.length + 4)] from rfl]
                  dsimp only
                  rw [show FF - 1 = (FF - 2) + 1 by rw [FF_eq], rdRest.eq_def]
                  rfl
                unfold readE
                rw [if_neg (by simp; omega), lex_brk hts]
                dsimp only
                rw [List.length_cons, clsE, hcl]
                dsimp only
                rw [if_pos hr, clsE]
              · rw [if_neg he] at hc
                cases hc
        · rw [if_neg hr] at h
          cases h
end Go.Proofs.YtilfglcjcmpfeaaGreatDoor
