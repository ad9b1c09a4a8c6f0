/-
  A term's text is read as the term, purely: Funs with Args, lists; the whole.
  Reading elsewhere: a text behind another.
  Reading elsewhere: what is read well ahead of an End is read well ahead of whatever ends a term.
  What the program's Tokens is to say; what the document's says; what texts' tokens are.
-/
import Derived.Test.YtliapkajonbndaaGreatDoorG27
import Derived.Test.YtliapkajonbndaaGreatDoorG24
import Derived.Test.YtliapkajonbndaaGreatDoorG13
import Derived.Test.YtliapkajonbndaaGreatDoorG02
namespace Go.Proofs.YtliapkajonbndaaGreatDoor
open Go.RowKit

theorem tm_fnc {s : ByteArray} {a : Tm} {q : List Tm} (hn : Tm.nameOk s = true) (h1 : 1 ≤ (bsN s).length) (h2 : (bsN s).length ≤ 20) (ha : Both a) (hq : ∀ t ∈ q, Both t) (hd : dotO (bsN s) (wrs (a :: q)) = none) : Both (.mk 3 s 0 (a :: q)) := by
  have hw : wrs (a :: q) = wr a :: wrs q := by rw [wrs]
  have hx : tx (.mk 3 s 0 (a :: q)) = nmX (bsN s) ++ 40 :: (tx a ++ (cmX (wrs q) ++ [41])) := by
    show txO 3 (bsN s) 0 (wrs (a :: q)) = _
    unfold txO
    rw [if_neg (by decide), if_neg (by decide), hw]
    rw [hw] at hd
    simp only [hd]
    rfl
  have ht : tl (.mk 3 s 0 (a :: q)) = 124 :: (tx (.mk 3 s 0 (a :: q)) ++ [93]) := by
    show tlO 3 (bsN s) 0 (wrs (a :: q)) = 124 :: (txO 3 (bsN s) 0 (wrs (a :: q)) ++ [93])
    unfold tlO
    rw [if_neg (by rintro ⟨_, _, e⟩; rw [hw] at e; cases e), if_pos rfl, hd]
  have hp := fair_text hn
  have hA : ∀ p r, Stop2 r → ∃ ts, lexL false p (tx (.mk 3 s 0 (a :: q)) ++ r) = preL ts (lexL false (p + (tx (.mk 3 s 0 (a :: q))).length) r) ∧ TmP (.mk 3 s 0 (a :: q)) ts p := fun p r hr => by
    obtain ⟨tsQ, eQ, dQ, cQ⟩ := row_cm q hq (p + (nmX (bsN s)).length + 1 + (tx a).length) r
    obtain ⟨tsA, eA, cA⟩ := ha.a (p + (nmX (bsN s)).length + 1) (cmX (wrs q) ++ 41 :: r) (cm_stop q r)
    obtain ⟨x9, hx9⟩ : ∃ x : Tk × Nat, x = (⟨4, [41], 0, false⟩, p + (nmX (bsN s)).length + 1 + (tx a).length + (cmX (wrs q)).length) := ⟨_, rfl⟩
    refine ⟨(⟨1, bsN s, 0, true⟩, p) :: (⟨4, [40], 0, false⟩, p + (nmX (bsN s)).length) :: (tsA ++ (tsQ ++ [x9])), ?_, ?_⟩
    · have e1 := lex_nm h1 h2 hp (r := 40 :: (tx a ++ (cmX (wrs q) ++ 41 :: r))) ⟨40, _, rfl, by decide⟩ p
      have e2 := lex_mark (c := 40) (.inl rfl) (tx a ++ (cmX (wrs q) ++ 41 :: r)) (p + (nmX (bsN s)).length)
      have e3 := lex_mark (c := 41) (.inr (.inl rfl)) r (p + (nmX (bsN s)).length + 1 + (tx a).length + (cmX (wrs q)).length)
      rw [show tx (.mk 3 s 0 (a :: q)) ++ r = nmX (bsN s) ++ 40 :: (tx a ++ (cmX (wrs q) ++ 41 :: r)) by rw [hx]; simp, e1, e2, eA, eQ, e3, ← hx9, preL_pre, preL_pre, preL_pre, preL_pre]
      rw [hx, show p + (nmX (bsN s)).length + 1 + (tx a).length + (cmX (wrs q)).length + 1 = p + (nmX (bsN s) ++ 40 :: (tx a ++ (cmX (wrs q) ++ [41]))).length by simp only [List.length_append, List.length_cons, List.length_nil]; omega]
      simp [opens]
    · intro S hS f P deep vs W u hf hde hP hW hpre hu
      rw [hx] at hS
      have hS1 := (AtS.cons hS.right).2
      simp only [List.length_cons, List.length_append, List.length_nil] at hf
      obtain ⟨g, rfl⟩ : ∃ g, f = g + 1 + 1 + 1 := ⟨f - 3, by omega⟩
      have hvs : vsT (.mk 3 s 0 (a :: q)) vs = vsL q (vsT a vs) := by simp [vsT, vsL]
      rw [hvs] at hpre ⊢
      have hdm : ∀ t ∈ a :: q, deep + 1 + t.deep ≤ 1000 := fun t ht => by
        have := deep_mem ht
        simp only [Tm.deep] at hde
        omega
      have h9k : x9.1.kind = 4 := by rw [hx9]
      have h9t : x9.1.text = [41] := by rw [hx9]
      have r1 := cA S hS1.left g 999 (deep + 1) vs W (tsQ ++ x9 :: u) (by omega) (hdm a (by simp)) (Nat.le_refl _) hW ((vsL_pre q _).trans hpre) (dQ x9 u h9k h9t)
      have r2 := cQ S hS1.right.left (a.ren (posOf W)) g deep (vsT a vs) W x9 u (by omega) (fun t ht => hdm t (by simp [ht])) hW hpre h9k h9t
      rw [List.cons_append, List.cons_append, rdTerm.eq_def]
      dsimp only
      rw [if_neg (by have := hdm a (by simp); omega), if_neg (by decide), if_neg (by decide), if_pos rfl, rdName]
      rw [if_neg (fun e => by have := e.2.2; simp [numAt] at this), if_pos rfl, need_mark rfl rfl]
      dsimp only
      rw [row_is, List.append_assoc, List.append_assoc, List.cons_append, List.nil_append, r1]
      dsimp only
      rw [r2]
      dsimp only
      rw [need_mark h9k h9t]
      dsimp only
      rw [rest_dull hu]
      show Except.ok (funT ⟨(bsN s).toArray⟩ _, u, _) = _
      rw [bsN_arr]
      simp [Tm.ren, Tm.rens, funT]
  obtain ⟨c, z, hc, hne⟩ := nmX_hd h1 h2 hp
  exact ⟨hA, tail_other hA ht, ⟨c, _, by rw [hx, hc]; rfl, hne⟩, ⟨124, _, ht, .inr (.inr rfl)⟩⟩
theorem tm_lst {a b : Tm} (ha : Both a) (hb : Both b) : Both (.mk 3 ⟨#[46]⟩ 0 [a, b]) := by
  have hx : tx (.mk 3 ⟨#[46]⟩ 0 [a, b]) = 91 :: (tx a ++ tl b) := by
    show txO 3 [46] 0 [wr a, wr b] = _
    rfl
  have ht : tl (.mk 3 ⟨#[46]⟩ 0 [a, b]) = 44 :: (tx a ++ tl b) := by
    show tlO 3 [46] 0 [wr a, wr b] = _
    rfl
  have hvs : ∀ vs, vsT (.mk 3 ⟨#[46]⟩ 0 [a, b]) vs = vsT b (vsT a vs) := fun vs => by simp [vsT, vsL]
  have hren : ∀ f, (Tm.mk 3 ⟨#[46]⟩ 0 [a, b]).ren f = funT ⟨#[46]⟩ [a.ren f, b.ren f] := fun f => by simp [Tm.ren, Tm.rens, funT]
  have hstop : ∀ r, Stop2 (tl b ++ r) := fun r => by
    obtain ⟨c, q, e, h⟩ := hb.th
    rw [e]
    exact ⟨c, q ++ r, rfl, by rcases h with h | h | h <;> simp [h]⟩
  have hdeep : ∀ deep, deep + (Tm.mk 3 ⟨#[46]⟩ 0 [a, b]).deep ≤ 1000 → deep + 1 + a.deep ≤ 1000 ∧ deep + 1 + b.deep ≤ 1000 := fun deep h => by
    simp only [Tm.deep, Tm.deeps] at h
    omega
  refine ⟨fun p r hr => ?_, fun p r hr => ?_, ⟨91, _, hx, by decide⟩, ⟨44, _, ht, .inr (.inl rfl)⟩⟩
  · obtain ⟨tsB, dB, eB, cB⟩ := hb.b (p + 1 + (tx a).length) r hr
    obtain ⟨tsA, eA, cA⟩ := ha.a (p + 1) (tl b ++ r) (hstop r)
    refine ⟨(⟨4, [91], 0, false⟩, p) :: (tsA ++ tsB), ?_, ?_⟩
    · obtain ⟨c, q, e, hc⟩ := ha.hd
      have e1 := lex_open (r := tx a ++ (tl b ++ r)) (by rw [e]; intro e2; injection e2 with e2; exact hc e2) p
      rw [show tx (.mk 3 ⟨#[46]⟩ 0 [a, b]) ++ r = 91 :: (tx a ++ (tl b ++ r)) by rw [hx]; simp, e1, eA, eB, preL_pre, preL_pre]
      rw [hx, show p + 1 + (tx a).length + (tl b).length = p + (91 :: (tx a ++ tl b)).length by simp only [List.length_append, List.length_cons]; omega]
      simp
    · intro S hS f P deep vs W u hf hde hP hW hpre hu
      rw [hx] at hS
      have hS1 := (AtS.cons hS).2
      simp only [List.length_cons, List.length_append] at hf
      obtain ⟨g, rfl⟩ : ∃ g, f = g + 1 + 1 := ⟨f - 2, by omega⟩
      obtain ⟨d1, d2⟩ := hdeep deep hde
      rw [hvs] at hpre ⊢
      have r1 := cA S hS1.left g 999 (deep + 1) vs W (tsB ++ u) (by omega) d1 (Nat.le_refl _) hW ((vsT_pre b _).trans hpre) (dB.dull u)
      obtain ⟨l, rest, ns1, r2, r3⟩ := cB S hS1.right (a.ren (posOf W)) g (g + 1) deep (vsT a vs) W u (by omega) (by omega) d2 hW hpre
      rw [List.cons_append, term_list S (g + 1) P deep _ _ _ (by omega) rfl rfl, row_is, List.append_assoc, r1]
      dsimp only
      rw [r2]
      dsimp only
      rw [r3]
      dsimp only
      rw [rest_dull hu, hren]
  · obtain ⟨tsB, dB, eB, cB⟩ := hb.b (p + 1 + (tx a).length) r hr
    obtain ⟨tsA, eA, cA⟩ := ha.a (p + 1) (tl b ++ r) (hstop r)
    refine ⟨(⟨4, [44], 0, false⟩, p) :: (tsA ++ tsB), ⟨_, _, rfl, rfl, .inr (.inr rfl)⟩, ?_, ?_⟩
    · rw [show tl (.mk 3 ⟨#[46]⟩ 0 [a, b]) ++ r = 44 :: (tx a ++ (tl b ++ r)) by rw [ht]; simp, lex_mark (by simp), eA, eB, preL_pre, preL_pre]
      rw [ht, show p + 1 + (tx a).length + (tl b).length = p + (44 :: (tx a ++ tl b)).length by simp only [List.length_append, List.length_cons]; omega]
      simp
    · intro S hS z f g deep vs W u hf hg hde hW hpre
      rw [ht] at hS
      have hS1 := (AtS.cons hS).2
      simp only [List.length_cons, List.length_append] at hf hg
      obtain ⟨k, rfl⟩ : ∃ k, f = k + 1 := ⟨f - 1, by omega⟩
      obtain ⟨d1, d2⟩ := hdeep deep (by omega)
      rw [hvs] at hpre ⊢
      have r1 := cA S hS1.left k 999 (deep + 1) vs W (tsB ++ u) (by omega) d1 (Nat.le_refl _) hW ((vsT_pre b _).trans hpre) (dB.dull u)
      obtain ⟨l, rest, ns1, r2, r3⟩ := cB S hS1.right (a.ren (posOf W)) k g deep (vsT a vs) W u (by omega) (by omega) d2 hW hpre
      refine ⟨a.ren (posOf W) :: l, rest, ns1, ?_, ?_⟩
      · unfold rowC
        rw [List.cons_append, if_pos (by rw [see_mark rfl rfl]; decide), List.tail_cons, row_is, List.append_assoc, r1]
        dsimp only
        rw [r2]
      · rw [endC_cons, r3]
        dsimp only
        rw [hren]
theorem both_all : ∀ t : Tm, t.fair = true → nOk t = true → Both t := Tm.ind fun k s n l ih hf hn => by
  simp only [Tm.fair, Bool.and_eq_true] at hf
  obtain ⟨⟨hs, hl⟩, hal⟩ := hf
  rw [Tm.fairs_all, List.all_eq_true] at hl
  simp only [nOk, Bool.and_eq_true] at hn
  obtain ⟨hk, hnl⟩ := hn
  rw [nOks_all, List.all_eq_true] at hnl
  have IH : ∀ t ∈ l, Both t := fun t ht => ih t ht (hl t ht) (hnl t ht)
  unfold Tm.alone at hal
  by_cases h1 : k = 1
  · rw [if_pos h1] at hal
    simp only [Bool.and_eq_true, decide_eq_true_eq, beq_iff_eq] at hal
    obtain ⟨⟨⟨a1, a2⟩, a3⟩, a4⟩ := hal
    obtain rfl : l = [] := List.eq_nil_of_length_eq_zero (by omega)
    obtain rfl := size_nil a3
    subst h1
    exact tm_vrb a1 a2
  rw [if_neg h1] at hal
  by_cases h2 : k = 2
  · rw [if_pos h2] at hal
    simp only [Bool.and_eq_true, decide_eq_true_eq, beq_iff_eq] at hal
    obtain ⟨a3, a4⟩ := hal
    obtain rfl : l = [] := List.eq_nil_of_length_eq_zero (by omega)
    obtain rfl := size_nil a3
    subst h2
    simp only [bne_self_eq_false, Bool.false_or, Bool.and_eq_true, decide_eq_true_eq] at hk
    exact tm_nmb hk.1 hk.2
  rw [if_neg h2] at hal
  by_cases h3 : k = 3
  · rw [if_pos h3] at hal
    simp only [Bool.and_eq_true, decide_eq_true_eq] at hal
    obtain ⟨⟨⟨a1, a2⟩, a3⟩, a4⟩ := hal
    subst h3 a1
    have b1 : 1 ≤ (bsN s).length := by rw [bsN_length]; omega
    have b2 : (bsN s).length ≤ 20 := by rw [bsN_length]; omega
    cases l with
    | nil => exact tm_atm hs b1 b2
    | cons a q =>
      cases hd : dotO (bsN s) (wrs (a :: q)) with
      | none => exact tm_fnc hs b1 b2 (IH a (by simp)) (fun t ht => IH t (by simp [ht])) hd
      | some xy =>
        cases q with
        | nil => simp [wrs, dotO] at hd
        | cons b q =>
          cases q with
          | nil =>
            have h46 : bsN s = [46] := by
              simp only [wrs, dotO] at hd
              split at hd
              · assumption
              · cases hd
            obtain rfl : s = ⟨#[46]⟩ := by rw [← bsN_arr s, h46]
            exact tm_lst (IH a (by simp)) (IH b (by simp))
          | cons c q => simp [wrs, dotO] at hd
  · rw [if_neg h3] at hal
    cases hal
mutual
theorem vsT_nat : ∀ (t : Tm) (vs : List Int), t.fair = true → (∀ x ∈ vs, 0 ≤ x) → ∀ x ∈ vsT t vs, 0 ≤ x
  | .mk k s n l, vs, h, hv => by
    simp only [Tm.fair, Bool.and_eq_true] at h
    obtain ⟨⟨_, hl⟩, hal⟩ := h
    rw [vsT]
    refine vsL_nat l _ hl ?_
    split
    · rename_i hk
      intro x hx
      rcases List.mem_append.1 hx with hx | hx
      · exact hv x hx
      · rw [List.mem_singleton.1 hx]
        unfold Tm.alone at hal
        rw [if_pos hk.1] at hal
        simp only [Bool.and_eq_true, decide_eq_true_eq] at hal
        exact hal.1.1.1
    · exact hv
theorem vsL_nat : ∀ (l : List Tm) (vs : List Int), Tm.fairs l = true → (∀ x ∈ vs, 0 ≤ x) → ∀ x ∈ vsL l vs, 0 ≤ x
  | [], vs, _, hv => by rw [vsL]; exact hv
  | t :: r, vs, h, hv => by
    simp only [Tm.fairs, Bool.and_eq_true] at h
    rw [vsL]
    exact vsL_nat r _ h.2 (vsT_nat t vs h.1 hv)
end
end Go.Proofs.YtliapkajonbndaaGreatDoor

namespace Go.Proofs.YtliapkajonbndaaGreatDoor
open Go.RowKit

def shX (d : Nat) (x : Tk × Nat) : Tk × Nat := (x.1, x.2 + d)
def sh (d : Nat) (ts : Toks) : Toks := ts.map (shX d)
def shE (d : Nat) (e : Nat × Nat) : Nat × Nat := if e.1 = 9 then e else (e.1, e.2 + d)
def shR {α : Type} (d : Nat) : RRes α → RRes α
  | .error e => .error (shE d e)
  | .ok (a, ts, ns) => .ok (a, sh d ts, ns)
theorem sh_nil (d : Nat) : sh d [] = [] := rfl
theorem sh_cons (d : Nat) (x : Tk × Nat) (r : Toks) : sh d (x :: r) = shX d x :: sh d r := rfl
theorem sh_tail (d : Nat) (ts : Toks) : (sh d ts).tail = sh d ts.tail := by cases ts <;> rfl
theorem sh_see (d : Nat) (m : UInt8) (ts : Toks) : seeT m (sh d ts) = seeT m ts := by cases ts <;> rfl
theorem sh_beg (d : Nat) (ts : Toks) : begT (sh d ts) = begT ts := by cases ts <;> rfl
theorem sh_next (d : Nat) (ts : Toks) : nextN (sh d ts) = nextN ts := by cases ts <;> rfl
theorem sh_op (d now p : Nat) (ts : Toks) : opT now p (sh d ts) = opT now p ts := by cases ts <;> rfl
theorem sh_num (d p : Nat) (ts : Toks) : numAt (p + d + 1) (sh d ts) = numAt (p + 1) ts := by
  cases ts with
  | nil => rfl
  | cons x r =>
    show decide (x.1.kind = 3 ∧ x.2 + d = p + d + 1) = decide (x.1.kind = 3 ∧ x.2 = p + 1)
    congr 1
    simp only [eq_iff_iff]
    constructor <;> (rintro ⟨h1, h2⟩; exact ⟨h1, by omega⟩)
theorem sh_place {S S' : List UInt8} {d : Nat} (hl : S'.length = S.length + d) (ts : Toks) : placeT S' (sh d ts) = placeT S ts + d := by
  cases ts with
  | nil => exact hl
  | cons x r => rfl
theorem sh_need {S S' : List UInt8} {d : Nat} (hl : S'.length = S.length + d) (m : UInt8) (ts : Toks) : needT S' m (sh d ts) = (match needT S m ts with | .ok r => .ok (sh d r) | .error e => .error (shE d e)) := by
  unfold needT
  rw [sh_see, sh_tail, sh_place hl]
  by_cases h : seeT m ts = true
  · rw [if_pos h, if_pos h]
  · rw [if_neg h, if_neg h]
    rfl
theorem rd_shift {S S' : List UInt8} {d : Nat} (hl : S'.length = S.length + d) (hm : ∀ i, S'[i + d]? = S[i]?) : ∀ f : Nat,
    (∀ t now p deep ts ns, rdRest S' f t now p deep (sh d ts) ns = shR d (rdRest S f t now p deep ts ns)) ∧
    (∀ p deep ts ns, rdTerm S' f p deep (sh d ts) ns = shR d (rdTerm S f p deep ts ns)) ∧
    (∀ x p deep ts ns, rdName S' f (shX d x) p deep (sh d ts) ns = shR d (rdName S f x p deep ts ns)) ∧
    (∀ deep ts ns, rdRow S' f deep (sh d ts) ns = shR d (rdRow S f deep ts ns))
  | 0 => by
    refine ⟨?_, ?_, ?_, ?_⟩
    · intros; rw [rdRest, rdRest]; rfl
    · intros; rw [rdTerm, rdTerm]; rfl
    · intros; rw [rdName, rdName]; rfl
    · intros; rw [rdRow, rdRow]; rfl
  | f + 1 => by
    obtain ⟨ih1, ih2, ih3, ih4⟩ := rd_shift hl hm f
    refine ⟨?_, ?_, ?_, ?_⟩
    · intro t now p deep ts ns
      rw [rdRest.eq_def, rdRest.eq_def S]
      cases ts with
      | nil => rfl
      | cons x r =>
        rw [sh_cons]
        dsimp only
        rw [← sh_cons, sh_op]
        by_cases ho : opT now p (x :: r) = true
        · rw [if_pos ho, if_pos ho]
          rw [show (shX d x).1 = x.1 from rfl, ih2]
          cases rdTerm S f (infixP x.1.text).2.2 deep r ns with
          | error e => rfl
          | ok q =>
            obtain ⟨u, r1, n1⟩ := q
            exact ih1 _ _ _ _ _ _
        · rw [if_neg ho, if_neg ho]
          rfl
    · intro p deep ts ns
      rw [rdTerm.eq_def, rdTerm.eq_def S]
      dsimp only
      by_cases hd : 999 < deep
      · rw [if_pos hd, if_pos hd, sh_place hl]
        rfl
      rw [if_neg hd, if_neg hd]
      cases ts with
      | nil =>
        show Except.error (2, S'.length) = shR d (.error (2, S.length))
        rw [hl]
        rfl
      | cons x r =>
        rw [sh_cons]
        dsimp only
        rw [show (shX d x).1 = x.1 from rfl]
        by_cases k3 : x.1.kind = 3
        · rw [if_pos k3, if_pos k3, ih1]
        rw [if_neg k3, if_neg k3]
        by_cases k2 : x.1.kind = 2
        · rw [if_pos k2, if_pos k2, ih1]
        rw [if_neg k2, if_neg k2]
        by_cases k1 : x.1.kind = 1
        · rw [if_pos k1, if_pos k1, ih3]
          cases rdName S f x p deep r ns with
          | error e => rfl
          | ok q =>
            obtain ⟨⟨t, q⟩, r1, n1⟩ := q
            exact ih1 _ _ _ _ _ _
        rw [if_neg k1, if_neg k1, ← sh_cons, sh_see, sh_see]
        by_cases h4 : seeT 40 (x :: r) = true
        · rw [if_pos h4, if_pos h4, ih2]
          cases rdTerm S f 1200 (deep + 1) r ns with
          | error e => rfl
          | ok q =>
            obtain ⟨t, r1, n1⟩ := q
            dsimp only [shR]
            rw [sh_need hl]
            cases needT S 41 r1 with
            | error e => rfl
            | ok r2 => exact ih1 _ _ _ _ _ _
        rw [if_neg h4, if_neg h4]
        by_cases h9 : seeT 91 (x :: r) = true
        · rw [if_pos h9, if_pos h9, ih4]
          cases rdRow S f deep r ns with
          | error e => rfl
          | ok q =>
            obtain ⟨l, r1, n1⟩ := q
            dsimp only [shR]
            rw [sh_see, sh_tail]
            by_cases h5 : seeT 124 r1 = true
            · rw [if_pos h5, if_pos h5, ih2]
              cases rdTerm S f 999 (deep + 1) r1.tail n1 with
              | error e => rfl
              | ok q =>
                obtain ⟨t, r2, n2⟩ := q
                dsimp only [shR]
                rw [sh_need hl]
                cases needT S 93 r2 with
                | error e => rfl
                | ok r3 => exact ih1 _ _ _ _ _ _
            · rw [if_neg h5, if_neg h5, sh_need hl]
              cases needT S 93 r1 with
              | error e => rfl
              | ok r3 => exact ih1 _ _ _ _ _ _
        rw [if_neg h9, if_neg h9]
        rfl
    · intro x p deep ts ns
      rw [rdName, rdName]
      rw [show (shX d x).1 = x.1 from rfl, show (shX d x).2 = x.2 + d from rfl, hm, sh_num, sh_next, sh_tail, sh_beg]
      by_cases h1 : x.1.text = [45] ∧ S[x.2]? = some 45 ∧ numAt (x.2 + 1) ts = true
      · rw [if_pos h1, if_pos h1]
        rfl
      rw [if_neg h1, if_neg h1]
      by_cases h2 : x.1.opn = true
      · rw [if_pos h2, if_pos h2, sh_need hl]
        cases needT S 40 ts with
        | error e => rfl
        | ok r1 =>
          dsimp only
          rw [ih4]
          cases rdRow S f deep r1 ns with
          | error e => rfl
          | ok q =>
            obtain ⟨l, r2, n2⟩ := q
            dsimp only [shR]
            rw [sh_need hl]
            cases needT S 41 r2 <;> rfl
      rw [if_neg h2, if_neg h2]
      by_cases h3 : prefP x.1.text = 0 ∨ begT ts = false
      · rw [if_pos h3, if_pos h3]
        rfl
      rw [if_neg h3, if_neg h3]
      by_cases h4 : p < prefP x.1.text
      · rw [if_pos h4, if_pos h4]
        rfl
      rw [if_neg h4, if_neg h4, ih2]
      cases rdTerm S f (prefP x.1.text) (deep + 1) ts ns with
      | error e => rfl
      | ok q => obtain ⟨u, r1, n1⟩ := q; rfl
    · intro deep ts ns
      rw [rdRow, rdRow, ih2]
      cases rdTerm S f 999 (deep + 1) ts ns with
      | error e => rfl
      | ok q =>
        obtain ⟨t, r, n1⟩ := q
        dsimp only [shR]
        rw [sh_see, sh_tail]
        by_cases h : seeT 44 r = true
        · rw [if_pos h, if_pos h, ih4]
          cases rdRow S f deep r.tail n1 with
          | error e => rfl
          | ok q => obtain ⟨l, r2, n2⟩ := q; rfl
        · rw [if_neg h, if_neg h]
end Go.Proofs.YtliapkajonbndaaGreatDoor

namespace Go.Proofs.YtliapkajonbndaaGreatDoor
open Go.RowKit

def EndU (u : Toks) : Prop := ∃ y q, u = y :: q ∧ y.1.kind = 5
def DeadU (u : Toks) : Prop := ∃ y q, u = y :: q ∧ (y.1.kind = 5 ∨ (y.1.kind = 4 ∧ y.1.text = [41]))
theorem EndU.dead {u : Toks} (h : EndU u) : DeadU u := by
  obtain ⟨y, q, e, h⟩ := h
  exact ⟨y, q, e, .inl h⟩
theorem dead_see {u : Toks} (h : DeadU u) {m : UInt8} (hm : m ≠ 41) : seeT m u = false := by
  obtain ⟨y, q, rfl, h⟩ := h
  show decide (y.1.kind = 4 ∧ y.1.text = [m]) = false
  rw [decide_eq_false_iff_not]
  rintro ⟨h1, h2⟩
  rcases h with h | ⟨_, h⟩
  · omega
  · rw [h] at h2
    injection h2 with h2 _
    exact hm h2.symm
theorem end_see {u : Toks} (h : EndU u) (m : UInt8) : seeT m u = false := by
  obtain ⟨y, q, rfl, h⟩ := h
  show decide (y.1.kind = 4 ∧ y.1.text = [m]) = false
  rw [decide_eq_false_iff_not]
  rintro ⟨h1, h2⟩
  omega
theorem dead_op {u : Toks} (h : DeadU u) (now p : Nat) : opT now p u = false := by
  obtain ⟨y, q, rfl, h⟩ := h
  show decide _ = false
  rw [decide_eq_false_iff_not]
  rintro ⟨h1, _⟩
  rcases h with h | ⟨h, h2⟩
  · omega
  · rcases h1 with h1 | ⟨_, h1⟩
    · omega
    · rw [h2] at h1
      cases h1
theorem dead_beg {u : Toks} (h : DeadU u) : begT u = false := by
  obtain ⟨y, q, rfl, h⟩ := h
  show decide _ = false
  rw [decide_eq_false_iff_not]
  rintro (h1 | h1 | ⟨h1, _⟩ | ⟨_, h1⟩)
  · omega
  · omega
  · omega
  · rcases h with h | ⟨_, h⟩
    · omega
    · rw [h] at h1
      rcases h1 with h1 | h1 <;> cases h1
theorem dead_num {u : Toks} (h : DeadU u) (p : Nat) : numAt p u = false := by
  obtain ⟨y, q, rfl, h⟩ := h
  show decide _ = false
  rw [decide_eq_false_iff_not]
  rintro ⟨h1, _⟩
  omega
section
variable {u1 u2 : Toks} (h1 : EndU u1) (h2 : DeadU u2) (d : Nat)
include h1 h2
theorem app_see {m : UInt8} (hm : m ≠ 41) (ts : Toks) : seeT m (sh d ts ++ u2) = seeT m (ts ++ u1) := by
  cases ts with
  | nil => rw [sh_nil, List.nil_append, List.nil_append, dead_see h2 hm, end_see h1]
  | cons x r => rfl
theorem app_op (now p : Nat) (ts : Toks) : opT now p (sh d ts ++ u2) = opT now p (ts ++ u1) := by
  cases ts with
  | nil => rw [sh_nil, List.nil_append, List.nil_append, dead_op h2, dead_op h1.dead]
  | cons x r => rfl
theorem app_beg (ts : Toks) : begT (sh d ts ++ u2) = begT (ts ++ u1) := by
  cases ts with
  | nil => rw [sh_nil, List.nil_append, List.nil_append, dead_beg h2, dead_beg h1.dead]
  | cons x r => rfl
theorem app_num (p : Nat) (ts : Toks) : numAt (p + d + 1) (sh d ts ++ u2) = numAt (p + 1) (ts ++ u1) := by
  cases ts with
  | nil => rw [sh_nil, List.nil_append, List.nil_append, dead_num h2, dead_num h1.dead]
  | cons x r => exact sh_num d p (x :: r)
theorem app_need {S S' : List UInt8} {m : UInt8} {ts rr : Toks} (h : needT S m (ts ++ u1) = .ok rr) : ∃ x r, ts = x :: r ∧ rr = r ++ u1 ∧ needT S' m (sh d ts ++ u2) = .ok (sh d r ++ u2) := by
  have _h2 := h2
  unfold needT at h
  split at h
  · rename_i hs
    injection h with h
    cases ts with
    | nil => rw [List.nil_append, end_see h1] at hs; cases hs
    | cons x r =>
      refine ⟨x, r, rfl, h.symm, ?_⟩
      unfold needT
      rw [if_pos (show seeT m (sh d (x :: r) ++ u2) = true from hs)]
      rfl
  · cases h
omit h2 in
theorem app_cons {m : UInt8} {ts : Toks} (h : seeT m (ts ++ u1) = true) : ∃ x r, ts = x :: r := by
  cases ts with
  | nil => rw [List.nil_append, end_see h1] at h; cases h
  | cons x r => exact ⟨x, r, rfl⟩
end
theorem fuel_pos {f' k : Nat} (h : k + 1 ≤ f') : ∃ g, f' = g + 1 := ⟨f' - 1, by omega⟩
theorem rd_ok {S S' : List UInt8} {u1 u2 : Toks} (h1 : EndU u1) (h2 : DeadU u2) {d N : Nat} (hm : ∀ i, i < N → S'[i + d]? = S[i]?) : ∀ f : Nat,
    (∀ t now p deep ts ns v rs ns', rdRest S f t now p deep (ts ++ u1) ns = .ok (v, rs, ns') → (∀ x ∈ ts, x.2 < N) → ∀ f' deep', 4 * ts.length + 1 ≤ f' → (deep' = deep ∨ deep' + ts.length ≤ 1000) →
      ∃ r, rs = r ++ u1 ∧ (∃ w, ts = w ++ r) ∧ rdRest S' f' t now p deep' (sh d ts ++ u2) ns = .ok (v, sh d r ++ u2, ns')) ∧
    (∀ p deep ts ns v rs ns', rdTerm S f p deep (ts ++ u1) ns = .ok (v, rs, ns') → (∀ x ∈ ts, x.2 < N) → ∀ f' deep', 4 * ts.length + 3 ≤ f' → (deep' = deep ∨ deep' + ts.length ≤ 1000) →
      ∃ r, rs = r ++ u1 ∧ (∃ w, ts = w ++ r) ∧ r.length < ts.length ∧ rdTerm S' f' p deep' (sh d ts ++ u2) ns = .ok (v, sh d r ++ u2, ns')) ∧
    (∀ x p deep ts ns v rs ns', rdName S f x p deep (ts ++ u1) ns = .ok (v, rs, ns') → x.2 < N → (∀ x ∈ ts, x.2 < N) → ∀ f' deep', 4 * ts.length + 4 ≤ f' → (deep' = deep ∨ deep' + 1 + ts.length ≤ 1000) →
      ∃ r, rs = r ++ u1 ∧ (∃ w, ts = w ++ r) ∧ rdName S' f' (shX d x) p deep' (sh d ts ++ u2) ns = .ok (v, sh d r ++ u2, ns')) ∧
    (∀ deep ts ns v rs ns', rdRow S f deep (ts ++ u1) ns = .ok (v, rs, ns') → (∀ x ∈ ts, x.2 < N) → ∀ f' deep', 4 * ts.length + 4 ≤ f' → (deep' = deep ∨ deep' + 1 + ts.length ≤ 1000) →
      ∃ r, rs = r ++ u1 ∧ (∃ w, ts = w ++ r) ∧ r.length < ts.length ∧ rdRow S' f' deep' (sh d ts ++ u2) ns = .ok (v, sh d r ++ u2, ns'))
  | 0 => by
    refine ⟨?_, ?_, ?_, ?_⟩
    · intro t now p deep ts ns v rs ns' h; rw [rdRest] at h; cases h
    · intro p deep ts ns v rs ns' h; rw [rdTerm] at h; cases h
    · intro x p deep ts ns v rs ns' h; rw [rdName] at h; cases h
    · intro deep ts ns v rs ns' h; rw [rdRow] at h; cases h
  | f + 1 => by
    obtain ⟨ih1, ih2, ih3, ih4⟩ := rd_ok h1 h2 hm f
    have hu1 : ∀ t now p deep ns, rdRest S (f + 1) t now p deep u1 ns = .ok (t, u1, ns) := fun t now p deep ns => rest_end (dead_op h1.dead now p)
    have hu2 : ∀ g t now p deep ns, rdRest S' (g + 1) t now p deep u2 ns = .ok (t, u2, ns) := fun g t now p deep ns => rest_end (dead_op h2 now p)
    refine ⟨?_, ?_, ?_, ?_⟩
    · intro t now p deep ts ns v rs ns' h hN f' deep' hf hd
      obtain ⟨g, rfl⟩ := fuel_pos hf
      cases ts with
      | nil =>
        rw [List.nil_append, hu1] at h
        injection h with h; injection h with h3 h; injection h with h4 h5
        subst h3 h4 h5
        exact ⟨[], rfl, ⟨[], rfl⟩, by rw [sh_nil, List.nil_append]; exact hu2 _ _ _ _ _ _⟩
      | cons x r =>
        have hop := app_op h1 h2 d now p (x :: r)
        rw [sh_cons, List.cons_append] at hop ⊢
        rw [List.cons_append] at h hop
        rw [rdRest.eq_def] at h ⊢
        dsimp only at h ⊢
        rw [hop]
        by_cases ho : opT now p (x :: (r ++ u1)) = true
        · rw [if_pos ho] at h ⊢
          cases hr : rdTerm S f (infixP x.1.text).2.2 deep (r ++ u1) ns with
          | error e => rw [hr] at h; cases h
          | ok q =>
            obtain ⟨u, r1, n1⟩ := q
            rw [hr] at h
            dsimp only at h
            simp only [List.length_cons] at hf hd
            obtain ⟨r2, rfl, ⟨w, hw⟩, hlt, ht⟩ := ih2 _ _ _ _ _ _ _ hr (fun y hy => hN y (List.mem_cons_of_mem _ hy)) g deep' (by omega) (by omega)
            rw [show (shX d x).1 = x.1 from rfl, ht]
            obtain ⟨r3, rfl, ⟨w2, hw2⟩, ht2⟩ := ih1 _ _ _ _ _ _ _ _ _ h (fun y hy => hN y (List.mem_cons_of_mem _ (by rw [hw]; exact List.mem_append_right _ hy))) g deep' (by omega) (by omega)
            exact ⟨r3, rfl, ⟨x :: (w ++ w2), by rw [hw, hw2]; simp⟩, ht2⟩
        · rw [if_neg ho] at h ⊢
          injection h with h; injection h with h3 h; injection h with h4 h5
          subst h3 h4 h5
          exact ⟨x :: r, rfl, ⟨[], rfl⟩, rfl⟩
    · intro p deep ts ns v rs ns' h hN f' deep' hf hd
      obtain ⟨g, rfl⟩ := fuel_pos hf
      rw [rdTerm.eq_def] at h ⊢
      dsimp only at h ⊢
      by_cases hde : 999 < deep
      · rw [if_pos hde] at h; cases h
      rw [if_neg hde] at h
      cases ts with
      | nil =>
        obtain ⟨y, q, e, hk⟩ := h1
        rw [List.nil_append, e] at h
        dsimp only at h
        rw [if_neg (by omega), if_neg (by omega), if_neg (by omega), if_neg (by simp [seeT]; omega), if_neg (by simp [seeT]; omega)] at h
        cases h
      | cons x r =>
        simp only [List.length_cons] at hf hd
        have hNr : ∀ y ∈ r, y.2 < N := fun y hy => hN y (List.mem_cons_of_mem _ hy)
        have hxN := hN x (List.mem_cons_self ..)
        rw [if_neg (by omega)]
        have hs1 := app_see h1 h2 d (m := 40) (by decide) (x :: r)
        have hs2 := app_see h1 h2 d (m := 91) (by decide) (x :: r)
        rw [sh_cons, List.cons_append, List.cons_append] at hs1 hs2
        rw [sh_cons, List.cons_append]
        rw [List.cons_append] at h
        dsimp only at h ⊢
        rw [show (shX d x).1 = x.1 from rfl, hs1, hs2]
        have fin : ∀ (t : Tm) (now : Nat) (rr : Toks) (nn : Names), rdRest S f t now p deep (rr ++ u1) nn = .ok (v, rs, ns') → (∃ w, r = w ++ rr) → ∃ r', rs = r' ++ u1 ∧ (∃ w, x :: r = w ++ r') ∧ r'.length < (x :: r).length ∧ rdRest S' g t now p deep' (sh d rr ++ u2) nn = .ok (v, sh d r' ++ u2, ns') := fun t now rr nn hh ⟨w, hw⟩ => by
          have hlen : rr.length ≤ r.length := by rw [hw]; simp
          obtain ⟨r', e1, ⟨w2, hw2⟩, e3⟩ := ih1 _ _ _ _ _ _ _ _ _ hh (fun y hy => hNr y (by rw [hw]; exact List.mem_append_right _ hy)) g deep' (by omega) (by omega)
          have hlen2 : r'.length ≤ rr.length := by rw [hw2]; simp
          exact ⟨r', e1, ⟨x :: (w ++ w2), by rw [hw, hw2]; simp⟩, by simp only [List.length_cons]; omega, e3⟩
        by_cases k3 : x.1.kind = 3
        · rw [if_pos k3] at h ⊢
          exact fin _ _ r _ h ⟨[], rfl⟩
        rw [if_neg k3] at h ⊢
        by_cases k2 : x.1.kind = 2
        · rw [if_pos k2] at h ⊢
          exact fin _ _ r _ h ⟨[], rfl⟩
        rw [if_neg k2] at h ⊢
        by_cases k1 : x.1.kind = 1
        · rw [if_pos k1] at h ⊢
          cases hr : rdName S f x p deep (r ++ u1) ns with
          | error e => rw [hr] at h; cases h
          | ok q =>
            obtain ⟨⟨t, q⟩, r1, n1⟩ := q
            rw [hr] at h
            dsimp only at h
            obtain ⟨r2, rfl, hw, ht⟩ := ih3 _ _ _ _ _ _ _ _ hr hxN hNr g deep' (by omega) (by omega)
            rw [ht]
            exact fin _ _ r2 _ h hw
        rw [if_neg k1] at h ⊢
        by_cases h4 : seeT 40 (x :: (r ++ u1)) = true
        · rw [if_pos h4] at h ⊢
          cases hr : rdTerm S f 1200 (deep + 1) (r ++ u1) ns with
          | error e => rw [hr] at h; cases h
          | ok q =>
            obtain ⟨t, r1, n1⟩ := q
            rw [hr] at h
            dsimp only at h
            obtain ⟨r2, rfl, ⟨w, hw⟩, hlt, ht⟩ := ih2 _ _ _ _ _ _ _ hr hNr g (deep' + 1) (by omega) (by omega)
            rw [ht]
            dsimp only
            cases hn : needT S 41 (r2 ++ u1) with
            | error e => rw [hn] at h; cases h
            | ok r3 =>
              rw [hn] at h
              dsimp only at h
              obtain ⟨y, r4, rfl, rfl, hn2⟩ := app_need (S' := S') h1 h2 d hn
              rw [hn2]
              exact fin _ _ r4 _ h ⟨w ++ [y], by rw [hw]; simp⟩
        rw [if_neg h4] at h ⊢
        by_cases h9 : seeT 91 (x :: (r ++ u1)) = true
        · rw [if_pos h9] at h ⊢
          cases hr : rdRow S f deep (r ++ u1) ns with
          | error e => rw [hr] at h; cases h
          | ok q =>
            obtain ⟨l, r1, n1⟩ := q
            rw [hr] at h
            dsimp only at h
            obtain ⟨r2, rfl, ⟨w, hw⟩, hlt, ht⟩ := ih4 _ _ _ _ _ _ hr hNr g deep' (by omega) (by omega)
            rw [ht]
            dsimp only
            rw [app_see h1 h2 d (by decide) r2]
            by_cases h5 : seeT 124 (r2 ++ u1) = true
            · rw [if_pos h5] at h ⊢
              obtain ⟨y, r3, rfl⟩ := app_cons h1 h5
              rw [List.cons_append, List.tail_cons] at h
              rw [sh_cons, List.cons_append, List.tail_cons]
              simp only [List.length_cons] at hlt
              cases hr2 : rdTerm S f 999 (deep + 1) (r3 ++ u1) n1 with
              | error e => rw [hr2] at h; cases h
              | ok q =>
                obtain ⟨t, r4, n2⟩ := q
                rw [hr2] at h
                dsimp only at h
                obtain ⟨r5, rfl, ⟨w2, hw2⟩, hlt2, ht2⟩ := ih2 _ _ _ _ _ _ _ hr2 (fun z hz => hNr z (by rw [hw]; exact List.mem_append_right _ (List.mem_cons_of_mem _ hz))) g (deep' + 1) (by omega) (by omega)
                rw [ht2]
                dsimp only
                cases hn : needT S 93 (r5 ++ u1) with
                | error e => rw [hn] at h; cases h
                | ok r6 =>
                  rw [hn] at h
                  dsimp only at h
                  obtain ⟨y2, r7, rfl, rfl, hn2⟩ := app_need (S' := S') h1 h2 d hn
                  rw [hn2]
                  exact fin _ _ r7 _ h ⟨w ++ y :: (w2 ++ [y2]), by rw [hw, hw2]; simp⟩
            · rw [if_neg h5] at h ⊢
              cases hn : needT S 93 (r2 ++ u1) with
              | error e => rw [hn] at h; cases h
              | ok r6 =>
                rw [hn] at h
                dsimp only at h
                obtain ⟨y2, r7, rfl, rfl, hn2⟩ := app_need (S' := S') h1 h2 d hn
                rw [hn2]
                exact fin _ _ r7 _ h ⟨w ++ [y2], by rw [hw]; simp⟩
        rw [if_neg h9] at h
        cases h
    · intro x p deep ts ns v rs ns' h hx hN f' deep' hf hd
      obtain ⟨g, rfl⟩ := fuel_pos hf
      rw [rdName] at h ⊢
      rw [show (shX d x).1 = x.1 from rfl, show (shX d x).2 = x.2 + d from rfl, hm _ hx, app_num h1 h2 d x.2 ts, app_beg h1 h2 d ts]
      by_cases c1 : x.1.text = [45] ∧ S[x.2]? = some 45 ∧ numAt (x.2 + 1) (ts ++ u1) = true
      · rw [if_pos c1] at h ⊢
        cases ts with
        | nil => rw [List.nil_append, dead_num h1.dead] at c1; exact absurd c1.2.2 (by simp)
        | cons y r =>
          injection h with h; injection h with h3 h; injection h with h4 h5
          subst h3 h4 h5
          exact ⟨r, rfl, ⟨[y], rfl⟩, rfl⟩
      rw [if_neg c1] at h ⊢
      by_cases c2 : x.1.opn = true
      · rw [if_pos c2] at h ⊢
        cases hn : needT S 40 (ts ++ u1) with
        | error e => rw [hn] at h; cases h
        | ok r1 =>
          rw [hn] at h
          dsimp only at h
          obtain ⟨y, r2, rfl, rfl, hn2⟩ := app_need (S' := S') h1 h2 d hn
          rw [hn2]
          dsimp only
          simp only [List.length_cons] at hf hd
          cases hr : rdRow S f deep (r2 ++ u1) ns with
          | error e => rw [hr] at h; cases h
          | ok q =>
            obtain ⟨l, r3, n1⟩ := q
            rw [hr] at h
            dsimp only at h
            obtain ⟨r4, rfl, ⟨w, hw⟩, hlt, ht⟩ := ih4 _ _ _ _ _ _ hr (fun z hz => hN z (List.mem_cons_of_mem _ hz)) g deep' (by omega) (by omega)
            rw [ht]
            dsimp only
            cases hn3 : needT S 41 (r4 ++ u1) with
            | error e => rw [hn3] at h; cases h
            | ok r5 =>
              rw [hn3] at h
              dsimp only at h
              obtain ⟨y2, r6, rfl, rfl, hn4⟩ := app_need (S' := S') h1 h2 d hn3
              rw [hn4]
              injection h with h; injection h with h3 h; injection h with h4 h5
              subst h3 h4 h5
              exact ⟨r6, rfl, ⟨y :: (w ++ [y2]), by rw [hw]; simp⟩, rfl⟩
      rw [if_neg c2] at h ⊢
      by_cases c3 : prefP x.1.text = 0 ∨ begT (ts ++ u1) = false
      · rw [if_pos c3] at h ⊢
        injection h with h; injection h with h3 h; injection h with h4 h5
        subst h3 h4 h5
        exact ⟨ts, rfl, ⟨[], rfl⟩, rfl⟩
      rw [if_neg c3] at h ⊢
      by_cases c4 : p < prefP x.1.text
      · rw [if_pos c4] at h; cases h
      rw [if_neg c4] at h ⊢
      cases hr : rdTerm S f (prefP x.1.text) (deep + 1) (ts ++ u1) ns with
      | error e => rw [hr] at h; cases h
      | ok q =>
        obtain ⟨u, r1, n1⟩ := q
        rw [hr] at h
        obtain ⟨r2, rfl, hw, hlt, ht⟩ := ih2 _ _ _ _ _ _ _ hr hN g (deep' + 1) (by omega) (by omega)
        rw [ht]
        injection h with h; injection h with h3 h; injection h with h4 h5
        subst h3 h4 h5
        exact ⟨r2, rfl, hw, rfl⟩
    · intro deep ts ns v rs ns' h hN f' deep' hf hd
      obtain ⟨g, rfl⟩ := fuel_pos hf
      rw [rdRow] at h ⊢
      cases hr : rdTerm S f 999 (deep + 1) (ts ++ u1) ns with
      | error e => rw [hr] at h; cases h
      | ok q =>
        obtain ⟨t, r1, n1⟩ := q
        rw [hr] at h
        dsimp only at h
        obtain ⟨r2, rfl, ⟨w, hw⟩, hlt, ht⟩ := ih2 _ _ _ _ _ _ _ hr hN g (deep' + 1) (by omega) (by omega)
        rw [ht]
        dsimp only
        rw [app_see h1 h2 d (by decide) r2]
        by_cases hs : seeT 44 (r2 ++ u1) = true
        · rw [if_pos hs] at h ⊢
          obtain ⟨y, r3, rfl⟩ := app_cons h1 hs
          rw [List.cons_append, List.tail_cons] at h
          rw [sh_cons, List.cons_append, List.tail_cons]
          cases hr2 : rdRow S f deep (r3 ++ u1) n1 with
          | error e => rw [hr2] at h; cases h
          | ok q =>
            obtain ⟨l, r4, n2⟩ := q
            rw [hr2] at h
            injection h with h; injection h with h3 h; injection h with h4 h5
            subst h3 h4 h5
            simp only [List.length_cons] at hlt
            obtain ⟨r5, rfl, ⟨w2, hw2⟩, hlt2, ht2⟩ := ih4 _ _ _ _ _ _ hr2 (fun z hz => hN z (by rw [hw]; exact List.mem_append_right _ (List.mem_cons_of_mem _ hz))) g deep' (by omega) (by omega)
            rw [ht2]
            exact ⟨r5, rfl, ⟨w ++ y :: w2, by rw [hw, hw2]; simp⟩, by omega, rfl⟩
        · rw [if_neg hs] at h ⊢
          injection h with h; injection h with h3 h; injection h with h4 h5
          subst h3 h4 h5
          exact ⟨r2, rfl, ⟨w, hw⟩, hlt, rfl⟩
end Go.Proofs.YtliapkajonbndaaGreatDoor

namespace Go.Proofs.YtliapkajonbndaaGreatDoor
open Go.RowKit

def LexPost (w : World) (s : ByteArray) (e : Ending) (w' : World) : Prop :=
  Below w.heap.size w w' ∧ ∃ (l : List (Tk × Nat)) (sv : Value) (b c : Nat), e = .returned (.tuple #[sv, .int .i64 (b : Nat), .int .i64 (c : Nat)]) ∧ toksIn w' w'.heap.size l sv ∧ l.length ≤ s.size ∧ b ≤ s.size ∧
    ((8000 < s.size ∧ l = [] ∧ b = 0 ∧ c = 3) ∨ (s.size ≤ 8000 ∧ lexL false 0 (bs s) = .inl b ∧ l = [] ∧ c = 2) ∨ (s.size ≤ 8000 ∧ lexL false 0 (bs s) = .inr l ∧ b = 0 ∧ c = 0))
def LexSays : Prop := ∀ (s : ByteArray) (w : World), Rng w → s.size ≤ 1000000 → Calls Tryz.prog 34 #[.string s] w fun e w' => LexPost w s e w'
theorem lex_bad_at : ∀ (n : Nat) (l : List UInt8) (cm : Bool) (at' b : Nat), l.length ≤ n → lexL cm at' l = .inl b → at' ≤ b ∧ b < at' + l.length
  | _, [], cm, at', b, _, h => by rw [lexL_nil] at h; cases h
  | 0, _ :: _, _, _, _, hn, _ => by simp at hn
  | n + 1, c :: r, cm, at', b, hn, h => by
    simp only [List.length_cons] at hn ⊢
    by_cases h1 : cm = true ∨ c = 37
    · rw [lexL_skip h1] at h
      have := lex_bad_at n r _ _ b (by omega) h
      omega
    by_cases h5 : srt c = 5
    · rw [lexL_gap h1 h5] at h
      have := lex_bad_at n r _ _ b (by omega) h
      omega
    cases ho : oneL (c :: r) with
    | none =>
      rw [lexL_bad h1 h5 ho] at h
      injection h with h
      omega
    | some x =>
      obtain ⟨t, k⟩ := x
      have hk := (one_join [] ho).2
      simp only [List.length_cons] at hk
      rw [lexL_tok h1 h5 ho] at h
      cases hq : lexL false (at' + k) (r.drop (k - 1)) with
      | inl b' =>
        rw [hq] at h
        injection h with h
        subst h
        have := lex_bad_at n _ _ _ b' (by simp; omega) hq
        simp only [List.length_drop] at this
        omega
      | inr q => rw [hq] at h; cases h
/-- What Tokens answers. -/
def Res (s : ByteArray) (l : List (Tk × Nat)) (b c : Nat) : Prop := (8000 < s.size ∧ l = [] ∧ b = 0 ∧ c = 3) ∨ (s.size ≤ 8000 ∧ lexL false 0 (bs s) = .inl b ∧ l = [] ∧ c = 2) ∨ (s.size ≤ 8000 ∧ lexL false 0 (bs s) = .inr l ∧ b = 0 ∧ c = 0)
theorem res_fun {s : ByteArray} {l l' : List (Tk × Nat)} {b c b' c' : Nat} (h : Res s l b c) (h' : Res s l' b' c') : l = l' ∧ b = b' ∧ c = c' := by
  rcases h with ⟨h1, rfl, rfl, rfl⟩ | ⟨h1, h2, rfl, rfl⟩ | ⟨h1, h2, rfl, rfl⟩
  · rcases h' with ⟨h3, rfl, rfl, rfl⟩ | ⟨h3, h4, rfl, rfl⟩ | ⟨h3, h4, rfl, rfl⟩
    · exact ⟨rfl, rfl, rfl⟩
    · omega
    · omega
  · rcases h' with ⟨h3, rfl, rfl, rfl⟩ | ⟨h3, h4, rfl, rfl⟩ | ⟨h3, h4, rfl, rfl⟩
    · omega
    · rw [h2] at h4; injection h4 with h4; exact ⟨rfl, h4, rfl⟩
    · rw [h2] at h4; cases h4
  · rcases h' with ⟨h3, rfl, rfl, rfl⟩ | ⟨h3, h4, rfl, rfl⟩ | ⟨h3, h4, rfl, rfl⟩
    · omega
    · rw [h2] at h4; cases h4
    · rw [h2] at h4; injection h4 with h4; exact ⟨h4, rfl, rfl⟩
theorem res_at {s : ByteArray} {l : List (Tk × Nat)} {b c : Nat} (h : Res s l b c) : (∀ x ∈ l, x.2 ≤ s.size) ∧ b ≤ s.size ∧ c ≤ 3 := by
  rcases h with ⟨_, rfl, rfl, rfl⟩ | ⟨_, h, rfl, rfl⟩ | ⟨_, h, rfl, rfl⟩
  · exact ⟨(fun x hx => by cases hx), by omega, by omega⟩
  · have := lex_bad_at _ _ _ _ _ (Nat.le_refl _) h
    rw [bs_length] at this
    exact ⟨(fun x hx => by cases hx), by omega, by omega⟩
  · have h1 := (lex_stand _ _ _ _ _ (Nat.le_refl _) h).1
    refine ⟨fun x hx => ?_, by omega, by omega⟩
    have h2 := (h1 x hx).hi
    rw [bs_length] at h2
    omega
def AllPost (w : World) (s : ByteArray) (e : Ending) (w' : World) : Prop :=
  Below w.heap.size w w' ∧ ∃ (l : List (Tk × Nat)) (g : Option Addr) (cap b c : Nat), e = .returned (.tuple #[.slice g l.length cap, .int .i64 (b : Nat), .int .i64 (c : Nat)]) ∧ toksIn w' w'.heap.size l (.slice g l.length cap) ∧ l.length ≤ s.size ∧ Res s l b c
theorem lex_says (HL : LexSays) (s : ByteArray) (w : World) (hr : Rng w) (hs : s.size ≤ 1000000) : Calls Tryz.prog 34 #[.string s] w fun e w' => AllPost w s e w' :=
  (HL s w hr hs).mono fun e w' h => by
    obtain ⟨hb, l, sv, b, c, rfl, ht, hl, _, h⟩ := h
    obtain ⟨g, cap, rfl, _⟩ := id ht
    exact ⟨hb, l, g, cap, b, c, rfl, ht, hl, h⟩
theorem lex_ok (HL : LexSays) (s : ByteArray) (w : World) (hr0 : Rng w) (hs : s.size ≤ 8000) {l : List (Tk × Nat)} (h : lexL false 0 (bs s) = .inr l) : Calls Tryz.prog 34 #[.string s] w fun e w' => Below w.heap.size w w' ∧ ∃ g cap, e = .returned (.tuple #[.slice g l.length cap, .int .i64 0, .int .i64 0]) ∧ toksIn w' w'.heap.size l (.slice g l.length cap) :=
  (lex_says HL s w hr0 (by omega)).mono fun e w' h' => by
    obtain ⟨hb, l', g, cap, b, c, rfl, ht, _, hr⟩ := h'
    obtain ⟨rfl, rfl, rfl⟩ := res_fun (.inr (.inr ⟨hs, h, rfl, rfl⟩)) hr
    exact ⟨hb, g, cap, rfl, ht⟩
theorem lex_no (HL : LexSays) (s : ByteArray) (w : World) (hr0 : Rng w) (hs : s.size ≤ 8000) {b : Nat} (h : lexL false 0 (bs s) = .inl b) : Calls Tryz.prog 34 #[.string s] w fun e w' => Below w.heap.size w w' ∧ ∃ g cap, e = .returned (.tuple #[.slice g 0 cap, .int .i64 (b : Nat), .int .i64 2]) :=
  (lex_says HL s w hr0 (by omega)).mono fun e w' h' => by
    obtain ⟨hb, l', g, cap, b', c, rfl, ht, _, hr⟩ := h'
    obtain ⟨rfl, rfl, rfl⟩ := res_fun (.inr (.inl ⟨hs, h, rfl, rfl⟩)) hr
    exact ⟨hb, g, cap, rfl⟩
theorem lex_any (HL : LexSays) (s : ByteArray) (w : World) (hr0 : Rng w) (hs : s.size ≤ 8000) : Calls Tryz.prog 34 #[.string s] w fun e w' => Below w.heap.size w w' ∧ ∃ g n cap b c, e = .returned (.tuple #[.slice g n cap, .int .i64 b, .int .i64 c]) :=
  (lex_says HL s w hr0 (by omega)).mono fun e w' h' => by
    obtain ⟨hb, l', g, cap, b', c, rfl, ht, _, hr⟩ := h'
    exact ⟨hb, g, _, cap, _, _, rfl⟩
theorem join_lex (a b : ByteArray) {la : List (Tk × Nat)} (h : lexL false 0 (bs a) = .inr la) : lexL false 0 (bs (a ++ ⟨#[10]⟩ ++ b)) = preL la (shL (a.size + 1) (lexL false 0 (bs b))) := by
  have e : bs (a ++ ⟨#[10]⟩ ++ b) = bs a ++ 10 :: bs b := by rw [bs_append, bs_append]; simp [bs]
  rw [e, lex_join (bs b) _ (bs a) false 0 la (Nat.le_refl _) h, bs_length]
  have := lex_shift (a.size + 1) _ (bs b) false 0 (Nat.le_refl _)
  rw [Nat.zero_add] at this
  rw [Nat.zero_add, this]
theorem lex_len : ∀ (n : Nat) (l : List UInt8) (cm : Bool) (at' : Nat) (ts : List (Tk × Nat)), l.length ≤ n → lexL cm at' l = .inr ts → ts.length ≤ l.length
  | _, [], cm, at', ts, _, h => by
    rw [lexL_nil] at h
    injection h with h
    subst h
    exact Nat.le_refl _
  | 0, _ :: _, _, _, _, hn, _ => by simp at hn
  | n + 1, c :: r, cm, at', ts, hn, h => by
    simp only [List.length_cons] at hn ⊢
    by_cases h1 : cm = true ∨ c = 37
    · rw [lexL_skip h1] at h
      have := lex_len n r _ _ ts (by omega) h
      omega
    by_cases h5 : srt c = 5
    · rw [lexL_gap h1 h5] at h
      have := lex_len n r _ _ ts (by omega) h
      omega
    cases ho : oneL (c :: r) with
    | none => rw [lexL_bad h1 h5 ho] at h; cases h
    | some x =>
      obtain ⟨t, k⟩ := x
      rw [lexL_tok h1 h5 ho] at h
      obtain ⟨q, h2, rfl⟩ := preL_inr h
      have := lex_len n _ _ _ q (by simp; omega) h2
      simp only [List.length_drop] at this
      simp only [List.length_append, List.length_cons, List.length_nil]
      omega
theorem join_size (a b : ByteArray) (h1 : a.size ≤ 3000) (h2 : b.size ≤ 3000) : (a ++ ⟨#[10]⟩ ++ b).size ≤ 8000 := by
  rw [ByteArray.size_append, ByteArray.size_append]
  have : (⟨#[10]⟩ : ByteArray).size = 1 := rfl
  omega
end Go.Proofs.YtliapkajonbndaaGreatDoor
