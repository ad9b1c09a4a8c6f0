/-
  The two Clauses, whatever text; the program's One.
  Where errors are told, how much is read.
  Brackets around a clause, purely.
  A term's text, with a space and a point behind, is read as the term, numbered: purely.
-/
import Derived.Test.YtliapkajonbndaaGreatDoorG29
import Derived.Test.YtliapkajonbndaaGreatDoorPrW
import Derived.Test.YtliapkajonbndaaGreatDoorG28
namespace Go.Proofs.YtliapkajonbndaaGreatDoor
open Go.RowKit

theorem clauses_all (s : ByteArray) (w : World) (hr : Rng w) (hs : s.size ≤ 1000000) : Calls Tryz.prog 19 #[.string s] w fun e w' => ClsPost w (bs s) e w' :=
  clauses_p s w hr hs (fun _ h h2 => good_of h h2)
/-- The only clause of a text. -/
def oneE (S : List UInt8) : Except (Nat × Nat) Cl :=
  match readE S with
  | .error e => .error e
  | .ok [c] => .ok c
  | .ok _ => .error (2, S.length)
def OnlyPost (w : World) (S : List UInt8) (e : Ending) (w' : World) : Prop :=
  Below w.heap.size w w' ∧ ∃ k nm n g m c gn mn cn b cd, e = .returned (.tuple #[.agg #[.int .i64 k, .string nm, .int .i64 n, .slice g m c, .slice gn mn cn], .int .i64 (b : Nat), .int .i64 (cd : Nat)]) ∧
    (match oneE S with
      | .error (q, pl) => (q = 2 ∨ q = 3) ∧ cd = q ∧ b = pl ∧ k = 0 ∧ nm = ⟨#[]⟩ ∧ n = 0 ∧ g = none ∧ m = 0 ∧ c = 0 ∧ gn = none ∧ mn = 0 ∧ cn = 0
      | .ok (t, ns) => cd = 0 ∧ b = 0 ∧ k = t.kind ∧ nm = t.name ∧ n = t.n ∧ Tm.inn w' w'.heap.size t (.slice g m c) ∧ namesP w' (fun x => x < w'.heap.size) ns (.slice gn mn cn))
set_option maxRecDepth 100000 in
set_option maxHeartbeats 8000000 in
theorem one_p (s : ByteArray) (w : World) (hr : Rng w) (hs : s.size ≤ 1000000) : Calls Tryz.prog 8 #[.string s] w fun e w' => OnlyPost w (bs s) e w' := by
  have hbs := bs_length s
  have HC := fun w1 (hr1 : Rng w1) => Lib.hid (clauses_all s w1 hr1 hs)
  have HR := Lib.hid hr
  clear hr
  go_enter Tryz.func8, Tryz.ntmps8
  go_upto_region 1 with fail
  have hb0 : Below w.heap.size w (w.alloc (.cells #[.int .i64 0, .string ⟨#[]⟩, .int .i64 0, .slice none 0 0, .slice none 0 0] 33)) := (Below.refl _ _).alloc (Nat.le_refl _) _
  have HZ := Lib.hid (newBlk w (.cells #[.int .i64 0, .string ⟨#[]⟩, .int .i64 0, .slice none 0 0, .slice none 0 0] 33) w.heap.size rfl)
  have hzl : w.heap.size < (w.alloc (.cells #[.int .i64 0, .string ⟨#[]⟩, .int .i64 0, .slice none 0 0, .slice none 0 0] 33)).heap.size := by simp
  have HR1 := Lib.hid (HR.out.next hb0)
  obtain ⟨w1, hw1⟩ : ∃ w1, w.alloc (.cells #[.int .i64 0, .string ⟨#[]⟩, .int .i64 0, .slice none 0 0, .slice none 0 0] 33) = w1 := ⟨_, rfl⟩
  rw [hw1] at hb0 HZ hzl HR1 ⊢
  clear hw1
  have HB0 := Lib.hid hb0
  have HC1 := HC w1 HR1.out
  clear hb0 HC
  go_upto_region 2 with (go_at_call 19; (with_reducible refine (HC1.out).mono ?_); rintro e w2 ⟨hb, l, sv, b, cd, rfl, hl, hcd3, hp⟩; have HB2 := Lib.hid (HB0.out.trans (hb.mono HB0.out.size)); have HZ2 := Lib.hid ((hb.block _ hzl).trans HZ.out); have hz2 : w.heap.size < w2.heap.size := Nat.lt_of_lt_of_le hzl hb.size; have HL := Lib.hid hl; have HP := Lib.hid hp; clear hb hl hp)
  obtain ⟨⟨a0, a1, a2, a3, a4⟩, af0, af1, af2, af3, af4⟩ := row5f HZ2.out
  cases hrd : readE (bs s) with
  | error q =>
    obtain ⟨k9, pl⟩ := q
    have h0 := HP.out
    rw [hrd] at h0
    obtain ⟨h1, h2, h3, h4⟩ := h0
    subst h2 h3
    have hone : oneE (bs s) = .error (cd, b) := by unfold oneE; rw [hrd]
    have kd : ((cd : Int) == 0) = false := by rw [beq_eq_false_iff_ne]; omega
    have kd2 : ((cd : Int) != 0) = true := by simp [bne, kd]
    have HO := Lib.hid hone
    clear hrd h4 hone
    go_wp2_with fail
    have hz := set5_blk HZ2.out 0 ⟨#[]⟩ 0 (.slice none 0 0) (.slice none 0 0)
    have hf := FrP.put5 w2 w.heap.size 0 ⟨#[]⟩ 0 (.slice none 0 0) (.slice none 0 0)
    change bodyPost _ _ _ _ _ (set5 w2 w.heap.size 0 ⟨#[]⟩ 0 (.slice none 0 0) (.slice none 0 0))
    obtain ⟨V', hV'⟩ : ∃ V', set5 w2 w.heap.size 0 ⟨#[]⟩ 0 (.slice none 0 0) (.slice none 0 0) = V' := ⟨_, rfl⟩
    rw [hV'] at hz hf ⊢
    obtain ⟨⟨z0, z1, z2, z3, z4⟩, -⟩ := row5f hz
    clear hV' hz a0 a1 a2 a3 a4 af0 af1 af2 af3 af4
    refine bodyPost_ret (v := .tuple #[.agg #[.int .i64 0, .string ⟨#[]⟩, .int .i64 0, .slice none 0 0, .slice none 0 0], .int .i64 (b : Nat), .int .i64 (cd : Nat)]) (by simp [results, Tryz.results8, go_sem, z0, z1, z2, z3, z4]) rfl ?_
    exact ⟨HB2.out.trans ((hf.mono (Q := fun x => w.heap.size ≤ x) (fun x _ e => by omega)).to_below HB2.out.size), 0, ⟨#[]⟩, 0, none, 0, 0, none, 0, 0, b, cd, rfl, by rw [HO.out]; exact ⟨h1, rfl, rfl, rfl, rfl, rfl, rfl, rfl, rfl, rfl, rfl, rfl⟩⟩
  | ok l' =>
    have h0 := HP.out
    rw [hrd] at h0
    obtain ⟨h1, h2, h3⟩ := h0
    subst h1 h2 h3
    obtain ⟨g9, cap9, hsv, hrow⟩ := HL.out
    subst hsv
    by_cases h1 : l.length = 1
    · obtain ⟨⟨t, ns⟩, rfl⟩ : ∃ c, l = [c] := List.length_eq_one_iff.1 h1
      have hone : oneE (bs s) = .ok (t, ns) := by unfold oneE; rw [hrd]
      rcases hrow with h | ⟨rbk, off, xs, rfl, hlo, hrb, hcl, hce⟩
      · cases h
      obtain ⟨sv, nv, ys, rfl, hin, hnm, hys⟩ := hcl
      have hys : ys = [] := hys
      subst hys
      obtain ⟨g, m, c, hsv⟩ : ∃ g m c, sv = .slice g m c := by
        have := Tm.inn_of_P (B := w2.heap.size) (fun b hb => hb.2) t sv hin
        obtain ⟨_, g, cap, e, _⟩ := Tm.inn_iff.1 this
        exact ⟨_, _, _, e⟩
      subst hsv
      obtain ⟨gn, cn, hnv, -⟩ := id hnm
      subst hnv
      have c0 := hce 0 _ rfl
      have c1 := hce 1 _ rfl
      have c2 := hce 2 _ rfl
      have c3 := hce 3 _ rfl
      have c4 := hce 4 _ rfl
      rw [Nat.add_zero] at c0
      have HIN := Lib.hid hin
      have HNM := Lib.hid hnm
      have HO := Lib.hid hone
      clear hrd hce hin hnm hone h1
      go_wp2_with fail
      have hz := set5_blk HZ2.out t.kind t.name t.n (.slice g m c) (.slice gn ns.length cn)
      have hf := FrP.put5 w2 w.heap.size t.kind t.name t.n (.slice g m c) (.slice gn ns.length cn)
      change bodyPost _ _ _ _ _ (set5 w2 w.heap.size t.kind t.name t.n (.slice g m c) (.slice gn ns.length cn))
      obtain ⟨V', hV'⟩ : ∃ V', set5 w2 w.heap.size t.kind t.name t.n (.slice g m c) (.slice gn ns.length cn) = V' := ⟨_, rfl⟩
      rw [hV'] at hz hf ⊢
      obtain ⟨⟨z0, z1, z2, z3, z4⟩, -⟩ := row5f hz
      have hcell : ∀ b o u, (w1.heap.size ≤ b ∧ b < w2.heap.size) → w2.cell? ⟨b, o, none⟩ = some u → V'.cell? ⟨b, o, none⟩ = some u := fun b o u hb hu => hf.cell hu (by omega)
      have hin' := Tm.innP_same (ok' := fun b => b < V'.heap.size) (fun b hb => Nat.lt_of_lt_of_le hb.2 hf.size) hcell t _ HIN.out
      have hnm' := namesP_same (ok' := fun b => b < V'.heap.size) (fun b hb => Nat.lt_of_lt_of_le hb.2 hf.size) hcell HNM.out
      have HF : Hid (OnlyPost w (bs s) (.returned (.tuple #[.agg #[.int .i64 t.kind, .string t.name, .int .i64 t.n, .slice g m c, .slice gn ns.length cn], .int .i64 (0 : Nat), .int .i64 (0 : Nat)])) V') := Lib.hid ⟨HB2.out.trans ((hf.mono (Q := fun x => w.heap.size ≤ x) (fun x _ e => by omega)).to_below HB2.out.size), t.kind, t.name, t.n, g, m, c, gn, ns.length, cn, 0, 0, rfl, by rw [HO.out]; exact ⟨rfl, rfl, rfl, rfl, rfl, Tm.inn_of_P (fun b hb => hb) t _ hin', hnm'⟩⟩
      clear hV' hz hf hcell hin' hnm' a0 a1 a2 a3 a4 af0 af1 af2 af3 af4 c0 c1 c2 c3 c4
      refine bodyPost_ret (v := .tuple #[.agg #[.int .i64 t.kind, .string t.name, .int .i64 t.n, .slice g m c, .slice gn ns.length cn], .int .i64 0, .int .i64 0]) (by simp [results, Tryz.results8, go_sem, z0, z1, z2, z3, z4]) rfl ?_
      exact HF.out
    · have hone : oneE (bs s) = .error (2, s.size) := by
        unfold oneE
        rw [hrd, ← hbs]
        cases l with
        | nil => rfl
        | cons x r =>
          cases r with
          | nil => exact absurd rfl h1
          | cons y q => rfl
      have HO := Lib.hid hone
      have k1 : ((l.length : Int) == 1) = false := by rw [beq_eq_false_iff_ne]; omega
      have k2 : ((l.length : Int) != 1) = true := by simp [bne, k1]
      clear hrd hone hrow h1
      go_wp2_with fail
      have hz := set5_blk HZ2.out 0 ⟨#[]⟩ 0 (.slice none 0 0) (.slice none 0 0)
      have hf := FrP.put5 w2 w.heap.size 0 ⟨#[]⟩ 0 (.slice none 0 0) (.slice none 0 0)
      change bodyPost _ _ _ _ _ (set5 w2 w.heap.size 0 ⟨#[]⟩ 0 (.slice none 0 0) (.slice none 0 0))
      obtain ⟨V', hV'⟩ : ∃ V', set5 w2 w.heap.size 0 ⟨#[]⟩ 0 (.slice none 0 0) (.slice none 0 0) = V' := ⟨_, rfl⟩
      rw [hV'] at hz hf ⊢
      obtain ⟨⟨z0, z1, z2, z3, z4⟩, -⟩ := row5f hz
      clear hV' hz a0 a1 a2 a3 a4 af0 af1 af2 af3 af4
      refine bodyPost_ret (v := .tuple #[.agg #[.int .i64 0, .string ⟨#[]⟩, .int .i64 0, .slice none 0 0, .slice none 0 0], .int .i64 (s.size : Nat), .int .i64 (2 : Nat)]) (by simp [results, Tryz.results8, go_sem, z0, z1, z2, z3, z4]) rfl ?_
      exact ⟨HB2.out.trans ((hf.mono (Q := fun x => w.heap.size ≤ x) (fun x _ e => by omega)).to_below HB2.out.size), 0, ⟨#[]⟩, 0, none, 0, 0, none, 0, 0, s.size, 2, rfl, by rw [HO.out]; exact ⟨.inl rfl, rfl, rfl, rfl, rfl, rfl, rfl, rfl, rfl, rfl, rfl, rfl⟩⟩
end Go.Proofs.YtliapkajonbndaaGreatDoor

namespace Go.Proofs.YtliapkajonbndaaGreatDoor
open Go.RowKit

theorem place_le {S : List UInt8} {ts : Toks} (h : ∀ x ∈ ts, x.2 ≤ S.length) : placeT S ts ≤ S.length := by
  cases ts with
  | nil => exact Nat.le_refl _
  | cons x r => exact h x (List.mem_cons_self ..)
theorem need_badT {S : List UInt8} {m : UInt8} {ts : Toks} {e : Nat × Nat} (h : needT S m ts = .error e) (hts : ∀ x ∈ ts, x.2 ≤ S.length) : e.2 ≤ S.length := by
  unfold needT at h
  split at h
  · cases h
  · injection h with h
    subst h
    exact place_le hts
theorem suf_le {S : List UInt8} {ts r : Toks} (h : ∃ u, ts = u ++ r) (hts : ∀ x ∈ ts, x.2 ≤ S.length) : ∀ x ∈ r, x.2 ≤ S.length := fun x hx => by
  obtain ⟨u, rfl⟩ := h
  exact hts x (List.mem_append_right _ hx)
theorem need_suf {S : List UInt8} {m : UInt8} {ts r : Toks} (h : needT S m ts = .ok r) : ∃ u, ts = u ++ r := by
  obtain ⟨x, rfl, _⟩ := needT_ok h
  exact ⟨[x], rfl⟩
theorem tail_suf (ts : Toks) : ∃ u, ts = u ++ ts.tail := by
  cases ts with
  | nil => exact ⟨[], rfl⟩
  | cons x r => exact ⟨[x], rfl⟩
theorem rd_bad (S : List UInt8) : ∀ f : Nat,
    (∀ t now p deep ts ns e, rdRest S f t now p deep ts ns = .error e → (∀ x ∈ ts, x.2 ≤ S.length) → e.2 ≤ S.length) ∧
    (∀ p deep ts ns e, rdTerm S f p deep ts ns = .error e → (∀ x ∈ ts, x.2 ≤ S.length) → e.2 ≤ S.length) ∧
    (∀ x p deep ts ns e, rdName S f x p deep ts ns = .error e → x.2 ≤ S.length → (∀ x ∈ ts, x.2 ≤ S.length) → e.2 ≤ S.length) ∧
    (∀ deep ts ns e, rdRow S f deep ts ns = .error e → (∀ x ∈ ts, x.2 ≤ S.length) → e.2 ≤ S.length)
  | 0 => by
    refine ⟨?_, ?_, ?_, ?_⟩
    · intro t now p deep ts ns e h; rw [rdRest] at h; injection h with h; subst h; intro _; exact Nat.zero_le _
    · intro p deep ts ns e h; rw [rdTerm] at h; injection h with h; subst h; intro _; exact Nat.zero_le _
    · intro x p deep ts ns e h; rw [rdName] at h; injection h with h; subst h; intro _ _; exact Nat.zero_le _
    · intro deep ts ns e h; rw [rdRow] at h; injection h with h; subst h; intro _; exact Nat.zero_le _
  | f + 1 => by
    obtain ⟨ih1, ih2, ih3, ih4⟩ := rd_bad S f
    obtain ⟨w1, w2, w3, w4⟩ := rd_went S f
    refine ⟨?_, ?_, ?_, ?_⟩
    · intro t now p deep ts ns e h hts
      rw [rdRest.eq_def] at h
      dsimp only at h
      split at h
      · cases h
      · rename_i x r
        have hr : ∀ y ∈ r, y.2 ≤ S.length := fun y hy => hts y (List.mem_cons_of_mem _ hy)
        split at h
        · split at h
          · rename_i e' hv
            injection h with h
            subst h
            exact ih2 _ _ _ _ _ hv hr
          · rename_i v r1 ns1 hv
            exact ih1 _ _ _ _ _ _ _ h (suf_le (w2 _ _ _ _ _ _ _ hv).suf hr)
        · cases h
    · intro p deep ts ns e h hts
      rw [rdTerm.eq_def] at h
      dsimp only at h
      split at h
      · injection h with h; subst h; exact place_le hts
      split at h
      · injection h with h; subst h; exact Nat.le_refl _
      rename_i x r
      have hx := hts x (List.mem_cons_self ..)
      have hr : ∀ y ∈ r, y.2 ≤ S.length := fun y hy => hts y (List.mem_cons_of_mem _ hy)
      split at h
      · exact ih1 _ _ _ _ _ _ _ h hr
      split at h
      · exact ih1 _ _ _ _ _ _ _ h hr
      split at h
      · split at h
        · rename_i e' hv
          injection h with h
          subst h
          exact ih3 _ _ _ _ _ _ hv hx hr
        · rename_i t q r1 ns1 hv
          exact ih1 _ _ _ _ _ _ _ h (suf_le (w3 _ _ _ _ _ _ _ _ hv).suf hr)
      split at h
      · split at h
        · rename_i e' hv
          injection h with h
          subst h
          exact ih2 _ _ _ _ _ hv hr
        · rename_i t r1 ns1 hv
          have h1 := suf_le (w2 _ _ _ _ _ _ _ hv).suf hr
          split at h
          · rename_i e' hn
            injection h with h
            subst h
            exact need_badT hn h1
          · rename_i r2 hn
            exact ih1 _ _ _ _ _ _ _ h (suf_le (need_suf hn) h1)
      split at h
      · split at h
        · rename_i e' hv
          injection h with h
          subst h
          exact ih4 _ _ _ _ hv hr
        · rename_i l r1 ns1 hv
          have h1 := suf_le (w4 _ _ _ _ _ _ hv).suf hr
          split at h
          · split at h
            · rename_i e' ht
              injection h with h
              subst h
              exact ih2 _ _ _ _ _ ht (suf_le (tail_suf _) h1)
            · rename_i t r2 ns2 ht
              have h2 := suf_le (w2 _ _ _ _ _ _ _ ht).suf (suf_le (tail_suf _) h1)
              split at h
              · rename_i e' hn
                injection h with h
                subst h
                exact need_badT hn h2
              · rename_i r3 hn
                exact ih1 _ _ _ _ _ _ _ h (suf_le (need_suf hn) h2)
          · split at h
            · rename_i e' hn
              injection h with h
              subst h
              exact need_badT hn h1
            · rename_i r3 hn
              exact ih1 _ _ _ _ _ _ _ h (suf_le (need_suf hn) h1)
      · injection h with h; subst h; exact hx
    · intro x p deep ts ns e h hx hts
      rw [rdName] at h
      split at h
      · cases h
      split at h
      · split at h
        · rename_i e' hn
          injection h with h
          subst h
          exact need_badT hn hts
        · rename_i r1 hn
          have h1 := suf_le (need_suf hn) hts
          split at h
          · rename_i e' hv
            injection h with h
            subst h
            exact ih4 _ _ _ _ hv h1
          · rename_i l r2 ns2 hv
            have h2 := suf_le (w4 _ _ _ _ _ _ hv).suf h1
            split at h
            · rename_i e' hn2
              injection h with h
              subst h
              exact need_badT hn2 h2
            · cases h
      split at h
      · cases h
      split at h
      · injection h with h; subst h; exact hx
      split at h
      · rename_i e' hv
        injection h with h
        subst h
        exact ih2 _ _ _ _ _ hv hts
      · cases h
    · intro deep ts ns e h hts
      rw [rdRow] at h
      split at h
      · rename_i e' hv
        injection h with h
        subst h
        exact ih2 _ _ _ _ _ hv hts
      · rename_i t r ns1 hv
        have h1 := suf_le (w2 _ _ _ _ _ _ _ hv).suf hts
        split at h
        · split at h
          · rename_i e' hl
            injection h with h
            subst h
            exact ih4 _ _ _ _ hl (suf_le (tail_suf _) h1)
          · cases h
        · cases h
theorem cl_bad {S : List UInt8} {ts : Toks} {e : Nat × Nat} (h : clE S ts = .error e) (hts : ∀ x ∈ ts, x.2 ≤ S.length) : e.2 ≤ S.length := by
  unfold clE at h
  cases hr : rdTerm S FF 1200 0 ts [] with
  | error e' =>
    rw [hr] at h
    injection h with h
    subst h
    exact (rd_bad S FF).2.1 _ _ _ _ _ hr hts
  | ok p =>
    obtain ⟨u, r1, n1⟩ := p
    rw [hr] at h
    dsimp only at h
    split at h
    · cases h
    · injection h with h
      subst h
      exact place_le (suf_le ((rd_went S FF).2.1 _ _ _ _ _ _ _ hr).suf hts)
theorem cls_bad {S : List UInt8} : ∀ (f : Nat) (ts : Toks) (e : Nat × Nat), clsE S f ts = .error e → (∀ x ∈ ts, x.2 ≤ S.length) → e.2 ≤ S.length
  | 0, _, _, h, _ => by rw [clsE] at h; injection h with h; subst h; exact Nat.zero_le _
  | _ + 1, [], _, h, _ => by rw [clsE] at h; cases h
  | f + 1, x :: r, e, h, hts => by
    rw [clsE] at h
    cases hc : clE S (x :: r) with
    | error e' =>
      rw [hc] at h
      injection h with h
      subst h
      exact cl_bad hc hts
    | ok p =>
      obtain ⟨t, r', ns⟩ := p
      rw [hc] at h
      dsimp only at h
      by_cases hr : t.right = true
      · rw [if_pos hr] at h
        cases hq : clsE S f r' with
        | error e' =>
          rw [hq] at h
          injection h with h
          subst h
          exact cls_bad f r' e' hq (suf_le (cl_went hc).2.1 hts)
        | ok q => rw [hq] at h; cases h
      · rw [if_neg hr] at h
        injection h with h
        subst h
        exact hts x (List.mem_cons_self ..)
theorem read_bad {S : List UInt8} {e : Nat × Nat} (h : readE S = .error e) : e.2 ≤ S.length := by
  unfold readE at h
  split at h
  · injection h with h; subst h; exact Nat.zero_le _
  · split at h
    · rename_i b hl
      injection h with h
      subst h
      have := (lex_bad_at _ S false 0 b (Nat.le_refl _) hl).2
      dsimp only
      omega
    · rename_i ts hl
      exact cls_bad _ _ _ h (fun x hx => by have := (lex_ge _ S false 0 ts (Nat.le_refl _) hl x hx).2; omega)
theorem cl_names {S : List UInt8} {ts r : Toks} {t : Tm} {ns : Names} (h : clE S ts = .ok (t, r, ns)) : ns.length ≤ ts.length := by
  unfold clE at h
  cases hr : rdTerm S FF 1200 0 ts [] with
  | error e => rw [hr] at h; cases h
  | ok p =>
    obtain ⟨u, r1, n1⟩ := p
    rw [hr] at h
    dsimp only at h
    split at h
    · injection h with h; injection h with h0 h; injection h with h1 h2; subst h0 h1 h2
      have := ((rd_went S FF).2.1 _ _ _ _ _ _ _ hr).nms
      simp only [List.length_nil] at this
      omega
    · cases h
theorem cls_len {S : List UInt8} : ∀ (f : Nat) (ts : Toks) (l : List Cl), clsE S f ts = .ok l → l.length ≤ ts.length ∧ ∀ c ∈ l, c.1.right = true ∧ c.2.length ≤ ts.length
  | 0, _, _, h => by rw [clsE] at h; cases h
  | _ + 1, [], l, h => by
    rw [clsE] at h
    injection h with h
    subst h
    simp
  | f + 1, x :: r, l, h => by
    rw [clsE] at h
    cases hc : clE S (x :: r) with
    | error e => rw [hc] at h; cases h
    | ok p =>
      obtain ⟨t, r', ns⟩ := p
      rw [hc] at h
      dsimp only at h
      by_cases hr : t.right = true
      · rw [if_pos hr] at h
        cases hq : clsE S f r' with
        | error e => rw [hq] at h; cases h
        | ok q =>
          rw [hq] at h
          injection h with h
          subst h
          obtain ⟨h1, h2⟩ := cls_len f r' q hq
          have h3 := (cl_went hc).1
          refine ⟨by simp only [List.length_cons] at h3 ⊢; omega, fun c hm => ?_⟩
          rcases List.mem_cons.1 hm with rfl | hm
          · exact ⟨hr, cl_names hc⟩
          · exact ⟨(h2 c hm).1, by have := (h2 c hm).2; omega⟩
      · rw [if_neg hr] at h
        cases h
theorem read_len {S : List UInt8} {l : List Cl} (h : readE S = .ok l) : l.length ≤ 8000 ∧ ∀ c ∈ l, c.1.right = true ∧ c.2.length ≤ 8000 := by
  unfold readE at h
  split at h
  · cases h
  · split at h
    · cases h
    · rename_i ts hl
      have h1 := lex_len _ S false 0 ts (Nat.le_refl _) hl
      obtain ⟨h2, h3⟩ := cls_len _ _ _ h
      exact ⟨by omega, fun c hc => ⟨(h3 c hc).1, by have := (h3 c hc).2; omega⟩⟩
theorem one_is {S : List UInt8} {c : Cl} (h : oneE S = .ok c) : readE S = .ok [c] := by
  unfold oneE at h
  split at h
  · cases h
  · rename_i c' hc
    injection h with h
    rw [hc, h]
  · cases h
theorem one_bad {S : List UInt8} {e : Nat × Nat} (h : oneE S = .error e) : e.2 ≤ S.length := by
  unfold oneE at h
  split at h
  · rename_i e' he
    injection h with h
    subst h
    exact read_bad he
  · cases h
  · injection h with h
    subst h
    exact Nat.le_refl _
/-! ### the contracts, for each way -/
theorem clsP_no {s : ByteArray} {w : World} (hr : Rng w) (hs : s.size ≤ 1000000) {k pl : Nat} (h : readE (bs s) = .error (k, pl)) :
    Calls Tryz.prog 19 #[.string s] w fun e w' => (∃ g cap, e = .returned (.tuple #[.slice g 0 cap, .int .i64 (pl : Nat), .int .i64 (k : Nat)]) ∧ (k = 2 ∨ k = 3)) ∧ Below w.heap.size w w' :=
  (clauses_all s w hr hs).mono fun e w' hp => by
    obtain ⟨hb, l, sv, b, c, rfl, hl, _, hm⟩ := hp
    rw [h] at hm
    obtain ⟨h1, rfl, rfl, rfl⟩ := hm
    obtain ⟨g, cap, rfl, _⟩ := hl
    exact ⟨⟨g, cap, rfl, h1⟩, hb⟩
theorem clsP_ok {s : ByteArray} {w : World} (hr : Rng w) (hs : s.size ≤ 1000000) {l : List Cl} (h : readE (bs s) = .ok l) :
    Calls Tryz.prog 19 #[.string s] w fun e w' => (∃ g cap, e = .returned (.tuple #[.slice g l.length cap, .int .i64 0, .int .i64 0]) ∧ clsIn w' w'.heap.size l (.slice g l.length cap)) ∧ Below w.heap.size w w' :=
  (clauses_all s w hr hs).mono fun e w' hp => by
    obtain ⟨hb, l', sv, b, c, rfl, hl, _, hm⟩ := hp
    rw [h] at hm
    obtain ⟨rfl, rfl, rfl⟩ := hm
    have hl := hl.less
    obtain ⟨g, cap, rfl, _⟩ := id hl
    exact ⟨⟨g, cap, rfl, hl⟩, hb⟩
theorem oneP_no {s : ByteArray} {w : World} (hr : Rng w) (hs : s.size ≤ 1000000) {k pl : Nat} (h : oneE (bs s) = .error (k, pl)) :
    Calls Tryz.prog 8 #[.string s] w fun e w' => (e = .returned (.tuple #[.agg #[.int .i64 0, .string ⟨#[]⟩, .int .i64 0, .slice none 0 0, .slice none 0 0], .int .i64 (pl : Nat), .int .i64 (k : Nat)]) ∧ (k = 2 ∨ k = 3)) ∧ Below w.heap.size w w' :=
  (one_p s w hr hs).mono fun e w' hp => by
    obtain ⟨hb, k', nm, n, g, m, c, gn, mn, cn, b, cd, rfl, hm⟩ := hp
    rw [h] at hm
    obtain ⟨h1, rfl, rfl, rfl, rfl, rfl, rfl, rfl, rfl, rfl, rfl, rfl⟩ := hm
    exact ⟨⟨rfl, h1⟩, hb⟩
theorem oneP_ok {s : ByteArray} {w : World} (hr : Rng w) (hs : s.size ≤ 1000000) {t : Tm} {ns : Names} (h : oneE (bs s) = .ok (t, ns)) :
    Calls Tryz.prog 8 #[.string s] w fun e w' => (∃ g c gn cn, e = .returned (.tuple #[.agg #[.int .i64 t.kind, .string t.name, .int .i64 t.n, .slice g t.args.length c, .slice gn ns.length cn], .int .i64 0, .int .i64 0]) ∧ Tm.inn w' w'.heap.size t (.slice g t.args.length c) ∧ namesP w' (fun x => x < w'.heap.size) ns (.slice gn ns.length cn)) ∧ Below w.heap.size w w' :=
  (one_p s w hr hs).mono fun e w' hp => by
    obtain ⟨hb, k', nm, n, g, m, c, gn, mn, cn, b, cd, rfl, hm⟩ := hp
    rw [h] at hm
    obtain ⟨rfl, rfl, rfl, rfl, rfl, hi, hn⟩ := hm
    obtain ⟨_, g', cap, e1, _⟩ := Tm.inn_iff.1 hi
    injection e1 with e1 e2 e3
    subst e1 e2 e3
    obtain ⟨gn', cn', e4, _⟩ := id hn
    injection e4 with e4 e5 e6
    subst e4 e5 e6
    exact ⟨⟨_, _, _, _, rfl, hi, hn⟩, hb⟩
/-- A clause at its place. -/
theorem clcP_at {w : World} {ok : Nat → Prop} : ∀ {l : List Cl} {xs : List Value}, clcP w ok l xs → ∀ (i : Nat) (h : i < l.length), ∃ sv nv, xs[i * 5]? = some (.int .i64 l[i].1.kind) ∧ xs[i * 5 + 1]? = some (.string l[i].1.name) ∧ xs[i * 5 + 2]? = some (.int .i64 l[i].1.n) ∧ xs[i * 5 + 3]? = some sv ∧ xs[i * 5 + 4]? = some nv ∧ Tm.innP w ok l[i].1 sv ∧ namesP w ok l[i].2 nv
  | [], _, _, i, h => absurd h (Nat.not_lt_zero _)
  | (t, ns) :: l, _, ⟨sv, nv, ys, e, h1, h2, h3⟩, i, hi => by
    subst e
    cases i with
    | zero => exact ⟨sv, nv, rfl, rfl, rfl, rfl, rfl, h1, h2⟩
    | succ i =>
      obtain ⟨sv', nv', g0, g1, g2, g3, g4, g5, g6⟩ := clcP_at h3 i (by simpa using hi)
      refine ⟨sv', nv', ?_, ?_, ?_, ?_, ?_, g5, g6⟩
      · rw [show (i + 1) * 5 = i * 5 + 5 by omega]; exact g0
      · rw [show (i + 1) * 5 + 1 = i * 5 + 1 + 5 by omega]; exact g1
      · rw [show (i + 1) * 5 + 2 = i * 5 + 2 + 5 by omega]; exact g2
      · rw [show (i + 1) * 5 + 3 = i * 5 + 3 + 5 by omega]; exact g3
      · rw [show (i + 1) * 5 + 4 = i * 5 + 4 + 5 by omega]; exact g4
theorem clsIn_at {w : World} {B : Nat} {l : List Cl} {sv : Value} (h : clsIn w B l sv) (i : Nat) (hi : i < l.length) : ∃ b off cap g m c gn cn, sv = .slice (some ⟨b, off, none⟩) l.length cap ∧ b < B ∧ m = l[i].1.args.length ∧
    w.cell? ⟨b, off + i * 5, none⟩ = some (.int .i64 l[i].1.kind) ∧ w.cell? ⟨b, off + i * 5 + 1, none⟩ = some (.string l[i].1.name) ∧ w.cell? ⟨b, off + i * 5 + 2, none⟩ = some (.int .i64 l[i].1.n) ∧ w.cell? ⟨b, off + i * 5 + 3, none⟩ = some (.slice g m c) ∧ w.cell? ⟨b, off + i * 5 + 4, none⟩ = some (.slice gn l[i].2.length cn) ∧ Tm.inn w B l[i].1 (.slice g m c) ∧ namesP w (fun x => x < B) l[i].2 (.slice gn l[i].2.length cn) := by
  obtain ⟨g, cap, rfl, h | ⟨b, off, xs, rfl, hb, hc, hx⟩⟩ := h
  · subst h; simp at hi
  · obtain ⟨sv, nv, g0, g1, g2, g3, g4, g5, g6⟩ := clcP_at hc i hi
    have g5 := Tm.inn_of_P (fun b hb => hb) _ _ g5
    obtain ⟨_, g', cap', rfl, _⟩ := Tm.inn_iff.1 g5
    obtain ⟨gn, cn, rfl, _⟩ := id g6
    exact ⟨b, off, cap, g', _, cap', gn, cn, rfl, hb, rfl, hx _ _ g0, hx _ _ g1, hx _ _ g2, hx _ _ g3, hx _ _ g4, g5, g6⟩
end Go.Proofs.YtliapkajonbndaaGreatDoor

namespace Go.Proofs.YtliapkajonbndaaGreatDoor
open Go.RowKit

theorem tw_sp {p : UInt8 → Bool} (hp : p 32 = false) (b : List UInt8) : ∀ a : List UInt8, (a ++ 32 :: b).takeWhile p = a.takeWhile p ∧ (a ++ 32 :: b).dropWhile p = a.dropWhile p ++ 32 :: b
  | [] => by simp [List.takeWhile, List.dropWhile, hp]
  | c :: r => by
    obtain ⟨h1, h2⟩ := tw_sp hp b r
    by_cases h : p c = true
    · constructor <;> simp [h, h1, h2]
    · constructor <;> simp [h]
theorem opens_spc (x b : List UInt8) : opens (x ++ 32 :: b) = opens x := by cases x <;> simp [opens]
theorem ends_spc (x b : List UInt8) : ends (x ++ 32 :: b) = ends x := by
  cases x with
  | nil => simp [ends, show srt 32 = 5 by decide]
  | cons c r => simp [ends]
theorem name_spc {kind : Nat} {text rest b : List UInt8} {k : Nat} : nameL kind text (rest ++ 32 :: b) k = nameL kind text rest k := by unfold nameL; rw [opens_spc]
theorem quo_sp : ∀ (n : Nat) (r tx : List UInt8) (k : Nat), r.length ≤ n → quoL (r ++ [32, 46]) = some (tx, k) → quoL r = some (tx, k)
  | _, [], tx, k, _, h => by
    have h2 : quoL ([] ++ [32, 46]) = none := by rfl
    rw [h2] at h
    cases h
  | 0, _ :: _, _, _, hn, _ => by simp at hn
  | n + 1, c :: r, tx, k, hn, h => by
    simp only [List.length_cons] at hn
    rw [List.cons_append] at h
    by_cases hc : c.toNat < 32 ∨ 126 < c.toNat
    · rw [quoL_bad _ hc] at h; cases h
    by_cases hq : c = 39
    · subst hq
      by_cases hr : r.head? = some 39
      · obtain ⟨q, rfl⟩ : ∃ q, r = 39 :: q := by
          cases r with
          | nil => simp at hr
          | cons d q => simp at hr; exact ⟨q, by rw [hr]⟩
        rw [List.cons_append, quoL_two] at h
        simp only [Option.map_eq_some_iff, Prod.mk.injEq] at h
        obtain ⟨⟨tx', k'⟩, h1, rfl, rfl⟩ := h
        simp only [List.length_cons] at hn
        rw [quoL_two, quo_sp n q tx' k' (by omega) h1]
        rfl
      · have hr2 : (r ++ [32, 46]).head? ≠ some 39 := fun e => hr (by
          cases r with
          | nil => simp at e
          | cons d q => exact e)
        rw [quoL_end hr2] at h
        rw [quoL_end hr, h]
    · rw [quoL_one _ hc hq] at h
      simp only [Option.map_eq_some_iff, Prod.mk.injEq] at h
      obtain ⟨⟨tx', k'⟩, h1, rfl, rfl⟩ := h
      rw [quoL_one r hc hq, quo_sp n r tx' k' (by omega) h1]
      rfl
/-- What stands at a place behind which a space and a dot come, stands there without. -/
theorem one_sp {c : UInt8} {r : List UInt8} {t : Tk} {k : Nat} (h : oneL (c :: (r ++ [32, 46])) = some (t, k)) : oneL (c :: r) = some (t, k) := by
  have jw := tw_sp word_sp [46] (c :: r)
  have js := tw_sp sign_sp [46] (c :: r)
  have jd := tw_sp digit_sp [46] (c :: r)
  rw [List.cons_append] at jw js jd
  unfold oneL at h ⊢
  simp only at h ⊢
  rw [jw.1, jw.2, js.1, js.2, jd.1] at h
  by_cases h1 : srt c = 1 ∨ srt c = 2
  · rw [if_pos h1] at h ⊢
    rw [name_spc] at h
    exact h
  rw [if_neg h1] at h ⊢
  by_cases h3 : srt c = 3
  · rw [if_pos h3] at h ⊢
    exact h
  rw [if_neg h3] at h ⊢
  by_cases hq : c = 39
  · rw [if_pos hq] at h ⊢
    simp only [Option.bind_eq_some_iff] at h
    obtain ⟨⟨tx, q⟩, h4, h5⟩ := h
    have h6 := quo_sp r.length r tx q (Nat.le_refl _) h4
    have h8 := (quo_join [] r.length r tx q (Nat.le_refl _) h6).2.2
    rw [h6]
    simp only [Option.bind_some]
    dsimp only at h5
    rw [List.drop_append_of_le_length h8, name_spc] at h5
    exact h5
  rw [if_neg hq] at h ⊢
  by_cases hb : c = 91 ∧ r.head? = some 93
  · have hb' : c = 91 ∧ (r ++ [32, 46]).head? = some 93 := by
      obtain ⟨e1, e2⟩ := hb
      cases r with
      | nil => simp at e2
      | cons d q => exact ⟨e1, e2⟩
    rw [if_pos hb'] at h
    rw [if_pos hb]
    have hr : 1 ≤ r.length := by
      cases r with
      | nil => simp at hb
      | cons d q => simp
    rw [List.drop_append_of_le_length hr, name_spc] at h
    exact h
  have hb' : ¬ (c = 91 ∧ (r ++ [32, 46]).head? = some 93) := by
    rintro ⟨e1, e2⟩
    refine hb ⟨e1, ?_⟩
    cases r with
    | nil => simp at e2
    | cons d q => exact e2
  rw [if_neg hb'] at h
  rw [if_neg hb]
  by_cases h5 : c = 33 ∨ c = 59
  · rw [if_pos h5] at h ⊢
    rw [name_spc] at h
    exact h
  rw [if_neg h5] at h ⊢
  by_cases h6 : c = 40 ∨ c = 41 ∨ c = 91 ∨ c = 93 ∨ c = 124 ∨ c = 44
  · rw [if_pos h6] at h ⊢
    exact h
  rw [if_neg h6] at h ⊢
  rw [ends_spc] at h
  by_cases h8 : c = 46 ∧ (List.takeWhile isSign (c :: r)).length = 1 ∧ ends (List.dropWhile isSign (c :: r)) = true
  · rw [if_pos h8] at h ⊢
    exact h
  rw [if_neg h8] at h ⊢
  rw [name_spc] at h
  exact h
def dotE (p : Nat) : Tk × Nat := (⟨5, [46], 0, false⟩, p)
theorem lex_sp : ∀ (n : Nat) (S : List UInt8) (cm : Bool) (at' : Nat) (L : Toks), S.length ≤ n → lexL cm at' (S ++ [32, 46]) = .inr L → ∃ ts, lexL cm at' S = .inr ts ∧ (L = ts ∨ L = ts ++ [dotE (at' + S.length + 1)])
  | _, [], cm, at', L, _, h => by
    refine ⟨[], lexL_nil _ _, ?_⟩
    rw [List.nil_append] at h
    cases cm with
    | true =>
      rw [lexL_skip (.inl rfl), lexL_skip (.inl (by decide)), lexL_nil] at h
      injection h with h
      exact .inl h.symm
    | false =>
      rw [lexL_gap (by decide) (by decide), lexL_tok (t := ⟨5, [46], 0, false⟩) (k := 1) (by decide) (by decide) (by rfl), List.drop_nil, lexL_nil] at h
      injection h with h
      exact .inr h.symm
  | 0, _ :: _, _, _, _, hn, _ => by simp at hn
  | n + 1, c :: r, cm, at', L, hn, h => by
    simp only [List.length_cons] at hn
    rw [List.cons_append] at h
    by_cases h1 : cm = true ∨ c = 37
    · rw [lexL_skip h1] at h ⊢
      obtain ⟨ts, e1, e2⟩ := lex_sp n r _ _ L (by omega) h
      exact ⟨ts, e1, by rw [List.length_cons, show at' + (r.length + 1) + 1 = at' + 1 + r.length + 1 by omega]; exact e2⟩
    by_cases h5 : srt c = 5
    · rw [lexL_gap h1 h5] at h ⊢
      obtain ⟨ts, e1, e2⟩ := lex_sp n r _ _ L (by omega) h
      exact ⟨ts, e1, by rw [List.length_cons, show at' + (r.length + 1) + 1 = at' + 1 + r.length + 1 by omega]; exact e2⟩
    cases ho : oneL (c :: (r ++ [32, 46])) with
    | none => rw [lexL_bad h1 h5 ho] at h; cases h
    | some x =>
      obtain ⟨t, k⟩ := x
      have ho2 := one_sp ho
      obtain ⟨_, hk1, hk2⟩ := one_join [] ho2
      rw [lexL_tok h1 h5 ho] at h
      rw [lexL_tok h1 h5 ho2]
      obtain ⟨q, h2, rfl⟩ := preL_inr h
      simp only [List.length_cons] at hk2
      rw [List.drop_append_of_le_length (by omega)] at h2
      obtain ⟨ts, e1, e2⟩ := lex_sp n _ _ _ q (by rw [List.length_drop]; omega) h2
      rw [e1]
      refine ⟨[(t, at')] ++ ts, rfl, ?_⟩
      rcases e2 with rfl | rfl
      · exact .inl rfl
      · refine .inr ?_
        rw [List.append_assoc, List.length_drop, List.length_cons, show at' + k + (r.length - (k - 1)) + 1 = at' + (r.length + 1) + 1 by omega]
theorem lex_brk {S : List UInt8} {ts : Toks} (h : lexL false 0 S = .inr ts) : lexL false 0 (40 :: (S ++ [10, 41, 32, 46])) = .inr ((⟨4, [40], 0, false⟩, 0) :: (sh 1 ts ++ [(⟨4, [41], 0, false⟩, S.length + 2), dotE (S.length + 4)])) := by
  have h1 : lexL false (0 + 1) S = .inr (sh 1 ts) := by rw [lex_shift 1 _ S false 0 (Nat.le_refl _), h]; rfl
  have e3 : lexL false (0 + 1 + S.length + 1 + 1) [32, 46] = .inr [dotE (S.length + 4)] := by
    rw [lexL_gap (by decide) (by decide), lexL_tok (t := ⟨5, [46], 0, false⟩) (k := 1) (by decide) (by decide) (by rfl), List.drop_nil, lexL_nil, show 0 + 1 + S.length + 1 + 1 + 1 = S.length + 4 by omega]
    rfl
  have e2 : lexL false (0 + 1 + S.length + 1) [41, 32, 46] = .inr [(⟨4, [41], 0, false⟩, S.length + 2), dotE (S.length + 4)] := by
    refine (lexL_tok (t := ⟨4, [41], 0, false⟩) (k := 1) (by decide) (by decide) (by rfl)).trans ((congrArg (preL _) e3).trans ?_)
    rw [show 0 + 1 + S.length + 1 = S.length + 2 by omega]
    rfl
  have e1 := lex_join [41, 32, 46] _ S false (0 + 1) (sh 1 ts) (Nat.le_refl _) h1
  rw [e2] at e1
  exact (lexL_tok (t := ⟨4, [40], 0, false⟩) (k := 1) (by decide) (by decide) (by rfl)).trans (congrArg (preL _) e1)
theorem one_of {S : List UInt8} {c : Cl} (h : readE S = .ok [c]) : oneE S = .ok c := by unfold oneE; rw [h]
/-- A clause with brackets around it. -/
theorem brk_ok {S : List UInt8} {t : Tm} {ns : Names} (hS : S.length ≤ 900) (h : oneE (S ++ [32, 46]) = .ok (t, ns)) : oneE S = .ok (t, ns) ∨ oneE (40 :: (S ++ [10, 41, 32, 46])) = .ok (t, ns) := by
  have h := one_is h
  unfold readE at h
  rw [if_neg (by simp; omega)] at h
  cases hx : lexL false 0 (S ++ [32, 46]) with
  | inl p => rw [hx] at h; cases h
  | inr L =>
    rw [hx] at h
    dsimp only at h
    obtain ⟨ts, hts, hL⟩ := lex_sp _ S false 0 L (Nat.le_refl _) hx
    have hpl := lex_ge _ S false 0 ts (Nat.le_refl _) hts
    have hlen := lex_len _ S false 0 ts (Nat.le_refl _) hts
    have hm0 : ∀ i, i < S.length → S[i]? = (S ++ [32, 46])[i]? := fun i hi => (List.getElem?_append_left hi).symm
    rcases hL with rfl | rfl
    · refine .inl (one_of ?_)
      have hc := clsE_app (X := []) (N := S.length) hm0 _ _ (L.length + 1) L _ (Nat.le_refl _) h (fun x hx => by have := (hpl x hx).2; omega) (by rw [FF_eq]; omega) (by simp)
      rw [List.append_nil] at hc
      unfold readE
      rw [if_neg (by omega), hts]
      dsimp only
      rw [hc]
      rw [List.length_nil, clsE]
      rfl
    · refine .inr (one_of ?_)
      -- the clause and the row behind it
      obtain ⟨x, r, hxr⟩ : ∃ x r, ts ++ [dotE (0 + S.length + 1)] = x :: r := by
        cases ts with
        | nil => exact ⟨_, _, rfl⟩
        | cons y q => exact ⟨_, _, rfl⟩
      rw [hxr, clsE] at h
      cases hc : clE (S ++ [32, 46]) (x :: r) with
      | error e => rw [hc] at h; cases h
      | ok p =>
        obtain ⟨t', r', ns'⟩ := p
        rw [hc] at h
        dsimp only at h
        by_cases hr : t'.right = true
        · rw [if_pos hr] at h
          cases hq : clsE (S ++ [32, 46]) (x :: r).length r' with
          | error e => rw [hq] at h; cases h
          | ok q =>
            rw [hq] at h
            injection h with h
            injection h with h3 h4
            injection h3 with h5 h6
            subst h4 h5 h6
            have hr' : r' = [] := by
              cases r' with
              | nil => rfl
              | cons y z =>
                rw [List.length_cons, clsE] at hq
                cases hc2 : clE (S ++ [32, 46]) (y :: z) with
                | error e => rw [hc2] at hq; cases hq
                | ok p =>
                  obtain ⟨a1, a2, a3⟩ := p
                  rw [hc2] at hq
                  dsimp only at hq
                  by_cases hr2 : a1.right = true
                  · rw [if_pos hr2] at hq
                    cases hq2 : clsE (S ++ [32, 46]) r.length a2 with
                    | error e => rw [hq2] at hq; cases hq
                    | ok z => rw [hq2] at hq; cases hq
                  · rw [if_neg hr2] at hq; cases hq
            subst hr'
            clear hq
            rw [← hxr] at hc
            unfold clE at hc
            cases ht : rdTerm (S ++ [32, 46]) FF 1200 0 (ts ++ [dotE (0 + S.length + 1)]) [] with
            | error e => rw [ht] at hc; cases hc
            | ok p =>
              obtain ⟨u, r1, n1⟩ := p
              rw [ht] at hc
              dsimp only at hc
              by_cases he : endT r1 = true
              · rw [if_pos he] at hc
                injection hc with hc; injection hc with h3 hc; injection hc with h4 h5
                subst h3 h5
                obtain ⟨y, hy⟩ : ∃ y, r1 = [y] := by
                  cases r1 with
                  | nil => cases he
                  | cons y z =>
                    have : z = [] := h4
                    exact ⟨y, by rw [this]⟩
                subst hy
                obtain ⟨v, hv⟩ := ((rd_went _ FF).2.1 _ _ _ _ _ _ _ ht).suf
                have hv2 := List.append_inj' hv rfl
                have hy2 : dotE (0 + S.length + 1) = y := by injection hv2.2
                subst hy2
                have hE : EndU [dotE (0 + S.length + 1)] := ⟨_, [], rfl, rfl⟩
                have hD : DeadU [((⟨4, [41], 0, false⟩ : Tk), S.length + 2), dotE (S.length + 4)] := ⟨_, _, rfl, .inr ⟨rfl, rfl⟩⟩
                have hm1 : ∀ i, i < S.length → (40 :: (S ++ [10, 41, 32, 46]))[i + 1]? = (S ++ [32, 46])[i]? := fun i hi => by
                  rw [List.getElem?_cons_succ, List.getElem?_append_left hi, List.getElem?_append_left hi]
                obtain ⟨r2, e1, _, _, e2⟩ := (rd_ok hE hD hm1 FF).2.1 _ _ _ _ _ _ _ ht (fun x hx => by have := (hpl x hx).2; omega) (FF - 1) 1 (by rw [FF_eq]; omega) (.inr (by omega))
                have hr2 : r2 = [] := by
                  have := congrArg List.length e1
                  simp only [List.length_append, List.length_cons, List.length_nil] at this
                  exact List.eq_nil_of_length_eq_zero (by omega)
                subst hr2
                rw [sh_nil, List.nil_append] at e2
                have hcl : clE (40 :: (S ++ [10, 41, 32, 46])) ((⟨4, [40], 0, false⟩, 0) :: (sh 1 ts ++ [(⟨4, [41], 0, false⟩, S.length + 2), dotE (S.length + 4)])) = .ok (u, [], n1) := by
                  unfold clE
                  rw [show FF = (FF - 1) + 1 by rw [FF_eq], rdTerm.eq_def]
                  dsimp only
                  rw [if_neg (by omega), if_neg (by decide), if_neg (by decide), if_neg (by decide), if_pos (by rfl), e2]
                  dsimp only
                  rw [show needT (40 :: (S ++ [10, 41, 32, 46])) 41 [((⟨4, [41], 0, false⟩ : Tk), S.length + 2), dotE (S.length + 4)] = .ok [dotE (S.length + 4)] from rfl]
                  dsimp only
                  rw [show FF - 1 = (FF - 2) + 1 by rw [FF_eq], rdRest.eq_def]
                  rfl
                unfold readE
                rw [if_neg (by simp; omega), lex_brk hts]
                dsimp only
                rw [List.length_cons, clsE, hcl]
                dsimp only
                rw [if_pos hr, clsE]
              · rw [if_neg he] at hc
                cases hc
        · rw [if_neg hr] at h
          cases h
end Go.Proofs.YtliapkajonbndaaGreatDoor

namespace Go.Proofs.YtliapkajonbndaaGreatDoor
open Go.RowKit

theorem write_back {t : Tm} (hr : t.right = true) (hn : nOk t = true) (hlen : (tx t).length ≤ 7998) : oneE (tx t ++ [32, 46]) = .ok (t.ren (posOf (vsT t [])), (vsT t []).map vname) := by
  have hf := right_fair hr
  obtain ⟨ts, e, c⟩ := (both_all t hf hn).a 0 [32, 46] ⟨32, _, rfl, by simp⟩
  have hl : lexL false 0 (tx t ++ [32, 46]) = .inr (ts ++ [dotE (0 + (tx t).length + 1)]) := by
    rw [e, lexL_gap (by decide) (by decide), lexL_tok (t := ⟨5, [46], 0, false⟩) (k := 1) (by decide) (by decide) (by rfl), List.drop_nil, lexL_nil]
    rfl
  have hlt := lex_len _ (tx t ++ [32, 46]) false 0 _ (Nat.le_refl _) hl
  simp only [List.length_append, List.length_cons, List.length_nil] at hlt
  have hdp : t.deep ≤ 100 := by
    simp only [Tm.right, Bool.and_eq_true, decide_eq_true_eq] at hr
    exact hr.2
  have hnat := vsT_nat t [] hf (by simp)
  have hvs : varsOf [t] = vsT t [] := by rw [vars_vsL]; simp [vsL]
  have hall : [t].all Tm.right = true := by simp [hr]
  have hvl : (varsOf [t]).length ≤ 1000000 := by
    have h1 := varsOf_length [t]
    simp only [Tm.sizes] at h1
    simp only [Tm.right, Bool.and_eq_true, decide_eq_true_eq] at hr
    omega
  have hr2 : (t.ren (posOf (vsT t []))).right = true := by
    have := numbered_right hall hvl
    rw [hvs] at this
    simpa [Tm.rens] using this
  have hrd := c (tx t ++ [32, 46]) ⟨[32, 46], by simp⟩ FF 1200 0 [] (vsT t []) [dotE (0 + (tx t).length + 1)] (by rw [FF_eq]; omega) (by omega) (by omega) hnat List.prefix_rfl ⟨_, [], rfl, .inl rfl⟩
  rw [List.map_nil] at hrd
  have hcl : clE (tx t ++ [32, 46]) (ts ++ [dotE (0 + (tx t).length + 1)]) = .ok (t.ren (posOf (vsT t [])), [], (vsT t []).map vname) := by
    unfold clE
    rw [hrd]
    rfl
  obtain ⟨x, r, hxr⟩ : ∃ x r, ts ++ [dotE (0 + (tx t).length + 1)] = x :: r := by
    cases ts with
    | nil => exact ⟨_, _, rfl⟩
    | cons y q => exact ⟨_, _, rfl⟩
  refine one_of ?_
  unfold readE
  rw [if_neg (by simp only [List.length_append, List.length_cons, List.length_nil]; omega), hl]
  dsimp only
  rw [hxr] at hcl ⊢
  rw [List.length_cons, clsE, hcl]
  dsimp only
  rw [if_pos hr2, clsE]
end Go.Proofs.YtliapkajonbndaaGreatDoor
