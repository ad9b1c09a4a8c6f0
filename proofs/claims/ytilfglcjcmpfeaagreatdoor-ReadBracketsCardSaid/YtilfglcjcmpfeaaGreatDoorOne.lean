/-
  The two Clauses, whatever text; the program's One.
-/
import Derived.Test.YtilfglcjcmpfeaaGreatDoorGd
import Derived.Test.YtilfglcjcmpfeaaGreatDoorPrW
import Derived.Test.YtilfglcjcmpfeaaGreatDoorRdW
namespace Go.Proofs.YtilfglcjcmpfeaaGreatDoor
open Go.RowKit

theorem clauses_all (s : ByteArray) (w : World) (hr : Rng w) (hs : s.size ≤ 1000000) : Calls Tryz.prog 8 #[.string s] w fun e w' => ClsPost w (bs s) e w' :=
  clauses_p s w hr hs (fun _ h h2 => good_of h h2)
theorem dclauses_all (s : ByteArray) (w : World) (hs : s.size ≤ 1000000) : Calls Tryz.prog 9 #[.string s] w fun e w' => DlsPost w (bs s) e w' :=
  dclauses_any s w hs (fun _ h h2 => small_of h h2)
/-- The only clause of a text. -/
def oneE (S : List UInt8) : Except (Nat × Nat) Cl :=
  match readE S with
  | .error e => .error e
  | .ok [c] => .ok c
  | .ok _ => .error (2, S.length)
def OnlyPost (w : World) (S : List UInt8) (e : Ending) (w' : World) : Prop :=
  Below w.heap.size w w' ∧ ∃ k nm n g m c gn mn cn b cd, e = .returned (.tuple #[.agg #[.int .i64 k, .string nm, .int .i64 n, .slice g m c, .slice gn mn cn], .int .i64 (b : Nat), .int .i64 (cd : Nat)]) ∧
    (match oneE S with
      | .error (q, pl) => (q = 2 ∨ q = 3) ∧ cd = q ∧ b = pl ∧ k = 0 ∧ nm = ⟨#[]⟩ ∧ n = 0 ∧ g = none ∧ m = 0 ∧ c = 0 ∧ gn = none ∧ mn = 0 ∧ cn = 0
      | .ok (t, ns) => cd = 0 ∧ b = 0 ∧ k = t.kind ∧ nm = t.name ∧ n = t.n ∧ Tm.inn w' w'.heap.size t (.slice g m c) ∧ namesP w' (fun x => x < w'.heap.size) ns (.slice gn mn cn))
set_option maxRecDepth 100000 in
set_option maxHeartbeats 8000000 in
theorem one_p (s : ByteArray) (w : World) (hr : Rng w) (hs : s.size ≤ 1000000) : Calls Tryz.prog 12 #[.string s] w fun e w' => OnlyPost w (bs s) e w' := by
  have hbs := bs_length s
  have HC := fun w1 (hr1 : Rng w1) => Lib.hid (clauses_all s w1 hr1 hs)
  have HR := Lib.hid hr
  clear hr
  go_enter Tryz.func12, Tryz.ntmps12
  go_upto_region 1 with fail
  have hb0 : Below w.heap.size w (w.alloc (.cells #[.int .i64 0, .string ⟨#[]⟩, .int .i64 0, .slice none 0 0, .slice none 0 0] 36)) := (Below.refl _ _).alloc (Nat.le_refl _) _
  have HZ := Lib.hid (newBlk w (.cells #[.int .i64 0, .string ⟨#[]⟩, .int .i64 0, .slice none 0 0, .slice none 0 0] 36) w.heap.size rfl)
  have hzl : w.heap.size < (w.alloc (.cells #[.int .i64 0, .string ⟨#[]⟩, .int .i64 0, .slice none 0 0, .slice none 0 0] 36)).heap.size := by simp
  have HR1 := Lib.hid (HR.out.next hb0)
  obtain ⟨w1, hw1⟩ : ∃ w1, w.alloc (.cells #[.int .i64 0, .string ⟨#[]⟩, .int .i64 0, .slice none 0 0, .slice none 0 0] 36) = w1 := ⟨_, rfl⟩
  rw [hw1] at hb0 HZ hzl HR1 ⊢
  clear hw1
  have HB0 := Lib.hid hb0
  have HC1 := HC w1 HR1.out
  clear hb0 HC
  go_upto_region 2 with (go_at_call 8; (with_reducible refine (HC1.out).mono ?_); rintro e w2 ⟨hb, l, sv, b, cd, rfl, hl, hcd3, hp⟩; have HB2 := Lib.hid (HB0.out.trans (hb.mono HB0.out.size)); have HZ2 := Lib.hid ((hb.block _ hzl).trans HZ.out); have hz2 : w.heap.size < w2.heap.size := Nat.lt_of_lt_of_le hzl hb.size; have HL := Lib.hid hl; have HP := Lib.hid hp; clear hb hl hp)
  obtain ⟨⟨a0, a1, a2, a3, a4⟩, af0, af1, af2, af3, af4⟩ := row5f HZ2.out
  cases hrd : readE (bs s) with
  | error q =>
    obtain ⟨k9, pl⟩ := q
    have h0 := HP.out
    rw [hrd] at h0
    obtain ⟨h1, h2, h3, h4⟩ := h0
    subst h2 h3
    have hone : oneE (bs s) = .error (cd, b) := by unfold oneE; rw [hrd]
    have kd : ((cd : Int) == 0) = false := by rw [beq_eq_false_iff_ne]; omega
    have kd2 : ((cd : Int) != 0) = true := by simp [bne, kd]
    have HO := Lib.hid hone
    clear hrd h4 hone
    go_wp2_with fail
    have hz := set5_blk HZ2.out 0 ⟨#[]⟩ 0 (.slice none 0 0) (.slice none 0 0)
    have hf := FrP.put5 w2 w.heap.size 0 ⟨#[]⟩ 0 (.slice none 0 0) (.slice none 0 0)
    change bodyPost _ _ _ _ _ (set5 w2 w.heap.size 0 ⟨#[]⟩ 0 (.slice none 0 0) (.slice none 0 0))
    obtain ⟨V', hV'⟩ : ∃ V', set5 w2 w.heap.size 0 ⟨#[]⟩ 0 (.slice none 0 0) (.slice none 0 0) = V' := ⟨_, rfl⟩
    rw [hV'] at hz hf ⊢
    obtain ⟨⟨z0, z1, z2, z3, z4⟩, -⟩ := row5f hz
    clear hV' hz a0 a1 a2 a3 a4 af0 af1 af2 af3 af4
    refine bodyPost_ret (v := .tuple #[.agg #[.int .i64 0, .string ⟨#[]⟩, .int .i64 0, .slice none 0 0, .slice none 0 0], .int .i64 (b : Nat), .int .i64 (cd : Nat)]) (by simp [results, Tryz.results12, go_sem, z0, z1, z2, z3, z4]) rfl ?_
    exact ⟨HB2.out.trans ((hf.mono (Q := fun x => w.heap.size ≤ x) (fun x _ e => by omega)).to_below HB2.out.size), 0, ⟨#[]⟩, 0, none, 0, 0, none, 0, 0, b, cd, rfl, by rw [HO.out]; exact ⟨h1, rfl, rfl, rfl, rfl, rfl, rfl, rfl, rfl, rfl, rfl, rfl⟩⟩
  | ok l' =>
    have h0 := HP.out
    rw [hrd] at h0
    obtain ⟨h1, h2, h3⟩ := h0
    subst h1 h2 h3
    obtain ⟨g9, cap9, hsv, hrow⟩ := HL.out
    subst hsv
    by_cases h1 : l.length = 1
    · obtain ⟨⟨t, ns⟩, rfl⟩ : ∃ c, l = [c] := List.length_eq_one_iff.1 h1
      have hone : oneE (bs s) = .ok (t, ns) := by unfold oneE; rw [hrd]
      rcases hrow with h | ⟨rbk, off, xs, rfl, hlo, hrb, hcl, hce⟩
      · cases h
      obtain ⟨sv, nv, ys, rfl, hin, hnm, hys⟩ := hcl
      have hys : ys = [] := hys
      subst hys
      obtain ⟨g, m, c, hsv⟩ : ∃ g m c, sv = .slice g m c := by
        have := Tm.inn_of_P (B := w2.heap.size) (fun b hb => hb.2) t sv hin
        obtain ⟨_, g, cap, e, _⟩ := Tm.inn_iff.1 this
        exact ⟨_, _, _, e⟩
      subst hsv
      obtain ⟨gn, cn, hnv, -⟩ := id hnm
      subst hnv
      have c0 := hce 0 _ rfl
      have c1 := hce 1 _ rfl
      have c2 := hce 2 _ rfl
      have c3 := hce 3 _ rfl
      have c4 := hce 4 _ rfl
      rw [Nat.add_zero] at c0
      have HIN := Lib.hid hin
      have HNM := Lib.hid hnm
      have HO := Lib.hid hone
      clear hrd hce hin hnm hone h1
      go_wp2_with fail
      have hz := set5_blk HZ2.out t.kind t.name t.n (.slice g m c) (.slice gn ns.length cn)
      have hf := FrP.put5 w2 w.heap.size t.kind t.name t.n (.slice g m c) (.slice gn ns.length cn)
      change bodyPost _ _ _ _ _ (set5 w2 w.heap.size t.kind t.name t.n (.slice g m c) (.slice gn ns.length cn))
      obtain ⟨V', hV'⟩ : ∃ V', set5 w2 w.heap.size t.kind t.name t.n (.slice g m c) (.slice gn ns.length cn) = V' := ⟨_, rfl⟩
      rw [hV'] at hz hf ⊢
      obtain ⟨⟨z0, z1, z2, z3, z4⟩, -⟩ := row5f hz
      have hcell : ∀ b o u, (w1.heap.size ≤ b ∧ b < w2.heap.size) → w2.cell? ⟨b, o, none⟩ = some u → V'.cell? ⟨b, o, none⟩ = some u := fun b o u hb hu => hf.cell hu (by omega)
      have hin' := Tm.innP_same (ok' := fun b => b < V'.heap.size) (fun b hb => Nat.lt_of_lt_of_le hb.2 hf.size) hcell t _ HIN.out
      have hnm' := namesP_same (ok' := fun b => b < V'.heap.size) (fun b hb => Nat.lt_of_lt_of_le hb.2 hf.size) hcell HNM.out
      have HF : Hid (OnlyPost w (bs s) (.returned (.tuple #[.agg #[.int .i64 t.kind, .string t.name, .int .i64 t.n, .slice g m c, .slice gn ns.length cn], .int .i64 (0 : Nat), .int .i64 (0 : Nat)])) V') := Lib.hid ⟨HB2.out.trans ((hf.mono (Q := fun x => w.heap.size ≤ x) (fun x _ e => by omega)).to_below HB2.out.size), t.kind, t.name, t.n, g, m, c, gn, ns.length, cn, 0, 0, rfl, by rw [HO.out]; exact ⟨rfl, rfl, rfl, rfl, rfl, Tm.inn_of_P (fun b hb => hb) t _ hin', hnm'⟩⟩
      clear hV' hz hf hcell hin' hnm' a0 a1 a2 a3 a4 af0 af1 af2 af3 af4 c0 c1 c2 c3 c4
      refine bodyPost_ret (v := .tuple #[.agg #[.int .i64 t.kind, .string t.name, .int .i64 t.n, .slice g m c, .slice gn ns.length cn], .int .i64 0, .int .i64 0]) (by simp [results, Tryz.results12, go_sem, z0, z1, z2, z3, z4]) rfl ?_
      exact HF.out
    · have hone : oneE (bs s) = .error (2, s.size) := by
        unfold oneE
        rw [hrd, ← hbs]
        cases l with
        | nil => rfl
        | cons x r =>
          cases r with
          | nil => exact absurd rfl h1
          | cons y q => rfl
      have HO := Lib.hid hone
      have k1 : ((l.length : Int) == 1) = false := by rw [beq_eq_false_iff_ne]; omega
      have k2 : ((l.length : Int) != 1) = true := by simp [bne, k1]
      clear hrd hone hrow h1
      go_wp2_with fail
      have hz := set5_blk HZ2.out 0 ⟨#[]⟩ 0 (.slice none 0 0) (.slice none 0 0)
      have hf := FrP.put5 w2 w.heap.size 0 ⟨#[]⟩ 0 (.slice none 0 0) (.slice none 0 0)
      change bodyPost _ _ _ _ _ (set5 w2 w.heap.size 0 ⟨#[]⟩ 0 (.slice none 0 0) (.slice none 0 0))
      obtain ⟨V', hV'⟩ : ∃ V', set5 w2 w.heap.size 0 ⟨#[]⟩ 0 (.slice none 0 0) (.slice none 0 0) = V' := ⟨_, rfl⟩
      rw [hV'] at hz hf ⊢
      obtain ⟨⟨z0, z1, z2, z3, z4⟩, -⟩ := row5f hz
      clear hV' hz a0 a1 a2 a3 a4 af0 af1 af2 af3 af4
      refine bodyPost_ret (v := .tuple #[.agg #[.int .i64 0, .string ⟨#[]⟩, .int .i64 0, .slice none 0 0, .slice none 0 0], .int .i64 (s.size : Nat), .int .i64 (2 : Nat)]) (by simp [results, Tryz.results12, go_sem, z0, z1, z2, z3, z4]) rfl ?_
      exact ⟨HB2.out.trans ((hf.mono (Q := fun x => w.heap.size ≤ x) (fun x _ e => by omega)).to_below HB2.out.size), 0, ⟨#[]⟩, 0, none, 0, 0, none, 0, 0, s.size, 2, rfl, by rw [HO.out]; exact ⟨.inl rfl, rfl, rfl, rfl, rfl, rfl, rfl, rfl, rfl, rfl, rfl, rfl⟩⟩
end Go.Proofs.YtilfglcjcmpfeaaGreatDoor
