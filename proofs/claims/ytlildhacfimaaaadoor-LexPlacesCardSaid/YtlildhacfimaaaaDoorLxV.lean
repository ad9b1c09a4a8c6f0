/-
  LexPlaces' body, if the program's Tokens says what it is to say.
-/
import Derived.Test.YtlildhacfimaaaaDoorLxU
import Derived.BigQuiet
import Derived.Deep.QuietTactic
namespace Go.Proofs.YtlildhacfimaaaaDoor
open Go.RowKit

theorem below_dq {B : Nat} {a w : World} (h : Below B a w) (n : Nat) : Below B a (w.drewN n) := ⟨h.os, h.tape, h.output, h.size, h.block⟩
/-- A token in a box of the law's own. -/
structure PT (w1 W : World) (B K n p : Nat) (X : ByteArray) (o : Bool) : Prop where
  below : Below w1.heap.size w1 W
  lt : B < W.heap.size
  c0 : W.cell? ⟨B, 0, none⟩ = some (.int .i64 (K : Nat))
  c1 : W.cell? ⟨B, 1, none⟩ = some (.string X)
  c2 : W.cell? ⟨B, 2, none⟩ = some (.int .i64 (n : Nat))
  c3 : W.cell? ⟨B, 3, none⟩ = some (.int .i64 (p : Nat))
  c4 : W.cell? ⟨B, 4, none⟩ = some (.bool o)
theorem PT.next {w1 W W' : World} {B K n p : Nat} {X : ByteArray} {o : Bool} (h : PT w1 W B K n p X o) (hb : Below W.heap.size W W') : PT w1 W' B K n p X o :=
  have key : ∀ q v, W.cell? ⟨B, q, none⟩ = some v → W'.cell? ⟨B, q, none⟩ = some v := fun q _v hv => (hb.cell (p := ⟨B, q, none⟩) h.lt).trans hv
  ⟨h.below.trans (hb.mono h.below.size), Nat.lt_of_lt_of_le h.lt hb.size, key _ _ h.c0, key _ _ h.c1, key _ _ h.c2, key _ _ h.c3, key _ _ h.c4⟩
theorem pt_new {w1 wr : World} (h : Below w1.heap.size w1 wr) (K n p : Nat) (X : ByteArray) (o : Bool) (t : TypeId) : PT w1 (wr.alloc (.cells #[.int .i64 (K : Nat), .string X, .int .i64 (n : Nat), .int .i64 (p : Nat), .bool o] t)) wr.heap.size K n p X o := by
  have hc := lnewBlk wr (.cells #[.int .i64 (K : Nat), .string X, .int .i64 (n : Nat), .int .i64 (p : Nat), .bool o] t)
  refine ⟨h.alloc h.size _, by simp, ?_, ?_, ?_, ?_, ?_⟩
  all_goals
    simp only [World.cell?]
    rw [hc]
    rfl
set_option maxRecDepth 100000 in
set_option maxHeartbeats 8000000 in
theorem lplaces_yes (HL : LexSays) (s : ByteArray) (w : World) (hr : Rng w) (h1 : s.size ≤ 3000) {l : List (Tk × Nat)} (hl : lexL false 0 (bs s) = .inr l) :
    Calls Tryd.prog 5 #[.string s] w fun e w' => e = .returned (.bool true) ∧ Below w.heap.size w w' := by
  have HK := Lib.hid (fun u h => lknows_any HL u h)
  have HA := Lib.hid (fun u h => lex_ok HL s u h (by omega) hl)
  obtain ⟨hst, hpw⟩ := lex_stand _ _ _ _ _ (Nat.le_refl _) hl
  have hll : l.length ≤ 3000 := by have := lex_len _ _ _ _ _ (Nat.le_refl _) hl; rw [bs_length] at this; omega
  have HST := Lib.hid hst
  have HPW := Lib.hid hpw
  have HL2 := Lib.hid HL
  have HR := Lib.hid hr
  clear HL hl hst hpw hr
  go_enter Tryd.func5, Tryd.ntmps5
  go_wp2_with (go_at_call 7; (with_reducible refine (HA.out _ HR.out).mono ?_); rintro e w1 ⟨hb1, g1, c1, rfl, ht1⟩; have HB1 := Lib.hid hb1; have HR := Lib.hid (HR.out.next hb1); have HT1 := Lib.hid ht1; clear hb1 ht1)
  go_loopw [6] (fun i wr => ∃ q : Nat, q ≤ l.length ∧ i = .int .i64 q ∧ Hid (Below w1.heap.size w1 wr)) (fun i _ => l.length - (intOf i).toNat)
  case atStart => exact ⟨0, Nat.zero_le _, rfl, Lib.hid (Below.refl _ _)⟩
  case round =>
    obtain ⟨q, hq, rfl, hb⟩ := hrel
    have HB := Lib.hid hb.out
    clear hb
    by_cases hlt : q < l.length
    · obtain ⟨b1, o1, c1', e1, hb1, x0, x1, x2, x3, x4⟩ := toksIn_at (toksIn_same HT1.out (Nat.le_refl _) HB.out) q hlt
      injection e1 with e1 _ ec1
      subst e1 ec1
      have HS := Lib.hid (HST.out l[q] (List.getElem_mem hlt))
      have hp := HS.out.hi
      rw [bs_length, Nat.zero_add] at hp
      have hopn := HS.out.opn
      obtain ⟨t, ht⟩ : ∃ t, l[q] = t := ⟨_, rfl⟩
      rw [ht] at x0 x1 x2 x3 x4 HS hp hopn
      obtain ⟨⟨K, tx, n, o⟩, p⟩ := t
      dsimp only at x0 x1 x2 x3 x4 hp hopn
      obtain ⟨X, hX⟩ : ∃ X : ByteArray, (⟨tx.toArray⟩ : ByteArray) = X := ⟨_, rfl⟩
      rw [hX] at x1
      have HX := Lib.hid hX
      clear hX
      have hsz := HB.out.size
      have hb1' : b1 < wr.heap.size := by omega
      have j0 : (0 : Int) ≤ (q : Int) := by omega
      have j1 : (q : Int) < (l.length : Int) := by omega
      have jw : IntKind.i64.wrap (q : Int) = (q : Int) := by rw [IntKind.wrap_i64]; omega
      have hprev : q = 0 ∨ ∃ r pp, q = r + 1 ∧ wr.cell? ⟨b1, o1 + r * 5 + 3, none⟩ = some (.int .i64 (pp : Nat)) ∧ pp < p := by
        cases q with
        | zero => exact .inl rfl
        | succ r =>
          have hr : r < l.length := by omega
          obtain ⟨b', o', c', e', _, _, _, _, z3, _⟩ := toksIn_at (toksIn_same HT1.out (Nat.le_refl _) HB.out) r hr
          injection e' with e' _ _
          injection e' with e'
          injection e' with e1 e2 _
          subst e1 e2
          refine .inr ⟨r, l[r].2, rfl, z3, ?_⟩
          have := (List.pairwise_iff_getElem.1 HPW.out) r (r + 1) hr hlt (by omega)
          rw [ht] at this
          exact this
      have hop : o = false ∨ (o = true ∧ K ≤ 2) := by
        cases o with
        | false => exact .inl rfl
        | true => exact .inr ⟨rfl, hopn rfl⟩
      clear ht hopn
      have HP := Lib.hid hprev
      have HO := Lib.hid hop
      clear hprev hop
      go_wp2_with fail
      have hpt := pt_new HB.out K n p X o 33
      have hq2 := (show Below wr.heap.size wr (wr.alloc (.cells #[.int .i64 (K : Nat), .string X, .int .i64 (n : Nat), .int .i64 (p : Nat), .bool o] 33)) from (Below.refl _ _).alloc (Nat.le_refl _) _)
      generalize (wr.alloc (.cells #[.int .i64 (K : Nat), .string X, .int .i64 (n : Nat), .int .i64 (p : Nat), .bool o] 33)) = W2 at hpt hq2 ⊢
      obtain ⟨_, _, c0, c1, c2, c3, c4⟩ := id hpt
      have HPT := Lib.hid hpt
      have HQ2 := Lib.hid hq2
      have jp0 : (0 : Int) ≤ (p : Int) := by omega
      have jp1 : (p : Int) < (s.size : Int) := by omega
      have d2 : ((p : Int) < 0) = False := by rw [eq_iff_iff, iff_false]; omega
      have d3 : ((s.size : Int) ≤ (p : Int)) = False := by rw [eq_iff_iff, iff_false]; omega
      clear x0 x1 x2 x3 x4 hpt hq2
      rcases HP.out with h0 | ⟨r, pp, h0, z3, z4⟩
      · subst h0
        have d4 : ((0 : Int) < ((0 : Nat) : Int)) = False := by simp
        rcases HO.out with h2 | ⟨h2, h3⟩
        · subst h2
          go_quiet (fail)
          have HQ3 := Lib.hid (below_dq (Below.refl W2.heap.size W2) nq)
          have hpt3 := HPT.out.next HQ3.out
          generalize W2.drewN nq = W3 at HQ3 hpt3 ⊢
          clear c0 c1 c2 c3 c4 HPT
          obtain ⟨_, hlt3, c0, c1, c2, c3, c4⟩ := id hpt3
          have HPT := Lib.hid hpt3
          clear hpt3
          by_cases h39 : s[p] = 39
          · have b39 : ((s[p].toNat : Int) == 39) = true := by rw [h39]; rfl
            clear h39
            go_wp2_with fail
            go_roundw
            case rel => exact ⟨0 + 1, by omega, by go_num, Lib.hid (by first | exact below_dq HPT.out.below _ | exact HPT.out.below)⟩
            case measure => simp [intOf]; omega
          have b39 : ((s[p].toNat : Int) == 39) = false := eq_byte (n := 39) (by decide) h39
          by_cases h5 : K = 5
          · have b5 : ((K : Int) == 5) = true := by rw [beq_iff_eq]; omega
            clear h39 h5
            go_wp2_with fail
            go_roundw
            case rel => exact ⟨0 + 1, by omega, by go_num, Lib.hid (by first | exact below_dq HPT.out.below _ | exact HPT.out.below)⟩
            case measure => simp [intOf]; omega
          have b5 : ((K : Int) == 5) = false := by rw [beq_eq_false_iff_ne]; omega
          obtain ⟨hx1, hx2⟩ := stand_text HS.out hp h39 h5
          have HAL := Lib.hid (fun hd => stand_alone HS.out hp h39 h5 hd)
          dsimp only at hx1 hx2
          have hX := HX.out
          have hXs : X.size = tx.length := by rw [← hX]; simp [ByteArray.size]
          have hbX : bs X = tx := by rw [← hX]; simp [bs]
          rw [hX] at hx2
          dsimp only at HAL
          rw [hX] at HAL
          obtain ⟨pe, hpe⟩ : ∃ pe, p + X.size = pe := ⟨_, rfl⟩
          rw [← hXs, hpe] at hx1 hx2
          have hX3 : X.size ≤ 3000 := by omega
          have hsl := fun u => run_cut Tryd.underlying9 s p pe (by omega) hx1 u
          rw [hx2] at hsl
          have e5 : (p : Int) + (X.size : Int) = (pe : Int) := by omega
          have i6 : IntKind.i64.wrap (pe : Int) = (pe : Int) := by rw [IntKind.wrap_i64]; omega
          have i1 : ((s.size : Int) < (pe : Int)) = False := by rw [eq_iff_iff, iff_false]; omega
          have i9 : decide ((s.size : Int) < (pe : Int)) = false := by rw [decide_eq_false_iff_not]; omega
          have hX20 : (X ++ ⟨#[32]⟩ : ByteArray).size ≤ 8000 := by
            rw [ByteArray.size_append]
            have : (⟨#[32]⟩ : ByteArray).size = 1 := rfl
            omega
          have HX20 := Lib.hid hX20
          have HBX := Lib.hid hbX
          clear h39 h5 hx2 hpe hX hbX hX20 hXs
          go_wp2_with fail
          go_quiet (fail)
          have HQ4 := Lib.hid (below_dq (Below.refl W3.heap.size W3) nq)
          have hpt4 := HPT.out.next HQ4.out
          generalize W3.drewN nq = W4 at HQ4 hpt4 ⊢
          clear c0 c1 c2 c3 c4 HPT hlt3
          obtain ⟨_, hlt4, c0, c1, c2, c3, c4⟩ := id hpt4
          have HPT := Lib.hid hpt4
          have HR4 := Lib.hid (HR.out.next hpt4.below)
          clear hpt4
          by_cases hd : tx = [46]
          · obtain rfl : (⟨#[46]⟩ : ByteArray) = X := by rw [← HX.out, hd]
            have HY := Lib.hid (fun t u h ht => lex_any HL2.out t u h ht)
            clear hd hsl HAL
            go_wp2_with (go_at_call 7; (refine (HY.out _ _ HR4.out (by decide)).mono ?_); rintro e w5 ⟨hb5, g5, n5, k5, b5', d5', rfl⟩; have hpt5 := HPT.out.next hb5; clear HPT c0 c1 c2 c3 c4; obtain ⟨_, hlt5, c0, c1, c2, c3, c4⟩ := id hpt5; have HPT := Lib.hid hpt5; clear hpt5 hb5)
            go_quiet (fail)
            go_wp2_with fail
            go_roundw
            case rel => exact ⟨0 + 1, by omega, by go_num, Lib.hid (by first | exact below_dq HPT.out.below _ | exact HPT.out.below)⟩
            case measure => simp [intOf]; omega
          have f1 : (X.toList == [46]) = false := by
            rw [bs_toList, HBX.out, beq_eq_false_iff_ne]
            exact hd
          have f2 : (X.toList == (⟨#[46]⟩ : ByteArray).toList) = false := by
            rw [show (⟨#[46]⟩ : ByteArray).toList = [46] by rw [bs_toList]; rfl]
            exact f1
          have HY := Lib.hid (fun u h => lex_ok HL2.out (X ++ ⟨#[32]⟩) u h HX20.out (HAL.out hd))
          clear hd hsl HAL
          go_wp2_with (go_at_call 7; (refine (HY.out _ HR4.out).mono ?_); rintro e w5 ⟨hb5, g5, k5, rfl, ht5⟩; have hpt5 := HPT.out.next hb5; clear HPT c0 c1 c2 c3 c4; obtain ⟨_, hlt5, c0, c1, c2, c3, c4⟩ := id hpt5; have HPT := Lib.hid hpt5; have HT5 := Lib.hid ht5; clear hpt5 hb5 ht5)
          obtain ⟨b2, o2, k5', e5', hb2, y0, y1, y2, y3, y4⟩ := toksIn_at HT5.out 0 (by simp)
          injection e5' with e5' _ ek5
          subst e5' ek5
          simp only [List.getElem_cons_zero, Nat.zero_mul, Nat.add_zero] at y0 y1 y2 y3 y4
          clear y1 y3
          have HB2 := Lib.hid hb2
          clear hb2
          go_wp2_with fail
          go_quiet (fail)
          go_wp2_with fail
          go_roundw
          case rel => exact ⟨0 + 1, by omega, by go_num, Lib.hid (by first | exact below_dq HPT.out.below _ | exact HPT.out.below)⟩
          case measure => simp [intOf]; omega
        · subst h2
          have d5 : ((2 : Int) < (K : Int)) = False := by rw [eq_iff_iff, iff_false]; omega
          go_quiet (fail)
          have HQ3 := Lib.hid (below_dq (Below.refl W2.heap.size W2) nq)
          have hpt3 := HPT.out.next HQ3.out
          generalize W2.drewN nq = W3 at HQ3 hpt3 ⊢
          clear c0 c1 c2 c3 c4 HPT
          obtain ⟨_, hlt3, c0, c1, c2, c3, c4⟩ := id hpt3
          have HPT := Lib.hid hpt3
          clear hpt3
          by_cases h39 : s[p] = 39
          · have b39 : ((s[p].toNat : Int) == 39) = true := by rw [h39]; rfl
            clear h39
            go_wp2_with fail
            go_roundw
            case rel => exact ⟨0 + 1, by omega, by go_num, Lib.hid (by first | exact below_dq HPT.out.below _ | exact HPT.out.below)⟩
            case measure => simp [intOf]; omega
          have b39 : ((s[p].toNat : Int) == 39) = false := eq_byte (n := 39) (by decide) h39
          by_cases h5 : K = 5
          · have b5 : ((K : Int) == 5) = true := by rw [beq_iff_eq]; omega
            clear h39 h5
            go_wp2_with fail
            go_roundw
            case rel => exact ⟨0 + 1, by omega, by go_num, Lib.hid (by first | exact below_dq HPT.out.below _ | exact HPT.out.below)⟩
            case measure => simp [intOf]; omega
          have b5 : ((K : Int) == 5) = false := by rw [beq_eq_false_iff_ne]; omega
          obtain ⟨hx1, hx2⟩ := stand_text HS.out hp h39 h5
          have HAL := Lib.hid (fun hd => stand_alone HS.out hp h39 h5 hd)
          dsimp only at hx1 hx2
          have hX := HX.out
          have hXs : X.size = tx.length := by rw [← hX]; simp [ByteArray.size]
          have hbX : bs X = tx := by rw [← hX]; simp [bs]
          rw [hX] at hx2
          dsimp only at HAL
          rw [hX] at HAL
          obtain ⟨pe, hpe⟩ : ∃ pe, p + X.size = pe := ⟨_, rfl⟩
          rw [← hXs, hpe] at hx1 hx2
          have hX3 : X.size ≤ 3000 := by omega
          have hsl := fun u => run_cut Tryd.underlying9 s p pe (by omega) hx1 u
          rw [hx2] at hsl
          have e5 : (p : Int) + (X.size : Int) = (pe : Int) := by omega
          have i6 : IntKind.i64.wrap (pe : Int) = (pe : Int) := by rw [IntKind.wrap_i64]; omega
          have i1 : ((s.size : Int) < (pe : Int)) = False := by rw [eq_iff_iff, iff_false]; omega
          have i9 : decide ((s.size : Int) < (pe : Int)) = false := by rw [decide_eq_false_iff_not]; omega
          have hX20 : (X ++ ⟨#[32]⟩ : ByteArray).size ≤ 8000 := by
            rw [ByteArray.size_append]
            have : (⟨#[32]⟩ : ByteArray).size = 1 := rfl
            omega
          have HX20 := Lib.hid hX20
          have HBX := Lib.hid hbX
          clear h39 h5 hx2 hpe hX hbX hX20 hXs
          go_wp2_with fail
          go_quiet (fail)
          have HQ4 := Lib.hid (below_dq (Below.refl W3.heap.size W3) nq)
          have hpt4 := HPT.out.next HQ4.out
          generalize W3.drewN nq = W4 at HQ4 hpt4 ⊢
          clear c0 c1 c2 c3 c4 HPT hlt3
          obtain ⟨_, hlt4, c0, c1, c2, c3, c4⟩ := id hpt4
          have HPT := Lib.hid hpt4
          have HR4 := Lib.hid (HR.out.next hpt4.below)
          clear hpt4
          by_cases hd : tx = [46]
          · obtain rfl : (⟨#[46]⟩ : ByteArray) = X := by rw [← HX.out, hd]
            have HY := Lib.hid (fun t u h ht => lex_any HL2.out t u h ht)
            clear hd hsl HAL
            go_wp2_with (go_at_call 7; (refine (HY.out _ _ HR4.out (by decide)).mono ?_); rintro e w5 ⟨hb5, g5, n5, k5, b5', d5', rfl⟩; have hpt5 := HPT.out.next hb5; clear HPT c0 c1 c2 c3 c4; obtain ⟨_, hlt5, c0, c1, c2, c3, c4⟩ := id hpt5; have HPT := Lib.hid hpt5; clear hpt5 hb5)
            go_quiet (fail)
            go_wp2_with fail
            go_roundw
            case rel => exact ⟨0 + 1, by omega, by go_num, Lib.hid (by first | exact below_dq HPT.out.below _ | exact HPT.out.below)⟩
            case measure => simp [intOf]; omega
          have f1 : (X.toList == [46]) = false := by
            rw [bs_toList, HBX.out, beq_eq_false_iff_ne]
            exact hd
          have f2 : (X.toList == (⟨#[46]⟩ : ByteArray).toList) = false := by
            rw [show (⟨#[46]⟩ : ByteArray).toList = [46] by rw [bs_toList]; rfl]
            exact f1
          have HY := Lib.hid (fun u h => lex_ok HL2.out (X ++ ⟨#[32]⟩) u h HX20.out (HAL.out hd))
          clear hd hsl HAL
          go_wp2_with (go_at_call 7; (refine (HY.out _ HR4.out).mono ?_); rintro e w5 ⟨hb5, g5, k5, rfl, ht5⟩; have hpt5 := HPT.out.next hb5; clear HPT c0 c1 c2 c3 c4; obtain ⟨_, hlt5, c0, c1, c2, c3, c4⟩ := id hpt5; have HPT := Lib.hid hpt5; have HT5 := Lib.hid ht5; clear hpt5 hb5 ht5)
          obtain ⟨b2, o2, k5', e5', hb2, y0, y1, y2, y3, y4⟩ := toksIn_at HT5.out 0 (by simp)
          injection e5' with e5' _ ek5
          subst e5' ek5
          simp only [List.getElem_cons_zero, Nat.zero_mul, Nat.add_zero] at y0 y1 y2 y3 y4
          clear y1 y3
          have HB2 := Lib.hid hb2
          clear hb2
          go_wp2_with fail
          go_quiet (fail)
          go_wp2_with fail
          go_roundw
          case rel => exact ⟨0 + 1, by omega, by go_num, Lib.hid (by first | exact below_dq HPT.out.below _ | exact HPT.out.below)⟩
          case measure => simp [intOf]; omega
      · subst h0
        have z3' : W2.cell? ⟨b1, o1 + r * 5 + 3, none⟩ = some (.int .i64 (pp : Nat)) := (HQ2.out.cell (p := ⟨b1, _, none⟩) hb1').trans z3
        have d4 : ((0 : Int) < (r : Int) + 1) = True := by rw [eq_iff_iff, iff_true]; omega
        have d6 : ((p : Int) ≤ (pp : Int)) = False := by rw [eq_iff_iff, iff_false]; omega
        have k0 : (0 : Int) ≤ (r : Int) := by omega
        have k1 : (r : Int) < (l.length : Int) := by omega
        have kw : IntKind.i64.wrap (r : Int) = (r : Int) := by rw [IntKind.wrap_i64]; omega
        rcases HO.out with h2 | ⟨h2, h3⟩
        · subst h2
          go_quiet (fail)
          have HQ3 := Lib.hid (below_dq (Below.refl W2.heap.size W2) nq)
          have hpt3 := HPT.out.next HQ3.out
          generalize W2.drewN nq = W3 at HQ3 hpt3 ⊢
          clear c0 c1 c2 c3 c4 HPT
          obtain ⟨_, hlt3, c0, c1, c2, c3, c4⟩ := id hpt3
          have HPT := Lib.hid hpt3
          clear hpt3
          by_cases h39 : s[p] = 39
          · have b39 : ((s[p].toNat : Int) == 39) = true := by rw [h39]; rfl
            clear h39
            go_wp2_with fail
            go_roundw
            case rel => exact ⟨(r + 1) + 1, by omega, by go_num, Lib.hid (by first | exact below_dq HPT.out.below _ | exact HPT.out.below)⟩
            case measure => simp [intOf]; omega
          have b39 : ((s[p].toNat : Int) == 39) = false := eq_byte (n := 39) (by decide) h39
          by_cases h5 : K = 5
          · have b5 : ((K : Int) == 5) = true := by rw [beq_iff_eq]; omega
            clear h39 h5
            go_wp2_with fail
            go_roundw
            case rel => exact ⟨(r + 1) + 1, by omega, by go_num, Lib.hid (by first | exact below_dq HPT.out.below _ | exact HPT.out.below)⟩
            case measure => simp [intOf]; omega
          have b5 : ((K : Int) == 5) = false := by rw [beq_eq_false_iff_ne]; omega
          obtain ⟨hx1, hx2⟩ := stand_text HS.out hp h39 h5
          have HAL := Lib.hid (fun hd => stand_alone HS.out hp h39 h5 hd)
          dsimp only at hx1 hx2
          have hX := HX.out
          have hXs : X.size = tx.length := by rw [← hX]; simp [ByteArray.size]
          have hbX : bs X = tx := by rw [← hX]; simp [bs]
          rw [hX] at hx2
          dsimp only at HAL
          rw [hX] at HAL
          obtain ⟨pe, hpe⟩ : ∃ pe, p + X.size = pe := ⟨_, rfl⟩
          rw [← hXs, hpe] at hx1 hx2
          have hX3 : X.size ≤ 3000 := by omega
          have hsl := fun u => run_cut Tryd.underlying9 s p pe (by omega) hx1 u
          rw [hx2] at hsl
          have e5 : (p : Int) + (X.size : Int) = (pe : Int) := by omega
          have i6 : IntKind.i64.wrap (pe : Int) = (pe : Int) := by rw [IntKind.wrap_i64]; omega
          have i1 : ((s.size : Int) < (pe : Int)) = False := by rw [eq_iff_iff, iff_false]; omega
          have i9 : decide ((s.size : Int) < (pe : Int)) = false := by rw [decide_eq_false_iff_not]; omega
          have hX20 : (X ++ ⟨#[32]⟩ : ByteArray).size ≤ 8000 := by
            rw [ByteArray.size_append]
            have : (⟨#[32]⟩ : ByteArray).size = 1 := rfl
            omega
          have HX20 := Lib.hid hX20
          have HBX := Lib.hid hbX
          clear h39 h5 hx2 hpe hX hbX hX20 hXs
          go_wp2_with fail
          go_quiet (fail)
          have HQ4 := Lib.hid (below_dq (Below.refl W3.heap.size W3) nq)
          have hpt4 := HPT.out.next HQ4.out
          generalize W3.drewN nq = W4 at HQ4 hpt4 ⊢
          clear c0 c1 c2 c3 c4 HPT hlt3
          obtain ⟨_, hlt4, c0, c1, c2, c3, c4⟩ := id hpt4
          have HPT := Lib.hid hpt4
          have HR4 := Lib.hid (HR.out.next hpt4.below)
          clear hpt4
          by_cases hd : tx = [46]
          · obtain rfl : (⟨#[46]⟩ : ByteArray) = X := by rw [← HX.out, hd]
            have HY := Lib.hid (fun t u h ht => lex_any HL2.out t u h ht)
            clear hd hsl HAL
            go_wp2_with (go_at_call 7; (refine (HY.out _ _ HR4.out (by decide)).mono ?_); rintro e w5 ⟨hb5, g5, n5, k5, b5', d5', rfl⟩; have hpt5 := HPT.out.next hb5; clear HPT c0 c1 c2 c3 c4; obtain ⟨_, hlt5, c0, c1, c2, c3, c4⟩ := id hpt5; have HPT := Lib.hid hpt5; clear hpt5 hb5)
            go_quiet (fail)
            go_wp2_with fail
            go_roundw
            case rel => exact ⟨(r + 1) + 1, by omega, by go_num, Lib.hid (by first | exact below_dq HPT.out.below _ | exact HPT.out.below)⟩
            case measure => simp [intOf]; omega
          have f1 : (X.toList == [46]) = false := by
            rw [bs_toList, HBX.out, beq_eq_false_iff_ne]
            exact hd
          have f2 : (X.toList == (⟨#[46]⟩ : ByteArray).toList) = false := by
            rw [show (⟨#[46]⟩ : ByteArray).toList = [46] by rw [bs_toList]; rfl]
            exact f1
          have HY := Lib.hid (fun u h => lex_ok HL2.out (X ++ ⟨#[32]⟩) u h HX20.out (HAL.out hd))
          clear hd hsl HAL
          go_wp2_with (go_at_call 7; (refine (HY.out _ HR4.out).mono ?_); rintro e w5 ⟨hb5, g5, k5, rfl, ht5⟩; have hpt5 := HPT.out.next hb5; clear HPT c0 c1 c2 c3 c4; obtain ⟨_, hlt5, c0, c1, c2, c3, c4⟩ := id hpt5; have HPT := Lib.hid hpt5; have HT5 := Lib.hid ht5; clear hpt5 hb5 ht5)
          obtain ⟨b2, o2, k5', e5', hb2, y0, y1, y2, y3, y4⟩ := toksIn_at HT5.out 0 (by simp)
          injection e5' with e5' _ ek5
          subst e5' ek5
          simp only [List.getElem_cons_zero, Nat.zero_mul, Nat.add_zero] at y0 y1 y2 y3 y4
          clear y1 y3
          have HB2 := Lib.hid hb2
          clear hb2
          go_wp2_with fail
          go_quiet (fail)
          go_wp2_with fail
          go_roundw
          case rel => exact ⟨(r + 1) + 1, by omega, by go_num, Lib.hid (by first | exact below_dq HPT.out.below _ | exact HPT.out.below)⟩
          case measure => simp [intOf]; omega
        · subst h2
          have d5 : ((2 : Int) < (K : Int)) = False := by rw [eq_iff_iff, iff_false]; omega
          go_quiet (fail)
          have HQ3 := Lib.hid (below_dq (Below.refl W2.heap.size W2) nq)
          have hpt3 := HPT.out.next HQ3.out
          generalize W2.drewN nq = W3 at HQ3 hpt3 ⊢
          clear c0 c1 c2 c3 c4 HPT
          obtain ⟨_, hlt3, c0, c1, c2, c3, c4⟩ := id hpt3
          have HPT := Lib.hid hpt3
          clear hpt3
          by_cases h39 : s[p] = 39
          · have b39 : ((s[p].toNat : Int) == 39) = true := by rw [h39]; rfl
            clear h39
            go_wp2_with fail
            go_roundw
            case rel => exact ⟨(r + 1) + 1, by omega, by go_num, Lib.hid (by first | exact below_dq HPT.out.below _ | exact HPT.out.below)⟩
            case measure => simp [intOf]; omega
          have b39 : ((s[p].toNat : Int) == 39) = false := eq_byte (n := 39) (by decide) h39
          by_cases h5 : K = 5
          · have b5 : ((K : Int) == 5) = true := by rw [beq_iff_eq]; omega
            clear h39 h5
            go_wp2_with fail
            go_roundw
            case rel => exact ⟨(r + 1) + 1, by omega, by go_num, Lib.hid (by first | exact below_dq HPT.out.below _ | exact HPT.out.below)⟩
            case measure => simp [intOf]; omega
          have b5 : ((K : Int) == 5) = false := by rw [beq_eq_false_iff_ne]; omega
          obtain ⟨hx1, hx2⟩ := stand_text HS.out hp h39 h5
          have HAL := Lib.hid (fun hd => stand_alone HS.out hp h39 h5 hd)
          dsimp only at hx1 hx2
          have hX := HX.out
          have hXs : X.size = tx.length := by rw [← hX]; simp [ByteArray.size]
          have hbX : bs X = tx := by rw [← hX]; simp [bs]
          rw [hX] at hx2
          dsimp only at HAL
          rw [hX] at HAL
          obtain ⟨pe, hpe⟩ : ∃ pe, p + X.size = pe := ⟨_, rfl⟩
          rw [← hXs, hpe] at hx1 hx2
          have hX3 : X.size ≤ 3000 := by omega
          have hsl := fun u => run_cut Tryd.underlying9 s p pe (by omega) hx1 u
          rw [hx2] at hsl
          have e5 : (p : Int) + (X.size : Int) = (pe : Int) := by omega
          have i6 : IntKind.i64.wrap (pe : Int) = (pe : Int) := by rw [IntKind.wrap_i64]; omega
          have i1 : ((s.size : Int) < (pe : Int)) = False := by rw [eq_iff_iff, iff_false]; omega
          have i9 : decide ((s.size : Int) < (pe : Int)) = false := by rw [decide_eq_false_iff_not]; omega
          have hX20 : (X ++ ⟨#[32]⟩ : ByteArray).size ≤ 8000 := by
            rw [ByteArray.size_append]
            have : (⟨#[32]⟩ : ByteArray).size = 1 := rfl
            omega
          have HX20 := Lib.hid hX20
          have HBX := Lib.hid hbX
          clear h39 h5 hx2 hpe hX hbX hX20 hXs
          go_wp2_with fail
          go_quiet (fail)
          have HQ4 := Lib.hid (below_dq (Below.refl W3.heap.size W3) nq)
          have hpt4 := HPT.out.next HQ4.out
          generalize W3.drewN nq = W4 at HQ4 hpt4 ⊢
          clear c0 c1 c2 c3 c4 HPT hlt3
          obtain ⟨_, hlt4, c0, c1, c2, c3, c4⟩ := id hpt4
          have HPT := Lib.hid hpt4
          have HR4 := Lib.hid (HR.out.next hpt4.below)
          clear hpt4
          by_cases hd : tx = [46]
          · obtain rfl : (⟨#[46]⟩ : ByteArray) = X := by rw [← HX.out, hd]
            have HY := Lib.hid (fun t u h ht => lex_any HL2.out t u h ht)
            clear hd hsl HAL
            go_wp2_with (go_at_call 7; (refine (HY.out _ _ HR4.out (by decide)).mono ?_); rintro e w5 ⟨hb5, g5, n5, k5, b5', d5', rfl⟩; have hpt5 := HPT.out.next hb5; clear HPT c0 c1 c2 c3 c4; obtain ⟨_, hlt5, c0, c1, c2, c3, c4⟩ := id hpt5; have HPT := Lib.hid hpt5; clear hpt5 hb5)
            go_quiet (fail)
            go_wp2_with fail
            go_roundw
            case rel => exact ⟨(r + 1) + 1, by omega, by go_num, Lib.hid (by first | exact below_dq HPT.out.below _ | exact HPT.out.below)⟩
            case measure => simp [intOf]; omega
          have f1 : (X.toList == [46]) = false := by
            rw [bs_toList, HBX.out, beq_eq_false_iff_ne]
            exact hd
          have f2 : (X.toList == (⟨#[46]⟩ : ByteArray).toList) = false := by
            rw [show (⟨#[46]⟩ : ByteArray).toList = [46] by rw [bs_toList]; rfl]
            exact f1
          have HY := Lib.hid (fun u h => lex_ok HL2.out (X ++ ⟨#[32]⟩) u h HX20.out (HAL.out hd))
          clear hd hsl HAL
          go_wp2_with (go_at_call 7; (refine (HY.out _ HR4.out).mono ?_); rintro e w5 ⟨hb5, g5, k5, rfl, ht5⟩; have hpt5 := HPT.out.next hb5; clear HPT c0 c1 c2 c3 c4; obtain ⟨_, hlt5, c0, c1, c2, c3, c4⟩ := id hpt5; have HPT := Lib.hid hpt5; have HT5 := Lib.hid ht5; clear hpt5 hb5 ht5)
          obtain ⟨b2, o2, k5', e5', hb2, y0, y1, y2, y3, y4⟩ := toksIn_at HT5.out 0 (by simp)
          injection e5' with e5' _ ek5
          subst e5' ek5
          simp only [List.getElem_cons_zero, Nat.zero_mul, Nat.add_zero] at y0 y1 y2 y3 y4
          clear y1 y3
          have HB2 := Lib.hid hb2
          clear hb2
          go_wp2_with fail
          go_quiet (fail)
          go_wp2_with fail
          go_roundw
          case rel => exact ⟨(r + 1) + 1, by omega, by go_num, Lib.hid (by first | exact below_dq HPT.out.below _ | exact HPT.out.below)⟩
          case measure => simp [intOf]; omega
    · obtain rfl : l.length = q := by omega
      have HR2 := Lib.hid (HR.out.next HB.out)
      go_wp2_with (go_at_call 6; refine (HK.out _ HR2.out).mono ?_; rintro e w4 ⟨rfl, hb4⟩; have HB4 := Lib.hid hb4; clear hb4)
      go_ret
      exact ⟨rfl, (HB1.out.trans (HB.out.mono HB1.out.size)).trans (HB4.out.mono (by have := HB1.out.size; have := HB.out.size; omega))⟩
theorem lplaces_any (HL : LexSays) (s : ByteArray) (w : World) (hr : Rng w) :
    Calls Tryd.prog 5 #[.string s] w fun e w' => e = .returned (.bool true) ∧ Below w.heap.size w w' := by
  by_cases hz : 3000 < s.size
  · exact lplaces_big HL s w hr hz
  cases h : lexL false 0 (bs s) with
  | inl b => exact lplaces_no HL s w hr (by omega) h
  | inr l => exact lplaces_yes HL s w hr (by omega) h
end Go.Proofs.YtlildhacfimaaaaDoor
