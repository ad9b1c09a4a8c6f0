/-
  The document's Name: a name's text.
-/
import Derived.Test.YtliapkajonbndaaDoorDwA
import Derived.Test.YtliapkajonbndaaDoorDwS
import Derived.Test.YtliapkajonbndaaDoorWrX
namespace Go.Proofs.YtliapkajonbndaaDoor
open Go.RowKit

theorem run_byteN {P : Program} {t : TypeId} (h : P.underlying t = some .string) (s : ByteArray) (q : Nat) (hq : q < s.size) (w : World) : (Instr.slice t (.string s) (some (.int .i64 (q : Int))) (some (.int .i64 ((q : Int) + 1))) none).run P w = .ok (.string ⟨#[s[q]]⟩) w := by
  have := run_slice_string (P := P) w t s .i64 .i64 (q : Int) ((q : Int) + 1) h (by omega) (by omega) (by omega)
  rw [this]
  have e : s.extract q (q + 1) = ⟨#[s[q]]⟩ := by
    have h1 : bsN (s.extract q (q + 1)) = [s[q]] := by
      have h2 : bsN (s.extract q (q + 1)) = ((bsN s).drop q).take (q + 1 - q) := by simp [bsN, List.extract]
      rw [h2, List.drop_eq_getElem_cons (by rw [bsN_length]; exact hq), bsN_get s q hq]
      simp
    apply ByteArray.ext
    exact Array.toList_inj.1 (h1.trans rfl)
  show Result.ok (Value.string (s.extract q (q + 1))) w = _
  rw [e]
set_option maxRecDepth 100000 in
set_option maxHeartbeats 4000000 in
theorem dname_any (s : ByteArray) (hs : s.size ≤ 1000) (w : World) :
    Calls Tryd.prog 25 #[.string s] w fun e w' => e = .returned (.string ⟨(nmX (bsN s)).toArray⟩) ∧ w = w' := by
  obtain ⟨x, hx⟩ : ∃ x, bsN s = x := ⟨_, rfl⟩
  have hxl : x.length = s.size := by rw [← hx, bsN_length]
  have hget : ∀ k (h : k < s.size), s[k] = x[k]'(by omega) := fun k h => by
    subst hx
    exact (bsN_get s k h).symm
  have HGET := Lib.hid hget
  have HX := Lib.hid hx
  have HXL := Lib.hid hxl
  rw [hx]
  have HC0 := Lib.hid (fun c => wsort_any c w)
  obtain ⟨f0, hf0⟩ : ∃ f, wordF x 0 = f := ⟨_, rfl⟩
  obtain ⟨g0, hg0⟩ : ∃ g, signF x 0 = g := ⟨_, rfl⟩
  have HF0 := Lib.hid hf0
  have HG0 := Lib.hid hg0
  clear hget hf0 hg0 hx
  go_enter Tryd.func25, Tryd.ntmps25
  by_cases hz : 0 < s.size
  · have hc := HC0.out s[0]
    obtain ⟨v, hv⟩ : ∃ v, wsort s[0] = v := ⟨_, rfl⟩
    rw [hv] at hc
    have HC := Lib.hid hc
    have hf : f0 = decide (v = 1) := by
      have := HXL.out
      rw [← HF0.out, wordF_zero, ← hv, HGET.out 0 hz]
      cases x with
      | nil => simp at this; omega
      | cons c r => rfl
    have hg : g0 = true := by
      have := HXL.out
      rw [← HG0.out, signF_zero]
      cases x with
      | nil => simp at this; omega
      | cons c r => rfl
    subst hf hg
    clear hc hv
    have kk : ((v : Int) == 1) = decide (v = 1) := by
      by_cases h : v = 1
      · subst h; rfl
      · rw [decide_eq_false h, beq_eq_false_iff_ne]; omega
    go_wp2_with (go_at_call 39; (with_reducible refine HC.out.mono ?_); rintro e w' ⟨rfl, rfl⟩)
    go_loop [3, 4, 5] (fun a b i => ∃ k : Nat, k ≤ s.size ∧ a = .bool (wordF x k) ∧ b = .bool (signF x k) ∧ i = .int .i64 k) (fun _ _ i => s.size - (intOf i).toNat)
    case atStart => exact ⟨0, Nat.zero_le _, by rw [HF0.out], by rw [HG0.out], rfl⟩
    case round =>
      obtain ⟨k, hk, rfl, rfl, rfl⟩ := hrel
      by_cases hlt : k < s.size
      · have hc := HC0.out s[k]
        obtain ⟨u, hu⟩ : ∃ u, wsort s[k] = u := ⟨_, rfl⟩
        rw [hu] at hc
        have HC := Lib.hid hc
        have hkx : k < x.length := by have := HXL.out; omega
        have hw := wordF_succ hkx
        have hg := signF_succ hkx
        rw [← HGET.out k hlt, hu] at hw hg
        have HW := Lib.hid hw
        have HGG := Lib.hid hg
        clear hc hu hw hg kk
        obtain ⟨b1, hb1⟩ : ∃ b, wordF x k = b := ⟨_, rfl⟩
        obtain ⟨b2, hb2⟩ : ∃ b, signF x k = b := ⟨_, rfl⟩
        rw [hb1] at HW
        rw [hb2] at HGG
        rw [hb1, hb2]
        clear hb1 hb2
        have hcase : u = 1 ∨ u = 2 ∨ u = 3 ∨ (u ≠ 1 ∧ u ≠ 2 ∧ u ≠ 3) := by omega
        rcases hcase with rfl | rfl | rfl | ⟨h1, h2, h3⟩
        case inr.inr.inr =>
          have k1 : ((u : Int) == 1) = false := by rw [beq_eq_false_iff_ne]; omega
          have k2 : ((u : Int) == 2) = false := by rw [beq_eq_false_iff_ne]; omega
          have k3 : ((u : Int) == 3) = false := by rw [beq_eq_false_iff_ne]; omega
          have hw2 : wordF x (k + 1) = false := by rw [HW.out, decide_eq_false h1, decide_eq_false h2]; simp
          have hg2 : signF x (k + 1) = false := by rw [HGG.out, decide_eq_false h3]; simp
          have HW2 := Lib.hid hw2
          have HG2 := Lib.hid hg2
          clear hw2 hg2 h1 h2 h3 HW HGG
          cases b1 <;> cases b2
          all_goals
            go_wp2_with (go_at_call 39; (with_reducible refine HC.out.mono ?_); rintro e w' ⟨rfl, rfl⟩)
            go_round
            case rel => exact ⟨k + 1, by omega, by rw [HW2.out], by rw [HG2.out], by go_num⟩
            case measure => simp [intOf]; omega
        case inl =>
          have hw2 : wordF x (k + 1) = b1 := by rw [HW.out]; cases b1 <;> rfl
          have hg2 : signF x (k + 1) = false := by rw [HGG.out]; cases b2 <;> rfl
          have HW2 := Lib.hid hw2
          have HG2 := Lib.hid hg2
          clear hw2 hg2 HW HGG
          cases b1 <;> cases b2
          all_goals
            go_wp2_with (go_at_call 39; (with_reducible refine HC.out.mono ?_); rintro e w' ⟨rfl, rfl⟩)
            go_round
            case rel => exact ⟨k + 1, by omega, by rw [HW2.out], by rw [HG2.out], by go_num⟩
            case measure => simp [intOf]; omega
        case inr.inl =>
          have hw2 : wordF x (k + 1) = b1 := by rw [HW.out]; cases b1 <;> rfl
          have hg2 : signF x (k + 1) = false := by rw [HGG.out]; cases b2 <;> rfl
          have HW2 := Lib.hid hw2
          have HG2 := Lib.hid hg2
          clear hw2 hg2 HW HGG
          cases b1 <;> cases b2
          all_goals
            go_wp2_with (go_at_call 39; (with_reducible refine HC.out.mono ?_); rintro e w' ⟨rfl, rfl⟩)
            go_round
            case rel => exact ⟨k + 1, by omega, by rw [HW2.out], by rw [HG2.out], by go_num⟩
            case measure => simp [intOf]; omega
        case inr.inr.inl =>
          have hw2 : wordF x (k + 1) = false := by rw [HW.out]; cases b1 <;> rfl
          have hg2 : signF x (k + 1) = b2 := by rw [HGG.out]; cases b2 <;> rfl
          have HW2 := Lib.hid hw2
          have HG2 := Lib.hid hg2
          clear hw2 hg2 HW HGG
          cases b1 <;> cases b2
          all_goals
            go_wp2_with (go_at_call 39; (with_reducible refine HC.out.mono ?_); rintro e w' ⟨rfl, rfl⟩)
            go_round
            case rel => exact ⟨k + 1, by omega, by rw [HW2.out], by rw [HG2.out], by go_num⟩
            case measure => simp [intOf]; omega
      · obtain rfl : s.size = k := by omega
        obtain ⟨b1, hb1⟩ : ∃ b, wordF x s.size = b := ⟨_, rfl⟩
        obtain ⟨b2, hb2⟩ : ∃ b, signF x s.size = b := ⟨_, rfl⟩
        have hpl := plain_is x
        rw [HXL.out, hb1, hb2] at hpl
        rw [hb1, hb2]
        have hfin : plainN x = true → s = ⟨(nmX x).toArray⟩ := fun h => by
          unfold nmX
          rw [if_pos h, ← HX.out]
          cases s
          simp [bsN]
        have HFIN := Lib.hid hfin
        have e1 : s.toList = x := by rw [bsN_toList, HX.out]
        have E1 := Lib.hid e1
        clear hb1 hb2 kk hfin e1
        cases b1 with
        | true =>
          have HPL := Lib.hid (show plainN x = true by rw [hpl]; rfl)
          clear hpl
          go_wp2_with fail
          go_ret
          exact ⟨congrArg (fun z => Ending.returned (.string z)) (HFIN.out HPL.out), rfl⟩
        | false =>
        cases b2 with
        | true =>
          have HPL := Lib.hid (show plainN x = true by rw [hpl]; rfl)
          clear hpl
          go_wp2_with fail
          go_ret
          exact ⟨congrArg (fun z => Ending.returned (.string z)) (HFIN.out HPL.out), rfl⟩
        | false =>
        by_cases q1 : x = [33]
        · have HPL := Lib.hid (show plainN x = true by rw [hpl, decide_eq_true q1]; rfl)
          have t1 : s.toList = [33] := E1.out.trans q1
          clear hpl q1
          go_wp2_with fail
          go_ret
          exact ⟨congrArg (fun z => Ending.returned (.string z)) (HFIN.out HPL.out), rfl⟩
        have n1 : (s.toList = [33]) = False := by simp only [eq_iff_iff, iff_false]; rw [E1.out]; exact q1
        have m1 : (s.toList == [33]) = false := by rw [E1.out, beq_eq_false_iff_ne]; exact q1
        by_cases q2 : x = [59]
        · have HPL := Lib.hid (show plainN x = true by rw [hpl, decide_eq_true q2]; simp)
          have t1 : s.toList = [59] := E1.out.trans q2
          clear hpl q1 q2
          go_wp2_with fail
          go_ret
          exact ⟨congrArg (fun z => Ending.returned (.string z)) (HFIN.out HPL.out), rfl⟩
        have n2 : (s.toList = [59]) = False := by simp only [eq_iff_iff, iff_false]; rw [E1.out]; exact q2
        have m2 : (s.toList == [59]) = false := by rw [E1.out, beq_eq_false_iff_ne]; exact q2
        by_cases q3 : x = [91, 93]
        · have HPL := Lib.hid (show plainN x = true by rw [hpl, decide_eq_true q3]; simp)
          have t1 : s.toList = [91, 93] := E1.out.trans q3
          clear hpl q1 q2 q3
          go_wp2_with fail
          go_ret
          exact ⟨congrArg (fun z => Ending.returned (.string z)) (HFIN.out HPL.out), rfl⟩
        have n3 : (s.toList = [91, 93]) = False := by simp only [eq_iff_iff, iff_false]; rw [E1.out]; exact q3
        have m3 : (s.toList == [91, 93]) = false := by rw [E1.out, beq_eq_false_iff_ne]; exact q3
        have HPL := Lib.hid (show plainN x = false by rw [hpl, decide_eq_false q1, decide_eq_false q2, decide_eq_false q3]; rfl)
        clear hpl q1 q2 q3 HFIN
        go_wp2_with fail
        go_loop [6, 7] (fun o i => ∃ (k : Nat) (y : List UInt8), k ≤ s.size ∧ o = .string ⟨y.toArray⟩ ∧ i = .int .i64 k ∧ Hid (y = 39 :: dbl (x.take k)) ∧ y.length ≤ 2 * k + 1) (fun _ i => s.size - (intOf i).toNat)
        case atStart => exact ⟨0, [39], Nat.zero_le _, rfl, rfl, Lib.hid rfl, by simp⟩
        case round =>
          obtain ⟨k, y, hk, rfl, rfl, hy, hyl⟩ := hrel
          have HY := Lib.hid hy.out
          clear hy
          have l1 : (9223372036854775807 < y.length + 1) = False := by simp only [eq_iff_iff, iff_false]; omega
          by_cases hlt : k < s.size
          · have hkx : k < x.length := by have := HXL.out; omega
            have htk : x.take (k + 1) = x.take k ++ [s[k]] := by rw [HGET.out k hlt, List.take_succ_eq_append_getElem hkx]
            have hsl := fun u => run_byteN Tryd.underlying9 s k hlt u
            have j0 : (0 : Int) ≤ (k : Int) := by omega
            by_cases h39 : s[k] = 39
            · have hb : ((s[k].toNat : Int) == 39) = true := by rw [h39]; rfl
              obtain ⟨y1, hy1⟩ : ∃ y1, y ++ [39] = y1 := ⟨_, rfl⟩
              obtain ⟨y2, hy2⟩ : ∃ y2, y1 ++ [39] = y2 := ⟨_, rfl⟩
              have hl1 : y1.length = y.length + 1 := by rw [← hy1]; simp
              have hl2 : y2.length = y.length + 2 := by rw [← hy2]; simp [hl1]
              have l2 : (9223372036854775807 < y1.length + 1) = False := by simp only [eq_iff_iff, iff_false]; omega
              have e1 : (⟨y.toArray⟩ ++ ⟨#[39]⟩ : ByteArray) = ⟨y1.toArray⟩ := by rw [← hy1]; exact ba_app y [39]
              have e2 : (⟨y1.toArray⟩ ++ ⟨#[39]⟩ : ByteArray) = ⟨y2.toArray⟩ := by rw [← hy2]; exact ba_app y1 [39]
              have HY2 := Lib.hid (show y2 = 39 :: dbl (x.take (k + 1)) by rw [← hy2, ← hy1, HY.out, htk, dbl_snoc, h39, if_pos rfl]; simp)
              have hyl2 : y2.length ≤ 2 * (k + 1) + 1 := by omega
              have hsl2 : ∀ u, (Instr.slice 9 (.string s) (some (.int .i64 (k : Int))) (some (.int .i64 ((k : Int) + 1))) none).run Tryd.prog u = .ok (.string ⟨#[39]⟩) u := fun u => by rw [hsl u, h39]
              clear hsl htk hy1 hy2 h39
              clear hl2
              go_wp2_with fail
              go_round
              case rel => exact ⟨k + 1, y2, by omega, rfl, by go_num, HY2, hyl2⟩
              case measure => simp [intOf]; omega
            · have hb : ((s[k].toNat : Int) == 39) = false := by
                rw [beq_eq_false_iff_ne]
                intro e
                exact h39 (UInt8.toNat_inj.1 (by rw [show (39 : UInt8).toNat = 39 from rfl]; omega))
              obtain ⟨y2, hy2⟩ : ∃ y2, y ++ [s[k]] = y2 := ⟨_, rfl⟩
              have hl2 : y2.length = y.length + 1 := by rw [← hy2]; simp
              have e2 : (⟨y.toArray⟩ ++ ⟨#[s[k]]⟩ : ByteArray) = ⟨y2.toArray⟩ := by rw [← hy2]; exact ba_app y [s[k]]
              have HY2 := Lib.hid (show y2 = 39 :: dbl (x.take (k + 1)) by rw [← hy2, HY.out, htk, dbl_snoc, if_neg h39]; simp)
              have hyl2 : y2.length ≤ 2 * (k + 1) + 1 := by omega
              clear htk hy2 h39 hl2
              go_wp2_with fail
              go_round
              case rel => exact ⟨k + 1, y2, by omega, rfl, by go_num, HY2, hyl2⟩
              case measure => simp [intOf]; omega
          · obtain rfl : s.size = k := by omega
            have e3 : (⟨y.toArray⟩ ++ ⟨#[39]⟩ : ByteArray) = ⟨(nmX x).toArray⟩ := by
              have h1 := HY.out
              rw [← HXL.out, List.take_length] at h1
              unfold nmX
              rw [if_neg (by rw [HPL.out]; simp), h1]
              exact ba_app (39 :: dbl x) [39]
            go_wp2_with fail
            go_ret
            exact ⟨rfl, rfl⟩
  · obtain rfl : s = ⟨#[]⟩ := ByteArray.ext (Array.eq_empty_of_size_eq_zero (by have : s.size = s.data.size := rfl; omega))
    obtain rfl : x = [] := List.eq_nil_of_length_eq_zero (by have := HXL.out; rw [this]; rfl)
    clear HX HXL HGET HF0 HG0 HC0 hxl hs hz
    go_wp2_with fail
    go_loop [3, 4, 5] (fun a b i => a = .bool false ∧ b = .bool false ∧ i = .int .i64 0) (fun _ _ _ => 0)
    case atStart => exact ⟨rfl, rfl, rfl⟩
    case round =>
      obtain ⟨rfl, rfl, rfl⟩ := hrel
      go_wp2_with fail
      go_loop [6, 7] (fun o i => o = .string ⟨#[39]⟩ ∧ i = .int .i64 0) (fun _ _ => 0)
      case atStart => exact ⟨rfl, rfl⟩
      case round =>
        obtain ⟨rfl, rfl⟩ := hrel
        go_wp2_with fail
        go_ret
        exact ⟨rfl, rfl⟩
end Go.Proofs.YtliapkajonbndaaDoor
