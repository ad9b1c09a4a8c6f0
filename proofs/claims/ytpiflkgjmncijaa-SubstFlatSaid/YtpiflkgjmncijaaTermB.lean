/-
  The program's tests of one term's own fields, and its Same.
-/
import Derived.Test.YtpiflkgjmncijaaRefE
import Derived.Lib.Hide
namespace Go.Proofs.Ytpiflkgjmncijaa
open Go.RowKit

def nameR (s : ByteArray) : Bool := decide (1 ≤ s.size) && decide (s.size ≤ 20) && Tm.nameOk s
def aloneR (k : Int) (s : ByteArray) (n : Int) (m : Nat) : Bool :=
  if k = 1 then decide (0 ≤ n) && decide (n < 1000000) && decide (s.toList = []) && ((m : Int) == 0)
  else if k = 2 then decide (s.toList = []) && ((m : Int) == 0)
  else if k = 3 then decide (n = 0) && nameR s && decide ((m : Int) ≤ 8)
  else false

set_option maxHeartbeats 400000 in
theorem rightName_any (s : ByteArray) (w : World) : Calls Try.prog 72 #[.string s] w fun e w' => e = .returned (.bool (nameR s)) ∧ w' = w := by
  by_cases h0 : s.toList = []
  · have hf : nameR s = false := by simp [nameR, (size0 s).2 h0]
    have HF := Lib.hid hf
    clear hf
    go_enter Try.func72, Try.ntmps72
    go_wp2_with fail
    go_ret
    exact ⟨by rw [HF.out]; rfl, rfl⟩
  · have hs0 : 1 ≤ s.size := by
      rcases Nat.eq_zero_or_pos s.size with h | h
      · exact absurd ((size0 s).1 h) h0
      · exact h
    by_cases h20 : 20 < s.size
    · have hf : nameR s = false := by simp [nameR]; intro _ h; omega
      have HF := Lib.hid hf
      clear hf
      go_enter Try.func72, Try.ntmps72
      go_wp2_with fail
      go_ret
      exact ⟨by rw [HF.out]; rfl, rfl⟩
    · have hf : nameR s = Tm.nameOk s := by simp [nameR, hs0]; intro h; omega
      have he : s.toList.isEmpty = false := by simpa using h0
      have HF := Lib.hid hf
      clear hf
      go_enter Try.func72, Try.ntmps72
      go_wp2_with fail
      go_loop [3, 13] (fun _ i => ∃ k : Nat, k ≤ s.size ∧ i = .int .i64 k ∧ Hid (∀ j (h : j < s.size), j < k → Tm.byteOk s[j] = true)) (fun _ i => s.size - (intOf i).toNat)
      case atStart => exact ⟨0, Nat.zero_le _, rfl, fun j _ h => by omega⟩
      case round =>
        obtain ⟨k, hk, rfl, hp⟩ := hrel
        by_cases hlt : k < s.size
        · by_cases h32 : s[k].toNat < 32
          · have hr : Tm.nameOk s = false := by
              rw [Bool.eq_false_iff]
              intro h
              have := (nameOk_iff s).1 h k hlt
              simp [Tm.byteOk] at this
              omega
            have HR := Lib.hid hr
            clear hr
            go_wp2_with fail
            go_ret
            exact ⟨by rw [HF.out, HR.out]; rfl, rfl⟩
          · by_cases h126 : 126 < s[k].toNat
            · have hr : Tm.nameOk s = false := by
                rw [Bool.eq_false_iff]
                intro h
                have := (nameOk_iff s).1 h k hlt
                simp [Tm.byteOk] at this
                omega
              have HR := Lib.hid hr
              clear hr
              go_wp2_with fail
              go_ret
              exact ⟨by rw [HF.out, HR.out]; rfl, rfl⟩
            · have hr : Tm.byteOk s[k] = true := by simp [Tm.byteOk]; omega
              have HR := Lib.hid hr
              clear hr
              go_wp2_with fail
              go_round
              case rel =>
                refine ⟨k + 1, by omega, by go_num, fun j hj hjk => ?_⟩
                by_cases hjj : j < k
                · exact hp.out j hj hjj
                · obtain rfl : j = k := by omega
                  exact HR.out
              case measure => simp [intOf]; omega
        · have hr : Tm.nameOk s = true := (nameOk_iff s).2 fun j hj => hp.out j hj (by omega)
          have HR := Lib.hid hr
          obtain rfl : k = s.size := by omega
          clear hr hp
          go_wp2_with fail
          go_ret
          exact ⟨by rw [HF.out, HR.out]; rfl, rfl⟩

set_option maxHeartbeats 400000 in
theorem rightAlone_any (k : Int) (s : ByteArray) (n : Int) (g : Option Addr) (m cap : Nat) (w : World) :
    Calls Try.prog 56 #[.agg #[.int .i64 k, .string s, .int .i64 n, .slice g m cap]] w fun e w' => e = .returned (.bool (aloneR k s n m)) ∧ Below w.heap.size w w' := by
  have hB := (Below.refl w.heap.size w).alloc (Nat.le_refl _) (.cells #[.int .i64 k, .string s, .int .i64 n, .slice g m cap] 24)
  by_cases hk1 : k = 1
  · subst hk1
    go_enter Try.func56, Try.ntmps56
    go_wp2_with fail
    all_goals go_ret
    all_goals refine ⟨?_, hB⟩
    all_goals refine ret_bool ?_
    all_goals simp [aloneR, *]
    all_goals omega
  · have hk1b : (k == 1) = false := by simpa using hk1
    by_cases hk2 : k = 2
    · subst hk2
      go_enter Try.func56, Try.ntmps56
      go_wp2_with fail
      all_goals go_ret
      all_goals refine ⟨?_, hB⟩
      all_goals refine ret_bool ?_
      all_goals simp [aloneR, *]
    · have hk2b : (k == 2) = false := by simpa using hk2
      by_cases hk3 : k = 3
      · subst hk3
        by_cases hn : n = 0
        · subst hn
          go_enter Try.func56, Try.ntmps56
          go_wp2_with fail
          refine (rightName_any s _).mono ?_
          rintro e w1 ⟨rfl, rfl⟩
          cases hq : nameR s with
          | true =>
            go_wp2_with fail
            go_ret
            refine ⟨?_, hB⟩
            refine ret_bool ?_
            simp [aloneR, *]
          | false =>
            go_wp2_with fail
            go_ret
            refine ⟨?_, hB⟩
            refine ret_bool ?_
            simp [aloneR, *]
        · have hnb : (n == 0) = false := by simpa using hn
          go_enter Try.func56, Try.ntmps56
          go_wp2_with fail
          go_ret
          refine ⟨?_, hB⟩
          refine ret_bool ?_
          simp [aloneR, *]
      · have hk3b : (k == 3) = false := by simpa using hk3
        go_enter Try.func56, Try.ntmps56
        go_wp2_with fail
        go_ret
        refine ⟨?_, hB⟩
        refine ret_bool ?_
        simp [aloneR, *]

/-- What 'Same' must give at each pair. -/
def SameAt (t : Tm) : Prop := ∀ (u : Tm) (w : World) (B : Nat) (sv sv' : Value), B ≤ w.heap.size → Tm.inn w B t sv → Tm.inn w B u sv' →
    Calls Try.prog 21 #[.agg #[.int .i64 t.kind, .string t.name, .int .i64 t.n, sv], .agg #[.int .i64 u.kind, .string u.name, .int .i64 u.n, sv']] w
      fun e w' => e = .returned (.bool (t.same u)) ∧ Below w.heap.size w w'

set_option maxHeartbeats 800000 in
theorem equalFunc_any (l l' : List Tm) (ih : ∀ t ∈ l, SameAt t) (w : World) (B : Nat) (sv sv' : Value) (hB : B ≤ w.heap.size) (hsl : Tm.sliceIn w B l sv) (hsl' : Tm.sliceIn w B l' sv') :
    Calls Try.prog 47 #[sv, sv', .func (.func 21) #[] #[]] w fun e w' => e = .returned (.bool (decide (l = l'))) ∧ Below w.heap.size w w' := by
  have hsl0 := hsl
  have hsl1 := hsl'
  obtain ⟨g, cap, rfl, hcap, hlen, _⟩ := hsl0
  obtain ⟨g', cap', rfl, hcap', hlen', _⟩ := hsl1
  have hsl2 := Lib.hid hsl
  have hsl2' := Lib.hid hsl'
  clear hsl hsl'
  by_cases hl : l.length = l'.length
  · obtain ⟨m, hm1, hm2⟩ : ∃ m, l.length = m ∧ l'.length = m := ⟨_, hl, rfl⟩
    rw [hm1] at hcap hlen ⊢
    rw [hm2] at hcap' hlen' ⊢
    have HL := Lib.hid hm1
    have HM := Lib.hid hm2
    clear hl hm1 hm2
    go_enter Try.func47, Try.ntmps47
    go_wp2_with fail
    go_loopw [7, 8, 9, 17] (fun _ _ _ i wr => ∃ k : Nat, k ≤ m ∧ i = .int .i64 k ∧ Hid (l.take k = l'.take k) ∧ Below w.heap.size w wr) (fun _ _ _ i _ => m - (intOf i).toNat)
    case atStart => exact ⟨0, Nat.zero_le _, rfl, (by simp [Hid]), Below.refl _ _⟩
    case round =>
      obtain ⟨k, hk, rfl, hp, hb⟩ := hrel
      by_cases hlt : k < m
      · obtain ⟨b, off, sv, rfl, hbB, g0, g1, g2, g3, hin⟩ := Tm.sliceIn_get (Tm.sliceIn_below hsl2.out hb hB) k (by rw [HL.out]; exact hlt)
        obtain ⟨b', off', sv', rfl, hbB', g0', g1', g2', g3', hin'⟩ := Tm.sliceIn_get (Tm.sliceIn_below hsl2'.out hb hB) k (by rw [HM.out]; exact hlt)
        obtain ⟨_, ga, capa, rfl, _, _, _⟩ := Tm.inn_iff.1 hin
        obtain ⟨_, gb, capb, rfl, _, _, _⟩ := Tm.inn_iff.1 hin'
        have hst := Lib.hid (sames_take_succ (l := l) (l' := l') (by rw [HL.out, HM.out]) (k := k) (by rw [HL.out]; exact hlt) hp.out)
        have hih := Lib.hid (ih _ (List.getElem_mem (by rw [HL.out]; exact hlt)) (l'[k]'(by rw [HM.out]; exact hlt)))
        have hin2 := Lib.hid hin
        have hin2' := Lib.hid hin'
        have hbs := hb.size
        have hbw : b < wr.heap.size := by omega
        have hbw' : b' < wr.heap.size := by omega
        clear ih hin hin'
        go_wp2_with fail
        refine (hih.out _ B _ _ (by simp; omega) (Tm.inn_below hin2.out (n₀ := wr.heap.size) (((Below.refl _ _).alloc (Nat.le_refl _) _).alloc (by simp) _) (by omega)) (Tm.inn_below hin2'.out (n₀ := wr.heap.size) (((Below.refl _ _).alloc (Nat.le_refl _) _).alloc (by simp) _) (by omega))).mono ?_
        rintro e w1 ⟨rfl, hb1⟩
        have hb2 : Below wr.heap.size wr w1 := (((Below.refl _ _).alloc (Nat.le_refl _) _).alloc (by simp) _).trans (hb1.mono (by simp; omega))
        clear hb1 hih
        cases hq : Tm.same (l[k]'(by rw [HL.out]; exact hlt)) (l'[k]'(by rw [HM.out]; exact hlt)) with
        | true =>
          have hr := Lib.hid (hst.out.1 hq)
          clear hst hq
          go_wp2_with fail
          go_roundw
          case rel =>
            exact ⟨k + 1, by omega, by go_num, hr, hb.trans (hb2.mono (by omega))⟩
          case measure => simp [intOf]; omega
        | false =>
          have hr := Lib.hid (decide_eq_false (hst.out.2 hq))
          clear hst hq
          go_wp2_with fail
          go_ret
          exact ⟨by rw [hr.out]; rfl, hb.trans (hb2.mono (by omega))⟩
      · have : k = m := by omega
        have hll : l = l' := by
          have := hp.out
          rwa [List.take_of_length_le (by rw [HL.out]; omega), List.take_of_length_le (by rw [HM.out]; omega)] at this
        have hr := Lib.hid (decide_eq_true hll)
        clear ih hll
        subst this
        go_wp2_with fail
        go_ret
        exact ⟨by rw [hr.out]; rfl, hb⟩
  · have hr : decide (l = l') = false := decide_eq_false (fun e => hl (by rw [e]))
    have hr2 := Lib.hid hr
    clear hr ih
    have hl2 : ((l.length : Int) != (l'.length : Int)) = true := by rw [bne_iff_ne]; omega
    go_enter Try.func47, Try.ntmps47
    go_wp2_with fail
    go_ret
    exact ⟨by rw [hr2.out]; rfl, Below.refl _ _⟩

set_option maxHeartbeats 400000 in
theorem tsame_any : ∀ (t : Tm), SameAt t := by
  refine Tm.ind fun k s n l ih u w B sv sv' hB hin hin' => ?_
  obtain ⟨k', s', n', l'⟩ := u
  obtain ⟨_, hsl⟩ := Tm.inn_mk.1 hin
  obtain ⟨_, hsl'⟩ := Tm.inn_mk.1 hin'
  have hsl0 := hsl
  have hsl1 := hsl'
  obtain ⟨g, cap, rfl, hcap, hlen, _⟩ := hsl0
  obtain ⟨g', cap', rfl, hcap', hlen', _⟩ := hsl1
  simp only [Tm.kind, Tm.name, Tm.n]
  clear hin hin'
  have hf : Tm.same (.mk k s n l) (.mk k' s' n' l') = (decide (k = k') && decide (s = s') && decide (n = n') && decide (l = l')) := by
    rw [Tm.same_eq, Bool.eq_iff_iff]
    simp only [Tm.mk.injEq, decide_eq_true_eq, Bool.and_eq_true]
    constructor
    · rintro ⟨h1, h2, h3, h4⟩; exact ⟨⟨⟨h1, h2⟩, h3⟩, h4⟩
    · rintro ⟨⟨⟨h1, h2⟩, h3⟩, h4⟩; exact ⟨h1, h2, h3, h4⟩
  have hB2 := ((Below.refl w.heap.size w).alloc (Nat.le_refl _) (.cells #[.int .i64 k, .string s, .int .i64 n, .slice g l.length cap] 24)).alloc (by simp) (.cells #[.int .i64 k', .string s', .int .i64 n', .slice g' l'.length cap'] 24)
  have HB2 := Lib.hid hB2
  clear hB2
  by_cases hk : k = k'
  · subst hk
    by_cases hs : s = s'
    · subst hs
      by_cases hn : n = n'
      · subst hn
        rw [hf]
        simp only [decide_true, Bool.true_and]
        clear hf
        have HIH := Lib.hid ih
        have HS := Lib.hid hsl
        have HS' := Lib.hid hsl'
        clear ih hsl hsl'
        go_enter Try.func21, Try.ntmps21
        go_wp2_with fail
        refine (equalFunc_any l l' HIH.out _ B _ _ (by simp; omega) (Tm.sliceIn_below HS.out HB2.out hB) (Tm.sliceIn_below HS'.out HB2.out hB)).mono ?_
        rintro e w1 ⟨rfl, hb1⟩
        go_wp2_with fail
        go_ret
        exact ⟨rfl, HB2.out.trans (hb1.mono (by simp; omega))⟩
      · have hr : Tm.same (.mk k s n l) (.mk k s n' l') = false := by rw [hf]; simp [hn]
        have hr2 := Lib.hid hr
        clear hr hf ih
        have hl2 : (n == n') = false := by simpa using hn
        go_enter Try.func21, Try.ntmps21
        go_wp2_with fail
        go_ret
        exact ⟨by rw [hr2.out]; rfl, HB2.out⟩
    · have hr : Tm.same (.mk k s n l) (.mk k s' n' l') = false := by rw [hf]; simp [hs]
      have hr2 := Lib.hid hr
      clear hr hf ih
      have hl2 := neS hs
      have hl3 : (s.toList == s'.toList) = false := by simpa using hl2
      go_enter Try.func21, Try.ntmps21
      go_wp2_with fail
      go_ret
      exact ⟨by rw [hr2.out]; rfl, HB2.out⟩
  · have hr : Tm.same (.mk k s n l) (.mk k' s' n' l') = false := by rw [hf]; simp [hk]
    have hr2 := Lib.hid hr
    clear hr hf ih
    have hl2 : (k == k') = false := by simpa using hk
    go_enter Try.func21, Try.ntmps21
    go_wp2_with fail
    go_ret
    exact ⟨by rw [hr2.out]; rfl, HB2.out⟩
end Go.Proofs.Ytpiflkgjmncijaa
