/-
  The program's args and term: every fair term's text is written.
  The document's own answers on one term (size, depth, whether its fields may be, whether two are alike): what their calls give.
  The document's own answers: whether terms are few enough; whether two terms are alike.
  The document's own answers: whether two terms are alike.
  The document's own answers: whether a term is right.
  The document's own answers: whether a term is right, whole; whether Vars have no Args; rows of terms and of numbers that are alike.
-/
import Derived.Test.YtliapkajonbndaaGreatDoorPwD
import Derived.Test.YtliapkajonbndaaGreatDoorG01
import Derived.Test.YtliapkajonbndaaGreatDoorChecked
import Derived.Lib.Hide
import Derived.StillTailTactics
namespace Go.Proofs.YtliapkajonbndaaGreatDoor
open Go.RowKit

/-- What stands behind a name, and what of it is written so far. -/
def pfx (l : List Tm) (k : Nat) : List UInt8 := match l.take k with
  | [] => []
  | a :: q => 40 :: (tx a ++ cmX (wrs q))
def agX (l : List Tm) : List UInt8 := match l with
  | [] => []
  | a :: q => 40 :: (tx a ++ (cmX (wrs q) ++ [41]))
theorem cmX_more (l r : List Tm) : cmX (wrs (l ++ r)) = cmX (wrs l) ++ cmX (wrs r) := by
  induction l with
  | nil => rfl
  | cons t l ih =>
    show 44 :: (tx t ++ cmX (wrs (l ++ r))) = 44 :: (tx t ++ cmX (wrs l)) ++ cmX (wrs r)
    rw [ih]
    simp
theorem pfx_succ (l : List Tm) (k : Nat) (h : k < l.length) : pfx l (k + 1) = pfx l k ++ (if k = 0 then 40 else 44) :: tx l[k] := by
  unfold pfx
  rw [List.take_succ_eq_append_getElem h]
  cases k with
  | zero => simp [wrs, cmX]
  | succ k =>
    cases l with
    | nil => simp at h
    | cons a q =>
      simp only [List.take_succ_cons, List.cons_append, List.getElem_cons_succ]
      rw [cmX_more]
      simp [wrs, cmX, tx]
theorem pfx_all (l : List Tm) (h : l ≠ []) : agX l = pfx l l.length ++ [41] := by
  unfold pfx agX
  rw [List.take_length]
  cases l with
  | nil => exact absurd rfl h
  | cons a q => simp
theorem pfx_len (l : List Tm) (k : Nat) : (pfx l k).length ≤ (agX l).length := by
  unfold pfx agX
  cases l with
  | nil => simp
  | cons a q =>
    cases k with
    | zero => simp
    | succ k =>
      simp only [List.take_succ_cons]
      have := cmX_more (q.take k) (q.drop k)
      rw [List.take_append_drop] at this
      rw [this]
      simp only [List.length_append, List.length_cons]
      omega
structure PA (w0 : World) (b : Nat) (l : List Tm) (sv : Value) (x : List UInt8) (W : World) : Prop where
  pr : Pr b x W
  fr : PFr b w0 W
  hs : Tm.sliceIn W b l sv
  pw : Pow W
theorem PA.next {w0 : World} {b : Nat} {l : List Tm} {sv : Value} {x y : List UInt8} {W W' : World} (h : PA w0 b l sv x W) (hg : 0 < b) (hp : Pr b y W') (hf : PFr b W W') : PA w0 b l sv y W' :=
  ⟨hp, h.fr.trans hf, Tm.sliceIn_below h.hs hf.low (Nat.le_refl _), h.pw.next hf.low hg⟩
set_option maxRecDepth 100000 in
set_option maxHeartbeats 4000000 in
theorem pargs_any (l : List Tm) (hq : ∀ t ∈ l, PTm t) (hm : l.length ≤ 1000) (b : Nat) (x : List UInt8) (w : World) (sv : Value) (hpr : Pr b x w) (hsl : Tm.sliceIn w b l sv) (hpw : Pow w) (hpg : 0 < b) (hlx : (x ++ agX l).length ≤ 8000000000) :
    Calls Tryz.prog 33 #[.pointer (some ⟨b, 0, none⟩), sv] w fun e w' => e = .returned (.tuple #[]) ∧ Pr b (x ++ agX l) w' ∧ PFr b w w' := by
  obtain ⟨g, cap, rfl, -, -, -⟩ := id hsl
  have HPA := Lib.hid (show PA w b l (.slice g l.length cap) x w from ⟨hpr, PFr.refl _ _, hsl, hpw⟩)
  have HQ := Lib.hid hq
  have hlx2 : x.length + (agX l).length ≤ 8000000000 := by rw [List.length_append] at hlx; exact hlx
  clear hpr hsl hpw hlx hq
  obtain ⟨m, hm0⟩ : ∃ m, l.length = m := ⟨_, rfl⟩
  rw [hm0] at hm HPA ⊢
  have HM := Lib.hid hm0
  clear hm0
  by_cases hz : m = 0
  · subst hz
    obtain rfl : l = [] := List.eq_nil_of_length_eq_zero HM.out
    go_enter Tryz.func33, Tryz.ntmps33
    go_wp2_with fail
    refine bodyPost_ret (results_none rfl _ _ _) rfl ?_
    exact ⟨rfl, by have h := HPA.out.pr; simpa [agX] using h, HPA.out.fr⟩
  have hne : l ≠ [] := by rintro rfl; exact hz HM.out.symm
  have HAL := Lib.hid (pfx_all l hne)
  have HLE := Lib.hid (fun k => pfx_len l k)
  have k0 : ((m : Int) == 0) = false := by rw [beq_eq_false_iff_ne]; omega
  clear hz hne
  go_enter Tryz.func33, Tryz.ntmps33
  go_wp2_with fail
  go_loopw [11] (fun i wr => ∃ k : Nat, k ≤ m ∧ i = .int .i64 k ∧ Hid (PA w b l (.slice g m cap) (x ++ pfx l k) wr)) (fun i _ => m - (intOf i).toNat)
  case atStart => exact ⟨0, Nat.zero_le _, rfl, Lib.hid (by have h := HPA.out; simpa [pfx] using h)⟩
  case round =>
    obtain ⟨k, hk, rfl, hpa⟩ := hrel
    have HP := Lib.hid hpa.out
    clear hpa
    have hXl := HLE.out k
    by_cases hlt : k < m
    · have hlt' : k < l.length := by rw [HM.out]; exact hlt
      have hsl : Tm.sliceIn wr b l (.slice g m cap) := HP.out.hs
      obtain ⟨ab, ao, gs, ms, cs, rfl, hab, g0, g1, g2, g3, hia⟩ := arg_at hsl k hlt'
      have hsu := pfx_succ l k hlt'
      have htm := HQ.out _ (List.getElem_mem hlt')
      generalize l[k] = t at g0 g1 g2 g3 hia hsu htm
      have hl9 := HLE.out (k + 1)
      rw [hsu] at hl9
      have hl8 : x.length + (pfx l k).length + 1 + (tx t).length ≤ 8000000000 := by
        simp only [List.length_append, List.length_cons] at hl9
        omega
      have HSU := Lib.hid hsu
      have HTM := Lib.hid htm
      have HN := Lib.hid (PS.new HP.out.pr hia HP.out.pw hpg)
      have hbw := Nat.le_of_lt (Nat.lt_trans hab HP.out.pr.lt)
      have hbw2 : ab < wr.heap.size := Nat.lt_trans hab HP.out.pr.lt
      clear hsl hia hsu htm hl9
      have j0 : (0 : Int) ≤ (k : Int) := by omega
      have j1 : (k : Int) < (m : Int) := by omega
      have jz : (0 : Int) + (k : Int) = (k : Int) := by omega
      have jw : IntKind.i64.wrap (k : Int) = (k : Int) := by rw [IntKind.wrap_i64]; omega
      go_upto_region 4 with fail
      have HN1 := Lib.hid HN.out
      have HPV := Lib.hid (HP.out.next hpg HN1.out.pr HN1.out.fr)
      generalize wr.alloc (.cells #[.int .i64 t.kind, .string t.name, .int .i64 t.n, .slice gs ms cs] 24) = V at HN1 HPV ⊢
      have hXl2 : (x ++ pfx l k).length + 1 + (tx t).length ≤ 8000000000 := by rw [List.length_append]; omega
      clear g0 g1 g2 g3
      by_cases hk0 : k = 0
      · subst hk0
        have HSU2 := Lib.hid (show pfx l (0 + 1) = pfx l 0 ++ 40 :: tx t by rw [HSU.out]; rfl)
        have kk : ((0 : Int) == 0) = true := rfl
        go_upto_region 7 with (go_at_call 26; (with_reducible refine (pbyte_k b (x ++ pfx l 0) 40 40 rfl _ HN1.out.pr (by omega)).mono ?_); rintro e u2 ⟨rfl, hp, hf⟩; have HS2 := Lib.hid (HN1.out.next hp hf); have HP2 := Lib.hid (HPV.out.next hpg hp hf); have d0 : u2.cell? ⟨wr.heap.size, 0, none⟩ = some (.int .i64 t.kind) := HS2.out.cells.1; have d1 : u2.cell? ⟨wr.heap.size, 1, none⟩ = some (.string t.name) := HS2.out.cells.2.1; have d2 : u2.cell? ⟨wr.heap.size, 2, none⟩ = some (.int .i64 t.n) := HS2.out.cells.2.2.1; have d3 : u2.cell? ⟨wr.heap.size, 3, none⟩ = some (.slice gs ms cs) := HS2.out.cells.2.2.2.1; have dl := HS2.out.cells.2.2.2.2; clear hp hf)
        have HA := Lib.hid (HTM.out b (x ++ pfx l 0 ++ [40]) u2 _ HS2.out.pr HS2.out.hi HS2.out.pw hpg (by simp only [List.length_append, List.length_cons, List.length_nil] at hXl2 ⊢; omega))
        go_wp2_with (go_at_call 16; (with_reducible refine (HA.out).mono ?_); rintro e u3 ⟨rfl, hp, hf⟩; have HP3 := Lib.hid (HP2.out.next hpg hp hf); clear hp hf)
        have e9 : x ++ pfx l 0 ++ [40] ++ tx t = x ++ pfx l (0 + 1) := by rw [HSU2.out]; simp
        rw [e9] at HP3
        have HP4 := Lib.hid HP3.out
        clear e9
        go_roundw
        case rel => exact ⟨0 + 1, by omega, by go_num, HP4⟩
        case measure => simp [intOf]; omega
      · skip
        have HSU2 := Lib.hid (show pfx l (k + 1) = pfx l k ++ 44 :: tx t by rw [HSU.out]; simp [hk0])
        have kk : ((k : Int) == 0) = false := by rw [beq_eq_false_iff_ne]; omega
        go_upto_region 7 with (go_at_call 26; (with_reducible refine (pbyte_k b (x ++ pfx l k) 44 44 rfl _ HN1.out.pr (by omega)).mono ?_); rintro e u2 ⟨rfl, hp, hf⟩; have HS2 := Lib.hid (HN1.out.next hp hf); have HP2 := Lib.hid (HPV.out.next hpg hp hf); have d0 : u2.cell? ⟨wr.heap.size, 0, none⟩ = some (.int .i64 t.kind) := HS2.out.cells.1; have d1 : u2.cell? ⟨wr.heap.size, 1, none⟩ = some (.string t.name) := HS2.out.cells.2.1; have d2 : u2.cell? ⟨wr.heap.size, 2, none⟩ = some (.int .i64 t.n) := HS2.out.cells.2.2.1; have d3 : u2.cell? ⟨wr.heap.size, 3, none⟩ = some (.slice gs ms cs) := HS2.out.cells.2.2.2.1; have dl := HS2.out.cells.2.2.2.2; clear hp hf)
        have HA := Lib.hid (HTM.out b (x ++ pfx l k ++ [44]) u2 _ HS2.out.pr HS2.out.hi HS2.out.pw hpg (by simp only [List.length_append, List.length_cons, List.length_nil] at hXl2 ⊢; omega))
        go_wp2_with (go_at_call 16; (with_reducible refine (HA.out).mono ?_); rintro e u3 ⟨rfl, hp, hf⟩; have HP3 := Lib.hid (HP2.out.next hpg hp hf); clear hp hf)
        have e9 : x ++ pfx l k ++ [44] ++ tx t = x ++ pfx l (k + 1) := by rw [HSU2.out]; simp
        rw [e9] at HP3
        have HP4 := Lib.hid HP3.out
        clear e9
        go_roundw
        case rel => exact ⟨k + 1, by omega, by go_num, HP4⟩
        case measure => simp [intOf]; omega
    · obtain rfl : m = k := by omega
      have hXl : (x ++ pfx l m).length ≤ 8000000000 := by rw [List.length_append]; omega
      go_wp2_with (go_at_call 26; (with_reducible refine (pbyte_k b _ 41 41 rfl _ HP.out.pr (by omega)).mono ?_); rintro e u5 ⟨rfl, hp, hf⟩; have HQ5 := Lib.hid (HP.out.next hpg hp hf); clear hp hf)
      go_end0
      refine ⟨rfl, ?_, HQ5.out.fr⟩
      have h9 := HQ5.out.pr
      rw [List.append_assoc, show pfx l m ++ [41] = agX l by rw [HAL.out, HM.out]] at h9
      exact h9
theorem fair_name {k n : Int} {s : ByteArray} {l : List Tm} (hf : (Tm.mk k s n l).fair = true) : ∀ i (h : i < s.size), s[i].toNat < 128 := by
  simp only [Tm.fair, Bool.and_eq_true] at hf
  have h := hf.1.1
  unfold Tm.nameOk at h
  rw [List.all_eq_true] at h
  intro i hi
  obtain ⟨c, hc⟩ : ∃ c, s[i]'hi = c := ⟨_, rfl⟩
  rw [hc]
  have h2 : i < (bsN s).length := by rw [bsN_length]; exact hi
  have h4 : (bsN s)[i]'h2 = c := (bsN_get s i hi).trans hc
  have h3 := h c (h4 ▸ List.getElem_mem h2)
  unfold Tm.byteOk at h3
  simp only [Bool.and_eq_true, decide_eq_true_eq] at h3
  omega
theorem fair_sort {k n : Int} {s : ByteArray} {l : List Tm} (hf : (Tm.mk k s n l).fair = true) : (k = 1 ∧ 0 ≤ n ∧ s = ⟨#[]⟩ ∧ l = []) ∨ (k = 2 ∧ s = ⟨#[]⟩ ∧ l = []) ∨ (k = 3 ∧ n = 0 ∧ 0 < s.size ∧ s.size ≤ 20 ∧ l.length ≤ 8) := by
  have hnil : ∀ s : ByteArray, s.toList = [] → s = ⟨#[]⟩ := fun s h => by
    rw [bsN_toList] at h
    rw [← bsN_arr s, h]
  simp only [Tm.fair, Bool.and_eq_true] at hf
  have h := hf.2
  unfold Tm.alone at h
  by_cases h1 : k = 1
  · rw [if_pos h1] at h
    simp only [Bool.and_eq_true, decide_eq_true_eq, beq_iff_eq] at h
    exact .inl ⟨h1, h.1.1.1, hnil s h.1.2, List.eq_nil_of_length_eq_zero (by omega)⟩
  · rw [if_neg h1] at h
    by_cases h2 : k = 2
    · rw [if_pos h2] at h
      simp only [Bool.and_eq_true, decide_eq_true_eq, beq_iff_eq] at h
      exact .inr (.inl ⟨h2, hnil s h.1, List.eq_nil_of_length_eq_zero (by omega)⟩)
    · rw [if_neg h2] at h
      by_cases h3 : k = 3
      · rw [if_pos h3] at h
        simp only [Bool.and_eq_true, decide_eq_true_eq] at h
        exact .inr (.inr ⟨h3, h.1.1.1, by omega, by omega, by omega⟩)
      · rw [if_neg h3] at h
        cases h
theorem tx_fun {s : ByteArray} {n : Int} {l : List Tm} (h : ¬ (bsN s = [46] ∧ l.length = 2)) : tx (.mk 3 s n l) = nmX (bsN s) ++ agX l := by
  show txO 3 (bsN s) n (wrs l) = _
  unfold txO agX
  rw [if_neg (by decide), if_neg (by decide)]
  match l, h with
  | [], _ => simp [wrs]
  | [a], _ => simp [wrs, dotO, cmX, tx]
  | [a, c], h =>
    have : ¬ bsN s = [46] := fun e => h ⟨e, rfl⟩
    simp [wrs, dotO, this, cmX, tx]
  | a :: c :: d :: q, _ => simp [wrs, dotO, cmX, tx]
set_option maxRecDepth 100000 in
set_option maxHeartbeats 4000000 in
theorem pterm_fun {s : ByteArray} {l : List Tm} (hf : (Tm.mk 3 s 0 l).fair = true) (h0 : 0 < s.size) (h20 : s.size ≤ 20) (h8 : l.length ≤ 8) (ih : ∀ u : Tm, u.size < (Tm.mk 3 s 0 l).size → u.fair = true → PTm u) : PTm (.mk 3 s 0 l) := by
  intro b x w sv hpr hin hpw hpg hlx
  have hasc := fair_name hf
  obtain ⟨_, g, cap, rfl, -, -, -⟩ := Tm.inn_mk.1 hin
  have HS := Lib.hid (PS.new hpr hin hpw hpg)
  obtain ⟨q, hq⟩ : ∃ q, (decide (bsN s = [46]) && decide (l.length = 2)) = q := ⟨_, rfl⟩
  cases q
  · have hnp : ¬ (bsN s = [46] ∧ l.length = 2) := by simpa using hq
    have hx := tx_fun (n := 0) hnp
    rw [hx] at hlx ⊢
    have hl9 : x.length + (nmX (bsN s)).length + (agX l).length ≤ 8000000000 := by
      simp only [List.length_append] at hlx
      omega
    have HI := Lib.hid (fun W => wpair_any 3 0 s g l.length cap false hq.symm W)
    have HQ := Lib.hid (show ∀ t ∈ l, PTm t from fun t ht => ih t (by have := Tm.size_mem_le ht; simp only [Tm.size]; omega) (fair_args hf t ht))
    have HA := Lib.hid hasc
    clear hq hin hx hpr hpw hlx hf ih hasc
    obtain ⟨m, hm⟩ : ∃ m, l.length = m := ⟨_, rfl⟩
    show Calls Tryz.prog 16 #[.pointer (some ⟨b, 0, none⟩), .agg #[.int .i64 3, .string s, .int .i64 0, .slice g l.length cap]] w _
    have HS0 := Lib.hid (show PS w b (.mk 3 s 0 l) (.slice g l.length cap) w.heap.size x (w.alloc (.cells #[.int .i64 3, .string s, .int .i64 0, .slice g l.length cap] 24)) from HS.out)
    rw [hm] at HI h8 hnp HS0 ⊢
    have HM := Lib.hid hm
    clear HS hm
    go_enter Tryz.func16, Tryz.ntmps16
    go_upto_region 3 with fail
    have HS1 := Lib.hid HS0.out
    clear HS0
    generalize w.alloc (.cells #[.int .i64 3, .string s, .int .i64 0, .slice g m cap] 24) = v at HS1 ⊢
    have c0 : v.cell? ⟨w.heap.size, 0, none⟩ = some (.int .i64 3) := HS1.out.cells.1; have c1 : v.cell? ⟨w.heap.size, 1, none⟩ = some (.string s) := HS1.out.cells.2.1; have c2 : v.cell? ⟨w.heap.size, 2, none⟩ = some (.int .i64 0) := HS1.out.cells.2.2.1; have c3 : v.cell? ⟨w.heap.size, 3, none⟩ = some (.slice g m cap) := HS1.out.cells.2.2.2.1; have cl := HS1.out.cells.2.2.2.2
    go_upto_region 1 with (go_at_call 30; (with_reducible refine (HI.out _).mono ?_); rintro e u1 ⟨rfl, hb⟩; have HQ1 := Lib.hid (HS1.out.quiet hb); have d0 : u1.cell? ⟨w.heap.size, 0, none⟩ = some (.int .i64 3) := HQ1.out.cells.1; have d1 : u1.cell? ⟨w.heap.size, 1, none⟩ = some (.string s) := HQ1.out.cells.2.1; have d2 : u1.cell? ⟨w.heap.size, 2, none⟩ = some (.int .i64 0) := HQ1.out.cells.2.2.1; have d3 : u1.cell? ⟨w.heap.size, 3, none⟩ = some (.slice g m cap) := HQ1.out.cells.2.2.2.1; have dl := HQ1.out.cells.2.2.2.2; clear hb)
    clear c0 c1 c2 c3 cl
    go_upto_region 2 with (go_at_call 32; (with_reducible refine (pname_any b x s HA.out h0 (by omega) _ HQ1.out.pr (by omega)).mono ?_); rintro e u2 ⟨rfl, hp, hf⟩; have HQ2 := Lib.hid (HQ1.out.next hp hf); clear hp hf)
    have c0 : u2.cell? ⟨w.heap.size, 0, none⟩ = some (.int .i64 3) := HQ2.out.cells.1; have c1 : u2.cell? ⟨w.heap.size, 1, none⟩ = some (.string s) := HQ2.out.cells.2.1; have c2 : u2.cell? ⟨w.heap.size, 2, none⟩ = some (.int .i64 0) := HQ2.out.cells.2.2.1; have c3 : u2.cell? ⟨w.heap.size, 3, none⟩ = some (.slice g m cap) := HQ2.out.cells.2.2.2.1; have cl := HQ2.out.cells.2.2.2.2
    have hsl : Tm.sliceIn u2 b l (.slice g m cap) := (Tm.inn_mk.1 HQ2.out.hi).2
    have HAR := Lib.hid (pargs_any l HQ.out (by rw [HM.out]; omega) b (x ++ nmX (bsN s)) u2 _ HQ2.out.pr hsl HQ2.out.pw hpg (by simp only [List.length_append]; omega))
    clear hsl
    go_wp2_with (go_at_call 33; (with_reducible refine (HAR.out).mono ?_); rintro e u3 ⟨rfl, hp, hf⟩; have HQ3 := Lib.hid (HQ2.out.next hp hf); clear hp hf)
    go_end0
    refine ⟨rfl, ?_, HQ3.out.fr⟩
    have h9 := HQ3.out.pr
    rw [List.append_assoc] at h9
    exact h9
  · have hpp : bsN s = [46] ∧ l.length = 2 := by simpa using hq
    obtain ⟨hs', hl2⟩ := hpp
    obtain ⟨a', d', rfl⟩ := two_of hl2
    have HI := Lib.hid (fun W => wpair_any 3 0 s g 2 cap true (by simp [hs']) W)
    have hfa := fair_args hf
    have HL := Lib.hid (fun W (h1 : PS w b (.mk 3 s 0 [a', d']) (.slice g 2 cap) w.heap.size x W) => plist_any (n := 0) hs' ⟨hfa a' (by simp), hfa d' (by simp)⟩ ih b x W _ h1.pr h1.hi h1.pw hpg hlx)
    clear hq hin hpr hpw hf ih hasc hl2 hfa
    show Calls Tryz.prog 16 #[.pointer (some ⟨b, 0, none⟩), .agg #[.int .i64 3, .string s, .int .i64 0, .slice g 2 cap]] w _
    go_enter Tryz.func16, Tryz.ntmps16
    go_upto_region 3 with fail
    have HS1 := Lib.hid (show PS w b (.mk 3 s 0 [a', d']) (.slice g 2 cap) w.heap.size x (w.alloc (.cells #[.int .i64 3, .string s, .int .i64 0, .slice g 2 cap] 24)) from HS.out)
    clear HS
    generalize w.alloc (.cells #[.int .i64 3, .string s, .int .i64 0, .slice g 2 cap] 24) = v at HS1 ⊢
    have c0 : v.cell? ⟨w.heap.size, 0, none⟩ = some (.int .i64 3) := HS1.out.cells.1; have c1 : v.cell? ⟨w.heap.size, 1, none⟩ = some (.string s) := HS1.out.cells.2.1; have c2 : v.cell? ⟨w.heap.size, 2, none⟩ = some (.int .i64 0) := HS1.out.cells.2.2.1; have c3 : v.cell? ⟨w.heap.size, 3, none⟩ = some (.slice g 2 cap) := HS1.out.cells.2.2.2.1; have cl := HS1.out.cells.2.2.2.2
    go_upto_region 9 with (go_at_call 30; (with_reducible refine (HI.out _).mono ?_); rintro e u1 ⟨rfl, hb⟩; have HQ1 := Lib.hid (HS1.out.quiet hb); have d0 : u1.cell? ⟨w.heap.size, 0, none⟩ = some (.int .i64 3) := HQ1.out.cells.1; have d1 : u1.cell? ⟨w.heap.size, 1, none⟩ = some (.string s) := HQ1.out.cells.2.1; have d2 : u1.cell? ⟨w.heap.size, 2, none⟩ = some (.int .i64 0) := HQ1.out.cells.2.2.1; have d3 : u1.cell? ⟨w.heap.size, 3, none⟩ = some (.slice g 2 cap) := HQ1.out.cells.2.2.2.1; have dl := HQ1.out.cells.2.2.2.2; clear hb)
    clear c0 c1 c2 c3 cl
    have HAR := Lib.hid (HL.out u1 HQ1.out)
    go_wp2_with (go_at_call 31; (with_reducible refine (HAR.out).mono ?_); rintro e u3 ⟨rfl, hp, hf⟩; have HQ3 := Lib.hid (HQ1.out.next hp hf); clear hp hf)
    go_end0
    exact ⟨rfl, HQ3.out.pr, HQ3.out.fr⟩
theorem pterm_all : ∀ (N : Nat) (t : Tm), t.size < N → t.fair = true → PTm t
  | 0, t, h, _ => by omega
  | N + 1, .mk k s n l, h, hf => by
    rcases fair_sort hf with ⟨rfl, h0, rfl, rfl⟩ | ⟨rfl, rfl, rfl⟩ | ⟨rfl, rfl, h0, h20, h8⟩
    · exact pterm_var h0
    · exact pterm_num n
    · exact pterm_fun hf h0 h20 h8 fun u hu hfu => pterm_all N u (by omega) hfu
theorem pterm_any (t : Tm) (hf : t.fair = true) : PTm t := pterm_all (t.size + 1) t (Nat.lt_succ_self _) hf
end Go.Proofs.YtliapkajonbndaaGreatDoor

namespace Go.Proofs.YtliapkajonbndaaGreatDoor
open Go.RowKit



end Go.Proofs.YtliapkajonbndaaGreatDoor

namespace Go.Proofs.YtliapkajonbndaaGreatDoor
open Go.RowKit

set_option maxHeartbeats 400000 in
theorem few_any : ∀ (t : Tm) (w : World) (B : Nat) (sv : Value) (m d : Int), B ≤ w.heap.size → Tm.inn w B t sv → 0 ≤ m → m ≤ 4000 → 0 ≤ d → d ≤ 200 →
    Calls Tryz.prog 11 #[.agg #[.int .i64 t.kind, .string t.name, .int .i64 t.n, sv], .int .i64 m, .int .i64 d] w fun e w' => e = .returned (.int .i64 (t.few m d)) ∧ Below w.heap.size w w' := by
  refine Tm.ind fun k s n l ih w B sv m d hB hin hm0 hm1 hd0 hd1 => ?_
  obtain ⟨⟨_, hss, _⟩, hsl⟩ := Tm.inn_mk.1 hin
  have hsl0 := hsl
  obtain ⟨g, cap, rfl, hcap, hlen, _⟩ := hsl0
  simp only [Tm.kind, Tm.name, Tm.n]
  unfold maxLen at hss
  by_cases hc : m - 1 < 0 ∨ d < 1 ∨ 100 < (s.size : Int)
  · have hf : Tm.few (.mk k s n l) m d = -1 := by simp only [Tm.few]; rw [if_pos hc]
    have HF := Lib.hid hf
    clear hf hsl hin ih
    by_cases h1 : m - 1 < 0
    · clear hc
      go_enter Tryz.func11, Tryz.ntmps11
      go_wp2_with fail
      go_ret
      exact ⟨by rw [HF.out]; rfl, (Below.refl _ _).alloc (Nat.le_refl _) _⟩
    · by_cases h2 : d < 1
      · clear hc
        go_enter Tryz.func11, Tryz.ntmps11
        go_wp2_with fail
        go_ret
        exact ⟨by rw [HF.out]; rfl, (Below.refl _ _).alloc (Nat.le_refl _) _⟩
      · have h3 : 100 < (s.size : Int) := by omega
        clear hc
        go_enter Tryz.func11, Tryz.ntmps11
        go_wp2_with fail
        go_ret
        exact ⟨by rw [HF.out]; rfl, (Below.refl _ _).alloc (Nat.le_refl _) _⟩
  · have hf : Tm.few (.mk k s n l) m d = Tm.fews l (m - 1) (d - 1) := by simp only [Tm.few]; rw [if_neg hc]
    have h1 : 0 ≤ m - 1 := by omega
    have h2 : 1 ≤ d := by omega
    have h3 : (s.size : Int) ≤ 100 := by omega
    have hr : ∀ k, k ≤ l.length → -1 ≤ Tm.fews (l.take k) (m - 1) (d - 1) ∧ Tm.fews (l.take k) (m - 1) (d - 1) ≤ m - 1 := fun k _ =>
      Tm.fews_rng _ (fun t _ m d h => Tm.few_rng t m d h) _ _ (by omega)
    have HF := Lib.hid hf
    have HR := Lib.hid hr
    clear hf hin hc hr
    go_enter Tryz.func11, Tryz.ntmps11
    go_wp2_with fail
    go_loopw [1, 7] (fun q i wr => ∃ k : Nat, k ≤ l.length ∧ i = .int .i64 k ∧ q = .int .i64 (Tm.fews (l.take k) (m - 1) (d - 1)) ∧ Below w.heap.size w wr ∧ w.heap.size < wr.heap.size ∧ wr.cell? ⟨w.heap.size, 3, none⟩ = some (.slice g l.length cap)) (fun _ i _ => l.length - (intOf i).toNat)
    case atStart => exact ⟨0, Nat.zero_le _, rfl, by simp [Tm.fews], (Below.refl _ _).alloc (Nat.le_refl _) _, by simp, by simp⟩
    case round =>
      obtain ⟨k, hk, rfl, rfl, hb, hs, hcc⟩ := hrel
      have hrk := HR.out k hk
      by_cases hlt : k < l.length
      · by_cases hq : 0 ≤ Tm.fews (l.take k) (m - 1) (d - 1)
        · obtain ⟨b, off, sv, rfl, hbB, g0, g1, g2, g3, hin'⟩ := Tm.sliceIn_get (Tm.sliceIn_below hsl hb hB) k hlt
          have hm := Tm.fews_take_succ l k hlt (m - 1) (d - 1) hq
          have hih := ih l[k] (List.getElem_mem hlt) wr B sv (Tm.fews (l.take k) (m - 1) (d - 1)) (d - 1) (by omega) hin' hq (by omega) (by omega) (by omega)
          have HM := Lib.hid hm
          clear hm hsl ih hin'
          go_wp2_with fail
          refine hih.mono ?_
          rintro e w1 ⟨rfl, hb1⟩
          have hcc1 := (hb1.cell (p := ⟨w.heap.size, 3, none⟩) hs).trans hcc
          go_wp2_with fail
          go_roundw
          case rel =>
            refine ⟨k + 1, by omega, by go_num, ?_, hb.trans (hb1.mono (by omega)), by have := hb1.size; omega, hcc1⟩
            rw [HM.out]
          case measure => simp [intOf]; omega
        · have hst := Tm.fews_stop l k (m - 1) (d - 1) (by omega)
          have HS := Lib.hid hst
          clear hst ih hsl
          go_wp2_with fail
          go_ret
          exact ⟨by rw [HF.out, HS.out]; rfl, hb⟩
      · have : k = l.length := by omega
        subst this
        rw [List.take_length] at hrk ⊢
        clear ih hsl
        go_wp2_with fail
        go_ret
        exact ⟨by rw [HF.out]; rfl, hb⟩

set_option maxHeartbeats 400000 in
theorem some_any (l : List Tm) (w : World) (B : Nat) (sv : Value) (hB : B ≤ w.heap.size) (hsl : Tm.sliceIn w B l sv) :
    Calls Tryz.prog 4 #[sv] w fun e w' => e = .returned (.bool (Tm.someB l)) ∧ Below w.heap.size w w' := by
  have hsl0 := hsl
  obtain ⟨g, cap, rfl, hcap, hlen, _⟩ := hsl0
  have hr : ∀ k, k ≤ l.length → -1 ≤ Tm.fews (l.take k) 4000 200 ∧ Tm.fews (l.take k) 4000 200 ≤ 4000 := fun k _ =>
    Tm.fews_rng _ (fun t _ m d h => Tm.few_rng t m d h) _ _ (by omega)
  have HR := Lib.hid hr
  clear hr
  go_enter Tryz.func4, Tryz.ntmps4
  go_wp2_with fail
  go_loopw [3, 4] (fun q i wr => ∃ k : Nat, k ≤ l.length ∧ i = .int .i64 k ∧ q = .int .i64 (Tm.fews (l.take k) 4000 200) ∧ Below w.heap.size w wr) (fun _ i _ => l.length - (intOf i).toNat)
  case atStart => exact ⟨0, Nat.zero_le _, rfl, by simp [Tm.fews], Below.refl _ _⟩
  case round =>
    obtain ⟨k, hk, rfl, rfl, hb⟩ := hrel
    have hrk := HR.out k hk
    by_cases hlt : k < l.length
    · by_cases hq : 0 ≤ Tm.fews (l.take k) 4000 200
      · obtain ⟨b, off, sv, rfl, hbB, g0, g1, g2, g3, hin'⟩ := Tm.sliceIn_get (Tm.sliceIn_below hsl hb hB) k hlt
        have hm := Tm.fews_take_succ l k hlt 4000 200 hq
        have hih := few_any l[k] wr B sv (Tm.fews (l.take k) 4000 200) 200 (by have := hb.size; omega) hin' hq (by omega) (by omega) (by omega)
        have HM := Lib.hid hm
        clear hm hsl hin'
        go_wp2_with fail
        refine hih.mono ?_
        rintro e w1 ⟨rfl, hb1⟩
        go_wp2_with fail
        go_roundw
        case rel =>
          refine ⟨k + 1, by omega, by go_num, ?_, hb.trans (hb1.mono hb.size)⟩
          rw [HM.out]
        case measure => simp [intOf]; omega
      · have hst := Tm.fews_stop l k 4000 200 (by omega)
        have hf : Tm.someB l = false := by simp [Tm.someB, hst]; omega
        have HS := Lib.hid hf
        clear hst hsl hf
        go_wp2_with fail
        go_ret
        exact ⟨by rw [HS.out]; rfl, hb⟩
    · have : k = l.length := by omega
      subst this
      rw [List.take_length] at hrk ⊢
      clear hsl
      by_cases hq : 0 ≤ Tm.fews l 4000 200
      · have hf : Tm.someB l = decide ((l.length : Int) ≤ 100) := by simp only [Tm.someB, hq, decide_true, Bool.true_and]; rw [Bool.eq_iff_iff]; simp; omega
        have HS := Lib.hid hf
        clear hf
        go_wp2_with fail
        go_ret
        exact ⟨by rw [HS.out]; rfl, hb⟩
      · have hf : Tm.someB l = false := by simp [Tm.someB]; omega
        have HS := Lib.hid hf
        clear hf
        go_wp2_with fail
        go_ret
        exact ⟨by rw [HS.out]; rfl, hb⟩
end Go.Proofs.YtliapkajonbndaaGreatDoor

namespace Go.Proofs.YtliapkajonbndaaGreatDoor
open Go.RowKit

theorem sames_take_succ {l l' : List Tm} (hl : l.length = l'.length) {k : Nat} (hk : k < l.length) (hp : l.take k = l'.take k) :
    (Tm.same l[k] (l'[k]'(hl ▸ hk)) = true → l.take (k + 1) = l'.take (k + 1)) ∧ (Tm.same l[k] (l'[k]'(hl ▸ hk)) = false → l ≠ l') := by
  constructor
  · intro h
    rw [List.take_succ_eq_append_getElem hk, List.take_succ_eq_append_getElem (hl ▸ hk), hp, (Tm.same_iff _ _).1 h]
  · intro h e
    subst e
    rw [(Tm.same_iff _ _).2 rfl] at h
    cases h

set_option maxRecDepth 100000 in
set_option maxHeartbeats 400000 in
theorem rsame_any : ∀ (t : Tm) (u : Tm) (w : World) (B : Nat) (sv sv' : Value), B ≤ w.heap.size → Tm.inn w B t sv → Tm.inn w B u sv' →
    Calls Tryz.prog 10 #[.agg #[.int .i64 t.kind, .string t.name, .int .i64 t.n, sv], .agg #[.int .i64 u.kind, .string u.name, .int .i64 u.n, sv']] w
      fun e w' => e = .returned (.bool (t.same u)) ∧ Below w.heap.size w w' := by
  refine Tm.ind fun k s n l ih u w B sv sv' hB hin hin' => ?_
  obtain ⟨k', s', n', l'⟩ := u
  obtain ⟨_, hsl⟩ := Tm.inn_mk.1 hin
  obtain ⟨_, hsl'⟩ := Tm.inn_mk.1 hin'
  have hsl0 := hsl
  have hsl1 := hsl'
  obtain ⟨g, cap, rfl, hcap, hlen, _⟩ := hsl0
  obtain ⟨g', cap', rfl, hcap', hlen', _⟩ := hsl1
  simp only [Tm.kind, Tm.name, Tm.n]
  clear hin hin'
  have hf : Tm.same (.mk k s n l) (.mk k' s' n' l') = (decide (k = k') && decide (n = n') && decide (s = s') && decide (l = l')) := by
    rw [Tm.same_eq, Bool.eq_iff_iff]
    simp only [Tm.mk.injEq, decide_eq_true_eq, Bool.and_eq_true]
    constructor
    · rintro ⟨h1, h2, h3, h4⟩; exact ⟨⟨⟨h1, h3⟩, h2⟩, h4⟩
    · rintro ⟨⟨⟨h1, h3⟩, h2⟩, h4⟩; exact ⟨h1, h2, h3, h4⟩
  have hB2 := ((Below.refl w.heap.size w).alloc (Nat.le_refl _) (.cells #[.int .i64 k, .string s, .int .i64 n, .slice g l.length cap] 24)).alloc (by simp) (.cells #[.int .i64 k', .string s', .int .i64 n', .slice g' l'.length cap'] 24)
  by_cases hk : k = k'
  · subst hk
    by_cases hn : n = n'
    · subst hn
      by_cases hs : s = s'
      · subst hs
        by_cases hl : l.length = l'.length
        · rw [hf]
          simp only [decide_true, Bool.true_and]
          clear hf
          have hsl2 := Lib.hid hsl
          have hsl2' := Lib.hid hsl'
          clear hsl hsl'
          obtain ⟨m, hm1, hm2⟩ : ∃ m, l.length = m ∧ l'.length = m := ⟨_, hl, rfl⟩
          rw [hm1] at hcap hlen hB2 ⊢
          rw [hm2] at hcap' hlen' hB2 ⊢
          have HL := Lib.hid hm1
          have HM := Lib.hid hm2
          clear hl hm1 hm2
          go_enter Tryz.func10, Tryz.ntmps10
          go_wp2_with fail
          go_loopw [5] (fun i wr => ∃ k : Nat, k ≤ m ∧ i = .int .i64 k ∧ Hid (l.take k = l'.take k) ∧ Below w.heap.size w wr ∧ w.heap.size + 1 < wr.heap.size ∧ wr.cell? ⟨w.heap.size, 3, none⟩ = some (.slice g m cap) ∧ wr.cell? ⟨w.heap.size + 1, 3, none⟩ = some (.slice g' m cap')) (fun i _ => m - (intOf i).toNat)
          case atStart => exact ⟨0, Nat.zero_le _, rfl, (by simp [Hid]), hB2, by simp, by simp [go_sem], by simp [go_sem]⟩
          case round =>
            obtain ⟨k, hk, rfl, hp, hb, hs, hcc, hcc'⟩ := hrel
            by_cases hlt : k < m
            · obtain ⟨b, off, sv, rfl, hbB, g0, g1, g2, g3, hin⟩ := Tm.sliceIn_get (Tm.sliceIn_below hsl2.out hb hB) k (by rw [HL.out]; exact hlt)
              obtain ⟨b', off', sv', rfl, hbB', g0', g1', g2', g3', hin'⟩ := Tm.sliceIn_get (Tm.sliceIn_below hsl2'.out hb hB) k (by rw [HM.out]; exact hlt)
              have hst := Lib.hid (sames_take_succ (l := l) (l' := l') (by rw [HL.out, HM.out]) (k := k) (by rw [HL.out]; exact hlt) hp.out)
              have hih := ih _ (List.getElem_mem (by rw [HL.out]; exact hlt)) _ wr.drew B sv sv' (by have := hb.size; simp; omega) (Tm.inn_below hin (n₀ := wr.heap.size) ((Below.refl _ _).drew) (by omega)) (Tm.inn_below hin' (n₀ := wr.heap.size) ((Below.refl _ _).drew) (by omega))
              clear ih hB2 hin hin'
              have hih2 := Lib.hid hih
              clear hih
              go_wp2_with fail
              go_still_tail 10, (by kernel_rfl)
              go_wp2_with fail
              refine (hih2.out).mono ?_
              rintro e w1 ⟨rfl, hb1⟩
              have hb2 : Below wr.heap.size wr w1 := ((Below.refl _ _).drew).trans hb1
              have hcc1 := (hb2.cell (p := ⟨w.heap.size, 3, none⟩) (by simp; omega)).trans hcc
              have hcc2 := (hb2.cell (p := ⟨w.heap.size + 1, 3, none⟩) hs).trans hcc'
              cases hq : Tm.same (l[k]'(by rw [HL.out]; exact hlt)) (l'[k]'(by rw [HM.out]; exact hlt)) with
              | true =>
                have hr := Lib.hid (hst.out.1 hq)
                go_wp2_with fail
                go_roundw
                case rel =>
                  exact ⟨k + 1, by omega, by go_num, hr, hb.trans (hb2.mono (by omega)), by have := hb2.size; omega, hcc1, hcc2⟩
                case measure => simp [intOf]; omega
              | false =>
                have hr := Lib.hid (decide_eq_false (hst.out.2 hq))
                go_wp2_with fail
                go_ret
                exact ⟨by rw [hr.out]; rfl, hb.trans (hb2.mono (by omega))⟩
            · have : k = m := by omega
              have hll : l = l' := by
                have := hp.out
                rwa [List.take_of_length_le (by rw [HL.out]; omega), List.take_of_length_le (by rw [HM.out]; omega)] at this
              have hr := Lib.hid (decide_eq_true hll)
              clear ih hB2 hll
              subst this
              go_wp2_with fail
              go_ret
              exact ⟨by rw [hr.out]; rfl, hb⟩
        · have hr : Tm.same (.mk k s n l) (.mk k s n l') = false := by rw [hf]; simp; intro e; exact hl (by rw [e])
          have hr2 := Lib.hid hr
          clear hr hf ih
          have hl2 : ((l.length : Int) != (l'.length : Int)) = true := by rw [bne_iff_ne]; omega
          go_enter Tryz.func10, Tryz.ntmps10
          go_wp2_with fail
          go_ret
          exact ⟨by rw [hr2.out]; rfl, hB2⟩
      · have hr : Tm.same (.mk k s n l) (.mk k s' n l') = false := by rw [hf]; simp [hs]
        have hr2 := Lib.hid hr
        clear hr hf ih
        have hl2 := neS hs
        go_enter Tryz.func10, Tryz.ntmps10
        go_wp2_with fail
        go_ret
        exact ⟨by rw [hr2.out]; rfl, hB2⟩
    · have hr : Tm.same (.mk k s n l) (.mk k s' n' l') = false := by rw [hf]; simp [hn]
      have hr2 := Lib.hid hr
      clear hr hf ih
      have hl2 : (n != n') = true := by rw [bne_iff_ne]; exact hn
      go_enter Tryz.func10, Tryz.ntmps10
      go_wp2_with fail
      go_ret
      exact ⟨by rw [hr2.out]; rfl, hB2⟩
  · have hr : Tm.same (.mk k s n l) (.mk k' s' n' l') = false := by rw [hf]; simp [hk]
    have hr2 := Lib.hid hr
    clear hr hf ih
    have hl2 : (k != k') = true := by rw [bne_iff_ne]; exact hk
    go_enter Tryz.func10, Tryz.ntmps10
    go_wp2_with fail
    go_ret
    exact ⟨by rw [hr2.out]; rfl, hB2⟩
end Go.Proofs.YtliapkajonbndaaGreatDoor

namespace Go.Proofs.YtliapkajonbndaaGreatDoor
open Go.RowKit

theorem nameOk_iff (s : ByteArray) : Tm.nameOk s = true ↔ ∀ j (h : j < s.size), Tm.byteOk s[j] = true := by
  simp only [Tm.nameOk, List.all_eq_true]
  constructor
  · intro h j hj
    exact h _ (List.getElem_mem (l := s.data.toList) (n := j) (by simpa using hj))
  · intro h x hx
    obtain ⟨j, hj, rfl⟩ := List.getElem_of_mem hx
    exact h j (by simpa using hj)
theorem fairs_iff (l : List Tm) : Tm.fairs l = true ↔ ∀ j (h : j < l.length), l[j].fair = true := by
  rw [Tm.fairs_all, List.all_eq_true]
  constructor
  · intro h j hj
    exact h _ (List.getElem_mem hj)
  · intro h x hx
    obtain ⟨j, hj, rfl⟩ := List.getElem_of_mem hx
    exact h j hj

end Go.Proofs.YtliapkajonbndaaGreatDoor

namespace Go.Proofs.YtliapkajonbndaaGreatDoor
open Go.RowKit



end Go.Proofs.YtliapkajonbndaaGreatDoor
