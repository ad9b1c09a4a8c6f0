/-
  The program's args and term: every fair term's text is written.
-/
import Derived.Test.YtliapkajonbndaaDoorPwD
namespace Go.Proofs.YtliapkajonbndaaDoor
open Go.RowKit

/-- What stands behind a name, and what of it is written so far. -/
def pfx (l : List Tm) (k : Nat) : List UInt8 := match l.take k with
  | [] => []
  | a :: q => 40 :: (tx a ++ cmX (wrs q))
def agX (l : List Tm) : List UInt8 := match l with
  | [] => []
  | a :: q => 40 :: (tx a ++ (cmX (wrs q) ++ [41]))
theorem cmX_more (l r : List Tm) : cmX (wrs (l ++ r)) = cmX (wrs l) ++ cmX (wrs r) := by
  induction l with
  | nil => rfl
  | cons t l ih =>
    show 44 :: (tx t ++ cmX (wrs (l ++ r))) = 44 :: (tx t ++ cmX (wrs l)) ++ cmX (wrs r)
    rw [ih]
    simp
theorem pfx_succ (l : List Tm) (k : Nat) (h : k < l.length) : pfx l (k + 1) = pfx l k ++ (if k = 0 then 40 else 44) :: tx l[k] := by
  unfold pfx
  rw [List.take_succ_eq_append_getElem h]
  cases k with
  | zero => simp [wrs, cmX]
  | succ k =>
    cases l with
    | nil => simp at h
    | cons a q =>
      simp only [List.take_succ_cons, List.cons_append, List.getElem_cons_succ]
      rw [cmX_more]
      simp [wrs, cmX, tx]
theorem pfx_all (l : List Tm) (h : l ≠ []) : agX l = pfx l l.length ++ [41] := by
  unfold pfx agX
  rw [List.take_length]
  cases l with
  | nil => exact absurd rfl h
  | cons a q => simp
theorem pfx_len (l : List Tm) (k : Nat) : (pfx l k).length ≤ (agX l).length := by
  unfold pfx agX
  cases l with
  | nil => simp
  | cons a q =>
    cases k with
    | zero => simp
    | succ k =>
      simp only [List.take_succ_cons]
      have := cmX_more (q.take k) (q.drop k)
      rw [List.take_append_drop] at this
      rw [this]
      simp only [List.length_append, List.length_cons]
      omega
structure PA (w0 : World) (b : Nat) (l : List Tm) (sv : Value) (x : List UInt8) (W : World) : Prop where
  pr : Pr b x W
  fr : PFr b w0 W
  hs : Tm.sliceIn W b l sv
  pw : Pow W
theorem PA.next {w0 : World} {b : Nat} {l : List Tm} {sv : Value} {x y : List UInt8} {W W' : World} (h : PA w0 b l sv x W) (hg : 0 < b) (hp : Pr b y W') (hf : PFr b W W') : PA w0 b l sv y W' :=
  ⟨hp, h.fr.trans hf, Tm.sliceIn_below h.hs hf.low (Nat.le_refl _), h.pw.next hf.low hg⟩
set_option maxRecDepth 100000 in
set_option maxHeartbeats 4000000 in
theorem pargs_any (l : List Tm) (hq : ∀ t ∈ l, PTm t) (hm : l.length ≤ 1000) (b : Nat) (x : List UInt8) (w : World) (sv : Value) (hpr : Pr b x w) (hsl : Tm.sliceIn w b l sv) (hpw : Pow w) (hpg : 0 < b) (hlx : (x ++ agX l).length ≤ 8000000000) :
    Calls Tryd.prog 38 #[.pointer (some ⟨b, 0, none⟩), sv] w fun e w' => e = .returned (.tuple #[]) ∧ Pr b (x ++ agX l) w' ∧ PFr b w w' := by
  obtain ⟨g, cap, rfl, -, -, -⟩ := id hsl
  have HPA := Lib.hid (show PA w b l (.slice g l.length cap) x w from ⟨hpr, PFr.refl _ _, hsl, hpw⟩)
  have HQ := Lib.hid hq
  have hlx2 : x.length + (agX l).length ≤ 8000000000 := by rw [List.length_append] at hlx; exact hlx
  clear hpr hsl hpw hlx hq
  obtain ⟨m, hm0⟩ : ∃ m, l.length = m := ⟨_, rfl⟩
  rw [hm0] at hm HPA ⊢
  have HM := Lib.hid hm0
  clear hm0
  by_cases hz : m = 0
  · subst hz
    obtain rfl : l = [] := List.eq_nil_of_length_eq_zero HM.out
    go_enter Tryd.func38, Tryd.ntmps38
    go_wp2_with fail
    refine bodyPost_ret (results_none rfl _ _ _) rfl ?_
    exact ⟨rfl, by have h := HPA.out.pr; simpa [agX] using h, HPA.out.fr⟩
  have hne : l ≠ [] := by rintro rfl; exact hz HM.out.symm
  have HAL := Lib.hid (pfx_all l hne)
  have HLE := Lib.hid (fun k => pfx_len l k)
  have k0 : ((m : Int) == 0) = false := by rw [beq_eq_false_iff_ne]; omega
  clear hz hne
  go_enter Tryd.func38, Tryd.ntmps38
  go_wp2_with fail
  go_loopw [11] (fun i wr => ∃ k : Nat, k ≤ m ∧ i = .int .i64 k ∧ Hid (PA w b l (.slice g m cap) (x ++ pfx l k) wr)) (fun i _ => m - (intOf i).toNat)
  case atStart => exact ⟨0, Nat.zero_le _, rfl, Lib.hid (by have h := HPA.out; simpa [pfx] using h)⟩
  case round =>
    obtain ⟨k, hk, rfl, hpa⟩ := hrel
    have HP := Lib.hid hpa.out
    clear hpa
    have hXl := HLE.out k
    by_cases hlt : k < m
    · have hlt' : k < l.length := by rw [HM.out]; exact hlt
      have hsl : Tm.sliceIn wr b l (.slice g m cap) := HP.out.hs
      obtain ⟨ab, ao, gs, ms, cs, rfl, hab, g0, g1, g2, g3, hia⟩ := arg_at hsl k hlt'
      have hsu := pfx_succ l k hlt'
      have htm := HQ.out _ (List.getElem_mem hlt')
      generalize l[k] = t at g0 g1 g2 g3 hia hsu htm
      have hl9 := HLE.out (k + 1)
      rw [hsu] at hl9
      have hl8 : x.length + (pfx l k).length + 1 + (tx t).length ≤ 8000000000 := by
        simp only [List.length_append, List.length_cons] at hl9
        omega
      have HSU := Lib.hid hsu
      have HTM := Lib.hid htm
      have HN := Lib.hid (PS.new HP.out.pr hia HP.out.pw hpg)
      have hbw := Nat.le_of_lt (Nat.lt_trans hab HP.out.pr.lt)
      have hbw2 : ab < wr.heap.size := Nat.lt_trans hab HP.out.pr.lt
      clear hsl hia hsu htm hl9
      have j0 : (0 : Int) ≤ (k : Int) := by omega
      have j1 : (k : Int) < (m : Int) := by omega
      have jz : (0 : Int) + (k : Int) = (k : Int) := by omega
      have jw : IntKind.i64.wrap (k : Int) = (k : Int) := by rw [IntKind.wrap_i64]; omega
      go_upto_region 4 with fail
      have HN1 := Lib.hid HN.out
      have HPV := Lib.hid (HP.out.next hpg HN1.out.pr HN1.out.fr)
      generalize wr.alloc (.cells #[.int .i64 t.kind, .string t.name, .int .i64 t.n, .slice gs ms cs] 24) = V at HN1 HPV ⊢
      have hXl2 : (x ++ pfx l k).length + 1 + (tx t).length ≤ 8000000000 := by rw [List.length_append]; omega
      clear g0 g1 g2 g3
      by_cases hk0 : k = 0
      · subst hk0
        have HSU2 := Lib.hid (show pfx l (0 + 1) = pfx l 0 ++ 40 :: tx t by rw [HSU.out]; rfl)
        have kk : ((0 : Int) == 0) = true := rfl
        go_upto_region 7 with (go_at_call 31; (with_reducible refine (pbyte_k b (x ++ pfx l 0) 40 40 rfl _ HN1.out.pr (by omega)).mono ?_); rintro e u2 ⟨rfl, hp, hf⟩; have HS2 := Lib.hid (HN1.out.next hp hf); have HP2 := Lib.hid (HPV.out.next hpg hp hf); have d0 : u2.cell? ⟨wr.heap.size, 0, none⟩ = some (.int .i64 t.kind) := HS2.out.cells.1; have d1 : u2.cell? ⟨wr.heap.size, 1, none⟩ = some (.string t.name) := HS2.out.cells.2.1; have d2 : u2.cell? ⟨wr.heap.size, 2, none⟩ = some (.int .i64 t.n) := HS2.out.cells.2.2.1; have d3 : u2.cell? ⟨wr.heap.size, 3, none⟩ = some (.slice gs ms cs) := HS2.out.cells.2.2.2.1; have dl := HS2.out.cells.2.2.2.2; clear hp hf)
        have HA := Lib.hid (HTM.out b (x ++ pfx l 0 ++ [40]) u2 _ HS2.out.pr HS2.out.hi HS2.out.pw hpg (by simp only [List.length_append, List.length_cons, List.length_nil] at hXl2 ⊢; omega))
        go_wp2_with (go_at_call 18; (with_reducible refine (HA.out).mono ?_); rintro e u3 ⟨rfl, hp, hf⟩; have HP3 := Lib.hid (HP2.out.next hpg hp hf); clear hp hf)
        have e9 : x ++ pfx l 0 ++ [40] ++ tx t = x ++ pfx l (0 + 1) := by rw [HSU2.out]; simp
        rw [e9] at HP3
        have HP4 := Lib.hid HP3.out
        clear e9
        go_roundw
        case rel => exact ⟨0 + 1, by omega, by go_num, HP4⟩
        case measure => simp [intOf]; omega
      · skip
        have HSU2 := Lib.hid (show pfx l (k + 1) = pfx l k ++ 44 :: tx t by rw [HSU.out]; simp [hk0])
        have kk : ((k : Int) == 0) = false := by rw [beq_eq_false_iff_ne]; omega
        go_upto_region 7 with (go_at_call 31; (with_reducible refine (pbyte_k b (x ++ pfx l k) 44 44 rfl _ HN1.out.pr (by omega)).mono ?_); rintro e u2 ⟨rfl, hp, hf⟩; have HS2 := Lib.hid (HN1.out.next hp hf); have HP2 := Lib.hid (HPV.out.next hpg hp hf); have d0 : u2.cell? ⟨wr.heap.size, 0, none⟩ = some (.int .i64 t.kind) := HS2.out.cells.1; have d1 : u2.cell? ⟨wr.heap.size, 1, none⟩ = some (.string t.name) := HS2.out.cells.2.1; have d2 : u2.cell? ⟨wr.heap.size, 2, none⟩ = some (.int .i64 t.n) := HS2.out.cells.2.2.1; have d3 : u2.cell? ⟨wr.heap.size, 3, none⟩ = some (.slice gs ms cs) := HS2.out.cells.2.2.2.1; have dl := HS2.out.cells.2.2.2.2; clear hp hf)
        have HA := Lib.hid (HTM.out b (x ++ pfx l k ++ [44]) u2 _ HS2.out.pr HS2.out.hi HS2.out.pw hpg (by simp only [List.length_append, List.length_cons, List.length_nil] at hXl2 ⊢; omega))
        go_wp2_with (go_at_call 18; (with_reducible refine (HA.out).mono ?_); rintro e u3 ⟨rfl, hp, hf⟩; have HP3 := Lib.hid (HP2.out.next hpg hp hf); clear hp hf)
        have e9 : x ++ pfx l k ++ [44] ++ tx t = x ++ pfx l (k + 1) := by rw [HSU2.out]; simp
        rw [e9] at HP3
        have HP4 := Lib.hid HP3.out
        clear e9
        go_roundw
        case rel => exact ⟨k + 1, by omega, by go_num, HP4⟩
        case measure => simp [intOf]; omega
    · obtain rfl : m = k := by omega
      have hXl : (x ++ pfx l m).length ≤ 8000000000 := by rw [List.length_append]; omega
      go_wp2_with (go_at_call 31; (with_reducible refine (pbyte_k b _ 41 41 rfl _ HP.out.pr (by omega)).mono ?_); rintro e u5 ⟨rfl, hp, hf⟩; have HQ5 := Lib.hid (HP.out.next hpg hp hf); clear hp hf)
      go_end0
      refine ⟨rfl, ?_, HQ5.out.fr⟩
      have h9 := HQ5.out.pr
      rw [List.append_assoc, show pfx l m ++ [41] = agX l by rw [HAL.out, HM.out]] at h9
      exact h9
theorem fair_name {k n : Int} {s : ByteArray} {l : List Tm} (hf : (Tm.mk k s n l).fair = true) : ∀ i (h : i < s.size), s[i].toNat < 128 := by
  simp only [Tm.fair, Bool.and_eq_true] at hf
  have h := hf.1.1
  unfold Tm.nameOk at h
  rw [List.all_eq_true] at h
  intro i hi
  obtain ⟨c, hc⟩ : ∃ c, s[i]'hi = c := ⟨_, rfl⟩
  rw [hc]
  have h2 : i < (bsN s).length := by rw [bsN_length]; exact hi
  have h4 : (bsN s)[i]'h2 = c := (bsN_get s i hi).trans hc
  have h3 := h c (h4 ▸ List.getElem_mem h2)
  unfold Tm.byteOk at h3
  simp only [Bool.and_eq_true, decide_eq_true_eq] at h3
  omega
theorem fair_sort {k n : Int} {s : ByteArray} {l : List Tm} (hf : (Tm.mk k s n l).fair = true) : (k = 1 ∧ 0 ≤ n ∧ s = ⟨#[]⟩ ∧ l = []) ∨ (k = 2 ∧ s = ⟨#[]⟩ ∧ l = []) ∨ (k = 3 ∧ n = 0 ∧ 0 < s.size ∧ s.size ≤ 20 ∧ l.length ≤ 8) := by
  have hnil : ∀ s : ByteArray, s.toList = [] → s = ⟨#[]⟩ := fun s h => by
    rw [bsN_toList] at h
    rw [← bsN_arr s, h]
  simp only [Tm.fair, Bool.and_eq_true] at hf
  have h := hf.2
  unfold Tm.alone at h
  by_cases h1 : k = 1
  · rw [if_pos h1] at h
    simp only [Bool.and_eq_true, decide_eq_true_eq, beq_iff_eq] at h
    exact .inl ⟨h1, h.1.1.1, hnil s h.1.2, List.eq_nil_of_length_eq_zero (by omega)⟩
  · rw [if_neg h1] at h
    by_cases h2 : k = 2
    · rw [if_pos h2] at h
      simp only [Bool.and_eq_true, decide_eq_true_eq, beq_iff_eq] at h
      exact .inr (.inl ⟨h2, hnil s h.1, List.eq_nil_of_length_eq_zero (by omega)⟩)
    · rw [if_neg h2] at h
      by_cases h3 : k = 3
      · rw [if_pos h3] at h
        simp only [Bool.and_eq_true, decide_eq_true_eq] at h
        exact .inr (.inr ⟨h3, h.1.1.1, by omega, by omega, by omega⟩)
      · rw [if_neg h3] at h
        cases h
theorem tx_fun {s : ByteArray} {n : Int} {l : List Tm} (h : ¬ (bsN s = [46] ∧ l.length = 2)) : tx (.mk 3 s n l) = nmX (bsN s) ++ agX l := by
  show txO 3 (bsN s) n (wrs l) = _
  unfold txO agX
  rw [if_neg (by decide), if_neg (by decide)]
  match l, h with
  | [], _ => simp [wrs]
  | [a], _ => simp [wrs, dotO, cmX, tx]
  | [a, c], h =>
    have : ¬ bsN s = [46] := fun e => h ⟨e, rfl⟩
    simp [wrs, dotO, this, cmX, tx]
  | a :: c :: d :: q, _ => simp [wrs, dotO, cmX, tx]
set_option maxRecDepth 100000 in
set_option maxHeartbeats 4000000 in
theorem pterm_fun {s : ByteArray} {l : List Tm} (hf : (Tm.mk 3 s 0 l).fair = true) (h0 : 0 < s.size) (h20 : s.size ≤ 20) (h8 : l.length ≤ 8) (ih : ∀ u : Tm, u.size < (Tm.mk 3 s 0 l).size → u.fair = true → PTm u) : PTm (.mk 3 s 0 l) := by
  intro b x w sv hpr hin hpw hpg hlx
  have hasc := fair_name hf
  obtain ⟨_, g, cap, rfl, -, -, -⟩ := Tm.inn_mk.1 hin
  have HS := Lib.hid (PS.new hpr hin hpw hpg)
  obtain ⟨q, hq⟩ : ∃ q, (decide (bsN s = [46]) && decide (l.length = 2)) = q := ⟨_, rfl⟩
  cases q
  · have hnp : ¬ (bsN s = [46] ∧ l.length = 2) := by simpa using hq
    have hx := tx_fun (n := 0) hnp
    rw [hx] at hlx ⊢
    have hl9 : x.length + (nmX (bsN s)).length + (agX l).length ≤ 8000000000 := by
      simp only [List.length_append] at hlx
      omega
    have HI := Lib.hid (fun W => wpair_any 3 0 s g l.length cap false hq.symm W)
    have HQ := Lib.hid (show ∀ t ∈ l, PTm t from fun t ht => ih t (by have := Tm.size_mem_le ht; simp only [Tm.size]; omega) (fair_args hf t ht))
    have HA := Lib.hid hasc
    clear hq hin hx hpr hpw hlx hf ih hasc
    obtain ⟨m, hm⟩ : ∃ m, l.length = m := ⟨_, rfl⟩
    show Calls Tryd.prog 18 #[.pointer (some ⟨b, 0, none⟩), .agg #[.int .i64 3, .string s, .int .i64 0, .slice g l.length cap]] w _
    have HS0 := Lib.hid (show PS w b (.mk 3 s 0 l) (.slice g l.length cap) w.heap.size x (w.alloc (.cells #[.int .i64 3, .string s, .int .i64 0, .slice g l.length cap] 24)) from HS.out)
    rw [hm] at HI h8 hnp HS0 ⊢
    have HM := Lib.hid hm
    clear HS hm
    go_enter Tryd.func18, Tryd.ntmps18
    go_upto_region 3 with fail
    have HS1 := Lib.hid HS0.out
    clear HS0
    generalize w.alloc (.cells #[.int .i64 3, .string s, .int .i64 0, .slice g m cap] 24) = v at HS1 ⊢
    have c0 : v.cell? ⟨w.heap.size, 0, none⟩ = some (.int .i64 3) := HS1.out.cells.1; have c1 : v.cell? ⟨w.heap.size, 1, none⟩ = some (.string s) := HS1.out.cells.2.1; have c2 : v.cell? ⟨w.heap.size, 2, none⟩ = some (.int .i64 0) := HS1.out.cells.2.2.1; have c3 : v.cell? ⟨w.heap.size, 3, none⟩ = some (.slice g m cap) := HS1.out.cells.2.2.2.1; have cl := HS1.out.cells.2.2.2.2
    go_upto_region 1 with (go_at_call 35; (with_reducible refine (HI.out _).mono ?_); rintro e u1 ⟨rfl, hb⟩; have HQ1 := Lib.hid (HS1.out.quiet hb); have d0 : u1.cell? ⟨w.heap.size, 0, none⟩ = some (.int .i64 3) := HQ1.out.cells.1; have d1 : u1.cell? ⟨w.heap.size, 1, none⟩ = some (.string s) := HQ1.out.cells.2.1; have d2 : u1.cell? ⟨w.heap.size, 2, none⟩ = some (.int .i64 0) := HQ1.out.cells.2.2.1; have d3 : u1.cell? ⟨w.heap.size, 3, none⟩ = some (.slice g m cap) := HQ1.out.cells.2.2.2.1; have dl := HQ1.out.cells.2.2.2.2; clear hb)
    clear c0 c1 c2 c3 cl
    go_upto_region 2 with (go_at_call 37; (with_reducible refine (pname_any b x s HA.out h0 (by omega) _ HQ1.out.pr (by omega)).mono ?_); rintro e u2 ⟨rfl, hp, hf⟩; have HQ2 := Lib.hid (HQ1.out.next hp hf); clear hp hf)
    have c0 : u2.cell? ⟨w.heap.size, 0, none⟩ = some (.int .i64 3) := HQ2.out.cells.1; have c1 : u2.cell? ⟨w.heap.size, 1, none⟩ = some (.string s) := HQ2.out.cells.2.1; have c2 : u2.cell? ⟨w.heap.size, 2, none⟩ = some (.int .i64 0) := HQ2.out.cells.2.2.1; have c3 : u2.cell? ⟨w.heap.size, 3, none⟩ = some (.slice g m cap) := HQ2.out.cells.2.2.2.1; have cl := HQ2.out.cells.2.2.2.2
    have hsl : Tm.sliceIn u2 b l (.slice g m cap) := (Tm.inn_mk.1 HQ2.out.hi).2
    have HAR := Lib.hid (pargs_any l HQ.out (by rw [HM.out]; omega) b (x ++ nmX (bsN s)) u2 _ HQ2.out.pr hsl HQ2.out.pw hpg (by simp only [List.length_append]; omega))
    clear hsl
    go_wp2_with (go_at_call 38; (with_reducible refine (HAR.out).mono ?_); rintro e u3 ⟨rfl, hp, hf⟩; have HQ3 := Lib.hid (HQ2.out.next hp hf); clear hp hf)
    go_end0
    refine ⟨rfl, ?_, HQ3.out.fr⟩
    have h9 := HQ3.out.pr
    rw [List.append_assoc] at h9
    exact h9
  · have hpp : bsN s = [46] ∧ l.length = 2 := by simpa using hq
    obtain ⟨hs', hl2⟩ := hpp
    obtain ⟨a', d', rfl⟩ := two_of hl2
    have HI := Lib.hid (fun W => wpair_any 3 0 s g 2 cap true (by simp [hs']) W)
    have hfa := fair_args hf
    have HL := Lib.hid (fun W (h1 : PS w b (.mk 3 s 0 [a', d']) (.slice g 2 cap) w.heap.size x W) => plist_any (n := 0) hs' ⟨hfa a' (by simp), hfa d' (by simp)⟩ ih b x W _ h1.pr h1.hi h1.pw hpg hlx)
    clear hq hin hpr hpw hf ih hasc hl2 hfa
    show Calls Tryd.prog 18 #[.pointer (some ⟨b, 0, none⟩), .agg #[.int .i64 3, .string s, .int .i64 0, .slice g 2 cap]] w _
    go_enter Tryd.func18, Tryd.ntmps18
    go_upto_region 3 with fail
    have HS1 := Lib.hid (show PS w b (.mk 3 s 0 [a', d']) (.slice g 2 cap) w.heap.size x (w.alloc (.cells #[.int .i64 3, .string s, .int .i64 0, .slice g 2 cap] 24)) from HS.out)
    clear HS
    generalize w.alloc (.cells #[.int .i64 3, .string s, .int .i64 0, .slice g 2 cap] 24) = v at HS1 ⊢
    have c0 : v.cell? ⟨w.heap.size, 0, none⟩ = some (.int .i64 3) := HS1.out.cells.1; have c1 : v.cell? ⟨w.heap.size, 1, none⟩ = some (.string s) := HS1.out.cells.2.1; have c2 : v.cell? ⟨w.heap.size, 2, none⟩ = some (.int .i64 0) := HS1.out.cells.2.2.1; have c3 : v.cell? ⟨w.heap.size, 3, none⟩ = some (.slice g 2 cap) := HS1.out.cells.2.2.2.1; have cl := HS1.out.cells.2.2.2.2
    go_upto_region 9 with (go_at_call 35; (with_reducible refine (HI.out _).mono ?_); rintro e u1 ⟨rfl, hb⟩; have HQ1 := Lib.hid (HS1.out.quiet hb); have d0 : u1.cell? ⟨w.heap.size, 0, none⟩ = some (.int .i64 3) := HQ1.out.cells.1; have d1 : u1.cell? ⟨w.heap.size, 1, none⟩ = some (.string s) := HQ1.out.cells.2.1; have d2 : u1.cell? ⟨w.heap.size, 2, none⟩ = some (.int .i64 0) := HQ1.out.cells.2.2.1; have d3 : u1.cell? ⟨w.heap.size, 3, none⟩ = some (.slice g 2 cap) := HQ1.out.cells.2.2.2.1; have dl := HQ1.out.cells.2.2.2.2; clear hb)
    clear c0 c1 c2 c3 cl
    have HAR := Lib.hid (HL.out u1 HQ1.out)
    go_wp2_with (go_at_call 36; (with_reducible refine (HAR.out).mono ?_); rintro e u3 ⟨rfl, hp, hf⟩; have HQ3 := Lib.hid (HQ1.out.next hp hf); clear hp hf)
    go_end0
    exact ⟨rfl, HQ3.out.pr, HQ3.out.fr⟩
theorem pterm_all : ∀ (N : Nat) (t : Tm), t.size < N → t.fair = true → PTm t
  | 0, t, h, _ => by omega
  | N + 1, .mk k s n l, h, hf => by
    rcases fair_sort hf with ⟨rfl, h0, rfl, rfl⟩ | ⟨rfl, rfl, rfl⟩ | ⟨rfl, rfl, h0, h20, h8⟩
    · exact pterm_var h0
    · exact pterm_num n
    · exact pterm_fun hf h0 h20 h8 fun u hu hfu => pterm_all N u (by omega) hfu
theorem pterm_any (t : Tm) (hf : t.fair = true) : PTm t := pterm_all (t.size + 1) t (Nat.lt_succ_self _) hf
end Go.Proofs.YtliapkajonbndaaDoor
