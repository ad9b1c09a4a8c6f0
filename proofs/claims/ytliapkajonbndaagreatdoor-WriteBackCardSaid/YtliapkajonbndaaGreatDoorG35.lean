/-
  What the law asks of a term's numbers; what is read of its text; the walk of finiallaw10.WriteBack.
  An argument that is a term, read from the statement's own reading: it is a term that lies in memory.
  An argument that is a row of terms, read from the statement's own reading: it is a row of terms that lies in memory.
-/
import Derived.Test.YtliapkajonbndaaGreatDoorWBx
import Derived.Test.YtliapkajonbndaaGreatDoorG34
import Derived.Deep.RegionHeld3
import Derived.Test.YtliapkajonbndaaGreatDoorG01
import Derived.Test.YtliapkajonbndaaGreatDoorChecked
import Derived.ProofKit
import Derived.SizedLaws
import Derived.ChangeSame
import Derived.Deep.Slices
import Derived.RowKit
namespace Go.Proofs.YtliapkajonbndaaGreatDoor
open Go.RowKit

mutual
/-- Has a term the least number? -/
def leB : Tm → Bool
  | .mk k _ n l => leBs l || (decide (k = 2) && decide (n < -9223372036854775807))
def leBs : List Tm → Bool
  | [] => false
  | t :: r => leB t || leBs r
end
theorem leBs_app (l r : List Tm) : leBs (l ++ r) = (leBs l || leBs r) := by
  induction l with
  | nil => simp [leBs]
  | cons t l ih => simp [leBs, ih, Bool.or_assoc]
theorem leBs_mem {l : List Tm} {t : Tm} (ht : t ∈ l) (h : leB t = true) : leBs l = true := by
  induction l with
  | nil => cases ht
  | cons u r ih =>
    simp only [leBs, Bool.or_eq_true]
    rcases List.mem_cons.1 ht with rfl | ht
    · exact .inl h
    · exact .inr (ih ht)
theorem leBs_no {l : List Tm} (h : leBs l = false) : ∀ t ∈ l, leB t = false := fun t ht => by
  cases hb : leB t with
  | false => rfl
  | true => rw [leBs_mem ht hb] at h; cases h
theorem nOk_of : ∀ t : Tm, leB t = false → ∀ (w : World) (B : Nat) (sv : Value), Tm.inn w B t sv → nOk t = true := Tm.ind fun k s n l ih h w B sv hin => by
  rw [leB, Bool.or_eq_false_iff] at h
  obtain ⟨⟨_, _, hwf⟩, hsl⟩ := Tm.inn_mk.1 hin
  have hw := wfw64 hwf
  rw [nOk, Bool.and_eq_true]
  refine ⟨?_, ?_⟩
  · have h2 := h.2
    rw [Bool.and_eq_false_iff, decide_eq_false_iff_not, decide_eq_false_iff_not] at h2
    rw [Bool.or_eq_true]
    by_cases hk : k = 2
    · refine .inr ?_
      rw [Bool.and_eq_true, decide_eq_true_eq, decide_eq_true_eq]
      omega
    · exact .inl (by rw [bne_iff_ne]; exact hk)
  · rw [nOks_all, List.all_eq_true]
    intro t ht
    obtain ⟨i, hi, rfl⟩ := List.getElem_of_mem ht
    obtain ⟨_, g, c, rfl, _⟩ := Tm.inn_iff.1 hin
    obtain ⟨_, _, _, _, _, _, _, _, _, _, _, hx⟩ := arg_at hsl i hi
    exact ih _ ht (leBs_no h.1 _ ht) w B _ hx
def LeW (t : Tm) : Prop := ∀ (w : World) (sv : Value), Tm.inn w w.heap.size t sv → Pow w → Calls Tryz.prog 5 #[.agg #[.int .i64 t.kind, .string t.name, .int .i64 t.n, sv]] w fun e w' => e = .returned (.bool (leB t)) ∧ Below w.heap.size w w'
set_option maxRecDepth 100000 in
set_option maxHeartbeats 8000000 in
theorem least_of (k : Int) (s : ByteArray) (n : Int) (l : List Tm) (hl : ∀ u ∈ l, LeW u) : LeW (.mk k s n l) := by
  intro w sv hin hpw
  obtain ⟨_, g, cap, rfl, _, hlm, _⟩ := Tm.inn_iff.1 hin
  have hlm2 : l.length ≤ 2513169434900 := hlm
  have HW0 := Lib.hid (WB.new hin hpw)
  have HL := Lib.hid hl
  clear hin hpw hlm hl
  obtain ⟨q, hq⟩ : ∃ q, l.length = q := ⟨_, rfl⟩
  have HQ := Lib.hid hq
  have HW0 := Lib.hid (show WB w (.mk k s n l) (.slice g q cap) w.heap.size (w.alloc (.cells #[.int .i64 k, .string s, .int .i64 n, .slice g q cap] 24)) from hq ▸ HW0.out)
  rw [hq] at hlm2
  show Calls Tryz.prog 5 #[.agg #[.int .i64 k, .string s, .int .i64 n, .slice g l.length cap]] w _
  rw [hq]
  clear hq
  have HX := Lib.hid (show leB (.mk k s n l) = (leBs l || (decide (k = 2) && decide (n < -9223372036854775807))) by rw [leB])
  go_enter Tryz.func5, Tryz.ntmps5
  go_upto_region 1 with fail
  generalize w.alloc (.cells #[.int .i64 k, .string s, .int .i64 n, .slice g q cap] 24) = u0 at HW0 ⊢
  go_wp2_with fail
  go_loopw [3] (fun i wr => ∃ j : Nat, j ≤ q ∧ i = .int .i64 j ∧ Hid (WB w (.mk k s n l) (.slice g q cap) w.heap.size wr ∧ leBs (l.take j) = false)) (fun i _ => q - (intOf i).toNat)
  case atStart => exact ⟨0, Nat.zero_le _, rfl, Lib.hid ⟨HW0.out, by simp [leBs]⟩⟩
  case round =>
    obtain ⟨j, hj, rfl, hh⟩ := hrel
    have HW1 := Lib.hid hh.out.1
    have HF := Lib.hid hh.out.2
    clear hh
    have c0 : wr.cell? ⟨w.heap.size, 0, none⟩ = some (.int .i64 k) := HW1.out.cells0
    have c2 : wr.cell? ⟨w.heap.size, 2, none⟩ = some (.int .i64 n) := HW1.out.cells2
    have c3 : wr.cell? ⟨w.heap.size, 3, none⟩ = some (.slice g q cap) := HW1.out.cells3
    have cl := HW1.out.lt
    by_cases hlt : j < q
    · have hlt' : j < l.length := by rw [HQ.out]; exact hlt
      obtain ⟨ab, ao, gs, ms, cs, rfl, hab, g0, g1, g2, g3, hia⟩ := arg_at (Tm.inn_mk.1 HW1.out.hi).2 j hlt'
      have hcall := HL.out _ (List.getElem_mem hlt') wr _ hia HW1.out.pw
      have hsn : leBs (l.take (j + 1)) = (leBs (l.take j) || leB l[j]) := by
        rw [List.take_succ_eq_append_getElem hlt', leBs_app]
        simp [leBs]
      have hme : leB l[j] = true → leBs l = true := leBs_mem (List.getElem_mem hlt')
      generalize l[j] = t at g0 g1 g2 g3 hia hcall hsn hme
      have HC := Lib.hid hcall
      have HSN := Lib.hid hsn
      have HME := Lib.hid hme
      clear hia hcall hsn hme
      have j0 : (0 : Int) ≤ (j : Int) := by omega
      have j1 : (j : Int) < (q : Int) := by omega
      have jz : (0 : Int) + (j : Int) = (j : Int) := by omega
      have jw : IntKind.i64.wrap (j : Int) = (j : Int) := by rw [IntKind.wrap_i64]; omega
      cases hb : leB t with
      | true =>
        rw [hb] at HC
        have HR := Lib.hid (show leB (.mk k s n l) = true by rw [HX.out, HME.out hb]; rfl)
        clear hb
        go_wp2_with (go_at_call 5; (with_reducible refine HC.out.mono ?_); rintro e u1 ⟨rfl, hb⟩; have HW2 := Lib.hid (HW1.out.next hb); clear hb)
        go_ret
        exact ⟨by rw [HR.out]; rfl, HW2.out.low⟩
      | false =>
        rw [hb] at HC
        have HF2 := Lib.hid (show leBs (l.take (j + 1)) = false by rw [HSN.out, HF.out, hb]; rfl)
        clear hb
        go_wp2_with (go_at_call 5; (with_reducible refine HC.out.mono ?_); rintro e u1 ⟨rfl, hb⟩; have HW2 := Lib.hid (HW1.out.next hb); clear hb)
        go_roundw
        case rel => exact ⟨j + 1, by omega, by go_num, Lib.hid ⟨HW2.out, HF2.out⟩⟩
        case measure => simp [intOf]; omega
    · obtain rfl : q = j := by omega
      have hno : leBs l = false := by
        have h1 := HF.out
        rw [← HQ.out, List.take_length] at h1
        exact h1
      have HR := Lib.hid (show leB (.mk k s n l) = (decide (k = 2) && decide (n < -9223372036854775807)) by rw [HX.out, hno]; rfl)
      clear hno
      by_cases hk : k = 2
      · have k1 : (k == 2) = true := by rw [beq_iff_eq]; exact hk
        by_cases hn : n < -9223372036854775807
        · have HR2 := Lib.hid (show leB (.mk k s n l) = true by rw [HR.out]; simp [hk, hn])
          clear hk
          go_wp2_with fail
          go_ret
          exact ⟨by rw [HR2.out]; rfl, HW1.out.low⟩
        · have HR2 := Lib.hid (show leB (.mk k s n l) = false by rw [HR.out]; simp [hn])
          have k2 : (n < -9223372036854775807) = False := by simp only [eq_iff_iff, iff_false]; exact hn
          clear hk hn
          go_wp2_with fail
          go_ret
          exact ⟨by rw [HR2.out]; rfl, HW1.out.low⟩
      · have k1 : (k == 2) = false := by rw [beq_eq_false_iff_ne]; exact hk
        have HR2 := Lib.hid (show leB (.mk k s n l) = false by rw [HR.out]; simp [hk])
        clear hk
        go_wp2_with fail
        go_ret
        exact ⟨by rw [HR2.out]; rfl, HW1.out.low⟩
theorem least_any : ∀ t : Tm, LeW t := Tm.ind fun k s n l ih => least_of k s n l ih
theorem num_ren {t : Tm} (hr : t.right = true) : numTms [t] = [t.ren (posOf (vsT t []))] ∧ numN [t] = ((vsT t []).length : Int) ∧ numErr [t] = 0 := by
  have hall : [t].all Tm.right = true := by simp [hr]
  have hvs : varsOf [t] = vsT t [] := by rw [vars_vsL]; simp [vsL]
  refine ⟨?_, ?_, ?_⟩
  · unfold numTms
    rw [if_pos hall, hvs]
    simp [Tm.rens]
  · unfold numN
    rw [if_pos hall, hvs]
  · unfold numErr
    rw [if_pos hall]
/-- What the program's One reads of the text. -/
theorem one_back {t : Tm} (hr : t.right = true) (hn : nOk t = true) (hlen : (tx t).length ≤ 7998) {y : List UInt8} (hy : y = tx t ++ [32, 46]) (w : World) (hg : Rng w) :
    Calls Tryz.prog 8 #[.string ⟨y.toArray⟩] w fun e w' => ∃ g m c gn cn, e = .returned (.tuple #[.agg #[.int .i64 (t.ren (posOf (vsT t []))).kind, .string (t.ren (posOf (vsT t []))).name, .int .i64 (t.ren (posOf (vsT t []))).n, .slice g m c, .slice gn (vsT t []).length cn], .int .i64 0, .int .i64 0]) ∧ Tm.inn w' w'.heap.size (t.ren (posOf (vsT t []))) (.slice g m c) ∧ Below w.heap.size w w' := by
  have hb : bs ⟨y.toArray⟩ = tx t ++ [32, 46] := by rw [hy]; simp [bs]
  refine (one_p ⟨y.toArray⟩ w hg (by rw [← bs_length, hb]; simp only [List.length_append, List.length_cons, List.length_nil]; omega)).mono ?_
  rintro e w' ⟨hlo, k, nm, n, g, m, c, gn, mn, cn, b, cd, rfl, h⟩
  rw [hb, write_back hr hn hlen] at h
  obtain ⟨rfl, rfl, rfl, rfl, rfl, hin, hns⟩ := h
  obtain ⟨g9, c9, e9, -, -⟩ := hns
  injection e9 with _ e9 _
  rw [List.length_map] at e9
  subst e9
  exact ⟨g, m, c, gn, cn, rfl, hin, hlo⟩
/-- What the law holds at its end: what was read, in its box; the numbered term, in its row. -/
structure NB (w0 : World) (u : Tm) (bx b2 o2 : Nat) (sv1 sv2 nv : Value) (W : World) : Prop where
  a1 : TmAt W bx 0 u sv1
  a2 : TmAt W b2 o2 u sv2
  cn : W.cell? ⟨bx, 4, none⟩ = some nv
  low : Below w0.heap.size w0 W
  pw : Pow W
theorem NB.next {w0 : World} {u : Tm} {bx b2 o2 : Nat} {sv1 sv2 nv : Value} {W W' : World} (h : NB w0 u bx b2 o2 sv1 sv2 nv W) (hb : Below W.heap.size W W') : NB w0 u bx b2 o2 sv1 sv2 nv W' :=
  ⟨h.a1.next hb, h.a2.next hb, (hb.cell (p := ⟨bx, 4, none⟩) h.a1.lt).trans h.cn, h.low.trans (hb.mono h.low.size), h.pw.next hb h.pw.lt⟩
theorem same_u (u : Tm) (w : World) (sv sv' : Value) (h : Tm.inn w w.heap.size u sv) (h' : Tm.inn w w.heap.size u sv') :
    Calls Tryz.prog 10 #[.agg #[.int .i64 u.kind, .string u.name, .int .i64 u.n, sv], .agg #[.int .i64 u.kind, .string u.name, .int .i64 u.n, sv']] w fun e w' => e = .returned (.bool true) ∧ Below w.heap.size w w' :=
  (rsame_any u u w _ sv sv' (Nat.le_refl _) h h').mono fun e w' h => by
    rw [(Tm.same_iff u u).2 rfl] at h
    exact h
theorem num_back {t u : Tm} {vs : List Int} (h1 : numTms [t] = [u]) (h2 : numN [t] = (vs.length : Int)) (h3 : numErr [t] = 0) (hsz : t.size ≤ 4000) {g : Option Addr} {m cap : Nat} {W : World} (hi : Tm.inn W W.heap.size t (.slice g m cap)) :
    Calls Tryz.prog 9 #[.slice (some ⟨W.heap.size, 0, none⟩) 1 1] (W.alloc (.cells #[.int .i64 t.kind, .string t.name, .int .i64 t.n, .slice g m cap] 24)) fun e w' => ∃ b2 o2 cm g2 m2 c3, e = .returned (.tuple #[.slice (some ⟨b2, o2, none⟩) 1 cm, .int .i64 (vs.length : Nat), .int .i64 0]) ∧ TmAt w' b2 o2 u (.slice g2 m2 c3) ∧ Below W.heap.size W w' := by
  have hb := (Below.refl W.heap.size W).alloc (Nat.le_refl _) (.cells #[.int .i64 t.kind, .string t.name, .int .i64 t.n, .slice g m cap] 24)
  have hs := one_wb (newBlk W (.cells #[.int .i64 t.kind, .string t.name, .int .i64 t.n, .slice g m cap] 24) W.heap.size rfl) (kn_next hi hb)
  refine (number_all [t] _ _ hs (by simp only [Tm.sizes]; omega)).mono ?_
  rintro e w' ⟨⟨g2, c2, rfl, hsl⟩, hb2⟩
  rw [h1] at hsl ⊢
  rw [h2, h3]
  obtain ⟨b2, o2, sv2, rfl, hat⟩ := TmAt.of hsl 0 (by simp)
  have hat : TmAt w' b2 o2 u sv2 := by simpa using hat
  obtain ⟨_, g3, c3, rfl, _⟩ := Tm.inn_iff.1 hat.inn
  exact ⟨b2, o2, c2, g3, _, c3, rfl, hat, hb.trans (hb2.mono hb.size)⟩
/-- The last region: all holds. -/
theorem nb_cells {w : World} {u : Tm} {bx b2 o2 : Nat} {gr g2 gn : Option Addr} {mr cr m2 c2 cn : Nat} {vs : List Int} (W1 : World) (h : NB w u bx b2 o2 (.slice gr mr cr) (.slice g2 m2 c2) (.slice gn vs.length cn) W1) : W1.cell? ⟨bx, 0, none⟩ = some (.int .i64 u.kind) ∧ W1.cell? ⟨bx, 1, none⟩ = some (.string u.name) ∧ W1.cell? ⟨bx, 2, none⟩ = some (.int .i64 u.n) ∧ W1.cell? ⟨bx, 3, none⟩ = some (.slice gr mr cr) ∧ W1.cell? ⟨bx, 4, none⟩ = some (.slice gn vs.length cn) ∧ W1.cell? ⟨b2, o2, none⟩ = some (.int .i64 u.kind) ∧ W1.cell? ⟨b2, o2 + 1, none⟩ = some (.string u.name) ∧ W1.cell? ⟨b2, o2 + 2, none⟩ = some (.int .i64 u.n) ∧ W1.cell? ⟨b2, o2 + 3, none⟩ = some (.slice g2 m2 c2) ∧ NB w u bx b2 o2 (.slice gr mr cr) (.slice g2 m2 c2) (.slice gn vs.length cn) W1 :=
  ⟨by simpa using h.a1.c0, by simpa using h.a1.c1, by simpa using h.a1.c2, by simpa using h.a1.c3, h.cn, h.a2.c0, h.a2.c1, h.a2.c2, h.a2.c3, h⟩
set_option maxRecDepth 100000 in
set_option maxHeartbeats 8000000 in
theorem wback_any (t : Tm) (w : World) (sv : Value) (hin : Tm.inn w w.heap.size t sv) (hpw : Pow w) (hrg : Rng w) :
    Calls Tryz.prog 3 #[.agg #[.int .i64 t.kind, .string t.name, .int .i64 t.n, sv]] w fun e w' => e = .returned (.bool true) ∧ Below w.heap.size w w' := by
  obtain ⟨_, g, cap, rfl, _, _, _⟩ := Tm.inn_iff.1 hin
  have HW0 := Lib.hid (WB.new hin hpw)
  have HRG := Lib.hid hrg
  have HNK := Lib.hid (fun h => nOk_of t h w _ _ hin)
  have e0 := tl0
  clear hin hpw hrg
  obtain ⟨m, hm⟩ : ∃ m, t.args.length = m := ⟨_, rfl⟩
  rw [hm] at HW0 ⊢
  clear hm
  go_enter Tryz.func3, Tryz.ntmps3
  go_upto_region 1 with fail
  generalize w.alloc (.cells #[.int .i64 t.kind, .string t.name, .int .i64 t.n, .slice g m cap] 24) = u0 at HW0 ⊢
  have c0 : u0.cell? ⟨w.heap.size, 0, none⟩ = some (.int .i64 t.kind) := HW0.out.cells0; have c1 : u0.cell? ⟨w.heap.size, 1, none⟩ = some (.string t.name) := HW0.out.cells1; have c2 : u0.cell? ⟨w.heap.size, 2, none⟩ = some (.int .i64 t.n) := HW0.out.cells2; have c3 : u0.cell? ⟨w.heap.size, 3, none⟩ = some (.slice g m cap) := HW0.out.cells3; have cl := HW0.out.lt
  have HSM := Lib.hid (wsome_any HW0.out.hi)
  cases hsm : Tm.someB [t] with
  | false =>
    rw [hsm] at HSM
    clear hsm
    go_upto_region 2 with (go_at_call 4; (with_reducible refine HSM.out.mono ?_); rintro e u1 ⟨rfl, hb⟩; have HW1 := Lib.hid (HW0.out.next hb); have c0 : u1.cell? ⟨w.heap.size, 0, none⟩ = some (.int .i64 t.kind) := HW1.out.cells0; have c1 : u1.cell? ⟨w.heap.size, 1, none⟩ = some (.string t.name) := HW1.out.cells1; have c2 : u1.cell? ⟨w.heap.size, 2, none⟩ = some (.int .i64 t.n) := HW1.out.cells2; have c3 : u1.cell? ⟨w.heap.size, 3, none⟩ = some (.slice g m cap) := HW1.out.cells3; have cl := HW1.out.lt; clear hb)
    have HK := Lib.hid (wknows_any u1 HW1.out.pw)
    go_wp2_with (go_at_call 6; (with_reducible refine HK.out.mono ?_); rintro e u2 ⟨rfl, hb⟩; have HB2 := Lib.hid (HW1.out.low.trans (hb.mono HW1.out.low.size)); clear hb)
    go_ret
    exact ⟨rfl, HB2.out⟩
  | true =>
  rw [hsm] at HSM
  have hsz := some_size hsm
  clear hsm
  have HLE := Lib.hid (fun W h => least_any t W (.slice g m cap) h)
  cases hle : leB t with
  | true =>
    rw [hle] at HLE
    clear hle
    go_upto_region 2 with (first
      | (go_at_call 4; (with_reducible refine HSM.out.mono ?_); rintro e u1 ⟨rfl, hb⟩; have HW1 := Lib.hid (HW0.out.next hb); have c0 : u1.cell? ⟨w.heap.size, 0, none⟩ = some (.int .i64 t.kind) := HW1.out.cells0; have c1 : u1.cell? ⟨w.heap.size, 1, none⟩ = some (.string t.name) := HW1.out.cells1; have c2 : u1.cell? ⟨w.heap.size, 2, none⟩ = some (.int .i64 t.n) := HW1.out.cells2; have c3 : u1.cell? ⟨w.heap.size, 3, none⟩ = some (.slice g m cap) := HW1.out.cells3; have cl := HW1.out.lt; clear hb)
      | (go_at_call 5; (with_reducible refine (HLE.out _ HW1.out.hi HW1.out.pw).mono ?_); rintro e u2 ⟨rfl, hb⟩; have HW2 := Lib.hid (HW1.out.next hb); have c0 : u2.cell? ⟨w.heap.size, 0, none⟩ = some (.int .i64 t.kind) := HW2.out.cells0; have c1 : u2.cell? ⟨w.heap.size, 1, none⟩ = some (.string t.name) := HW2.out.cells1; have c2 : u2.cell? ⟨w.heap.size, 2, none⟩ = some (.int .i64 t.n) := HW2.out.cells2; have c3 : u2.cell? ⟨w.heap.size, 3, none⟩ = some (.slice g m cap) := HW2.out.cells3; have cl := HW2.out.lt; clear hb))
    have HK := Lib.hid (wknows_any u2 HW2.out.pw)
    go_wp2_with (go_at_call 6; (with_reducible refine HK.out.mono ?_); rintro e u3 ⟨rfl, hb⟩; have HB2 := Lib.hid (HW2.out.low.trans (hb.mono HW2.out.low.size)); clear hb)
    go_ret
    exact ⟨rfl, HB2.out⟩
  | false =>
  rw [hle] at HLE
  have HNO := Lib.hid (HNK.out hle)
  clear hle
  go_upto_region 3 with (first
    | (go_at_call 4; (with_reducible refine HSM.out.mono ?_); rintro e u1 ⟨rfl, hb⟩; have HW1 := Lib.hid (HW0.out.next hb); have c0 : u1.cell? ⟨w.heap.size, 0, none⟩ = some (.int .i64 t.kind) := HW1.out.cells0; have c1 : u1.cell? ⟨w.heap.size, 1, none⟩ = some (.string t.name) := HW1.out.cells1; have c2 : u1.cell? ⟨w.heap.size, 2, none⟩ = some (.int .i64 t.n) := HW1.out.cells2; have c3 : u1.cell? ⟨w.heap.size, 3, none⟩ = some (.slice g m cap) := HW1.out.cells3; have cl := HW1.out.lt; clear hb)
    | (go_at_call 5; (with_reducible refine (HLE.out _ HW1.out.hi HW1.out.pw).mono ?_); rintro e u2 ⟨rfl, hb⟩; have HW2 := Lib.hid (HW1.out.next hb); have c0 : u2.cell? ⟨w.heap.size, 0, none⟩ = some (.int .i64 t.kind) := HW2.out.cells0; have c1 : u2.cell? ⟨w.heap.size, 1, none⟩ = some (.string t.name) := HW2.out.cells1; have c2 : u2.cell? ⟨w.heap.size, 2, none⟩ = some (.int .i64 t.n) := HW2.out.cells2; have c3 : u2.cell? ⟨w.heap.size, 3, none⟩ = some (.slice g m cap) := HW2.out.cells3; have cl := HW2.out.lt; clear hb))
  have HT := Lib.hid (wterm_any t u2 _ HW2.out.hi (by omega) HW2.out.pw)
  by_cases hok : t.right = true ∧ (tx t).length ≤ 8000
  · obtain ⟨hrt, hl8⟩ := hok
    have hwt : wtX t = (tx t, 0) := by
      have h9 : ¬ 8000 < (tx t).length := by omega
      unfold wtX
      rw [hrt]
      simp [h9]
    rw [hwt] at HT
    clear hwt
    by_cases hl7 : 7998 < (tx t).length
    · obtain ⟨X, hX⟩ : ∃ X, tx t = X := ⟨_, rfl⟩
      rw [hX] at HT hl7
      have k1 : (7998 : Int) < (X.length : Int) := by omega
      clear hX hl8 hl7 hrt
      go_upto_region 5 with (go_at_call 7; (refine HT.out.mono ?_); rintro e u3 ⟨rfl, hb⟩; have HW3 := Lib.hid (HW2.out.next hb); have c0 : u3.cell? ⟨w.heap.size, 0, none⟩ = some (.int .i64 t.kind) := HW3.out.cells0; have c1 : u3.cell? ⟨w.heap.size, 1, none⟩ = some (.string t.name) := HW3.out.cells1; have c2 : u3.cell? ⟨w.heap.size, 2, none⟩ = some (.int .i64 t.n) := HW3.out.cells2; have c3 : u3.cell? ⟨w.heap.size, 3, none⟩ = some (.slice g m cap) := HW3.out.cells3; have cl := HW3.out.lt; clear hb)
      have HK := Lib.hid (wknows_any u3 HW3.out.pw)
      go_wp2_with (go_at_call 6; (with_reducible refine HK.out.mono ?_); rintro e u4 ⟨rfl, hb⟩; have HB2 := Lib.hid (HW3.out.low.trans (hb.mono HW3.out.low.size)); clear hb)
      go_ret
      exact ⟨rfl, HB2.out⟩
    · have HON := Lib.hid (fun y hy => one_back (y := y) hrt HNO.out (by omega) hy)
      obtain ⟨nr1, nr2, nr3⟩ := num_ren hrt
      obtain ⟨X, hX⟩ : ∃ X, tx t = X := ⟨_, rfl⟩
      obtain ⟨u, hu⟩ : ∃ u, t.ren (posOf (vsT t [])) = u := ⟨_, rfl⟩
      obtain ⟨vs, hvs⟩ : ∃ vs, vsT t [] = vs := ⟨_, rfl⟩
      rw [hu] at nr1
      rw [hvs] at nr2
      rw [hX] at HT hl7 HON
      simp only [hu] at HON
      simp only [hvs] at HON
      have k1 : ((7998 : Int) < (X.length : Int)) = False := by simp only [eq_iff_iff, iff_false]; omega
      obtain ⟨y, hy⟩ : ∃ y, X ++ [32, 46] = y := ⟨_, rfl⟩
      have e1 : (⟨X.toArray⟩ ++ ⟨#[32, 46]⟩ : ByteArray) = ⟨y.toArray⟩ := by
        rw [← hy]
        apply ByteArray.ext
        simp
      have l1 := lim (a := X.length + 2) (by omega)
      have HN1 := Lib.hid nr1
      have HN2 := Lib.hid nr2
      have HN3 := Lib.hid nr3
      have HO := Lib.hid (HON.out y hy.symm)
      clear hX hl8 hrt hy hu hvs nr1 nr2 nr3 HON hl7
      go_upto_region 6 with (go_at_call 7; (refine HT.out.mono ?_); rintro e u3 ⟨rfl, hb⟩; have HW3 := Lib.hid (HW2.out.next hb); have c0 : u3.cell? ⟨w.heap.size, 0, none⟩ = some (.int .i64 t.kind) := HW3.out.cells0; have c1 : u3.cell? ⟨w.heap.size, 1, none⟩ = some (.string t.name) := HW3.out.cells1; have c2 : u3.cell? ⟨w.heap.size, 2, none⟩ = some (.int .i64 t.n) := HW3.out.cells2; have c3 : u3.cell? ⟨w.heap.size, 3, none⟩ = some (.slice g m cap) := HW3.out.cells3; have cl := HW3.out.lt; clear hb)
      have HO3 := Lib.hid (HO.out u3 (HRG.out.next HW3.out.low))
      go_upto_region 7 with (go_at_call 8; (with_reducible refine HO3.out.mono ?_); rintro e u4 ⟨gr, mr, cr, gn, cn, rfl, hiu, hb⟩; have HIU := Lib.hid hiu; clear hiu; have HW4 := Lib.hid (HW3.out.next hb); have c0 : u4.cell? ⟨w.heap.size, 0, none⟩ = some (.int .i64 t.kind) := HW4.out.cells0; have c1 : u4.cell? ⟨w.heap.size, 1, none⟩ = some (.string t.name) := HW4.out.cells1; have c2 : u4.cell? ⟨w.heap.size, 2, none⟩ = some (.int .i64 t.n) := HW4.out.cells2; have c3 : u4.cell? ⟨w.heap.size, 3, none⟩ = some (.slice g m cap) := HW4.out.cells3; have cl := HW4.out.lt; clear hb)
      have hal := (Below.refl u4.heap.size u4).alloc (Nat.le_refl _) (.cells #[.int .i64 u.kind, .string u.name, .int .i64 u.n, .slice gr mr cr, .slice gn vs.length cn] 33)
      have hz5 := newBlk u4 (.cells #[.int .i64 u.kind, .string u.name, .int .i64 u.n, .slice gr mr cr, .slice gn vs.length cn] 33) u4.heap.size rfl
      have HW5 := Lib.hid (HW4.out.next hal)
      have hi5 := kn_next HIU.out hal
      have hl5 : u4.heap.size < (u4.alloc (.cells #[.int .i64 u.kind, .string u.name, .int .i64 u.n, .slice gr mr cr, .slice gn vs.length cn] 33)).heap.size := by simp
      clear hal
      generalize u4.alloc (.cells #[.int .i64 u.kind, .string u.name, .int .i64 u.n, .slice gr mr cr, .slice gn vs.length cn] 33) = V at hz5 HW5 hi5 hl5 ⊢
      obtain ⟨bx, hbx⟩ : ∃ bx, u4.heap.size = bx := ⟨_, rfl⟩
      rw [hbx] at hz5 hl5 ⊢
      have HZ5 := Lib.hid hz5
      have HI5 := Lib.hid hi5
      clear hbx hz5 hi5
      have c0 : V.cell? ⟨w.heap.size, 0, none⟩ = some (.int .i64 t.kind) := HW5.out.cells0; have c1 : V.cell? ⟨w.heap.size, 1, none⟩ = some (.string t.name) := HW5.out.cells1; have c2 : V.cell? ⟨w.heap.size, 2, none⟩ = some (.int .i64 t.n) := HW5.out.cells2; have c3 : V.cell? ⟨w.heap.size, 3, none⟩ = some (.slice g m cap) := HW5.out.cells3; have cl := HW5.out.lt
      have HNM := Lib.hid (num_back (vs := vs) HN1.out HN2.out HN3.out hsz HW5.out.hi)
      go_upto_region 8 with (go_at_call 9; (with_reducible refine HNM.out.mono ?_); rintro e u6 ⟨b2, o2, cm, g2, m2, cg, rfl, hat, hb⟩; have HAT := Lib.hid hat; have HB6 := Lib.hid hb; clear hat hb)
      have hnb : NB w u bx b2 o2 (.slice gr mr cr) (.slice g2 m2 cg) (.slice gn vs.length cn) u6 := by
        have hz6 := (HB6.out.block bx hl5).trans HZ5.out
        refine ⟨⟨?_, ?_, ?_, ?_, kn_next HI5.out HB6.out⟩, HAT.out, ?_, HW5.out.low.trans (HB6.out.mono HW5.out.low.size), HW5.out.pw.next HB6.out HW5.out.pw.lt⟩
        all_goals rw [Lib.cell_of_heap hz6]; rfl
      have HNB := Lib.hid hnb
      have hq := nb_cells _ (hnb.next (Below.refl u6.heap.size u6).drew)
      obtain ⟨y0, y1, y2, y3, y4, y5, y6, y7, y8, _⟩ := id hq
      have hl6 := hnb.a1.lt
      have hl7 := hnb.a2.lt
      have HSC := Lib.hid (fun (W1 W2 : World) (h : W1.cell? ⟨bx, 0, none⟩ = some (.int .i64 u.kind) ∧ W1.cell? ⟨bx, 1, none⟩ = some (.string u.name) ∧ W1.cell? ⟨bx, 2, none⟩ = some (.int .i64 u.n) ∧ W1.cell? ⟨bx, 3, none⟩ = some (.slice gr mr cr) ∧ W1.cell? ⟨bx, 4, none⟩ = some (.slice gn vs.length cn) ∧ W1.cell? ⟨b2, o2, none⟩ = some (.int .i64 u.kind) ∧ W1.cell? ⟨b2, o2 + 1, none⟩ = some (.string u.name) ∧ W1.cell? ⟨b2, o2 + 2, none⟩ = some (.int .i64 u.n) ∧ W1.cell? ⟨b2, o2 + 3, none⟩ = some (.slice g2 m2 cg) ∧ NB w u bx b2 o2 (.slice gr mr cr) (.slice g2 m2 cg) (.slice gn vs.length cn) W1) (hb : Below W1.heap.size W1 W2) => nb_cells W2 (h.2.2.2.2.2.2.2.2.2.next hb))
      have HSM := Lib.hid (fun (W1 : World) (h : W1.cell? ⟨bx, 0, none⟩ = some (.int .i64 u.kind) ∧ W1.cell? ⟨bx, 1, none⟩ = some (.string u.name) ∧ W1.cell? ⟨bx, 2, none⟩ = some (.int .i64 u.n) ∧ W1.cell? ⟨bx, 3, none⟩ = some (.slice gr mr cr) ∧ W1.cell? ⟨bx, 4, none⟩ = some (.slice gn vs.length cn) ∧ W1.cell? ⟨b2, o2, none⟩ = some (.int .i64 u.kind) ∧ W1.cell? ⟨b2, o2 + 1, none⟩ = some (.string u.name) ∧ W1.cell? ⟨b2, o2 + 2, none⟩ = some (.int .i64 u.n) ∧ W1.cell? ⟨b2, o2 + 3, none⟩ = some (.slice g2 m2 cg) ∧ NB w u bx b2 o2 (.slice gr mr cr) (.slice g2 m2 cg) (.slice gn vs.length cn) W1) => same_u u W1 _ _ h.2.2.2.2.2.2.2.2.2.a1.inn h.2.2.2.2.2.2.2.2.2.a2.inn)
      have HSK := Lib.hid (fun (W1 : World) (h : W1.cell? ⟨bx, 0, none⟩ = some (.int .i64 u.kind) ∧ W1.cell? ⟨bx, 1, none⟩ = some (.string u.name) ∧ W1.cell? ⟨bx, 2, none⟩ = some (.int .i64 u.n) ∧ W1.cell? ⟨bx, 3, none⟩ = some (.slice gr mr cr) ∧ W1.cell? ⟨bx, 4, none⟩ = some (.slice gn vs.length cn) ∧ W1.cell? ⟨b2, o2, none⟩ = some (.int .i64 u.kind) ∧ W1.cell? ⟨b2, o2 + 1, none⟩ = some (.string u.name) ∧ W1.cell? ⟨b2, o2 + 2, none⟩ = some (.int .i64 u.n) ∧ W1.cell? ⟨b2, o2 + 3, none⟩ = some (.slice g2 m2 cg) ∧ NB w u bx b2 o2 (.slice gr mr cr) (.slice g2 m2 cg) (.slice gn vs.length cn) W1) => wknows_any W1 h.2.2.2.2.2.2.2.2.2.pw)
      clear hnb c0 c1 c2 c3 cl
      go_region_held3 (fun W1 => W1.cell? ⟨bx, 0, none⟩ = some (.int .i64 u.kind) ∧ W1.cell? ⟨bx, 1, none⟩ = some (.string u.name) ∧ W1.cell? ⟨bx, 2, none⟩ = some (.int .i64 u.n) ∧ W1.cell? ⟨bx, 3, none⟩ = some (.slice gr mr cr) ∧ W1.cell? ⟨bx, 4, none⟩ = some (.slice gn vs.length cn) ∧ W1.cell? ⟨b2, o2, none⟩ = some (.int .i64 u.kind) ∧ W1.cell? ⟨b2, o2 + 1, none⟩ = some (.string u.name) ∧ W1.cell? ⟨b2, o2 + 2, none⟩ = some (.int .i64 u.n) ∧ W1.cell? ⟨b2, o2 + 3, none⟩ = some (.slice g2 m2 cg) ∧ NB w u bx b2 o2 (.slice gr mr cr) (.slice g2 m2 cg) (.slice gn vs.length cn) W1)
        (first | with_reducible exact hq | exact HSC.out _ _ (by assumption) (by assumption))
        (first
          | (go_at_call 10; (with_reducible refine (HSM.out _ (by assumption)).mono ?_); rintro e w' ⟨rfl, hb⟩)
          | (go_at_call 6; (with_reducible refine (HSK.out _ (by assumption)).mono ?_); rintro e w' ⟨rfl, hb⟩))
      rename_i hheld
      have HX := Lib.hid hheld.2.2.2.2.2.2.2.2.2.low
      clear hheld hq HSC HSM HSK
      go_wp2_with fail
      go_ret
      exact ⟨rfl, HX.out⟩
  · have hwt : ∃ n : Nat, wtX t = ([], n) ∧ 0 < n := by
      unfold wtX
      cases hr : t.right with
      | false => exact ⟨1, rfl, by omega⟩
      | true =>
        have h9 : 8000 < (tx t).length := by
          rw [hr] at hok
          simp at hok
          exact hok
        exact ⟨3, by simp [h9], by omega⟩
    obtain ⟨n, hwt, hn⟩ := hwt
    rw [hwt] at HT
    have k1 : ((n : Int) != 0) = true := by rw [bne_iff_ne]; omega
    have k2 : ((n : Int) == 0) = false := by rw [beq_eq_false_iff_ne]; omega
    clear hwt hok hn
    go_upto_region 5 with (go_at_call 7; (refine HT.out.mono ?_); rintro e u3 ⟨rfl, hb⟩; have HW3 := Lib.hid (HW2.out.next hb); have c0 : u3.cell? ⟨w.heap.size, 0, none⟩ = some (.int .i64 t.kind) := HW3.out.cells0; have c1 : u3.cell? ⟨w.heap.size, 1, none⟩ = some (.string t.name) := HW3.out.cells1; have c2 : u3.cell? ⟨w.heap.size, 2, none⟩ = some (.int .i64 t.n) := HW3.out.cells2; have c3 : u3.cell? ⟨w.heap.size, 3, none⟩ = some (.slice g m cap) := HW3.out.cells3; have cl := HW3.out.lt; clear hb)
    have HK := Lib.hid (wknows_any u3 HW3.out.pw)
    go_wp2_with (go_at_call 6; (with_reducible refine HK.out.mono ?_); rintro e u4 ⟨rfl, hb⟩; have HB2 := Lib.hid (HW3.out.low.trans (hb.mono HW3.out.low.size)); clear hb)
    go_ret
    exact ⟨rfl, HB2.out⟩
end Go.Proofs.YtliapkajonbndaaGreatDoor

namespace Go.Proofs.YtliapkajonbndaaGreatDoor
open Go.ChangeShapes Go.WideShapes Go.ChangeAt Go.RowKit Go.Deep

theorem Tryz.cellsTerm : Tryz.prog.cellsOf 24 = 4 := by kernel_rfl
theorem Tryz.cellsInt : Tryz.prog.cellsOf 3 = 1 := by kernel_rfl
theorem Tryz.cellsStr : Tryz.prog.cellsOf 9 = 1 := by kernel_rfl
theorem Tryz.cellsArgs : Tryz.prog.cellsOf 22 = 1 := by kernel_rfl
theorem Tryz.bytesTerm : Tryz.prog.bytesOf 24 = 56 := by kernel_rfl

theorem weights_mem_all {H : Type} {P : Program} {e : TypeId} : ∀ {ds : List (DataW H)} {d : DataW H}, d ∈ ds → ∀ n ∈ d.weights P e, n ∈ DataW.weightsAll P e ds
  | d0 :: ds, d, hd, n, hn => by
    simp only [DataW.weightsAll, List.mem_append]
    rcases List.mem_cons.1 hd with rfl | hd
    · exact .inl hn
    · exact .inr (weights_mem_all hd n hn)
  | [], _, hd, _, _ => by cases hd

instance : Inhabited (Tm × Value) := ⟨(.mk 0 ByteArray.empty 0 [], .slice none 0 0)⟩

set_option maxRecDepth 100000 in
theorem open_term {H : Type} {enc : TypeId × Value → H} {W : World} {spare : Nat → Bool} {held : Bool} : ∀ (fuel : Nat) (cs : List Value) (x : DataW H × List MemPlace),
    DataW.trod enc Tryz.prog W 0 spare held fuel 24 cs = some x → (∀ n ∈ x.1.weights Tryz.prog 24, n ≤ reachBytes) →
    ∃ (t : Tm) (sv : Value), cs = [.int .i64 t.kind, .string t.name, .int .i64 t.n, sv] ∧ Tm.inn W W.heap.size t sv := by
  intro fuel
  induction fuel using Nat.strongRecOn with
  | ind fuel ih =>
  intro cs x h hw
  obtain ⟨xs, n, hn, rfl, hlen, hxl, hf⟩ := DataW.trod_struct Tryz.underlying24 h
  rw [Tryz.cellsTerm] at hlen
  match xs, hxl, cs, hlen with
  | [y0, y1, y2, y3], _, [c0, c1, c2, c3], _ =>
  have h0 := hf 0 _ rfl
  have h1 := hf 1 _ rfl
  have h2 := hf 2 _ rfl
  have h3 := hf 3 _ rfl
  replace h0 : DataW.trod enc Tryz.prog W 0 spare held n 3 (([c0, c1, c2, c3].drop 0).take (Tryz.prog.cellsOf 3)) = some y0 := h0
  replace h1 : DataW.trod enc Tryz.prog W 0 spare held n 9 (([c0, c1, c2, c3].drop 1).take (Tryz.prog.cellsOf 9)) = some y1 := h1
  replace h2 : DataW.trod enc Tryz.prog W 0 spare held n 3 (([c0, c1, c2, c3].drop 2).take (Tryz.prog.cellsOf 3)) = some y2 := h2
  replace h3 : DataW.trod enc Tryz.prog W 0 spare held n 22 (([c0, c1, c2, c3].drop 3).take (Tryz.prog.cellsOf 22)) = some y3 := h3
  rw [Tryz.cellsInt] at h0 h2
  rw [Tryz.cellsStr] at h1
  rw [Tryz.cellsArgs] at h3
  replace h0 : DataW.trod enc Tryz.prog W 0 spare held n 3 [c0] = some y0 := h0
  replace h1 : DataW.trod enc Tryz.prog W 0 spare held n 9 [c1] = some y1 := h1
  replace h2 : DataW.trod enc Tryz.prog W 0 spare held n 3 [c2] = some y2 := h2
  replace h3 : DataW.trod enc Tryz.prog W 0 spare held n 22 [c3] = some y3 := h3
  obtain ⟨k, e0, r0, w0⟩ := DataW.trod_int Tryz.underlying3 h0
  obtain ⟨s, e1, r1, w1⟩ := DataW.trod_string Tryz.underlying9 h1
  obtain ⟨m, e2, r2, w2⟩ := DataW.trod_int Tryz.underlying3 h2
  simp only [List.cons.injEq, and_true] at e0 e1 e2
  subst e0 e1 e2
  have hw3 : ∀ n ∈ y3.1.weights Tryz.prog 22, n ≤ reachBytes := by
    intro n hn
    refine hw n ?_
    simp only [DataW.weights, Tryz.underlying24]
    exact DataW.weights_mem_each (j := 3) (t := 22) (d := y3.1) rfl rfl n hn
  rcases DataW.trod_slice Tryz.underlying22 h3 with ⟨e3, _⟩ | ⟨a, len, cap, elems, rest, n', hn', e3, r3, _, hlc, hcm, hel, hcell, _, _⟩
  · simp only [List.cons.injEq, and_true] at e3
    subst e3
    refine ⟨.mk k s m [], _, rfl, ?_⟩
    rw [Tm.inn_mk]
    exact ⟨⟨w0, w1, w2⟩, none, 0, rfl, by simp, by simp, .inl rfl⟩
  · simp only [List.cons.injEq, and_true] at e3
    subst e3
    subst r3
    simp only [DataW.weights, Tryz.underlying22, Tryz.bytesTerm] at hw3
    have hbig := hw3 _ (List.mem_cons_self ..)
    simp only [List.length_map, reachBytes] at hbig
    rw [Tryz.cellsTerm] at hcell
    have hall : ∀ i, i < len → ∃ p : Tm × Value, W.cell? (a.add (i * 4)) = some (.int .i64 p.1.kind) ∧ W.cell? (a.add (i * 4 + 1)) = some (.string p.1.name) ∧ W.cell? (a.add (i * 4 + 2)) = some (.int .i64 p.1.n) ∧ W.cell? (a.add (i * 4 + 3)) = some p.2 ∧ Tm.inn W W.heap.size p.1 p.2 := by
      intro i hi
      have hc := hcell i hi
      rw [List.getElem?_eq_getElem (by omega)] at hc
      obtain ⟨cs', hc1, hc2⟩ := Option.bind_eq_some_iff.1 hc
      obtain ⟨t, sv, rfl, hin⟩ := ih n' (by omega) cs' _ hc2 (fun n hn => hw3 n (by
        refine List.mem_cons_of_mem _ (List.mem_append_left _ (weights_mem_all ?_ n hn))
        exact List.mem_map_of_mem (List.getElem_mem _)))
      obtain ⟨_, _, hat⟩ := World.cells?_some hc1
      have g0 := hat 0 (by omega)
      have g1 := hat 1 (by omega)
      have g2 := hat 2 (by omega)
      have g3 := hat 3 (by omega)
      rw [add_add] at g0 g1 g2 g3
      exact ⟨(t, sv), by simpa using g0, by simpa using g1, by simpa using g2, by simpa using g3, hin⟩
    obtain ⟨f, hf'⟩ := choose_lt hall
    refine ⟨.mk k s m ((List.range len).map fun i => (f i).1), _, rfl, ?_⟩
    rw [Tm.inn_mk]
    refine ⟨⟨w0, w1, w2⟩, some a, cap, by simp, by simpa using hlc, by simp; omega, ?_⟩
    by_cases hl0 : len = 0
    · subst hl0; exact .inl rfl
    · obtain ⟨b, off, spot⟩ := a
      have hspot : spot = none := by simpa [Addr.add] using World.cell?_spot (hf' 0 (by omega)).1
      subst hspot
      refine .inr ⟨b, off, rfl, ?_, Tm.rowIn_of fun i hi => ?_⟩
      · have := World.block_lt_of_cell? _ _ (hf' 0 (by omega)).1
        simpa [Addr.add] using this
      · have hi' : i < len := by simpa using hi
        obtain ⟨g0, g1, g2, g3, g4⟩ := hf' i hi'
        simp only [add_plain] at g0 g1 g2 g3
        refine ⟨(f i).2, ?_, ?_, ?_, ?_, ?_⟩
        · simpa using g0
        · simpa [Nat.add_assoc] using g1
        · simpa [Nat.add_assoc] using g2
        · simpa [Nat.add_assoc] using g3
        · simpa using g4

set_option maxRecDepth 100000 in
/-- .. as an argument. -/
theorem open_arg {H : Type} {enc : TypeId × Value → H} {W : World} {r : Reach} {base : Nat} {spare : Nat → Bool} {held : Bool} {v : Value} {d : DataW H} {p : List MemPlace} (hv : Value.okWide Tryz.prog W r base 24 v)
    (h : DataW.Trod enc Tryz.prog W 0 spare held 24 v d p) (hw : ∀ n ∈ d.weights Tryz.prog 24, n ≤ reachBytes) :
    ∃ (t : Tm) (sv : Value), v = .agg #[.int .i64 t.kind, .string t.name, .int .i64 t.n, sv] ∧ Tm.inn W W.heap.size t sv := by
  obtain ⟨cs, rfl, hsz⟩ := okWide_struct Tryz.underlying24 hv
  obtain ⟨fuel, hf⟩ := h
  obtain ⟨t, sv, e, hin⟩ := open_term fuel _ _ hf hw
  refine ⟨t, sv, ?_, hin⟩
  obtain ⟨l⟩ := cs
  simp only [Value.cells] at e
  rw [← e]
end Go.Proofs.YtliapkajonbndaaGreatDoor

namespace Go.Proofs.YtliapkajonbndaaGreatDoor
open Go.ChangeShapes Go.WideShapes Go.ChangeAt Go.RowKit Go.Deep

theorem open_terms {H : Type} {enc : TypeId × Value → H} {W : World} {spare : Nat → Bool} {held : Bool} {fuel : Nat} {cs : List Value} {x : DataW H × List MemPlace}
    (h : DataW.trod enc Tryz.prog W 0 spare held fuel 22 cs = some x) (hw : ∀ n ∈ x.1.weights Tryz.prog 22, n ≤ reachBytes) :
    ∃ (l : List Tm) (sv : Value), cs = [sv] ∧ Tm.sliceIn W W.heap.size l sv := by
  rcases DataW.trod_slice Tryz.underlying22 h with ⟨e3, _⟩ | ⟨a, len, cap, elems, rest, n', hn', e3, r3, _, hlc, hcm, hel, hcell, _, _⟩
  · subst e3
    exact ⟨[], _, rfl, none, 0, rfl, by simp, by simp, .inl rfl⟩
  · subst e3
    subst r3
    simp only [DataW.weights, Tryz.underlying22, Tryz.bytesTerm] at hw
    have hbig := hw _ (List.mem_cons_self ..)
    simp only [List.length_map, reachBytes] at hbig
    rw [Tryz.cellsTerm] at hcell
    have hall : ∀ i, i < len → ∃ p : Tm × Value, W.cell? (a.add (i * 4)) = some (.int .i64 p.1.kind) ∧ W.cell? (a.add (i * 4 + 1)) = some (.string p.1.name) ∧ W.cell? (a.add (i * 4 + 2)) = some (.int .i64 p.1.n) ∧ W.cell? (a.add (i * 4 + 3)) = some p.2 ∧ Tm.inn W W.heap.size p.1 p.2 := by
      intro i hi
      have hc := hcell i hi
      rw [List.getElem?_eq_getElem (by omega)] at hc
      obtain ⟨cs', hc1, hc2⟩ := Option.bind_eq_some_iff.1 hc
      obtain ⟨t, sv, rfl, hin⟩ := open_term n' cs' _ hc2 (fun n hn => hw n (by
        refine List.mem_cons_of_mem _ (List.mem_append_left _ (weights_mem_all ?_ n hn))
        exact List.mem_map_of_mem (List.getElem_mem _)))
      obtain ⟨_, _, hat⟩ := World.cells?_some hc1
      have g0 := hat 0 (by omega)
      have g1 := hat 1 (by omega)
      have g2 := hat 2 (by omega)
      have g3 := hat 3 (by omega)
      rw [add_add] at g0 g1 g2 g3
      exact ⟨(t, sv), by simpa using g0, by simpa using g1, by simpa using g2, by simpa using g3, hin⟩
    obtain ⟨f, hf'⟩ := choose_lt hall
    refine ⟨(List.range len).map fun i => (f i).1, _, rfl, some a, cap, by simp, by simpa using hlc, by simp; omega, ?_⟩
    by_cases hl0 : len = 0
    · subst hl0; exact .inl rfl
    · obtain ⟨b, off, spot⟩ := a
      have hspot : spot = none := by simpa [Addr.add] using World.cell?_spot (hf' 0 (by omega)).1
      subst hspot
      refine .inr ⟨b, off, rfl, ?_, Tm.rowIn_of fun i hi => ?_⟩
      · have := World.block_lt_of_cell? _ _ (hf' 0 (by omega)).1
        simpa [Addr.add] using this
      · have hi' : i < len := by simpa using hi
        obtain ⟨g0, g1, g2, g3, g4⟩ := hf' i hi'
        simp only [add_plain] at g0 g1 g2 g3
        refine ⟨(f i).2, ?_, ?_, ?_, ?_, ?_⟩
        · simpa using g0
        · simpa [Nat.add_assoc] using g1
        · simpa [Nat.add_assoc] using g2
        · simpa [Nat.add_assoc] using g3
        · simpa using g4

set_option maxRecDepth 100000 in
/-- .. as an argument. -/
theorem open_row {H : Type} {enc : TypeId × Value → H} {W : World} {r : Reach} {base : Nat} {spare : Nat → Bool} {held : Bool} {v : Value} {d : DataW H} {p : List MemPlace} (hv : Value.okWide Tryz.prog W r base 22 v)
    (h : DataW.Trod enc Tryz.prog W 0 spare held 22 v d p) (hw : ∀ n ∈ d.weights Tryz.prog 22, n ≤ reachBytes) :
    ∃ (l : List Tm), Tm.sliceIn W W.heap.size l v := by
  obtain ⟨a0, len, cap, rfl⟩ := okWide_slice Tryz.underlying22 hv
  obtain ⟨fuel, hf⟩ := h
  obtain ⟨l, sv, e, hin⟩ := open_terms hf hw
  simp only [Value.cells, List.cons.injEq, and_true] at e
  exact ⟨l, by rw [e]; exact hin⟩
end Go.Proofs.YtliapkajonbndaaGreatDoor
