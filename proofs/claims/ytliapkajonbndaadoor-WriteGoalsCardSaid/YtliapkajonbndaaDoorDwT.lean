/-
  The document's Term and tail: a term's text.
-/
import Derived.Test.YtliapkajonbndaaDoorDwN
import Derived.Test.YtliapkajonbndaaDoorWrL
import Derived.Test.YtliapkajonbndaaDoorTmP
import Derived.Deep.CutRange
import Derived.Deep.LoopGhost
import Derived.Deep.DeepCutAuto
import Derived.Deep.RegionHeld3
namespace Go.Proofs.YtliapkajonbndaaDoor
open Go.RowKit

def TmW (t : Tm) : Prop := ∀ (w : World) (sv : Value), Tm.inn w w.heap.size t sv → Calls Tryd.prog 9 #[.agg #[.int .i64 t.kind, .string t.name, .int .i64 t.n, sv]] w fun e w' => e = .returned (.string ⟨(tx t).toArray⟩) ∧ Below w.heap.size w w'
def TlW (t : Tm) : Prop := ∀ (w : World) (sv : Value), Tm.inn w w.heap.size t sv → Calls Tryd.prog 26 #[.agg #[.int .i64 t.kind, .string t.name, .int .i64 t.n, sv]] w fun e w' => e = .returned (.string ⟨(tl t).toArray⟩) ∧ Below w.heap.size w w'
set_option maxRecDepth 100000 in
set_option maxHeartbeats 4000000 in
theorem tmw_var {n : Int} (h0 : 0 ≤ n) : TmW (.mk 1 ⟨#[]⟩ n []) := by
  intro w sv hin
  obtain ⟨⟨_, _, hwf⟩, g, cap, rfl, -, -, -⟩ := Tm.inn_mk.1 hin
  have hx : tx (.mk 1 ⟨#[]⟩ n []) = 95 :: dgz n := by
    unfold dgz
    rw [if_neg (by omega)]
    simp [tx, wr, txO]
  have hln := dgz_len hwf
  have HX := Lib.hid hx
  have HWF := Lib.hid hwf
  clear hin hx hwf
  show Calls Tryd.prog 9 #[.agg #[.int .i64 1, .string ⟨#[]⟩, .int .i64 n, .slice g 0 cap]] w _
  go_enter Tryd.func9, Tryd.ntmps9
  go_upto_region 1 with fail
  have hv := (Below.refl w.heap.size w).alloc (Nat.le_refl _) (.cells #[.int .i64 1, .string ⟨#[]⟩, .int .i64 n, .slice g 0 cap] 24)
  have hz := newBlk w (.cells #[.int .i64 1, .string ⟨#[]⟩, .int .i64 n, .slice g 0 cap] 24) w.heap.size rfl
  have hzl : w.heap.size < (w.alloc (.cells #[.int .i64 1, .string ⟨#[]⟩, .int .i64 n, .slice g 0 cap] 24)).heap.size := by simp
  obtain ⟨v, hv1⟩ : ∃ v, w.alloc (.cells #[.int .i64 1, .string ⟨#[]⟩, .int .i64 n, .slice g 0 cap] 24) = v := ⟨_, rfl⟩
  rw [hv1] at hv hz hzl ⊢
  clear hv1
  obtain ⟨⟨a0, a1, a2, a3⟩, -⟩ := row4 hz
  have HV := Lib.hid hv
  have HZ := Lib.hid hz
  have e1 : (⟨#[95]⟩ ++ ⟨(dgz n).toArray⟩ : ByteArray) = ⟨(95 :: dgz n).toArray⟩ := ba_app [95] (dgz n)
  have l1 := lim (a := 1 + (dgz n).length) (by omega)
  go_wp2_with (go_at_call 24; (with_reducible refine (ddigits_any n HWF.out v).mono ?_); rintro e w' ⟨rfl, hb⟩; have HB := Lib.hid hb; clear hb)
  go_ret
  rw [HX.out]
  exact ⟨rfl, HV.out.trans (HB.out.mono HV.out.size)⟩
set_option maxRecDepth 100000 in
set_option maxHeartbeats 4000000 in
theorem tmw_num (n : Int) : TmW (.mk 2 ⟨#[]⟩ n []) := by
  intro w sv hin
  obtain ⟨⟨_, _, hwf⟩, g, cap, rfl, -, -, -⟩ := Tm.inn_mk.1 hin
  have hx : tx (.mk 2 ⟨#[]⟩ n []) = dgz n := by
    simp [tx, wr, txO, dgz]
  have hln := dgz_len hwf
  have HX := Lib.hid hx
  have HWF := Lib.hid hwf
  clear hin hx hwf
  show Calls Tryd.prog 9 #[.agg #[.int .i64 2, .string ⟨#[]⟩, .int .i64 n, .slice g 0 cap]] w _
  go_enter Tryd.func9, Tryd.ntmps9
  go_upto_region 1 with fail
  have hv := (Below.refl w.heap.size w).alloc (Nat.le_refl _) (.cells #[.int .i64 2, .string ⟨#[]⟩, .int .i64 n, .slice g 0 cap] 24)
  have hz := newBlk w (.cells #[.int .i64 2, .string ⟨#[]⟩, .int .i64 n, .slice g 0 cap] 24) w.heap.size rfl
  have hzl : w.heap.size < (w.alloc (.cells #[.int .i64 2, .string ⟨#[]⟩, .int .i64 n, .slice g 0 cap] 24)).heap.size := by simp
  obtain ⟨v, hv1⟩ : ∃ v, w.alloc (.cells #[.int .i64 2, .string ⟨#[]⟩, .int .i64 n, .slice g 0 cap] 24) = v := ⟨_, rfl⟩
  rw [hv1] at hv hz hzl ⊢
  clear hv1
  obtain ⟨⟨a0, a1, a2, a3⟩, -⟩ := row4 hz
  have HV := Lib.hid hv
  have HZ := Lib.hid hz
  go_wp2_with (go_at_call 24; (with_reducible refine (ddigits_any n HWF.out v).mono ?_); rintro e w' ⟨rfl, hb⟩; have HB := Lib.hid hb; clear hb)
  go_ret
  rw [HX.out]
  exact ⟨rfl, HV.out.trans (HB.out.mono HV.out.size)⟩
theorem dname_b (s : ByteArray) (hs : s.size ≤ 1000) (w : World) :
    Calls Tryd.prog 25 #[.string s] w fun e w' => e = .returned (.string ⟨(nmX (bsN s)).toArray⟩) ∧ Below w.heap.size w w' :=
  (dname_any s hs w).mono fun _ _ h => ⟨h.1, h.2 ▸ Below.refl _ _⟩
set_option maxRecDepth 100000 in
set_option maxHeartbeats 4000000 in
theorem tmw_atom {s : ByteArray} (hs : s.size ≤ 20) : TmW (.mk 3 s 0 []) := by
  intro w sv hin
  obtain ⟨⟨_, _, hwf⟩, g, cap, rfl, -, -, -⟩ := Tm.inn_mk.1 hin
  have hx : tx (.mk 3 s 0 []) = nmX (bsN s) := by simp [tx, wr, txO, wrs]
  have hln := nmX_len (bsN s)
  rw [bsN_length] at hln
  have HX := Lib.hid hx
  clear hin hx hwf
  show Calls Tryd.prog 9 #[.agg #[.int .i64 3, .string s, .int .i64 0, .slice g 0 cap]] w _
  go_enter Tryd.func9, Tryd.ntmps9
  go_upto_region 1 with fail
  have hv := (Below.refl w.heap.size w).alloc (Nat.le_refl _) (.cells #[.int .i64 3, .string s, .int .i64 0, .slice g 0 cap] 24)
  have hz := newBlk w (.cells #[.int .i64 3, .string s, .int .i64 0, .slice g 0 cap] 24) w.heap.size rfl
  have hzl : w.heap.size < (w.alloc (.cells #[.int .i64 3, .string s, .int .i64 0, .slice g 0 cap] 24)).heap.size := by simp
  obtain ⟨v, hv1⟩ : ∃ v, w.alloc (.cells #[.int .i64 3, .string s, .int .i64 0, .slice g 0 cap] 24) = v := ⟨_, rfl⟩
  rw [hv1] at hv hz hzl ⊢
  clear hv1
  obtain ⟨⟨a0, a1, a2, a3⟩, -⟩ := row4 hz
  have HV := Lib.hid hv
  have HZ := Lib.hid hz
  go_wp2_with (go_at_call 25; (with_reducible refine (dname_b s (by omega) v).mono ?_); rintro e w' ⟨rfl, hb⟩; have HB := Lib.hid hb; clear hb)
  go_ret
  rw [HX.out]
  exact ⟨rfl, HV.out.trans (HB.out.mono HV.out.size)⟩
theorem cmX_app (l r : List Tm) : cmX (wrs (l ++ r)) = cmX (wrs l) ++ cmX (wrs r) := by
  induction l with
  | nil => rfl
  | cons t l ih =>
    show 44 :: (tx t ++ cmX (wrs (l ++ r))) = 44 :: (tx t ++ cmX (wrs l)) ++ cmX (wrs r)
    rw [ih]
    simp
theorem cmX_snoc (l : List Tm) (t : Tm) : cmX (wrs (l ++ [t])) = cmX (wrs l) ++ 44 :: tx t := by
  rw [cmX_app]
  show _ ++ 44 :: (tx t ++ []) = _
  rw [List.append_nil]
theorem size_pos (t : Tm) : 1 ≤ t.size := by cases t; simp [Tm.size]
theorem sizes_len : ∀ l : List Tm, l.length ≤ Tm.sizes l
  | [] => by simp [Tm.sizes]
  | t :: l => by
    have h1 := sizes_len l
    have h2 := size_pos t
    simp only [List.length_cons, Tm.sizes]
    omega
theorem Tm.size_mem {l : List Tm} {t : Tm} (h : t ∈ l) : t.size ≤ Tm.sizes l := by
  induction l with
  | nil => cases h
  | cons u r ih =>
    simp only [Tm.sizes]
    rcases List.mem_cons.1 h with rfl | h
    · omega
    · have := ih h; omega
theorem cmX_take (l : List Tm) (j : Nat) (h : ∀ t ∈ l, (tx t).length ≤ 60 * t.size) : (cmX (wrs (l.take j))).length ≤ 61 * Tm.sizes l := by
  have h1 := cmX_len l h
  have h2 := sizes_len l
  have h3 := cmX_app (l.take j) (l.drop j)
  rw [List.take_append_drop] at h3
  rw [h3] at h1
  simp only [List.length_append] at h1
  omega
/-- A Fun with Args in a box, and what the call keeps. -/
structure TB9 (w0 : World) (s : ByteArray) (l : List Tm) (bx : Nat) (sv : Value) (W : World) : Prop where
  hb : W.heap[bx]? = some (.cells #[.int .i64 3, .string s, .int .i64 0, sv] 24 (0, 0))
  hs : Tm.sliceIn W W.heap.size l sv
  low : Below w0.heap.size w0 W
theorem TB9.lt {w0 : World} {s : ByteArray} {l : List Tm} {bx : Nat} {sv : Value} {W : World} (h : TB9 w0 s l bx sv W) : bx < W.heap.size := (Array.getElem?_eq_some_iff.1 h.hb).1
theorem TB9.next {w0 : World} {s : ByteArray} {l : List Tm} {bx : Nat} {sv : Value} {W W' : World} (h : TB9 w0 s l bx sv W) (hb : Below W.heap.size W W') : TB9 w0 s l bx sv W' :=
  ⟨(hb.block _ h.lt).trans h.hb, Tm.sliceIn_mono (Tm.sliceIn_below h.hs hb (Nat.le_refl _)) hb.size, h.low.trans (hb.mono h.low.size)⟩
/-- An Arg at its place. -/
structure TA9 (W : World) (b p : Nat) (t : Tm) (sv : Value) : Prop where
  c0 : W.cell? ⟨b, p, none⟩ = some (.int .i64 t.kind)
  c1 : W.cell? ⟨b, p + 1, none⟩ = some (.string t.name)
  c2 : W.cell? ⟨b, p + 2, none⟩ = some (.int .i64 t.n)
  c3 : W.cell? ⟨b, p + 3, none⟩ = some sv
  hi : Tm.inn W W.heap.size t sv
theorem TA9.lt {W : World} {b p : Nat} {t : Tm} {sv : Value} (h : TA9 W b p t sv) : b < W.heap.size := World.block_lt_of_cell? _ _ h.c0
theorem TA9.next {W W' : World} {b p : Nat} {t : Tm} {sv : Value} (h : TA9 W b p t sv) (hb : Below W.heap.size W W') : TA9 W' b p t sv :=
  ⟨(hb.cell (p := ⟨b, p, none⟩) h.lt).trans h.c0, (hb.cell (p := ⟨b, p + 1, none⟩) h.lt).trans h.c1, (hb.cell (p := ⟨b, p + 2, none⟩) h.lt).trans h.c2, (hb.cell (p := ⟨b, p + 3, none⟩) h.lt).trans h.c3, Tm.inn_mono (Tm.inn_below h.hi hb (Nat.le_refl _)) hb.size⟩
theorem TA9.of {W : World} {l : List Tm} {g : Option Addr} {n c : Nat} (h : Tm.sliceIn W W.heap.size l (.slice g n c)) (i : Nat) (hi : i < l.length) : ∃ b o sv, g = some ⟨b, o, none⟩ ∧ TA9 W b (o + i * 4) l[i] sv := by
  obtain ⟨b, off, sv, e, _, g0, g1, g2, g3, hin⟩ := Tm.sliceIn_get h i hi
  exact ⟨b, off, sv, e, g0, g1, g2, g3, hin⟩
set_option maxRecDepth 100000 in
set_option maxHeartbeats 8000000 in
theorem tmw_fun {s : ByteArray} {a : Tm} {q : List Tm} (hs : s.size ≤ 20) (hq : ∀ t ∈ a :: q, TmW t) (hd : ¬ (bsN s = [46] ∧ q.length = 1)) (hsz : Tm.sizes (a :: q) ≤ 1000000) (hfa : ∀ t ∈ a :: q, t.fair = true) : TmW (.mk 3 s 0 (a :: q)) := by
  intro w sv hin
  obtain ⟨_, hsl⟩ := Tm.inn_mk.1 hin
  have hlen : ∀ t ∈ a :: q, (tx t).length ≤ 60 * t.size := fun t ht => by
    obtain ⟨sv', h'⟩ := inn_each hsl t ht
    exact (inn_len t (hfa t ht) w _ sv' h').1
  have HLEN := Lib.hid hlen
  clear hfa
  obtain ⟨g, cap, rfl, -, -, -⟩ := id hsl
  have hdot : dotO (bsN s) (wrs (a :: q)) = none := by
    cases q with
    | nil => rfl
    | cons b q =>
      cases q with
      | nil =>
        simp only [wrs, dotO]
        rw [if_neg (fun e => hd ⟨e, rfl⟩)]
      | cons c q => rfl
  have hx : tx (.mk 3 s 0 (a :: q)) = nmX (bsN s) ++ 40 :: (tx a ++ (cmX (wrs q) ++ [41])) := by
    have hw : wrs (a :: q) = wr a :: wrs q := by rw [wrs]
    show txO 3 (bsN s) 0 (wrs (a :: q)) = _
    unfold txO
    rw [if_neg (by decide), if_neg (by decide), hw]
    rw [hw] at hdot
    simp only [hdot]
    rfl
  have hln := nmX_len (bsN s)
  rw [bsN_length] at hln
  have HX := Lib.hid hx
  have HQ := Lib.hid hq
  have HSZ := Lib.hid hsz
  have HS := Lib.hid hs
  obtain ⟨nm, hnm⟩ : ∃ x, nmX (bsN s) = x := ⟨_, rfl⟩
  rw [hnm] at hln
  have HNM := Lib.hid (fun v => dname_b s (by omega) v)
  rw [hnm] at HNM
  have HNX := Lib.hid hnm
  have HLN := Lib.hid hln
  have kq : ((a :: q).length : Int) = (q.length : Int) + 1 := by simp
  obtain ⟨m, hm⟩ : ∃ m, (a :: q).length = m := ⟨_, rfl⟩
  have hm1 : 1 ≤ m := by rw [← hm]; simp
  have hmB : m ≤ 1000000 := by have := sizes_len (a :: q); omega
  have jm : 0 < m := by omega
  have HM := Lib.hid hm
  have kd : (s.toList = [46]) = (bsN s = [46]) := by rw [bsN_toList]
  have k0 : ((m : Int) == 0) = false := by rw [beq_eq_false_iff_ne]; omega
  show Calls Tryd.prog 9 #[.agg #[.int .i64 3, .string s, .int .i64 0, .slice g (a :: q).length cap]] w _
  rw [hm]
  go_enter Tryd.func9, Tryd.ntmps9
  go_upto_region 1 with fail
  have hv := (Below.refl w.heap.size w).alloc (Nat.le_refl _) (.cells #[.int .i64 3, .string s, .int .i64 0, .slice g m cap] 24)
  have hz := newBlk w (.cells #[.int .i64 3, .string s, .int .i64 0, .slice g m cap] 24) w.heap.size rfl
  have hzl : w.heap.size < (w.alloc (.cells #[.int .i64 3, .string s, .int .i64 0, .slice g m cap] 24)).heap.size := by simp
  obtain ⟨v, hv1⟩ : ∃ v, w.alloc (.cells #[.int .i64 3, .string s, .int .i64 0, .slice g m cap] 24) = v := ⟨_, rfl⟩
  rw [hv1] at hv hz hzl ⊢
  clear hv1
  obtain ⟨⟨a0, a1, a2, a3⟩, -⟩ := row4 hz
  have HV := Lib.hid hv
  have HZ := Lib.hid hz
  have htb : TB9 w s (a :: q) w.heap.size (.slice g m cap) v := ⟨hz, by rw [← hm]; exact Tm.sliceIn_mono (Tm.sliceIn_below hsl hv (Nat.le_refl _)) hv.size, hv⟩
  have HTB := Lib.hid htb
  clear hsl hin hv hz hx hq hsz hnm hm kq hdot
  have hcond : ((s.toList == [46]) = false) ∨ ((s.toList == [46]) = true ∧ ((m : Int) == 2) = false) := by
    by_cases h : bsN s = [46]
    · refine .inr ⟨by rw [bsN_toList, h]; rfl, ?_⟩
      rw [beq_eq_false_iff_ne]
      have h1 : q.length ≠ 1 := fun e => hd ⟨h, e⟩
      have h2 := HM.out
      simp only [List.length_cons] at h2
      omega
    · exact .inl (by rw [bsN_toList, beq_eq_false_iff_ne]; exact h)
  obtain ⟨b, o0, sva, rfl, hta⟩ := TA9.of (by have h := HTB.out.hs; exact h) 0 (by simp)
  rw [Nat.zero_mul, Nat.add_zero] at hta
  have hta : TA9 v b o0 a sva := hta
  obtain ⟨gs, ms, cs, rfl⟩ : ∃ g m c, sva = .slice g m c := by
    obtain ⟨_, g, c, e, _⟩ := Tm.inn_iff.1 hta.hi
    exact ⟨_, _, _, e⟩
  obtain ⟨y1, hy1⟩ : ∃ y, nm ++ [40] = y := ⟨_, rfl⟩
  obtain ⟨y2, hy2⟩ : ∃ y, y1 ++ tx a = y := ⟨_, rfl⟩
  have e1 : (⟨nm.toArray⟩ ++ ⟨#[40]⟩ : ByteArray) = ⟨y1.toArray⟩ := by rw [← hy1]; exact ba_app nm [40]
  have e2 : (⟨y1.toArray⟩ ++ ⟨(tx a).toArray⟩ : ByteArray) = ⟨y2.toArray⟩ := by rw [← hy2]; exact ba_app y1 (tx a)
  have hla := HLEN.out a (by simp)
  have hsz1 := HSZ.out
  simp only [Tm.sizes] at hsz1
  have hl1 : y1.length = nm.length + 1 := by rw [← hy1]; simp
  have hl2 : y2.length = y1.length + (tx a).length := by rw [← hy2]; simp
  have l1 := lim (a := nm.length + 1) (by omega)
  have l2 := lim (a := y1.length + (tx a).length) (by omega)
  have HY2 := Lib.hid (show y2 = nm ++ 40 :: tx a by rw [← hy2, ← hy1]; simp)
  have HL2 := Lib.hid (show y2.length ≤ 100 + 60 * a.size by omega)
  have HTA := Lib.hid hta
  have htq := HQ.out a (by simp)
  have HTQ := Lib.hid htq
  have HSC := Lib.hid (fun W1 (h1 : TA9 W1 b o0 a (.slice gs ms cs)) (h2 : TB9 w s (a :: q) w.heap.size (.slice (some ⟨b, o0, none⟩) m cap) W1) => (⟨(row4 h2.hb).1.2.1, (row4 h2.hb).1.2.2.2, h1.c0, h1.c1, h1.c2, h1.c3, h1, h2⟩ : W1.cell? ⟨w.heap.size, 1, none⟩ = some (.string s) ∧ W1.cell? ⟨w.heap.size, 3, none⟩ = some (.slice (some ⟨b, o0, none⟩) m cap) ∧ W1.cell? ⟨b, o0, none⟩ = some (.int .i64 a.kind) ∧ W1.cell? ⟨b, o0 + 1, none⟩ = some (.string a.name) ∧ W1.cell? ⟨b, o0 + 2, none⟩ = some (.int .i64 a.n) ∧ W1.cell? ⟨b, o0 + 3, none⟩ = some (.slice gs ms cs) ∧ TA9 W1 b o0 a (.slice gs ms cs) ∧ TB9 w s (a :: q) w.heap.size (.slice (some ⟨b, o0, none⟩) m cap) W1))
  have hs9 := HSC.out _ (hta.next (Below.refl v.heap.size v).drew) (HTB.out.next (Below.refl v.heap.size v).drew)
  have HST := Lib.hid (fun W1 W2 (h : W1.cell? ⟨w.heap.size, 1, none⟩ = some (.string s) ∧ W1.cell? ⟨w.heap.size, 3, none⟩ = some (.slice (some ⟨b, o0, none⟩) m cap) ∧ W1.cell? ⟨b, o0, none⟩ = some (.int .i64 a.kind) ∧ W1.cell? ⟨b, o0 + 1, none⟩ = some (.string a.name) ∧ W1.cell? ⟨b, o0 + 2, none⟩ = some (.int .i64 a.n) ∧ W1.cell? ⟨b, o0 + 3, none⟩ = some (.slice gs ms cs) ∧ TA9 W1 b o0 a (.slice gs ms cs) ∧ TB9 w s (a :: q) w.heap.size (.slice (some ⟨b, o0, none⟩) m cap) W1) (hb : Below W1.heap.size W1 W2) => HSC.out W2 (h.2.2.2.2.2.2.1.next hb) (h.2.2.2.2.2.2.2.next hb))
  have HTM := Lib.hid (fun W1 (h : W1.cell? ⟨w.heap.size, 1, none⟩ = some (.string s) ∧ W1.cell? ⟨w.heap.size, 3, none⟩ = some (.slice (some ⟨b, o0, none⟩) m cap) ∧ W1.cell? ⟨b, o0, none⟩ = some (.int .i64 a.kind) ∧ W1.cell? ⟨b, o0 + 1, none⟩ = some (.string a.name) ∧ W1.cell? ⟨b, o0 + 2, none⟩ = some (.int .i64 a.n) ∧ W1.cell? ⟨b, o0 + 3, none⟩ = some (.slice gs ms cs) ∧ TA9 W1 b o0 a (.slice gs ms cs) ∧ TB9 w s (a :: q) w.heap.size (.slice (some ⟨b, o0, none⟩) m cap) W1) => HTQ.out W1 _ h.2.2.2.2.2.2.1.hi)
  obtain ⟨x0, x1, x2, x3, _⟩ := id hta
  have hbl := hta.lt
  clear hta hy1 hy2 hl1 hl2 htq hla hsz1 hd kd
  rcases hcond with kc | ⟨kc, kc2⟩
  all_goals
    go_upto_region 9 with fail
    go_region_held3 (fun W1 => W1.cell? ⟨w.heap.size, 1, none⟩ = some (.string s) ∧ W1.cell? ⟨w.heap.size, 3, none⟩ = some (.slice (some ⟨b, o0, none⟩) m cap) ∧ W1.cell? ⟨b, o0, none⟩ = some (.int .i64 a.kind) ∧ W1.cell? ⟨b, o0 + 1, none⟩ = some (.string a.name) ∧ W1.cell? ⟨b, o0 + 2, none⟩ = some (.int .i64 a.n) ∧ W1.cell? ⟨b, o0 + 3, none⟩ = some (.slice gs ms cs) ∧ TA9 W1 b o0 a (.slice gs ms cs) ∧ TB9 w s (a :: q) w.heap.size (.slice (some ⟨b, o0, none⟩) m cap) W1)
      (first | with_reducible exact hs9 | assumption | exact HST.out _ _ (by assumption) (by assumption))
      (first
        | (go_at_call 25; (with_reducible refine ((HNM.out _).mono ?_)); rintro e w' ⟨rfl, hb⟩)
        | (go_at_call 9; (with_reducible refine ((HTM.out _ (by assumption)).mono ?_)); rintro e w' ⟨rfl, hb⟩))
  all_goals
    rename_i hheld
    have HX9 := Lib.hid hheld.2.2.2.2.2.2.2
    clear hheld hs9
    go_wp2_with fail
    go_loopw [3, 4] (fun o i wr => ∃ (k : Nat) (y : List UInt8), 1 ≤ k ∧ k ≤ m ∧ o = .string ⟨y.toArray⟩ ∧ i = .int .i64 k ∧ Hid (y = nm ++ 40 :: (tx a ++ cmX (wrs (q.take (k - 1))))) ∧ Hid (TB9 w s (a :: q) w.heap.size (.slice (some ⟨b, o0, none⟩) m cap) wr)) (fun _ i _ => m - (intOf i).toNat)
    case atStart => exact ⟨1, y2, Nat.le_refl _, hm1, rfl, rfl, Lib.hid (by rw [HY2.out]; simp [wrs, cmX]), HX9⟩
    case round =>
      obtain ⟨k, y, hk1, hk, rfl, rfl, hy, htb9⟩ := hrel
      have HYY := Lib.hid hy.out
      have HTB9 := Lib.hid htb9.out
      have hyl : y.length ≤ 200000000 := by
        have h1 := HYY.out
        have h2 := HLN.out
        have h3 := HLEN.out a (by simp)
        have h4 := cmX_take q (k - 1) (fun t ht => HLEN.out t (by simp [ht]))
        have h5 := HSZ.out
        simp only [Tm.sizes] at h5
        rw [h1]
        simp only [List.length_append, List.length_cons]
        omega
      obtain ⟨⟨a0, a1, a2, a3⟩, -⟩ := row4 HTB9.out.hb
      have hbx := HTB9.out.lt
      clear hy htb9
      by_cases hlt : k < m
      · have hlt' : k < (a :: q).length := by rw [HM.out]; exact hlt
        obtain ⟨b', o', sv', e9, hta⟩ := TA9.of HTB9.out.hs k hlt'
        injection e9 with e9
        injection e9 with e91 e92
        subst e91 e92
        obtain ⟨t, ht⟩ : ∃ t, (a :: q)[k] = t := ⟨_, rfl⟩
        have hmem : t ∈ a :: q := ht ▸ List.getElem_mem hlt'
        rw [ht] at hta
        obtain ⟨gt, mt, ct, rfl⟩ : ∃ g m c, sv' = .slice g m c := by
          obtain ⟨_, g, c, e, _⟩ := Tm.inn_iff.1 hta.hi
          exact ⟨_, _, _, e⟩
        have hcall := HQ.out t hmem wr _ hta.hi
        have HCA := Lib.hid hcall
        have hlt9 := HLEN.out t hmem
        have hsz9 := Tm.size_mem hmem
        have hsz8 := HSZ.out
        obtain ⟨z1, hz1⟩ : ∃ z, y ++ [44] = z := ⟨_, rfl⟩
        obtain ⟨z2, hz2⟩ : ∃ z, z1 ++ tx t = z := ⟨_, rfl⟩
        have e1 : (⟨y.toArray⟩ ++ ⟨#[44]⟩ : ByteArray) = ⟨z1.toArray⟩ := by rw [← hz1]; exact ba_app y [44]
        have e2 : (⟨z1.toArray⟩ ++ ⟨(tx t).toArray⟩ : ByteArray) = ⟨z2.toArray⟩ := by rw [← hz2]; exact ba_app z1 (tx t)
        have hl1 : z1.length = y.length + 1 := by rw [← hz1]; simp
        have l1 := lim (a := y.length + 1) (by omega)
        have l2 := lim (a := z1.length + (tx t).length) (by omega)
        have HZ2 := Lib.hid (show z2 = nm ++ 40 :: (tx a ++ cmX (wrs (q.take k))) by
          obtain ⟨j, rfl⟩ : ∃ j, k = j + 1 := ⟨k - 1, by omega⟩
          have hj : j < q.length := by simpa using hlt'
          have hq9 : q[j] = t := by rw [← ht]; simp
          rw [← hz2, ← hz1, HYY.out, List.take_succ_eq_append_getElem hj, cmX_snoc, hq9]
          simp)
        have j0 : (0 : Int) ≤ (k : Int) := by omega
        have j1 : (k : Int) < (m : Int) := by omega
        have jz : (0 : Int) + (k : Int) = (k : Int) := by omega
        have jw : IntKind.i64.wrap (k : Int) = (k : Int) := by rw [IntKind.wrap_i64]; omega
        obtain ⟨x0, x1, x2, x3, _⟩ := id hta
        have hbl := hta.lt
        clear hta ht hmem hcall hlt9 hsz9 hsz8 hz1 hz2 hl1
        go_wp2_with (go_at_call 9; (with_reducible refine (HCA.out.mono ?_)); rintro e w' ⟨rfl, hb⟩; have HT9 := Lib.hid (HTB9.out.next hb); clear hb)
        go_roundw
        case rel => exact ⟨k + 1, z2, by omega, by omega, rfl, by go_num, HZ2, HT9⟩
        case measure => simp [intOf]; omega
      · obtain rfl : m = k := by omega
        have e1 : (⟨y.toArray⟩ ++ ⟨#[41]⟩ : ByteArray) = ⟨(tx (.mk 3 s 0 (a :: q))).toArray⟩ := by
          have h1 := HYY.out
          have h2 := HM.out
          simp only [List.length_cons] at h2
          rw [show m - 1 = q.length by omega, List.take_length] at h1
          rw [HX.out, HNX.out, ba_app y [41], h1]
          simp
        have l1 := lim (a := y.length + 1) (by omega)
        go_wp2_with fail
        go_ret
        exact ⟨rfl, HTB9.out.low⟩
end Go.Proofs.YtliapkajonbndaaDoor
