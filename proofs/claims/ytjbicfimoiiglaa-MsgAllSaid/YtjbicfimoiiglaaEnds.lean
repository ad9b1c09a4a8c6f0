/-
  The program's ends: for each bound variable the end of its chain; and its Right.
-/
import Derived.Test.YtjbicfimoiiglaaInOrd
import Derived.Test.YtjbicfimoiiglaaBecome
import Derived.Deep.RegionLaw
namespace Go.Proofs.Ytjbicfimoiiglaa
open Go.RowKit Go.Shelf Go.Maps

theorem update_tm {w : World} {b n : Nat} {D : DataW Value} (hown : w.ownsMap Try.prog 3 heldElem b n D) (hn : n < maxLen) (key : Int) (hwf : (Lit.int .i64 key).wf = true) (val : Value) :
    ∃ w', (Instr.mapUpdate 71 (.map (some b)) (.int .i64 key) val).run Try.prog w = .ok () w' ∧ w'.ownsMap Try.prog 3 heldElem b (n + 1) (D.put (.int .i64 key) (.held val)) ∧ w.grownBy w' (some b) :=
  hown.update (Maps.int_keyed Try.underlying3) Try.underlying71 hn (Maps.keyOf_int_mk Try.underlying3 hwf) (show heldElem val = some (.held val, []) from rfl)
theorem inn_slice {W : World} {B : Nat} {t : Tm} {sv : Value} (h : Tm.inn W B t sv) : ∃ g c, sv = .slice g t.args.length c := by
  obtain ⟨_, g, c, e, _⟩ := Tm.inn_iff.1 h
  exact ⟨g, c, e⟩

/-- The variables that are bound at the places of a row. -/
def domOf (l : List Bd) (S : List Nat) (v : Int) : Bool := match place l v with
  | some p => decide (p ∈ S)
  | none => false
theorem EMap.start (l : List Bd) (σ : Int → Tm) (w : World) (B : Nat) : EMap l σ (domOf l []) w.heap.size 0 B (w.alloc (.map #[] 0)) :=
  ⟨.map [], World.ownsMap_made w _ _ _, fun v _ => ⟨fun h => by
    unfold domOf at h
    cases hp : place l v with
    | none => rw [hp] at h; cases h
    | some p => rw [hp] at h; simp at h, fun _ zd => by simp [DataW.atKey]⟩⟩
/-- A variable more. -/
theorem EMap.put {l : List Bd} {σ : Int → Tm} {m n B i : Nat} {S : List Nat} {W W2 W3 : World} {e : Tm} {sv : Value} {D : DataW Value} (hok : okL l) (hi : i < l.length) (hm : IsMap D) (hall : ∀ v, (Lit.int .i64 v).wf = true → (domOf l S v = true → EntryOK l σ B W D v) ∧ (domOf l S v = false → ∀ zd, D.atKey (.int .i64 v) zd = zd))
    (hb : Below B W W2) (hBm : B ≤ m) (he : EndOK l σ (vTm l[i].v) e) (hin : Tm.inn W2 B e sv)
    (hown : W3.ownsMap Try.prog 3 heldElem m (n + 1) (D.put (.int .i64 l[i].v) (.held (.agg #[.int .i64 e.kind, .string e.name, .int .i64 e.n, sv])))) (hg : W2.grownBy W3 (some m)) : EMap l σ (domOf l (S ++ [i])) m (n + 1) B W3 := by
  have cellk : ∀ b o v, b < B → W2.cell? ⟨b, o, none⟩ = some v → W3.cell? ⟨b, o, none⟩ = some v := fun b o v hlt hc => hg.cell hc (by simp; omega)
  refine ⟨_, hown, fun v hv => ?_⟩
  by_cases e1 : v = l[i].v
  · subst e1
    refine ⟨fun _ => ⟨e, sv, fun zd => atKey_put_same hm (by simp [WideAt.IsKeyLit]) _ zd, he, Tm.inn_same (Nat.le_refl _) cellk _ _ hin⟩, fun hd => ?_⟩
    simp [domOf, (hok i hi).2.2.1] at hd
  · have hne : (Lit.int .i64 v) ≠ .int .i64 l[i].v := fun e' => e1 (by cases e'; rfl)
    have hdom : domOf l (S ++ [i]) v = domOf l S v := by
      unfold domOf
      cases hp : place l v with
      | none => rfl
      | some p =>
        have : p ≠ i := fun e2 => e1 (by obtain ⟨_, h1, _⟩ := place_some hp; subst e2; exact h1.symm)
        simp [this]
    rw [hdom]
    refine ⟨fun hd => ?_, fun hd zd => by rw [atKey_put_other hne]; exact (hall v hv).2 hd zd⟩
    obtain ⟨e', sv', h1, h2, h3⟩ := (hall v hv).1 hd
    exact ⟨e', sv', fun zd => by rw [atKey_put_other hne]; exact h1 zd, h2, Tm.inn_same (Nat.le_refl _) cellk _ _ (Tm.inn_below h3 hb (Nat.le_refl _))⟩
theorem domOf_all {l : List Bd} {S : List Nat} (h : ∀ i, i < l.length → i ∈ S) (v : Int) : domOf l S v = true ∨ (domOf l S v = false ∧ place l v = none) := by
  unfold domOf
  cases hp : place l v with
  | none => exact .inr ⟨rfl, rfl⟩
  | some p => exact .inl (decide_eq_true (h p (place_some hp).1))

theorem vs_head {t : Tm} (h : t.kind = 1) : t.n ∈ t.vs := by
  obtain ⟨k, s, n, ts⟩ := t
  simp only [Tm.kind] at h
  simp [Tm.vs, h, Tm.n]

theorem owns_next {W W' : World} {m n : Nat} {D : DataW Value} (h : W.ownsMap Try.prog 3 heldElem m n D) (hb : Below W.drew.heap.size W.drew W') : W'.ownsMap Try.prog 3 heldElem m n D := by
  obtain ⟨es, ck, h1, r⟩ := h
  exact ⟨es, ck, (hb.block m (Array.getElem?_eq_some_iff.1 h1).1).trans h1, r⟩

/-- What ends tells. -/
def EndsPost (l : List Bd) (σ : Int → Tm) (w : World) (e : Ending) (w' : World) : Prop :=
  Below w.heap.size w w' ∧ ((¬ RightL l ∧ e = .returned (.tuple #[.map none, .bool false])) ∨
    (RightL l ∧ ∃ m n dom, e = .returned (.tuple #[.map (some m), .bool true]) ∧ EMap l σ dom m n w.heap.size w' ∧ ∀ v, (dom v = true ∨ (dom v = false ∧ place l v = none))))

set_option maxRecDepth 100000 in
set_option maxHeartbeats 4000000 in
theorem ends_any (l : List Bd) (σ : Int → Tm) (hσ : RightL l → Sol l σ) (w : World) (sv : Value) (hsl : bdsIn w w.heap.size l sv) (hmax : l.length ≤ 1000) (hsz : szB l ≤ 1000000) :
    Calls Try.prog 57 #[sv] w fun e w' => EndsPost l σ w e w' := by
  have hsl0 := hsl
  obtain ⟨g, cap, rfl, hcap, hlen, hwfs, _⟩ := hsl0
  have hpl := places_any l w _ hsl hmax hsz
  have HPL := Lib.hid hpl
  have HSL := Lib.hid hsl
  have HWF := Lib.hid hwfs
  have HS := Lib.hid hσ
  have hmm := @run_makeMap Try.prog
  clear hpl hsl hwfs hσ
  go_enter Try.func57, Try.ntmps57
  go_wp2_with fail
  refine HPL.out.mono ?_
  rintro e w1 ⟨hb1, ⟨hno, mv, rfl⟩ | ⟨hok, m0, rfl, hat⟩⟩
  · have HNO := Lib.hid hno
    clear hno
    go_wp2_with fail
    go_ret2
    exact ⟨hb1, .inl ⟨fun h => HNO.out h.1, rfl⟩⟩
  · have hord := inOrder_any l w1 _ m0 (bdsIn_held HSL.out hb1) hmax hsz hok hat
    have HORD := Lib.hid hord
    have HOK := Lib.hid hok
    have HB1 := Lib.hid hb1
    clear hord hok hat hb1 HPL
    go_wp2_with fail
    refine HORD.out.mono ?_
    rintro e w2 ⟨os, vo, rfl, hints, hkahn, hb2⟩
    obtain ⟨go, co, rfl, hco, hlo, _⟩ := id hints
    have hosl := nodup_len _ _ hkahn.nodup hkahn.lt
    have HINTS := Lib.hid hints
    have HK := Lib.hid hkahn
    have HB2 := Lib.hid (HB1.out.trans (hb2.mono HB1.out.size))
    rw [nums_length] at hco
    simp only [nums_length] at HINTS ⊢
    clear hints hkahn hb2 HORD hlo
    by_cases hlt : os.length < l.length
    · go_wp2_with fail
      go_ret2
      exact ⟨HB2.out, .inl ⟨fun h => HK.out.stuck hlt h.2, rfl⟩⟩
    · have hr : RightL l := ⟨HOK.out, HK.out.ranked (by omega)⟩
      have HR := Lib.hid hr
      have hs2 := HB2.out.size
      have hst := EMap.start l σ w2 w.heap.size
      have HST := Lib.hid hst
      clear hr hst
      go_wp2_with fail
      go_loopw [9, 28] (fun _ ii wr => ∃ k : Nat, k ≤ os.length ∧ ii = .int .i64 k ∧ Hid (EMap l σ (domOf l (os.take k)) w2.heap.size k w.heap.size wr) ∧ Hid (Below w2.heap.size w2 wr) ∧ w2.heap.size + 1 ≤ wr.heap.size) (fun _ ii _ => os.length - (intOf ii).toNat)
      case atStart => exact ⟨0, Nat.zero_le _, rfl, HST.out, (Below.refl _ _).alloc (Nat.le_refl _) _, by simp⟩
      case round =>
        obtain ⟨w3, rfl⟩ : ∃ x, x = wr := ⟨_, rfl⟩
        obtain ⟨k, hk, rfl, hm3, hb3, hs3⟩ := hrel
        have HM3 := Lib.hid hm3.out
        have HB3 := Lib.hid hb3.out
        clear hm3 hb3 HST
        by_cases hklt : k < os.length
        · obtain ⟨bo, oo, hgo, hbo, go1⟩ := intsIn_get (intsIn_below HINTS.out HB3.out (Nat.le_refl _)) k (by rw [nums_length]; exact hklt)
          subst hgo
          have hil := HK.out.lt _ (List.getElem_mem hklt)
          have hdep := HK.out.order k hklt
          have htk := List.take_succ_eq_append_getElem hklt
          simp only [nums, List.getElem_map] at go1
          obtain ⟨i, hi⟩ : ∃ i, os[k] = i := ⟨_, rfl⟩
          rw [hi] at go1 hil hdep htk
          obtain ⟨b, off, sv, hg, hbB, g0, g1, g2, g3, g4, hin'⟩ := bdsIn_get (bdsIn_below HSL.out (HB2.out.trans (HB3.out.mono hs2)) (Nat.le_refl _)) i hil
          subst hg
          obtain ⟨_, ga, capa, rfl, _, _, _⟩ := Tm.inn_iff.1 hin'
          have hdom : l[i].t.kind = 1 → (domOf l (os.take k) l[i].t.n = true ∨ (domOf l (os.take k) l[i].t.n = false ∧ place l l[i].t.n = none)) := fun hk1 => by
            unfold domOf
            cases hp : place l l[i].t.n with
            | none => exact .inr ⟨rfl, rfl⟩
            | some p =>
              refine .inl (decide_eq_true (hdep p (deps_mem.2 ⟨_, ?_, hp⟩)))
              rw [tAt_get hil]
              exact vs_head hk1
          have hfair := right_fair (HOK.out i hil).2.2.2
          have hend := end_any l σ (domOf l (os.take k)) w2.heap.size k w.heap.size l[i].t w3.drew (.slice ga l[i].t.args.length capa) (HM3.out.next ((Below.refl _ _).drew) (by omega)) (by show w.heap.size ≤ w3.heap.size; omega) hfair (Tm.inn_below hin' ((Below.refl w3.heap.size w3).drew) (by omega)) hdom
          have HEND := Lib.hid hend
          have hwf := Lib.hid (HWF.out _ (List.getElem_mem hil))
          have HTK := Lib.hid htk
          have hkm : k < maxLen := by unfold maxLen; omega
          clear hi hdep hdom hfair hend hin' htk
          obtain ⟨D, hownD, hallD⟩ := HM3.out.own
          have HOWND := Lib.hid hownD
          have HALLD := Lib.hid hallD
          have HBV := Lib.hid (HS.out HR.out).bound
          clear hownD hallD
          go_wp2_with fail
          go_region_law (((refine step_open (by rfl) ?_; go_simp; go_at_call 75; refine HEND.out.mono ?_; rintro e w4 ⟨t, sv', rfl, hend, hint, hb4⟩; have d0 : w4.cell? ⟨b, off + i * 5, none⟩ = some (.int .i64 l[i].v) := (hb4.cell (p := ⟨b, off + i * 5, none⟩) (by show b < w3.heap.size; omega)).trans g0; obtain ⟨gt, ct, hsv⟩ := inn_slice hint; subst hsv; obtain ⟨w5, hrun, hown5, hgrow5⟩ := update_tm (owns_next HOWND.out hb4) hkm l[i].v hwf.out (.agg #[.int .i64 t.kind, .string t.name, .int .i64 t.n, .slice gt t.args.length ct]))))
          all_goals go_wp2_with fail
          all_goals have hs4 : w3.heap.size ≤ w4.heap.size := hb4.size
          all_goals have hb34 : Below w3.heap.size w3 w4 := ((Below.refl _ w3).drew).trans hb4
          all_goals have hs5 := hgrow5.size
          all_goals have he : EndOK l σ (vTm l[i].v) t := ⟨hend.fair, hend.stop, by rw [Tm.bnd_var, HBV.out l[i].v i (HOK.out i hil).2.2.1, tAt_get hil]; exact hend.same⟩
          all_goals refine ⟨⟨k + 1, by omega, by go_num, ?_, ?_, ?_⟩, ?_⟩
          all_goals first
            | (rw [HTK.out]; exact EMap.put HOK.out hil (World.ownsMap.isMap HOWND.out) HALLD.out (hb34.mono (by omega)) (by omega) he hint hown5 hgrow5)
            | exact (HB3.out.trans (hb34.mono (by omega))).grown hgrow5 (by omega) (fun j e => by cases e; omega)
            | omega
            | (simp [intOf]; omega)
        · obtain rfl : k = os.length := by omega
          rw [List.take_length] at HM3
          go_wp2_with fail
          go_ret2
          exact ⟨HB2.out.trans (HB3.out.mono hs2), .inr ⟨HR.out, _, _, _, rfl, HM3.out, domOf_all (fun i hi => HK.out.mem (by omega) hi)⟩⟩
end Go.Proofs.Ytjbicfimoiiglaa
