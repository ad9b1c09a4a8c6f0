/-
  The values of a pattern's variables in memory: a map from variables to terms; the program's closure that meets a pattern and a term.
-/
import Derived.Test.YtjbicfimoiiglaaMat
import Derived.Test.YtjbicfimoiiglaaEnds
import Derived.Test.YtjbicfimoiiglaaBox
namespace Go.Proofs.Ytjbicfimoiiglaa
open Go.RowKit Go.Shelf Go.Maps

/-- A map that holds the binds of a list. -/
def MapT (W : World) (m K B : Nat) (l : List Bd) : Prop :=
  ∃ D, W.ownsMap Try.prog 3 heldElem m K D ∧ ∀ v, (Lit.int .i64 v).wf = true → (∀ p, place l v = some p → ∃ sv, (∀ zd, D.atKey (.int .i64 v) zd = .held (.agg #[.int .i64 (tAt l p).kind, .string (tAt l p).name, .int .i64 (tAt l p).n, sv])) ∧ Tm.inn W B (tAt l p) sv) ∧ (place l v = none → ∀ zd, D.atKey (.int .i64 v) zd = zd)
theorem MapT.lt {W : World} {m K B : Nat} {l : List Bd} (h : MapT W m K B l) : m < W.heap.size := by
  obtain ⟨D, h1, _⟩ := h
  exact h1.lt
theorem MapT.same {W W' : World} {m K B : Nat} {l : List Bd} (h : MapT W m K B l) (hm : W'.heap[m]? = W.heap[m]?) (hc : ∀ b o v, b < B → W.cell? ⟨b, o, none⟩ = some v → W'.cell? ⟨b, o, none⟩ = some v) : MapT W' m K B l := by
  obtain ⟨D, ⟨es, ck, h1, r⟩, h2⟩ := h
  refine ⟨D, ⟨es, ck, hm.trans h1, r⟩, fun v hv => ⟨fun p hp => ?_, (h2 v hv).2⟩⟩
  obtain ⟨sv, e1, e2⟩ := (h2 v hv).1 p hp
  exact ⟨sv, e1, Tm.inn_same (Nat.le_refl _) hc _ _ e2⟩
theorem MapT.next {W W' : World} {m K B : Nat} {l : List Bd} (h : MapT W m K B l) (hb : Below W.heap.size W W') (hB : B ≤ W.heap.size) : MapT W' m K B l :=
  h.same (hb.block m h.lt) fun b o v hlt hc => by rw [hb.cell (p := ⟨b, o, none⟩) (by show b < W.heap.size; omega)]; exact hc
theorem MapT.start (w : World) (B : Nat) : MapT (w.alloc (.map #[] 0)) w.heap.size 0 B [] :=
  ⟨.map [], World.ownsMap_made w _ _ _, fun v _ => ⟨fun p hp => (by cases hp), fun _ zd => by simp [DataW.atKey]⟩⟩
/-- The row of a map that bears one bind more. -/
theorem mapT_put_row {W W2 W3 : World} {m B : Nat} {l : List Bd} {v : Int} {t : Tm} {sv : Value} {D : DataW Value} (hm : IsMap D)
    (hall : ∀ v, (Lit.int .i64 v).wf = true → (∀ p, place l v = some p → ∃ sv, (∀ zd, D.atKey (.int .i64 v) zd = .held (.agg #[.int .i64 (tAt l p).kind, .string (tAt l p).name, .int .i64 (tAt l p).n, sv])) ∧ Tm.inn W B (tAt l p) sv) ∧ (place l v = none → ∀ zd, D.atKey (.int .i64 v) zd = zd))
    (hb : Below B W W2) (hBm : B ≤ m) (hp : place l v = none) (hin : Tm.inn W2 B t sv) (hg : W2.grownBy W3 (some m)) :
    ∀ u, (Lit.int .i64 u).wf = true → (∀ p, place (l ++ [⟨v, t⟩]) u = some p → ∃ sv', (∀ zd, (D.put (.int .i64 v) (.held (.agg #[.int .i64 t.kind, .string t.name, .int .i64 t.n, sv]))).atKey (.int .i64 u) zd = .held (.agg #[.int .i64 (tAt (l ++ [⟨v, t⟩]) p).kind, .string (tAt (l ++ [⟨v, t⟩]) p).name, .int .i64 (tAt (l ++ [⟨v, t⟩]) p).n, sv'])) ∧ Tm.inn W3 B (tAt (l ++ [⟨v, t⟩]) p) sv') ∧
      (place (l ++ [⟨v, t⟩]) u = none → ∀ zd, (D.put (.int .i64 v) (.held (.agg #[.int .i64 t.kind, .string t.name, .int .i64 t.n, sv]))).atKey (.int .i64 u) zd = zd) := by
  have cellk : ∀ b o u, b < B → W2.cell? ⟨b, o, none⟩ = some u → W3.cell? ⟨b, o, none⟩ = some u := fun b o u hlt hc => hg.cell hc (by simp; omega)
  intro u hu
  by_cases e1 : u = v
  · subst e1
    refine ⟨fun p hp' => ?_, fun hn => ?_⟩
    · rw [place_snoc, hp] at hp'
      simp only [if_true, Option.some.injEq] at hp'
      subst hp'
      rw [tAt_new]
      exact ⟨sv, fun zd => atKey_put_same hm (by simp [WideAt.IsKeyLit]) _ zd, Tm.inn_same (Nat.le_refl _) cellk _ _ hin⟩
    · rw [place_snoc, hp] at hn
      simp at hn
  · have hne : (Lit.int .i64 u) ≠ .int .i64 v := fun e' => e1 (by cases e'; rfl)
    have hpl : place (l ++ [⟨v, t⟩]) u = place l u := by
      rw [place_snoc]
      cases place l u with
      | some p => rfl
      | none => simp [Ne.symm e1]
    rw [hpl]
    refine ⟨fun p hp' => ?_, fun hn zd => by rw [atKey_put_other hne]; exact (hall u hu).2 hn zd⟩
    obtain ⟨sv', h1, h2⟩ := (hall u hu).1 p hp'
    rw [tAt_old (place_some hp').1]
    exact ⟨sv', fun zd => by rw [atKey_put_other hne]; exact h1 zd, Tm.inn_same (Nat.le_refl _) cellk _ _ (Tm.inn_below h2 hb (Nat.le_refl _))⟩
theorem MapT.put {W W2 W3 : World} {m K B : Nat} {l : List Bd} {v : Int} {t : Tm} {sv : Value} {D : DataW Value} (hm : IsMap D)
    (hall : ∀ v, (Lit.int .i64 v).wf = true → (∀ p, place l v = some p → ∃ sv, (∀ zd, D.atKey (.int .i64 v) zd = .held (.agg #[.int .i64 (tAt l p).kind, .string (tAt l p).name, .int .i64 (tAt l p).n, sv])) ∧ Tm.inn W B (tAt l p) sv) ∧ (place l v = none → ∀ zd, D.atKey (.int .i64 v) zd = zd))
    (hb : Below B W W2) (hBm : B ≤ m) (hp : place l v = none) (hin : Tm.inn W2 B t sv)
    (hown : W3.ownsMap Try.prog 3 heldElem m (K + 1) (D.put (.int .i64 v) (.held (.agg #[.int .i64 t.kind, .string t.name, .int .i64 t.n, sv])))) (hg : W2.grownBy W3 (some m)) : MapT W3 m (K + 1) B (l ++ [⟨v, t⟩]) :=
  ⟨_, hown, mapT_put_row hm hall hb hBm hp hin hg⟩

/-- What the closure has captured. -/
structure MCtx (W : World) (B m vb mb : Nat) : Prop where
  kv : Boxed W vb 71 (.map (some m))
  km : Boxed W mb 33 (.func (.func 69) #[] #[.pointer (some ⟨vb, 0, none⟩), .pointer (some ⟨mb, 0, none⟩)])
  hB : B ≤ m
  hv : vb ≠ m
  hm : mb ≠ m
theorem MCtx.kept {W W' : World} {B m vb mb : Nat} (h : MCtx W B m vb mb) (hg : W.grownBy W' (some m)) : MCtx W' B m vb mb :=
  ⟨h.kv.kept hg (by simp [h.hv]), h.km.kept hg (by simp [h.hm]), h.hB, h.hv, h.hm⟩
def MeetPost (W : World) (B m K sz : Nat) (r : Option (List Bd)) (e : Ending) (W' : World) : Prop :=
  ∃ q : Bool, e = .returned (.bool q) ∧ W.grownBy W' (some m) ∧ ((q = true ∧ ∃ l' K', r = some l' ∧ K' ≤ K + sz ∧ MapT W' m K' B l') ∨ (q = false ∧ r = none))
def MeetAt (p : Tm) : Prop := ∀ (x : Tm) (l : List Bd) (W : World) (B m vb mb K : Nat) (sp sx : Value), MCtx W B m vb mb → MapT W m K B l → Tm.inn W B p sp → Tm.inn W B x sx → K + p.size ≤ 1000000 →
  Calls Try.prog 69 #[.agg #[.int .i64 p.kind, .string p.name, .int .i64 p.n, sp], .agg #[.int .i64 x.kind, .string x.name, .int .i64 x.n, sx], .pointer (some ⟨vb, 0, none⟩), .pointer (some ⟨mb, 0, none⟩)] W fun e W' => MeetPost W B m K p.size (p.meet x l) e W'
theorem inn_kept {W W' : World} {B m : Nat} {t : Tm} {sv : Value} (h : Tm.inn W B t sv) (hg : W.grownBy W' (some m)) (hB : B ≤ m) : Tm.inn W' B t sv :=
  Tm.inn_same (Nat.le_refl _) (fun b o v hlt hc => hg.cell hc (by simp; omega)) _ _ h
theorem slice_kept {W W' : World} {B m : Nat} {l : List Tm} {sv : Value} (h : Tm.sliceIn W B l sv) (hg : W.grownBy W' (some m)) (hB : B ≤ m) : Tm.sliceIn W' B l sv :=
  Tm.sliceIn_same (fun t _ sv h => inn_kept h hg hB) (Nat.le_refl _) (fun b o v hlt hc => hg.cell hc (by simp; omega)) h
theorem al2_grown (w : World) (o1 o2 : Obj) (m : Nat) : w.grownBy ((w.alloc o1).alloc o2) (some m) := (World.grownBy_alloc _ o1 _).trans (World.grownBy_alloc _ o2 _)

set_option maxRecDepth 100000 in
set_option maxHeartbeats 4000000 in
theorem meq_any (ts xs : List Tm) (ih : ∀ t ∈ ts, MeetAt t) (l : List Bd) (W : World) (B m vb mb K : Nat) (sp sx : Value) (hC : MCtx W B m vb mb) (hM : MapT W m K B l) (hin : Tm.sliceIn W B ts sp) (hinx : Tm.sliceIn W B xs sx) (hK : K + Tm.sizes ts ≤ 1000000) :
    Calls Try.prog 70 #[sp, sx, .func (.func 69) #[] #[.pointer (some ⟨vb, 0, none⟩), .pointer (some ⟨mb, 0, none⟩)]] W
      fun e W' => MeetPost W B m K (Tm.sizes ts) (if ts.length = xs.length then Tm.meets ts xs l else none) e W' := by
  obtain ⟨g, cap, rfl, hcap, hlen, _⟩ := id hin
  obtain ⟨g', cap', rfl, hcap', hlen', _⟩ := id hinx
  have hml := hM.lt
  have HIN := Lib.hid hin
  have HINX := Lib.hid hinx
  have HC := Lib.hid hC
  have HM0 := Lib.hid hM
  have HIH := Lib.hid ih
  have hBm := hC.hB
  clear hin hinx hC hM ih
  by_cases hl : ts.length = xs.length
  · rw [if_pos hl]
    obtain ⟨n, hn1, hn2⟩ : ∃ n, ts.length = n ∧ xs.length = n := ⟨_, hl, rfl⟩
    rw [hn1] at hcap hlen ⊢
    rw [hn2] at hcap' hlen' ⊢
    have HL := Lib.hid hn1
    have HX := Lib.hid hn2
    clear hl hn1 hn2
    go_enter Try.func70, Try.ntmps70
    go_wp2_with fail
    go_loopw [7, 8, 9, 17] (fun _ _ _ i wr => ∃ k : Nat, k ≤ n ∧ i = .int .i64 k ∧ Hid (∃ l' K', Tm.meets (ts.take k) (xs.take k) l = some l' ∧ K' ≤ K + Tm.sizes (ts.take k) ∧ MapT wr m K' B l') ∧ Hid (W.grownBy wr (some m))) (fun _ _ _ i _ => n - (intOf i).toNat)
    case atStart => exact ⟨0, Nat.zero_le _, rfl, ⟨l, K, by simp [Tm.meets], by omega, HM0.out⟩, World.grownBy.refl _ _⟩
    case round =>
      obtain ⟨k, hk, rfl, hm, hg⟩ := hrel
      by_cases hlt : k < n
      · have hkt : k < ts.length := by rw [HL.out]; exact hlt
        have hkx : k < xs.length := by rw [HX.out]; exact hlt
        obtain ⟨b, off, sv, rfl, hbB, g0, g1, g2, g3, hin⟩ := Tm.sliceIn_get (slice_kept HIN.out hg.out hBm) k hkt
        obtain ⟨b', off', sv', rfl, hbB', g0', g1', g2', g3', hin'⟩ := Tm.sliceIn_get (slice_kept HINX.out hg.out hBm) k hkx
        obtain ⟨_, ga, capa, rfl, _, _, _⟩ := Tm.inn_iff.1 hin
        obtain ⟨_, gb, capb, rfl, _, _, _⟩ := Tm.inn_iff.1 hin'
        obtain ⟨l1, K1, hl1, hK1, hM1⟩ := hm.out
        have hsz := Tm.sizes_take_succ ts k hkt
        have hszl := Tm.sizes_take_le ts (k + 1)
        have hsnoc := meets_snoc ts xs l k hkt (by rw [HL.out, HX.out])
        rw [hl1] at hsnoc
        simp only [Option.bind_some] at hsnoc
        have hstop := meets_stop ts xs l (k + 1) (by rw [HL.out, HX.out])
        have hbs : W.heap.size ≤ wr.heap.size := hg.out.size
        have hbw : b < wr.heap.size := by omega
        have hbw' : b' < wr.heap.size := by omega
        obtain ⟨t, ht⟩ : ∃ t, ts[k] = t := ⟨_, rfl⟩
        obtain ⟨x, hx⟩ : ∃ x, xs[k] = x := ⟨_, rfl⟩
        have hih := HIH.out _ (List.getElem_mem hkt)
        rw [ht] at g0 g1 g2 g3 hin hsz hsnoc hih
        rw [hx] at g0' g1' g2' g3' hin' hsnoc
        have hal := al2_grown wr (.cells #[.int .i64 t.kind, .string t.name, .int .i64 t.n, .slice ga t.args.length capa] 24) (.cells #[.int .i64 x.kind, .string x.name, .int .i64 x.n, .slice gb x.args.length capb] 24) m
        have hcl := hih x l1 _ B m vb mb K1 _ _ ((HC.out.kept hg.out).kept hal) (hM1.next (al2 _ _ _) (by omega)) (inn_kept hin hal hBm) (inn_kept hin' hal hBm) (by omega)
        have HCL := Lib.hid hcl
        have HAL := Lib.hid hal
        have HG := Lib.hid hg.out
        have HSN := Lib.hid hsnoc
        have HST := Lib.hid hstop
        have HSZ := Lib.hid hsz
        have HT := Lib.hid ht
        have HXX := Lib.hid hx
        clear hcl hal hg hm hsnoc hstop hih hin hin' hM1 hl1 ht hx hszl hsz
        go_wp2_with fail
        refine HCL.out.mono ?_
        rintro e w1 ⟨q, rfl, hg1, hcase⟩
        have HG1 := Lib.hid (HG.out.trans (HAL.out.trans hg1))
        have hszk := HSZ.out
        rcases hcase with ⟨rfl, l2, K2, hr, hK2, hM2⟩ | ⟨rfl, hr⟩
        · have hl2 : Tm.meets (ts.take (k + 1)) (xs.take (k + 1)) l = some l2 := HSN.out.trans hr
          have hK3 : K2 ≤ K + Tm.sizes (ts.take (k + 1)) := by omega
          have HM2 := Lib.hid (show ∃ l' K', Tm.meets (ts.take (k + 1)) (xs.take (k + 1)) l = some l' ∧ K' ≤ K + Tm.sizes (ts.take (k + 1)) ∧ MapT w1 m K' B l' from ⟨l2, K2, hl2, hK3, hM2⟩)
          clear hr hM2 hl2 hK3 hg1 HCL hszk
          go_wp2_with fail
          go_roundw
          case rel => exact ⟨k + 1, by omega, by go_num, HM2.out, HG1.out⟩
          case measure => simp [intOf]; omega
        · have hnone : Tm.meets ts xs l = none := HST.out (HSN.out.trans hr)
          have HN := Lib.hid hnone
          clear hr hnone hg1 HCL hszk
          go_wp2_with fail
          go_ret
          exact ⟨false, rfl, HG1.out, .inr ⟨rfl, HN.out⟩⟩
      · obtain rfl : k = n := by omega
        obtain ⟨l1, K1, hl1, hK1, hM1⟩ := hm.out
        rw [List.take_of_length_le (by rw [HL.out]; omega), List.take_of_length_le (by rw [HX.out]; omega)] at hl1
        rw [List.take_of_length_le (by rw [HL.out]; omega)] at hK1
        have HF := Lib.hid (show MeetPost W B m K (Tm.sizes ts) (Tm.meets ts xs l) (.returned (.bool true)) wr from ⟨true, rfl, hg.out, .inl ⟨rfl, l1, K1, hl1, hK1, hM1⟩⟩)
        clear hm hg hl1 hK1 hM1
        go_wp2_with fail
        go_ret
        exact HF.out
  · rw [if_neg hl]
    have hl2 : ((ts.length : Int) != (xs.length : Int)) = true := by rw [bne_iff_ne]; omega
    go_enter Try.func70, Try.ntmps70
    go_wp2_with fail
    go_ret
    exact ⟨false, rfl, World.grownBy.refl _ _, .inr ⟨rfl, rfl⟩⟩

set_option maxRecDepth 100000 in
set_option maxHeartbeats 4000000 in
theorem meet_any : ∀ p : Tm, MeetAt p := by
  refine Tm.ind fun k s n ts ih x l W B m vb mb K sp sx hC hM hin hinx hK => ?_
  obtain ⟨k', s', n', xs⟩ := x
  obtain ⟨⟨hwk, hws, hwn⟩, hsl⟩ := Tm.inn_mk.1 hin
  obtain ⟨_, hslx⟩ := Tm.inn_mk.1 hinx
  obtain ⟨g, cap, rfl, hcap, hlen, _⟩ := id hsl
  obtain ⟨g', cap', rfl, hcap', hlen', _⟩ := id hslx
  simp only [Tm.kind, Tm.name, Tm.n]
  have hml := hM.lt
  have hBm := hC.hB
  have hal := al2_grown W (.cells #[.int .i64 k, .string s, .int .i64 n, .slice g ts.length cap] 24) (.cells #[.int .i64 k', .string s', .int .i64 n', .slice g' xs.length cap'] 24) m
  have hb2 := al2 W (.cells #[.int .i64 k, .string s, .int .i64 n, .slice g ts.length cap] 24) (.cells #[.int .i64 k', .string s', .int .i64 n', .slice g' xs.length cap'] 24)
  have hC2 := hC.kept hal
  have hM2 := hM.next hb2 (by omega)
  have hsz : Tm.sizes ts + 1 = (Tm.mk k s n ts).size := by simp [Tm.size]
  have cV := hC.kv.cell
  have lV := hC.kv.lt
  have cM := hC.km.cell
  have lM := hC.km.lt
  have lV1 : vb < W.heap.size + 1 := by omega
  have lV2 : vb < W.heap.size + 1 + 1 := by omega
  have HAL := Lib.hid hal
  by_cases hk : k = 1
  · subst hk
    have hmeet := meet_var (n := n) (s := s) (ts := ts) (x := .mk k' s' n' xs) (l := l)
    rw [hmeet]
    obtain ⟨D, hown, hD⟩ := id hM2
    have hDv := hD n hwn
    have HOWN := Lib.hid hown
    have HD := Lib.hid hD
    have HWN := Lib.hid hwn
    have HINX := Lib.hid hinx
    have HC := Lib.hid hC
    have HB2 := Lib.hid hb2
    have HSZ := Lib.hid hsz
    have HM2 := Lib.hid hM2
    cases hp : place l n with
    | none =>
      have hat := hDv.2 hp
      have HAT := Lib.hid hat
      have HP := Lib.hid hp
      have hkm : K < maxLen := by have h1 := hsz; unfold maxLen; omega
      clear hmeet hD hDv hat hp hown hwn hinx hC hb2 hsz hM2 hC2 hal hin hsl hslx hM ih hwk hws
      go_enter Try.func69, Try.ntmps69
      go_wp2_with (first
        | (at_lookup; refine wpList_lookup_tm _ rfl _ _ rfl m K D rfl HOWN.out n rfl HWN.out (.agg #[.int .i64 0, .string ⟨#[]⟩, .int .i64 0, .slice none 0 0]) false (.inr ⟨rfl, rfl, HAT.out⟩) ?_)
        | (at_mapUpdate; refine wpList_mapUpdate_own _ rfl _ _ _ 71 rfl 3 24 (Maps.int_keyed Try.underlying3) Try.underlying71 _ m K _ rfl (HOWN.out.alloc _) hkm _ _ _ rfl rfl (Maps.keyOf_int_mk Try.underlying3 HWN.out) (.held (.agg #[.int .i64 k', .string s', .int .i64 n', .slice g' xs.length cap'])) [] rfl ?_; intro w3 hown3 hgrow3))
      go_ret
      have hb3 : Below W.heap.size W (((W.alloc (.cells #[.int .i64 1, .string s, .int .i64 n, .slice g ts.length cap] 24)).alloc (.cells #[.int .i64 k', .string s', .int .i64 n', .slice g' xs.length cap'] 24)).alloc (.cells #[.int .i64 0, .string ⟨#[]⟩, .int .i64 0, .slice none 0 0] 24)) := al3 _ _ _ _
      have hl1 : addB l ⟨n, .mk k' s' n' xs⟩ = some (l ++ [⟨n, .mk k' s' n' xs⟩]) := by unfold addB; rw [HP.out]
      refine ⟨true, rfl, (grownBy_none hb3 (some m)).trans hgrow3, .inl ⟨rfl, _, K + 1, hl1, by have := HSZ.out; omega, ?_⟩⟩
      exact MapT.put HOWN.out.isMap HD.out ((Below.refl _ _).alloc (by simp; omega) _) HC.out.hB HP.out (Tm.inn_below HINX.out (hb3.mono (by omega)) (Nat.le_refl _)) hown3 hgrow3
    | some p =>
      obtain ⟨sv, hat, hint⟩ := hDv.1 p hp
      obtain ⟨gt, ct, rfl⟩ := inn_slice hint
      have HAT := Lib.hid hat
      have HP := Lib.hid hp
      obtain ⟨t, ht⟩ : ∃ t, tAt l p = t := ⟨_, rfl⟩
      rw [ht] at hint hat
      have HAT := Lib.hid hat
      have HINT := Lib.hid hint
      have HT := Lib.hid ht
      clear hmeet hD hDv hat hp hown hwn hinx hC hb2 hsz hC2 hal hin hsl hslx hM ih hwk hws hint ht
      go_enter Try.func69, Try.ntmps69
      go_wp2_with (at_lookup; refine wpList_lookup_tm _ rfl _ _ rfl m K D rfl HOWN.out n rfl HWN.out (.agg #[.int .i64 t.kind, .string t.name, .int .i64 t.n, .slice gt t.args.length ct]) true (.inl ⟨rfl, HAT.out⟩) ?_)
      have hb3 : Below W.heap.size W (((W.alloc (.cells #[.int .i64 1, .string s, .int .i64 n, .slice g ts.length cap] 24)).alloc (.cells #[.int .i64 k', .string s', .int .i64 n', .slice g' xs.length cap'] 24)).alloc (.cells #[.int .i64 t.kind, .string t.name, .int .i64 t.n, .slice gt t.args.length ct] 24)) := al3 _ _ _ _
      refine (tsame_ab t (.mk k' s' n' xs) _ _ _ (Tm.inn_mono (Tm.inn_below HINT.out ((Below.refl _ _).alloc (Nat.le_refl _) _) (by simp; omega)) (by simp; omega)) (Tm.inn_mono (Tm.inn_below HINX.out hb3 (by omega)) (by simp; omega))).mono ?_
      rintro e w4 ⟨rfl, hb4⟩
      have hM4 := (HM2.out.next ((Below.refl _ _).alloc (Nat.le_refl _) (.cells #[.int .i64 t.kind, .string t.name, .int .i64 t.n, .slice gt t.args.length ct] 24)) (by simp; omega)).next hb4 (by simp; omega)
      have hg4 : W.grownBy w4 (some m) := grownBy_none (hb3.trans (hb4.mono (by simp; omega))) _
      have hadd : addB l ⟨n, .mk k' s' n' xs⟩ = if t = .mk k' s' n' xs then some l else none := by unfold addB; rw [HP.out]; simp only; rw [HT.out]
      have hfin : MeetPost W B m K (Tm.mk 1 s n ts).size (addB l ⟨n, .mk k' s' n' xs⟩) (.returned (.bool (t.same (.mk k' s' n' xs)))) w4 := by
        refine ⟨_, rfl, hg4, ?_⟩
        rw [hadd]
        by_cases he : t = .mk k' s' n' xs
        · rw [if_pos he]
          exact .inl ⟨(Tm.same_iff _ _).2 he, l, K, rfl, by omega, hM4⟩
        · rw [if_neg he]
          refine .inr ⟨?_, rfl⟩
          rw [Bool.eq_false_iff]
          exact fun h => he ((Tm.same_iff _ _).1 h)
      have HF := Lib.hid hfin
      clear hM4 hg4 hadd hfin hb4 hb3
      go_wp2_with fail
      go_ret
      exact HF.out
  · have hkb : (k == 1) = false := by simpa using hk
    obtain ⟨r, hr⟩ : ∃ r, (Tm.mk k s n ts).meet (.mk k' s' n' xs) l = r := ⟨_, rfl⟩
    have hmeet : r = if k = k' ∧ s = s' ∧ n = n' ∧ ts.length = xs.length then Tm.meets ts xs l else none := by
      rw [← hr, meet_kind hk]
      rfl
    rw [hr]
    have HR := Lib.hid hmeet
    have hno : ∀ w3, W.grownBy w3 (some m) → ¬ (k = k' ∧ s = s' ∧ n = n' ∧ ts.length = xs.length) → MeetPost W B m K (Tm.mk k s n ts).size r (.returned (.bool false)) w3 := fun w3 hg h => by
      rw [hmeet, if_neg h]
      exact ⟨false, rfl, hg, .inr ⟨rfl, rfl⟩⟩
    have HNO := Lib.hid hno
    by_cases h1 : k = k'
    · subst h1
      by_cases h2 : s = s'
      · subst h2
        by_cases h3 : n = n'
        · subst h3
          have hcall := meq_any ts xs ih l _ B m vb mb K _ _ hC2 hM2 (slice_kept hsl hal hBm) (slice_kept hslx hal hBm) (by omega)
          have HCL := Lib.hid hcall
          have HSZ := Lib.hid hsz
          clear hcall hmeet hno HNO hC hM hin hinx hsl hslx ih hC2 hM2 hal hb2 hsz hwk hws hwn hk
          go_enter Try.func69, Try.ntmps69
          go_wp2_with fail
          refine HCL.out.mono ?_
          rintro e w3 ⟨q, rfl, hg3, hcase⟩
          have hfin : MeetPost W B m K (Tm.mk k s n ts).size r (.returned (.bool q)) w3 := by
            refine ⟨q, rfl, HAL.out.trans hg3, ?_⟩
            have he : r = if ts.length = xs.length then Tm.meets ts xs l else none := by rw [HR.out]; simp
            rw [he]
            rcases hcase with ⟨h1, l', K', h2, h3, h4⟩ | ⟨h1, h2⟩
            · exact .inl ⟨h1, l', K', h2, by have := HSZ.out; omega, h4⟩
            · exact .inr ⟨h1, h2⟩
          have HF := Lib.hid hfin
          clear hfin hcase hg3 HCL
          go_wp2_with fail
          go_ret
          exact HF.out
        · have hl2 : (n == n') = false := by simpa using h3
          have HN := Lib.hid (HNO.out _ HAL.out (fun h => h3 h.2.2.1))
          clear hmeet hr hno HNO hC hM hin hinx hsl hslx ih hC2 hM2 hal hb2 hsz hwk hws hwn hk h3
          go_enter Try.func69, Try.ntmps69
          go_wp2_with fail
          go_ret
          exact HN.out
      · have hl2 := neS h2
        have hl3 : (s.toList == s'.toList) = false := by simpa using hl2
        have HN := Lib.hid (HNO.out _ HAL.out (fun h => h2 h.2.1))
        clear hmeet hr hno HNO hC hM hin hinx hsl hslx ih hC2 hM2 hal hb2 hsz hwk hws hwn hk h2
        go_enter Try.func69, Try.ntmps69
        go_wp2_with fail
        go_ret
        exact HN.out
    · have hl2 : (k == k') = false := by simpa using h1
      have HN := Lib.hid (HNO.out _ HAL.out (fun h => h1 h.1))
      clear hmeet hr hno HNO hC hM hin hinx hsl hslx ih hC2 hM2 hal hb2 hsz hwk hws hwn hk h1
      go_enter Try.func69, Try.ntmps69
      go_wp2_with fail
      go_ret
      exact HN.out
end Go.Proofs.Ytjbicfimoiiglaa
