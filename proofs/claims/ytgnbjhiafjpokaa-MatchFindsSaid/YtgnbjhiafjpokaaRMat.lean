/-
  The document's own answers for matching: what stands where a pattern has variables.
-/
import Derived.Test.YtgnbjhiafjpokaaRowB
import Derived.Test.YtgnbjhiafjpokaaMat
import Derived.Test.YtgnbjhiafjpokaaPlc
import Derived.StillTailTactics
import Derived.Deep.RegionHeld3
namespace Go.Proofs.Ytgnbjhiafjpokaa
open Go.RowKit Go.Shelf Go.Maps

def CollPost (B : Nat) (w : World) (r : Option (List Bd)) (e : Ending) (w' : World) : Prop :=
  ∃ (q : Bool) (sv : Value), e = .returned (.tuple #[sv, .bool q]) ∧ Below w.heap.size w w' ∧ ((q = true ∧ ∃ l xs, r = some l ∧ BRow w' B w.heap.size l sv xs) ∨ (q = false ∧ r = none ∧ sv = .slice none 0 0))
/-- Ten cells that a region reads, while memory is made. -/
def S10 (B0 b o b' o' : Nat) (a0 a1 v0 v1 v2 v3 u0 u1 u2 u3 : Value) (N : Nat) (W : World) : Prop :=
  W.cell? ⟨B0, 3, none⟩ = some a0 ∧ W.cell? ⟨B0 + 1, 3, none⟩ = some a1 ∧ W.cell? ⟨b, o, none⟩ = some v0 ∧ W.cell? ⟨b, o + 1, none⟩ = some v1 ∧ W.cell? ⟨b, o + 2, none⟩ = some v2 ∧ W.cell? ⟨b, o + 3, none⟩ = some v3 ∧
    W.cell? ⟨b', o', none⟩ = some u0 ∧ W.cell? ⟨b', o' + 1, none⟩ = some u1 ∧ W.cell? ⟨b', o' + 2, none⟩ = some u2 ∧ W.cell? ⟨b', o' + 3, none⟩ = some u3 ∧ N ≤ W.heap.size
theorem S10.next {B0 b o b' o' : Nat} {a0 a1 v0 v1 v2 v3 u0 u1 u2 u3 : Value} {N : Nat} {W W' : World} (h : S10 B0 b o b' o' a0 a1 v0 v1 v2 v3 u0 u1 u2 u3 N W) (hb : Below W.heap.size W W') : S10 B0 b o b' o' a0 a1 v0 v1 v2 v3 u0 u1 u2 u3 N W' := by
  obtain ⟨h0, h1, h2, h3, h4, h5, h6, h7, h8, h9, h10⟩ := h
  have key : ∀ b o v, W.cell? ⟨b, o, none⟩ = some v → W'.cell? ⟨b, o, none⟩ = some v := fun b o v h => (hb.cell (p := ⟨b, o, none⟩) (World.block_lt_of_cell? _ _ h)).trans h
  exact ⟨key _ _ _ h0, key _ _ _ h1, key _ _ _ h2, key _ _ _ h3, key _ _ _ h4, key _ _ _ h5, key _ _ _ h6, key _ _ _ h7, key _ _ _ h8, key _ _ _ h9, Nat.le_trans h10 hb.size⟩
theorem collects_len (ts xs : List Tm) (l : List Bd) (h : Tm.collects ts xs = some l) : l.length ≤ Tm.sizes ts := by
  have := collect_len (.mk 0 ⟨#[]⟩ 0 ts) (.mk 0 ⟨#[]⟩ 0 xs)
  induction ts generalizing xs l with
  | nil => simp [Tm.collects] at h; simp [h, Tm.sizes]
  | cons t r ihr =>
    cases xs with
    | nil => simp [Tm.collects] at h
    | cons x q =>
      simp only [Tm.collects] at h
      cases ht : t.collect x with
      | none => rw [ht] at h; cases h
      | some l1 =>
        cases hc : Tm.collects r q with
        | none => rw [ht, hc] at h; cases h
        | some l2 =>
          rw [ht, hc] at h
          simp only [Option.bind_some, Option.some.injEq] at h
          have h1 := collect_len t x l1 ht
          have h2 := ihr q l2 hc (collect_len _ _)
          subst h
          simp only [List.length_append, Tm.sizes]
          omega
theorem collect_kind {k n : Int} {s : ByteArray} {ts : List Tm} {x : Tm} (hk : k ≠ 1) : (Tm.mk k s n ts).collect x = if k = x.kind ∧ n = x.n ∧ s = x.name ∧ ts.length = x.args.length then Tm.collects ts x.args else none := by
  simp [Tm.collect, hk]

set_option maxRecDepth 100000 in
set_option maxHeartbeats 4000000 in
theorem collect_any : ∀ (p : Tm) (x : Tm) (w : World) (B : Nat) (sp sx : Value), B ≤ w.heap.size → Tm.inn w B p sp → Tm.inn w B x sx → p.size ≤ 1000000 →
    Calls Try.prog 71 #[.agg #[.int .i64 p.kind, .string p.name, .int .i64 p.n, sp], .agg #[.int .i64 x.kind, .string x.name, .int .i64 x.n, sx]] w fun e w' => CollPost B w (p.collect x) e w' := by
  refine Tm.ind fun k s n ts ih x w B sp sx hB hin hinx hsz => ?_
  obtain ⟨k', s', n', xs⟩ := x
  obtain ⟨_, hsl⟩ := Tm.inn_mk.1 hin
  obtain ⟨_, hslx⟩ := Tm.inn_mk.1 hinx
  obtain ⟨g, cap, rfl, hcap, hlen, _⟩ := id hsl
  obtain ⟨g', cap', rfl, hcap', hlen', _⟩ := id hslx
  simp only [Tm.kind, Tm.name, Tm.n]
  have hb2 := al2 w (.cells #[.int .i64 k, .string s, .int .i64 n, .slice g ts.length cap] 27) (.cells #[.int .i64 k', .string s', .int .i64 n', .slice g' xs.length cap'] 27)
  have HB2 := Lib.hid hb2
  by_cases hk : k = 1
  · subst hk
    have hr : (Tm.mk 1 s n ts).collect (.mk k' s' n' xs) = some [⟨n, .mk k' s' n' xs⟩] := by simp [Tm.collect]
    rw [hr]
    have hone := BRow.one (W := (w.alloc (.cells #[.int .i64 1, .string s, .int .i64 n, .slice g ts.length cap] 27)).alloc (.cells #[.int .i64 k', .string s', .int .i64 n', .slice g' xs.length cap'] 27)) (B := B) (x := ⟨n, .mk k' s' n' xs⟩) (sv := .slice g' xs.length cap') (n := w.heap.size + 1 + 1) (by simp) (by simp; omega) (Tm.inn_below hinx hb2 hB)
    have HONE := Lib.hid hone
    clear hone hr hin hinx hsl hslx ih hb2 hsz
    go_enter Try.func71, Try.ntmps71
    go_wp2_with fail
    go_ret2
    exact ⟨true, _, rfl, HB2.out.alloc (by simp; omega) _, .inl ⟨rfl, _, _, rfl, HONE.out.low (by omega)⟩⟩
  · have hkb : (k == 1) = false := by simpa using hk
    obtain ⟨r, hr⟩ : ∃ r, (Tm.mk k s n ts).collect (.mk k' s' n' xs) = r := ⟨_, rfl⟩
    have hmeet : r = if k = k' ∧ n = n' ∧ s = s' ∧ ts.length = xs.length then Tm.collects ts xs else none := by
      rw [← hr, collect_kind hk]
      rfl
    rw [hr]
    have HR := Lib.hid hmeet
    have hno : ¬ (k = k' ∧ n = n' ∧ s = s' ∧ ts.length = xs.length) → ∀ w', Below w.heap.size w w' → CollPost B w r (.returned (.tuple #[.slice none 0 0, .bool false])) w' := fun h w' hb => ⟨false, _, rfl, hb, .inr ⟨rfl, by rw [hmeet, if_neg h], rfl⟩⟩
    have HNO := Lib.hid hno
    by_cases h1 : k = k'
    · subst h1
      by_cases h3 : n = n'
      · subst h3
        by_cases h2 : s = s'
        · subst h2
          by_cases hl : ts.length = xs.length
          · have hr2 : r = Tm.collects ts xs := by rw [hmeet, if_pos ⟨rfl, rfl, rfl, hl⟩]
            have HR2 := Lib.hid hr2
            have HSL := Lib.hid hsl
            have HSX := Lib.hid hslx
            have HIH := Lib.hid ih
            have hszt : Tm.sizes ts ≤ 1000000 := by simp only [Tm.size] at hsz; omega
            clear hmeet hr hno HNO HR hr2 hin hinx hsl hslx ih hb2 hsz hk
            obtain ⟨m, hm1, hm2⟩ : ∃ m, ts.length = m ∧ xs.length = m := ⟨_, hl, rfl⟩
            rw [hm1] at hcap hlen HB2 ⊢
            rw [hm2] at hcap' hlen' HB2 ⊢
            have HL := Lib.hid hm1
            have HX := Lib.hid hm2
            clear hl hm1 hm2
            go_enter Try.func71, Try.ntmps71
            go_wp2_with fail
            go_loopw [6, 7, 8, 9] (fun v i _ _ wr => ∃ k : Nat, k ≤ m ∧ i = .int .i64 (k : Nat) ∧ Hid (∃ l ys, Tm.collects (ts.take k) (xs.take k) = some l ∧ BRow wr B (w.heap.size + 2) l v ys) ∧ Hid (Below w.heap.size w wr) ∧ w.heap.size + 2 ≤ wr.heap.size ∧ wr.cell? ⟨w.heap.size, 3, none⟩ = some (.slice g m cap) ∧ wr.cell? ⟨w.heap.size + 1, 3, none⟩ = some (.slice g' m cap')) (fun _ i _ _ _ => m - (intOf i).toNat)
            case atStart => exact ⟨0, Nat.zero_le _, rfl, ⟨[], [], by simp [Tm.collects], BRow.zero _ _ _⟩, HB2.out, by simp, by simp [go_sem], by simp [go_sem]⟩
            case round =>
              obtain ⟨k1, hk1, rfl, hrow, hb, hs, hcc, hcc'⟩ := hrel
              have HROW := Lib.hid hrow.out
              have HB := Lib.hid hb.out
              clear hrow hb
              have hbs := HB.out.size
              by_cases hlt : k1 < m
              · have hkt : k1 < ts.length := by rw [HL.out]; exact hlt
                have hkx : k1 < xs.length := by rw [HX.out]; exact hlt
                obtain ⟨b, off, sv, hgt, hbB, g0, g1, g2, g3, hin⟩ := Tm.sliceIn_get (Tm.sliceIn_below HSL.out HB.out hB) k1 hkt
                obtain ⟨b', off', sv', hgx, hbB', g0', g1', g2', g3', hin'⟩ := Tm.sliceIn_get (Tm.sliceIn_below HSX.out HB.out hB) k1 hkx
                subst hgt hgx
                have hsn := collects_snoc ts xs k1 hkt (by rw [HL.out, HX.out])
                have hst := collects_stop ts xs (k1 + 1) (by rw [HL.out, HX.out])
                have hih := HIH.out _ (List.getElem_mem hkt) xs[k1] wr.drew B sv sv' (by simp; omega) (Tm.inn_below hin (n₀ := wr.heap.size) ((Below.refl _ _).drew) (by omega)) (Tm.inn_below hin' (n₀ := wr.heap.size) ((Below.refl _ _).drew) (by omega)) (by have := Tm.size_mem_le (List.getElem_mem hkt); omega)
                have HCL := Lib.hid hih
                have HSN := Lib.hid hsn
                have HST := Lib.hid hst
                obtain ⟨gt, ct, rfl⟩ := inn_sl hin
                obtain ⟨gx, cx, rfl⟩ := inn_sl hin'
                have hs10 : S10 w.heap.size b (off + k1 * 4) b' (off' + k1 * 4) (.slice (some ⟨b, off, none⟩) m cap) (.slice (some ⟨b', off', none⟩) m cap') (.int .i64 ts[k1].kind) (.string ts[k1].name) (.int .i64 ts[k1].n) (.slice gt ts[k1].args.length ct) (.int .i64 xs[k1].kind) (.string xs[k1].name) (.int .i64 xs[k1].n) (.slice gx xs[k1].args.length cx) wr.heap.size wr.drew := ⟨hcc, hcc', g0, g1, g2, g3, g0', g1', g2', g3', Nat.le_refl _⟩
                clear hin hin' hih hsn hst g0 g1 g2 g3 g0' g1' g2' g3'
                go_wp2_with fail
                go_region_held3 (fun W' => W'.cell? ⟨w.heap.size, 3, none⟩ = some (.slice (some ⟨b, off, none⟩) m cap) ∧ W'.cell? ⟨w.heap.size + 1, 3, none⟩ = some (.slice (some ⟨b', off', none⟩) m cap') ∧ W'.cell? ⟨b, off + k1 * 4, none⟩ = some (.int .i64 ts[k1].kind) ∧ W'.cell? ⟨b, off + k1 * 4 + 1, none⟩ = some (.string ts[k1].name) ∧ W'.cell? ⟨b, off + k1 * 4 + 2, none⟩ = some (.int .i64 ts[k1].n) ∧ W'.cell? ⟨b, off + k1 * 4 + 3, none⟩ = some (.slice gt ts[k1].args.length ct) ∧ W'.cell? ⟨b', off' + k1 * 4, none⟩ = some (.int .i64 xs[k1].kind) ∧ W'.cell? ⟨b', off' + k1 * 4 + 1, none⟩ = some (.string xs[k1].name) ∧ W'.cell? ⟨b', off' + k1 * 4 + 2, none⟩ = some (.int .i64 xs[k1].n) ∧ W'.cell? ⟨b', off' + k1 * 4 + 3, none⟩ = some (.slice gx xs[k1].args.length cx) ∧ wr.heap.size ≤ W'.heap.size)
                  (first | exact hs10 | exact S10.next (B0 := w.heap.size) (b := b) (o := off + k1 * 4) (b' := b') (o' := off' + k1 * 4) (N := wr.heap.size) (by assumption) (by assumption))
                  ((go_at_call 71; refine HCL.out.mono ?_; rintro e w' ⟨q, svq, rfl, hb, hcase⟩))
                rename_i hheld
                obtain ⟨hcc1, hcc2, _, _, _, _, _, _, _, _, hsz1⟩ := hheld
                have hb1 : Below wr.heap.size wr w' := ((Below.refl wr.heap.size wr).drew).trans hb
                have HB1 := Lib.hid hb1
                have HBW := Lib.hid (HB.out.trans (hb1.mono hbs))
                have HCS := Lib.hid hcase
                clear hb hb1 hcase hs10 hcc hcc' HCL
                cases q with
                | true =>
                  obtain ⟨l1, ys, hcl, hbr⟩ := HROW.out
                  obtain ⟨hq, l2, zs, hc2, hbr2⟩ : true = true ∧ ∃ l xs', (ts[k1].collect xs[k1]) = some l ∧ BRow w' B wr.drew.heap.size l svq xs' := by
                    rcases HCS.out with ⟨h1, l, xs', h2, h3⟩ | ⟨h1, _⟩
                    · exact ⟨rfl, l, xs', h2, h3⟩
                    · cases h1
                  have hall : Tm.collects (ts.take (k1 + 1)) (xs.take (k1 + 1)) = some (l1 ++ l2) := by rw [HSN.out, hcl, Option.bind_some, hc2]; rfl
                  have hlen3 := collects_len _ _ _ hall
                  have hlen4 := Tm.sizes_take_le ts (k1 + 1)
                  rw [List.length_append] at hlen3
                  obtain ⟨g2, c2, rfl⟩ := hbr2.slice
                  have HBR := Lib.hid (hbr.next HB1.out (by omega))
                  have HSRC := Lib.hid hbr2.src
                  have HALL := Lib.hid hall
                  clear hbr hbr2 hall hcl hc2 HROW HCS hq
                  go_wp2_with (at_builtin; refine wpList_append_bds rfl _ _ rfl B (w.heap.size + 2) _ l1 ys rfl HBR.out l2 g2 l2.length c2 rfl rfl HSRC.out (by omega) (by omega) (by omega) ?_; intro v' w5 zs5 hbr5 hgrow hsep)
                  go_roundw
                  case rel =>
                    have hne : ∀ j, j < w.heap.size + 2 → Value.ownBlock u6 ≠ some j := fun j hj e => by have := (HBR.out.row.lt j e).1; omega
                    refine ⟨k1 + 1, by omega, by go_num, ⟨_, _, HALL.out, hbr5⟩, HBW.out.grown hgrow (by omega) (fun j e => by have := (HBR.out.row.lt j e).1; omega), by have := hgrow.size; omega, hgrow.cell hcc1 (fun e => hne w.heap.size (by omega) e.symm), hgrow.cell hcc2 (fun e => hne (w.heap.size + 1) (by omega) e.symm)⟩
                  case measure => simp [intOf]; omega
                | false =>
                  have hnone : ts[k1].collect xs[k1] = none := by
                    rcases HCS.out with ⟨h1, _⟩ | ⟨_, h2, _⟩
                    · cases h1
                    · exact h2
                  have hall : Tm.collects (ts.take (k1 + 1)) (xs.take (k1 + 1)) = none := by
                    obtain ⟨l1, ys, hcl, _⟩ := HROW.out
                    rw [HSN.out, hcl, Option.bind_some, hnone]; rfl
                  have hrn : r = none := HR2.out.trans (HST.out hall)
                  have HF := Lib.hid (show CollPost B w r (.returned (.tuple #[.slice none 0 0, .bool false])) w' from ⟨false, _, rfl, HBW.out, .inr ⟨rfl, hrn, rfl⟩⟩)
                  clear hnone hall hrn HCS HROW
                  go_wp2_with fail
                  go_ret2
                  exact HF.out
              · obtain rfl : k1 = m := by omega
                obtain ⟨l1, ys, hcl, hbr⟩ := HROW.out
                rw [List.take_of_length_le (by rw [HL.out]; omega), List.take_of_length_le (by rw [HX.out]; omega)] at hcl
                have HF := Lib.hid (show CollPost B w r (.returned (.tuple #[u6, .bool true])) wr from ⟨true, _, rfl, HB.out, .inl ⟨rfl, l1, ys, HR2.out.trans hcl, hbr.low (by omega)⟩⟩)
                clear hcl hbr HROW
                go_wp2_with fail
                go_ret2
                exact HF.out
          · have hl2 : ((ts.length : Int) != (xs.length : Int)) = true := by rw [bne_iff_ne]; omega
            have HN := Lib.hid (HNO.out (fun h => hl h.2.2.2) _ HB2.out)
            clear hmeet hr hno HNO HR hin hinx hsl hslx ih hb2 hsz hk hl
            go_enter Try.func71, Try.ntmps71
            go_wp2_with fail
            go_ret2
            exact HN.out
        · have hl2 := neS h2
          have hl3 : (s.toList != s'.toList) = true := by simpa using hl2
          have hl4 : (s.toList == s'.toList) = false := by simpa using hl2
          have HN := Lib.hid (HNO.out (fun h => h2 h.2.2.1) _ HB2.out)
          clear hmeet hr hno HNO HR hin hinx hsl hslx ih hb2 hsz hk h2
          go_enter Try.func71, Try.ntmps71
          go_wp2_with fail
          go_ret2
          exact HN.out
      · have hl2 : (n != n') = true := by simpa using h3
        have HN := Lib.hid (HNO.out (fun h => h3 h.2.1) _ HB2.out)
        clear hmeet hr hno HNO HR hin hinx hsl hslx ih hb2 hsz hk h3
        go_enter Try.func71, Try.ntmps71
        go_wp2_with fail
        go_ret2
        exact HN.out
    · have hl2 : (k != k') = true := by simpa using h1
      have HN := Lib.hid (HNO.out (fun h => h1 h.1) _ HB2.out)
      clear hmeet hr hno HNO HR hin hinx hsl hslx ih hb2 hsz hk h1
      go_enter Try.func71, Try.ntmps71
      go_wp2_with fail
      go_ret2
      exact HN.out

/-! ### Match -/
theorem collect_vs : ∀ (p x : Tm) (l : List Bd), p.collect x = some l → ∀ b ∈ l, b.v ∈ p.vs := Tm.ind fun k s n ts ih x l h b hb => by
  by_cases hk : k = 1
  · simp only [Tm.collect, if_pos hk, Option.some.injEq] at h
    subst h
    rw [List.mem_singleton.1 hb]
    simp [Tm.vs, hk]
  · simp only [Tm.collect, if_neg hk] at h
    split at h
    · have key : ∀ (ts : List Tm) (_ : ∀ t ∈ ts, ∀ x l, t.collect x = some l → ∀ b ∈ l, b.v ∈ t.vs) (xs : List Tm) (l : List Bd), Tm.collects ts xs = some l → ∀ b ∈ l, ∃ t ∈ ts, b.v ∈ t.vs := by
        intro ts
        induction ts with
        | nil => intro _ xs l h b hb; simp [Tm.collects] at h; subst h; cases hb
        | cons t r ihr =>
          intro ih xs l h b hb
          cases xs with
          | nil => simp [Tm.collects] at h
          | cons x q =>
            simp only [Tm.collects] at h
            cases ht : t.collect x with
            | none => rw [ht] at h; cases h
            | some l1 =>
              cases hc : Tm.collects r q with
              | none => rw [ht, hc] at h; cases h
              | some l2 =>
                rw [ht, hc] at h
                simp only [Option.bind_some, Option.some.injEq] at h
                subst h
                rcases List.mem_append.1 hb with hb | hb
                · exact ⟨t, by simp, ih t (by simp) x l1 ht b hb⟩
                · obtain ⟨u, hu, hv⟩ := ihr (fun u hu => ih u (by simp [hu])) q l2 hc b hb
                  exact ⟨u, by simp [hu], hv⟩
      obtain ⟨t, ht, hv⟩ := key ts (fun t ht => ih t ht) x.args l h b hb
      exact Tm.vs_mem_args ht hv
    · cases h
theorem addsB_sub : ∀ (m l l' : List Bd), addsB l m = some l' → ∀ b ∈ l', b ∈ l ∨ b ∈ m
  | [], l, l', h, b, hb => by simp only [addsB, Option.some.injEq] at h; subst h; exact .inl hb
  | x :: r, l, l', h, b, hb => by
    simp only [addsB] at h
    cases hx : addB l x with
    | none => rw [hx] at h; cases h
    | some l1 =>
      rw [hx] at h
      rcases addsB_sub r l1 l' (by simpa using h) b hb with h1 | h1
      · rcases addB_some hx with ⟨_, rfl⟩ | ⟨p, _, _, rfl⟩
        · rcases List.mem_append.1 h1 with h2 | h2
          · exact .inl h2
          · rw [List.mem_singleton.1 h2]; exact .inr (by simp)
        · exact .inl h1
      · exact .inr (by simp [h1])
theorem addsB_len : ∀ (m l l' : List Bd), addsB l m = some l' → l'.length ≤ l.length + m.length
  | [], l, l', h => by simp only [addsB, Option.some.injEq] at h; subst h; simp
  | x :: r, l, l', h => by
    simp only [addsB] at h
    cases hx : addB l x with
    | none => rw [hx] at h; cases h
    | some l1 =>
      rw [hx] at h
      have h1 := addsB_len r l1 l' (by simpa using h)
      rcases addB_some hx with ⟨_, rfl⟩ | ⟨p, _, _, rfl⟩
      · simp only [List.length_append, List.length_cons, List.length_nil] at h1 ⊢
        omega
      · simp only [List.length_cons]
        omega
set_option maxRecDepth 100000 in
set_option maxHeartbeats 4000000 in
theorem rmatch_any (p t : Tm) (w : World) (B : Nat) (sp st : Value) (hB : B ≤ w.heap.size) (hinp : Tm.inn w B p sp) (hint : Tm.inn w B t st) (hp : p.right = true) :
    Calls Try.prog 46 #[.agg #[.int .i64 p.kind, .string p.name, .int .i64 p.n, sp], .agg #[.int .i64 t.kind, .string t.name, .int .i64 t.n, st]] w fun e w' => CollPost B w (p.meet t []) e w' := by
  obtain ⟨g, c, rfl⟩ := inn_sl hinp
  obtain ⟨g', c', rfl⟩ := inn_sl hint
  have hsz : p.size ≤ 3000 := by simp only [Tm.right, Bool.and_eq_true, decide_eq_true_eq] at hp; exact hp.1.2
  have hb2 := al2 w (.cells #[.int .i64 p.kind, .string p.name, .int .i64 p.n, .slice g p.args.length c] 27) (.cells #[.int .i64 t.kind, .string t.name, .int .i64 t.n, .slice g' t.args.length c'] 27)
  have hcl := collect_any p t _ B _ _ (Nat.le_trans hB hb2.size) (Tm.inn_below hinp hb2 hB) (Tm.inn_below hint hb2 hB) (by omega)
  have heq := collect_eq p t []
  obtain ⟨r, hr⟩ : ∃ r, p.meet t [] = r := ⟨_, rfl⟩
  rw [hr] at heq ⊢
  have HCL := Lib.hid hcl
  have HB2 := Lib.hid hb2
  have HEQ := Lib.hid heq
  have HP := Lib.hid hp
  clear hcl hb2 heq hr hinp hint hp
  go_enter Try.func46, Try.ntmps46
  go_wp2_with fail
  refine HCL.out.mono ?_
  rintro e W1 ⟨q, sv1, rfl, hb1, hcase⟩
  have HB1 := Lib.hid (HB2.out.trans (hb1.mono (by simp; omega)))
  have hs1 : w.heap.size + 2 ≤ W1.heap.size := by have := hb1.size; simpa using this
  clear hb1 HCL
  rcases hcase with ⟨rfl, M, ys, hM, hbr⟩ | ⟨rfl, hM, rfl⟩
  · rw [hM] at HEQ
    have hml := collect_len _ _ _ hM
    have hmv := collect_vs _ _ _ hM
    have hmw : ∀ b ∈ M, (Lit.int .i64 b.v).wf = true := fun b hb => by
      have := Tm.fair_vs p (right_fair HP.out) _ (hmv b hb)
      exact WalkArith.wf_i64 (by omega)
    obtain ⟨g1, c1, rfl⟩ := hbr.slice
    have HM := Lib.hid (hbr.low (lo' := w.heap.size) (by simp; omega))
    have HMW := Lib.hid hmw
    have hrr : r = addsB [] M := HEQ.out
    have HR := Lib.hid hrr
    clear hM hbr hmv hmw hrr HEQ
    go_wp2_with fail
    go_loopw [8, 9, 10] (fun v i _ wr => ∃ k : Nat, k ≤ M.length ∧ i = .int .i64 (k : Nat) ∧ Hid (∃ l xs, addsB [] (M.take k) = some l ∧ BRow wr B W1.heap.size l v xs) ∧ Hid (Below W1.heap.size W1 wr)) (fun _ i _ _ => M.length - (intOf i).toNat)
    case atStart => exact ⟨0, Nat.zero_le _, rfl, ⟨[], [], by simp [addsB], BRow.zero _ _ _⟩, Below.refl _ _⟩
    case round =>
      obtain ⟨k, hk, rfl, hrow, hb⟩ := hrel
      have HROW := Lib.hid hrow.out
      have HB := Lib.hid hb.out
      clear hrow hb
      have hbs := HB.out.size
      by_cases hlt : k < M.length
      · obtain ⟨bm, sm, hgm, hbm0, hbm1, m0, m1, m2, m3, m4, hinm⟩ := (HM.out.next HB.out (by omega)).get k hlt
        subst hgm
        obtain ⟨gx, cx, rfl⟩ := inn_sl hinm
        obtain ⟨l, xs, hl, hbr⟩ := HROW.out
        have hstep := addsB_take (l := []) hlt
        rw [hl, Option.bind_some] at hstep
        have hstop := addsB_stop (m := M) (l := []) (k := k + 1)
        have hll := addsB_len _ _ _ hl
        have htl : (M.take k).length ≤ k := by rw [List.length_take]; omega
        have hlw : ∀ b ∈ l, (Lit.int .i64 b.v).wf = true := fun b hb => by
          rcases addsB_sub _ _ _ hl b hb with h | h
          · cases h
          · exact HMW.out b (List.mem_of_mem_take h)
        obtain ⟨x, hx⟩ : ∃ x, M[k] = x := ⟨_, rfl⟩
        rw [hx] at m0 m1 m2 m3 m4 hinm hstep
        obtain ⟨gl, cl, rfl⟩ := hbr.slice
        have hlb : l.length ≤ 3000 := by simp at hll; omega
        have hbds := bds_of_owns (g := gl) (c := cl) (l := l) hbr.row hbr.cells (by omega) (fun b hb => by omega) hlw
        have hpl := place_any l x.v wr _ hbds (by omega)
        have HBR := Lib.hid hbr
        have HBD := Lib.hid hbds
        have HINM := Lib.hid hinm
        have HSTEP := Lib.hid hstep
        have HSTOP := Lib.hid hstop
        have HL := Lib.hid hl
        cases hp : place l x.v with
        | none =>
          have hpi : placeI l x.v = -1 := by simp [placeI, hp]
          rw [hpi] at hpl
          have HPL := Lib.hid hpl
          have hadd : addB l x = some (l ++ [x]) := by unfold addB; rw [hp]
          have HADD := Lib.hid (HSTEP.out.trans hadd)
          clear hpl hpi hp hadd hbds hbr hinm hstep hstop hl hlw hx hll htl HROW
          go_wp2_with fail
          refine HPL.out.mono ?_
          rintro e w' ⟨rfl, rfl⟩
          have hone := BRow.one (W := wr) (B := B) (x := x) (sv := .slice gx x.t.args.length cx) (n := wr.heap.size) rfl (by omega) HINM.out
          have HSRC := Lib.hid hone.src
          have HBR2 := Lib.hid (HBR.out.next ((Below.refl wr.heap.size wr).alloc (Nat.le_refl _) (.cells #[.int .i64 x.v, .int .i64 x.t.kind, .string x.t.name, .int .i64 x.t.n, .slice gx x.t.args.length cx] 33 (0, 0))) (by omega))
          clear hone
          go_wp2_with (at_builtin; refine wpList_append_bds rfl _ _ rfl B W1.heap.size _ l xs rfl HBR2.out [x] (some ⟨wr.heap.size, 0, none⟩) 1 1 rfl rfl HSRC.out (by simp; omega) (by simp; omega) (by omega) ?_; intro v' w5 zs5 hbr5 hgrow hsep)
          go_roundw
          case rel => exact ⟨k + 1, by omega, by go_num, ⟨_, _, HADD.out, hbr5⟩, (HB.out.alloc (by omega) _).grown hgrow (by simp; omega) (fun j e => by have := (HBR2.out.row.lt j e).1; omega)⟩
          case measure => simp [intOf]; omega
        | some pp =>
          have hpi : placeI l x.v = (pp : Int) := by simp [placeI, hp]
          rw [hpi] at hpl
          have hplt := (place_some hp).1
          obtain ⟨bo, so, hgo, hbo0, hbo1, o0, o1, o2, o3, o4, hino⟩ := hbr.get pp hplt
          subst hgo
          obtain ⟨gy, cy, rfl⟩ := inn_sl hino
          have hta := tAt_get hplt
          obtain ⟨y, hy⟩ : ∃ y, l[pp] = y := ⟨_, rfl⟩
          rw [hy] at o0 o1 o2 o3 o4 hino hta
          have hsm := rsame_any y.t x.t wr.drew B _ _ (by simp; omega) (Tm.inn_below hino (n₀ := wr.heap.size) ((Below.refl _ _).drew) (by omega)) (Tm.inn_below hinm (n₀ := wr.heap.size) ((Below.refl _ _).drew) (by omega))
          have HPL := Lib.hid hpl
          have HSM := Lib.hid hsm
          have hadd : addB l x = if y.t = x.t then some l else none := by unfold addB; rw [hp]; simp only; rw [hta]
          have HADD := Lib.hid (HSTEP.out.trans hadd)
          clear hpl hpi hp hadd hbds hbr hinm hstep hstop hl hlw hx hll htl HROW hsm hino hta hy
          go_wp2_with fail
          refine HPL.out.mono ?_
          rintro e w' ⟨rfl, rfl⟩
          go_wp2_with fail
          go_still_tail 10, (by kernel_rfl)
          go_wp2_with fail
          refine HSM.out.mono ?_
          rintro e w2 ⟨rfl, hb2⟩
          have hb3 : Below wr.heap.size wr w2 := ((Below.refl wr.heap.size wr).drew).trans hb2
          have HB3 := Lib.hid (HB.out.trans (hb3.mono hbs))
          have HBR3 := Lib.hid (HBR.out.next hb3 (by omega))
          clear hb2 hb3 HSM HPL
          cases hq : y.t.same x.t with
          | true =>
            have he : addsB [] (M.take (k + 1)) = some l := by rw [HADD.out, if_pos ((Tm.same_iff _ _).1 hq)]
            have HE := Lib.hid he
            clear hq he
            go_wp2_with fail
            go_roundw
            case rel => exact ⟨k + 1, by omega, by go_num, ⟨_, _, HE.out, HBR3.out⟩, HB3.out⟩
            case measure => simp [intOf]; omega
          | false =>
            have he : addsB [] (M.take (k + 1)) = none := by
              rw [HADD.out, if_neg (fun e => by rw [(Tm.same_iff _ _).2 e] at hq; cases hq)]
            have hrn : r = none := HR.out.trans (HSTOP.out he)
            have HF := Lib.hid (show CollPost B w r (.returned (.tuple #[.slice none 0 0, .bool false])) w2 from ⟨false, _, rfl, HB1.out.trans (HB3.out.mono (by omega)), .inr ⟨rfl, hrn, rfl⟩⟩)
            clear hq he hrn
            go_wp2_with fail
            go_ret2
            exact HF.out
      · obtain rfl : k = M.length := by omega
        obtain ⟨l, xs, hl, hbr⟩ := HROW.out
        rw [List.take_length] at hl
        have HF := Lib.hid (show CollPost B w r (.returned (.tuple #[u8, .bool true])) wr from ⟨true, _, rfl, HB1.out.trans (HB.out.mono (by omega)), .inl ⟨rfl, l, xs, HR.out.trans hl, hbr.low (by omega)⟩⟩)
        clear hl hbr HROW
        go_wp2_with fail
        go_ret2
        exact HF.out
  · rw [hM] at HEQ
    have HF := Lib.hid (show CollPost B w r (.returned (.tuple #[.slice none 0 0, .bool false])) W1 from ⟨false, _, rfl, HB1.out, .inr ⟨rfl, HEQ.out, rfl⟩⟩)
    clear hM HEQ
    go_wp2_with fail
    go_ret2
    exact HF.out
end Go.Proofs.Ytgnbjhiafjpokaa
