/-
  The document's Right of a list of binds.
-/
import Derived.Test.YtjbicfimoiiglaaBds
import Derived.Test.YtjbicfimoiiglaaKahn
import Derived.Test.YtjbicfimoiiglaaWith
import Derived.Test.YtjbicfimoiiglaaBox
import Derived.Test.YtjbicfimoiiglaaRef
import Derived.Deep.OwnRows
import Derived.BigRegion
namespace Go.Proofs.Ytjbicfimoiiglaa
open Go.RowKit

theorem Try.infoBool : (Try.prog.info? 4).map (fun i => (i.zero, i.size, i.bytes)) = some (some (.bool false), 1, 1) := by kernel_rfl
theorem Try.infoBools : (Try.prog.info? 83).map (fun i => (i.zero, i.size, i.bytes)) = some (some (.slice none 0 0), 1, 24) := by kernel_rfl

def okAtR (l : List Bd) (i : Nat) : Prop := ∀ h : i < l.length, 0 ≤ l[i].v ∧ l[i].v < 1000000 ∧ place l l[i].v = some i ∧ l[i].t.right = true
theorem okL_of {l : List Bd} (h : ∀ i, i < l.length → okAtR l i) : okL l := fun i hi => h i hi hi

/-- Rows of truth values, each in a block of its own, gathered in a row. -/
structure MRows (W : World) (lo n k : Nat) (v : Value) (R : Nat → Nat) (M : Nat → Nat → Bool) : Prop where
  own : W.ownsRow lo 83 1 v k ((List.range k).map fun i => .slice (some ⟨R i, 0, none⟩) n n)
  row : ∀ i, i < k → W.rowIs (R i) 4 n (fun j => .bool (M i j))
  inj : ∀ i j, i < k → j < k → R i = R j → i = j
  away : ∀ i, i < k → v.ownBlock ≠ some (R i)
  lo : ∀ i, i < k → lo ≤ R i
theorem MRows.lt {W : World} {lo n k : Nat} {v : Value} {R : Nat → Nat} {M : Nat → Nat → Bool} (h : MRows W lo n k v R M) {i : Nat} (hi : i < k) : R i < W.heap.size := (h.row i hi).lt
theorem MRows.next {W W' : World} {lo n k : Nat} {v : Value} {R : Nat → Nat} {M : Nat → Nat → Bool} (h : MRows W lo n k v R M) (hb : Below W.heap.size W W') : MRows W' lo n k v R M :=
  ⟨ownsRow_below h.own hb, fun i hi => (h.row i hi).of_block (hb.block _ (h.lt hi)), h.inj, h.away, h.lo⟩
theorem MRows.congr {W : World} {lo n k : Nat} {v : Value} {R : Nat → Nat} {M M' : Nat → Nat → Bool} (h : MRows W lo n k v R M) (e : ∀ i j, i < k → j < n → M i j = M' i j) : MRows W lo n k v R M' :=
  ⟨h.own, fun i hi => (h.row i hi).congr fun j hj => by rw [e i j hi hj], h.inj, h.away, h.lo⟩
theorem MRows.nil (W : World) (lo n : Nat) (R : Nat → Nat) (M : Nat → Nat → Bool) : MRows W lo n 0 (.slice none 0 0) R M :=
  ⟨World.ownsRow_nil _ _ _ _, fun i h => by omega, fun i j h => by omega, fun i h => by omega, fun i h => by omega⟩
/-- A row more. -/
theorem MRows.snoc {W W2 W3 : World} {lo n k r : Nat} {v v' : Value} {R : Nat → Nat} {M : Nat → Nat → Bool} {tmp : Obj} (h : MRows W lo n k v R M) (hb : Below W.heap.size W W2) (hr : W.heap.size ≤ r) (hrow : W2.rowIs r 4 n (fun j => .bool (M k j))) (hlo : lo ≤ W.heap.size)
    (hown : W3.ownsRow lo 83 1 v' (k + 1) (((List.range k).map fun i => .slice (some ⟨R i, 0, none⟩) n n) ++ [.slice (some ⟨r, 0, none⟩) n n]))
    (hg : (W2.alloc tmp).grownBy W3 v.ownBlock) (hsep : v'.ownBlock = v.ownBlock ∨ ∀ b, v'.ownBlock = some b → (W2.alloc tmp).heap.size ≤ b) : MRows W3 lo n (k + 1) v' (fun i => if i = k then r else R i) M := by
  have hs := hb.size
  have hr2 := hrow.lt
  have hlt : ∀ i, i < k → R i < W.heap.size := fun i hi => h.lt hi
  have hvr : v.ownBlock ≠ some r := fun e => by have := (h.own.lt r e).2; omega
  have keep : ∀ b, b < W2.heap.size → v.ownBlock ≠ some b → W3.heap[b]? = W2.heap[b]? := fun b hb' hne => (hg.block b (by simp; omega) (fun e => hne e.symm)).trans (Below.heap_alloc _ _ _ hb')
  have sep : ∀ b, b < W2.heap.size → v.ownBlock ≠ some b → v'.ownBlock ≠ some b := fun b hb' hne => by
    rcases hsep with e | e
    · rw [e]; exact hne
    · intro e2
      have := e b e2
      simp at this
      omega
  refine ⟨?_, fun i hi => ?_, fun i j hi hj e => ?_, fun i hi => ?_, fun i hi => ?_⟩
  · rw [List.range_succ, List.map_append]
    have : ((List.range k).map fun i => Value.slice (some ⟨if i = k then r else R i, 0, none⟩) n n) = (List.range k).map fun i => Value.slice (some ⟨R i, 0, none⟩) n n :=
      List.map_congr_left fun i hi => by rw [if_neg (by have := List.mem_range.1 hi; omega)]
    rw [this]
    simpa using hown
  · by_cases e : i = k
    · subst e
      simp only [if_true]
      exact hrow.of_block (keep r hr2 hvr)
    · simp only [e, if_false]
      have hi' : i < k := by omega
      exact ((h.row i hi').of_block (hb.block _ (hlt i hi'))).of_block (keep (R i) (by have := hlt i hi'; omega) (h.away i hi'))
  · by_cases e1 : i = k
    · by_cases e2 : j = k
      · omega
      · subst e1
        simp only [if_true, e2, if_false] at e
        have := hlt j (by omega)
        omega
    · by_cases e2 : j = k
      · subst e2
        simp only [if_true, e1, if_false] at e
        have := hlt i (by omega)
        omega
      · simp only [e1, e2, if_false] at e
        exact h.inj i j (by omega) (by omega) e
  · by_cases e : i = k
    · subst e
      simp only [if_true]
      exact sep r hr2 hvr
    · simp only [e, if_false]
      have hi' : i < k := by omega
      exact sep (R i) (by have := hlt i hi'; omega) (h.away i hi')
  · by_cases e : i = k
    · subst e
      simp only [if_true]
      omega
    · simp only [e, if_false]
      exact h.lo i (by omega)
/-- A store into one of the rows. -/
theorem MRows.set {W : World} {lo n k : Nat} {v : Value} {R : Nat → Nat} {M : Nat → Nat → Bool} (h : MRows W lo n k v R M) {i j : Nat} (hi : i < k) (q : Bool) : MRows (W.setCell ⟨R i, j, none⟩ (.bool q)) lo n k v R (fun a b => if a = i ∧ b = j then q else M a b) := by
  refine ⟨?_, fun a ha => ?_, h.inj, h.away, h.lo⟩
  · refine ⟨h.own.1, ?_⟩
    rcases h.own.2 with hn | ⟨g, cap, cur, rfl, h1, h2, h3⟩
    · exact .inl hn
    · exact .inr ⟨g, cap, cur, rfl, h1, (Below.heap_setCell _ _ _ _ (fun e => h.away i hi (by rw [show (⟨R i, j, none⟩ : Addr).block = R i from rfl] at e; simp [Value.ownBlock, e]))).trans h2, h3⟩
  · by_cases e : a = i
    · subst e
      refine ((h.row a ha).set j (.bool q)).congr fun b _ => ?_
      by_cases e2 : b = j
      · simp [e2]
      · simp [e2]
    · refine ((h.row a ha).setOther (fun e2 => e (h.inj a i ha hi e2)) _).congr fun b _ => ?_
      simp [e]
theorem MRows.head {W : World} {lo n k : Nat} {v : Value} {R : Nat → Nat} {M : Nat → Nat → Bool} (h : MRows W lo n k v R M) {g : Option Addr} {m c : Nat} (hv : v = .slice g m c) {i : Nat} (hi : i < k) : ∃ b, g = some ⟨b, 0, none⟩ ∧ v.ownBlock = some b ∧ W.cell? ⟨b, i, none⟩ = some (.slice (some ⟨R i, 0, none⟩) n n) := by
  rcases h.own.2 with ⟨_, h0⟩ | ⟨b, cap, cur, e, _⟩
  · omega
  · rw [hv] at e
    injection e with e1 e2 e3
    refine ⟨b, e1, by rw [hv, e1]; rfl, ?_⟩
    have := h.own.cells (g := b) (by rw [hv, e1]; rfl) i (.slice (some ⟨R i, 0, none⟩) n n) (by simp [hi])
    rw [Addr.add_lit] at this
    simpa using this
theorem intsIn_row {W : World} {B r n : Nat} {vs : List Int} {v : Value} {f : Nat → Bool} (h : intsIn W B vs v) (hr : W.rowIs r 4 n (fun j => .bool (f j))) (o : Nat) (u : Value) : intsIn (W.setCell ⟨r, o, none⟩ u) B vs v := by
  obtain ⟨g, cap, rfl, h1, h2, h3⟩ := h
  refine ⟨g, cap, rfl, h1, h2, ?_⟩
  rcases h3 with h3 | ⟨b, off, rfl, hb, hc⟩
  · exact .inl h3
  · by_cases he : vs = []
    · exact .inl he
    · refine .inr ⟨b, off, rfl, hb, fun i hi => ?_⟩
      have hne : b ≠ r := by
        rintro rfl
        have h0 := hc i hi
        obtain ⟨c, hcb, hn, hall⟩ := hr
        simp only [World.cell?, hcb] at h0
        have hlt : off + i < n := by
          rcases Nat.lt_or_ge (off + i) c.size with h | h
          · omega
          · simp [h] at h0
        rw [hall _ hlt] at h0
        simp at h0
      exact (World.cell?_of_block (a := ⟨b, off + i, none⟩) (Below.heap_setCell _ _ _ _ hne)).trans (hc i hi)
theorem news1h {w : World} {a : Value} {t : TypeId} (H : Nat) (hH : w.heap.size = H) : ∀ (j : Nat) (u : Value), [a][j]? = some u → (w.alloc (.cells #[a] t)).cell? ((⟨H, 0, none⟩ : Addr).add j) = some u := by
  subst hH
  intro j u hj
  rw [Addr.add_lit]
  simp only [Nat.zero_add]
  rw [World.cell?_alloc_new]
  simpa using hj
/-- What the document's Right tells. -/
def RightPost (l : List Bd) (w : World) (e : Ending) (w' : World) : Prop := ∃ q : Bool, e = .returned (.bool q) ∧ (q = true ↔ RightL l) ∧ Below w.heap.size w w'
theorem RightPost.no {l : List Bd} {w w' : World} {e : Ending} (he : e = .returned (.bool false)) (h : ¬ RightL l) (hb : Below w.heap.size w w') : RightPost l w e w' := ⟨false, he, ⟨(fun h' => by cases h'), (fun h' => absurd h' h)⟩, hb⟩
theorem not_right {l : List Bd} {i : Nat} (_hi : i < l.length) (h : ¬ okAtR l i) : ¬ RightL l := fun hr => h fun hi' => hr.1 i hi'

set_option maxRecDepth 100000 in
set_option maxHeartbeats 4000000 in
theorem bright_any (l : List Bd) (w : World) (sv : Value) (hsl : bdsIn w w.heap.size l sv) (hmax : l.length ≤ 1000) (hsz : szB l ≤ 1000000) :
    Calls Try.prog 31 #[sv] w fun e w' => RightPost l w e w' := by
  have hsl0 := hsl
  obtain ⟨g, cap, rfl, hcap, hlen, _, _⟩ := hsl0
  have HSL := Lib.hid hsl
  have HSZ := Lib.hid hsz
  clear hsl hsz
  have hmk := run_make_row' (P := Try.prog) 83 4 (.bool false) 1 Try.underlying83 Try.infoBool rfl .i64 .i64 l.length (by omega) (by omega)
  obtain ⟨i0, hi, hz0, hz1, hz2⟩ := info_parts Try.infoBools
  go_enter Try.func31, Try.ntmps31
  go_wp2_with fail
  go_loopw [4, 5, 6, 7, 8, 9] (fun v i _ _ _ _ wr => ∃ k : Nat, k ≤ l.length ∧ i = .int .i64 k ∧ Hid (∀ j, j < k → okAtR l j) ∧ Hid (∃ R, MRows wr w.heap.size l.length k v R (fun a b => decide (b ∈ deps l a))) ∧ Hid (Below w.heap.size w wr)) (fun _ i _ _ _ _ _ => l.length - (intOf i).toNat)
  case atStart => exact ⟨0, Nat.zero_le _, rfl, fun j h => by omega, ⟨fun _ => 0, MRows.nil _ _ _ _ _⟩, Below.refl _ _⟩
  case round =>
    obtain ⟨wo, rfl⟩ : ∃ x, x = wr := ⟨_, rfl⟩
    obtain ⟨k, hk, rfl, hp, hrow, hb⟩ := hrel
    have hbs := hb.out.size
    by_cases hlt : k < l.length
    · obtain ⟨b, off, sv, rfl, hbB, g0, g1, g2, g3, g4, hin'⟩ := bdsIn_get (bdsIn_below HSL.out hb.out (Nat.le_refl _)) k hlt
      obtain ⟨_, ga, capa, rfl, _, _, _⟩ := Tm.inn_iff.1 hin'
      have HIN := Lib.hid hin'
      have hno := Lib.hid (fun h : ¬ okAtR l k => not_right hlt h)
      clear hin'
      by_cases h0 : l[k].v < 0
      · go_wp2_with fail
        go_ret
        exact RightPost.no rfl (hno.out fun h => by have := (h hlt).1; omega) hb.out
      · by_cases h1 : 1000000 ≤ l[k].v
        · go_wp2_with fail
          go_ret
          exact RightPost.no rfl (hno.out fun h => by have := (h hlt).2.1; omega) hb.out
        · have hpa := Lib.hid (place_any l l[k].v wo (.slice (some ⟨b, off, none⟩) l.length cap) (bdsIn_mono (bdsIn_below HSL.out hb.out (Nat.le_refl _)) hbs) (by omega))
          by_cases h2 : placeI l l[k].v = (k : Int)
          · have hpk : place l l[k].v = some k := by
              unfold placeI at h2
              cases hq : place l l[k].v with
              | none => rw [hq] at h2; simp at h2 <;> omega
              | some p => rw [hq] at h2; simp only at h2; rw [show p = k by omega]
            have HPK := Lib.hid hpk
            have H2 := Lib.hid h2
            clear h2 hpk
            go_wp2_with fail
            refine hpa.out.mono ?_
            rintro e w' ⟨rfl, rfl⟩
            rw [H2.out]
            go_wp2_with fail
            refine (rright_any l[k].t _ w.heap.size _ hbs HIN.out (by have := szB_mem hlt; have := HSZ.out; omega)).mono ?_
            rintro e w2 ⟨rfl, hb2⟩
            have hs2 := hb2.size
            have HB2 := Lib.hid hb2
            cases hq : l[k].t.right with
            | false =>
              have HQ := Lib.hid hq
              clear hq
              go_wp2_with fail
              go_ret
              exact RightPost.no rfl (hno.out fun h => by have := (h hlt).2.2.2; rw [HQ.out] at this; cases this) (hb.out.trans (hb2.mono hbs))
            | true =>
              have HQ := Lib.hid hq
              have c1 := (hb2.cell (p := ⟨b, off + k * 5 + 1, none⟩) (by show b < wo.heap.size; omega)).trans g1
              have c2 := (hb2.cell (p := ⟨b, off + k * 5 + 2, none⟩) (by show b < wo.heap.size; omega)).trans g2
              have c3 := (hb2.cell (p := ⟨b, off + k * 5 + 3, none⟩) (by show b < wo.heap.size; omega)).trans g3
              have c4 := (hb2.cell (p := ⟨b, off + k * 5 + 4, none⟩) (by show b < wo.heap.size; omega)).trans g4
              have hb2' : b < w2.heap.size := by omega
              have hrow3 := Lib.hid (World.rowIs_made w2 (.bool false) l.length 4)
              have hbl4 : Below w2.heap.size w2 ((w2.alloc (.cells (madeCells #[.bool false] l.length) 4)).alloc (.cells #[.int .i64 l[k].t.kind, .string l[k].t.name, .int .i64 l[k].t.n, .slice ga l[k].t.args.length capa] 24)) := al2 _ _ _
              have HBL4 := Lib.hid hbl4
              clear hq hb2 g0 g1 g2 g3 g4 hpa hbl4
              go_wp2_with fail
              have hin4 := Tm.inn_mono (Tm.inn_below (Tm.inn_below HIN.out HB2.out hbs) HBL4.out (by omega)) (B' := ((w2.alloc (.cells (madeCells #[.bool false] l.length) 4)).alloc (.cells #[.int .i64 l[k].t.kind, .string l[k].t.name, .int .i64 l[k].t.n, .slice ga l[k].t.args.length capa] 24)).heap.size) (by simp; omega)
              have hone := one_slice (newBlk (w2.alloc (.cells (madeCells #[.bool false] l.length) 4)) _ (w2.heap.size + 1) (by simp)) hin4
              have hvs := withs_vars [l[k].t] (by rw [Tm.plain_all]; simp [right_noArgs HQ.out])
              have hvr := vars_range (l := [l[k].t]) (by intro t ht; simp at ht; rw [ht]; exact HQ.out)
              have hvl := varsOf_length [l[k].t]
              have hts : Tm.sizes [l[k].t] = l[k].t.size := by simp [Tm.sizes]
              have hszk := szB_mem hlt
              have hrv := rvars_any [l[k].t] _ _ _ (Nat.le_refl _) hone (by have := HSZ.out; omega)
              rw [hvs] at hrv
              have hdk : deps l k = (varsOf [l[k].t]).filterMap (place l) := by rw [deps, tAt_get hlt]
              obtain ⟨vs, hvs0⟩ : ∃ vs, varsOf [l[k].t] = vs := ⟨_, rfl⟩
              rw [hvs0] at hrv hdk hvr hvl
              have hvl' : vs.length ≤ 1000000 := by have := HSZ.out; omega
              have HRV := Lib.hid hrv
              have HVR := Lib.hid hvr
              have HDK := Lib.hid hdk
              clear hin4 hone hvs hvr hvl hts hszk hrv hdk hvs0
              refine HRV.out.mono ?_
              rintro e w5 ⟨vv, rfl, hints, hb5⟩
              obtain ⟨gv, cv, rfl, hcv, hlv, _⟩ := id hints
              have hs5 : w2.heap.size + 2 ≤ w5.heap.size := by have := hb5.size; simpa using this
              have HB5 := Lib.hid (HBL4.out.trans (hb5.mono (by simp; omega)))
              have HR5 := Lib.hid ((hrow3.out.alloc _).of_block (hb5.block _ (by simp; omega)))
              have HINTS := Lib.hid hints
              clear hints hb5 HRV hrow3 HBL4 c1 c2 c3 c4
              go_wp2_with fail
              go_loopw [8, 9] (fun i _ wr => ∃ m : Nat, m ≤ vs.length ∧ i = .int .i64 m ∧ Hid (wr.rowIs w2.heap.size 4 l.length (fun j => .bool (decide (j ∈ (vs.take m).filterMap (place l))))) ∧ Hid (Below w2.heap.size w2 wr) ∧ Hid (intsIn wr wr.heap.size vs (.slice gv vs.length cv)) ∧ w2.heap.size + 2 ≤ wr.heap.size) (fun i _ _ => vs.length - (intOf i).toNat)
              case atStart => exact ⟨0, Nat.zero_le _, rfl, HR5.out.congr (fun j _ => by simp), HB5.out, HINTS.out, hs5⟩
              case round =>
                obtain ⟨m, hm, rfl, hrw, hbq, hiv, hsq⟩ := hrel
                have HRW := Lib.hid hrw.out
                have HBQ := Lib.hid hbq.out
                have HIV := Lib.hid hiv.out
                clear hrw hbq hiv
                by_cases hmlt : m < vs.length
                · obtain ⟨bi, oi, hgv, hbiB, gi⟩ := intsIn_get HIV.out m hmlt
                  subst hgv
                  have hblq := bdsIn_mono (bdsIn_below HSL.out (hb.out.trans ((HB2.out.trans (HBQ.out.mono (by omega))).mono hbs)) (Nat.le_refl _)) (B' := wr.heap.size) (by omega)
                  have hpq := place_any l vs[m] wr (.slice (some ⟨b, off, none⟩) l.length cap) hblq (by omega)
                  have htk := List.take_succ_eq_append_getElem hmlt
                  cases hpl : place l vs[m] with
                  | some p =>
                    have hpi : placeI l vs[m] = (p : Int) := by simp [placeI, hpl]
                    obtain ⟨hplt, _, _⟩ := place_some hpl
                    have hfm : (vs.take (m + 1)).filterMap (place l) = (vs.take m).filterMap (place l) ++ [p] := by rw [htk, List.filterMap_append]; simp [hpl]
                    rw [hpi] at hpq
                    have HPQ := Lib.hid hpq
                    have HFM := Lib.hid hfm
                    have cp := HRW.out.cell hplt
                    have fp := HRW.out.frozen p
                    have lp := HRW.out.lt
                    clear hpq hpi hpl htk hfm hblq
                    go_wp2_with fail
                    refine HPQ.out.mono ?_
                    rintro e w' ⟨rfl, rfl⟩
                    go_wp2_with fail
                    go_roundw
                    case rel =>
                      refine ⟨m + 1, by omega, by go_num, ?_, HBQ.out.setCell (Nat.le_refl _) _, ?_, by simp; omega⟩
                      · rw [HFM.out]
                        refine (HRW.out.set p (.bool true)).congr fun j _ => ?_
                        by_cases e : j = p
                        · simp [e]
                        · simp [e]
                      · exact intsIn_mono (intsIn_row HIV.out HRW.out p (.bool true)) (by simp)
                    case measure => simp [intOf]; omega
                  | none =>
                    have hpi : placeI l vs[m] = -1 := by simp [placeI, hpl]
                    have hfm : (vs.take (m + 1)).filterMap (place l) = (vs.take m).filterMap (place l) := by rw [htk, List.filterMap_append]; simp [hpl]
                    rw [hpi] at hpq
                    have HPQ := Lib.hid hpq
                    have HFM := Lib.hid hfm
                    clear hpq hpi hpl htk hfm hblq
                    go_wp2_with fail
                    refine HPQ.out.mono ?_
                    rintro e w' ⟨rfl, rfl⟩
                    go_wp2_with fail
                    go_roundw
                    case rel => exact ⟨m + 1, by omega, by go_num, by rw [HFM.out]; exact HRW.out, HBQ.out, HIV.out, hsq⟩
                    case measure => simp [intOf]; omega
                · obtain rfl : m = vs.length := by omega
                  rw [List.take_length, ← HDK.out] at HRW
                  obtain ⟨R, hmr⟩ := hrow.out
                  have hbrq : Below wo.heap.size wo wr := HB2.out.trans (HBQ.out.mono hs2)
                  have hown := (hmr.next hbrq).own
                  obtain ⟨gm, cm, hum⟩ := owns_slice hown
                  have HMR := Lib.hid hmr
                  have HBRQ := Lib.hid hbrq
                  have HOWN := Lib.hid hown
                  have lr := HRW.out.lt
                  clear hmr hbrq hown
                  go_wp2_with (at_builtin; refine wpList_append_sep _ rfl _ _ 82 rfl w.heap.size 83 i0 _ 1 24 Try.underlying82 hi hz0 hz1 hz2 rfl (by decide) u4 k _ rfl (HOWN.out.alloc _) ⟨wr.heap.size, 0, none⟩ 1 1 [.slice (some ⟨w2.heap.size, 0, none⟩) l.length l.length] rfl (by decide) rfl (news1h _ rfl) (by simp [Value.oneCell']) (by unfold maxLen; omega) (by omega) (by simp; omega) ?_; intro v' w7 hown7 hgrow hsep)
                  go_roundw
                  case rel =>
                    refine ⟨k + 1, by omega, by go_num, fun j hj => ?_, ⟨_, HMR.out.snoc HBRQ.out hs2 HRW.out hbs hown7 hgrow hsep⟩, ((hb.out.trans (HBRQ.out.mono hbs)).alloc (by omega) _).grown hgrow (by simp; omega) (fun j e => (HMR.out.own.lt j e).1)⟩
                    by_cases hjk : j < k
                    · exact hp.out j hjk
                    · obtain rfl : j = k := by omega
                      intro hj'
                      exact ⟨by omega, by omega, HPK.out, HQ.out⟩
                  case measure => simp [intOf]; omega
          · have H2 : (placeI l l[k].v != (k : Int)) = true := by simpa using h2
            have HN := Lib.hid h2
            clear h2
            go_wp2_with fail
            refine hpa.out.mono ?_
            rintro e w' ⟨rfl, rfl⟩
            go_wp2_with fail
            go_ret
            refine RightPost.no rfl (hno.out fun h => HN.out ?_) hb.out
            simp [placeI, (h hlt).2.2.1]
    · obtain rfl : k = l.length := by omega
      obtain ⟨R, hmr0⟩ := hrow.out
      have hmr : MRows wo w.heap.size l.length l.length u4 R (clo l 0) := hmr0.congr fun i j _ _ => rfl
      have hok : okL l := okL_of fun i hi => hp.out i hi
      obtain ⟨gm, cm, rfl⟩ := owns_slice hmr.own
      have HOK := Lib.hid hok
      have HMR := Lib.hid hmr
      have HB := Lib.hid hb.out
      clear hmr0 hmr hok hrow hp hb hmk
      go_wp2_with fail
      go_loopw [10, 11, 12] (fun kk _ _ wr => ∃ k : Nat, k ≤ l.length ∧ kk = .int .i64 k ∧ Hid (MRows wr w.heap.size l.length l.length (.slice gm l.length cm) R (clo l k)) ∧ Hid (Below w.heap.size w wr)) (fun kk _ _ _ => l.length - (intOf kk).toNat)
      case atStart => exact ⟨0, Nat.zero_le _, rfl, HMR.out, HB.out⟩
      case round =>
        obtain ⟨w1, rfl⟩ : ∃ x, x = wr := ⟨_, rfl⟩
        obtain ⟨k, hk, rfl, hm1, hb1⟩ := hrel
        have HM1 := Lib.hid hm1.out
        have HB1 := Lib.hid hb1.out
        clear hm1 hb1 HMR HB
        by_cases hklt : k < l.length
        · go_wp2_with fail
          go_loopw [11, 12] (fun ii _ wr => ∃ i : Nat, i ≤ l.length ∧ ii = .int .i64 i ∧ Hid (MRows wr w.heap.size l.length l.length (.slice gm l.length cm) R (cloAt l k i 0)) ∧ Hid (Below w.heap.size w wr)) (fun ii _ _ => l.length - (intOf ii).toNat)
          case atStart => exact ⟨0, Nat.zero_le _, rfl, HM1.out.congr (fun a b _ _ => (cloAt_start l k a b).symm), HB1.out⟩
          case round =>
            obtain ⟨w2, rfl⟩ : ∃ x, x = wr := ⟨_, rfl⟩
            obtain ⟨i, hi', rfl, hm2, hb2⟩ := hrel
            have HM2 := Lib.hid hm2.out
            have HB2 := Lib.hid hb2.out
            clear hm2 hb2
            by_cases hilt : i < l.length
            · go_wp2_with fail
              go_loopw [12] (fun jj wr => ∃ j : Nat, j ≤ l.length ∧ jj = .int .i64 j ∧ Hid (MRows wr w.heap.size l.length l.length (.slice gm l.length cm) R (cloAt l k i j)) ∧ Hid (Below w.heap.size w wr)) (fun jj _ => l.length - (intOf jj).toNat)
              case atStart => exact ⟨0, Nat.zero_le _, rfl, HM2.out, HB2.out⟩
              case round =>
                obtain ⟨w3, rfl⟩ : ∃ x, x = wr := ⟨_, rfl⟩
                obtain ⟨j, hj, rfl, hm3, hb3⟩ := hrel
                have HM3 := Lib.hid hm3.out
                have HB3 := Lib.hid hb3.out
                clear hm3 hb3
                by_cases hjlt : j < l.length
                · obtain ⟨C, hC, _, ci⟩ := HM3.out.head rfl hilt
                  subst hC
                  obtain ⟨C', hC', _, ck⟩ := HM3.out.head rfl hklt
                  injection hC' with hC'
                  injection hC' with hC'
                  subst hC'
                  have c1 := (HM3.out.row i hilt).cell hjlt
                  have c2 := (HM3.out.row i hilt).cell hklt
                  have c3 := (HM3.out.row k hklt).cell hjlt
                  have fr := (HM3.out.row i hilt).frozen j
                  have hnx := cloAt_next l k i j
                  obtain ⟨q1, hq1⟩ : ∃ q, cloAt l k i j i j = q := ⟨_, rfl⟩
                  obtain ⟨q2, hq2⟩ : ∃ q, cloAt l k i j i k = q := ⟨_, rfl⟩
                  obtain ⟨q3, hq3⟩ : ∃ q, cloAt l k i j k j = q := ⟨_, rfl⟩
                  rw [hq1] at c1
                  rw [hq2] at c2
                  rw [hq3] at c3
                  simp only [hq1, hq2, hq3] at hnx
                  have HNX := Lib.hid hnx
                  clear hnx hq1 hq2 hq3
                  cases q1 with
                  | true =>
                    go_wp2_with fail
                    go_region
                    go_wp2_with fail
                    go_roundw
                    case rel =>
                      refine ⟨j + 1, by omega, by go_num, ((HM3.out.set hilt true).congr (fun a b _ _ => ?_)).next ((Below.refl _ _).drew), (HB3.out.setCell (HM3.out.lo i hilt) _).drew⟩
                      have := HNX.out a b
                      simpa using this
                    case measure => simp [intOf]; omega
                  | false =>
                    cases q2 with
                    | false =>
                      go_wp2_with fail
                      go_region
                      go_wp2_with fail
                      go_roundw
                      case rel =>
                        refine ⟨j + 1, by omega, by go_num, ((HM3.out.set hilt false).congr (fun a b _ _ => ?_)).next ((Below.refl _ _).drew), (HB3.out.setCell (HM3.out.lo i hilt) _).drew⟩
                        have := HNX.out a b
                        simpa using this
                      case measure => simp [intOf]; omega
                    | true =>
                      go_wp2_with fail
                      go_region
                      go_wp2_with fail
                      go_roundw
                      case rel =>
                        refine ⟨j + 1, by omega, by go_num, ((HM3.out.set hilt q3).congr (fun a b _ _ => ?_)).next ((Below.refl _ _).drew), (HB3.out.setCell (HM3.out.lo i hilt) _).drew⟩
                        have := HNX.out a b
                        simpa using this
                      case measure => simp [intOf]; omega
                · obtain rfl : j = l.length := by omega
                  go_wp2_with fail
                  go_roundw
                  case rel => exact ⟨i + 1, by omega, by go_num, HM3.out.congr (fun a b _ hb => cloAt_row l hb), HB3.out⟩
                  case measure => simp [intOf]; omega
            · obtain rfl : i = l.length := by omega
              go_wp2_with fail
              go_roundw
              case rel => exact ⟨k + 1, by omega, by go_num, HM2.out.congr (fun a b ha _ => cloAt_end l ha), HB2.out⟩
              case measure => simp [intOf]; omega
        · obtain rfl : k = l.length := by omega
          go_wp2_with fail
          go_loopw [13] (fun ii wr => ∃ i : Nat, i ≤ l.length ∧ ii = .int .i64 i ∧ Hid (∀ j, j < i → clo l l.length j j = false) ∧ wr = w1) (fun ii _ => l.length - (intOf ii).toNat)
          case atStart => exact ⟨0, Nat.zero_le _, rfl, fun j h => by omega, rfl⟩
          case round =>
            obtain ⟨i, hi', rfl, hno, rfl⟩ := hrel
            by_cases hilt : i < l.length
            · obtain ⟨C, hC, _, ci⟩ := HM1.out.head rfl hilt
              subst hC
              have c1 := (HM1.out.row i hilt).cell hilt
              cases hq : clo l l.length i i with
              | true =>
                rw [hq] at c1
                have HQ := Lib.hid hq
                clear hq
                go_wp2_with fail
                go_ret
                exact RightPost.no rfl (fun h => by have := (clo_says l).1 h.2 i hilt; rw [HQ.out] at this; cases this) HB1.out
              | false =>
                rw [hq] at c1
                have HQ := Lib.hid hq
                clear hq
                go_wp2_with fail
                go_roundw
                case rel =>
                  refine ⟨i + 1, by omega, by go_num, fun j hj => ?_, trivial⟩
                  by_cases hjj : j < i
                  · exact hno.out j hjj
                  · obtain rfl : j = i := by omega
                    exact HQ.out
                case measure => simp [intOf]; omega
            · obtain rfl : i = l.length := by omega
              have hr := (clo_says l).2 hno.out
              have HR := Lib.hid hr
              clear hr hno
              go_wp2_with fail
              go_ret
              exact ⟨true, rfl, ⟨(fun _ => ⟨HOK.out, HR.out⟩), (fun _ => rfl)⟩, HB1.out⟩
end Go.Proofs.Ytjbicfimoiiglaa
