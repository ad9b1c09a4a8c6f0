/-
  The library's CompactFunc, walked.
-/
import Derived.Test.YtpiflkgjmncijaaCompactA
import Derived.Laws.IdiomCopy
namespace Go.Proofs.Ytpiflkgjmncijaa
open Go.RowKit Go.Sort

/-- A new row of the places that are left. -/
def CompactPost (l : List Tm) (d : Array Int) (w : World) (e : Ending) (W' : World) : Prop :=
  ∃ v, e = .returned v ∧ intsIn W' W'.heap.size (keepsN l d d.size) v ∧ RowKit.Below w.heap.size w W'

theorem ints_of_row {w W : World} {b N cap : Nat} {d : Array Int} (h : RowSt w b N d W) {ks : List Int} (hk : ks.length ≤ d.size) (hd : d.size ≤ 1000000) (hcap : ks.length ≤ cap) (he : ∀ i (hi : i < ks.length), d[i]! = ks[i]) :
    intsIn W W.heap.size ks (.slice (some ⟨b, 0, none⟩) ks.length cap) := by
  refine ⟨_, cap, rfl, hcap, by omega, ?_⟩
  by_cases h0 : ks = []
  · exact .inl h0
  · have hp : 0 < ks.length := List.length_pos_iff.2 h0
    refine .inr ⟨b, 0, rfl, h.lt (i := 0) (by omega), fun i hi => ?_⟩
    rw [Nat.zero_add, h.cell i (by omega), he i hi]

theorem below_cells {B b : Nat} {a : World} (hb : B ≤ b) : ∀ (vs : List Value) (o : Nat) (w : World), RowKit.Below B a w → RowKit.Below B a (w.setCells b o vs)
  | [], _, _, h => h
  | v :: vs, o, _, h => below_cells hb vs (o + 1) _ (h.setCell (p := ⟨b, o, none⟩) hb v)
theorem size_cells (b : Nat) : ∀ (vs : List Value) (o : Nat) (w : World), (w.setCells b o vs).heap.size = w.heap.size
  | [], _, _ => rfl
  | v :: vs, o, w => (size_cells b vs (o + 1) _).trans (by simp)

set_option maxRecDepth 100000 in
set_option maxHeartbeats 4000000 in
theorem compact_any (l : List Tm) (sv : Value) (d : Array Int) (g : Option Addr) (b cap Bo : Nat) (w W : World) (hg : d.size = 0 ∨ g = some ⟨b, 0, none⟩) (hS : RowSt w b l.length d W) (hsl : Tm.sliceIn w w.heap.size l sv) (hsz : d.size ≤ 1000000) (hcap : d.size ≤ cap) (hBo : Bo < w.heap.size)
    (hc : w.cell? ⟨Bo, 0, none⟩ = some (.func (.func 45) #[sv] #[])) :
    Calls Try.prog 64 #[.slice g d.size cap, .func (.func 65) #[] #[.pointer (some ⟨Bo, 0, none⟩)]] W fun e W' => CompactPost l d w e W' := by
  have HS := Lib.hid hS
  have HSL := Lib.hid hsl
  have HC := Lib.hid hc
  clear hS hsl hc
  by_cases h2 : d.size < 2
  · have HG := Lib.hid hg
    clear hg
    go_enter Try.func64, Try.ntmps64
    go_wp2_with fail
    go_ret
    refine ⟨_, rfl, ?_, HS.out.below⟩
    rcases HG.out with h0 | rfl
    · rw [h0]
      exact ⟨_, _, rfl, Nat.zero_le _, Nat.zero_le _, .inl rfl⟩
    · have hk : keepsN l d d.size = (List.range d.size).map fun i => d[i]! := keepsN_all (fun i h1 h2 => by omega)
      have hl : (keepsN l d d.size).length = d.size := by rw [hk]; simp
      have := ints_of_row (cap := cap) HS.out (ks := keepsN l d d.size) (by omega) hsz (by omega) (fun i hi => by
        simp only [hk]
        simp)
      rwa [hl] at this
  · obtain rfl : g = some ⟨b, 0, none⟩ := by rcases hg with h | h; omega; exact h
    clear hg
    have hn2 : ¬ ((d.size : Int) < 2) := by omega
    go_enter Try.func64, Try.ntmps64
    go_wp2_with fail
    go_loopw [5] (fun vk wr => ∃ k : Nat, 1 ≤ k ∧ k ≤ d.size ∧ vk = .int .i64 k ∧ Hid (∀ i, 1 ≤ i → i < k → eqAt l d[i]! d[i - 1]! = false) ∧ Hid (RowSt w b l.length d wr)) (fun vk _ => d.size - (intOf vk).toNat)
    case atStart => exact ⟨1, Nat.le_refl _, by omega, rfl, fun i h1 h2 => by omega, HS⟩
    case round =>
      obtain ⟨k, hk1, hkn, rfl, hall, HR⟩ := hrel
      clear HS
      by_cases hlt : k < d.size
      · obtain ⟨p, rfl⟩ : ∃ p, k = p + 1 := ⟨k - 1, by omega⟩
        have hp0 : p < d.size := by omega
        have heqv := Lib.hid (HR.out.drew.eqv HSL.out hBo HC.out hlt hp0)
        have c1 := HR.out.cell (p + 1) hlt
        have c0 := HR.out.cell p hp0
        obtain ⟨x, hx⟩ : ∃ x, x = d[p + 1]! := ⟨_, rfl⟩
        obtain ⟨y, hy⟩ : ∃ y, y = d[p]! := ⟨_, rfl⟩
        rw [← hx, ← hy] at heqv
        rw [← hx] at c1
        rw [← hy] at c0
        have hw : IntKind.i64.wrap (p : Int) = p := by rw [IntKind.wrap_i64]; omega
        have ht : ((p : Int) + 1).toNat = p + 1 := by omega
        have pa : (0 : Int) ≤ (p : Int) + 1 := by omega
        have ba : (p : Int) + 1 < (d.size : Int) := by omega
        have pc : (0 : Int) ≤ (p : Int) := by omega
        have bc : (p : Int) < (d.size : Int) := by omega
        have HX := Lib.hid hx
        have HY := Lib.hid hy
        clear hx hy
        go_wp2_with fail
        go_still_tail 10, (by kernel_rfl)
        go_wp2_with fail
        refine heqv.out.mono ?_
        rintro e w1 ⟨rfl, hb1⟩
        have HR1 := Lib.hid (HR.out.drew.next hb1)
        clear hb1 heqv c1 c0 HR
        cases hq : eqAt l x y with
        | false =>
          have hall2 : ∀ i, 1 ≤ i → i < p + 1 + 1 → eqAt l d[i]! d[i - 1]! = false := fun i h1 h2 => by
            by_cases e : i = p + 1
            · subst e
              rw [← HX.out, Nat.add_sub_cancel, ← HY.out]; exact hq
            · exact hall.out i h1 (by omega)
          have HALL2 := Lib.hid hall2
          clear hall2 hall hq
          go_wp2_with fail
          go_roundw
          case rel => exact ⟨p + 1 + 1, by omega, by omega, by go_num, HALL2, HR1⟩
          case measure => simp [intOf]; omega
        | true =>
          have hst := Lib.hid (CSt.start (k0 := p + 1) (by omega) hall.out (by rw [← HX.out, Nat.add_sub_cancel, ← HY.out]; exact hq))
          clear hall hq
          have hcp : d.size ≤ cap := hcap
          go_wp2_with fail
          obtain ⟨wo, hwo⟩ : ∃ wo : World, wo = w1 := ⟨_, rfl⟩
          rw [← hwo] at HR1 ⊢
          clear hwo
          go_loopw [5, 7] (fun vq vk wr => ∃ (q k2 : Nat) (dk : Array Int), vq = .int .i64 q ∧ vk = .int .i64 k2 ∧ 1 ≤ k2 ∧ k2 ≤ d.size - (p + 1) ∧ Hid (CSt l d dk (p + 1) k2 q) ∧ Hid (RowSt w b l.length dk wr)) (fun _ vk _ => d.size - (p + 1) - (intOf vk).toNat)
          case atStart => exact ⟨p + 1, 1, d, by go_num, rfl, Nat.le_refl _, by omega, hst, HR1⟩
          case round =>
            obtain ⟨q, k2, dk, rfl, rfl, hk2, hk2n, HCS, HK⟩ := hrel
            clear hst HR1
            have hdk : dk.size ≤ d.size ∧ d.size ≤ dk.size := by have := HCS.out.1; omega
            have hqk : q + 1 ≤ p + 1 + k2 := HCS.out.2.1
            by_cases hlt2 : k2 < d.size - (p + 1)
            · obtain ⟨r, rfl⟩ : ∃ r, k2 = r + 1 := ⟨k2 - 1, by omega⟩
              have i1 : p + 1 + (r + 1) < dk.size := by omega
              have i0 : p + 1 + r < dk.size := by omega
              have iq : q < dk.size := by omega
              have heqv := Lib.hid (HK.out.drew.eqv HSL.out hBo HC.out i1 i0)
              have c1 := HK.out.cell (p + 1 + (r + 1)) i1
              have c0 := HK.out.cell (p + 1 + r) i0
              have hv1 := HCS.out.2.2.1 (p + 1 + (r + 1)) (by omega)
              have hv0 := HCS.out.2.2.1 (p + 1 + r) (by omega)
              rw [hv1, hv0] at heqv
              rw [hv1] at c1
              rw [hv0] at c0
              obtain ⟨x2, hx2⟩ : ∃ x, x = d[p + 1 + (r + 1)]! := ⟨_, rfl⟩
              obtain ⟨y2, hy2⟩ : ∃ y, y = d[p + 1 + r]! := ⟨_, rfl⟩
              rw [← hx2, ← hy2] at heqv
              rw [← hx2] at c1
              rw [← hy2] at c0
              have hw2 : IntKind.i64.wrap (r : Int) = r := by rw [IntKind.wrap_i64]; omega
              have ht2 : ((r : Int) + 1).toNat = r + 1 := by omega
              have pa2 : (0 : Int) ≤ (r : Int) + 1 := by omega
              have ba2 : (r : Int) + 1 < ((d.size - (p + 1) : Nat) : Int) := by omega
              have pc2 : (0 : Int) ≤ (r : Int) := by omega
              have bc2 : (r : Int) < ((d.size - (p + 1) : Nat) : Int) := by omega
              have HX2 := Lib.hid hx2
              have HY2 := Lib.hid hy2
              clear hx2 hy2 hv1 hv0
              go_wp2_with fail
              go_still_tail 10, (by kernel_rfl)
              go_wp2_with fail
              refine heqv.out.mono ?_
              rintro e w2 ⟨rfl, hb2⟩
              have HK2 := Lib.hid (HK.out.drew.next hb2)
              clear hb2 heqv c1 c0 HK
              cases hq2 : eqAt l x2 y2 with
              | true =>
                have hn := Lib.hid (HCS.out.skip (by omega) (by rw [← HX2.out]; exact (by have := HY2.out; rw [show p + 1 + (r + 1) - 1 = p + 1 + r by omega, ← this]; exact hq2)))
                clear hq2 HCS
                go_wp2_with fail
                go_roundw
                case rel => exact ⟨q, r + 1 + 1, dk, rfl, by go_num, by omega, by omega, hn, HK2⟩
                case measure => simp [intOf]; omega
              | false =>
                have hn := HCS.out.put (by omega) (by rw [← HX2.out]; exact (by have := HY2.out; rw [show p + 1 + (r + 1) - 1 = p + 1 + r by omega, ← this]; exact hq2))
                have hk := HK2.out.cell (p + 1 + (r + 1)) i1
                rw [HCS.out.2.2.1 (p + 1 + (r + 1)) (by omega)] at hk
                rw [← HX2.out] at hk hn
                have HN := Lib.hid hn
                have cq := HK2.out.cell q iq
                have fq := HK2.out.free q iq
                have hrg := HK2.out.rng (p + 1 + (r + 1)) i1
                rw [HCS.out.2.2.1 (p + 1 + (r + 1)) (by omega), ← HX2.out] at hrg
                have HS2 := Lib.hid (HK2.out.set iq x2 hrg)
                have pq : (0 : Int) ≤ (q : Int) := by omega
                have bq : (q : Int) < (d.size : Int) := by omega
                clear hq2 HCS hn hrg HK2
                go_wp2_with fail
                go_roundw
                case rel => exact ⟨q + 1, r + 1 + 1, _, by go_num, by go_num, by omega, by omega, HN, HS2⟩
                case measure => simp [intOf]; omega
            · have hk2e : p + 1 + k2 = d.size := by omega
              have hcs := HCS.out
              rw [CSt, hk2e] at hcs
              obtain ⟨_, _, _, hlen, hget⟩ := hcs
              have HGET := Lib.hid hget
              have HLEN := Lib.hid hlen
              have HK2E := Lib.hid hk2e
              have hqn : q < d.size := by omega
              have hcl : ∀ ty, (Builtin.clear_ #[59] ty #[.slice (some ⟨b, q, none⟩) (d.size - q) (cap - q)]).run Try.prog wr = .ok (.tuple #[]) (wr.setCells b q (List.replicate (d.size - q) (.int .i64 0))) := fun ty =>
                Lib.run_clear_slice wr 59 3 ty (.int .i64 0) Try.underlying59 Try.zeroInt rfl rfl b q (d.size - q) (cap - q) (by omega)
                  (fun j hj => by rw [HK.out.cell (q + j) (by omega)]; rfl) (fun j hj => HK.out.free (q + j) (by omega))
              have pq : (0 : Int) ≤ (q : Int) := by omega
              have bq : (q : Int) < (d.size : Int) := by omega
              clear hlen hget hk2e HCS
              go_wp2_with fail
              go_ret
              refine ⟨_, rfl, ?_, below_cells HK.out.hb _ _ _ HK.out.below⟩
              rw [← HLEN.out]
              refine ⟨_, cap, rfl, by rw [HLEN.out]; omega, by rw [HLEN.out]; omega, ?_⟩
              by_cases h0 : keepsN l d d.size = []
              · exact .inl h0
              · have hp := List.length_pos_iff.2 h0
                refine .inr ⟨b, 0, rfl, ?_, fun i hi => ?_⟩
                · have := HK.out.lt (i := 0) (by omega)
                  rw [size_cells]; exact this
                · rw [Nat.zero_add, World.cell?_setCells_out b _ _ _ _ (fun _ _ => .inl hi), HK.out.cell i (by rw [HLEN.out] at hi; omega), HGET.out i hi]
      · obtain rfl : k = d.size := by omega
        have hk := Lib.hid (keepsN_all hall.out)
        clear hall
        go_wp2_with fail
        go_ret
        refine ⟨_, rfl, ?_, HR.out.below⟩
        have hl : (keepsN l d d.size).length = d.size := by rw [hk.out]; simp
        have := ints_of_row (cap := cap) HR.out (ks := keepsN l d d.size) (by omega) hsz (by omega) (fun i hi => by
          rw [List.getElem_of_eq hk.out]
          simp)
        rwa [hl] at this
end Go.Proofs.Ytpiflkgjmncijaa
