/-
  The program's span, over any function value that tells of characters.
-/
import Derived.Test.YtlildhacfimaaaaDoorLpB
import Derived.Shelf.RegionOpenPlain
import Derived.Lib.FieldsU
import Derived.BigCall
import Derived.Maps.AppendAt
namespace Go.Proofs.YtlildhacfimaaaaDoor
open Go.RowKit Go.Shelf

/-- Where characters of a sort end: 'a' is what the function keeps between its calls. -/
def spanD (ok nx : Bool → Int → Bool) (s : ByteArray) : Nat → Nat → Bool → Nat
  | 0, pos, _ => pos
  | f + 1, pos, a => if pos < s.size then (if ok a (Utf8.decode s pos).1 = true then spanD ok nx s f (pos + (Utf8.decode s pos).2) (nx a (Utf8.decode s pos).1) else pos) else pos
theorem wid_le (s : ByteArray) (pos : Nat) (hlt : pos < s.size) : pos + (Utf8.decode s pos).2 ≤ s.size := by
  have := Lib.decodeN_le_n' (s.size - pos) (s.get! pos).toNat (s.get! (pos + 1)).toNat (s.get! (pos + 2)).toNat (s.get! (pos + 3)).toNat (by omega)
  rw [← Lib.decode_at] at this
  omega
theorem spanD_le (ok nx : Bool → Int → Bool) (s : ByteArray) : ∀ (f pos : Nat) (a : Bool), pos ≤ s.size → pos ≤ spanD ok nx s f pos a ∧ spanD ok nx s f pos a ≤ s.size
  | 0, pos, a, h => ⟨Nat.le_refl _, h⟩
  | f + 1, pos, a, h => by
    unfold spanD
    by_cases h1 : pos < s.size
    · rw [if_pos h1]
      have h2 := wid_le s pos h1
      have h3 := spanD_le ok nx s f (pos + (Utf8.decode s pos).2) (nx a (Utf8.decode s pos).1) h2
      split
      · omega
      · omega
    · rw [if_neg h1]; omega
/-- What is asked of the function value: g with what it has captured. -/
structure Tells (g : Nat) (lb : Array Value) (m : Option Nat) (B : Nat) (St : Bool → World → Prop) (ok nx : Bool → Int → Bool) : Prop where
  enters : ∀ args w, (callFunc g args).run Tryd.prog w = .ok (.enter g args) w
  call : ∀ (a : Bool) (r : Int) (W : World), St a W → 0 ≤ r → r ≤ 1114111 → B ≤ W.heap.size → Calls Tryd.prog g (#[.int .i32 r] ++ lb) W fun e W' => e = .returned (.bool (ok a r)) ∧ St (nx a r) W' ∧ W.grownBy W' m
  keep : ∀ (a : Bool) (W W' : World), St a W → (∀ b, b < B → W'.heap[b]? = W.heap[b]?) → B ≤ W.heap.size → St a W'
  low : ∀ k, m = some k → k < B
theorem grown_iterAt {w wr : World} {m : Option Nat} {k : Nat} (h : w.grownBy wr m) (hk : w.heap.size ≤ k) (s : ByteArray) (pos : Nat) : w.grownBy (wr.iterAt k s pos) m :=
  ⟨h.os, h.tape, h.output, by rw [Lib.iterAt_size]; exact h.size, fun j hj hne => (Lib.iterAt_other wr k j s pos (by omega)).trans (h.block j hj hne)⟩
def SpanPost (w : World) (m : Option Nat) (n : Nat) (e : Ending) (w' : World) : Prop := e = .returned (.int .i64 (n : Nat)) ∧ w.grownBy w' m
theorem heap_iter_old (w : World) (s : ByteArray) (p b : Nat) (h : b < w.heap.size) : (w.iter s p).heap[b]? = w.heap[b]? := Below.heap_alloc w _ b h
set_option maxRecDepth 100000 in
set_option maxHeartbeats 4000000 in
theorem span_any {g : Nat} {lb : Array Value} {m : Option Nat} {St : Bool → World → Prop} {ok nx : Bool → Int → Bool} (s : ByteArray) (w : World) (a0 : Bool) (_hs : s.size ≤ 1000000) (hT : Tells g lb m w.heap.size St ok nx) (h0 : St a0 w) :
    Calls Tryd.prog 14 #[.string s, .func (.func g) #[] lb] w fun e w' => SpanPost w m (spanD ok nx s s.size 0 a0) e w' := by
  have eg := hT.enters
  obtain ⟨N, hN⟩ : ∃ N, spanD ok nx s s.size 0 a0 = N := ⟨_, rfl⟩
  rw [hN]
  have HN := Lib.hid hN
  have HT := Lib.hid hT
  have H0 := Lib.hid h0
  clear hT h0 hN
  go_enter Tryd.func14, Tryd.ntmps14
  go_wp2_with fail
  go_loopw [] (fun wr => ∃ (pos f : Nat) (a : Bool), Hid (St a wr ∧ wr.heap[w.heap.size]? = some (.stringIter s pos) ∧ w.grownBy wr m ∧ spanD ok nx s f pos a = N) ∧ s.size ≤ pos + f ∧ pos ≤ s.size) (fun wr => s.size - wr.iterPos w.heap.size)
  case atStart =>
    refine ⟨0, s.size, a0, Lib.hid ⟨?_, ?_, World.grownBy_alloc w _ _, HN.out⟩, by omega, Nat.zero_le _⟩
    · exact HT.out.keep _ _ _ H0.out (fun b hb => heap_iter_old w s 0 b hb) (Nat.le_refl _)
    · have := World.iter_heap w s 0
      simpa using this
  case round =>
    obtain ⟨pos, f, a, hR, hf, hps⟩ := hrel
    obtain ⟨hst, hit, hgr, hsp⟩ := hR.out
    clear hR
    have hsz : w.heap.size < wr.heap.size := (Array.getElem?_eq_some_iff.1 hit).1
    by_cases hp : pos < s.size
    · have hnx : ∀ ty, (Instr.next (.pointer (some ⟨w.heap.size, 0, none⟩)) true ty).run Tryd.prog wr = _ := fun ty => Lib.run_next_any_at wr w.heap.size s pos ty hit hp
      have hwd := Lib.width_pos s pos
      have hwn := wid_le s pos hp
      have hrl := Lib.rune_le s pos
      obtain ⟨f', rfl⟩ : ∃ f', f = f' + 1 := ⟨f - 1, by omega⟩
      unfold spanD at hsp
      rw [if_pos hp] at hsp
      generalize (Utf8.decode s pos).1 = R at hnx hrl hsp
      generalize (Utf8.decode s pos).2 = K at hnx hwd hwn hsp
      have hit2 := Lib.iterAt_heap wr w.heap.size s pos (pos + K) hit
      have hgr2 := grown_iterAt hgr (k := w.heap.size) (Nat.le_refl _) s (pos + K)
      have hst2 := HT.out.keep a wr (wr.iterAt w.heap.size s (pos + K)) hst (fun b hb => Lib.iterAt_other wr _ _ _ _ (by omega)) (by omega)
      have hmz : (wr.iterAt w.heap.size s (pos + K)).heap.size = wr.heap.size := Lib.iterAt_size _ _ _ _
      have hmv : wr.iterPos w.heap.size = pos := by simp only [World.iterPos, hit]
      have cS : Calls Tryd.prog g (#[.int .i32 (R : Int)] ++ lb) (wr.iterAt w.heap.size s (pos + K)) _ := HT.out.call a (R : Int) _ hst2 (by omega) (by omega) (by omega)
      have HMV := Lib.hid hmv
      generalize wr.iterAt w.heap.size s (pos + K) = W at hnx hit2 hgr2 hst2 hmz cS
      have HIT := Lib.hid hit2
      have HGR := Lib.hid hgr2
      have HSP := Lib.hid hsp
      have HMZ := Lib.hid hmz
      clear hit hgr hst hit2 hgr2 hst2 hsp hmz hmv
      cases hok : ok a (R : Int)
      · rw [hok] at cS
        have HOK := Lib.hid hok
        clear hok
        go_wp2_with fail
        refine cS.mono ?_
        rintro e W' ⟨rfl, hst3, hgr3⟩
        have HG3 := Lib.hid hgr3
        clear hgr3 hst3
        go_wp2_with fail
        have h1 := HSP.out
        rw [HOK.out] at h1
        simp only [Bool.false_eq_true, if_false] at h1
        have HX := Lib.hid h1
        clear h1
        go_ret
        exact ⟨by rw [← HX.out]; rfl, HGR.out.trans HG3.out⟩
      · rw [hok] at cS
        have HOK := Lib.hid hok
        clear hok
        go_wp2_with fail
        refine cS.mono ?_
        rintro e W' ⟨rfl, hst3, hgr3⟩
        have hit3 : W'.heap[w.heap.size]? = some (.stringIter s (pos + K)) := (hgr3.block w.heap.size (by have := HMZ.out; omega) (fun e => by have := HT.out.low _ e.symm; omega)).trans HIT.out
        have HIT3 := Lib.hid hit3
        have HG3 := Lib.hid hgr3
        have HST3 := Lib.hid hst3
        clear hgr3 hst3 hit3
        go_wp2_with fail
        go_roundw
        case rel =>
          refine ⟨pos + K, f', _, Lib.hid ⟨HST3.out, HIT3.out, HGR.out.trans HG3.out, ?_⟩, by omega, hwn⟩
          have h1 := HSP.out
          rw [HOK.out, if_pos rfl] at h1
          exact h1
        case measure =>
          rw [HMV.out]
          simp only [World.iterPos, HIT3.out]
          omega
    · have hnx : ∀ ty, (Instr.next (.pointer (some ⟨w.heap.size, 0, none⟩)) true ty).run Tryd.prog wr = _ := fun ty => Lib.run_next_end_at wr w.heap.size s pos ty hit hp
      have HGR := Lib.hid hgr
      have hq : spanD ok nx s f pos a = pos := by
        cases f with
        | zero => rfl
        | succ f => unfold spanD; rw [if_neg hp]
      have HSP := Lib.hid (hq.symm.trans hsp)
      clear hit hgr hst hsp hq
      go_wp2_with fail
      go_ret
      exact ⟨by rw [← HSP.out, show pos = s.size by omega]; rfl, HGR.out⟩
end Go.Proofs.YtlildhacfimaaaaDoor
