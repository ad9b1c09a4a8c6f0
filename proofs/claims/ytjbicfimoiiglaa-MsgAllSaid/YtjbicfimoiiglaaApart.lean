/-
  The program's copy of a term.
-/
import Derived.Test.YtjbicfimoiiglaaRen
namespace Go.Proofs.Ytjbicfimoiiglaa
open Go.RowKit

def CopyPost (t : Tm) (w : World) (e : Ending) (w' : World) : Prop :=
  ∃ sv', e = .returned (.agg #[.int .i64 t.kind, .string t.name, .int .i64 t.n, sv']) ∧ Tm.innP w' (fun b => w.heap.size ≤ b ∧ b < w'.heap.size) t sv' ∧ Below w.heap.size w w'

set_option maxRecDepth 100000 in
set_option maxHeartbeats 2000000 in
theorem apart_any : ∀ (t : Tm) (w : World) (B : Nat) (sv : Value), B ≤ w.heap.size → Tm.inn w B t sv →
    Calls Try.prog 56 #[.agg #[.int .i64 t.kind, .string t.name, .int .i64 t.n, sv]] w fun e w' => CopyPost t w e w' := by
  refine Tm.ind fun k s n l ih w B sv hB hin => ?_
  obtain ⟨⟨hk, hss, hn⟩, hsl⟩ := Tm.inn_mk.1 hin
  have hsl0 := hsl
  obtain ⟨g, cap, rfl, hcap, hlen, _⟩ := hsl0
  have hHead : (Lit.int .i64 k).wf = true ∧ s.size ≤ maxLen ∧ (Lit.int .i64 n).wf = true := ⟨hk, hss, hn⟩
  have HHead := Lib.hid hHead
  have HSL := Lib.hid hsl
  have HIH := Lib.hid ih
  simp only [Tm.kind, Tm.name, Tm.n]
  clear hin hsl ih hk hss hn hHead
  obtain ⟨i0, hi, hz0, hz1, hz2⟩ := info_parts Try.infoTm
  go_enter Try.func56, Try.ntmps56
  go_wp2_with fail
  go_loopw [3, 5, 9] (fun v _ i wr => ∃ k' : Nat, k' ≤ l.length ∧ i = .int .i64 k' ∧ Hid (∃ xs, wr.ownsRow (w.heap.size + 2) 24 4 v k' xs ∧ Tm.cellsP wr (okRow (w.heap.size + 2) wr v) (l.take k') xs) ∧ Below w.heap.size w wr ∧ w.heap.size + 2 ≤ wr.heap.size ∧
      wr.heap[w.heap.size]? = some (Obj.cells #[.int .i64 k, .string s, .int .i64 n, .slice g l.length cap] 24 (0, 0)) ∧ wr.heap[w.heap.size + 1]? = some (Obj.cells #[.int .i64 0, .string ⟨#[]⟩, .int .i64 0, .slice none 0 0] 24 (0, 0))) (fun _ _ i _ => l.length - (intOf i).toNat)
  case atStart =>
    exact ⟨0, Nat.zero_le _, rfl, ⟨[], World.ownsRow_nil _ _ _ _, by simp [Tm.cellsP]⟩, ((Below.refl _ _).alloc (Nat.le_refl _) _).alloc (by simp) _, by simp, (Below.heap_alloc _ _ _ (by simp)).trans (newBlk _ _ _ rfl), newBlk _ _ _ (by simp)⟩
  case round =>
    obtain ⟨k', hk', rfl, hrow, hb, hbs, hbox, hres⟩ := hrel
    have HROW := Lib.hid hrow.out
    have HB := Lib.hid hb
    have HBOX := Lib.hid hbox
    have HRES := Lib.hid hres
    by_cases hlt : k' < l.length
    · obtain ⟨b, off, sv, rfl, hbB, g0, g1, g2, g3, hin'⟩ := Tm.sliceIn_get (Tm.sliceIn_below HSL.out hb hB) k' hlt
      obtain ⟨_, ga, capa, rfl, _, _, _⟩ := Tm.inn_iff.1 hin'
      have HIN := Lib.hid hin'
      have hih := Lib.hid (HIH.out l[k'] (List.getElem_mem hlt))
      have HM := Lib.hid (List.take_succ_eq_append_getElem hlt)
      clear hin' hrow hb hbox hres
      go_wp2_with fail
      refine (hih.out _ B _ (by simp; omega) (Tm.inn_below HIN.out (n₀ := wr.heap.size) ((Below.refl _ _).alloc (Nat.le_refl _) _) (by omega))).mono ?_
      rintro e w2 ⟨sv', rfl, hp, hb2⟩
      obtain ⟨_, ga', capa', rfl, hc2, hl2, _⟩ := Tm.innP_iff.1 hp
      have hb2' : Below wr.heap.size wr w2 := ((Below.refl _ _).alloc (Nat.le_refl _) _).trans (hb2.mono (by simp))
      have HP := Lib.hid (Tm.innP_same (ok' := fun b => wr.heap.size ≤ b ∧ b < w2.heap.size) (fun b hb' => ⟨by have := hb'.1; simp at this; omega, hb'.2⟩) (fun _ _ _ _ h => h) _ _ hp)
      have HB2 := Lib.hid hb2'
      have hsz2 := hb2'.size
      obtain ⟨xs, hown, hcells⟩ := HROW.out
      have HOWN := Lib.hid hown
      have HCELLS := Lib.hid hcells
      have hown2 := Lib.hid (ownsRow_below hown hb2')
      clear hp hb2 hb2' hown hcells hih
      go_wp2_with (at_builtin; refine wpList_append_sep _ rfl _ _ 22 rfl (w.heap.size + 2) 24 i0 _ 4 56 Try.underlying22 hi hz0 hz1 hz2 rfl (by decide) u3 k' xs rfl (hown2.out.alloc _) ⟨w2.heap.size, 0, none⟩ 1 1 [.int .i64 l[k'].kind, .string l[k'].name, .int .i64 l[k'].n, .slice ga' l[k'].args.length capa'] rfl (by decide) rfl news4 one4 (by unfold maxLen; omega) (by omega) (by simp; omega) ?_; intro v' w3 hown3 hgrow hsep)
      go_roundw
      case rel =>
        have hne : ∀ j, j < w.heap.size + 2 → u3.ownBlock ≠ some j := fun j hj e => by have := (HOWN.out.lt j e).1; omega
        refine ⟨k' + 1, by omega, by go_num, ⟨_, hown3, ?_⟩, ((HB.out.trans (HB2.out.mono (by omega))).alloc (by omega) _).grown hgrow (by simp; omega) (fun j e => by have := (HOWN.out.lt j e).1; omega), by have := hgrow.size; simp at this; omega, blk_step HB2.out hgrow HBOX.out (hne _ (by omega)), blk_step HB2.out hgrow HRES.out (hne _ (by omega))⟩
        rw [HM.out]
        exact row_step HOWN.out HCELLS.out HB2.out (by omega) HP.out hgrow hsep
      case measure => simp [intOf]; omega
    · obtain rfl : k' = l.length := by omega
      obtain ⟨xs, hown, hcells⟩ := HROW.out
      obtain ⟨gv, cv, rfl⟩ := owns_slice hown
      obtain ⟨⟨b0, b1, b2, b3⟩, d0, d1, d2, d3⟩ := row4 hbox
      obtain ⟨⟨c0, c1, c2, c3⟩, f0, f1, f2, f3⟩ := row4 hres
      rw [List.take_length] at hcells
      have HOWN := Lib.hid hown
      have HCELLS := Lib.hid hcells
      clear hown hcells hrow hbox hres hb HROW
      go_wp2_with fail
      refine bodyPost_ret (v := .agg #[.int .i64 k, .string s, .int .i64 n, .slice gv l.length cv]) (by simp [results, Try.results56, go_sem, c0, c1, c2, c3]) rfl ?_
      refine ⟨.slice gv l.length cv, rfl, ?_, ?_⟩
      · rw [Tm.innP_mk]
        refine ⟨HHead.out, sliceP_done (wr := wr) (lo := w.heap.size + 2) (xs := xs) HOWN.out HCELLS.out (by omega) (by omega) (by simp) fun k hk _ => ?_⟩
        exact (set4_other _ _ _ _ _ _ k (by omega)).trans (Below.heap_setCell _ _ _ _ (by simp; omega))
      · exact ((((HB.out.setCell (p := ⟨w.heap.size, 3, none⟩) (by simp) _).setCell (p := ⟨w.heap.size + 1, 0, none⟩) (by simp) _).setCell (p := ⟨w.heap.size + 1, 1, none⟩) (by simp) _).setCell (p := ⟨w.heap.size + 1, 2, none⟩) (by simp) _).setCell (p := ⟨w.heap.size + 1, 3, none⟩) (by simp) _
end Go.Proofs.Ytjbicfimoiiglaa
