/-
  The program's copy of a term with other variables: for each of the two functions that it is called with.
-/
import Derived.Test.YtilfglcjcmpfeaaGreatDoorTmP
import Derived.Test.YtilfglcjcmpfeaaGreatDoorChecked
import Derived.Lib.Hide
namespace Go.Proofs.YtilfglcjcmpfeaaGreatDoor
open Go.RowKit

namespace Tm
mutual
/-- A term whose variables are others; a Var has its number alone. -/
def ren (f : Int → Int) : Tm → Tm
  | .mk k s n l => if k = 1 then .mk 1 ⟨#[]⟩ (f n) [] else .mk k s n (rens f l)
def rens (f : Int → Int) : List Tm → List Tm
  | [] => []
  | t :: r => t.ren f :: rens f r
end
theorem rens_map (f : Int → Int) (l : List Tm) : rens f l = l.map (ren f) := by
  induction l with
  | nil => simp [rens]
  | cons t r ih => simp [rens, ih]
theorem rens_length (f : Int → Int) (l : List Tm) : (rens f l).length = l.length := by simp [rens_map]
theorem rens_take_succ (f : Int → Int) (l : List Tm) (k : Nat) (h : k < l.length) : rens f (l.take (k + 1)) = rens f (l.take k) ++ [l[k].ren f] := by
  rw [rens_map, rens_map, List.take_succ_eq_append_getElem h, List.map_append]; rfl
end Tm

theorem Tryz.infoTm : (Tryz.prog.info? 33).map (fun i => (i.zero, i.size, i.bytes)) = some (some (.agg #[.int .i64 0, .string ⟨#[]⟩, .int .i64 0, .slice none 0 0]), 4, 56) := by kernel_rfl

theorem one4 {k n : Int} {s : ByteArray} {g : Option Addr} {m c : Nat} : ∀ u ∈ [Value.int .i64 k, .string s, .int .i64 n, .slice g m c], u.oneCell' = true := by
  intro u hu
  simp at hu
  rcases hu with rfl | rfl | rfl | rfl <;> rfl

/-- What a copy is. -/
def RenPost (f : Int → Int) (t : Tm) (w : World) (e : Ending) (w' : World) : Prop :=
  ∃ sv', e = .returned (.agg #[.int .i64 (t.ren f).kind, .string (t.ren f).name, .int .i64 (t.ren f).n, sv']) ∧ Tm.innP w' (fun b => w.heap.size ≤ b ∧ b < w'.heap.size) (t.ren f) sv' ∧ Below w.heap.size w w'

/-- A block's first four cells. -/
theorem news4 {w : World} {a b c d : Value} {t : TypeId} : ∀ (j : Nat) (u : Value), [a, b, c, d][j]? = some u → (w.alloc (.cells #[a, b, c, d] t)).cell? ((⟨w.heap.size, 0, none⟩ : Addr).add j) = some u := by
  intro j u hj
  rw [Addr.add_lit]
  simp only [Nat.zero_add]
  rw [World.cell?_alloc_new]
  simpa using hj

set_option maxRecDepth 100000 in
set_option maxHeartbeats 2000000 in
theorem rename_number (To : World → Prop) (hTo : ∀ w w', To w → Below w.heap.size w w' → To w') (cap0 : Value) (f : Int → Int) (hf : ∀ v, (Lit.int .i64 (f v)).wf = true)
    (hcall : ∀ (v : Int) (w : World), To w → (Lit.int .i64 v).wf = true → Calls Tryz.prog 24 #[.int .i64 v, cap0] w fun e w' => e = .returned (.int .i64 (f v)) ∧ Below w.heap.size w w') :
    ∀ (t : Tm) (w : World) (B : Nat) (sv : Value), To w → B ≤ w.heap.size → Tm.inn w B t sv →
    Calls Tryz.prog 23 #[.agg #[.int .i64 t.kind, .string t.name, .int .i64 t.n, sv], .func (.func 24) #[] #[cap0]] w fun e w' =>
      RenPost f t w e w' := by
  refine Tm.ind fun k s n l ih w B sv hT hB hin => ?_
  obtain ⟨⟨hk, hss, hn⟩, hsl⟩ := Tm.inn_mk.1 hin
  have hsl0 := hsl
  obtain ⟨g, cap, rfl, hcap, hlen, _⟩ := hsl0
  have hHead : (Lit.int .i64 k).wf = true ∧ s.size ≤ maxLen ∧ (Lit.int .i64 n).wf = true := ⟨hk, hss, hn⟩
  have HHead := Lib.hid hHead
  have HSL := Lib.hid hsl
  have HIH := Lib.hid ih
  have HTo := Lib.hid hTo
  have HC := Lib.hid hcall
  have HT := Lib.hid hT
  have HF := Lib.hid hf
  simp only [Tm.kind, Tm.name, Tm.n]
  clear hin hsl ih hTo hcall hT hk hss hn hf hHead
  by_cases hk1 : k = 1
  · subst hk1
    have hr : Tm.ren f (.mk 1 s n l) = .mk 1 ⟨#[]⟩ (f n) [] := by simp [Tm.ren]
    have HR := Lib.hid hr
    clear hr
    go_enter Tryz.func23, Tryz.ntmps23
    go_wp2_with fail
    have hb0 : Below w.heap.size w ((w.alloc (.cells #[.int .i64 1, .string s, .int .i64 n, .slice g l.length cap] 33)).alloc (.cells #[.int .i64 0, .string ⟨#[]⟩, .int .i64 0, .slice none 0 0] 33)) := ((Below.refl _ _).alloc (Nat.le_refl _) _).alloc (by simp) _
    refine (HC.out n _ (HTo.out _ _ HT.out hb0) HHead.out.2.2).mono ?_
    rintro e w1 ⟨rfl, hb1⟩
    have hs1 : w.heap.size + 1 < w1.heap.size := by have := hb1.size; simp at this; omega
    have r0 : w1.heap[w.heap.size + 1]? = some (Obj.cells #[.int .i64 0, .string ⟨#[]⟩, .int .i64 0, .slice none 0 0] 33 (0, 0)) := (hb1.block _ (by simp)).trans (newBlk _ _ _ (by simp))
    obtain ⟨⟨c0, c1, c2, c3⟩, f0, f1, f2, f3⟩ := row4 r0
    have HB1 := Lib.hid (hb0.trans (hb1.mono (by simp; omega)))
    clear hb0 hb1 r0
    go_wp2_with fail
    refine bodyPost_ret (v := .agg #[.int .i64 1, .string ⟨#[]⟩, .int .i64 (f n), .slice none 0 0]) (by simp [results, Tryz.results23, go_sem, c0, c1, c2, c3]) rfl ?_
    refine ⟨.slice none 0 0, by rw [HR.out]; rfl, by rw [HR.out, Tm.innP_mk]; exact ⟨⟨by decide, Nat.zero_le _, HF.out _⟩, none, 0, rfl, Nat.le_refl _, by simp, .inl rfl⟩, ?_⟩
    exact (((HB1.out.setCell (p := ⟨w.heap.size + 1, 0, none⟩) (by simp) _).setCell (p := ⟨w.heap.size + 1, 1, none⟩) (by simp) _).setCell (p := ⟨w.heap.size + 1, 2, none⟩) (by simp) _).setCell (p := ⟨w.heap.size + 1, 3, none⟩) (by simp) _
  · have hk1b : (k == 1) = false := by simpa using hk1
    have hr : Tm.ren f (.mk k s n l) = .mk k s n (Tm.rens f l) := by simp [Tm.ren, hk1]
    have HR := Lib.hid hr
    clear hr
    obtain ⟨i0, hi, hz0, hz1, hz2⟩ := info_parts Tryz.infoTm
    go_enter Tryz.func23, Tryz.ntmps23
    go_wp2_with fail
    go_loopw [5, 7, 19] (fun v _ i wr => ∃ k' : Nat, k' ≤ l.length ∧ i = .int .i64 k' ∧ Hid (∃ xs, wr.ownsRow (w.heap.size + 2) 33 4 v k' xs ∧ Tm.cellsP wr (okRow (w.heap.size + 2) wr v) (Tm.rens f (l.take k')) xs) ∧ Below w.heap.size w wr ∧ w.heap.size + 2 ≤ wr.heap.size ∧
        wr.heap[w.heap.size]? = some (Obj.cells #[.int .i64 k, .string s, .int .i64 n, .slice g l.length cap] 33 (0, 0)) ∧ wr.heap[w.heap.size + 1]? = some (Obj.cells #[.int .i64 0, .string ⟨#[]⟩, .int .i64 0, .slice none 0 0] 33 (0, 0))) (fun _ _ i _ => l.length - (intOf i).toNat)
    case atStart =>
      exact ⟨0, Nat.zero_le _, rfl, ⟨[], World.ownsRow_nil _ _ _ _, by simp [Tm.rens, Tm.cellsP]⟩, ((Below.refl _ _).alloc (Nat.le_refl _) _).alloc (by simp) _, by simp, (Below.heap_alloc _ _ _ (by simp)).trans (newBlk _ _ _ rfl), newBlk _ _ _ (by simp)⟩
    case round =>
      obtain ⟨k', hk', rfl, hrow, hb, hbs, hbox, hres⟩ := hrel
      have HROW := Lib.hid hrow.out
      have HB := Lib.hid hb
      have HBOX := Lib.hid hbox
      have HRES := Lib.hid hres
      by_cases hlt : k' < l.length
      · obtain ⟨b, off, sv, rfl, hbB, g0, g1, g2, g3, hin'⟩ := Tm.sliceIn_get (Tm.sliceIn_below HSL.out hb hB) k' hlt
        obtain ⟨_, ga, capa, rfl, _, _, _⟩ := Tm.inn_iff.1 hin'
        have HIN := Lib.hid hin'
        have hih := Lib.hid (HIH.out l[k'] (List.getElem_mem hlt))
        have HM := Lib.hid (Tm.rens_take_succ f l k' hlt)
        clear hin' hrow hb hbox hres
        go_wp2_with fail
        refine (hih.out _ B _ (HTo.out w _ HT.out (HB.out.alloc (by omega) _)) (by simp; omega) (Tm.inn_below HIN.out (n₀ := wr.heap.size) ((Below.refl _ _).alloc (Nat.le_refl _) _) (by omega))).mono ?_
        rintro e w2 ⟨sv', rfl, hp, hb2⟩
        obtain ⟨_, ga', capa', rfl, hc2, hl2, _⟩ := Tm.innP_iff.1 hp
        have hb2' : Below wr.heap.size wr w2 := ((Below.refl _ _).alloc (Nat.le_refl _) _).trans (hb2.mono (by simp))
        have HP := Lib.hid (Tm.innP_same (ok' := fun b => wr.heap.size ≤ b ∧ b < w2.heap.size) (fun b hb' => ⟨by have := hb'.1; simp at this; omega, hb'.2⟩) (fun _ _ _ _ h => h) _ _ hp)
        have HB2 := Lib.hid hb2'
        have hsz2 := hb2'.size
        obtain ⟨xs, hown, hcells⟩ := HROW.out
        have HOWN := Lib.hid hown
        have HCELLS := Lib.hid hcells
        have hown2 := Lib.hid (ownsRow_below hown hb2')
        clear hp hb2 hb2' hown hcells hih
        go_wp2_with (at_builtin; refine wpList_append_sep _ rfl _ _ 31 rfl (w.heap.size + 2) 33 i0 _ 4 56 Tryz.underlying31 hi hz0 hz1 hz2 rfl (by decide) u5 k' xs rfl (hown2.out.alloc _) ⟨w2.heap.size, 0, none⟩ 1 1 [.int .i64 (l[k'].ren f).kind, .string (l[k'].ren f).name, .int .i64 (l[k'].ren f).n, .slice ga' (l[k'].ren f).args.length capa'] rfl (by decide) rfl news4 one4 (by unfold maxLen; omega) (by omega) (by simp; omega) ?_; intro v' w3 hown3 hgrow hsep)
        go_roundw
        case rel =>
          have hne : ∀ j, j < w.heap.size + 2 → u5.ownBlock ≠ some j := fun j hj e => by have := (HOWN.out.lt j e).1; omega
          refine ⟨k' + 1, by omega, by go_num, ⟨_, hown3, ?_⟩, ((HB.out.trans (HB2.out.mono (by omega))).alloc (by omega) _).grown hgrow (by simp; omega) (fun j e => by have := (HOWN.out.lt j e).1; omega), by have := hgrow.size; simp at this; omega, blk_step HB2.out hgrow HBOX.out (hne _ (by omega)), blk_step HB2.out hgrow HRES.out (hne _ (by omega))⟩
          rw [HM.out]
          exact row_step HOWN.out HCELLS.out HB2.out (by omega) HP.out hgrow hsep
        case measure => simp [intOf]; omega
      · obtain rfl : k' = l.length := by omega
        obtain ⟨xs, hown, hcells⟩ := HROW.out
        obtain ⟨gv, cv, rfl⟩ := owns_slice hown
        obtain ⟨⟨b0, b1, b2, b3⟩, _⟩ := row4 hbox
        obtain ⟨⟨c0, c1, c2, c3⟩, f0, f1, f2, f3⟩ := row4 hres
        rw [List.take_length] at hcells
        have HOWN := Lib.hid hown
        have HCELLS := Lib.hid hcells
        clear hown hcells hrow hbox hres hb HROW
        go_wp2_with fail
        refine bodyPost_ret (v := .agg #[.int .i64 k, .string s, .int .i64 n, .slice gv l.length cv]) (by simp [results, Tryz.results23, go_sem, c0, c1, c2, c3]) rfl ?_
        refine ⟨.slice gv l.length cv, by rw [HR.out]; rfl, ?_, ?_⟩
        · rw [HR.out, Tm.innP_mk]
          have hll := Tm.rens_length f l
          refine ⟨HHead.out, sliceP_done (wr := wr) (lo := w.heap.size + 2) (xs := xs) (by rw [hll]; exact HOWN.out) HCELLS.out (by omega) (by omega) (by simp) fun k hk _ => ?_⟩
          exact set4_other _ _ _ _ _ _ k (by omega)
        · exact (((HB.out.setCell (p := ⟨w.heap.size + 1, 0, none⟩) (by simp) _).setCell (p := ⟨w.heap.size + 1, 1, none⟩) (by simp) _).setCell (p := ⟨w.heap.size + 1, 2, none⟩) (by simp) _).setCell (p := ⟨w.heap.size + 1, 3, none⟩) (by simp) _
end Go.Proofs.YtilfglcjcmpfeaaGreatDoor
