/-
  The program's quoted.
-/
import Derived.Test.YtlildhacfimaaaaDoorLpF
namespace Go.Proofs.YtlildhacfimaaaaDoor
open Go.RowKit

def PqPost (w : World) (l : List UInt8) (e : Ending) (w' : World) : Prop :=
  Below w.heap.size w w' ∧ ((((quoL (l.drop 1)).bind fun x => nameL 1 x.1 ((l.drop 1).drop x.2) (x.2 + 1)) = none ∧ e = .returned pnoTok) ∨ ∃ (t : Tk) (x : ByteArray) (k : Nat), ((quoL (l.drop 1)).bind fun x => nameL 1 x.1 ((l.drop 1).drop x.2) (x.2 + 1)) = some (t, k) ∧ bs x = t.text ∧ k ≤ l.length ∧ e = .returned (.tuple #[tokV t.kind x t.n 0 t.opn, .int .i64 (k : Nat)]))
/-- What lies in memory while a quoted Name is read: the result, and a builder that bears the bytes. -/
def QSt (w : World) (acc : List UInt8) (W : World) : Prop :=
  Lib.IsBuilder 60 5 (w.heap.size + 1) (w.heap.size + 1) (Lib.byteCells acc) W ∧ Below (w.heap.size + 1) (w.alloc tok0) W
theorem QSt.start (w : World) : QSt w [] ((w.alloc tok0).alloc (.cells #[.pointer none, .slice none 0 0] 60)) := by
  have h := Lib.fresh_isBuilder 60 5 (w.alloc tok0)
  rw [World.size_alloc] at h
  exact ⟨h, (Below.refl _ _).alloc (by rw [World.size_alloc]; exact Nat.le_refl _) _⟩
theorem QSt.size {w : World} {acc : List UInt8} {W : World} (h : QSt w acc W) : w.heap.size + 1 ≤ W.heap.size := by
  have := h.2.size
  rw [World.size_alloc] at this
  exact this
theorem QSt.pst {w : World} {acc : List UInt8} {W W' : World} (h : QSt w acc W) (hb : Below (w.heap.size + 1) W W') : PSt w W' := by
  have h1 : Below (w.alloc tok0).heap.size (w.alloc tok0) W' := by rw [World.size_alloc]; exact h.2.trans hb
  exact (pst0 w).next h1
theorem pwrite_any (w : World) (acc : List UInt8) (c : UInt8) (W : World) (h : QSt w acc W) (hl : acc.length ≤ 1000000) : Calls Tryd.prog 36 #[.pointer (some ⟨w.heap.size + 1, 0, none⟩), .int .u8 (c.toNat : Nat)] W fun e W' => e = .returned .nilIface ∧ QSt w (acc ++ [c]) W' :=
  (Tryd.Builder_WriteByte (w.heap.size + 1) (w.heap.size + 1) (Lib.byteCells acc) (c.toNat : Nat) W h.1 (by rw [Lib.byteCells_length]; omega) h.size).mono fun e W' ⟨he, h1, h2⟩ => ⟨he, by rw [QSt, Lib.byteCells_append]; exact ⟨.inr h1, h.2.trans h2⟩⟩
theorem pstring_any (w : World) (acc : List UInt8) (W : World) (h : QSt w acc W) : Calls Tryd.prog 35 #[.pointer (some ⟨w.heap.size + 1, 0, none⟩)] W fun e W' => e = .returned (.string ⟨acc.toArray⟩) ∧ Below (w.heap.size + 1) W W' :=
  Tryd.Builder_String_any (w.heap.size + 1) (w.heap.size + 1) acc W h.1 h.size
set_option maxRecDepth 100000 in
set_option maxHeartbeats 2000000 in
theorem pquoted_any (s : ByteArray) (w : World) (h0 : 0 < s.size) (hs : s.size ≤ 1000000) :
    Calls Tryd.prog 22 #[.string s] w fun e w' => PqPost w (bs s) e w' := by
  go_enter Tryd.func22, Tryd.ntmps22
  go_wp2_with fail
  go_loopw [5] (fun i wr => ∃ (q : Nat) (acc : List UInt8), 1 ≤ q ∧ q ≤ s.size ∧ acc.length ≤ q ∧ i = .int .i64 q ∧ Hid (QSt w acc wr) ∧ Hid (quoL ((bs s).drop 1) = (quoL ((bs s).drop q)).map fun x => (acc ++ x.1, x.2 + (q - 1)))) (fun i _ => s.size - (intOf i).toNat)
  case atStart =>
    refine ⟨1, [], Nat.le_refl _, h0, Nat.zero_le _, rfl, QSt.start w, Lib.hid ?_⟩
    cases quoL ((bs s).drop 1) <;> simp
  case round =>
    obtain ⟨q, acc, hq1, hq2, hal, rfl, hst, hqu⟩ := hrel
    have HST := Lib.hid hst.out
    have HQ := Lib.hid hqu.out
    clear hst hqu
    by_cases hlt : q < s.size
    · have hcons := pdrop_at s q hlt
      by_cases h1 : s[q].toNat < 32
      · have hn : quoL ((bs s).drop 1) = none := by rw [HQ.out, hcons, quoL_bad _ (.inl h1)]; rfl
        have HN := Lib.hid hn
        clear hn hcons
        obtain ⟨⟨c0, c1, c2, c3, c4⟩, f0, f1, f2, f3, f4⟩ := (HST.out.pst (Below.refl _ wr)).cells
        go_wp2_with fail
        refine bodyPost_ret (v := pnoTok) (by simp [results, pnoTok, Tryd.results22, go_sem, c0, c1, c2, c3, c4]) rfl ?_
        exact ⟨set5_below (HST.out.pst (Below.refl _ wr)).below _ _ _ _ _, .inl ⟨by rw [HN.out]; rfl, rfl⟩⟩
      by_cases h2 : 126 < s[q].toNat
      · have hn : quoL ((bs s).drop 1) = none := by rw [HQ.out, hcons, quoL_bad _ (.inr h2)]; rfl
        have h1' : 32 ≤ s[q].toNat := by omega
        have HN := Lib.hid hn
        clear hn hcons h1
        obtain ⟨⟨c0, c1, c2, c3, c4⟩, f0, f1, f2, f3, f4⟩ := (HST.out.pst (Below.refl _ wr)).cells
        go_wp2_with fail
        refine bodyPost_ret (v := pnoTok) (by simp [results, pnoTok, Tryd.results22, go_sem, c0, c1, c2, c3, c4]) rfl ?_
        exact ⟨set5_below (HST.out.pst (Below.refl _ wr)).below _ _ _ _ _, .inl ⟨by rw [HN.out]; rfl, rfl⟩⟩
      have h1' : 32 ≤ s[q].toNat := by omega
      have h2' : s[q].toNat ≤ 126 := by omega
      have HB := Lib.hid (show ¬ (s[q].toNat < 32 ∨ 126 < s[q].toNat) by omega)
      clear h1 h2
      by_cases h3 : s[q] = 39
      · have hb : ((s[q].toNat : Int) == 39) = true := by rw [h3]; rfl
        by_cases h4 : q + 1 < s.size
        · have hcons2 := pdrop_at s (q + 1) h4
          have hz1 : ((q : Int) + 1 == (s.size : Int)) = false := by rw [beq_eq_false_iff_ne]; omega
          by_cases h5 : s[q + 1] = 39
          · have hb2 : ((s[q + 1].toNat : Int) != 39) = false := by rw [h5]; rfl
            have HN := Lib.hid (show quoL ((bs s).drop 1) = (quoL ((bs s).drop (q + 2))).map fun x => ((acc ++ [s[q + 1]]) ++ x.1, x.2 + (q + 2 - 1)) by
              rw [HQ.out, hcons, h3, hcons2, h5, quoL_two]
              cases quoL ((bs s).drop (q + 2)) with
              | none => rfl
              | some x =>
                simp only [Option.map_some, List.append_assoc, List.cons_append, List.nil_append]
                rw [show x.2 + 2 + (q - 1) = x.2 + (q + 2 - 1) by omega])
            clear h3 h5 hcons hcons2
            go_wp2_with (go_at_call 36; (refine (pwrite_any w acc s[q + 1] _ HST.out (by omega)).mono ?_); rintro e W1 ⟨rfl, hst1⟩; have HST1 := Lib.hid hst1; clear hst1)
            go_roundw
            case rel => exact ⟨q + 2, acc ++ [s[q + 1]], by omega, by omega, by simp; omega, by go_num, HST1, HN⟩
            case measure => simp [intOf]; omega
          · have hb2 : ((s[q + 1].toNat : Int) != 39) = true := by
              have h6 : ((s[q + 1].toNat : Int) == 39) = false := peq_byte (n := 39) (by decide) h5
              rw [bne, h6]; rfl
            have HN := Lib.hid (show quoL ((bs s).drop 1) = some (acc, q) by
              rw [HQ.out, hcons, h3, quoL_end (by rw [hcons2]; simpa using h5)]
              simp only [Option.map_some, List.append_nil]
              rw [show 1 + (q - 1) = q by omega])
            have H := Lib.hid (fun u => pnamed_any 1 ⟨acc.toArray⟩ s (q + 1) u (by omega) hs)
            clear h3 h5 hcons hcons2
            by_cases h : 1 ≤ acc.length ∧ acc.length ≤ 20
            · have HM := Lib.hid (fun u => (H.out u).mono fun e w' (g : NmPost u (bs s) 1 ⟨acc.toArray⟩ (q + 1) e w') => (show Below u.heap.size u w' ∧ e = .returned (.tuple #[.agg #[.int .i64 1, .string ⟨acc.toArray⟩, .int .i64 0, .int .i64 0, .bool (opens ((bs s).drop (q + 1)))], .int .i64 ((q + 1 : Nat) : Int)]) from ⟨g.1, by
                rcases g.2 with g | g
                · exact absurd (show 1 ≤ acc.toArray.size ∧ acc.toArray.size ≤ 20 by simpa using h) g.1
                · exact g.2⟩))
              have HH := Lib.hid h
              clear h H
              have HC := Lib.hid (show ((q + 1 : Nat) : Int) = (q : Int) + 1 by omega)
              rw [HC.out] at HM
              go_wp2_with (first
                | (go_at_call 35; (refine (pstring_any w acc _ HST.out).mono ?_); rintro e W1 ⟨rfl, hb1⟩; have HB1 := Lib.hid hb1; clear hb1)
                | (go_at_call 33; (refine (HM.out _).mono ?_); rintro e W2 ⟨hb2, rfl⟩; have hst2 := HST.out.pst (HB1.out.trans (hb2.mono (by have := HST.out.size; have := HB1.out.size; omega))); obtain ⟨⟨c0, c1, c2, c3, c4⟩, f0, f1, f2, f3, f4⟩ := hst2.cells; have HB := Lib.hid hst2.below; clear hb2 hst2))
              refine bodyPost_ret (v := .tuple #[tokV 1 ⟨acc.toArray⟩ 0 0 (opens ((bs s).drop (q + 1))), .int .i64 ((q : Int) + 1)]) (by simp [results, tokV, Tryd.results22, go_sem, c0, c1, c2, c3, c4]) rfl ?_
              refine ⟨set5_below HB.out _ _ _ _ _, .inr ⟨⟨1, acc, 0, opens ((bs s).drop (q + 1))⟩, ⟨acc.toArray⟩, q + 1, ?_, by simp [bs], by rw [bs_length]; omega, rfl⟩⟩
              rw [HN.out, Option.bind_some, nameL, if_pos HH.out, List.drop_drop, show 1 + q = q + 1 by omega]
            · have HM := Lib.hid (fun u => (H.out u).mono fun e w' (g : NmPost u (bs s) 1 ⟨acc.toArray⟩ (q + 1) e w') => (show Below u.heap.size u w' ∧ e = .returned (.tuple #[.agg #[.int .i64 0, .string ⟨#[]⟩, .int .i64 0, .int .i64 0, .bool false], .int .i64 0]) from ⟨g.1, by
                rcases g.2 with g | g
                · exact g.2
                · exact absurd (show 1 ≤ acc.length ∧ acc.length ≤ 20 by have h9 : 1 ≤ acc.toArray.size ∧ acc.toArray.size ≤ 20 := g.1; simpa using h9) h⟩))
              have HH := Lib.hid h
              clear h H
              have HC := Lib.hid (show ((q + 1 : Nat) : Int) = (q : Int) + 1 by omega)
              rw [HC.out] at HM
              go_wp2_with (first
                | (go_at_call 35; (refine (pstring_any w acc _ HST.out).mono ?_); rintro e W1 ⟨rfl, hb1⟩; have HB1 := Lib.hid hb1; clear hb1)
                | (go_at_call 33; (refine (HM.out _).mono ?_); rintro e W2 ⟨hb2, rfl⟩; have hst2 := HST.out.pst (HB1.out.trans (hb2.mono (by have := HST.out.size; have := HB1.out.size; omega))); obtain ⟨⟨c0, c1, c2, c3, c4⟩, f0, f1, f2, f3, f4⟩ := hst2.cells; have HB := Lib.hid hst2.below; clear hb2 hst2))
              refine bodyPost_ret (v := pnoTok) (by simp [results, pnoTok, Tryd.results22, go_sem, c0, c1, c2, c3, c4]) rfl ?_
              refine ⟨set5_below HB.out _ _ _ _ _, .inl ⟨?_, rfl⟩⟩
              rw [HN.out, Option.bind_some, nameL, if_neg HH.out]
        · have hz1 : ((q : Int) + 1 == (s.size : Int)) = true := by rw [beq_iff_eq]; omega
          have HN := Lib.hid (show quoL ((bs s).drop 1) = some (acc, q) by
            rw [HQ.out, hcons, h3, quoL_end (by rw [List.drop_eq_nil_of_le (by rw [bs_length]; omega)]; simp)]
            simp only [Option.map_some, List.append_nil]
            rw [show 1 + (q - 1) = q by omega])
          have H := Lib.hid (fun u => pnamed_any 1 ⟨acc.toArray⟩ s (q + 1) u (by omega) hs)
          clear h3 hcons
          by_cases h : 1 ≤ acc.length ∧ acc.length ≤ 20
          · have HM := Lib.hid (fun u => (H.out u).mono fun e w' (g : NmPost u (bs s) 1 ⟨acc.toArray⟩ (q + 1) e w') => (show Below u.heap.size u w' ∧ e = .returned (.tuple #[.agg #[.int .i64 1, .string ⟨acc.toArray⟩, .int .i64 0, .int .i64 0, .bool (opens ((bs s).drop (q + 1)))], .int .i64 ((q + 1 : Nat) : Int)]) from ⟨g.1, by
              rcases g.2 with g | g
              · exact absurd (show 1 ≤ acc.toArray.size ∧ acc.toArray.size ≤ 20 by simpa using h) g.1
              · exact g.2⟩))
            have HH := Lib.hid h
            clear h H
            have HC := Lib.hid (show ((q + 1 : Nat) : Int) = (q : Int) + 1 by omega)
            rw [HC.out] at HM
            go_wp2_with (first
              | (go_at_call 35; (refine (pstring_any w acc _ HST.out).mono ?_); rintro e W1 ⟨rfl, hb1⟩; have HB1 := Lib.hid hb1; clear hb1)
              | (go_at_call 33; (refine (HM.out _).mono ?_); rintro e W2 ⟨hb2, rfl⟩; have hst2 := HST.out.pst (HB1.out.trans (hb2.mono (by have := HST.out.size; have := HB1.out.size; omega))); obtain ⟨⟨c0, c1, c2, c3, c4⟩, f0, f1, f2, f3, f4⟩ := hst2.cells; have HB := Lib.hid hst2.below; clear hb2 hst2))
            refine bodyPost_ret (v := .tuple #[tokV 1 ⟨acc.toArray⟩ 0 0 (opens ((bs s).drop (q + 1))), .int .i64 ((q : Int) + 1)]) (by simp [results, tokV, Tryd.results22, go_sem, c0, c1, c2, c3, c4]) rfl ?_
            refine ⟨set5_below HB.out _ _ _ _ _, .inr ⟨⟨1, acc, 0, opens ((bs s).drop (q + 1))⟩, ⟨acc.toArray⟩, q + 1, ?_, by simp [bs], by rw [bs_length]; omega, rfl⟩⟩
            rw [HN.out, Option.bind_some, nameL, if_pos HH.out, List.drop_drop, show 1 + q = q + 1 by omega]
          · have HM := Lib.hid (fun u => (H.out u).mono fun e w' (g : NmPost u (bs s) 1 ⟨acc.toArray⟩ (q + 1) e w') => (show Below u.heap.size u w' ∧ e = .returned (.tuple #[.agg #[.int .i64 0, .string ⟨#[]⟩, .int .i64 0, .int .i64 0, .bool false], .int .i64 0]) from ⟨g.1, by
              rcases g.2 with g | g
              · exact g.2
              · exact absurd (show 1 ≤ acc.length ∧ acc.length ≤ 20 by have h9 : 1 ≤ acc.toArray.size ∧ acc.toArray.size ≤ 20 := g.1; simpa using h9) h⟩))
            have HH := Lib.hid h
            clear h H
            have HC := Lib.hid (show ((q + 1 : Nat) : Int) = (q : Int) + 1 by omega)
            rw [HC.out] at HM
            go_wp2_with (first
              | (go_at_call 35; (refine (pstring_any w acc _ HST.out).mono ?_); rintro e W1 ⟨rfl, hb1⟩; have HB1 := Lib.hid hb1; clear hb1)
              | (go_at_call 33; (refine (HM.out _).mono ?_); rintro e W2 ⟨hb2, rfl⟩; have hst2 := HST.out.pst (HB1.out.trans (hb2.mono (by have := HST.out.size; have := HB1.out.size; omega))); obtain ⟨⟨c0, c1, c2, c3, c4⟩, f0, f1, f2, f3, f4⟩ := hst2.cells; have HB := Lib.hid hst2.below; clear hb2 hst2))
            refine bodyPost_ret (v := pnoTok) (by simp [results, pnoTok, Tryd.results22, go_sem, c0, c1, c2, c3, c4]) rfl ?_
            refine ⟨set5_below HB.out _ _ _ _ _, .inl ⟨?_, rfl⟩⟩
            rw [HN.out, Option.bind_some, nameL, if_neg HH.out]
      · have hb : ((s[q].toNat : Int) == 39) = false := peq_byte (n := 39) (by decide) h3
        have HN := Lib.hid (show quoL ((bs s).drop 1) = (quoL ((bs s).drop (q + 1))).map fun x => ((acc ++ [s[q]]) ++ x.1, x.2 + (q + 1 - 1)) by
          rw [HQ.out, hcons, quoL_one _ HB.out h3]
          cases quoL ((bs s).drop (q + 1)) with
          | none => rfl
          | some x =>
            simp only [Option.map_some, List.append_assoc, List.cons_append, List.nil_append]
            rw [show x.2 + 1 + (q - 1) = x.2 + (q + 1 - 1) by omega])
        clear h3 hcons
        go_wp2_with (go_at_call 36; (refine (pwrite_any w acc s[q] _ HST.out (by omega)).mono ?_); rintro e W1 ⟨rfl, hst1⟩; have HST1 := Lib.hid hst1; clear hst1)
        go_roundw
        case rel => exact ⟨q + 1, acc ++ [s[q]], by omega, by omega, by simp; omega, by go_num, HST1, HN⟩
        case measure => simp [intOf]; omega
    · obtain rfl : s.size = q := by omega
      have hn : quoL ((bs s).drop 1) = none := by
        rw [HQ.out, List.drop_eq_nil_of_le (by rw [bs_length]; exact Nat.le_refl _), quoL_nil]; rfl
      have HN := Lib.hid hn
      clear hn
      obtain ⟨⟨c0, c1, c2, c3, c4⟩, f0, f1, f2, f3, f4⟩ := (HST.out.pst (Below.refl _ wr)).cells
      go_wp2_with fail
      refine bodyPost_ret (v := pnoTok) (by simp [results, pnoTok, Tryd.results22, go_sem, c0, c1, c2, c3, c4]) rfl ?_
      exact ⟨set5_below (HST.out.pst (Below.refl _ wr)).below _ _ _ _ _, .inl ⟨by rw [HN.out]; rfl, rfl⟩⟩
end Go.Proofs.YtlildhacfimaaaaDoor
