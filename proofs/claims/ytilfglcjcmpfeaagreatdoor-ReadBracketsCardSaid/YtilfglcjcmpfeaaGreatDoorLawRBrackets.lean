/-
  ReadBrackets' body.
-/
import Derived.Test.YtilfglcjcmpfeaaGreatDoorChR
import Derived.Test.YtilfglcjcmpfeaaGreatDoorBrk
namespace Go.Proofs.YtilfglcjcmpfeaaGreatDoor
open Go.RowKit

theorem oneP_any (s : ByteArray) (w : World) (hr : Rng w) (hs : s.size ≤ 1000000) : Calls Tryz.prog 12 #[.string s] w fun e w' => (∃ k nm n g m c gn mn cn b cd, e = .returned (.tuple #[.agg #[.int .i64 k, .string nm, .int .i64 n, .slice g m c, .slice gn mn cn], .int .i64 (b : Nat), .int .i64 (cd : Nat)])) ∧ Below w.heap.size w w' :=
  (one_p s w hr hs).mono fun e w' hp => by
    obtain ⟨hb, k, nm, n, g, m, c, gn, mn, cn, b, cd, rfl, _⟩ := hp
    exact ⟨⟨k, nm, n, g, m, c, gn, mn, cn, b, cd, rfl⟩, hb⟩
theorem sz_2 (s : ByteArray) (h : s.size ≤ 900) : (s ++ ⟨#[32, 46]⟩).size ≤ 1000000 := by
  rw [ByteArray.size_append]
  have : (⟨#[32, 46]⟩ : ByteArray).size = 2 := rfl
  omega
theorem sz_3 (s : ByteArray) (h : s.size ≤ 900) : (⟨#[40]⟩ ++ s ++ ⟨#[10, 41, 32, 46]⟩).size ≤ 1000000 := by
  rw [ByteArray.size_append, ByteArray.size_append]
  have : (⟨#[40]⟩ : ByteArray).size = 1 := rfl
  have : (⟨#[10, 41, 32, 46]⟩ : ByteArray).size = 4 := rfl
  omega
theorem bs_2 (s : ByteArray) : bs (s ++ ⟨#[32, 46]⟩) = bs s ++ [32, 46] := by rw [bs_append]; simp [bs]
theorem bs_3 (s : ByteArray) : bs (⟨#[40]⟩ ++ s ++ ⟨#[10, 41, 32, 46]⟩) = 40 :: (bs s ++ [10, 41, 32, 46]) := by rw [bs_append, bs_append]; simp [bs]
set_option maxRecDepth 100000 in
set_option maxHeartbeats 8000000 in
theorem rbr_a (s : ByteArray) (w : World) (hr : Rng w) (hs : s.size ≤ 900) {t : Tm} {ns : Names} (h : oneE (bs s) = .ok (t, ns)) :
    Calls Tryz.prog 5 #[.string s] w fun e w' => e = .returned (.bool true) ∧ Below w.heap.size w w' := by
  have H1 := Lib.hid (fun u hr => oneP_ok (w := u) hr (by omega) h)
  have H2 := Lib.hid (fun u hr => oneP_any (s ++ ⟨#[32, 46]⟩) u hr (sz_2 s hs))
  have HK := Lib.hid (fun u h => rknows_any u h)
  have HB := Lib.hid (Below.refl w.heap.size w)
  have HR := Lib.hid hr
  clear hr
  clear h
  go_enter Tryz.func5, Tryz.ntmps5
  go_wp2_with (first
    | (go_at_call 12; (with_reducible refine (H1.out _ HR.out).mono ?_); rintro e w1 ⟨⟨g1, c1, gn1, cn1, rfl, -, -⟩, hb⟩; have hb := hb.trans (((Below.refl w1.heap.size w1).alloc (Nat.le_refl _) (.cells #[.int .i64 t.kind, .string t.name, .int .i64 t.n, .slice g1 t.args.length c1, .slice gn1 ns.length cn1] 36)).mono hb.size); have HB := Lib.hid (HB.out.trans (hb.mono HB.out.size)); have HR := Lib.hid (HR.out.next hb); clear hb)
    | (go_at_call 12; refine (H2.out _ HR.out).mono ?_; rintro e w2 ⟨⟨k2, nm2, n2, g2, m2, c2, gn2, mn2, cn2, p2, q2, rfl⟩, hb⟩; have hb := hb.trans (((Below.refl w2.heap.size w2).alloc (Nat.le_refl _) (.cells #[.int .i64 k2, .string nm2, .int .i64 n2, .slice g2 m2 c2, .slice gn2 mn2 cn2] 36)).mono hb.size); have HB := Lib.hid (HB.out.trans (hb.mono HB.out.size)); have HR := Lib.hid (HR.out.next hb); clear hb)
    | (go_at_call 7; (with_reducible refine (HK.out _ HR.out).mono ?_); rintro e w4 ⟨rfl, hb4⟩; have HB := Lib.hid (HB.out.trans (hb4.mono HB.out.size)); have HR := Lib.hid (HR.out.next hb4); clear hb4))
  go_ret
  exact ⟨rfl, HB.out⟩
set_option maxRecDepth 100000 in
set_option maxHeartbeats 8000000 in
theorem rbr_b (s : ByteArray) (w : World) (hr : Rng w) (hs : s.size ≤ 900) {k pl k' pl' : Nat} (h : oneE (bs s) = .error (k, pl)) (h' : oneE (bs s ++ [32, 46]) = .error (k', pl')) :
    Calls Tryz.prog 5 #[.string s] w fun e w' => e = .returned (.bool true) ∧ Below w.heap.size w w' := by
  rw [← bs_2] at h'
  have H1 := Lib.hid (fun u hr => oneP_no (w := u) hr (by omega) h)
  have H2 := Lib.hid (fun u hr => oneP_no (s := (s ++ ⟨#[32, 46]⟩)) (w := u) hr (sz_2 s hs) h')
  have HK := Lib.hid (fun u h => rknows_any u h)
  have HB := Lib.hid (Below.refl w.heap.size w)
  have HR := Lib.hid hr
  clear hr
  clear h h'
  go_enter Tryz.func5, Tryz.ntmps5
  go_upto_region 4 with (go_at_call 12; (with_reducible refine (H1.out _ HR.out).mono ?_); rintro e w1 ⟨⟨rfl, hk⟩, hb⟩; have HB := Lib.hid (HB.out.trans (hb.mono HB.out.size)); have HR := Lib.hid (HR.out.next hb); clear hb)
  have kd2 : ((k : Int) != 0) = true := by rw [bne_iff_ne]; omega
  have kd3 : ((k : Int) == 0) = false := by rw [beq_eq_false_iff_ne]; omega
  clear hk
  have hv := (Below.refl w1.heap.size w1).alloc (Nat.le_refl _) (.cells #[.int .i64 0, .string ⟨#[]⟩, .int .i64 0, .slice none 0 0, .slice none 0 0] 36)
  have hz := newBlk w1 (.cells #[.int .i64 0, .string ⟨#[]⟩, .int .i64 0, .slice none 0 0, .slice none 0 0] 36) w1.heap.size rfl
  have hzl : w1.heap.size < (w1.alloc (.cells #[.int .i64 0, .string ⟨#[]⟩, .int .i64 0, .slice none 0 0, .slice none 0 0] 36)).heap.size := by simp
  obtain ⟨v1, hv1⟩ : ∃ v1, w1.alloc (.cells #[.int .i64 0, .string ⟨#[]⟩, .int .i64 0, .slice none 0 0, .slice none 0 0] 36) = v1 := ⟨_, rfl⟩
  rw [hv1] at hv hz hzl ⊢
  clear hv1
  have HB := Lib.hid (HB.out.trans (hv.mono HB.out.size))
  have HR := Lib.hid (HR.out.next hv)
  have HVv1 := Lib.hid hv
  have HZv1 := Lib.hid hz
  clear hv hz
  go_upto_region 5 with (go_at_call 12; refine (H2.out _ HR.out).mono ?_; rintro e w2 ⟨⟨rfl, hk'⟩, hb⟩; have HB := Lib.hid (HB.out.trans (hb.mono HB.out.size)); have HR := Lib.hid (HR.out.next hb); clear hb)
  have kd2' : ((k' : Int) != 0) = true := by rw [bne_iff_ne]; omega
  have kd3' : ((k' : Int) == 0) = false := by rw [beq_eq_false_iff_ne]; omega
  clear hk'
  have hv := (Below.refl w2.heap.size w2).alloc (Nat.le_refl _) (.cells #[.int .i64 0, .string ⟨#[]⟩, .int .i64 0, .slice none 0 0, .slice none 0 0] 36)
  have hz := newBlk w2 (.cells #[.int .i64 0, .string ⟨#[]⟩, .int .i64 0, .slice none 0 0, .slice none 0 0] 36) w2.heap.size rfl
  have hzl : w2.heap.size < (w2.alloc (.cells #[.int .i64 0, .string ⟨#[]⟩, .int .i64 0, .slice none 0 0, .slice none 0 0] 36)).heap.size := by simp
  obtain ⟨v2, hv1⟩ : ∃ v2, w2.alloc (.cells #[.int .i64 0, .string ⟨#[]⟩, .int .i64 0, .slice none 0 0, .slice none 0 0] 36) = v2 := ⟨_, rfl⟩
  rw [hv1] at hv hz hzl ⊢
  clear hv1
  have HB := Lib.hid (HB.out.trans (hv.mono HB.out.size))
  have HR := Lib.hid (HR.out.next hv)
  have HVv2 := Lib.hid hv
  have HZv2 := Lib.hid hz
  clear hv hz
  obtain ⟨⟨a0, a1, a2, a3, a4⟩, -⟩ := row5f HZv2.out
  go_wp2_with (first
    | (go_at_call 10; (with_reducible refine (same_z9 _).mono ?_); rintro e w4 ⟨rfl, hb⟩; have HB := Lib.hid (HB.out.trans (hb.mono HB.out.size)); have HR := Lib.hid (HR.out.next hb); clear hb)
    | (go_at_call 7; (with_reducible refine (HK.out _ HR.out).mono ?_); rintro e w4 ⟨rfl, hb4⟩; have HB := Lib.hid (HB.out.trans (hb4.mono HB.out.size)); have HR := Lib.hid (HR.out.next hb4); clear hb4))
  go_ret
  exact ⟨rfl, HB.out⟩
set_option maxRecDepth 100000 in
set_option maxHeartbeats 8000000 in
theorem rbr_c (s : ByteArray) (w : World) (hr : Rng w) (hs : s.size ≤ 900) {k pl : Nat} {t : Tm} {ns : Names} (h : oneE (bs s) = .error (k, pl)) (h' : oneE (bs s ++ [32, 46]) = .ok (t, ns)) :
    Calls Tryz.prog 5 #[.string s] w fun e w' => e = .returned (.bool true) ∧ Below w.heap.size w w' := by
  have h3 : oneE (40 :: (bs s ++ [10, 41, 32, 46])) = .ok (t, ns) := by
    rcases brk_ok (by rw [bs_length]; omega) h' with e | e
    · rw [h] at e; cases e
    · exact e
  have hns : ns.length ≤ 8000 := by have := ((read_len (one_is h')).2 (t, ns) (by simp)).2; exact this
  rw [← bs_2] at h'
  rw [← bs_3] at h3
  have H1 := Lib.hid (fun u hr => oneP_no (w := u) hr (by omega) h)
  have H2 := Lib.hid (fun u hr => oneP_ok (s := (s ++ ⟨#[32, 46]⟩)) (w := u) hr (sz_2 s hs) h')
  have H3 := Lib.hid (fun u hr => oneP_ok (s := (⟨#[40]⟩ ++ s ++ ⟨#[10, 41, 32, 46]⟩)) (w := u) hr (sz_3 s hs) h3)
  have HK := Lib.hid (fun u h => rknows_any u h)
  have HB := Lib.hid (Below.refl w.heap.size w)
  have HR := Lib.hid hr
  clear hr
  clear h h' h3
  go_enter Tryz.func5, Tryz.ntmps5
  go_upto_region 4 with (go_at_call 12; (with_reducible refine (H1.out _ HR.out).mono ?_); rintro e w1 ⟨⟨rfl, hk⟩, hb⟩; have HB := Lib.hid (HB.out.trans (hb.mono HB.out.size)); have HR := Lib.hid (HR.out.next hb); clear hb)
  have kd2 : ((k : Int) != 0) = true := by rw [bne_iff_ne]; omega
  have kd3 : ((k : Int) == 0) = false := by rw [beq_eq_false_iff_ne]; omega
  clear hk
  have hv := (Below.refl w1.heap.size w1).alloc (Nat.le_refl _) (.cells #[.int .i64 0, .string ⟨#[]⟩, .int .i64 0, .slice none 0 0, .slice none 0 0] 36)
  have hz := newBlk w1 (.cells #[.int .i64 0, .string ⟨#[]⟩, .int .i64 0, .slice none 0 0, .slice none 0 0] 36) w1.heap.size rfl
  have hzl : w1.heap.size < (w1.alloc (.cells #[.int .i64 0, .string ⟨#[]⟩, .int .i64 0, .slice none 0 0, .slice none 0 0] 36)).heap.size := by simp
  obtain ⟨v1, hv1⟩ : ∃ v1, w1.alloc (.cells #[.int .i64 0, .string ⟨#[]⟩, .int .i64 0, .slice none 0 0, .slice none 0 0] 36) = v1 := ⟨_, rfl⟩
  rw [hv1] at hv hz hzl ⊢
  clear hv1
  have HB := Lib.hid (HB.out.trans (hv.mono HB.out.size))
  have HR := Lib.hid (HR.out.next hv)
  have HVv1 := Lib.hid hv
  have HZv1 := Lib.hid hz
  clear hv hz
  go_upto_region 5 with (go_at_call 12; refine (H2.out _ HR.out).mono ?_; rintro e w2 ⟨⟨g2, c2, gn2, cn2, rfl, hi, hn⟩, hb⟩; have HI2 := Lib.hid hi; have HN2 := Lib.hid hn; clear hi hn; have HB := Lib.hid (HB.out.trans (hb.mono HB.out.size)); have HR := Lib.hid (HR.out.next hb); clear hb)
  have hv := (Below.refl w2.heap.size w2).alloc (Nat.le_refl _) (.cells #[.int .i64 t.kind, .string t.name, .int .i64 t.n, .slice g2 t.args.length c2, .slice gn2 ns.length cn2] 36)
  have hz := newBlk w2 (.cells #[.int .i64 t.kind, .string t.name, .int .i64 t.n, .slice g2 t.args.length c2, .slice gn2 ns.length cn2] 36) w2.heap.size rfl
  have hzl : w2.heap.size < (w2.alloc (.cells #[.int .i64 t.kind, .string t.name, .int .i64 t.n, .slice g2 t.args.length c2, .slice gn2 ns.length cn2] 36)).heap.size := by simp
  obtain ⟨v2, hv1⟩ : ∃ v2, w2.alloc (.cells #[.int .i64 t.kind, .string t.name, .int .i64 t.n, .slice g2 t.args.length c2, .slice gn2 ns.length cn2] 36) = v2 := ⟨_, rfl⟩
  rw [hv1] at hv hz hzl ⊢
  clear hv1
  have HB := Lib.hid (HB.out.trans (hv.mono HB.out.size))
  have HR := Lib.hid (HR.out.next hv)
  have HVv2 := Lib.hid hv
  have HZv2 := Lib.hid hz
  have HZ2 := Lib.hid hz
  have hz2 := hzl
  have HI2 := Lib.hid (Tm.inn_mono (Tm.inn_below HI2.out hv (Nat.le_refl _)) hv.size)
  have HN2 := Lib.hid (names_next HN2.out hv)
  clear hv hz
  go_upto_region 10 with (go_at_call 12; refine (H3.out _ HR.out).mono ?_; rintro e w3 ⟨⟨g3, c3, gn3, cn3, rfl, hi, hn⟩, hb⟩; have HI3 := Lib.hid hi; have HN3 := Lib.hid hn; have HZ2 := Lib.hid ((hb.block _ hz2).trans HZ2.out); have hz2 := Nat.lt_of_lt_of_le hz2 hb.size; have HI2 := Lib.hid (Tm.inn_mono (Tm.inn_below HI2.out hb (Nat.le_refl _)) hb.size); have HN2 := Lib.hid (names_next HN2.out hb); clear hi hn; have HB := Lib.hid (HB.out.trans (hb.mono HB.out.size)); have HR := Lib.hid (HR.out.next hb); clear hb)
  have hv := (Below.refl w3.heap.size w3).alloc (Nat.le_refl _) (.cells #[.int .i64 t.kind, .string t.name, .int .i64 t.n, .slice g3 t.args.length c3, .slice gn3 ns.length cn3] 36)
  have hz := newBlk w3 (.cells #[.int .i64 t.kind, .string t.name, .int .i64 t.n, .slice g3 t.args.length c3, .slice gn3 ns.length cn3] 36) w3.heap.size rfl
  have hzl : w3.heap.size < (w3.alloc (.cells #[.int .i64 t.kind, .string t.name, .int .i64 t.n, .slice g3 t.args.length c3, .slice gn3 ns.length cn3] 36)).heap.size := by simp
  obtain ⟨v3, hv1⟩ : ∃ v3, w3.alloc (.cells #[.int .i64 t.kind, .string t.name, .int .i64 t.n, .slice g3 t.args.length c3, .slice gn3 ns.length cn3] 36) = v3 := ⟨_, rfl⟩
  rw [hv1] at hv hz hzl ⊢
  clear hv1
  have HB := Lib.hid (HB.out.trans (hv.mono HB.out.size))
  have HR := Lib.hid (HR.out.next hv)
  have HVv3 := Lib.hid hv
  have HZv3 := Lib.hid hz
  have HZ2 := Lib.hid ((hv.block _ hz2).trans HZ2.out)
  have hz2 := Nat.lt_of_lt_of_le hz2 hv.size
  have HI2 := Lib.hid (Tm.inn_mono (Tm.inn_below HI2.out hv (Nat.le_refl _)) hv.size)
  have HN2 := Lib.hid (names_next HN2.out hv)
  have HI3 := Lib.hid (Tm.inn_mono (Tm.inn_below HI3.out hv (Nat.le_refl _)) hv.size)
  have HN3 := Lib.hid (names_next HN3.out hv)
  clear hv hz
  have hch : CH w t ns w2.heap.size 0 w3.heap.size 0 (.slice g2 t.args.length c2) (.slice gn2 ns.length cn2) (.slice g3 t.args.length c3) (.slice gn3 ns.length cn3) v3 := by
    obtain ⟨⟨x0, x1, x2, x3, x4⟩, -⟩ := row5f HZ2.out
    obtain ⟨⟨y0, y1, y2, y3, y4⟩, -⟩ := row5f HZv3.out
    exact ⟨⟨x0, x1, x2, x3, x4⟩, ⟨y0, y1, y2, y3, y4⟩, hz2, hzl, HI2.out, HI3.out, HN2.out, HN3.out, HB.out, HR.out⟩
  obtain ⟨x0, x1, x2, x3, x4⟩ := hch.c1
  obtain ⟨y0, y1, y2, y3, y4⟩ := hch.c2
  have HCH := Lib.hid hch
  clear hch
  go_wp2_with (first
    | (go_at_call 10; (with_reducible refine (HCH.out.same).mono ?_); rintro e w4 ⟨rfl, hb⟩; have HC4 := Lib.hid (HCH.out.next hb); obtain ⟨x0, x1, x2, x3, x4⟩ := HC4.out.c1; obtain ⟨y0, y1, y2, y3, y4⟩ := HC4.out.c2; have hl1 := HC4.out.l1; have hl2 := HC4.out.l2; clear hb)
    | (go_at_call 11; (with_reducible refine (HC4.out.words (by omega)).mono ?_); rintro e w5 ⟨rfl, hb⟩; have HC5 := Lib.hid (HC4.out.next hb); clear hb)
    | (go_at_call 7; (with_reducible refine (HK.out _ HC5.out.rng).mono ?_); rintro e w6 ⟨rfl, hb⟩; have HB6 := Lib.hid (HC5.out.low.trans (hb.mono HC5.out.low.size)); clear hb))
  go_ret
  exact ⟨rfl, HB6.out⟩
theorem rbrackets_any (s : ByteArray) (w : World) (hr : Rng w) :
    Calls Tryz.prog 5 #[.string s] w fun e w' => e = .returned (.bool true) ∧ Below w.heap.size w w' := by
  by_cases hz : 900 < s.size
  · have HK := Lib.hid (fun u h => rknows_any u h)
    have HB := Lib.hid (Below.refl w.heap.size w)
    have HR := Lib.hid hr
    clear hr
    go_enter Tryz.func5, Tryz.ntmps5
    go_wp2_with (go_at_call 7; (with_reducible refine (HK.out _ HR.out).mono ?_); rintro e w4 ⟨rfl, hb4⟩; have HB := Lib.hid (HB.out.trans (hb4.mono HB.out.size)); have HR := Lib.hid (HR.out.next hb4); clear hb4)
    go_ret
    exact ⟨rfl, HB.out⟩
  · cases h : oneE (bs s) with
    | ok c => exact rbr_a s w hr (by omega) h
    | error e =>
      cases h' : oneE (bs s ++ [32, 46]) with
      | error e' => exact rbr_b s w hr (by omega) h h'
      | ok c => exact rbr_c s w hr (by omega) h h'
end Go.Proofs.YtilfglcjcmpfeaaGreatDoor
