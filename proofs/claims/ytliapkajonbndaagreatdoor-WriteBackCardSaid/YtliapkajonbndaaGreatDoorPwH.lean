/-
  The program's goal, by its kinds; Goals and Clause.
-/
import Derived.Test.YtliapkajonbndaaGreatDoorG08
namespace Go.Proofs.YtliapkajonbndaaGreatDoor
open Go.RowKit

set_option maxRecDepth 100000 in
set_option maxHeartbeats 8000000 in
theorem pgoal_one {t : Tm} {la lb lc : List Gl} (hsz : t.size ≤ 1000000) : PGo (.mk 1 t la lb lc) := by
  intro b x w sv av bv cv hpr hin hpw hpg hlx
  obtain ⟨_, hit, hia, hib, hic⟩ := Gl.inn_mk.1 hin
  obtain ⟨gt, mt, ct, rfl⟩ : ∃ g m c, sv = .slice g m c := by
    obtain ⟨_, g, c, e, _⟩ := Tm.inn_iff.1 hit
    exact ⟨_, _, _, e⟩
  obtain ⟨ga, ma, ca, rfl⟩ : ∃ g m c, av = .slice g m c := by
    obtain ⟨g, c, e, _⟩ := hia
    exact ⟨_, _, _, e⟩
  obtain ⟨gb, mb, cb, rfl⟩ : ∃ g m c, bv = .slice g m c := by
    obtain ⟨g, c, e, _⟩ := hib
    exact ⟨_, _, _, e⟩
  obtain ⟨gc, mc, cc, rfl⟩ : ∃ g m c, cv = .slice g m c := by
    obtain ⟨g, c, e, _⟩ := hic
    exact ⟨_, _, _, e⟩
  have HS := Lib.hid (PG.new hpr hin hpw hpg)
  have hx : gx (.mk 1 t la lb lc) = sureX t := by rw [gx, if_pos (by decide)]
  rw [hx] at hlx
  have HX := Lib.hid hx
  simp only [List.length_append] at hlx
  clear hit hia hib hic hin hx hpr hpw
  show Calls Tryz.prog 38 #[.pointer (some ⟨b, 0, none⟩), .agg #[.int .i64 1, .int .i64 t.kind, .string t.name, .int .i64 t.n, .slice gt mt ct, .slice ga ma ca, .slice gb mb cb, .slice gc mc cc]] w _
  go_enter Tryz.func38, Tryz.ntmps38
  go_upto_region 1 with fail
  have HS0 := Lib.hid (show PG w b (.mk 1 t la lb lc) (.slice gt mt ct) (.slice ga ma ca) (.slice gb mb cb) (.slice gc mc cc) w.heap.size x (w.alloc (.cells #[.int .i64 1, .int .i64 t.kind, .string t.name, .int .i64 t.n, .slice gt mt ct, .slice ga ma ca, .slice gb mb cb, .slice gc mc cc] 44)) from HS.out)
  clear HS
  generalize w.alloc (.cells #[.int .i64 1, .int .i64 t.kind, .string t.name, .int .i64 t.n, .slice gt mt ct, .slice ga ma ca, .slice gb mb cb, .slice gc mc cc] 44) = u0 at HS0 ⊢
  have c0 : u0.cell? ⟨w.heap.size, 0, none⟩ = some (.int .i64 1) := HS0.out.cell0; have c1 : u0.cell? ⟨w.heap.size, 1, none⟩ = some (.int .i64 t.kind) := HS0.out.cell1; have c2 : u0.cell? ⟨w.heap.size, 2, none⟩ = some (.string t.name) := HS0.out.cell2; have c3 : u0.cell? ⟨w.heap.size, 3, none⟩ = some (.int .i64 t.n) := HS0.out.cell3; have c4 : u0.cell? ⟨w.heap.size, 4, none⟩ = some (.slice gt mt ct) := HS0.out.cell4; have c5 : u0.cell? ⟨w.heap.size, 5, none⟩ = some (.slice ga ma ca) := HS0.out.cell5; have c6 : u0.cell? ⟨w.heap.size, 6, none⟩ = some (.slice gb mb cb) := HS0.out.cell6; have c7 : u0.cell? ⟨w.heap.size, 7, none⟩ = some (.slice gc mc cc) := HS0.out.cell7; have cl := HS0.out.bxlt
  go_upto_region 5 with fail
  have HG0 := Lib.hid (pany_any t b (x) u0 _ HS0.out.pr (Gl.inn_mk.1 HS0.out.hi).2.1 HS0.out.pw hpg hsz (by (try simp only [List.length_append]); omega))
  go_wp2_with (go_at_call 23; (with_reducible refine (HG0.out).mono ?_); rintro e u1 ⟨rfl, hp, hf⟩; have HS1 := Lib.hid (HS0.out.next hp hf); have d0 : u1.cell? ⟨w.heap.size, 0, none⟩ = some (.int .i64 1) := HS1.out.cell0; have d1 : u1.cell? ⟨w.heap.size, 1, none⟩ = some (.int .i64 t.kind) := HS1.out.cell1; have d2 : u1.cell? ⟨w.heap.size, 2, none⟩ = some (.string t.name) := HS1.out.cell2; have d3 : u1.cell? ⟨w.heap.size, 3, none⟩ = some (.int .i64 t.n) := HS1.out.cell3; have d4 : u1.cell? ⟨w.heap.size, 4, none⟩ = some (.slice gt mt ct) := HS1.out.cell4; have d5 : u1.cell? ⟨w.heap.size, 5, none⟩ = some (.slice ga ma ca) := HS1.out.cell5; have d6 : u1.cell? ⟨w.heap.size, 6, none⟩ = some (.slice gb mb cb) := HS1.out.cell6; have d7 : u1.cell? ⟨w.heap.size, 7, none⟩ = some (.slice gc mc cc) := HS1.out.cell7; have dl := HS1.out.bxlt; clear hp hf)
  go_end0
  refine ⟨rfl, ?_, HS1.out.fr⟩
  have h9 := HS1.out.pr
  rw [HX.out]
  have e9 : x ++ sureX t = x ++ (sureX t) := by simp
  rw [e9] at h9
  exact h9
set_option maxRecDepth 100000 in
set_option maxHeartbeats 8000000 in
theorem pgoal_two {t : Tm} {la lb lc : List Gl} (hsz : t.size ≤ 1000000) : PGo (.mk 2 t la lb lc) := by
  intro b x w sv av bv cv hpr hin hpw hpg hlx
  obtain ⟨_, hit, hia, hib, hic⟩ := Gl.inn_mk.1 hin
  obtain ⟨gt, mt, ct, rfl⟩ : ∃ g m c, sv = .slice g m c := by
    obtain ⟨_, g, c, e, _⟩ := Tm.inn_iff.1 hit
    exact ⟨_, _, _, e⟩
  obtain ⟨ga, ma, ca, rfl⟩ : ∃ g m c, av = .slice g m c := by
    obtain ⟨g, c, e, _⟩ := hia
    exact ⟨_, _, _, e⟩
  obtain ⟨gb, mb, cb, rfl⟩ : ∃ g m c, bv = .slice g m c := by
    obtain ⟨g, c, e, _⟩ := hib
    exact ⟨_, _, _, e⟩
  obtain ⟨gc, mc, cc, rfl⟩ : ∃ g m c, cv = .slice g m c := by
    obtain ⟨g, c, e, _⟩ := hic
    exact ⟨_, _, _, e⟩
  have HS := Lib.hid (PG.new hpr hin hpw hpg)
  have hx : gx (.mk 2 t la lb lc) = sureX t := by rw [gx, if_pos (by decide)]
  rw [hx] at hlx
  have HX := Lib.hid hx
  simp only [List.length_append] at hlx
  clear hit hia hib hic hin hx hpr hpw
  show Calls Tryz.prog 38 #[.pointer (some ⟨b, 0, none⟩), .agg #[.int .i64 2, .int .i64 t.kind, .string t.name, .int .i64 t.n, .slice gt mt ct, .slice ga ma ca, .slice gb mb cb, .slice gc mc cc]] w _
  go_enter Tryz.func38, Tryz.ntmps38
  go_upto_region 1 with fail
  have HS0 := Lib.hid (show PG w b (.mk 2 t la lb lc) (.slice gt mt ct) (.slice ga ma ca) (.slice gb mb cb) (.slice gc mc cc) w.heap.size x (w.alloc (.cells #[.int .i64 2, .int .i64 t.kind, .string t.name, .int .i64 t.n, .slice gt mt ct, .slice ga ma ca, .slice gb mb cb, .slice gc mc cc] 44)) from HS.out)
  clear HS
  generalize w.alloc (.cells #[.int .i64 2, .int .i64 t.kind, .string t.name, .int .i64 t.n, .slice gt mt ct, .slice ga ma ca, .slice gb mb cb, .slice gc mc cc] 44) = u0 at HS0 ⊢
  have c0 : u0.cell? ⟨w.heap.size, 0, none⟩ = some (.int .i64 2) := HS0.out.cell0; have c1 : u0.cell? ⟨w.heap.size, 1, none⟩ = some (.int .i64 t.kind) := HS0.out.cell1; have c2 : u0.cell? ⟨w.heap.size, 2, none⟩ = some (.string t.name) := HS0.out.cell2; have c3 : u0.cell? ⟨w.heap.size, 3, none⟩ = some (.int .i64 t.n) := HS0.out.cell3; have c4 : u0.cell? ⟨w.heap.size, 4, none⟩ = some (.slice gt mt ct) := HS0.out.cell4; have c5 : u0.cell? ⟨w.heap.size, 5, none⟩ = some (.slice ga ma ca) := HS0.out.cell5; have c6 : u0.cell? ⟨w.heap.size, 6, none⟩ = some (.slice gb mb cb) := HS0.out.cell6; have c7 : u0.cell? ⟨w.heap.size, 7, none⟩ = some (.slice gc mc cc) := HS0.out.cell7; have cl := HS0.out.bxlt
  go_upto_region 5 with fail
  have HG0 := Lib.hid (pany_any t b (x) u0 _ HS0.out.pr (Gl.inn_mk.1 HS0.out.hi).2.1 HS0.out.pw hpg hsz (by (try simp only [List.length_append]); omega))
  go_wp2_with (go_at_call 23; (with_reducible refine (HG0.out).mono ?_); rintro e u1 ⟨rfl, hp, hf⟩; have HS1 := Lib.hid (HS0.out.next hp hf); have d0 : u1.cell? ⟨w.heap.size, 0, none⟩ = some (.int .i64 2) := HS1.out.cell0; have d1 : u1.cell? ⟨w.heap.size, 1, none⟩ = some (.int .i64 t.kind) := HS1.out.cell1; have d2 : u1.cell? ⟨w.heap.size, 2, none⟩ = some (.string t.name) := HS1.out.cell2; have d3 : u1.cell? ⟨w.heap.size, 3, none⟩ = some (.int .i64 t.n) := HS1.out.cell3; have d4 : u1.cell? ⟨w.heap.size, 4, none⟩ = some (.slice gt mt ct) := HS1.out.cell4; have d5 : u1.cell? ⟨w.heap.size, 5, none⟩ = some (.slice ga ma ca) := HS1.out.cell5; have d6 : u1.cell? ⟨w.heap.size, 6, none⟩ = some (.slice gb mb cb) := HS1.out.cell6; have d7 : u1.cell? ⟨w.heap.size, 7, none⟩ = some (.slice gc mc cc) := HS1.out.cell7; have dl := HS1.out.bxlt; clear hp hf)
  go_end0
  refine ⟨rfl, ?_, HS1.out.fr⟩
  have h9 := HS1.out.pr
  rw [HX.out]
  have e9 : x ++ sureX t = x ++ (sureX t) := by simp
  rw [e9] at h9
  exact h9
set_option maxRecDepth 100000 in
set_option maxHeartbeats 8000000 in
theorem pgoal_cut {t : Tm} {la lb lc : List Gl} : PGo (.mk 3 t la lb lc) := by
  intro b x w sv av bv cv hpr hin hpw hpg hlx
  obtain ⟨_, hit, hia, hib, hic⟩ := Gl.inn_mk.1 hin
  obtain ⟨gt, mt, ct, rfl⟩ : ∃ g m c, sv = .slice g m c := by
    obtain ⟨_, g, c, e, _⟩ := Tm.inn_iff.1 hit
    exact ⟨_, _, _, e⟩
  obtain ⟨ga, ma, ca, rfl⟩ : ∃ g m c, av = .slice g m c := by
    obtain ⟨g, c, e, _⟩ := hia
    exact ⟨_, _, _, e⟩
  obtain ⟨gb, mb, cb, rfl⟩ : ∃ g m c, bv = .slice g m c := by
    obtain ⟨g, c, e, _⟩ := hib
    exact ⟨_, _, _, e⟩
  obtain ⟨gc, mc, cc, rfl⟩ : ∃ g m c, cv = .slice g m c := by
    obtain ⟨g, c, e, _⟩ := hic
    exact ⟨_, _, _, e⟩
  have HS := Lib.hid (PG.new hpr hin hpw hpg)
  have hx : gx (.mk 3 t la lb lc) = [33] := by rw [gx, if_neg (by decide), if_pos rfl]
  rw [hx] at hlx
  have HX := Lib.hid hx
  simp only [List.length_append, List.length_cons, List.length_nil] at hlx
  clear hit hia hib hic hin hx hpr hpw
  show Calls Tryz.prog 38 #[.pointer (some ⟨b, 0, none⟩), .agg #[.int .i64 3, .int .i64 t.kind, .string t.name, .int .i64 t.n, .slice gt mt ct, .slice ga ma ca, .slice gb mb cb, .slice gc mc cc]] w _
  go_enter Tryz.func38, Tryz.ntmps38
  go_upto_region 1 with fail
  have HS0 := Lib.hid (show PG w b (.mk 3 t la lb lc) (.slice gt mt ct) (.slice ga ma ca) (.slice gb mb cb) (.slice gc mc cc) w.heap.size x (w.alloc (.cells #[.int .i64 3, .int .i64 t.kind, .string t.name, .int .i64 t.n, .slice gt mt ct, .slice ga ma ca, .slice gb mb cb, .slice gc mc cc] 44)) from HS.out)
  clear HS
  generalize w.alloc (.cells #[.int .i64 3, .int .i64 t.kind, .string t.name, .int .i64 t.n, .slice gt mt ct, .slice ga ma ca, .slice gb mb cb, .slice gc mc cc] 44) = u0 at HS0 ⊢
  have c0 : u0.cell? ⟨w.heap.size, 0, none⟩ = some (.int .i64 3) := HS0.out.cell0; have c1 : u0.cell? ⟨w.heap.size, 1, none⟩ = some (.int .i64 t.kind) := HS0.out.cell1; have c2 : u0.cell? ⟨w.heap.size, 2, none⟩ = some (.string t.name) := HS0.out.cell2; have c3 : u0.cell? ⟨w.heap.size, 3, none⟩ = some (.int .i64 t.n) := HS0.out.cell3; have c4 : u0.cell? ⟨w.heap.size, 4, none⟩ = some (.slice gt mt ct) := HS0.out.cell4; have c5 : u0.cell? ⟨w.heap.size, 5, none⟩ = some (.slice ga ma ca) := HS0.out.cell5; have c6 : u0.cell? ⟨w.heap.size, 6, none⟩ = some (.slice gb mb cb) := HS0.out.cell6; have c7 : u0.cell? ⟨w.heap.size, 7, none⟩ = some (.slice gc mc cc) := HS0.out.cell7; have cl := HS0.out.bxlt
  go_upto_region 7 with fail
  go_wp2_with (go_at_call 26; (with_reducible refine (pbyte_k b (x) 33 33 rfl _ HS0.out.pr (by (try simp only [List.length_append, List.length_cons, List.length_nil]); omega)).mono ?_); rintro e u1 ⟨rfl, hp, hf⟩; have HS1 := Lib.hid (HS0.out.next hp hf); have d0 : u1.cell? ⟨w.heap.size, 0, none⟩ = some (.int .i64 3) := HS1.out.cell0; have d1 : u1.cell? ⟨w.heap.size, 1, none⟩ = some (.int .i64 t.kind) := HS1.out.cell1; have d2 : u1.cell? ⟨w.heap.size, 2, none⟩ = some (.string t.name) := HS1.out.cell2; have d3 : u1.cell? ⟨w.heap.size, 3, none⟩ = some (.int .i64 t.n) := HS1.out.cell3; have d4 : u1.cell? ⟨w.heap.size, 4, none⟩ = some (.slice gt mt ct) := HS1.out.cell4; have d5 : u1.cell? ⟨w.heap.size, 5, none⟩ = some (.slice ga ma ca) := HS1.out.cell5; have d6 : u1.cell? ⟨w.heap.size, 6, none⟩ = some (.slice gb mb cb) := HS1.out.cell6; have d7 : u1.cell? ⟨w.heap.size, 7, none⟩ = some (.slice gc mc cc) := HS1.out.cell7; have dl := HS1.out.bxlt; clear hp hf)
  go_end0
  refine ⟨rfl, ?_, HS1.out.fr⟩
  have h9 := HS1.out.pr
  rw [HX.out]
  have e9 : x ++ [33] = x ++ ([33]) := by simp
  rw [e9] at h9
  exact h9
set_option maxRecDepth 100000 in
set_option maxHeartbeats 8000000 in
theorem pgoal_if {t : Tm} {la lb lc : List Gl} (hla : PGs la) (hlb : PGs lb) (hlc : PGs lc) : PGo (.mk 4 t la lb lc) := by
  intro b x w sv av bv cv hpr hin hpw hpg hlx
  obtain ⟨_, hit, hia, hib, hic⟩ := Gl.inn_mk.1 hin
  obtain ⟨gt, mt, ct, rfl⟩ : ∃ g m c, sv = .slice g m c := by
    obtain ⟨_, g, c, e, _⟩ := Tm.inn_iff.1 hit
    exact ⟨_, _, _, e⟩
  obtain ⟨ga, ma, ca, rfl⟩ : ∃ g m c, av = .slice g m c := by
    obtain ⟨g, c, e, _⟩ := hia
    exact ⟨_, _, _, e⟩
  obtain ⟨gb, mb, cb, rfl⟩ : ∃ g m c, bv = .slice g m c := by
    obtain ⟨g, c, e, _⟩ := hib
    exact ⟨_, _, _, e⟩
  obtain ⟨gc, mc, cc, rfl⟩ : ∃ g m c, cv = .slice g m c := by
    obtain ⟨g, c, e, _⟩ := hic
    exact ⟨_, _, _, e⟩
  have HS := Lib.hid (PG.new hpr hin hpw hpg)
  have hx : gx (.mk 4 t la lb lc) = 40 :: (glsX la ++ ([32, 45, 62, 32] ++ (glsX lb ++ ([32, 59, 32] ++ (glsX lc ++ [41]))))) := by rw [gx, if_neg (by decide), if_neg (by decide), if_pos rfl]; rfl
  rw [hx] at hlx
  have HX := Lib.hid hx
  simp only [List.length_append, List.length_cons, List.length_nil] at hlx
  clear hit hia hib hic hin hx hpr hpw
  show Calls Tryz.prog 38 #[.pointer (some ⟨b, 0, none⟩), .agg #[.int .i64 4, .int .i64 t.kind, .string t.name, .int .i64 t.n, .slice gt mt ct, .slice ga ma ca, .slice gb mb cb, .slice gc mc cc]] w _
  go_enter Tryz.func38, Tryz.ntmps38
  go_upto_region 1 with fail
  have HS0 := Lib.hid (show PG w b (.mk 4 t la lb lc) (.slice gt mt ct) (.slice ga ma ca) (.slice gb mb cb) (.slice gc mc cc) w.heap.size x (w.alloc (.cells #[.int .i64 4, .int .i64 t.kind, .string t.name, .int .i64 t.n, .slice gt mt ct, .slice ga ma ca, .slice gb mb cb, .slice gc mc cc] 44)) from HS.out)
  clear HS
  generalize w.alloc (.cells #[.int .i64 4, .int .i64 t.kind, .string t.name, .int .i64 t.n, .slice gt mt ct, .slice ga ma ca, .slice gb mb cb, .slice gc mc cc] 44) = u0 at HS0 ⊢
  have c0 : u0.cell? ⟨w.heap.size, 0, none⟩ = some (.int .i64 4) := HS0.out.cell0; have c1 : u0.cell? ⟨w.heap.size, 1, none⟩ = some (.int .i64 t.kind) := HS0.out.cell1; have c2 : u0.cell? ⟨w.heap.size, 2, none⟩ = some (.string t.name) := HS0.out.cell2; have c3 : u0.cell? ⟨w.heap.size, 3, none⟩ = some (.int .i64 t.n) := HS0.out.cell3; have c4 : u0.cell? ⟨w.heap.size, 4, none⟩ = some (.slice gt mt ct) := HS0.out.cell4; have c5 : u0.cell? ⟨w.heap.size, 5, none⟩ = some (.slice ga ma ca) := HS0.out.cell5; have c6 : u0.cell? ⟨w.heap.size, 6, none⟩ = some (.slice gb mb cb) := HS0.out.cell6; have c7 : u0.cell? ⟨w.heap.size, 7, none⟩ = some (.slice gc mc cc) := HS0.out.cell7; have cl := HS0.out.bxlt
  go_upto_region 9 with fail
  go_upto_region 10 with (go_at_call 26; (with_reducible refine (pbyte_k b (x) 40 40 rfl _ HS0.out.pr (by (try simp only [List.length_append, List.length_cons, List.length_nil]); omega)).mono ?_); rintro e u1 ⟨rfl, hp, hf⟩; have HS1 := Lib.hid (HS0.out.next hp hf); have d0 : u1.cell? ⟨w.heap.size, 0, none⟩ = some (.int .i64 4) := HS1.out.cell0; have d1 : u1.cell? ⟨w.heap.size, 1, none⟩ = some (.int .i64 t.kind) := HS1.out.cell1; have d2 : u1.cell? ⟨w.heap.size, 2, none⟩ = some (.string t.name) := HS1.out.cell2; have d3 : u1.cell? ⟨w.heap.size, 3, none⟩ = some (.int .i64 t.n) := HS1.out.cell3; have d4 : u1.cell? ⟨w.heap.size, 4, none⟩ = some (.slice gt mt ct) := HS1.out.cell4; have d5 : u1.cell? ⟨w.heap.size, 5, none⟩ = some (.slice ga ma ca) := HS1.out.cell5; have d6 : u1.cell? ⟨w.heap.size, 6, none⟩ = some (.slice gb mb cb) := HS1.out.cell6; have d7 : u1.cell? ⟨w.heap.size, 7, none⟩ = some (.slice gc mc cc) := HS1.out.cell7; have dl := HS1.out.bxlt; clear hp hf)
  have HG1 := Lib.hid (hla b (x ++ [40]) u1 _ HS1.out.pr (Gl.inn_mk.1 HS1.out.hi).2.2.1 HS1.out.pw hpg (by (try simp only [List.length_append, List.length_cons, List.length_nil]); omega))
  go_upto_region 11 with (go_at_call 25; (with_reducible refine (HG1.out).mono ?_); rintro e u2 ⟨rfl, hp, hf⟩; have HS2 := Lib.hid (HS1.out.next hp hf); have d0 : u2.cell? ⟨w.heap.size, 0, none⟩ = some (.int .i64 4) := HS2.out.cell0; have d1 : u2.cell? ⟨w.heap.size, 1, none⟩ = some (.int .i64 t.kind) := HS2.out.cell1; have d2 : u2.cell? ⟨w.heap.size, 2, none⟩ = some (.string t.name) := HS2.out.cell2; have d3 : u2.cell? ⟨w.heap.size, 3, none⟩ = some (.int .i64 t.n) := HS2.out.cell3; have d4 : u2.cell? ⟨w.heap.size, 4, none⟩ = some (.slice gt mt ct) := HS2.out.cell4; have d5 : u2.cell? ⟨w.heap.size, 5, none⟩ = some (.slice ga ma ca) := HS2.out.cell5; have d6 : u2.cell? ⟨w.heap.size, 6, none⟩ = some (.slice gb mb cb) := HS2.out.cell6; have d7 : u2.cell? ⟨w.heap.size, 7, none⟩ = some (.slice gc mc cc) := HS2.out.cell7; have dl := HS2.out.bxlt; clear hp hf)
  go_upto_region 12 with (go_at_call 24; (with_reducible refine (plit b (x ++ [40] ++ glsX la) [32, 45, 62, 32] _ rfl _ HS2.out.pr (by (try simp only [List.length_append, List.length_cons, List.length_nil]); omega)).mono ?_); rintro e u3 ⟨rfl, hp, hf⟩; have HS3 := Lib.hid (HS2.out.next hp hf); have d0 : u3.cell? ⟨w.heap.size, 0, none⟩ = some (.int .i64 4) := HS3.out.cell0; have d1 : u3.cell? ⟨w.heap.size, 1, none⟩ = some (.int .i64 t.kind) := HS3.out.cell1; have d2 : u3.cell? ⟨w.heap.size, 2, none⟩ = some (.string t.name) := HS3.out.cell2; have d3 : u3.cell? ⟨w.heap.size, 3, none⟩ = some (.int .i64 t.n) := HS3.out.cell3; have d4 : u3.cell? ⟨w.heap.size, 4, none⟩ = some (.slice gt mt ct) := HS3.out.cell4; have d5 : u3.cell? ⟨w.heap.size, 5, none⟩ = some (.slice ga ma ca) := HS3.out.cell5; have d6 : u3.cell? ⟨w.heap.size, 6, none⟩ = some (.slice gb mb cb) := HS3.out.cell6; have d7 : u3.cell? ⟨w.heap.size, 7, none⟩ = some (.slice gc mc cc) := HS3.out.cell7; have dl := HS3.out.bxlt; clear hp hf)
  have HG3 := Lib.hid (hlb b (x ++ [40] ++ glsX la ++ [32, 45, 62, 32]) u3 _ HS3.out.pr (Gl.inn_mk.1 HS3.out.hi).2.2.2.1 HS3.out.pw hpg (by (try simp only [List.length_append, List.length_cons, List.length_nil]); omega))
  go_upto_region 13 with (go_at_call 25; (with_reducible refine (HG3.out).mono ?_); rintro e u4 ⟨rfl, hp, hf⟩; have HS4 := Lib.hid (HS3.out.next hp hf); have d0 : u4.cell? ⟨w.heap.size, 0, none⟩ = some (.int .i64 4) := HS4.out.cell0; have d1 : u4.cell? ⟨w.heap.size, 1, none⟩ = some (.int .i64 t.kind) := HS4.out.cell1; have d2 : u4.cell? ⟨w.heap.size, 2, none⟩ = some (.string t.name) := HS4.out.cell2; have d3 : u4.cell? ⟨w.heap.size, 3, none⟩ = some (.int .i64 t.n) := HS4.out.cell3; have d4 : u4.cell? ⟨w.heap.size, 4, none⟩ = some (.slice gt mt ct) := HS4.out.cell4; have d5 : u4.cell? ⟨w.heap.size, 5, none⟩ = some (.slice ga ma ca) := HS4.out.cell5; have d6 : u4.cell? ⟨w.heap.size, 6, none⟩ = some (.slice gb mb cb) := HS4.out.cell6; have d7 : u4.cell? ⟨w.heap.size, 7, none⟩ = some (.slice gc mc cc) := HS4.out.cell7; have dl := HS4.out.bxlt; clear hp hf)
  go_upto_region 14 with (go_at_call 24; (with_reducible refine (plit b (x ++ [40] ++ glsX la ++ [32, 45, 62, 32] ++ glsX lb) [32, 59, 32] _ rfl _ HS4.out.pr (by (try simp only [List.length_append, List.length_cons, List.length_nil]); omega)).mono ?_); rintro e u5 ⟨rfl, hp, hf⟩; have HS5 := Lib.hid (HS4.out.next hp hf); have d0 : u5.cell? ⟨w.heap.size, 0, none⟩ = some (.int .i64 4) := HS5.out.cell0; have d1 : u5.cell? ⟨w.heap.size, 1, none⟩ = some (.int .i64 t.kind) := HS5.out.cell1; have d2 : u5.cell? ⟨w.heap.size, 2, none⟩ = some (.string t.name) := HS5.out.cell2; have d3 : u5.cell? ⟨w.heap.size, 3, none⟩ = some (.int .i64 t.n) := HS5.out.cell3; have d4 : u5.cell? ⟨w.heap.size, 4, none⟩ = some (.slice gt mt ct) := HS5.out.cell4; have d5 : u5.cell? ⟨w.heap.size, 5, none⟩ = some (.slice ga ma ca) := HS5.out.cell5; have d6 : u5.cell? ⟨w.heap.size, 6, none⟩ = some (.slice gb mb cb) := HS5.out.cell6; have d7 : u5.cell? ⟨w.heap.size, 7, none⟩ = some (.slice gc mc cc) := HS5.out.cell7; have dl := HS5.out.bxlt; clear hp hf)
  have HG5 := Lib.hid (hlc b (x ++ [40] ++ glsX la ++ [32, 45, 62, 32] ++ glsX lb ++ [32, 59, 32]) u5 _ HS5.out.pr (Gl.inn_mk.1 HS5.out.hi).2.2.2.2 HS5.out.pw hpg (by (try simp only [List.length_append, List.length_cons, List.length_nil]); omega))
  go_upto_region 15 with (go_at_call 25; (with_reducible refine (HG5.out).mono ?_); rintro e u6 ⟨rfl, hp, hf⟩; have HS6 := Lib.hid (HS5.out.next hp hf); have d0 : u6.cell? ⟨w.heap.size, 0, none⟩ = some (.int .i64 4) := HS6.out.cell0; have d1 : u6.cell? ⟨w.heap.size, 1, none⟩ = some (.int .i64 t.kind) := HS6.out.cell1; have d2 : u6.cell? ⟨w.heap.size, 2, none⟩ = some (.string t.name) := HS6.out.cell2; have d3 : u6.cell? ⟨w.heap.size, 3, none⟩ = some (.int .i64 t.n) := HS6.out.cell3; have d4 : u6.cell? ⟨w.heap.size, 4, none⟩ = some (.slice gt mt ct) := HS6.out.cell4; have d5 : u6.cell? ⟨w.heap.size, 5, none⟩ = some (.slice ga ma ca) := HS6.out.cell5; have d6 : u6.cell? ⟨w.heap.size, 6, none⟩ = some (.slice gb mb cb) := HS6.out.cell6; have d7 : u6.cell? ⟨w.heap.size, 7, none⟩ = some (.slice gc mc cc) := HS6.out.cell7; have dl := HS6.out.bxlt; clear hp hf)
  go_wp2_with (go_at_call 26; (with_reducible refine (pbyte_k b (x ++ [40] ++ glsX la ++ [32, 45, 62, 32] ++ glsX lb ++ [32, 59, 32] ++ glsX lc) 41 41 rfl _ HS6.out.pr (by (try simp only [List.length_append, List.length_cons, List.length_nil]); omega)).mono ?_); rintro e u7 ⟨rfl, hp, hf⟩; have HS7 := Lib.hid (HS6.out.next hp hf); have d0 : u7.cell? ⟨w.heap.size, 0, none⟩ = some (.int .i64 4) := HS7.out.cell0; have d1 : u7.cell? ⟨w.heap.size, 1, none⟩ = some (.int .i64 t.kind) := HS7.out.cell1; have d2 : u7.cell? ⟨w.heap.size, 2, none⟩ = some (.string t.name) := HS7.out.cell2; have d3 : u7.cell? ⟨w.heap.size, 3, none⟩ = some (.int .i64 t.n) := HS7.out.cell3; have d4 : u7.cell? ⟨w.heap.size, 4, none⟩ = some (.slice gt mt ct) := HS7.out.cell4; have d5 : u7.cell? ⟨w.heap.size, 5, none⟩ = some (.slice ga ma ca) := HS7.out.cell5; have d6 : u7.cell? ⟨w.heap.size, 6, none⟩ = some (.slice gb mb cb) := HS7.out.cell6; have d7 : u7.cell? ⟨w.heap.size, 7, none⟩ = some (.slice gc mc cc) := HS7.out.cell7; have dl := HS7.out.bxlt; clear hp hf)
  go_end0
  refine ⟨rfl, ?_, HS7.out.fr⟩
  have h9 := HS7.out.pr
  rw [HX.out]
  have e9 : x ++ [40] ++ glsX la ++ [32, 45, 62, 32] ++ glsX lb ++ [32, 59, 32] ++ glsX lc ++ [41] = x ++ (40 :: (glsX la ++ ([32, 45, 62, 32] ++ (glsX lb ++ ([32, 59, 32] ++ (glsX lc ++ [41])))))) := by simp
  rw [e9] at h9
  exact h9
set_option maxRecDepth 100000 in
set_option maxHeartbeats 8000000 in
theorem pgoal_not {t : Tm} {la lb lc : List Gl} (hla : PGs la) : PGo (.mk 5 t la lb lc) := by
  intro b x w sv av bv cv hpr hin hpw hpg hlx
  obtain ⟨_, hit, hia, hib, hic⟩ := Gl.inn_mk.1 hin
  obtain ⟨gt, mt, ct, rfl⟩ : ∃ g m c, sv = .slice g m c := by
    obtain ⟨_, g, c, e, _⟩ := Tm.inn_iff.1 hit
    exact ⟨_, _, _, e⟩
  obtain ⟨ga, ma, ca, rfl⟩ : ∃ g m c, av = .slice g m c := by
    obtain ⟨g, c, e, _⟩ := hia
    exact ⟨_, _, _, e⟩
  obtain ⟨gb, mb, cb, rfl⟩ : ∃ g m c, bv = .slice g m c := by
    obtain ⟨g, c, e, _⟩ := hib
    exact ⟨_, _, _, e⟩
  obtain ⟨gc, mc, cc, rfl⟩ : ∃ g m c, cv = .slice g m c := by
    obtain ⟨g, c, e, _⟩ := hic
    exact ⟨_, _, _, e⟩
  have HS := Lib.hid (PG.new hpr hin hpw hpg)
  have hx : gx (.mk 5 t la lb lc) = [92, 43, 32, 40] ++ (glsX la ++ [41]) := by rw [gx, if_neg (by decide), if_neg (by decide), if_neg (by decide), if_pos rfl]; rfl
  rw [hx] at hlx
  have HX := Lib.hid hx
  simp only [List.length_append, List.length_cons, List.length_nil] at hlx
  clear hit hia hib hic hin hx hpr hpw
  show Calls Tryz.prog 38 #[.pointer (some ⟨b, 0, none⟩), .agg #[.int .i64 5, .int .i64 t.kind, .string t.name, .int .i64 t.n, .slice gt mt ct, .slice ga ma ca, .slice gb mb cb, .slice gc mc cc]] w _
  go_enter Tryz.func38, Tryz.ntmps38
  go_upto_region 1 with fail
  have HS0 := Lib.hid (show PG w b (.mk 5 t la lb lc) (.slice gt mt ct) (.slice ga ma ca) (.slice gb mb cb) (.slice gc mc cc) w.heap.size x (w.alloc (.cells #[.int .i64 5, .int .i64 t.kind, .string t.name, .int .i64 t.n, .slice gt mt ct, .slice ga ma ca, .slice gb mb cb, .slice gc mc cc] 44)) from HS.out)
  clear HS
  generalize w.alloc (.cells #[.int .i64 5, .int .i64 t.kind, .string t.name, .int .i64 t.n, .slice gt mt ct, .slice ga ma ca, .slice gb mb cb, .slice gc mc cc] 44) = u0 at HS0 ⊢
  have c0 : u0.cell? ⟨w.heap.size, 0, none⟩ = some (.int .i64 5) := HS0.out.cell0; have c1 : u0.cell? ⟨w.heap.size, 1, none⟩ = some (.int .i64 t.kind) := HS0.out.cell1; have c2 : u0.cell? ⟨w.heap.size, 2, none⟩ = some (.string t.name) := HS0.out.cell2; have c3 : u0.cell? ⟨w.heap.size, 3, none⟩ = some (.int .i64 t.n) := HS0.out.cell3; have c4 : u0.cell? ⟨w.heap.size, 4, none⟩ = some (.slice gt mt ct) := HS0.out.cell4; have c5 : u0.cell? ⟨w.heap.size, 5, none⟩ = some (.slice ga ma ca) := HS0.out.cell5; have c6 : u0.cell? ⟨w.heap.size, 6, none⟩ = some (.slice gb mb cb) := HS0.out.cell6; have c7 : u0.cell? ⟨w.heap.size, 7, none⟩ = some (.slice gc mc cc) := HS0.out.cell7; have cl := HS0.out.bxlt
  go_upto_region 17 with fail
  go_upto_region 18 with (go_at_call 24; (with_reducible refine (plit b (x) [92, 43, 32, 40] _ rfl _ HS0.out.pr (by (try simp only [List.length_cons, List.length_nil]); omega)).mono ?_); rintro e u1 ⟨rfl, hp, hf⟩; have HS1 := Lib.hid (HS0.out.next hp hf); have d0 : u1.cell? ⟨w.heap.size, 0, none⟩ = some (.int .i64 5) := HS1.out.cell0; have d1 : u1.cell? ⟨w.heap.size, 1, none⟩ = some (.int .i64 t.kind) := HS1.out.cell1; have d2 : u1.cell? ⟨w.heap.size, 2, none⟩ = some (.string t.name) := HS1.out.cell2; have d3 : u1.cell? ⟨w.heap.size, 3, none⟩ = some (.int .i64 t.n) := HS1.out.cell3; have d4 : u1.cell? ⟨w.heap.size, 4, none⟩ = some (.slice gt mt ct) := HS1.out.cell4; have d5 : u1.cell? ⟨w.heap.size, 5, none⟩ = some (.slice ga ma ca) := HS1.out.cell5; have d6 : u1.cell? ⟨w.heap.size, 6, none⟩ = some (.slice gb mb cb) := HS1.out.cell6; have d7 : u1.cell? ⟨w.heap.size, 7, none⟩ = some (.slice gc mc cc) := HS1.out.cell7; have dl := HS1.out.bxlt; clear hp hf)
  have HG1 := Lib.hid (hla b (x ++ [92, 43, 32, 40]) u1 _ HS1.out.pr (Gl.inn_mk.1 HS1.out.hi).2.2.1 HS1.out.pw hpg (by (try simp only [List.length_append, List.length_cons, List.length_nil]); omega))
  go_upto_region 19 with (go_at_call 25; (with_reducible refine (HG1.out).mono ?_); rintro e u2 ⟨rfl, hp, hf⟩; have HS2 := Lib.hid (HS1.out.next hp hf); have d0 : u2.cell? ⟨w.heap.size, 0, none⟩ = some (.int .i64 5) := HS2.out.cell0; have d1 : u2.cell? ⟨w.heap.size, 1, none⟩ = some (.int .i64 t.kind) := HS2.out.cell1; have d2 : u2.cell? ⟨w.heap.size, 2, none⟩ = some (.string t.name) := HS2.out.cell2; have d3 : u2.cell? ⟨w.heap.size, 3, none⟩ = some (.int .i64 t.n) := HS2.out.cell3; have d4 : u2.cell? ⟨w.heap.size, 4, none⟩ = some (.slice gt mt ct) := HS2.out.cell4; have d5 : u2.cell? ⟨w.heap.size, 5, none⟩ = some (.slice ga ma ca) := HS2.out.cell5; have d6 : u2.cell? ⟨w.heap.size, 6, none⟩ = some (.slice gb mb cb) := HS2.out.cell6; have d7 : u2.cell? ⟨w.heap.size, 7, none⟩ = some (.slice gc mc cc) := HS2.out.cell7; have dl := HS2.out.bxlt; clear hp hf)
  go_wp2_with (go_at_call 26; (with_reducible refine (pbyte_k b (x ++ [92, 43, 32, 40] ++ glsX la) 41 41 rfl _ HS2.out.pr (by (try simp only [List.length_append, List.length_cons, List.length_nil]); omega)).mono ?_); rintro e u3 ⟨rfl, hp, hf⟩; have HS3 := Lib.hid (HS2.out.next hp hf); have d0 : u3.cell? ⟨w.heap.size, 0, none⟩ = some (.int .i64 5) := HS3.out.cell0; have d1 : u3.cell? ⟨w.heap.size, 1, none⟩ = some (.int .i64 t.kind) := HS3.out.cell1; have d2 : u3.cell? ⟨w.heap.size, 2, none⟩ = some (.string t.name) := HS3.out.cell2; have d3 : u3.cell? ⟨w.heap.size, 3, none⟩ = some (.int .i64 t.n) := HS3.out.cell3; have d4 : u3.cell? ⟨w.heap.size, 4, none⟩ = some (.slice gt mt ct) := HS3.out.cell4; have d5 : u3.cell? ⟨w.heap.size, 5, none⟩ = some (.slice ga ma ca) := HS3.out.cell5; have d6 : u3.cell? ⟨w.heap.size, 6, none⟩ = some (.slice gb mb cb) := HS3.out.cell6; have d7 : u3.cell? ⟨w.heap.size, 7, none⟩ = some (.slice gc mc cc) := HS3.out.cell7; have dl := HS3.out.bxlt; clear hp hf)
  go_end0
  refine ⟨rfl, ?_, HS3.out.fr⟩
  have h9 := HS3.out.pr
  rw [HX.out]
  have e9 : x ++ [92, 43, 32, 40] ++ glsX la ++ [41] = x ++ ([92, 43, 32, 40] ++ (glsX la ++ [41])) := by simp
  rw [e9] at h9
  exact h9
set_option maxRecDepth 100000 in
set_option maxHeartbeats 8000000 in
theorem pgoal_else {t : Tm} {la lb lc : List Gl} {k : Int} (h1 : k ≠ 1) (h2 : k ≠ 2) (h3 : k ≠ 3) (h4 : k ≠ 4) (h5 : k ≠ 5) : PGo (.mk k t la lb lc) := by
  intro b x w sv av bv cv hpr hin hpw hpg hlx
  obtain ⟨_, hit, hia, hib, hic⟩ := Gl.inn_mk.1 hin
  obtain ⟨gt, mt, ct, rfl⟩ : ∃ g m c, sv = .slice g m c := by
    obtain ⟨_, g, c, e, _⟩ := Tm.inn_iff.1 hit
    exact ⟨_, _, _, e⟩
  obtain ⟨ga, ma, ca, rfl⟩ : ∃ g m c, av = .slice g m c := by
    obtain ⟨g, c, e, _⟩ := hia
    exact ⟨_, _, _, e⟩
  obtain ⟨gb, mb, cb, rfl⟩ : ∃ g m c, bv = .slice g m c := by
    obtain ⟨g, c, e, _⟩ := hib
    exact ⟨_, _, _, e⟩
  obtain ⟨gc, mc, cc, rfl⟩ : ∃ g m c, cv = .slice g m c := by
    obtain ⟨g, c, e, _⟩ := hic
    exact ⟨_, _, _, e⟩
  have HS := Lib.hid (PG.new hpr hin hpw hpg)
  have hx : gx (.mk k t la lb lc) = [102, 97, 105, 108] := by rw [gx, if_neg (by omega), if_neg h3, if_neg h4, if_neg h5]
  rw [hx] at hlx
  have HX := Lib.hid hx
  simp only [List.length_append, List.length_cons, List.length_nil] at hlx
  clear hit hia hib hic hin hx hpr hpw
  have q1 : (k == 1) = false := by rw [beq_eq_false_iff_ne]; exact h1
  have q2 : (k == 2) = false := by rw [beq_eq_false_iff_ne]; exact h2
  have q3 : (k == 3) = false := by rw [beq_eq_false_iff_ne]; exact h3
  have q4 : (k == 4) = false := by rw [beq_eq_false_iff_ne]; exact h4
  have q5 : (k == 5) = false := by rw [beq_eq_false_iff_ne]; exact h5
  clear h1 h2 h3 h4 h5
  show Calls Tryz.prog 38 #[.pointer (some ⟨b, 0, none⟩), .agg #[.int .i64 k, .int .i64 t.kind, .string t.name, .int .i64 t.n, .slice gt mt ct, .slice ga ma ca, .slice gb mb cb, .slice gc mc cc]] w _
  go_enter Tryz.func38, Tryz.ntmps38
  go_upto_region 1 with fail
  have HS0 := Lib.hid (show PG w b (.mk k t la lb lc) (.slice gt mt ct) (.slice ga ma ca) (.slice gb mb cb) (.slice gc mc cc) w.heap.size x (w.alloc (.cells #[.int .i64 k, .int .i64 t.kind, .string t.name, .int .i64 t.n, .slice gt mt ct, .slice ga ma ca, .slice gb mb cb, .slice gc mc cc] 44)) from HS.out)
  clear HS
  generalize w.alloc (.cells #[.int .i64 k, .int .i64 t.kind, .string t.name, .int .i64 t.n, .slice gt mt ct, .slice ga ma ca, .slice gb mb cb, .slice gc mc cc] 44) = u0 at HS0 ⊢
  have c0 : u0.cell? ⟨w.heap.size, 0, none⟩ = some (.int .i64 k) := HS0.out.cell0; have c1 : u0.cell? ⟨w.heap.size, 1, none⟩ = some (.int .i64 t.kind) := HS0.out.cell1; have c2 : u0.cell? ⟨w.heap.size, 2, none⟩ = some (.string t.name) := HS0.out.cell2; have c3 : u0.cell? ⟨w.heap.size, 3, none⟩ = some (.int .i64 t.n) := HS0.out.cell3; have c4 : u0.cell? ⟨w.heap.size, 4, none⟩ = some (.slice gt mt ct) := HS0.out.cell4; have c5 : u0.cell? ⟨w.heap.size, 5, none⟩ = some (.slice ga ma ca) := HS0.out.cell5; have c6 : u0.cell? ⟨w.heap.size, 6, none⟩ = some (.slice gb mb cb) := HS0.out.cell6; have c7 : u0.cell? ⟨w.heap.size, 7, none⟩ = some (.slice gc mc cc) := HS0.out.cell7; have cl := HS0.out.bxlt
  go_upto_region 2 with fail
  go_wp2_with (go_at_call 24; (with_reducible refine (plit b (x) [102, 97, 105, 108] _ rfl _ HS0.out.pr (by (try simp only [List.length_cons, List.length_nil]); omega)).mono ?_); rintro e u1 ⟨rfl, hp, hf⟩; have HS1 := Lib.hid (HS0.out.next hp hf); have d0 : u1.cell? ⟨w.heap.size, 0, none⟩ = some (.int .i64 k) := HS1.out.cell0; have d1 : u1.cell? ⟨w.heap.size, 1, none⟩ = some (.int .i64 t.kind) := HS1.out.cell1; have d2 : u1.cell? ⟨w.heap.size, 2, none⟩ = some (.string t.name) := HS1.out.cell2; have d3 : u1.cell? ⟨w.heap.size, 3, none⟩ = some (.int .i64 t.n) := HS1.out.cell3; have d4 : u1.cell? ⟨w.heap.size, 4, none⟩ = some (.slice gt mt ct) := HS1.out.cell4; have d5 : u1.cell? ⟨w.heap.size, 5, none⟩ = some (.slice ga ma ca) := HS1.out.cell5; have d6 : u1.cell? ⟨w.heap.size, 6, none⟩ = some (.slice gb mb cb) := HS1.out.cell6; have d7 : u1.cell? ⟨w.heap.size, 7, none⟩ = some (.slice gc mc cc) := HS1.out.cell7; have dl := HS1.out.bxlt; clear hp hf)
  go_end0
  refine ⟨rfl, ?_, HS1.out.fr⟩
  have h9 := HS1.out.pr
  rw [HX.out]
  have e9 : x ++ [102, 97, 105, 108] = x ++ ([102, 97, 105, 108]) := by simp
  rw [e9] at h9
  exact h9
theorem pgoal_all : ∀ g : Gl, g.size ≤ 1000000 → PGo g := Gl.ind fun k t la lb lc ha hb hc hsz => by
  simp only [Gl.size] at hsz
  have gl : ∀ l : List Gl, (∀ g ∈ l, g.size ≤ 1000000 → PGo g) → Gl.sizes l ≤ 1000000 → PGs l := fun l hl h => by
    refine pgoals_of l (fun g hg => hl g hg (Nat.le_trans (Gl.size_le hg) h)) ?_
    have : ∀ l : List Gl, l.length ≤ Gl.sizes l := fun l => by
      induction l with
      | nil => simp [Gl.sizes]
      | cons g r ih =>
        have : 1 ≤ g.size := by cases g; simp [Gl.size]
        simp only [List.length_cons, Gl.sizes]
        omega
    exact Nat.le_trans (this l) h
  by_cases h1 : k = 1
  · subst h1; exact pgoal_one (by omega)
  by_cases h2 : k = 2
  · subst h2; exact pgoal_two (by omega)
  by_cases h3 : k = 3
  · subst h3; exact pgoal_cut
  by_cases h4 : k = 4
  · subst h4; exact pgoal_if (gl la ha (by omega)) (gl lb hb (by omega)) (gl lc hc (by omega))
  by_cases h5 : k = 5
  · subst h5; exact pgoal_not (gl la ha (by omega))
  exact pgoal_else h1 h2 h3 h4 h5
theorem pgoals_all (l : List Gl) (hsz : Gl.sizes l ≤ 1000000) : PGs l := by
  refine pgoals_of l (fun g hg => pgoal_all g (Nat.le_trans (Gl.size_le hg) hsz)) ?_
  have : ∀ l : List Gl, l.length ≤ Gl.sizes l := fun l => by
    induction l with
    | nil => simp [Gl.sizes]
    | cons g r ih =>
      have : 1 ≤ g.size := by cases g; simp [Gl.size]
      simp only [List.length_cons, Gl.sizes]
      omega
  exact Nat.le_trans (this l) hsz
theorem sure_ne (t : Tm) : sureX t ≠ [] := by
  unfold sureX
  split
  · rename_i h
    have h2 := h.1
    simp only [Tm.right, Bool.and_eq_true] at h2
    exact tx_ne h2.1.1
  · simp
theorem gx_ne (g : Gl) : gx g ≠ [] := by
  obtain ⟨k, t, a, b, c⟩ := g
  rw [gx]
  split
  · exact sure_ne t
  split
  · simp
  split
  · simp
  split
  · simp
  · simp
theorem gls_ne (l : List Gl) : glsX l ≠ [] := by
  cases l with
  | nil => simp [glsX, gxs, rowX]
  | cons g r =>
    show gx g ++ joinX (gxs r) ≠ []
    intro e
    exact gx_ne g (List.append_eq_nil_iff.1 e).1
set_option maxRecDepth 100000 in
set_option maxHeartbeats 4000000 in
theorem wgoals_any (l : List Gl) (w : World) (v : Value) (hin : Gl.sliceIn w w.heap.size l v) (hsz : Gl.sizes l ≤ 1000000) (hpw : Pow w) (hlx : (glsX l).length ≤ 8000000000) :
    Calls Tryz.prog 14 #[v] w fun e w' => e = .returned (.string ⟨(glsX l).toArray⟩) ∧ Below w.heap.size w w' := by
  obtain ⟨g, cap, rfl, _, _, _⟩ := id hin
  have hpl := hpw.lt
  have hb2 := (Below.refl w.heap.size w).alloc (Nat.le_refl _) (.cells #[.pointer none, .slice none 0 0] 53)
  have HP := Lib.hid (Pr.fresh w)
  have HI := Lib.hid (Gl.sliceIn_below hin hb2 (Nat.le_refl _))
  have HW := Lib.hid (hpw.next hb2 hpl)
  have HB := Lib.hid hb2
  clear hin hpw hb2
  obtain ⟨m, hm⟩ : ∃ m, l.length = m := ⟨_, rfl⟩
  rw [hm] at HI ⊢
  clear hm
  go_enter Tryz.func14, Tryz.ntmps14
  go_upto_region 2 with fail
  generalize w.alloc (.cells #[.pointer none, .slice none 0 0] 53) = u at HP HI HW HB ⊢
  have HT := Lib.hid (pgoals_all l hsz w.heap.size [] u _ HP.out HI.out HW.out hpl (by rw [List.nil_append]; exact hlx))
  go_upto_region 3 with (go_at_call 25; (with_reducible refine (HT.out.mono ?_)); rintro e w2 ⟨rfl, hp, hf⟩; have HP2 := Lib.hid (show Pr w.heap.size (glsX l) w2 from hp); have HF2 := Lib.hid hf; clear hp hf)
  have HTX := Lib.hid (ptext_any w.heap.size (glsX l) w2 HP2.out (gls_ne l))
  go_wp2_with (go_at_call 18; (with_reducible refine (HTX.out.mono ?_)); rintro e w4 ⟨rfl, hb⟩; have HB4 := Lib.hid hb; clear hb)
  go_ret
  exact ⟨rfl, (HB.out.trans HF2.out.low).trans HB4.out⟩
end Go.Proofs.YtliapkajonbndaaGreatDoor
