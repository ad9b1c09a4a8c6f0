/-
  The program's Load.
  The program's query: the clause of a query.
-/
import Derived.Test.YtkjnjahmlobjiaaGreatDoorPmF
import Derived.Test.YtkjnjahmlobjiaaGreatDoorG30
import Derived.Test.YtkjnjahmlobjiaaGreatDoorG31
import Derived.Test.YtkjnjahmlobjiaaGreatDoorG28
namespace Go.Proofs.YtkjnjahmlobjiaaGreatDoor
open Go.RowKit

def LoadPost (w : World) (S : List UInt8) (e : Ending) (w' : World) : Prop :=
  Below w.heap.size w w' ∧ ∃ g m c at' cd, e = .returned (.tuple #[.agg #[.slice g m c], .int .i64 (at' : Nat), .int .i64 (cd : Nat)]) ∧
    (match loadE S with
      | .error (q, pl) => cd = q ∧ q ≠ 0 ∧ at' = pl ∧ g = none ∧ m = 0 ∧ c = 0
      | .ok p => cd = 0 ∧ at' = 0 ∧ Pc.sliceIn w' w'.heap.size p (.slice g m c))
/-- The text's clauses, as they are read. -/
def RowC (W : World) (lo B : Nat) (l : List Cl) (g : Option Addr) : Prop :=
  l = [] ∨ ∃ b off xs, g = some ⟨b, off, none⟩ ∧ lo ≤ b ∧ b < B ∧ clcP W (fun x => lo ≤ x ∧ x < B) l xs ∧ ∀ j u, xs[j]? = some u → W.cell? ⟨b, off + j, none⟩ = some u
theorem RowC.mv {P : Nat → Prop} {W W' : World} {lo B : Nat} {l : List Cl} {g : Option Addr} (h : RowC W lo B l g) (hf : FrP P W W') (hP : ∀ b, P b → b < lo ∨ B ≤ b) : RowC W' lo B l g := by
  rcases h with h | ⟨b, off, xs, e, h1, h2, h3, h4⟩
  · exact .inl h
  · exact .inr ⟨b, off, xs, e, h1, h2, clcP_same (fun _ h => h) (fun b o v hb hc => hf.cell hc (fun hp => by have := hb.1; have := hb.2; have := hP b hp; omega)) l xs h3, fun j u hj => hf.cell (h4 j u hj) (fun hp => by have := hP b hp; omega)⟩
/-- What stands while a program is loaded. -/
structure LdS (w0 : World) (l : List Cl) (g : Option Addr) (B px : Nat) (acc : List Pc) (v : Value) (W : World) : Prop where
  low : Below w0.heap.size w0 W
  bz : W.heap[w0.heap.size]? = some (.cells #[.slice none 0 0] 24 (0, 0))
  bp : W.heap[px]? = some (.cells #[v] 24 (0, 0))
  row : RowC W (w0.heap.size + 1) B l g
  own : POwn W (w0.heap.size + 1) px acc v
  tb : TabsLo W w0.heap.size
  hB : B ≤ px
  hl : w0.heap.size + 1 ≤ B
section
variable {w0 : World} {l : List Cl} {g : Option Addr} {B px : Nat} {acc : List Pc} {v : Value} {W : World} (h : LdS w0 l g B px acc v W)
include h
theorem LdS.lt : px < W.heap.size := (Array.getElem?_eq_some_iff.1 h.bp).1
theorem LdS.cp : W.cell? ⟨px, 0, none⟩ = some v := by simp [World.cell?, h.bp]
theorem LdS.cz : W.cell? ⟨w0.heap.size, 0, none⟩ = some (.slice none 0 0) := by simp [World.cell?, h.bz]
theorem LdS.fp : W.frozen? ⟨px, 0, none⟩ = false := by simp [World.frozen?, h.bp]
theorem LdS.fz : W.frozen? ⟨w0.heap.size, 0, none⟩ = false := by simp [World.frozen?, h.bz]
theorem LdS.next {W' : World} (hb : Below W.heap.size W W') : LdS w0 l g B px acc v W' := by
  have hlt := h.lt
  have hB := h.hB
  have hl := h.hl
  exact ⟨h.low.trans (hb.mono h.low.size), (hb.block _ (by omega)).trans h.bz, (hb.block _ hlt).trans h.bp, h.row.mv (FrP.of_below hb) (fun _ e => e.elim), h.own.keep (FrP.of_below hb) (fun _ e => e.elim) (by omega), h.tb.mv (FrP.of_below hb) (fun _ e => e.elim), hB, hl⟩
end
/-- Nothing is loaded: the result's box is written again. -/
theorem cellz {w0 : World} {V : World} (h : V.heap[w0.heap.size]? = some (.cells #[.slice none 0 0] 24 (0, 0))) (u : Value) : (V.setCell ⟨w0.heap.size, 0, none⟩ u).cell? ⟨w0.heap.size, 0, none⟩ = some u :=
  World.cell?_setCell_same V ⟨w0.heap.size, 0, none⟩ u (show V.cell? ⟨w0.heap.size, 0, none⟩ = some (.slice none 0 0) by simp [World.cell?, h])
theorem clause_n {x : Cl} {c : Pc} (h : clauseE x = .ok c) : c.n = (x.2.length : Nat) := by
  unfold clauseE at h
  split at h
  · cases h
  · cases hg : goalsE (bodyOf x.1) with
    | error q => rw [hg] at h; cases h
    | ok l =>
      rw [hg] at h
      injection h with h
      subst h
      rfl
theorem wf_small {n : Nat} (h : n ≤ 1000000) : (Lit.int .i64 (n : Int)).wf = true := by
  have hi : IntKind.i64.min ≤ (n : Int) ∧ (n : Int) ≤ 9223372036854775807 := ⟨by show (-9223372036854775808 : Int) ≤ n; omega, by omega⟩
  simpa [Lit.wf] using hi
theorem news6 {w : World} {a0 a1 a2 a3 a4 a5 : Value} {t : TypeId} (n : Nat) (hn : n = w.heap.size) : ∀ (j : Nat) (u : Value), [a0, a1, a2, a3, a4, a5][j]? = some u → (w.alloc (.cells #[a0, a1, a2, a3, a4, a5] t)).cell? ((⟨n, 0, none⟩ : Addr).add j) = some u := by
  intro j u hj
  subst hn
  rw [Addr.add_lit]
  simp only [Nat.zero_add]
  rw [World.cell?_alloc_new]
  simpa using hj
set_option maxRecDepth 100000 in
set_option maxHeartbeats 32000000 in
theorem pload_any (s : ByteArray) (w : World) (hr : Rng w) (ht : Tabs w) (hs : s.size ≤ 1000000) : Calls Tryz.prog 16 #[.string s] w fun e w' => LoadPost w (bs s) e w' := by
  have HB0 := Lib.hid ((Below.refl w.heap.size w).alloc (Nat.le_refl _) (.cells #[.slice none 0 0] 24))
  have HN0 := Lib.hid (heap_alloc_new w (.cells #[.slice none 0 0] 24))
  have HR0 := Lib.hid (hr.next HB0.out)
  have HT := Lib.hid ht
  have HCL := Lib.hid (fun w1 (hr1 : Rng w1) => clauses_all s w1 hr1 hs)
  have HX := Lib.hid (show loadE (bs s) = match readE (bs s) with
    | .error e => .error e
    | .ok l => match progE l 0 with
      | .error e => .error e
      | .ok p => if (checkB p).2 = 0 then .ok p else .error ((checkB p).2, (checkB p).1) from rfl)
  clear hr ht hs
  go_enter Tryz.func16, Tryz.ntmps16
  go_upto_region 1 with fail
  obtain ⟨u0, hu0⟩ : ∃ u0, w.alloc (.cells #[.slice none 0 0] 24) = u0 := ⟨_, rfl⟩
  rw [hu0] at HB0 HN0 HR0
  have HZ0 := Lib.hid (show u0.heap.size = w.heap.size + 1 from hu0 ▸ by simp)
  rw [hu0]
  clear hu0
  go_upto_region 2 with (go_at_call 28; (with_reducible refine (HCL.out _ HR0.out).mono ?_); rintro e u1 ⟨hb, l, sv, b, cd, rfl, hl, hcd3, hp⟩; have HB1 := Lib.hid (HB0.out.trans (hb.mono HB0.out.size)); have HN1 := Lib.hid ((hb.block _ (by have := HZ0.out; omega)).trans HN0.out); have HL := Lib.hid hl; have HP := Lib.hid hp; have HZ1 := Lib.hid hb.size; clear hb hl hp)
  cases hrd : readE (bs s) with
  | error q =>
    obtain ⟨k9, pl⟩ := q
    have h0 := HP.out
    rw [hrd] at h0
    obtain ⟨h1, h2, h3, h4⟩ := h0
    subst h2 h3
    have HXE := Lib.hid (show loadE (bs s) = .error (cd, b) by rw [HX.out, hrd])
    have kd : ((cd : Int) == 0) = false := by rw [beq_eq_false_iff_ne]; omega
    have kd2 : ((cd : Int) != 0) = true := by simp [bne, kd]
    have hcd0 : cd ≠ 0 := by omega
    have HC0 := Lib.hid hcd0
    clear hrd h4 hcd0 h1
    have z0 : u1.cell? ⟨w.heap.size, 0, none⟩ = some (.slice none 0 0) := by simp [World.cell?, HN1.out]
    have zf : u1.frozen? ⟨w.heap.size, 0, none⟩ = false := by simp [World.frozen?, HN1.out]
    have zl := (Array.getElem?_eq_some_iff.1 HN1.out).1
    obtain ⟨g9, cap9, hsv, -⟩ := HL.out
    subst hsv
    go_wp2_with fail
    have r0 := cellz HN1.out (.slice none 0 0)
    have hfr := FrP.setC u1 w.heap.size 0 (.slice none 0 0)
    refine bodyPost_ret (v := .tuple #[.agg #[.slice none 0 0], .int .i64 (b : Nat), .int .i64 (cd : Nat)]) (by simp [results, Tryz.results16, go_sem, r0]) rfl ?_
    exact ⟨HB1.out.trans ((hfr.mono (fun x _ e => by show w.heap.size ≤ x; omega)).to_below HB1.out.size), none, 0, 0, b, cd, rfl, by rw [HXE.out]; exact ⟨rfl, HC0.out, rfl, rfl, rfl, rfl⟩⟩
  | ok l' =>
  have h0 := HP.out
  rw [hrd] at h0
  obtain ⟨h1, h2, h3⟩ := h0
  subst h1 h2 h3
  have HX := Lib.hid (show loadE (bs s) = match progE l 0 with
      | .error e => .error e
      | .ok p => if (checkB p).2 = 0 then .ok p else .error ((checkB p).2, (checkB p).1) by rw [HX.out, hrd])
  obtain ⟨hlen, hall⟩ := read_len hrd
  have HALL := Lib.hid hall
  clear hrd hall hcd3 HP HCL
  obtain ⟨g, cap, hsv, hrow⟩ := HL.out
  subst hsv
  have HROW := Lib.hid (show RowC u1 (w.heap.size + 1) u1.heap.size l g by
    rcases hrow with h | ⟨rb, off, xs, e, h1, h2, h3, h4⟩
    · exact .inl h
    · exact .inr ⟨rb, off, xs, e, by have := HZ0.out; omega, h2, clcP_same (fun x hx => ⟨by have := HZ0.out; omega, hx.2⟩) (fun _ _ _ _ h => h) l xs h3, h4⟩)
  clear hrow
  obtain ⟨m, hm⟩ : ∃ m, l.length = m := ⟨_, rfl⟩
  rw [hm] at hlen
  rw [hm]
  have HM := Lib.hid hm
  clear hm
  go_upto_region 5 with fail
  obtain ⟨u2, hu2⟩ : ∃ u2, u1.alloc (.cells #[.slice none 0 0] 24) = u2 := ⟨_, rfl⟩
  have hb2 : Below u1.heap.size u1 u2 := hu2 ▸ (Below.refl _ u1).alloc (Nat.le_refl _) _
  have hn2 : u2.heap[u1.heap.size]? = some (.cells #[.slice none 0 0] 24 (0, 0)) := hu2 ▸ heap_alloc_new u1 _
  rw [hu2]
  have HS2 := Lib.hid (show LdS w l g u1.heap.size u1.heap.size [] (.slice none 0 0) u2 from
    ⟨HB1.out.trans (hb2.mono HB1.out.size), (hb2.block _ (by have := HZ0.out; have := HZ1.out; omega)).trans HN1.out, hn2, HROW.out.mv (FrP.of_below hb2) (fun _ e => e.elim), POwn.nil _ _ _, (TabsLo.of HT.out (Nat.le_refl _)).mv (FrP.of_below (HB1.out.trans (hb2.mono HB1.out.size))) (fun _ e => e.elim), Nat.le_refl _, by have := HZ0.out; have := HZ1.out; omega⟩)
  clear hu2 hb2 hn2 HROW
  generalize u1.heap.size = px at HS2 ⊢
  go_wp2_with fail
  go_loopw [28] (fun i wr => ∃ (k : Nat), k ≤ m ∧ i = .int .i64 k ∧ Hid (∃ acc v, acc.length = k ∧ accG acc (progE (l.drop k) k) = progE l 0 ∧ (∀ c ∈ acc, c.h.size ≤ 999999 ∧ Gl.sizes c.b ≤ 999999) ∧ LdS w l g px px acc v wr)) (fun i _ => m - (intOf i).toNat)
  case atStart => exact ⟨0, Nat.zero_le _, rfl, Lib.hid ⟨[], _, rfl, by rw [List.drop_zero, accG_nil], (fun c hc => by cases hc), HS2.out⟩⟩
  case round =>
    obtain ⟨k, hk, rfl, hst⟩ := hrel
    obtain ⟨acc, v, hacc, hpr, hsm, hld⟩ := hst.out
    have HACC := Lib.hid hacc
    have HPR := Lib.hid hpr
    have HSM := Lib.hid hsm
    have HS := Lib.hid hld
    clear hst hacc hpr hsm hld
    by_cases hlt : k < m
    · have hlt' : k < l.length := by rw [HM.out]; exact hlt
      have HBD := Lib.hid (fun q h => prog_bad (q := q) hlt' HPR.out h)
      have HNX := Lib.hid (fun c h => prog_next (c := c) hlt' HPR.out h)
      rcases HS.out.row with h9 | ⟨rb, off, xs, hg, hrlo, hrb, hcl, hce⟩
      · rw [h9] at hlt'; exact absurd hlt' (Nat.not_lt_zero _)
      subst hg
      obtain ⟨sv, nv, e0, e1, e2, e3, e4, hin, hnm⟩ := clcP_at hcl k hlt'
      have hrt := HALL.out _ (List.getElem_mem hlt')
      generalize l[k] = x at e0 e1 e2 e3 e4 hin hnm hrt HBD HNX
      obtain ⟨gn, cn, hnv, -⟩ := id hnm
      subst hnv
      have x0 := hce _ _ e0
      have x1 := hce _ _ e1
      have x2 := hce _ _ e2
      have x3 := hce _ _ e3
      have x4 := hce _ _ e4
      obtain ⟨_, gt, ct, rfl, -⟩ := Tm.innP_iff.1 hin
      have hrb2 : rb < wr.heap.size := by have := HS.out.hB; have := HS.out.lt; omega
      have HIN := Lib.hid hin
      have HRT := Lib.hid hrt.1
      have HNL := Lib.hid hrt.2
      obtain ⟨mt, hmt⟩ : ∃ q, x.1.args.length = q := ⟨_, rfl⟩
      obtain ⟨qn, hqn⟩ : ∃ q, x.2.length = q := ⟨_, rfl⟩
      rw [hmt] at x3 HIN
      rw [hqn] at x4
      have HQN := Lib.hid hqn
      have j0 : (0 : Int) ≤ (k : Int) := by omega
      have j1 : (k : Int) < (m : Int) := by omega
      have jz : (0 : Int) + (k : Int) = (k : Int) := by omega
      have jw : IntKind.i64.wrap (k : Int) = (k : Int) := by rw [IntKind.wrap_i64]; omega
      clear hin hnm e0 e1 e2 e3 e4 hcl hce hrt hmt hqn
      have x0 : wr.cell? ⟨rb, off + k * 5, none⟩ = some (.int .i64 x.1.kind) := x0
      have x1 : wr.cell? ⟨rb, off + k * 5 + 1, none⟩ = some (.string x.1.name) := by rw [Nat.add_assoc]; exact x1
      have x2 : wr.cell? ⟨rb, off + k * 5 + 2, none⟩ = some (.int .i64 x.1.n) := by rw [Nat.add_assoc]; exact x2
      have x3 : wr.cell? ⟨rb, off + k * 5 + 3, none⟩ = some (.slice gt mt ct) := by rw [Nat.add_assoc]; exact x3
      have x4 : wr.cell? ⟨rb, off + k * 5 + 4, none⟩ = some (.slice gn qn cn) := by rw [Nat.add_assoc]; exact x4
      go_upto_region 8 with fail
      obtain ⟨u3, hu3⟩ : ∃ u3, wr.alloc (.cells #[.int .i64 x.1.kind, .string x.1.name, .int .i64 x.1.n, .slice gt mt ct, .slice gn qn cn] 67) = u3 := ⟨_, rfl⟩
      have hb3 : Below wr.heap.size wr u3 := hu3 ▸ (Below.refl _ wr).alloc (Nat.le_refl _) _
      have hn3 : u3.heap[wr.heap.size]? = some (.cells #[.int .i64 x.1.kind, .string x.1.name, .int .i64 x.1.n, .slice gt mt ct, .slice gn qn cn] 67 (0, 0)) := hu3 ▸ heap_alloc_new wr _
      rw [hu3]
      have HS3 := Lib.hid (HS.out.next hb3)
      have y0 : u3.cell? ⟨wr.heap.size, 0, none⟩ = some (.int .i64 x.1.kind) := by simp [World.cell?, hn3]
      have y1 : u3.cell? ⟨wr.heap.size, 1, none⟩ = some (.string x.1.name) := by simp [World.cell?, hn3]
      have y2 : u3.cell? ⟨wr.heap.size, 2, none⟩ = some (.int .i64 x.1.n) := by simp [World.cell?, hn3]
      have y3 : u3.cell? ⟨wr.heap.size, 3, none⟩ = some (.slice gt mt ct) := by simp [World.cell?, hn3]
      have y4 : u3.cell? ⟨wr.heap.size, 4, none⟩ = some (.slice gn qn cn) := by simp [World.cell?, hn3]
      have yl := (Array.getElem?_eq_some_iff.1 hn3).1
      have HCC := Lib.hid (pmclause_any x u3 (.slice gt mt ct) (.slice gn qn cn) (fun y => w.heap.size + 1 ≤ y ∧ y < px) (Tm.innP_same (fun _ h => h) (fun b o v hb hc => (hb3.cell (p := ⟨b, o, none⟩) (by have := HS.out.lt; have := hb.2; show b < wr.heap.size; omega)).trans hc) _ _ HIN.out) (fun b hb => by have := HS3.out.lt; omega) HS3.out.tb.tabs HRT.out gn cn (by rw [HQN.out]))
      have HPX := Lib.hid HS.out.lt
      have HSZ3 := Lib.hid hb3.size
      clear hu3 hb3 hn3 x0 x1 x2 x3 x4
      go_upto_region 9 with (go_at_call 29; (with_reducible refine (HCC.out).mono ?_); rintro e u4 ⟨hb, ck, cnm, cn9, cg, cm, cc, hv, hm, hc9, cq, cd, rfl, hmm⟩; have HS4 := Lib.hid (HS3.out.next hb); have HMM := Lib.hid hmm; have HSZ4 := Lib.hid hb.size; clear hb hmm)
      clear y0 y1 y2 y3 y4 yl
      obtain ⟨u5, hu5⟩ : ∃ u5, u4.alloc (.cells #[.int .i64 ck, .string cnm, .int .i64 cn9, .slice cg cm cc, .slice hv hm hc9, .int .i64 (cq : Nat)] 37) = u5 := ⟨_, rfl⟩
      have hb5 : Below u4.heap.size u4 u5 := hu5 ▸ (Below.refl _ u4).alloc (Nat.le_refl _) _
      have hn5 : u5.heap[u4.heap.size]? = some (.cells #[.int .i64 ck, .string cnm, .int .i64 cn9, .slice cg cm cc, .slice hv hm hc9, .int .i64 (cq : Nat)] 37 (0, 0)) := hu5 ▸ heap_alloc_new u4 _
      rw [hu5]
      have HS5 := Lib.hid (HS4.out.next hb5)
      have HB5 := Lib.hid hb5
      obtain ⟨⟨y0, y1, y2, y3, y4, y5⟩, -⟩ := row6c hn5
      have yl := (Array.getElem?_eq_some_iff.1 hn5).1
      have p0 := HS5.out.cp
      have pf := HS5.out.fp
      have plt := HS5.out.lt
      have z0 := HS5.out.cz
      have zf := HS5.out.fz
      have zlt : w.heap.size < u5.heap.size := by have := HS5.out.hl; have := HS5.out.hB; omega
      clear hu5 hb5 hn5
      cases hce : clauseE x with
      | error r =>
        have h9 := HMM.out
        rw [hce] at h9
        obtain ⟨rfl, hr0⟩ := h9
        have HXE := Lib.hid (show loadE (bs s) = .error (cd, k) by rw [HX.out, HBD.out _ hce])
        have kd : ((cd : Int) == 0) = false := by rw [beq_eq_false_iff_ne]; omega
        have kd2 : ((cd : Int) != 0) = true := by simp [bne, kd]
        have HR9 := Lib.hid hr0
        clear hce hr0
        go_wp2_with fail
        have r0 := cellz HS5.out.bz (.slice none 0 0)
        have hfr := FrP.setC u5 w.heap.size 0 (.slice none 0 0)
        refine bodyPost_ret (v := .tuple #[.agg #[.slice none 0 0], .int .i64 (k : Nat), .int .i64 (cd : Nat)]) (by simp [results, Tryz.results16, go_sem, r0]) rfl ?_
        exact ⟨HS5.out.low.trans ((hfr.mono (fun x _ e => by show w.heap.size ≤ x; omega)).to_below HS5.out.low.size), none, 0, 0, k, cd, rfl, by rw [HXE.out]; exact ⟨rfl, HR9.out, rfl, rfl, rfl, rfl⟩⟩
      | ok c =>
        have h9 := HMM.out
        rw [hce] at h9
        obtain ⟨rfl, hk1, hk2, hk3, hk4, hk5, hk6⟩ := h9
        have HN9 := Lib.hid (HNX.out _ hce)
        have HSC := Lib.hid (clause_small HRT.out hce)
        have HCLN := Lib.hid (show c.n ≤ 8000 by rw [clause_n hce]; have h1 := HNL.out; omega)
        subst hk1 hk2 hk3
        obtain ⟨i0, hi, hz0, hz1, hz2⟩ := info_parts clauseInfo
        have HK4 := Lib.hid hk4
        have HK5 := Lib.hid hk5
        have HK6 := Lib.hid hk6
        clear hce hk4 hk5 hk6
        obtain ⟨ys, hrw, hcs⟩ := HS5.out.own.rows
        have HRW := Lib.hid hrw
        have HCS := Lib.hid hcs
        have hAcc : acc.length ≤ 8000 := by have := HACC.out; omega
        clear hrw hcs
        have hpo : v.ownBlock ≠ some px := fun e => by have := (HRW.out.lt px e).1; omega
        have HPO := Lib.hid hpo
        have HCN := Lib.hid (show (cq : Int) = c.n from HK4.out)
        have HWF := Lib.hid (show (Lit.int .i64 c.n).wf = true by rw [← HCN.out]; exact wf_small (by have h1 := HCN.out; have h2 := HCLN.out; omega))
        have kd2 : (((0 : Nat) : Int) != 0) = false := rfl
        go_wp2_with (at_builtin; refine wpList_append_any rfl _ _ 22 rfl (px + 1) 37 i0 _ 6 88 Tryz.underlying22 hi hz0 hz1 hz2 rfl (by decide) v acc.length ys rfl (HRW.out.alloc _) (some ⟨u5.heap.size, 0, none⟩) 1 1 [.int .i64 c.h.kind, .string c.h.name, .int .i64 c.h.n, .slice cg cm cc, .slice hv hm hc9, .int .i64 (cq : Nat)] rfl rfl (.inr ⟨_, rfl, news6 _ rfl⟩) (by intro u hu; simp at hu; rcases hu with rfl | rfl | rfl | rfl | rfl | rfl <;> rfl) (by unfold maxLen; omega) (by omega) (by simp; omega) ?_; intro v6 u6 ho hg hw; have HO6 := Lib.hid ho; have HG6 := Lib.hid hg; have HW6 := Lib.hid hw; have p6 : u6.cell? ⟨px, 0, none⟩ = some v := hg.cell (a := ⟨px, 0, none⟩) ((World.cell?_alloc_lt _ _ _ plt).trans p0) (fun e => HPO.out e.symm); have hb6 : u6.heap[px]? = some (.cells #[v] 24 (0, 0)) := (hg.block px (by simp; omega) (fun e => HPO.out e.symm)).trans ((Below.heap_alloc _ _ _ plt).trans HS5.out.bp); have pf6 : u6.frozen? ⟨px, 0, none⟩ = false := (by simp [World.frozen?, hb6]); have HB6 := Lib.hid hb6; obtain ⟨g6, c6, hv6⟩ := owns_slice ho; subst hv6; clear ho hg hw hb6)
        have HSN := Lib.hid (show LdS w l (some ⟨rb, off, none⟩) px px (acc ++ [c]) (.slice g6 (acc.length + 1) c6) (u6.setCell ⟨px, 0, none⟩ (.slice g6 (acc.length + 1) c6)) by
          have hA := (Below.refl u5.heap.size u5).alloc (Nat.le_refl _) (.cells #[.int .i64 c.h.kind, .string c.h.name, .int .i64 c.h.n, .slice cg cm cc, .slice hv hm hc9, .int .i64 (cq : Nat)] 37)
          have hSA := HS5.out.next hA
          have hlo : ∀ b, v.ownBlock = some b → px + 1 ≤ b := fun b e => (HRW.out.lt b e).1
          have hf6 : FrP (fun x => px + 1 ≤ x) (u5.alloc (.cells #[.int .i64 c.h.kind, .string c.h.name, .int .i64 c.h.n, .slice cg cm cc, .slice hv hm hc9, .int .i64 (cq : Nat)] 37)) u6 := (FrP.of_grown HG6.out).mono (fun x _ e => hlo x e.symm)
          have hfp : FrP (fun x => x = px) u6 (u6.setCell ⟨px, 0, none⟩ (.slice g6 (acc.length + 1) c6)) := FrP.setC u6 px 0 _
          have hfa : FrP (fun x => px ≤ x) (u5.alloc (.cells #[.int .i64 c.h.kind, .string c.h.name, .int .i64 c.h.n, .slice cg cm cc, .slice hv hm hc9, .int .i64 (cq : Nat)] 37)) (u6.setCell ⟨px, 0, none⟩ (.slice g6 (acc.length + 1) c6)) := hf6.trans hfp (fun x _ e => by show px ≤ x; omega) (fun x _ e => by show px ≤ x; omega)
          have hlB := HS5.out.hl
          have hlt5 := hSA.lt
          have hown : POwn u6 (w.heap.size + 1) px (acc ++ [c]) (.slice g6 (acc.length + 1) c6) := by
            refine POwn.more (HRW.out.alloc _) (Pc.cellsP_same (fun b hb => ⟨hb.1, by have := hb.2.1; simp; omega, hb.2.2⟩) (fun b o u hb hc => (World.cell?_alloc_lt _ _ _ hb.2.1).trans hc) _ _ HCS.out) HG6.out HW6.out (sv := .slice cg cm cc) (u := .slice hv hm hc9) (by rw [← HCN.out]; exact HO6.out) ⟨HWF.out, ?_, ?_⟩
            · refine Tm.innP_same (fun b hb => ⟨hb.1, by have h1 : b < px := hb.2; have := HS4.out.lt; have := HB5.out.size; simp; omega, fun e => by have h1 : b < px := hb.2; have := hlo b e; omega, by have h1 : b < px := hb.2; omega⟩) (fun b o u hb hc => ?_) _ _ HK5.out
              have h4 : b < u4.heap.size := by have h1 : b < px := hb.2; have := HS4.out.lt; omega
              exact (World.cell?_alloc_lt _ _ _ (by have := HB5.out.size; show b < u5.heap.size; omega)).trans ((HB5.out.cell (p := ⟨b, o, none⟩) h4).trans hc)
            · have h9 := HK6.out.reads (by have h8 := HSC.out.2.2; omega)
              have hold : ∀ b, v.ownBlock = some b → b < u3.heap.size := fun b e => by
                obtain ⟨ys0, hr0, -⟩ := HS3.out.own.rows
                exact (hr0.lt b e).2
              refine Gl.sliceP_same (fun g _ => Gl.innP_same (ok' := okP (w.heap.size + 1) px (u5.alloc (.cells #[.int .i64 c.h.kind, .string c.h.name, .int .i64 c.h.n, .slice cg cm cc, .slice hv hm hc9, .int .i64 (cq : Nat)] 37)) v) (fun b hb => ⟨by have h1 : u3.heap.size ≤ b := hb.1; have := HS3.out.lt; omega, by have h2 : b < u4.heap.size := hb.2; have := HB5.out.size; simp; omega, fun e => by have h1 : u3.heap.size ≤ b := hb.1; have := hold b e; omega, by have h1 : u3.heap.size ≤ b := hb.1; have := HS3.out.lt; omega⟩) (fun b o u hb hc => (World.cell?_alloc_lt _ _ _ (by have h2 : b < u4.heap.size := hb.2; have := HB5.out.size; show b < u5.heap.size; omega)).trans ((HB5.out.cell (p := ⟨b, o, none⟩) (show b < u4.heap.size from hb.2)).trans hc)) g) (fun b hb => ⟨by have h1 : u3.heap.size ≤ b := hb.1; have := HS3.out.lt; omega, by have h2 : b < u4.heap.size := hb.2; have := HB5.out.size; simp; omega, fun e => by have h1 : u3.heap.size ≤ b := hb.1; have := hold b e; omega, by have h1 : u3.heap.size ≤ b := hb.1; have := HS3.out.lt; omega⟩) (fun b o u hb hc => (World.cell?_alloc_lt _ _ _ (by have h2 : b < u4.heap.size := hb.2; have := HB5.out.size; show b < u5.heap.size; omega)).trans ((HB5.out.cell (p := ⟨b, o, none⟩) (show b < u4.heap.size from hb.2)).trans hc)) h9
          exact ⟨hSA.low.trans ((hfa.mono (fun x _ e => by show w.heap.size ≤ x; omega)).to_below hSA.low.size), (hfa.block _ (by omega) (by omega)).trans hSA.bz, by have h9 := HB6.out; simp [World.setCell, Array.getElem?_modify, h9], hSA.row.mv hfa (fun b hb => .inr hb), hown.keep hfp (fun b hb => .inr hb) (by omega), hSA.tb.mv hfa (fun x e => by omega), hSA.hB, hlB⟩)
        have HSM2 := Lib.hid (show ∀ y ∈ acc ++ [c], y.h.size ≤ 999999 ∧ Gl.sizes y.b ≤ 999999 from fun y hy => by
          rcases List.mem_append.1 hy with h | h
          · exact HSM.out y h
          · rw [List.mem_singleton.1 h]; exact ⟨HSC.out.1, HSC.out.2.1⟩)
        have HL2 := Lib.hid (show (acc ++ [c]).length = k + 1 by rw [List.length_append, HACC.out]; rfl)
        go_roundw
        case rel => exact ⟨_, _, _, _, _, _, .int .i64 ((k : Int) + 1), ⟨k + 1, by omega, by go_num, Lib.hid ⟨_, HL2.out, HN9.out, HSM2.out, _, HSN.out⟩⟩, rfl, rfl, rfl, rfl, rfl, rfl, rfl⟩
        case measure => simp [intOf]; omega
    · obtain rfl : m = k := by omega
      have HPE := Lib.hid (show progE l 0 = .ok acc from prog_done (by rw [HM.out]; exact HPR.out))
      have HX2 := Lib.hid (show loadE (bs s) = if (checkB acc).2 = 0 then .ok acc else .error ((checkB acc).2, (checkB acc).1) by rw [HX.out, HPE.out])
      obtain ⟨gv, cv, hv⟩ := HS.out.own.slice
      subst hv
      have HCK := Lib.hid (pcheck_any acc wr _ (HS.out.own.reads (by have := HACC.out; omega)) HS.out.tb.tabs HSM.out)
      have p0 := HS.out.cp
      have plt := HS.out.lt
      have hAL := HACC.out
      obtain ⟨ci, ce, hcc⟩ : ∃ i e, checkB acc = (i, e) := ⟨_, _, rfl⟩
      rw [hcc] at HCK HX2
      have jn : ((m : Int) < (m : Int)) = False := by simp only [eq_iff_iff, iff_false]; omega
      clear hAL hcc
      go_upto_region 14 with (go_at_call 8; (with_reducible refine (HCK.out).mono ?_); rintro e u5 ⟨rfl, hb⟩; have HS5 := Lib.hid (HS.out.next hb); clear hb)
      clear p0 plt
      have p0 := HS5.out.cp
      have plt := HS5.out.lt
      have z0 := HS5.out.cz
      have zf := HS5.out.fz
      have zlt : w.heap.size < u5.heap.size := by have := HS5.out.hl; have := HS5.out.hB; omega
      by_cases hc0 : ce = 0
      · have HXO := Lib.hid (show loadE (bs s) = .ok acc by rw [HX2.out]; exact if_pos hc0)
        subst hc0
        have kd2 : (((0 : Nat) : Int) != 0) = false := rfl
        go_wp2_with fail
        have r0 := cellz HS5.out.bz (.slice gv acc.length cv)
        have hfr := FrP.setC u5 w.heap.size 0 (.slice gv acc.length cv)
        refine bodyPost_ret (v := .tuple #[.agg #[.slice gv acc.length cv], .int .i64 ((0 : Nat) : Int), .int .i64 ((0 : Nat) : Int)]) (by simp [results, Tryz.results16, go_sem, r0]) rfl ?_
        exact ⟨HS5.out.low.trans ((hfr.mono (fun x _ e => by show w.heap.size ≤ x; omega)).to_below HS5.out.low.size), gv, acc.length, cv, 0, 0, rfl, by
          rw [HXO.out]
          exact ⟨rfl, rfl, (HS5.out.own.keep hfr (fun b hb => .inl (by omega)) (by have := HS5.out.hl; have := HS5.out.hB; omega)).reads (by have := HACC.out; omega)⟩⟩
      · have HXO := Lib.hid (show loadE (bs s) = .error (ce, ci) by rw [HX2.out]; exact if_neg hc0)
        have kd : ((ce : Int) == 0) = false := by rw [beq_eq_false_iff_ne]; omega
        have kd2 : ((ce : Int) != 0) = true := by simp [bne, kd]
        have HC9 := Lib.hid hc0
        clear hc0
        go_wp2_with fail
        have r0 := cellz HS5.out.bz (.slice none 0 0)
        have hfr := FrP.setC u5 w.heap.size 0 (.slice none 0 0)
        refine bodyPost_ret (v := .tuple #[.agg #[.slice none 0 0], .int .i64 (ci : Nat), .int .i64 (ce : Nat)]) (by simp [results, Tryz.results16, go_sem, r0]) rfl ?_
        exact ⟨HS5.out.low.trans ((hfr.mono (fun x _ e => by show w.heap.size ≤ x; omega)).to_below HS5.out.low.size), none, 0, 0, ci, ce, rfl, by rw [HXO.out]; exact ⟨rfl, HC9.out, rfl, rfl, rfl, rfl⟩⟩
end Go.Proofs.YtkjnjahmlobjiaaGreatDoor

namespace Go.Proofs.YtkjnjahmlobjiaaGreatDoor
open Go.RowKit

/-- The code of a text's clause, read as a query. -/
def qE (x : Cl) (p : List Pc) : Nat :=
  match goalsE x.1 with
  | .error q => q
  | .ok l => if 8 < x.2.length then 3 else if thL p l = false then 9 else 0
def QPost (w : World) (x : Cl) (p : List Pc) (e : Ending) (w' : World) : Prop :=
  Below w.heap.size w w' ∧ ∃ k nm n g m c gv mv cv q cd, e = .returned (.tuple #[.agg #[.int .i64 k, .string nm, .int .i64 n, .slice g m c, .slice gv mv cv, .int .i64 q], .int .i64 (cd : Nat)]) ∧
    cd = qE x p ∧ (cd = 0 → m = x.2.length)
/-- The boxes of the call: the text's clause, the program, the result. -/
structure QS (w0 : World) (x : Cl) (sv nv : Value) (p : List Pc) (u : Value) (W : World) : Prop where
  low : Below w0.heap.size w0 W
  bx : W.heap[w0.heap.size]? = some (.cells #[.int .i64 x.1.kind, .string x.1.name, .int .i64 x.1.n, sv, nv] 67 (0, 0))
  bp : W.heap[w0.heap.size + 1]? = some (.cells #[u] 24 (0, 0))
  bz : W.heap[w0.heap.size + 2]? = some (.cells #[.int .i64 0, .string ⟨#[]⟩, .int .i64 0, .slice none 0 0, .slice none 0 0, .int .i64 0] 37 (0, 0))
  hi : Tm.inn W W.heap.size x.1 sv
  hp : Pc.sliceIn W W.heap.size p u
  tb : Tabs W
section
variable {w0 : World} {x : Cl} {sv nv : Value} {p : List Pc} {u : Value} {W : World} (h : QS w0 x sv nv p u W)
include h
theorem QS.lt : w0.heap.size + 2 < W.heap.size := (Array.getElem?_eq_some_iff.1 h.bz).1
theorem QS.c0 : W.cell? ⟨w0.heap.size, 0, none⟩ = some (.int .i64 x.1.kind) := by simp [World.cell?, h.bx]
theorem QS.c1 : W.cell? ⟨w0.heap.size, 1, none⟩ = some (.string x.1.name) := by simp [World.cell?, h.bx]
theorem QS.c2 : W.cell? ⟨w0.heap.size, 2, none⟩ = some (.int .i64 x.1.n) := by simp [World.cell?, h.bx]
theorem QS.c3 : W.cell? ⟨w0.heap.size, 3, none⟩ = some sv := by simp [World.cell?, h.bx]
theorem QS.c4 : W.cell? ⟨w0.heap.size, 4, none⟩ = some nv := by simp [World.cell?, h.bx]
theorem QS.cp : W.cell? ⟨w0.heap.size + 1, 0, none⟩ = some u := by simp [World.cell?, h.bp]
theorem QS.next {W' : World} (hb : Below W.heap.size W W') : QS w0 x sv nv p u W' :=
  ⟨h.low.trans (hb.mono h.low.size), (hb.block _ (by have := h.lt; omega)).trans h.bx, (hb.block _ (by have := h.lt; omega)).trans h.bp, (hb.block _ h.lt).trans h.bz, Tm.inn_mono (Tm.inn_below h.hi hb (Nat.le_refl _)) hb.size, Pc.sliceIn_next h.hp hb, h.tb.next hb⟩
end
theorem QS.new {w : World} {x : Cl} {sv nv : Value} {p : List Pc} {u : Value} (hi : Tm.inn w w.heap.size x.1 sv) (hp : Pc.sliceIn w w.heap.size p u) (ht : Tabs w) :
    QS w x sv nv p u (((w.alloc (.cells #[.int .i64 x.1.kind, .string x.1.name, .int .i64 x.1.n, sv, nv] 67)).alloc (.cells #[u] 24)).alloc (.cells #[.int .i64 0, .string ⟨#[]⟩, .int .i64 0, .slice none 0 0, .slice none 0 0, .int .i64 0] 37)) := by
  have p1 := (Below.refl w.heap.size w).alloc (Nat.le_refl _) (.cells #[.int .i64 x.1.kind, .string x.1.name, .int .i64 x.1.n, sv, nv] 67)
  have n1 := heap_alloc_new w (.cells #[.int .i64 x.1.kind, .string x.1.name, .int .i64 x.1.n, sv, nv] 67)
  have z1 : (w.alloc (.cells #[.int .i64 x.1.kind, .string x.1.name, .int .i64 x.1.n, sv, nv] 67)).heap.size = w.heap.size + 1 := by simp
  generalize w.alloc (.cells #[.int .i64 x.1.kind, .string x.1.name, .int .i64 x.1.n, sv, nv] 67) = w1 at p1 n1 z1 ⊢
  have p2 := (Below.refl w1.heap.size w1).alloc (Nat.le_refl _) (.cells #[u] 24)
  have n2 := heap_alloc_new w1 (.cells #[u] 24)
  have z2 : (w1.alloc (.cells #[u] 24)).heap.size = w1.heap.size + 1 := by simp
  generalize w1.alloc (.cells #[u] 24) = w2 at p2 n2 z2 ⊢
  have p3 := (Below.refl w2.heap.size w2).alloc (Nat.le_refl _) (.cells #[.int .i64 0, .string ⟨#[]⟩, .int .i64 0, .slice none 0 0, .slice none 0 0, .int .i64 0] 37)
  have n3 := heap_alloc_new w2 (.cells #[.int .i64 0, .string ⟨#[]⟩, .int .i64 0, .slice none 0 0, .slice none 0 0, .int .i64 0] 37)
  generalize w2.alloc (.cells #[.int .i64 0, .string ⟨#[]⟩, .int .i64 0, .slice none 0 0, .slice none 0 0, .int .i64 0] 37) = w3 at p3 n3 ⊢
  have h2 : Below w.heap.size w w2 := p1.trans (p2.mono p1.size)
  have h3 : Below w.heap.size w w3 := h2.trans (p3.mono h2.size)
  exact ⟨h3, (p3.block _ (by omega)).trans ((p2.block _ (by omega)).trans n1), (p3.block _ (by omega)).trans (by rw [← z1]; exact n2), by rw [show w.heap.size + 2 = w2.heap.size by omega]; exact n3, Tm.inn_mono (Tm.inn_below hi h3 (Nat.le_refl _)) h3.size, Pc.sliceIn_next hp h3, ht.next h3⟩
/-- The head grows. -/
structure QL (w0 : World) (hx : Nat) (g : Option Addr) (k c : Nat) (W : World) : Prop where
  low : Below w0.heap.size w0 W
  bz : W.heap[w0.heap.size + 2]? = some (.cells #[.int .i64 0, .string ⟨#[]⟩, .int .i64 0, .slice none 0 0, .slice none 0 0, .int .i64 0] 37 (0, 0))
  bh : W.heap[hx]? = some (.cells #[.int .i64 3, .string ⟨#[63]⟩, .int .i64 0, .slice g k c] 34 (0, 0))
  row : ∃ xs, W.ownsRow (hx + 1) 34 4 (.slice g k c) k xs
  lo : w0.heap.size + 2 < hx
section
variable {w0 : World} {hx : Nat} {g : Option Addr} {k c : Nat} {W : World} (h : QL w0 hx g k c W)
include h
theorem QL.lt : hx < W.heap.size := (Array.getElem?_eq_some_iff.1 h.bh).1
end
theorem newsQ4 {w : World} {a0 a1 a2 a3 : Value} {t : TypeId} (n : Nat) (hn : n = w.heap.size) : ∀ (j : Nat) (u : Value), [a0, a1, a2, a3][j]? = some u → (w.alloc (.cells #[a0, a1, a2, a3] t)).cell? ((⟨n, 0, none⟩ : Addr).add j) = some u := by
  intro j u hj
  subst hn
  rw [Addr.add_lit]
  simp only [Nat.zero_add]
  rw [World.cell?_alloc_new]
  simpa using hj
set_option maxRecDepth 100000 in
set_option maxHeartbeats 32000000 in
theorem pquery_in (x : Cl) (p : List Pc) (w : World) (sv nv u : Value) (hi : Tm.inn w w.heap.size x.1 sv) (hp : Pc.sliceIn w w.heap.size p u) (ht : Tabs w) (hz : x.1.size ≤ 1000000) (gn : Option Addr) (cn : Nat) (hnv : nv = .slice gn x.2.length cn) :
    Calls Tryz.prog 31 #[.agg #[.int .i64 x.1.kind, .string x.1.name, .int .i64 x.1.n, sv, nv], .agg #[u]] w fun e w' => QPost w x p e w' := by
  subst hnv
  obtain ⟨_, gt, ct, rfl, -, hmt, -⟩ := Tm.inn_iff.1 hi
  obtain ⟨gp, cp, rfl, -, hpm, -⟩ := id hp
  have HQ := Lib.hid (QS.new (nv := .slice gn x.2.length cn) hi hp ht)
  have HG := Lib.hid (fun W (h : QS w x (.slice gt x.1.args.length ct) (.slice gn x.2.length cn) p (.slice gp p.length cp) W) => pgoals_any x.1 W _ h.hi h.tb hz)
  have HTH := Lib.hid (fun l W v (h : QS w x (.slice gt x.1.args.length ct) (.slice gn x.2.length cn) p (.slice gp p.length cp) W) (h2 : Gl.sliceIn W W.heap.size l v) => pthere_any l p W v _ h2 h.hp)
  have HX := Lib.hid (show qE x p = match goalsE x.1 with
    | .error q => q
    | .ok l => if 8 < x.2.length then 3 else if thL p l = false then 9 else 0 from rfl)
  clear hi hp ht hz
  obtain ⟨qn, hqn⟩ : ∃ q, x.2.length = q := ⟨_, rfl⟩
  have HQN := Lib.hid hqn
  rw [hqn] at HQ HG HTH HX ⊢
  clear hqn
  obtain ⟨mt, hmt9⟩ : ∃ m, x.1.args.length = m := ⟨_, rfl⟩
  rw [hmt9] at HQ HG HTH hmt ⊢
  clear hmt9
  obtain ⟨np, hnp⟩ : ∃ m, p.length = m := ⟨_, rfl⟩
  rw [hnp] at HQ HG HTH hpm ⊢
  clear hnp
  go_enter Tryz.func31, Tryz.ntmps31
  go_upto_region 1 with fail
  have HQ0 := Lib.hid (show QS w x (.slice gt mt ct) (.slice gn qn cn) p (.slice gp np cp) (((w.alloc (.cells #[.int .i64 x.1.kind, .string x.1.name, .int .i64 x.1.n, .slice gt mt ct, .slice gn qn cn] 67)).alloc (.cells #[.slice gp np cp] 24)).alloc (.cells #[.int .i64 0, .string ⟨#[]⟩, .int .i64 0, .slice none 0 0, .slice none 0 0, .int .i64 0] 37)) from HQ.out)
  generalize ((w.alloc (.cells #[.int .i64 x.1.kind, .string x.1.name, .int .i64 x.1.n, .slice gt mt ct, .slice gn qn cn] 67)).alloc (.cells #[.slice gp np cp] 24)).alloc (.cells #[.int .i64 0, .string ⟨#[]⟩, .int .i64 0, .slice none 0 0, .slice none 0 0, .int .i64 0] 37) = u0 at HQ0 ⊢
  clear HQ
  have x0 := HQ0.out.c0
  have x1 := HQ0.out.c1
  have x2 := HQ0.out.c2
  have x3 := HQ0.out.c3
  have x4 := HQ0.out.c4
  go_upto_region 3 with (go_at_call 49; (with_reducible refine (HG.out _ HQ0.out).mono ?_); rintro e u1 ⟨hb, v1, c1, rfl, hm1⟩; have HQ1 := Lib.hid (HQ0.out.next hb); have HM1 := Lib.hid hm1; have hz01 := hb.size; clear hb hm1)
  clear x0 x1 x2 x3 x4
  have y0 := HQ1.out.cp
  obtain ⟨⟨z0, z1, z2, z3, z4, z5⟩, f0, f1, f2, f3, f4, f5⟩ := row6c HQ1.out.bz; have zl := HQ1.out.lt
  cases hg : goalsE x.1 with
  | error q =>
    have h9 := HM1.out
    rw [hg] at h9
    obtain ⟨rfl, hq0, rfl⟩ := h9
    have HXE := Lib.hid (show qE x p = c1 by rw [HX.out, hg])
    have kd : ((c1 : Int) == 0) = false := by rw [beq_eq_false_iff_ne]; omega
    have kd2 : ((c1 : Int) != 0) = true := by simp [bne, kd]
    have HQ9 := Lib.hid hq0
    clear hg hq0
    go_wp2_with fail
    have hz := set6_blk HQ1.out.bz (.int .i64 0) (.string ⟨#[]⟩) (.int .i64 0) (.slice none 0 0) (.slice none 0 0) (.int .i64 0)
    have hfr := FrP.set6 u1 (w.heap.size + 2) (.int .i64 0) (.string ⟨#[]⟩) (.int .i64 0) (.slice none 0 0) (.slice none 0 0) (.int .i64 0)
    change bodyPost _ _ _ _ _ (set6 u1 (w.heap.size + 2) (.int .i64 0) (.string ⟨#[]⟩) (.int .i64 0) (.slice none 0 0) (.slice none 0 0) (.int .i64 0))
    obtain ⟨V, hV⟩ : ∃ V, set6 u1 (w.heap.size + 2) (.int .i64 0) (.string ⟨#[]⟩) (.int .i64 0) (.slice none 0 0) (.slice none 0 0) (.int .i64 0) = V := ⟨_, rfl⟩
    rw [hV] at hz hfr ⊢
    obtain ⟨⟨r0, r1, r2, r3, r4, r5⟩, -⟩ := row6c hz
    refine bodyPost_ret (v := .tuple #[.agg #[.int .i64 0, .string ⟨#[]⟩, .int .i64 0, .slice none 0 0, .slice none 0 0, .int .i64 0], .int .i64 (c1 : Nat)]) (by simp [results, Tryz.results31, go_sem, r0, r1, r2, r3, r4, r5]) rfl ?_
    exact ⟨HQ1.out.low.trans ((hfr.mono (fun x _ e => by show w.heap.size ≤ x; omega)).to_below HQ1.out.low.size), 0, ⟨#[]⟩, 0, none, 0, 0, none, 0, 0, 0, _, rfl, HXE.out.symm, fun e => absurd e HQ9.out⟩
  | ok l =>
  have h9 := HM1.out
  rw [hg] at h9
  obtain ⟨rfl, hown⟩ := h9
  have hll := (goalsE_ok hg).2.2
  have HX := Lib.hid (show qE x p = if 8 < qn then 3 else if thL p l = false then 9 else 0 by rw [HX.out, hg])
  have HGI := Lib.hid (Gl.sliceIn_of_P (B := u1.heap.size) (fun b hb => hb.2) (hown.reads (by omega)))
  obtain ⟨gl, cl, rfl⟩ := hown.slice
  clear hg hown
  obtain ⟨ml, hml⟩ : ∃ m, l.length = m := ⟨_, rfl⟩
  rw [hml] at HGI hll ⊢
  clear hml
  by_cases h8 : 8 < qn
  · have HXE := Lib.hid (show qE x p = 3 by rw [HX.out, if_pos h8])
    have kn : ((qn : Int) > 8) = True := by simp only [eq_iff_iff, iff_true]; omega
    have kn2 : ((8 : Int) < (qn : Int)) = True := by simp only [eq_iff_iff, iff_true]; omega
    have kn3 : decide ((8 : Int) < (qn : Int)) = true := by simp only [decide_eq_true_eq]; omega
    go_wp2_with fail
    have hz := set6_blk HQ1.out.bz (.int .i64 0) (.string ⟨#[]⟩) (.int .i64 0) (.slice none 0 0) (.slice none 0 0) (.int .i64 0)
    have hfr := FrP.set6 u1 (w.heap.size + 2) (.int .i64 0) (.string ⟨#[]⟩) (.int .i64 0) (.slice none 0 0) (.slice none 0 0) (.int .i64 0)
    change bodyPost _ _ _ _ _ (set6 u1 (w.heap.size + 2) (.int .i64 0) (.string ⟨#[]⟩) (.int .i64 0) (.slice none 0 0) (.slice none 0 0) (.int .i64 0))
    obtain ⟨V, hV⟩ : ∃ V, set6 u1 (w.heap.size + 2) (.int .i64 0) (.string ⟨#[]⟩) (.int .i64 0) (.slice none 0 0) (.slice none 0 0) (.int .i64 0) = V := ⟨_, rfl⟩
    rw [hV] at hz hfr ⊢
    obtain ⟨⟨r0, r1, r2, r3, r4, r5⟩, -⟩ := row6c hz
    refine bodyPost_ret (v := .tuple #[.agg #[.int .i64 0, .string ⟨#[]⟩, .int .i64 0, .slice none 0 0, .slice none 0 0, .int .i64 0], .int .i64 ((3 : Nat) : Int)]) (by simp [results, Tryz.results31, go_sem, r0, r1, r2, r3, r4, r5]) rfl ?_
    exact ⟨HQ1.out.low.trans ((hfr.mono (fun x _ e => by show w.heap.size ≤ x; omega)).to_below HQ1.out.low.size), 0, ⟨#[]⟩, 0, none, 0, 0, none, 0, 0, 0, _, rfl, HXE.out.symm, fun e => absurd e (by decide)⟩
  have HX := Lib.hid (show qE x p = if thL p l = false then 9 else 0 by rw [HX.out, if_neg h8])
  have HQ8 := Lib.hid (show qn ≤ 8 by omega)
  have kn : ((8 : Int) < (qn : Int)) = False := by simp only [eq_iff_iff, iff_false]; omega
  have kn3 : decide ((8 : Int) < (qn : Int)) = false := by simp only [decide_eq_false_iff_not]; omega
  clear h8
  cases hth : thL p l with
  | false =>
    have HXE := Lib.hid (show qE x p = 9 by rw [HX.out, if_pos hth])
    have HTH1 := Lib.hid (HTH.out l _ _ HQ1.out HGI.out)
    rw [hth] at HTH1
    clear hth
    go_wp2_with (go_at_call 12; (with_reducible refine (HTH1.out).mono ?_); rintro e u2 ⟨rfl, hb⟩; have HQ2 := Lib.hid (HQ1.out.next hb); clear hb; clear z0 z1 z2 z3 z4 z5 f0 f1 f2 f3 f4 f5 zl y0; obtain ⟨⟨z0, z1, z2, z3, z4, z5⟩, f0, f1, f2, f3, f4, f5⟩ := row6c HQ2.out.bz; have zl := HQ2.out.lt)
    have hz := set6_blk HQ2.out.bz (.int .i64 0) (.string ⟨#[]⟩) (.int .i64 0) (.slice none 0 0) (.slice none 0 0) (.int .i64 0)
    have hfr := FrP.set6 u2 (w.heap.size + 2) (.int .i64 0) (.string ⟨#[]⟩) (.int .i64 0) (.slice none 0 0) (.slice none 0 0) (.int .i64 0)
    change bodyPost _ _ _ _ _ (set6 u2 (w.heap.size + 2) (.int .i64 0) (.string ⟨#[]⟩) (.int .i64 0) (.slice none 0 0) (.slice none 0 0) (.int .i64 0))
    obtain ⟨V, hV⟩ : ∃ V, set6 u2 (w.heap.size + 2) (.int .i64 0) (.string ⟨#[]⟩) (.int .i64 0) (.slice none 0 0) (.slice none 0 0) (.int .i64 0) = V := ⟨_, rfl⟩
    rw [hV] at hz hfr ⊢
    obtain ⟨⟨r0, r1, r2, r3, r4, r5⟩, -⟩ := row6c hz
    refine bodyPost_ret (v := .tuple #[.agg #[.int .i64 0, .string ⟨#[]⟩, .int .i64 0, .slice none 0 0, .slice none 0 0, .int .i64 0], .int .i64 ((9 : Nat) : Int)]) (by simp [results, Tryz.results31, go_sem, r0, r1, r2, r3, r4, r5]) rfl ?_
    exact ⟨HQ2.out.low.trans ((hfr.mono (fun x _ e => by show w.heap.size ≤ x; omega)).to_below HQ2.out.low.size), 0, ⟨#[]⟩, 0, none, 0, 0, none, 0, 0, 0, _, rfl, HXE.out.symm, fun e => absurd e (by decide)⟩
  | true =>
  have HXE := Lib.hid (show qE x p = 0 by rw [HX.out, if_neg (by rw [hth]; exact Bool.noConfusion)])
  have HTH1 := Lib.hid (HTH.out l _ _ HQ1.out HGI.out)
  rw [hth] at HTH1
  clear hth
  go_upto_region 10 with (first
    | (go_at_call 12; (with_reducible refine (HTH1.out).mono ?_); rintro e u2 ⟨rfl, hb⟩; have HQ2 := Lib.hid (HQ1.out.next hb); clear hb; clear z0 z1 z2 z3 z4 z5 f0 f1 f2 f3 f4 f5 zl y0)
    | (go_at_call 47; (with_reducible refine (patom_any _ _).mono ?_); rintro e u3 ⟨rfl, hb⟩; have HQ3 := Lib.hid (HQ2.out.next hb); clear hb))
  obtain ⟨u4, hu4⟩ : ∃ u4, u3.alloc (.cells #[.int .i64 3, .string ⟨#[63]⟩, .int .i64 0, .slice none 0 0] 34) = u4 := ⟨_, rfl⟩
  have hb4 : Below u3.heap.size u3 u4 := hu4 ▸ (Below.refl _ u3).alloc (Nat.le_refl _) _
  have hn4 : u4.heap[u3.heap.size]? = some (.cells #[.int .i64 3, .string ⟨#[63]⟩, .int .i64 0, .slice none 0 0] 34 (0, 0)) := hu4 ▸ heap_alloc_new u3 _
  rw [hu4]
  have HL4 := Lib.hid (show QL w u3.heap.size none 0 0 u4 from ⟨(HQ3.out.next hb4).low, (HQ3.out.next hb4).bz, hn4, ⟨[], World.ownsRow_nil _ _ _ _⟩, HQ3.out.lt⟩)
  clear hu4 hb4 hn4 HGI HTH1 HTH HG HM1
  generalize u3.heap.size = hx at HL4 ⊢
  go_wp2_with fail
  go_loopw [37] (fun i wr => ∃ (k : Nat), k ≤ qn ∧ i = .int .i64 k ∧ Hid (∃ g c, QL w hx g k c wr)) (fun i _ => qn - (intOf i).toNat)
  case atStart => exact ⟨0, Nat.zero_le _, rfl, Lib.hid ⟨none, 0, HL4.out⟩⟩
  case round =>
    obtain ⟨k, hk, rfl, hst⟩ := hrel
    obtain ⟨g, c, hql⟩ := hst.out
    have HL := Lib.hid hql
    clear hst hql
    obtain ⟨⟨y0, y1, y2, y3⟩, q0, q1, q2, q3⟩ := row4 HL.out.bh
    have hlt9 := HL.out.lt
    by_cases hlt : k < qn
    · have jlt : ((k : Int) < (qn : Int)) = True := by simp only [eq_iff_iff, iff_true]; omega
      have hq8 := HQ8.out
      obtain ⟨xs, hrw⟩ := HL.out.row
      have HRW := Lib.hid hrw
      have hpo : (Value.slice g k c).ownBlock ≠ some hx := fun e => by have := (hrw.lt hx e).1; omega
      have HPO := Lib.hid hpo
      clear hrw hpo
      obtain ⟨i0, hi, hz0, hz1, hz2⟩ := info_parts Tryz.infoTm
      have hkw : (Lit.int .i64 (k : Int)).wf = true := wf_small (by omega)
      go_wp2_with (at_builtin; refine wpList_append_any rfl _ _ 32 rfl (hx + 1) 34 i0 _ 4 56 Tryz.underlying32 hi hz0 hz1 hz2 rfl (by decide) (.slice g k c) k xs rfl (HRW.out.alloc _) (some ⟨wr.heap.size, 0, none⟩) 1 1 [.int .i64 1, .string ⟨#[]⟩, .int .i64 k, .slice none 0 0] rfl rfl (.inr ⟨_, rfl, newsQ4 _ rfl⟩) (by intro u hu; simp at hu; rcases hu with rfl | rfl | rfl | rfl <;> rfl) (by unfold maxLen; omega) (by omega) (by simp; omega) ?_; intro v6 u6 ho hg hw; have HO6 := Lib.hid ho; have HG6 := Lib.hid hg; have hb6 : u6.heap[hx]? = some (.cells #[.int .i64 3, .string ⟨#[63]⟩, .int .i64 0, .slice g k c] 34 (0, 0)) := (hg.block hx (by simp; omega) (fun e => HPO.out e.symm)).trans ((Below.heap_alloc _ _ _ hlt9).trans HL.out.bh); obtain ⟨⟨p0, p1, p2, p3⟩, s0, s1, s2, s3⟩ := row4 hb6; have pl6 := (Array.getElem?_eq_some_iff.1 hb6).1; have HB6 := Lib.hid hb6; obtain ⟨g6, c6, hv6⟩ := owns_slice ho; subst hv6; clear ho hg hw hb6)
      have HLN := Lib.hid (show QL w hx g6 (k + 1) c6 (u6.setCell ⟨hx, 3, none⟩ (.slice g6 (k + 1) c6)) by
        have hA := (Below.refl wr.heap.size wr).alloc (Nat.le_refl _) (.cells #[.int .i64 1, .string ⟨#[]⟩, .int .i64 k, .slice none 0 0] 34)
        have hlo : ∀ b, (Value.slice g k c).ownBlock = some b → hx + 1 ≤ b := fun b e => (HRW.out.lt b e).1
        have hf6 : FrP (fun x => hx + 1 ≤ x) (wr.alloc (.cells #[.int .i64 1, .string ⟨#[]⟩, .int .i64 k, .slice none 0 0] 34)) u6 := (FrP.of_grown HG6.out).mono (fun x _ e => hlo x e.symm)
        have hfp : FrP (fun x => x = hx) u6 (u6.setCell ⟨hx, 3, none⟩ (.slice g6 (k + 1) c6)) := FrP.setC u6 hx 3 _
        have hfa : FrP (fun x => hx ≤ x) (wr.alloc (.cells #[.int .i64 1, .string ⟨#[]⟩, .int .i64 k, .slice none 0 0] 34)) (u6.setCell ⟨hx, 3, none⟩ (.slice g6 (k + 1) c6)) := hf6.trans hfp (fun x _ e => by show hx ≤ x; omega) (fun x _ e => by show hx ≤ x; omega)
        have hlow := HL.out.low
        have hlo9 := HL.out.lo
        have hLA : Below w.heap.size w (wr.alloc (.cells #[.int .i64 1, .string ⟨#[]⟩, .int .i64 k, .slice none 0 0] 34)) := hlow.trans (hA.mono hlow.size)
        refine ⟨hLA.trans ((hfa.mono (fun x _ e => by show w.heap.size ≤ x; omega)).to_below hLA.size), (hfa.block _ (by have := hA.size; omega) (by omega)).trans ((hA.block _ (by omega)).trans HL.out.bz), by have h9 := HB6.out; simp [World.setCell, Array.getElem?_modify, h9], ⟨_, ownsRow_block HO6.out (fun b e => hfp.block b (HO6.out.lt b e).2 (fun hp => by have h1 := (HO6.out.lt b e).1; have h2 : b = hx := hp; omega))⟩, hlo9⟩)
      go_roundw
      case rel => exact ⟨k + 1, by omega, by go_num, Lib.hid ⟨_, _, HLN.out⟩⟩
      case measure => simp [intOf]; omega
    · obtain rfl : k = qn := by omega
      have jn : ((k : Int) < (k : Int)) = False := by simp only [eq_iff_iff, iff_false]; omega
      obtain ⟨⟨z0, z1, z2, z3, z4, z5⟩, f0, f1, f2, f3, f4, f5⟩ := row6c HL.out.bz; have zl : w.heap.size + 2 < wr.heap.size := (Array.getElem?_eq_some_iff.1 HL.out.bz).1
      go_wp2_with fail
      have hz := set6_blk HL.out.bz (.int .i64 3) (.string ⟨#[63]⟩) (.int .i64 0) (.slice g k c) (.slice gl ml cl) (.int .i64 (k : Nat))
      have hfr := FrP.set6 wr (w.heap.size + 2) (.int .i64 3) (.string ⟨#[63]⟩) (.int .i64 0) (.slice g k c) (.slice gl ml cl) (.int .i64 (k : Nat))
      change bodyPost _ _ _ _ _ (set6 wr (w.heap.size + 2) (.int .i64 3) (.string ⟨#[63]⟩) (.int .i64 0) (.slice g k c) (.slice gl ml cl) (.int .i64 (k : Nat)))
      obtain ⟨V, hV⟩ : ∃ V, set6 wr (w.heap.size + 2) (.int .i64 3) (.string ⟨#[63]⟩) (.int .i64 0) (.slice g k c) (.slice gl ml cl) (.int .i64 (k : Nat)) = V := ⟨_, rfl⟩
      rw [hV] at hz hfr ⊢
      obtain ⟨⟨r0, r1, r2, r3, r4, r5⟩, -⟩ := row6c hz
      refine bodyPost_ret (v := .tuple #[.agg #[.int .i64 3, .string ⟨#[63]⟩, .int .i64 0, .slice g k c, .slice gl ml cl, .int .i64 (k : Nat)], .int .i64 ((0 : Nat) : Int)]) (by simp [results, Tryz.results31, go_sem, r0, r1, r2, r3, r4, r5]) rfl ?_
      exact ⟨HL.out.low.trans ((hfr.mono (fun x _ e => by show w.heap.size ≤ x; omega)).to_below HL.out.low.size), 3, ⟨#[63]⟩, 0, g, k, c, gl, ml, cl, (k : Nat), 0, rfl, HXE.out.symm, fun _ => HQN.out.symm⟩
end Go.Proofs.YtkjnjahmlobjiaaGreatDoor
