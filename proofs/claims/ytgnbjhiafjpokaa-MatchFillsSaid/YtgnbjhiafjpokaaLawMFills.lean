/-
  The statement MatchFills, walked: for any term and any row of binds that lie in memory the call returns true, and nothing that was there has turned.
-/
import Derived.Test.YtgnbjhiafjpokaaMKnows
import Derived.Test.YtgnbjhiafjpokaaRFill
namespace Go.Proofs.Ytgnbjhiafjpokaa
open Go.RowKit Go.Shelf Go.Maps

theorem size_bnd_le (σ : Int → Tm) (M : Nat) (hM : 1 ≤ M) (h : ∀ v, (σ v).size ≤ M) : ∀ t : Tm, (t.bnd σ).size ≤ t.size * M := Tm.ind fun k s n l ih => by
  by_cases hk : k = 1
  · have h1 := h n
    have h2 : 1 * M ≤ (Tm.mk k s n l).size * M := Nat.mul_le_mul_right M (Tm.size_pos _)
    simp only [Tm.bnd, if_pos hk]
    omega
  · rw [Tm.bnd_kind σ hk]
    have key : ∀ l : List Tm, (∀ t ∈ l, (t.bnd σ).size ≤ t.size * M) → Tm.sizes (Tm.bnds σ l) ≤ Tm.sizes l * M := by
      intro l
      induction l with
      | nil => intro _; simp [Tm.bnds, Tm.sizes]
      | cons t r ihr =>
        intro h
        have h1 := h t (by simp)
        have h2 := ihr (fun u hu => h u (by simp [hu]))
        simp only [Tm.bnds, Tm.sizes, Nat.add_mul]
        omega
    have h1 := key l ih
    simp only [Tm.size, Nat.add_mul, Nat.one_mul]
    omega
theorem subF_size {l : List Bd} {M : Nat} (hM : 1 ≤ M) (h : ∀ b ∈ l, b.t.size ≤ M) (v : Int) : (subF l v).size ≤ M := by
  unfold subF
  cases hp : place l v with
  | none => simpa [vTm, Tm.size, Tm.sizes] using hM
  | some p =>
    obtain ⟨b, hb, _, ht⟩ := tAt_mem hp
    simp only
    rw [← ht]
    exact h b hb
theorem szB_has {l : List Bd} {b : Bd} (h : b ∈ l) : b.t.size ≤ szB l := Tm.size_mem_le (List.mem_map.2 ⟨b, h, rfl⟩)

set_option maxRecDepth 100000 in
set_option maxHeartbeats 8000000 in
theorem mfills_any (p : Tm) (l : List Bd) (w : World) (sp sl : Value) (hip : Tm.inn w w.heap.size p sp) (hsl : bdsIn w w.heap.size l sl) :
    Calls Try.prog 12 #[.agg #[.int .i64 p.kind, .string p.name, .int .i64 p.n, sp], sl] w fun e w' => e = .returned (.bool true) ∧ Below w.heap.size w w' := by
  obtain ⟨gl, cl, rfl, hlc, hlm, _, _⟩ := id hsl
  obtain ⟨_, g, cap, rfl, _, _, _⟩ := Tm.inn_iff.1 hip
  have A0 := Lib.hid (ASt.start hsl hip)
  have hr : ∀ k, k ≤ l.length → -1 ≤ Tm.fews ((l.map Bd.t).take k) 300 200 ∧ Tm.fews ((l.map Bd.t).take k) 300 200 ≤ 300 := fun k _ =>
    Tm.fews_rng _ (fun t _ m d h => Tm.few_rng t m d h) _ _ (by omega)
  have HR := Lib.hid hr
  clear hsl hip hr
  go_enter Try.func12, Try.ntmps12
  go_wp2_with fail
  go_loopw [5, 6] (fun q i wr => ∃ k : Nat, k ≤ l.length ∧ i = .int .i64 (k : Nat) ∧ q = .int .i64 (Tm.fews ((l.map Bd.t).take k) 300 200) ∧ Hid (ASt w l (.slice gl l.length cl) p (.slice g p.args.length cap) wr)) (fun _ i _ => l.length - (intOf i).toNat)
  case atStart => exact ⟨0, Nat.zero_le _, rfl, by simp [Tm.fews], A0.out⟩
  case round =>
    obtain ⟨k, hk, rfl, rfl, ha⟩ := hrel
    have HA := Lib.hid ha.out
    clear ha A0
    have hrk := HR.out k hk
    by_cases hlt : k < l.length
    · by_cases hq : 0 ≤ Tm.fews ((l.map Bd.t).take k) 300 200
      · obtain ⟨b, off, sv, hgt, hbB, g0, g1, g2, g3, g4, hin⟩ := bdsIn_get HA.out.bl k hlt
        subst hgt
        obtain ⟨gx, cx, rfl⟩ := inn_sl hin
        have hm := Tm.fews_take_succ (l.map Bd.t) k (by simpa using hlt) 300 200 hq
        rw [List.getElem_map] at hm
        have hih := few_any l[k].t wr _ _ (Tm.fews ((l.map Bd.t).take k) 300 200) 200 (Nat.le_refl _) hin hq (by omega) (by omega) (by omega)
        have HM := Lib.hid hm
        have HIH := Lib.hid hih
        clear hm hin hih
        go_wp2_with fail
        refine HIH.out.mono ?_
        rintro e w1 ⟨rfl, hb1⟩
        have HA1 := Lib.hid (HA.out.next hb1)
        clear hb1
        go_wp2_with fail
        go_roundw
        case rel => exact ⟨k + 1, by omega, by go_num, by rw [HM.out], HA1.out⟩
        case measure => simp [intOf]; omega
      · have hq1 : Tm.fews ((l.map Bd.t).take k) 300 200 < 0 := by omega
        go_wp2_with fail
        refine (mknows_any wr).mono ?_
        rintro e W2 ⟨rfl, hb2⟩
        have HB := Lib.hid (HA.out.next hb2).hb
        clear hb2
        go_wp2_with fail
        go_ret
        exact ⟨rfl, HB.out⟩
    · obtain rfl : k = l.length := by omega
      have htk : (l.map Bd.t).take l.length = l.map Bd.t := List.take_of_length_le (by simp)
      rw [htk] at hrk ⊢
      by_cases hq : 0 ≤ Tm.fews (l.map Bd.t) 300 200
      · have hsz := (Tm.fews_says _ (fun t _ m d => Tm.few_says t m d) _ _ hq).1
        have hszB : szB l ≤ 300 := by unfold szB; omega
        by_cases h20 : l.length ≤ 20
        · obtain ⟨a0, a1, a2, a3⟩ := HA.out.bt.cells
          have h20f : decide (20 < l.length) = false := decide_eq_false (by omega)
          have hfw := few_any p wr _ _ 300 200 (Nat.le_refl _) HA.out.bt.2 (by omega) (by omega) (by omega) (by omega)
          have hrg := Tm.few_rng p 300 200 (by omega)
          have hsy := Tm.few_says p 300 200
          obtain ⟨fp, hfp⟩ : ∃ fp, p.few 300 200 = fp := ⟨_, rfl⟩
          rw [hfp] at hfw hrg hsy
          have HFW := Lib.hid hfw
          clear hfw hfp
          go_wp2_with fail
          refine HFW.out.mono ?_
          rintro e W1 ⟨rfl, hb1⟩
          have A1 := Lib.hid (HA.out.next hb1)
          clear hb1 a0 a1 a2 a3 HA HFW
          by_cases hf : fp < 0
          · go_wp2_with fail
            refine (mknows_any W1).mono ?_
            rintro e W2 ⟨rfl, hb2⟩
            have HB := Lib.hid (A1.out.next hb2).hb
            clear hb2
            go_wp2_with fail
            go_ret
            exact ⟨rfl, HB.out⟩
          · have hps : p.size ≤ 300 := by have := (hsy (by omega)).1; omega
            obtain ⟨a0, a1, a2, a3⟩ := A1.out.bt.cells
            have hbs : ∀ b ∈ l, b.t.size ≤ 300 := fun b hb => Nat.le_trans (szB_has hb) hszB
            have hus : (p.bnd (subF l)).size ≤ 90000 := by
              have h1 := size_bnd_le (subF l) 300 (by omega) (subF_size (by omega) hbs) p
              have h2 : p.size * 300 ≤ 300 * 300 := Nat.mul_le_mul_right 300 hps
              omega
            have hfl := fill_any p l W1 _ _ A1.out.bt.2 A1.out.bl (by omega) (fun b hb => by have := hbs b hb; omega) (by omega) (fun _ _ => by omega)
            have HFL := Lib.hid hfl
            have HBS := Lib.hid hbs
            clear hfl hbs hsy hrg
            go_wp2_with fail
            refine HFL.out.mono ?_
            rintro e W2 ⟨X, E, gx, cx, rfl, hinx, hb2, hspec⟩
            have A2 := Lib.hid ((A1.out.next hb2).alloc (.cells #[.int .i64 X.kind, .string X.name, .int .i64 X.n, .slice gx X.args.length cx] 27 (0, 0)))
            have BX := Lib.hid (TmBox.new hinx)
            have HSP := Lib.hid hspec
            obtain ⟨c0, c1, c2, c3⟩ := (A1.out.next hb2).bt.cells
            have hlw := (A1.out.next hb2).bt.lt
            clear hinx hb2 hspec a0 a1 a2 a3 A1 HFL
            go_wp2_with fail
            refine (may_any p l _ _ _ A2.out.bt.2 A2.out.bl (by omega) (fun b hb => by have := HBS.out b hb; omega) (by omega)).mono ?_
            rintro e W3 ⟨q, rfl, hb3, hqq⟩
            have A3 := Lib.hid (A2.out.next hb3)
            have B3 := Lib.hid (BX.out.next hb3)
            have HQ := Lib.hid hqq
            clear hb3 hqq c0 c1 c2 c3 A2 BX hlw
            obtain ⟨x0, x1, x2, x3⟩ := B3.out.cells
            obtain ⟨a0, a1, a2, a3⟩ := A3.out.bt.cells
            cases q with
            | false =>
              have hno : ¬ (okL l ∧ p.right = true) := fun h => by have := HQ.out.2 ⟨h.2, h.1⟩; cases this
              have hXE : X = kZ ∧ E = 1 := by
                rcases HSP.out with ⟨_, h1, h2⟩ | ⟨h, _⟩
                · exact ⟨h1, h2⟩
                · exact absurd h hno
              obtain ⟨rfl, rfl⟩ := hXE
              have hss := Lib.hid (same_self kZ)
              clear hno
              go_wp2_with fail
              refine (rsame_any kZ kZ W3 _ _ _ (Nat.le_refl _) B3.out.2 (inn_kZ _ _)).mono ?_
              rintro e W4 ⟨rfl, hb4⟩
              rw [hss.out]
              have A4 := Lib.hid (A3.out.next hb4)
              clear hb4 x0 x1 x2 x3 a0 a1 a2 a3
              go_wp2_with fail
              refine (mknows_any W4).mono ?_
              rintro e W5 ⟨rfl, hb5⟩
              have HB := Lib.hid (A4.out.next hb5).hb
              clear hb5
              go_wp2_with fail
              go_ret
              exact ⟨rfl, HB.out⟩
            | true =>
              obtain ⟨hp, hok⟩ := HQ.out.1 rfl
              have HP := Lib.hid hp
              have hrf := rfill_any l (by omega) W3.heap.size _ p W3 _ (right_fair hp) (Nat.le_refl _) A3.out.bt.2 A3.out.bl
              have hspec : ((p.bnd (subF l)).right = false ∧ X = kZ ∧ E = 3) ∨ ((p.bnd (subF l)).right = true ∧ X = p.bnd (subF l) ∧ E = 0) := by
                rcases HSP.out with ⟨h, _⟩ | ⟨_, h⟩
                · exact absurd ⟨hok, hp⟩ h
                · exact h
              have hinst := inst_fill p l
              obtain ⟨u, hu⟩ : ∃ u, p.bnd (subF l) = u := ⟨_, rfl⟩
              rw [hu] at hrf hspec hus hinst
              have HRF := Lib.hid hrf
              have HSP2 := Lib.hid hspec
              have HIF := Lib.hid hinst
              clear hp hok hrf hspec hu hinst HSP
              go_wp2_with fail
              refine HRF.out.mono ?_
              rintro e W4 ⟨gu, cu, rfl, hpi, hb4⟩
              have hinu : Tm.inn W4 W4.heap.size u (.slice gu u.args.length cu) := Tm.inn_of_P (fun b hb => by have := hb4.size; omega) _ _ hpi
              have A4 := Lib.hid ((A3.out.next hb4).alloc (.cells #[.int .i64 u.kind, .string u.name, .int .i64 u.n, .slice gu u.args.length cu] 27 (0, 0)))
              have B4 := Lib.hid ((B3.out.next hb4).alloc (.cells #[.int .i64 u.kind, .string u.name, .int .i64 u.n, .slice gu u.args.length cu] 27 (0, 0)))
              have C4 := Lib.hid (TmBox.new hinu)
              clear hpi hinu hb4 x0 x1 x2 x3 a0 a1 a2 a3 A3 B3 HRF
              go_wp2_with fail
              refine (rright_any u _ _ _ (Nat.le_refl _) C4.out.2 (by omega)).mono ?_
              rintro e W5 ⟨rfl, hb5⟩
              have A5 := Lib.hid (A4.out.next hb5)
              have B5 := Lib.hid (B4.out.next hb5)
              have C5 := Lib.hid (C4.out.next hb5)
              clear hb5 A4 B4 C4
              obtain ⟨x0, x1, x2, x3⟩ := B5.out.cells
              obtain ⟨y0, y1, y2, y3⟩ := C5.out.cells
              rcases HSP2.out with ⟨hq1, rfl, rfl⟩ | ⟨hq1, rfl, rfl⟩
              · rw [hq1]
                have hss := Lib.hid (same_self kZ)
                clear hq1
                go_wp2_with fail
                refine (rsame_any kZ kZ W5 _ _ _ (Nat.le_refl _) B5.out.2 (inn_kZ _ _)).mono ?_
                rintro e W6 ⟨rfl, hb6⟩
                rw [hss.out]
                have A6 := Lib.hid (A5.out.next hb6)
                clear hb6 x0 x1 x2 x3 y0 y1 y2 y3
                go_wp2_with fail
                refine (mknows_any W6).mono ?_
                rintro e W7 ⟨rfl, hb7⟩
                have HB := Lib.hid (A6.out.next hb7).hb
                clear hb7
                go_wp2_with fail
                go_ret
                exact ⟨rfl, HB.out⟩
              · have hss := Lib.hid (same_self X)
                have HX := Lib.hid hq1
                rw [hq1]
                clear hq1
                go_wp2_with fail
                refine (rsame_any X X W5 _ _ _ (Nat.le_refl _) B5.out.2 C5.out.2).mono ?_
                rintro e W6 ⟨rfl, hb6⟩
                rw [hss.out]
                have A6 := Lib.hid (A5.out.next hb6)
                have B6 := Lib.hid (B5.out.next hb6)
                clear hb6 x0 x1 x2 x3 y0 y1 y2 y3 A5 B5 C5
                obtain ⟨x0, x1, x2, x3⟩ := B6.out.cells
                obtain ⟨a0, a1, a2, a3⟩ := A6.out.bt.cells
                have hi := instance_any X p W6 _ _ B6.out.2 A6.out.bt.2 (by omega) (by omega)
                rw [show (p.right && X.right && inst X p) = true by rw [HP.out, HX.out, HIF.out]; rfl] at hi
                have HI := Lib.hid hi
                clear hi
                go_wp2_with fail
                refine HI.out.mono ?_
                rintro e W7 ⟨rfl, hb7⟩
                have A7 := Lib.hid (A6.out.next hb7)
                clear hb7 x0 x1 x2 x3 a0 a1 a2 a3
                go_wp2_with fail
                refine (mknows_any W7).mono ?_
                rintro e W8 ⟨rfl, hb8⟩
                have HB := Lib.hid (A7.out.next hb8).hb
                clear hb8
                go_wp2_with fail
                go_ret
                exact ⟨rfl, HB.out⟩
        · have h20f : decide (20 < l.length) = true := decide_eq_true (by omega)
          go_wp2_with fail
          refine (mknows_any wr).mono ?_
          rintro e W2 ⟨rfl, hb2⟩
          have HB := Lib.hid (HA.out.next hb2).hb
          clear hb2
          go_wp2_with fail
          go_ret
          exact ⟨rfl, HB.out⟩
      · have hq1 : Tm.fews (l.map Bd.t) 300 200 < 0 := by omega
        go_wp2_with fail
        refine (mknows_any wr).mono ?_
        rintro e W2 ⟨rfl, hb2⟩
        have HB := Lib.hid (HA.out.next hb2).hb
        clear hb2
        go_wp2_with fail
        go_ret
        exact ⟨rfl, HB.out⟩
end Go.Proofs.Ytgnbjhiafjpokaa
