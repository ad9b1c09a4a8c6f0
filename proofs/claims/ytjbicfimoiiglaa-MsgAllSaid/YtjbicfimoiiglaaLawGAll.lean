/-
  The statement MsgAll, walked: for any row of terms that lies in memory the call returns true, and nothing that was there has turned.
-/
import Derived.Test.YtjbicfimoiiglaaMDoc
import Derived.Test.YtjbicfimoiiglaaMKn
import Derived.Test.YtjbicfimoiiglaaFound
namespace Go.Proofs.Ytjbicfimoiiglaa
open Go.RowKit Go.Shelf Go.Maps

theorem inn_kZ7 (W : World) : Tm.inn W W.heap.size (.mk 0 ⟨#[]⟩ 0 []) (.slice none 0 0) := inn_kZ6 W
/-- The row, and a box with a term. -/
structure TR (w : World) (l : List Tm) (sl : Value) (tb : Nat) (X : Tm) (sx : Value) (W : World) : Prop where
  below : Below w.heap.size w W
  sl : Tm.sliceIn W W.heap.size l sl
  tx : TmBox W tb X sx
theorem TR.next {w : World} {l : List Tm} {sl : Value} {tb : Nat} {X : Tm} {sx : Value} {W W' : World} (h : TR w l sl tb X sx W) (hb : Below W.heap.size W W') : TR w l sl tb X sx W' :=
  ⟨h.below.trans (hb.mono h.below.size), Tm.sliceIn_mono (Tm.sliceIn_below h.sl hb (Nat.le_refl _)) hb.size, h.tx.next hb⟩
def CR (w : World) (l : List Tm) (sl : Value) (tb : Nat) (X : Tm) (sx : Value) (W : World) : Prop :=
  (W.cell? ⟨tb, 0, none⟩ = some (.int .i64 X.kind) ∧ W.cell? ⟨tb, 1, none⟩ = some (.string X.name) ∧ W.cell? ⟨tb, 2, none⟩ = some (.int .i64 X.n) ∧ W.cell? ⟨tb, 3, none⟩ = some sx) ∧ TR w l sl tb X sx W
theorem CR.of {w : World} {l : List Tm} {sl : Value} {tb : Nat} {X : Tm} {sx : Value} {W : World} (h : TR w l sl tb X sx W) : CR w l sl tb X sx W := ⟨h.tx.cells, h⟩
/-- All of them are instances, and it is right. -/
theorem foldT_right : ∀ (l : List Tm) (t : Tm), t.right = true → (foldT t l).right = true
  | [], _, h => h
  | y :: r, t, h => foldT_right r (msgT t y) (msg_right h)
theorem foldT_inst : ∀ (l : List Tm) (t : Tm), t.right = true → inst t (foldT t l) = true ∧ ∀ x ∈ l, inst x (foldT t l) = true
  | [], t, h => ⟨inst_self (right_fair h), fun x hx => by cases hx⟩
  | y :: r, t, h => by
    obtain ⟨h1, h2⟩ := foldT_inst r (msgT t y) (msg_right h)
    have h3 := msg_inst t y
    refine ⟨inst_trans h3.1 h1, fun x hx => ?_⟩
    rcases List.mem_cons.1 hx with rfl | hx
    · exact inst_trans h3.2 h1
    · exact h2 x hx

set_option maxRecDepth 100000 in
set_option maxHeartbeats 8000000 in
theorem gall_any (l : List Tm) (w : World) (sv : Value) (hil : Tm.sliceIn w w.heap.size l sv) :
    Calls Try.prog 4 #[sv] w fun e w' => e = .returned (.bool true) ∧ Below w.heap.size w w' := by
  obtain ⟨g, cap, rfl, hcap, hlen, _⟩ := id hil
  have HIL := Lib.hid hil
  clear hil
  go_enter Try.func4, Try.ntmps4
  go_wp2_with fail
  refine (some_any l _ _ _ (Nat.le_refl _) HIL.out).mono ?_
  rintro e W1 ⟨rfl, hb1⟩
  have HB1 := Lib.hid hb1
  clear hb1
  cases hs : Tm.someB l with
  | false =>
    clear hs
    go_wp2_with fail
    refine (k6_any W1).mono ?_
    rintro e U ⟨rfl, hbu⟩
    have HB := Lib.hid (HB1.out.trans (hbu.mono HB1.out.size))
    clear hbu
    go_wp2_with fail
    go_ret
    exact ⟨rfl, HB.out⟩
  | true =>
    have hsz : ∀ t ∈ l, t.size ≤ 4000 := fun t ht => Tm.some_size hs ht
    have hl100 : l.length ≤ 4000 := Nat.le_trans (Tm.length_le_sizes l) (some_sizes hs)
    have HSZ := Lib.hid hsz
    have hsl1 := Tm.sliceIn_mono (Tm.sliceIn_below HIL.out HB1.out (Nat.le_refl _)) HB1.out.size
    have HSL := Lib.hid hsl1
    have hall := mall_any l W1 _ hsl1 (fun t ht => by have := hsz t ht; omega) (by omega)
    have HALL := Lib.hid hall
    clear hs hsz hsl1 hall HIL
    go_wp2_with fail
    refine HALL.out.mono ?_
    rintro e W2 ⟨X, E, gx, cx, rfl, hix, hb2, hcase⟩
    have hal2 := (Below.refl W2.heap.size W2).alloc (Nat.le_refl _) (Obj.cells #[.int .i64 X.kind, .string X.name, .int .i64 X.n, .slice gx X.args.length cx] 24 (0, 0))
    have hb12 := hb2.trans (hal2.mono hb2.size)
    have hT : TR w l (.slice g l.length cap) W2.heap.size X (.slice gx X.args.length cx) _ := ⟨HB1.out.trans (hb12.mono HB1.out.size), Tm.sliceIn_mono (Tm.sliceIn_below HSL.out hb12 (Nat.le_refl _)) hb12.size, TmBox.new hix⟩
    have HT := Lib.hid hT
    have HC := Lib.hid hcase
    obtain ⟨t0, t1, t2, t3⟩ := hT.tx.cells
    have lt := hT.tx.lt
    clear hb2 hal2 hb12 hT hcase hix HALL HSL
    by_cases h0 : l.length = 0
    · have hX : X = kZ ∧ E = 10 := by
        have hnil := List.eq_nil_of_length_eq_zero h0
        rcases HC.out with ⟨⟨t, ht, _⟩, _⟩ | ⟨_, h1, h2⟩ | ⟨_, h, _⟩
        · rw [hnil] at ht; cases ht
        · exact ⟨h1, h2⟩
        · omega
      obtain ⟨rfl, rfl⟩ := hX
      have h0b : ((l.length : Int) == 0) = true := by rw [beq_iff_eq]; omega
      obtain ⟨m, hm⟩ : ∃ m, l.length = m := ⟨_, rfl⟩
      rw [hm] at HT h0b ⊢
      clear h0 HC hm
      go_wp2_with fail
      have hsm := rsame_any kZ kZ _ _ (.slice gx kZ.args.length cx) (.slice none 0 0) (Nat.le_refl _) HT.out.tx.2 (inn_kZ7 _)
      rw [show kZ.same kZ = true by kernel_rfl] at hsm
      refine hsm.mono ?_
      rintro e U1 ⟨rfl, hbu⟩
      have HTU := Lib.hid (HT.out.next hbu)
      clear hbu hsm HT t0 t1 t2 t3 lt
      go_wp2_with fail
      refine (k6_any U1).mono ?_
      rintro e U2 ⟨rfl, hbk⟩
      have HB := Lib.hid (HTU.out.next hbk).below
      clear hbk
      go_wp2_with fail
      go_ret
      exact ⟨rfl, HB.out⟩
    · have h0b : ((l.length : Int) == 0) = false := by rw [beq_eq_false_iff_ne]; omega
      have hpos : 0 < l.length := by omega
      have HPOS := Lib.hid hpos
      clear h0 hpos
      go_wp2_with fail
      obtain ⟨tb, htb⟩ : ∃ b, W2.heap.size = b := ⟨_, rfl⟩
      obtain ⟨V0, hV0⟩ : ∃ Wq, W2.alloc (Obj.cells #[.int .i64 X.kind, .string X.name, .int .i64 X.n, .slice gx X.args.length cx] 24 (0, 0)) = Wq := ⟨_, rfl⟩
      rw [hV0, htb] at HT
      simp only [hV0, htb]
      clear hV0 htb t0 t1 t2 t3 lt h0b
      go_loopw [5] (fun i wr => ∃ k : Nat, k ≤ l.length ∧ i = .int .i64 k ∧ Hid (∀ j (h : j < l.length), j < k → l[j].right = true) ∧ Hid (TR w l (.slice g l.length cap) tb X (.slice gx X.args.length cx) wr)) (fun i _ => l.length - (intOf i).toNat)
      case atStart => exact ⟨0, Nat.zero_le _, rfl, fun j _ h => by omega, HT.out⟩
      case round =>
        obtain ⟨wz, rfl⟩ : ∃ x, x = wr := ⟨_, rfl⟩
        obtain ⟨k, hk, rfl, hp, ht⟩ := hrel
        have HP := Lib.hid hp.out
        have HTZ := Lib.hid ht.out
        clear hp ht HT
        by_cases hlt : k < l.length
        · obtain ⟨p, po, sx, rfl, hpB, c0, c1, c2, c3, hin⟩ := Tm.sliceIn_get HTZ.out.sl k hlt
          obtain ⟨gy, cy, rfl⟩ := inn_sl6 hin
          obtain ⟨t, ht⟩ : ∃ t, l[k] = t := ⟨_, rfl⟩
          rw [ht] at c0 c1 c2 c3 hin
          have hri := rright_any t wz _ _ (Nat.le_refl _) hin (by have := HSZ.out l[k] (List.getElem_mem hlt); rw [ht] at this; omega)
          obtain ⟨q, hq⟩ : ∃ q, t.right = q := ⟨_, rfl⟩
          rw [hq] at hri
          have HRI := Lib.hid hri
          have HTT := Lib.hid ht
          have HQ := Lib.hid hq
          clear hri ht hq hin
          go_wp2_with fail
          refine HRI.out.mono ?_
          rintro e w1 ⟨rfl, hb1⟩
          have HT1 := Lib.hid (HTZ.out.next hb1)
          clear hb1 HRI HTZ c0 c1 c2 c3
          cases q with
          | true =>
            go_wp2_with fail
            go_roundw
            case rel =>
              refine ⟨k + 1, by omega, by go_num, fun j hj hjk => ?_, HT1.out⟩
              by_cases hjj : j < k
              · exact HP.out j hj hjj
              · obtain rfl : j = k := by omega
                rw [HTT.out]; exact HQ.out
            case measure => simp [intOf]; omega
          | false =>
            have hX : X = kZ ∧ E = 1 := by
              rcases HC.out with ⟨_, h1, h2⟩ | ⟨hnil, _⟩ | ⟨h, _⟩
              · exact ⟨h1, h2⟩
              · rw [hnil] at hlt; cases hlt
              · have h3 := h l[k] (List.getElem_mem hlt)
                rw [HTT.out, HQ.out] at h3; cases h3
            obtain ⟨rfl, rfl⟩ := hX
            obtain ⟨t0, t1, t2, t3⟩ := HT1.out.tx.cells
            have lt := HT1.out.tx.lt
            clear HC HTT HQ HP
            go_wp2_with fail
            have hsm := rsame_any kZ kZ w1 _ (.slice gx kZ.args.length cx) (.slice none 0 0) (Nat.le_refl _) HT1.out.tx.2 (inn_kZ7 _)
            rw [show kZ.same kZ = true by kernel_rfl] at hsm
            refine hsm.mono ?_
            rintro e U1 ⟨rfl, hbu⟩
            have HTU := Lib.hid (HT1.out.next hbu)
            clear hbu hsm HT1 t0 t1 t2 t3 lt
            go_wp2_with fail
            refine (k6_any U1).mono ?_
            rintro e U2 ⟨rfl, hbk⟩
            have HB := Lib.hid (HTU.out.next hbk).below
            clear hbk
            go_wp2_with fail
            go_ret
            exact ⟨rfl, HB.out⟩
        · obtain rfl : k = l.length := by omega
          have hall : ∀ t ∈ l, t.right = true := fun t ht => by
            obtain ⟨j, hj, rfl⟩ := List.getElem_of_mem ht
            exact HP.out j hj hj
          have hX : X = foldT (l[0]'HPOS.out) l ∧ E = 0 := by
            rcases HC.out with ⟨⟨t, ht, hf⟩, _⟩ | ⟨hnil, _⟩ | ⟨_, hh, h1, h2⟩
            · rw [hall t ht] at hf; cases hf
            · have := HPOS.out; rw [hnil] at this; cases this
            · exact ⟨h1, h2⟩
          obtain ⟨hXm, rfl⟩ := hX
          have HXM := Lib.hid hXm
          have HAL := Lib.hid hall
          have HXR := Lib.hid (show X.right = true by rw [hXm]; exact foldT_right l _ (hall _ (List.getElem_mem HPOS.out)))
          have HXI := Lib.hid (show ∀ x ∈ l, inst x X = true by rw [hXm]; exact (foldT_inst l _ (hall _ (List.getElem_mem HPOS.out))).2)
          have HXS := Lib.hid (show X.size ≤ 4000 by rw [hXm]; exact Nat.le_trans (foldT_size l _) (HSZ.out _ (List.getElem_mem HPOS.out)))
          clear hXm hall HC HP hlt hk
          go_wp2_with fail
          go_loopw [6] (fun i wr => ∃ k : Nat, k ≤ l.length ∧ i = .int .i64 k ∧ Hid (TR w l (.slice g l.length cap) tb X (.slice gx X.args.length cx) wr)) (fun i _ => l.length - (intOf i).toNat)
          case atStart => exact ⟨0, Nat.zero_le _, rfl, HTZ.out⟩
          case round =>
            obtain ⟨wy, rfl⟩ : ∃ x, x = wr := ⟨_, rfl⟩
            obtain ⟨k, hk, rfl, ht⟩ := hrel
            have HTY := Lib.hid ht.out
            clear ht HTZ
            by_cases hlt : k < l.length
            · obtain ⟨p, po, sx, rfl, hpB, c0, c1, c2, c3, hin⟩ := Tm.sliceIn_get HTY.out.sl k hlt
              obtain ⟨gy, cy, rfl⟩ := inn_sl6 hin
              obtain ⟨t, ht⟩ : ∃ t, l[k] = t := ⟨_, rfl⟩
              rw [ht] at c0 c1 c2 c3 hin
              obtain ⟨t0, t1, t2, t3⟩ := HTY.out.tx.cells
              have lt := HTY.out.tx.lt
              have hdr := (Below.refl wy.heap.size wy).drew
              have hst : t.size ≤ 4000 := by have := HSZ.out l[k] (List.getElem_mem hlt); rw [ht] at this; omega
              have hin1 := instance_any t X wy.drew _ _ (lift6_inn hin hdr) (HTY.out.next hdr).tx.2 (by omega) (by have := HXS.out; omega)
              rw [show (X.right && t.right && inst t X) = true by rw [HXR.out, ← ht, HAL.out _ (List.getElem_mem hlt), HXI.out _ (List.getElem_mem hlt)]; rfl] at hin1
              have HIN := Lib.hid hin1
              clear hin1 hin ht hst hdr
              go_wp2_with fail
              go_still_tail 5, (by kernel_rfl)
              go_wp2_with fail
              refine HIN.out.mono ?_
              rintro e w2 ⟨rfl, hb2⟩
              have HT2 := Lib.hid (HTY.out.next (((Below.refl wy.heap.size wy).drew).trans hb2))
              clear hb2 HIN HTY c0 c1 c2 c3 t0 t1 t2 t3 lt
              go_wp2_with fail
              go_roundw
              case rel => exact ⟨k + 1, by omega, by go_num, HT2.out⟩
              case measure => simp [intOf]; omega
            · obtain rfl : k = l.length := by omega
              have HS := Lib.hid (CR.of (HTY.out.next ((Below.refl _ _).drew)))
              clear hlt hk
              go_wp2_with fail
              refine wp_region_held_drew (S := fun W' => CR w l (.slice g l.length cap) tb X (.slice gx X.args.length cx) W') (by kernel_rfl) HS.out (fun hHeld => ?_)
              clear HS HTY
              refine wpAnyH_take (i := 0) (oi := _) (v := ?_) rfl (by kernel_rfl) (by kernel_rfl) (by kernel_rfl) (fun _ _ _ h => h) (Or.inl ⟨by rfl, ?_⟩) hHeld ?_
              rotate_left
              · (intro w hSw; obtain ⟨⟨t0, t1, t2, t3⟩, _⟩ := hSw; go_simp; try with_reducible rfl)
              try simp only [Act.put, List.setIfInBounds_toArray, List.set_cons_zero, List.set_cons_succ, List.getElem_toArray, List.getElem_cons_zero]
              refine wpAnyH_take (i := 1) (oi := _) (v := ?_) rfl (by kernel_rfl) (by kernel_rfl) (by kernel_rfl) (fun _ _ _ h => h) (Or.inl ⟨by rfl, ?_⟩) hHeld ?_
              rotate_left
              · (intro w hSw; obtain ⟨⟨t0, t1, t2, t3⟩, _⟩ := hSw; go_simp; try with_reducible rfl)
              try simp only [Act.put, List.setIfInBounds_toArray, List.set_cons_zero, List.set_cons_succ, List.getElem_toArray, List.getElem_cons_zero, List.getElem_cons_succ]
              refine wpAnyH_ready (rs := [2]) (by kernel_rfl) (by simp) ?_
              refine AllReadyH.cons (o := _) rfl (fun K hK => ?_) (AllReadyH.nil)
              go_simp
              refine (rall_any l _ _ hHeld.2.sl (fun t ht => by have := HSZ.out t ht; omega) (by omega) HPOS.out).mono ?_
              rintro e U1 ⟨g1, c1, rfl, hp1, hbu⟩
              have HP1 := Lib.hid hp1
              have HR1 := Lib.hid (CR.of (hHeld.2.next hbu))
              clear hbu hp1 hHeld
              go_wp2_with fail
              refine hK.out _ _ (HR1.out) (fun hHeld => ?_)
              clear hK K
              try simp only [Act.put, List.setIfInBounds_toArray, List.set_cons_zero, List.set_cons_succ, List.getElem_toArray, List.getElem_cons_zero, List.getElem_cons_succ]
              clear HR1
              refine wpAnyH_ready (rs := [3]) (by kernel_rfl) (by simp) ?_
              refine AllReadyH.cons (o := _) rfl (fun K hK => ?_) (AllReadyH.nil)
              go_simp
              have hsm := rsame_any X (foldT (l[0]'HPOS.out) l) U1 _ _ _ (Nat.le_refl _) hHeld.2.tx.2 HP1.out
              rw [(Tm.same_iff X _).2 HXM.out] at hsm
              refine hsm.mono ?_
              rintro e U2 ⟨rfl, hbu⟩
              have HR1 := Lib.hid (CR.of (hHeld.2.next hbu))
              clear hbu hsm hHeld HP1
              go_wp2_with fail
              refine hK.out _ _ (HR1.out) (fun hHeld => ?_)
              clear hK K
              try simp only [Act.put, List.setIfInBounds_toArray, List.set_cons_zero, List.set_cons_succ, List.getElem_toArray, List.getElem_cons_zero, List.getElem_cons_succ]
              clear HR1
              refine wpAnyH_take (i := 4) (oi := _) (v := ?_) rfl (by kernel_rfl) (by kernel_rfl) (by kernel_rfl) (fun _ _ _ h => h) (Or.inl ⟨by rfl, ?_⟩) hHeld ?_
              rotate_left
              · (intro w hSw; obtain ⟨⟨t0, t1, t2, t3⟩, _⟩ := hSw; go_simp; try with_reducible rfl)
              try simp only [Act.put, List.setIfInBounds_toArray, List.set_cons_zero, List.set_cons_succ, List.getElem_toArray, List.getElem_cons_zero, List.getElem_cons_succ]
              refine wpAnyH_take (i := 5) (oi := _) (v := ?_) rfl (by kernel_rfl) (by kernel_rfl) (by kernel_rfl) (fun _ _ _ h => h) (Or.inl ⟨by rfl, ?_⟩) hHeld ?_
              rotate_left
              · (intro w hSw; obtain ⟨⟨t0, t1, t2, t3⟩, _⟩ := hSw; go_simp; try with_reducible rfl)
              try simp only [Act.put, List.setIfInBounds_toArray, List.set_cons_zero, List.set_cons_succ, List.getElem_toArray, List.getElem_cons_zero, List.getElem_cons_succ]
              refine wpAnyH_take (i := 6) (oi := _) (v := ?_) rfl (by kernel_rfl) (by kernel_rfl) (by kernel_rfl) (fun _ _ _ h => h) (Or.inl ⟨by rfl, ?_⟩) hHeld ?_
              rotate_left
              · (intro w hSw; obtain ⟨⟨t0, t1, t2, t3⟩, _⟩ := hSw; go_simp; try with_reducible rfl)
              try simp only [Act.put, List.setIfInBounds_toArray, List.set_cons_zero, List.set_cons_succ, List.getElem_toArray, List.getElem_cons_zero, List.getElem_cons_succ]
              refine wpAnyH_take (i := 7) (oi := _) (v := ?_) rfl (by kernel_rfl) (by kernel_rfl) (by kernel_rfl) (fun _ _ _ h => h) (Or.inl ⟨by rfl, ?_⟩) hHeld ?_
              rotate_left
              · (intro w hSw; obtain ⟨⟨t0, t1, t2, t3⟩, _⟩ := hSw; go_simp; try with_reducible rfl)
              try simp only [Act.put, List.setIfInBounds_toArray, List.set_cons_zero, List.set_cons_succ, List.getElem_toArray, List.getElem_cons_zero, List.getElem_cons_succ]
              refine wpAnyH_take (i := 8) (oi := _) (v := ?_) rfl (by kernel_rfl) (by kernel_rfl) (by kernel_rfl) (fun _ _ _ h => h) (Or.inl ⟨by rfl, ?_⟩) hHeld ?_
              rotate_left
              · (intro w hSw; obtain ⟨⟨t0, t1, t2, t3⟩, _⟩ := hSw; go_simp; try with_reducible rfl)
              try simp only [Act.put, List.setIfInBounds_toArray, List.set_cons_zero, List.set_cons_succ, List.getElem_toArray, List.getElem_cons_zero, List.getElem_cons_succ]
              refine wpAnyH_ready (rs := [9]) (by kernel_rfl) (by simp) ?_
              refine AllReadyH.cons (o := _) rfl (fun K hK => ?_) (AllReadyH.nil)
              go_simp
              refine (k6_any _).mono ?_
              rintro e U3 ⟨rfl, hbu⟩
              have HR1 := Lib.hid (CR.of (hHeld.2.next hbu))
              clear hbu hHeld
              go_wp2_with fail
              refine hK.out _ _ (HR1.out) (fun hHeld => ?_)
              clear hK K
              try simp only [Act.put, List.setIfInBounds_toArray, List.set_cons_zero, List.set_cons_succ, List.getElem_toArray, List.getElem_cons_zero, List.getElem_cons_succ]
              clear HR1
              refine wpAnyH_take (i := 10) (oi := _) (v := ?_) rfl (by kernel_rfl) (by kernel_rfl) (by kernel_rfl) (fun _ _ _ h => h) (Or.inl ⟨by rfl, ?_⟩) hHeld ?_
              rotate_left
              · (intro w hSw; obtain ⟨⟨t0, t1, t2, t3⟩, _⟩ := hSw; go_simp; try with_reducible rfl)
              try simp only [Act.put, List.setIfInBounds_toArray, List.set_cons_zero, List.set_cons_succ, List.getElem_toArray, List.getElem_cons_zero, List.getElem_cons_succ]
              refine wpAnyH_ready (rs := [11]) (by kernel_rfl) (by simp) ?_
              refine AllReadyH.cons (o := _) rfl (fun K hK => ?_) AllReadyH.nil
              go_simp
              refine hK.out _ _ (hHeld) (fun hHeld => ?_)
              clear hK K
              try simp only [Act.put, List.setIfInBounds_toArray, List.set_cons_zero, List.set_cons_succ, List.getElem_toArray, List.getElem_cons_zero, List.getElem_cons_succ]
              refine wpAnyH_done (by kernel_rfl) ?_ _
              have HB := Lib.hid hHeld.2.below
              clear hHeld
              go_wp2_with fail
              go_ret
              exact ⟨rfl, HB.out⟩
end Go.Proofs.Ytjbicfimoiiglaa
