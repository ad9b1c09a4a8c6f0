/-
  The program's reader: an operand.
-/
import Derived.Test.YtkjnjahmlobjiaaGreatDoorPrS
namespace Go.Proofs.YtkjnjahmlobjiaaGreatDoor
open Go.RowKit

def simE : RRes Tm → RRes (Tm × Nat)
  | .error e => .error e
  | .ok (t, r, n) => .ok ((t, 0), r, n)
theorem simE_val (r : RRes Tm) : valOf (simE r) = (valOf r).map (fun t => (t, 0)) := by cases r <;> rfl
theorem beg_eq (z : Nat) (x : Tk × Nat) (r : Toks) : begB (tkAt z (x :: r) 1) = begT r := by
  cases r with
  | nil => rfl
  | cons y q =>
    show begB y = begT (y :: q)
    rw [Bool.eq_iff_iff]
    simp only [begB, begT, decide_eq_true_eq]
    constructor
    · rintro (h | h | h | h)
      · exact .inr (.inl h)
      · exact .inl h
      · exact .inr (.inr (.inl h))
      · exact .inr (.inr (.inr h))
    · rintro (h | h | h | h)
      · exact .inr (.inl h)
      · exact .inl h
      · exact .inr (.inr (.inl h))
      · exact .inr (.inr (.inr h))
theorem neg_eq {S : List UInt8} {z : Nat} {x : Tk × Nat} {r : Toks} (h : Fact S x r) : negB x (tkAt z (x :: r) 1) = true ↔ (x.1.text = [45] ∧ S[x.2]? = some 45 ∧ numAt (x.2 + 1) r = true) := by
  cases r with
  | nil => simp [negB, numAt, tkAt]
  | cons y q =>
    have e1 : negB x (tkAt z (x :: y :: q) 1) = true ↔ (x.1.text = [45] ∧ y.1.kind = 3 ∧ y.2 = x.2 + 1) := by
      show decide (x.1.text = [45] ∧ y.1.kind = 3 ∧ y.2 = x.2 + 1) = true ↔ _
      simp
    have e2 : numAt (x.2 + 1) (y :: q) = true ↔ (y.1.kind = 3 ∧ y.2 = x.2 + 1) := by simp [numAt]
    rw [e1, e2]
    constructor
    · rintro ⟨h1, h2⟩
      exact ⟨h1, h.neg h1 (e2.2 h2), h2⟩
    · rintro ⟨h1, _, h2⟩
      exact ⟨h1, h2⟩
theorem op_large {S : List UInt8} {f p deep : Nat} {ts : Toks} {ns : Names} (h : 999 < deep) : rdOp S f p deep ts ns = .error (3, placeT S ts) := by
  unfold rdOp
  rw [if_pos h]
theorem op_neg {S : List UInt8} {f p deep z : Nat} {x : Tk × Nat} {r : Toks} {ns : Names} (hd : ¬ 999 < deep) (hg : Good S (x :: r)) (hf : 1 ≤ f) (h : negB x (tkAt z (x :: r) 1) = true) : rdOp S f p deep (x :: r) ns = .ok ((numT (-((tkAt z (x :: r) 1).1.n : Int)), 0), (x :: r).drop 2, ns) ∧ 2 ≤ (x :: r).length := by
  have hx := hg.head
  obtain ⟨h1, h2, h3⟩ := (neg_eq hx).1 h
  have hk : x.1.kind = 1 := hx.pref (by rw [h1]; decide)
  obtain ⟨g, rfl⟩ : ∃ g, f = g + 1 := ⟨f - 1, by omega⟩
  cases r with
  | nil => simp [numAt] at h3
  | cons y q =>
    refine ⟨?_, by simp⟩
    unfold rdOp
    rw [if_neg hd]
    dsimp only
    rw [if_neg (by omega), if_neg (by omega), if_pos hk, rdName, if_pos ⟨h1, h2, h3⟩]
    rfl
theorem op_sim {S : List UInt8} {f p deep z : Nat} {ts : Toks} {ns : Names} (hd : ¬ 999 < deep) (hg : Good S ts) (hf : ts ≠ [] → 1 ≤ f) (h : negB (tkAt z ts 0) (tkAt z ts 1) = false) (hs : prefP (tkAt z ts 0).1.text = 0 ∨ (tkAt z ts 0).1.opn = true ∨ begB (tkAt z ts 1) = false) : rdOp S f p deep ts ns = simE (rdSim S f deep ts ns) := by
  cases ts with
  | nil =>
    unfold rdOp
    rw [if_neg hd]
    rfl
  | cons x r =>
    have hx := hg.head
    have hn : ¬ (x.1.text = [45] ∧ S[x.2]? = some 45 ∧ numAt (x.2 + 1) r = true) := fun h9 => by
      have h8 := (neg_eq (z := z) hx).2 h9
      rw [show tkAt z (x :: r) 0 = x from rfl, h8] at h
      cases h
    obtain ⟨g, rfl⟩ : ∃ g, f = g + 1 := ⟨f - 1, by have := hf (by simp); omega⟩
    rw [beg_eq, show tkAt z (x :: r) 0 = x from rfl] at hs
    unfold rdOp rdSim
    rw [if_neg hd]
    dsimp only
    by_cases k3 : x.1.kind = 3
    · rw [if_pos k3, if_pos k3]; rfl
    rw [if_neg k3, if_neg k3]
    by_cases k2 : x.1.kind = 2
    · rw [if_pos k2, if_pos k2]; rfl
    rw [if_neg k2, if_neg k2]
    by_cases k1 : x.1.kind = 1
    · rw [if_pos k1, if_pos k1, rdName, if_neg hn]
      by_cases ho : x.1.opn = true
      · rw [if_pos ho, if_pos ho]
        have h4 := hx.opn k1 ho
        have hne : needT S 40 r = .ok r.tail := by unfold needT; rw [if_pos h4]
        rw [hne]
        unfold cmpE
        simp only [Nat.add_sub_cancel]
        cases rdRow S g deep r.tail ns with
        | error e => rfl
        | ok q =>
          obtain ⟨l, r2, n2⟩ := q
          dsimp only
          cases needT S 41 r2 <;> rfl
      · rw [if_neg ho, if_neg ho, if_pos (by
          rcases hs with h1 | h1 | h1
          · exact .inl h1
          · exact absurd h1 ho
          · exact .inr h1)]
        rfl
    rw [if_neg k1, if_neg k1]
    by_cases h4 : seeT 40 (x :: r) = true
    · rw [if_pos h4, if_pos h4]
      cases parE S (g + 1) deep (.ok (r, ns)) with
      | error e => rfl
      | ok q => obtain ⟨t, r1, n1⟩ := q; rfl
    rw [if_neg h4, if_neg h4]
    by_cases h9 : seeT 91 (x :: r) = true
    · rw [if_pos h9, if_pos h9]
      cases lstE S (g + 1) deep (.ok (r, ns)) with
      | error e => rfl
      | ok q => obtain ⟨t, r1, n1⟩ := q; rfl
    rw [if_neg h9, if_neg h9]
    rfl
theorem op_pref {S : List UInt8} {f p deep z : Nat} {ts : Toks} {ns : Names} (hd : ¬ 999 < deep) (hg : Good S ts) (hf : ts ≠ [] → 1 ≤ f) (h : negB (tkAt z ts 0) (tkAt z ts 1) = false) (hq : prefP (tkAt z ts 0).1.text ≠ 0) (ho : (tkAt z ts 0).1.opn = false) (hb : begB (tkAt z ts 1) = true) :
    (∃ r, ts = tkAt z ts 0 :: r) ∧ rdOp S f p deep ts ns = (if p < prefP (tkAt z ts 0).1.text then .error (2, placeT S ts) else prefE (tkAt z ts 0) (prefP (tkAt z ts 0).1.text) (rdTerm S (f - 1) (prefP (tkAt z ts 0).1.text) (deep + 1) ts.tail ns)) := by
  cases ts with
  | nil => exact absurd rfl hq
  | cons x r =>
    have hx := hg.head
    refine ⟨⟨r, rfl⟩, ?_⟩
    rw [show tkAt z (x :: r) 0 = x from rfl] at h hq ho ⊢
    rw [beg_eq] at hb
    have hn : ¬ (x.1.text = [45] ∧ S[x.2]? = some 45 ∧ numAt (x.2 + 1) r = true) := fun h9 => by
      have h8 := (neg_eq (z := z) hx).2 h9
      rw [h8] at h
      cases h
    have hk := hx.pref hq
    obtain ⟨g, rfl⟩ : ∃ g, f = g + 1 := ⟨f - 1, by have := hf (by simp); omega⟩
    unfold rdOp
    rw [if_neg hd]
    dsimp only
    rw [if_neg (by omega), if_neg (by omega), if_pos hk, rdName, if_neg hn, if_neg (by rw [ho]; simp), if_neg (by
      rintro (h1 | h1)
      · exact hq h1
      · rw [h1] at hb; cases hb)]
    by_cases hp : p < prefP x.1.text
    · rw [if_pos hp, if_pos hp]
      rfl
    · rw [if_neg hp, if_neg hp]
      rw [Nat.add_sub_cancel, List.tail_cons]
      cases rdTerm S g (prefP x.1.text) (deep + 1) r ns with
      | error e => rfl
      | ok q => obtain ⟨u, r1, n1⟩ := q; rfl
/-- What was made since the call began stays. -/
theorem PSt.keep2 {X B : Nat → Prop} {W : World} {rb z b : Nat} {nv : Value} {ts : Toks} {ns : Names} {wx wy : World} (h : PSt X B W rb z nv ts ns nv wx) (hf : FrP (wrt rb nv) wx wy) (h1 : W.heap.size ≤ b) (h2 : b < wx.heap.size) : wy.heap[b]? = wx.heap[b]? :=
  hf.block b h2 (fun hw => by
    rcases hw with hw | hw
    · have := h.lt
      omega
    · have := h.old b (h.xn b hw)
      omega)
theorem o_fin {X B : Nat → Prop} {W : World} {rb z tb : Nat} {nv : Value} {ts : Toks} {ns : Names} {nv' : Value} {V : World} {S : List UInt8} {r : RRes (Tm × Nat)} {cd q : Nat} {u : Option Tm} {k : Int} {nm : ByteArray} {n : Int} {g : Option Addr} {m c : Nat}
    (h : PSt X B W rb z nv ts ns nv' V) (ht : TV (Yc X B nv') V u k nm n (.slice g m c)) (hb : B tb) (hr : Told S r cd ts ns) (hu : ∀ t, (valOf r).map Prod.fst = some t → u = some t) (hq : q ≤ 1200) (hq2 : ∀ u, valOf r = some u → q = u.2) :
    POpPost X W rb z nv S r (.returned (.tuple #[.agg #[.int .i64 k, .string nm, .int .i64 n, .slice g m c], .int .i64 (q : Nat), .int .i64 (cd : Nat)])) (set4 V tb k nm n (.slice g m c)) := by
  have hf := FrP.put V tb k nm n (.slice g m c)
  refine ⟨k, nm, n, g, m, c, q, cd, nv', rfl, hq, (h.put hf hb).fin hr, ?_, hq2⟩
  exact ((ht.mv hf (fun b e => by subst e; exact .inl (.inr hb)) (fun b hx => .inl hx)).fin).sub hu
theorem told_sim {S : List UInt8} {r : RRes Tm} {c : Nat} {ts : Toks} {ns : Names} (h : Told S r c ts ns) : Told S (simE r) c ts ns := by
  cases r with
  | error e => exact h
  | ok q => exact h
theorem pref_tv {Y : Nat → Prop} {w : World} {x : Tk × Nat} {q nb : Nat} {r : RRes Tm} {k : Int} {nm : ByteArray} {n : Int} {sv : Value} {T : TypeId} {fz : Nat × Nat} (hn : ¬ Y nb) (hnw : w.heap[nb]? = some (.cells #[.int .i64 k, .string nm, .int .i64 n, sv] T fz)) (ht : TV Y w (valOf r) k nm n sv) (hx : (nmT x).size ≤ maxLen) : TV Y w ((valOf (prefE x q r)).map Prod.fst) 3 (nmT x) 0 (.slice (some ⟨nb, 0, none⟩) 1 1) := by
  refine TV.fn hx fun t h1 => ?_
  rw [prefE_val, Option.map_map] at h1
  obtain ⟨u, hu, rfl⟩ := Option.map_eq_some_iff.1 h1
  obtain ⟨rfl, rfl, rfl, h4⟩ := ht.2.2.2 u hu
  exact ⟨[u], rfl, one_slice hnw ⟨hn, (Array.getElem?_eq_some_iff.1 hnw).1⟩ h4⟩
theorem told_pref {S : List UInt8} {x : Tk × Nat} {q : Nat} {r : RRes Tm} {c : Nat} {ts : Toks} {ns : Names} (h : Told S r c ts ns) : Told S (prefE x q r) c ts ns := by
  cases r with
  | error e => exact h
  | ok q => exact h
theorem al_drew {U U7 : World} {o : Obj} (h : Below (U.alloc o).drew.heap.size (U.alloc o).drew U7) : Below U.heap.size U U7 ∧ U7.heap[U.heap.size]? = some o ∧ U.heap.size < U7.heap.size := by
  have h1 : Below U.heap.size U (U.alloc o).drew := ((Below.refl _ _).alloc (Nat.le_refl _) o).drew
  have hs : U.heap.size < (U.alloc o).drew.heap.size := by show U.heap.size < (U.alloc o).heap.size; simp
  exact ⟨h1.trans (h.mono (by omega)), (h.block _ hs).trans (newBlk U o _ rfl), Nat.lt_of_lt_of_le hs h.size⟩
theorem prefP_le (tx : List UInt8) : prefP tx ≤ 900 := by
  unfold prefP
  repeat' split
  all_goals decide
set_option maxRecDepth 100000 in
set_option maxHeartbeats 8000000 in
theorem operand_p (f : Nat) (IHs : PSimple f) (IHt : PTerm (f - 1)) : POper f := by
  intro X W rb z S ts ns nv most deep hin hrd hmost hdeep
  obtain ⟨R, hR⟩ : ∃ R, rdOp S f most deep ts ns = R := ⟨_, rfl⟩
  rw [hR]
  have HR := Lib.hid hR
  have HIN := Lib.hid hin
  have hlt := hrd.lt
  have hst0 := (PSt.start hrd).box (.cells #[.int .i64 0, .string ⟨#[]⟩, .int .i64 0, .slice none 0 0] 34)
  have hb4 := newBlk W (.cells #[.int .i64 0, .string ⟨#[]⟩, .int .i64 0, .slice none 0 0] 34) W.heap.size rfl
  have hsm := tkAt_small (z := z) hin.good hin.zl 0
  have hsm1 := tkAt_small (z := z) hin.good hin.zl 1
  have hts := hin.len
  obtain ⟨V, hV⟩ : ∃ V, W.alloc (.cells #[.int .i64 0, .string ⟨#[]⟩, .int .i64 0, .slice none 0 0] 34) = V := ⟨_, rfl⟩
  obtain ⟨x, hx⟩ : ∃ x, tkAt z ts 0 = x := ⟨_, rfl⟩
  obtain ⟨y, hy⟩ : ∃ y, tkAt z ts 1 = y := ⟨_, rfl⟩
  rw [hV] at hst0 hb4
  have HAH := Lib.hid (ahead0_any V rb z ts ns nv x hx hst0.rd hts)
  have HST0 := Lib.hid hst0
  have HB4 := Lib.hid hb4
  rw [hx] at hsm
  rw [hy] at hsm1
  have HX := Lib.hid hx
  have HY := Lib.hid hy
  have HSM := Lib.hid hsm
  have HSM1 := Lib.hid hsm1
  have HIHS := Lib.hid IHs
  have HIHT := Lib.hid IHt
  have jd : IntKind.i64.wrap ((deep : Int) + 1) = (deep : Int) + 1 := by rw [IntKind.wrap_i64]; omega
  clear hR hin hrd hst0 hb4 hsm hsm1 hx hy IHs IHt
  go_enter Tryz.func81, Tryz.ntmps81
  go_upto_region 1 with fail
  clear hV
  go_upto_region 2 with (go_at_call 45; first | ((with_reducible refine (HAH.out).mono ?_); rintro e V1 ⟨rfl, hb⟩; have HST1 := Lib.hid (HST0.out.next hb); have HB5 := Lib.hid ((hb.block _ (Array.getElem?_eq_some_iff.1 HB4.out).1).trans HB4.out); have HAH1 := Lib.hid (ahead1_any V1 rb z ts ns nv y HY.out HST1.out.rd hts); clear hb) | ((with_reducible refine (HAH1.out).mono ?_); rintro e V2 ⟨rfl, hb⟩; have HST2 := Lib.hid (HST1.out.next hb); have HB6 := Lib.hid ((hb.block _ (Array.getElem?_eq_some_iff.1 HB5.out).1).trans HB5.out); clear hb))
  have hwl := (Array.getElem?_eq_some_iff.1 HB6.out).1
  have hb1 := (Below.refl V2.heap.size V2).alloc (Nat.le_refl _) (.cells #[.int .i64 (x.1.kind : Nat), .string ⟨x.1.text.toArray⟩, .int .i64 (x.1.n : Nat), .int .i64 (x.2 : Nat), .bool x.1.opn] 103)
  have hb2 := hb1.alloc (by simp) (.cells #[.int .i64 (y.1.kind : Nat), .string ⟨y.1.text.toArray⟩, .int .i64 (y.1.n : Nat), .int .i64 (y.2 : Nat), .bool y.1.opn] 103)
  have hxb0 := newBlk V2 (.cells #[.int .i64 (x.1.kind : Nat), .string ⟨x.1.text.toArray⟩, .int .i64 (x.1.n : Nat), .int .i64 (x.2 : Nat), .bool x.1.opn] 103) V2.heap.size rfl
  have hxb := (Below.heap_alloc (V2.alloc (.cells #[.int .i64 (x.1.kind : Nat), .string ⟨x.1.text.toArray⟩, .int .i64 (x.1.n : Nat), .int .i64 (x.2 : Nat), .bool x.1.opn] 103)) (.cells #[.int .i64 (y.1.kind : Nat), .string ⟨y.1.text.toArray⟩, .int .i64 (y.1.n : Nat), .int .i64 (y.2 : Nat), .bool y.1.opn] 103) V2.heap.size (by simp)).trans hxb0
  have hyb := newBlk (V2.alloc (.cells #[.int .i64 (x.1.kind : Nat), .string ⟨x.1.text.toArray⟩, .int .i64 (x.1.n : Nat), .int .i64 (x.2 : Nat), .bool x.1.opn] 103)) (.cells #[.int .i64 (y.1.kind : Nat), .string ⟨y.1.text.toArray⟩, .int .i64 (y.1.n : Nat), .int .i64 (y.2 : Nat), .bool y.1.opn] 103) (V2.heap.size + 1) (by simp)
  have hst3 := HST2.out.next hb2
  have hb7 := (hb2.block _ hwl).trans HB6.out
  obtain ⟨xb, hxe⟩ : ∃ xb, V2.heap.size = xb := ⟨_, rfl⟩
  obtain ⟨V3, hV3⟩ : ∃ V3, (V2.alloc (.cells #[.int .i64 (x.1.kind : Nat), .string ⟨x.1.text.toArray⟩, .int .i64 (x.1.n : Nat), .int .i64 (x.2 : Nat), .bool x.1.opn] 103)).alloc (.cells #[.int .i64 (y.1.kind : Nat), .string ⟨y.1.text.toArray⟩, .int .i64 (y.1.n : Nat), .int .i64 (y.2 : Nat), .bool y.1.opn] 103) = V3 := ⟨_, rfl⟩
  rw [hV3] at hxb hyb hst3 hb7 ⊢
  rw [hxe] at hxb hyb hwl ⊢
  have HST3 := Lib.hid hst3
  have HB7 := Lib.hid hb7
  have HXB := Lib.hid hxb
  have HYB := Lib.hid hyb
  have HOP := Lib.hid (operator_any V3 rb z ts ns nv hst3.rd (x.1.kind : Nat) (x.1.n : Nat) (x.2 : Nat) x.1.text x.1.opn HSM.out.2.1)
  obtain ⟨⟨x0, x1, x2, x3, x4⟩, -⟩ := row5t hxb
  have hxl := (Array.getElem?_eq_some_iff.1 hxb).1
  clear hxb hyb hst3 hb7 hV3 hxe hb1 hb2 hxb0 HST2 HB6 HST1 HB5 HST0 HB4 HAH HAH1
  go_upto_region 3 with (go_at_call 82; (with_reducible refine (HOP.out).mono ?_); rintro e U ⟨rfl, hrd2, hfr2⟩; have hk1 := HST3.out.keep2 (wrt0 hfr2) (b := xb) (by omega) hxl; have hk2 := HST3.out.keep2 (wrt0 hfr2) (b := xb + 1) (by omega) (Array.getElem?_eq_some_iff.1 HYB.out).1; have HB8 := Lib.hid ((HST3.out.keep (wrt0 hfr2) (.inr rfl)).trans HB7.out); have HXB2 := Lib.hid (hk1.trans HXB.out); have HYB2 := Lib.hid (hk2.trans HYB.out); have HST4 := Lib.hid (HST3.out.call0 hrd2 hfr2); clear hrd2 hfr2 hk1 hk2)
  clear HOP HST3 HB7 HXB HYB x0 x1 x2 x3 x4 hxl
  obtain ⟨q1, l1, r1, qp, hin⟩ : ∃ q1 l1 r1 qp : Nat, (infixP x.1.text).1 = q1 ∧ (infixP x.1.text).2.1 = l1 ∧ (infixP x.1.text).2.2 = r1 ∧ prefP x.1.text = qp := ⟨_, _, _, _, rfl, rfl, rfl, rfl⟩
  rw [hin.1, hin.2.1, hin.2.2.1, hin.2.2.2]
  have HQP := Lib.hid hin.2.2.2
  have hqp : qp ≤ 900 := by rw [← hin.2.2.2]; exact prefP_le _
  clear hin
  have hxl := (Array.getElem?_eq_some_iff.1 HXB2.out).1
  have hyl := (Array.getElem?_eq_some_iff.1 HYB2.out).1
  have hwl2 := (Array.getElem?_eq_some_iff.1 HB8.out).1
  have hb1 := (Below.refl U.heap.size U).alloc (Nat.le_refl _) (.cells #[.int .i64 (q1 : Nat), .int .i64 (l1 : Nat), .int .i64 (r1 : Nat), .int .i64 (qp : Nat)] 142)
  have hob := newBlk U (.cells #[.int .i64 (q1 : Nat), .int .i64 (l1 : Nat), .int .i64 (r1 : Nat), .int .i64 (qp : Nat)] 142) U.heap.size rfl
  have hst5 := HST4.out.next hb1
  have hb9 := (hb1.block _ hwl2).trans HB8.out
  have hxb9 := (hb1.block _ hxl).trans HXB2.out
  have hyb9 := (hb1.block _ hyl).trans HYB2.out
  obtain ⟨ob, hoe⟩ : ∃ ob, U.heap.size = ob := ⟨_, rfl⟩
  obtain ⟨U1, hU1⟩ : ∃ U1, U.alloc (.cells #[.int .i64 (q1 : Nat), .int .i64 (l1 : Nat), .int .i64 (r1 : Nat), .int .i64 (qp : Nat)] 142) = U1 := ⟨_, rfl⟩
  rw [hU1] at hob hst5 hb9 hxb9 hyb9 ⊢
  rw [hoe] at hob hxl hyl ⊢
  have HST5 := Lib.hid hst5
  have HB9 := Lib.hid hb9
  have HXB9 := Lib.hid hxb9
  have HYB9 := Lib.hid hyb9
  have HOB9 := Lib.hid hob
  clear hb1 hob hst5 hb9 hxb9 hyb9 hU1 hoe HST4 HB8 HXB2 HYB2
  by_cases hd : 999 < deep
  · have hRe : R = .error (3, placeT S ts) := by rw [← HR.out]; exact op_large hd
    subst hRe
    obtain ⟨⟨a0, a1, a2, a3⟩, af0, af1, af2, af3⟩ := row4 HB9.out
    have htw : W.heap.size < U1.heap.size := (Array.getElem?_eq_some_iff.1 HB9.out).1
    have HTV2 : Hid (TV (Yc X (fun b => False ∨ b = W.heap.size) nv) U1 none 0 ⟨#[]⟩ 0 (.slice none 0 0)) := Lib.hid tm_none
    go_wp2_with fail
    have HF := Lib.hid (o_fin (q := 0) (cd := 3) HST5.out HTV2.out (.inr rfl) (show Told S (.error (3, placeT S ts) : RRes (Tm × Nat)) 3 ts ns from ⟨rfl, .inr rfl, rfl⟩) (fun t ht => by cases ht) (by omega) (fun t ht => by cases ht))
    have hz := set4_blk HB9.out 0 ⟨#[]⟩ 0 (.slice none 0 0)
    change bodyPost _ _ _ _ _ (set4 U1 W.heap.size 0 ⟨#[]⟩ 0 (.slice none 0 0))
    obtain ⟨V', hV'⟩ : ∃ V', set4 U1 W.heap.size 0 ⟨#[]⟩ 0 (.slice none 0 0) = V' := ⟨_, rfl⟩
    rw [hV'] at HF hz ⊢
    obtain ⟨⟨z0, z1, z2, z3⟩, -⟩ := row4 hz
    clear hV' hz a0 a1 a2 a3 af0 af1 af2 af3
    refine bodyPost_ret (v := .tuple #[.agg #[.int .i64 0, .string ⟨#[]⟩, .int .i64 0, .slice none 0 0], .int .i64 (0 : Nat), .int .i64 (3 : Nat)]) (by simp [results, Tryz.results81, go_sem, z0, z1, z2, z3]) rfl ?_
    exact HF.out
  have hd9 : deep ≤ 999 := by omega
  have HNG := Lib.hid (isNeg_p x y U1 HSM.out.2.2.2)
  obtain ⟨⟨x0, x1, x2, x3, x4⟩, -⟩ := row5t HXB9.out
  obtain ⟨⟨y0, y1, y2, y3, y4⟩, -⟩ := row5t HYB9.out
  obtain ⟨⟨o0, o1, o2, o3⟩, -⟩ := row4 HOB9.out
  have hxl1 := (Array.getElem?_eq_some_iff.1 HXB9.out).1
  have hyl1 := (Array.getElem?_eq_some_iff.1 HYB9.out).1
  have hol1 := (Array.getElem?_eq_some_iff.1 HOB9.out).1
  have hfuel : ts ≠ [] → 1 ≤ f := fun h => by
    have h0 := HIN.out.room
    cases ts with
    | nil => exact absurd rfl h
    | cons a b => simp only [List.length_cons] at h0; omega
  cases hng : negB x y with
  | true =>
    have hne : x.1.text = [45] := by
      have h9 : negB x y = true := hng
      simp only [negB, decide_eq_true_eq] at h9
      exact h9.1
    obtain ⟨r, htr⟩ : ∃ r, ts = x :: r := by
      cases ts with
      | nil =>
        have h9 := HX.out
        rw [← h9] at hne
        cases hne
      | cons a b => exact ⟨b, by rw [← HX.out]; rfl⟩
    have hop := op_neg (S := S) (f := f) (p := most) (deep := deep) (z := z) (x := x) (r := r) (ns := ns) hd (htr ▸ HIN.out.good) (hfuel (by rw [htr]; simp)) (by rw [← htr, HY.out]; exact hng)
    rw [← htr, HY.out] at hop
    obtain ⟨hop1, hl2⟩ := hop
    have hRe : R = .ok ((numT (-(y.1.n : Int)), 0), ts.drop 2, ns) := by rw [← HR.out]; exact hop1
    rw [hng] at HNG
    have hyn := HSM1.out.2.2.1
    have jn : IntKind.i64.wrap (-(y.1.n : Int)) = -(y.1.n : Int) := by rw [IntKind.wrap_i64]; omega
    subst hRe
    clear hne htr hop1 hng
    go_upto_region 7 with (first | (go_at_call 93; (with_reducible refine (HNG.out).mono ?_); rintro e U2 ⟨rfl, hb⟩; have HST6 := Lib.hid (HST5.out.next hb); have HB10 := Lib.hid ((hb.block _ (Array.getElem?_eq_some_iff.1 HB9.out).1).trans HB9.out); have HYB10 := Lib.hid ((hb.block _ hyl1).trans HYB9.out); have HPS := Lib.hid (pass2_any U2 rb z ts ns nv HST6.out.rd hl2 hts); clear hb) | (go_at_call 62; (with_reducible refine (HPS.out).mono ?_); rintro e U3 ⟨rfl, hrd2, hfr2⟩; have hk2 := HST6.out.keep2 (wrt0 hfr2) (b := xb + 1) (by omega) (Array.getElem?_eq_some_iff.1 HYB10.out).1; have HB11 := Lib.hid ((HST6.out.keep (wrt0 hfr2) (.inr rfl)).trans HB10.out); have HYB11 := Lib.hid (hk2.trans HYB10.out); have HST7 := Lib.hid (HST6.out.call0 hrd2 hfr2); clear hrd2 hfr2 hk2))
    clear x0 x1 x2 x3 x4 y0 y1 y2 y3 y4 o0 o1 o2 o3
    obtain ⟨⟨y0, y1, y2, y3, y4⟩, -⟩ := row5t HYB11.out
    have hyl3 := (Array.getElem?_eq_some_iff.1 HYB11.out).1
    have HNM := fun V => Lib.hid (num_p (-(y.1.n : Int)) V)
    go_wp2_with (go_at_call 94; (with_reducible refine ((HNM _).out).mono ?_); rintro e U4 ⟨rfl, hb⟩; replace HST7 := Lib.hid (HST7.out.next hb); have HB12 := Lib.hid ((hb.block _ (Array.getElem?_eq_some_iff.1 HB11.out).1).trans HB11.out); obtain ⟨⟨a0, a1, a2, a3⟩, af0, af1, af2, af3⟩ := row4 HB12.out; have htw : W.heap.size < U4.heap.size := (Array.getElem?_eq_some_iff.1 HB12.out).1; clear hb)
    have HTV2 : Hid (TV (Yc X (fun b => False ∨ b = W.heap.size) nv) U4 (some (numT (-(y.1.n : Int)))) 2 ⟨#[]⟩ (-(y.1.n : Int)) (.slice none 0 0)) := Lib.hid (TV.atom (numT (-(y.1.n : Int))) rfl (wf64 (show (-9223372036854775808 : Int) ≤ 2 by omega) (show (2 : Int) ≤ 9223372036854775807 by omega)) (wf64 (show -9223372036854775808 ≤ -(y.1.n : Int) by omega) (show -(y.1.n : Int) ≤ 9223372036854775807 by omega)) (by show (0 : Nat) ≤ maxLen; omega))
    have HF := Lib.hid (o_fin (q := 0) (cd := 0) HST7.out HTV2.out (.inr rfl) (show Told S (.ok ((numT (-(y.1.n : Int)), 0), ts.drop 2, ns) : RRes (Tm × Nat)) 0 (ts.drop 2) ns from ⟨rfl, rfl, rfl⟩) (fun t ht => ht) (by omega) (fun t ht => by injection ht with ht; rw [← ht]))
    have hz := set4_blk HB12.out 2 ⟨#[]⟩ (-(y.1.n : Int)) (.slice none 0 0)
    change bodyPost _ _ _ _ _ (set4 U4 W.heap.size 2 ⟨#[]⟩ (-(y.1.n : Int)) (.slice none 0 0))
    obtain ⟨V', hV'⟩ : ∃ V', set4 U4 W.heap.size 2 ⟨#[]⟩ (-(y.1.n : Int)) (.slice none 0 0) = V' := ⟨_, rfl⟩
    rw [hV'] at HF hz ⊢
    obtain ⟨⟨z0, z1, z2, z3⟩, -⟩ := row4 hz
    clear hV' hz a0 a1 a2 a3 af0 af1 af2 af3
    refine bodyPost_ret (v := .tuple #[.agg #[.int .i64 2, .string ⟨#[]⟩, .int .i64 (-(y.1.n : Int)), .slice none 0 0], .int .i64 (0 : Nat), .int .i64 (0 : Nat)]) (by simp [results, Tryz.results81, go_sem, z0, z1, z2, z3]) rfl ?_
    exact HF.out
  | false =>
    rw [hng] at HNG
    go_upto_region 8 with (go_at_call 93; (with_reducible refine (HNG.out).mono ?_); rintro e U2 ⟨rfl, hb⟩; have HST6 := Lib.hid (HST5.out.next hb); have HB10 := Lib.hid ((hb.block _ (Array.getElem?_eq_some_iff.1 HB9.out).1).trans HB9.out); have HXB10 := Lib.hid ((hb.block _ hxl1).trans HXB9.out); have HYB10 := Lib.hid ((hb.block _ hyl1).trans HYB9.out); have HOB10 := Lib.hid ((hb.block _ hol1).trans HOB9.out); clear hb)
    have hsim : ∀ (h9 : qp = 0 ∨ x.1.opn = true ∨ begB y = false), R = simE (rdSim S f deep ts ns) := fun h9 => by
      rw [← HR.out]
      refine op_sim (z := z) hd HIN.out.good hfuel (by rw [HX.out, HY.out]; exact hng) ?_
      rw [HX.out, HY.out, HQP.out]
      exact h9
    have HSIM := Lib.hid hsim
    have hprf : ∀ (h1 : qp ≠ 0) (h2 : x.1.opn = false) (h3 : begB y = true), (∃ r, ts = x :: r) ∧ R = (if most < qp then .error (2, placeT S ts) else prefE x qp (rdTerm S (f - 1) qp (deep + 1) ts.tail ns)) := fun h1 h2 h3 => by
      have h9 := op_pref (z := z) (p := most) (ns := ns) hd HIN.out.good hfuel (by rw [HX.out, HY.out]; exact hng) (by rw [HX.out, HQP.out]; exact h1) (by rw [HX.out]; exact h2) (by rw [HY.out]; exact h3)
      rw [HX.out, HQP.out] at h9
      exact ⟨h9.1, by rw [← HR.out]; exact h9.2⟩
    have HPRF := Lib.hid hprf
    clear hng hsim hprf HNG x0 x1 x2 x3 x4 y0 y1 y2 y3 y4 o0 o1 o2 o3 HST5 HB9 HXB9 HYB9 HOB9
    obtain ⟨⟨x0, x1, x2, x3, x4⟩, -⟩ := row5t HXB10.out
    obtain ⟨⟨y0, y1, y2, y3, y4⟩, -⟩ := row5t HYB10.out
    obtain ⟨⟨o0, o1, o2, o3⟩, -⟩ := row4 HOB10.out
    have hxl2 := (Array.getElem?_eq_some_iff.1 HXB10.out).1
    have hyl2 := (Array.getElem?_eq_some_iff.1 HYB10.out).1
    have hol2 := (Array.getElem?_eq_some_iff.1 HOB10.out).1
    by_cases hq : qp = 0
    · have q0 : ((qp : Int) == 0) = true := by rw [beq_iff_eq]; omega
      have hRe := HSIM.out (.inl hq)
      clear hq
      go_upto_region 9 with fail
      have HSI : Hid (Calls Tryz.prog 96 #[.pointer (some ⟨rb, 0, none⟩), .int .i64 (deep : Nat)] U2 fun e W' => PTermPost (Yc X (fun b => False ∨ b = W.heap.size) nv) U2 rb z nv S (rdSim S f deep ts ns) e W') := Lib.hid (HIHS.out _ U2 rb z S ts ns nv deep HIN.out HST6.out.rd hd9)
      go_upto_region 10 with (go_at_call 96; (with_reducible refine (HSI.out).mono ?_); rintro e V5 ⟨k, nm, n, g, m, c, cd, n2, rfl, hend, htv⟩; obtain ⟨ts2, ns2, hrd3, htold⟩ := hend.rd; have HBs1 := Lib.hid ((HST6.out.keep hend.fr (.inr rfl)).trans HB10.out); have HSTs := Lib.hid (HST6.out.call hrd3 hend.nvn hend.fr); have HTVs := Lib.hid htv.back; have HTOLD : Hid (Told S (rdSim S f deep ts ns) cd ts2 ns2) := Lib.hid htold; clear hend htv hrd3 htold)
      have hnb := newBlk V5 (.cells #[.int .i64 k, .string nm, .int .i64 n, .slice g m c] 34) V5.heap.size rfl
      have hbs := (Below.refl V5.heap.size V5).alloc (Nat.le_refl _) (.cells #[.int .i64 k, .string nm, .int .i64 n, .slice g m c] 34)
      have hbs2 := (hbs.block _ (Array.getElem?_eq_some_iff.1 HBs1.out).1).trans HBs1.out
      replace HSTs := Lib.hid (HSTs.out.next hbs)
      replace HTVs := Lib.hid (HTVs.out.mv (FrP.of_below hbs) (fun _ h => h.elim) (fun _ hx => .inl hx))
      have hwv := (Array.getElem?_eq_some_iff.1 HBs1.out).1
      obtain ⟨sb, hsb⟩ : ∃ sb, V5.heap.size = sb := ⟨_, rfl⟩
      obtain ⟨V6, hV6⟩ : ∃ V6, V5.alloc (.cells #[.int .i64 k, .string nm, .int .i64 n, .slice g m c] 34) = V6 := ⟨_, rfl⟩
      rw [hV6] at hnb hbs2 HSTs HTVs ⊢
      rw [hsb] at hnb hwv ⊢
      have HBs2 := Lib.hid hbs2
      clear x0 x1 x2 x3 x4 y0 y1 y2 y3 y4 o0 o1 o2 o3 hV6 hsb hbs
      obtain ⟨⟨b0, b1, b2, b3⟩, -⟩ := row4 hnb
      obtain ⟨⟨a0, a1, a2, a3⟩, af0, af1, af2, af3⟩ := row4 hbs2
      have hsl := (Array.getElem?_eq_some_iff.1 hnb).1
      have htw := (Array.getElem?_eq_some_iff.1 hbs2).1
      clear hnb hbs2
      go_wp2_with fail
      have HF := Lib.hid (o_fin (q := 0) (cd := cd) HSTs.out HTVs.out (.inr rfl) (show Told S R cd ts2 ns2 from by rw [hRe]; exact told_sim HTOLD.out) (fun t ht => by rw [hRe, simE_val, Option.map_map] at ht; simpa [Function.comp_def] using ht) (by omega) (fun t ht => by rw [hRe, simE_val] at ht; obtain ⟨q, _, hq⟩ := Option.map_eq_some_iff.1 ht; rw [← hq]))
      have hz := set4_blk HBs2.out k nm n (.slice g m c)
      change bodyPost _ _ _ _ _ (set4 V6 W.heap.size k nm n (.slice g m c))
      obtain ⟨V', hV'⟩ : ∃ V', set4 V6 W.heap.size k nm n (.slice g m c) = V' := ⟨_, rfl⟩
      rw [hV'] at HF hz ⊢
      obtain ⟨⟨z0, z1, z2, z3⟩, -⟩ := row4 hz
      clear hV' hz a0 a1 a2 a3 af0 af1 af2 af3 b0 b1 b2 b3
      refine bodyPost_ret (v := .tuple #[.agg #[.int .i64 k, .string nm, .int .i64 n, .slice g m c], .int .i64 (0 : Nat), .int .i64 (cd : Nat)]) (by simp [results, Tryz.results81, go_sem, z0, z1, z2, z3]) rfl ?_
      exact HF.out
    · have q0 : ((qp : Int) == 0) = false := by rw [beq_eq_false_iff_ne]; omega
      cases ho : x.1.opn with
      | true =>
        have hRe := HSIM.out (.inr (.inl ho))
        rw [ho] at x4
        clear hq ho
        go_upto_region 9 with fail
        have HSI : Hid (Calls Tryz.prog 96 #[.pointer (some ⟨rb, 0, none⟩), .int .i64 (deep : Nat)] U2 fun e W' => PTermPost (Yc X (fun b => False ∨ b = W.heap.size) nv) U2 rb z nv S (rdSim S f deep ts ns) e W') := Lib.hid (HIHS.out _ U2 rb z S ts ns nv deep HIN.out HST6.out.rd hd9)
        go_upto_region 10 with (go_at_call 96; (with_reducible refine (HSI.out).mono ?_); rintro e V5 ⟨k, nm, n, g, m, c, cd, n2, rfl, hend, htv⟩; obtain ⟨ts2, ns2, hrd3, htold⟩ := hend.rd; have HBs1 := Lib.hid ((HST6.out.keep hend.fr (.inr rfl)).trans HB10.out); have HSTs := Lib.hid (HST6.out.call hrd3 hend.nvn hend.fr); have HTVs := Lib.hid htv.back; have HTOLD : Hid (Told S (rdSim S f deep ts ns) cd ts2 ns2) := Lib.hid htold; clear hend htv hrd3 htold)
        have hnb := newBlk V5 (.cells #[.int .i64 k, .string nm, .int .i64 n, .slice g m c] 34) V5.heap.size rfl
        have hbs := (Below.refl V5.heap.size V5).alloc (Nat.le_refl _) (.cells #[.int .i64 k, .string nm, .int .i64 n, .slice g m c] 34)
        have hbs2 := (hbs.block _ (Array.getElem?_eq_some_iff.1 HBs1.out).1).trans HBs1.out
        replace HSTs := Lib.hid (HSTs.out.next hbs)
        replace HTVs := Lib.hid (HTVs.out.mv (FrP.of_below hbs) (fun _ h => h.elim) (fun _ hx => .inl hx))
        have hwv := (Array.getElem?_eq_some_iff.1 HBs1.out).1
        obtain ⟨sb, hsb⟩ : ∃ sb, V5.heap.size = sb := ⟨_, rfl⟩
        obtain ⟨V6, hV6⟩ : ∃ V6, V5.alloc (.cells #[.int .i64 k, .string nm, .int .i64 n, .slice g m c] 34) = V6 := ⟨_, rfl⟩
        rw [hV6] at hnb hbs2 HSTs HTVs ⊢
        rw [hsb] at hnb hwv ⊢
        have HBs2 := Lib.hid hbs2
        clear x0 x1 x2 x3 x4 y0 y1 y2 y3 y4 o0 o1 o2 o3 hV6 hsb hbs
        obtain ⟨⟨b0, b1, b2, b3⟩, -⟩ := row4 hnb
        obtain ⟨⟨a0, a1, a2, a3⟩, af0, af1, af2, af3⟩ := row4 hbs2
        have hsl := (Array.getElem?_eq_some_iff.1 hnb).1
        have htw := (Array.getElem?_eq_some_iff.1 hbs2).1
        clear hnb hbs2
        go_wp2_with fail
        have HF := Lib.hid (o_fin (q := 0) (cd := cd) HSTs.out HTVs.out (.inr rfl) (show Told S R cd ts2 ns2 from by rw [hRe]; exact told_sim HTOLD.out) (fun t ht => by rw [hRe, simE_val, Option.map_map] at ht; simpa [Function.comp_def] using ht) (by omega) (fun t ht => by rw [hRe, simE_val] at ht; obtain ⟨q, _, hq⟩ := Option.map_eq_some_iff.1 ht; rw [← hq]))
        have hz := set4_blk HBs2.out k nm n (.slice g m c)
        change bodyPost _ _ _ _ _ (set4 V6 W.heap.size k nm n (.slice g m c))
        obtain ⟨V', hV'⟩ : ∃ V', set4 V6 W.heap.size k nm n (.slice g m c) = V' := ⟨_, rfl⟩
        rw [hV'] at HF hz ⊢
        obtain ⟨⟨z0, z1, z2, z3⟩, -⟩ := row4 hz
        clear hV' hz a0 a1 a2 a3 af0 af1 af2 af3 b0 b1 b2 b3
        refine bodyPost_ret (v := .tuple #[.agg #[.int .i64 k, .string nm, .int .i64 n, .slice g m c], .int .i64 (0 : Nat), .int .i64 (cd : Nat)]) (by simp [results, Tryz.results81, go_sem, z0, z1, z2, z3]) rfl ?_
        exact HF.out
      | false =>
        have HBG := Lib.hid (begins_p y U2 rb z ts ns nv HST6.out.rd HSM1.out.2.1)
        rw [ho] at x4
        cases hbb : begB y with
        | false =>
          have hRe := HSIM.out (.inr (.inr hbb))
          have HBG2 : Hid (Calls Tryz.prog 95 #[.pointer (some ⟨rb, 0, none⟩), .agg #[.int .i64 (y.1.kind : Nat), .string ⟨y.1.text.toArray⟩, .int .i64 (y.1.n : Nat), .int .i64 (y.2 : Nat), .bool y.1.opn]] U2 fun e W' => e = .returned (.bool false) ∧ PRd (Yc X (fun b => False ∨ b = W.heap.size) nv) W' rb z ts ns nv ∧ FrP (fun b => b = rb) U2 W') := Lib.hid (HBG.out.mono fun e W' ⟨h1, h2, h3⟩ => ⟨by rw [h1, hbb], h2, h3⟩)
          clear hq ho hbb HBG
          go_upto_region 9 with (go_at_call 95; (with_reducible refine (HBG2.out).mono ?_); rintro e U3 ⟨rfl, hrd2, hfr2⟩; have HB11 := Lib.hid ((HST6.out.keep (wrt0 hfr2) (.inr rfl)).trans HB10.out); have HST7 := Lib.hid (HST6.out.call0 hrd2 hfr2); clear hrd2 hfr2)
          have HSI : Hid (Calls Tryz.prog 96 #[.pointer (some ⟨rb, 0, none⟩), .int .i64 (deep : Nat)] U3 fun e W' => PTermPost (Yc X (fun b => False ∨ b = W.heap.size) nv) U3 rb z nv S (rdSim S f deep ts ns) e W') := Lib.hid (HIHS.out _ U3 rb z S ts ns nv deep HIN.out HST7.out.rd hd9)
          go_upto_region 10 with (go_at_call 96; (with_reducible refine (HSI.out).mono ?_); rintro e V5 ⟨k, nm, n, g, m, c, cd, n2, rfl, hend, htv⟩; obtain ⟨ts2, ns2, hrd3, htold⟩ := hend.rd; have HBs1 := Lib.hid ((HST7.out.keep hend.fr (.inr rfl)).trans HB11.out); have HSTs := Lib.hid (HST7.out.call hrd3 hend.nvn hend.fr); have HTVs := Lib.hid htv.back; have HTOLD : Hid (Told S (rdSim S f deep ts ns) cd ts2 ns2) := Lib.hid htold; clear hend htv hrd3 htold)
          have hnb := newBlk V5 (.cells #[.int .i64 k, .string nm, .int .i64 n, .slice g m c] 34) V5.heap.size rfl
          have hbs := (Below.refl V5.heap.size V5).alloc (Nat.le_refl _) (.cells #[.int .i64 k, .string nm, .int .i64 n, .slice g m c] 34)
          have hbs2 := (hbs.block _ (Array.getElem?_eq_some_iff.1 HBs1.out).1).trans HBs1.out
          replace HSTs := Lib.hid (HSTs.out.next hbs)
          replace HTVs := Lib.hid (HTVs.out.mv (FrP.of_below hbs) (fun _ h => h.elim) (fun _ hx => .inl hx))
          have hwv := (Array.getElem?_eq_some_iff.1 HBs1.out).1
          obtain ⟨sb, hsb⟩ : ∃ sb, V5.heap.size = sb := ⟨_, rfl⟩
          obtain ⟨V6, hV6⟩ : ∃ V6, V5.alloc (.cells #[.int .i64 k, .string nm, .int .i64 n, .slice g m c] 34) = V6 := ⟨_, rfl⟩
          rw [hV6] at hnb hbs2 HSTs HTVs ⊢
          rw [hsb] at hnb hwv ⊢
          have HBs2 := Lib.hid hbs2
          clear x0 x1 x2 x3 x4 y0 y1 y2 y3 y4 o0 o1 o2 o3 hV6 hsb hbs
          obtain ⟨⟨b0, b1, b2, b3⟩, -⟩ := row4 hnb
          obtain ⟨⟨a0, a1, a2, a3⟩, af0, af1, af2, af3⟩ := row4 hbs2
          have hsl := (Array.getElem?_eq_some_iff.1 hnb).1
          have htw := (Array.getElem?_eq_some_iff.1 hbs2).1
          clear hnb hbs2
          go_wp2_with fail
          have HF := Lib.hid (o_fin (q := 0) (cd := cd) HSTs.out HTVs.out (.inr rfl) (show Told S R cd ts2 ns2 from by rw [hRe]; exact told_sim HTOLD.out) (fun t ht => by rw [hRe, simE_val, Option.map_map] at ht; simpa [Function.comp_def] using ht) (by omega) (fun t ht => by rw [hRe, simE_val] at ht; obtain ⟨q, _, hq⟩ := Option.map_eq_some_iff.1 ht; rw [← hq]))
          have hz := set4_blk HBs2.out k nm n (.slice g m c)
          change bodyPost _ _ _ _ _ (set4 V6 W.heap.size k nm n (.slice g m c))
          obtain ⟨V', hV'⟩ : ∃ V', set4 V6 W.heap.size k nm n (.slice g m c) = V' := ⟨_, rfl⟩
          rw [hV'] at HF hz ⊢
          obtain ⟨⟨z0, z1, z2, z3⟩, -⟩ := row4 hz
          clear hV' hz a0 a1 a2 a3 af0 af1 af2 af3 b0 b1 b2 b3
          refine bodyPost_ret (v := .tuple #[.agg #[.int .i64 k, .string nm, .int .i64 n, .slice g m c], .int .i64 (0 : Nat), .int .i64 (cd : Nat)]) (by simp [results, Tryz.results81, go_sem, z0, z1, z2, z3]) rfl ?_
          exact HF.out
        | true =>
          obtain ⟨htr, hRe⟩ := HPRF.out hq ho hbb
          have HBG2 : Hid (Calls Tryz.prog 95 #[.pointer (some ⟨rb, 0, none⟩), .agg #[.int .i64 (y.1.kind : Nat), .string ⟨y.1.text.toArray⟩, .int .i64 (y.1.n : Nat), .int .i64 (y.2 : Nat), .bool y.1.opn]] U2 fun e W' => e = .returned (.bool true) ∧ PRd (Yc X (fun b => False ∨ b = W.heap.size) nv) W' rb z ts ns nv ∧ FrP (fun b => b = rb) U2 W') := Lib.hid (HBG.out.mono fun e W' ⟨h1, h2, h3⟩ => ⟨by rw [h1, hbb], h2, h3⟩)
          clear hq ho hbb HBG
          go_upto_region 11 with (go_at_call 95; (with_reducible refine (HBG2.out).mono ?_); rintro e U3 ⟨rfl, hrd2, hfr2⟩; have hk1 := HST6.out.keep2 (wrt0 hfr2) (b := xb) (by omega) hxl2; have hk2 := HST6.out.keep2 (wrt0 hfr2) (b := ob) (by omega) hol2; have HB11 := Lib.hid ((HST6.out.keep (wrt0 hfr2) (.inr rfl)).trans HB10.out); have HXB11 := Lib.hid (hk1.trans HXB10.out); have HOB11 := Lib.hid (hk2.trans HOB10.out); have HST7 := Lib.hid (HST6.out.call0 hrd2 hfr2); clear hrd2 hfr2 hk1 hk2)
          clear x0 x1 x2 x3 x4 y0 y1 y2 y3 y4 o0 o1 o2 o3 hxl2 hyl2 hol2 HBG2 HST6 HB10 HXB10 HYB10 HOB10
          obtain ⟨⟨x0, x1, x2, x3, x4⟩, -⟩ := row5t HXB11.out
          obtain ⟨⟨o0, o1, o2, o3⟩, -⟩ := row4 HOB11.out
          have hxl3 := (Array.getElem?_eq_some_iff.1 HXB11.out).1
          have hol3 := (Array.getElem?_eq_some_iff.1 HOB11.out).1
          by_cases hm : most < qp
          · rw [if_pos hm] at hRe
            subst hRe
            obtain ⟨⟨a0, a1, a2, a3⟩, af0, af1, af2, af3⟩ := row4 HB11.out
            have htw : W.heap.size < U3.heap.size := (Array.getElem?_eq_some_iff.1 HB11.out).1
            have HTV2 : Hid (TV (Yc X (fun b => False ∨ b = W.heap.size) nv) U3 none 0 ⟨#[]⟩ 0 (.slice none 0 0)) := Lib.hid tm_none
            go_wp2_with fail
            have HF := Lib.hid (o_fin (q := 0) (cd := 2) HST7.out HTV2.out (.inr rfl) (show Told S (.error (2, placeT S ts) : RRes (Tm × Nat)) 2 ts ns from ⟨rfl, .inl rfl, rfl⟩) (fun t ht => by cases ht) (by omega) (fun t ht => by cases ht))
            have hz := set4_blk HB11.out 0 ⟨#[]⟩ 0 (.slice none 0 0)
            change bodyPost _ _ _ _ _ (set4 U3 W.heap.size 0 ⟨#[]⟩ 0 (.slice none 0 0))
            obtain ⟨V', hV'⟩ : ∃ V', set4 U3 W.heap.size 0 ⟨#[]⟩ 0 (.slice none 0 0) = V' := ⟨_, rfl⟩
            rw [hV'] at HF hz ⊢
            obtain ⟨⟨z0, z1, z2, z3⟩, -⟩ := row4 hz
            clear hV' hz a0 a1 a2 a3 af0 af1 af2 af3
            refine bodyPost_ret (v := .tuple #[.agg #[.int .i64 0, .string ⟨#[]⟩, .int .i64 0, .slice none 0 0], .int .i64 (0 : Nat), .int .i64 (2 : Nat)]) (by simp [results, Tryz.results81, go_sem, z0, z1, z2, z3]) rfl ?_
            exact HF.out
          · rw [if_neg hm] at hRe
            obtain ⟨r, htr⟩ := htr
            have hlen1 : 1 ≤ ts.length := by rw [htr]; simp
            have HPS := Lib.hid (pass1_any U3 rb z ts ns nv HST7.out.rd hlen1 hts)
            have HIN2 : Hid (PIn S z (f - 1) 3 ts.tail ns) := Lib.hid (by
              have h0 := HIN.out
              rw [htr] at h0 ⊢
              have h1 := h0.room
              simp only [List.length_cons] at h1
              exact h0.rest (by omega))
            clear htr
            go_upto_region 14 with (go_at_call 62; (with_reducible refine (HPS.out).mono ?_); rintro e U4 ⟨rfl, hrd2, hfr2⟩; have hk1 := HST7.out.keep2 (wrt0 hfr2) (b := xb) (by omega) hxl3; have hk2 := HST7.out.keep2 (wrt0 hfr2) (b := ob) (by omega) hol3; have HB12 := Lib.hid ((HST7.out.keep (wrt0 hfr2) (.inr rfl)).trans HB11.out); have HXB12 := Lib.hid (hk1.trans HXB11.out); have HOB12 := Lib.hid (hk2.trans HOB11.out); have HST8 := Lib.hid (HST7.out.call0 hrd2 hfr2); clear hrd2 hfr2 hk1 hk2)
            clear x0 x1 x2 x3 x4 o0 o1 o2 o3 hxl3 hol3 HPS HST7 HB11 HXB11 HOB11
            obtain ⟨⟨o0, o1, o2, o3⟩, -⟩ := row4 HOB12.out
            have hol4 := (Array.getElem?_eq_some_iff.1 HOB12.out).1
            have hxl4 := (Array.getElem?_eq_some_iff.1 HXB12.out).1
            have HTM : Hid (Calls Tryz.prog 61 #[.pointer (some ⟨rb, 0, none⟩), .int .i64 (qp : Nat), .int .i64 ((deep : Int) + 1)] U4 fun e W' => PTermPost (Yc X (fun b => False ∨ b = W.heap.size) nv) U4 rb z nv S (rdTerm S (f - 1) qp (deep + 1) ts.tail ns) e W') :=
              Lib.hid (HIHT.out _ U4 rb z S ts.tail ns nv qp (deep + 1) HIN2.out HST8.out.rd (by omega) (by omega))
            go_upto_region 15 with (go_at_call 61; (with_reducible refine (HTM.out).mono ?_); rintro e U5 ⟨k, nm, n, g, m, c, cd, n2, rfl, hend, htv⟩; obtain ⟨ts2, ns2, hrd3, htold⟩ := hend.rd; have hk1 := HST8.out.keep2 hend.fr (b := xb) (by omega) hxl4; have hk2 := HST8.out.keep2 hend.fr (b := ob) (by omega) hol4; have HB13 := Lib.hid ((HST8.out.keep hend.fr (.inr rfl)).trans HB12.out); have HXB13 := Lib.hid (hk1.trans HXB12.out); have HOB13 := Lib.hid (hk2.trans HOB12.out); have HST9 := Lib.hid (HST8.out.call hrd3 hend.nvn hend.fr); have HTV9 := Lib.hid htv.back; have HTOLD : Hid (Told S (rdTerm S (f - 1) qp (deep + 1) ts.tail ns) cd ts2 ns2) := Lib.hid htold; clear hend htv hrd3 htold hk1 hk2)
            have hnb := newBlk U5 (.cells #[.int .i64 k, .string nm, .int .i64 n, .slice g m c] 34) U5.heap.size rfl
            have hbs := (Below.refl U5.heap.size U5).alloc (Nat.le_refl _) (.cells #[.int .i64 k, .string nm, .int .i64 n, .slice g m c] 34)
            have hbs1 := (hbs.block _ (Array.getElem?_eq_some_iff.1 HB13.out).1).trans HB13.out
            have hbs2 := (hbs.block _ (Array.getElem?_eq_some_iff.1 HXB13.out).1).trans HXB13.out
            have hbs3 := (hbs.block _ (Array.getElem?_eq_some_iff.1 HOB13.out).1).trans HOB13.out
            replace HST9 := Lib.hid (HST9.out.next hbs)
            replace HTV9 := Lib.hid (HTV9.out.mv (FrP.of_below hbs) (fun _ h => h.elim) (fun _ hx => .inl hx))
            have hwv := (Array.getElem?_eq_some_iff.1 HB13.out).1
            obtain ⟨sb, hsb⟩ : ∃ sb, U5.heap.size = sb := ⟨_, rfl⟩
            obtain ⟨U6, hU6⟩ : ∃ U6, U5.alloc (.cells #[.int .i64 k, .string nm, .int .i64 n, .slice g m c] 34) = U6 := ⟨_, rfl⟩
            rw [hU6] at hnb hbs1 hbs2 hbs3 HST9 HTV9 ⊢
            rw [hsb] at hnb hwv ⊢
            have HB14 := Lib.hid hbs1
            clear o0 o1 o2 o3 hU6 hsb hbs HB13 HXB13 HOB13 HB12 HXB12 HOB12 HST8
            obtain ⟨⟨b0, b1, b2, b3⟩, -⟩ := row4 hnb
            obtain ⟨⟨x0, x1, x2, x3, x4⟩, -⟩ := row5t hbs2
            obtain ⟨⟨o0, o1, o2, o3⟩, -⟩ := row4 hbs3
            have hsl := (Array.getElem?_eq_some_iff.1 hnb).1
            have hxl9 := (Array.getElem?_eq_some_iff.1 hbs2).1
            have hol9 := (Array.getElem?_eq_some_iff.1 hbs3).1
            have htw := (Array.getElem?_eq_some_iff.1 hbs1).1
            have HOB14 := Lib.hid hbs3
            clear hnb hbs1 hbs2 hbs3
            have HFN := fun g V => Lib.hid (fun_p ⟨x.1.text.toArray⟩ (some ⟨g, 0, none⟩) 1 1 V)
            go_region_with (go_at_call 83; (with_reducible refine ((HFN _ _).out).mono ?_); rintro e U7 ⟨rfl, hb⟩; obtain ⟨hb1, hnw, hlw⟩ := al_drew hb; have HB15 := Lib.hid ((hb1.block _ htw).trans HB14.out); have HOB15 := Lib.hid ((hb1.block _ hol9).trans HOB14.out); have HST10 := Lib.hid (HST9.out.next hb1); have HTV10 := Lib.hid (HTV9.out.mv (FrP.of_below hb1) (fun _ h => h.elim) (fun _ hx => .inl hx)); have HNW := Lib.hid hnw; obtain ⟨⟨a0, a1, a2, a3⟩, af0, af1, af2, af3⟩ := row4 HB15.out; obtain ⟨⟨p0, p1, p2, p3⟩, -⟩ := row4 HOB15.out; have hol8 := (Array.getElem?_eq_some_iff.1 HOB15.out).1; have htw8 := (Array.getElem?_eq_some_iff.1 HB15.out).1; clear hb hb1 hnw o0 o1 o2 o3 x0 x1 x2 x3 x4 b0 b1 b2 b3)
            all_goals go_wp2_with fail
            all_goals (
              have HTV2 : Hid (TV (Yc X (fun b => False ∨ b = W.heap.size) n2) U7 ((valOf R).map Prod.fst) 3 ⟨x.1.text.toArray⟩ 0 (.slice (some ⟨U6.heap.size, 0, none⟩) 1 1)) := Lib.hid (by rw [hRe]; exact pref_tv (x := x) (fun hx => by have := HST9.out.rd.old _ hx; omega) HNW.out HTV10.out (by have := HSM.out.2.1; show x.1.text.toArray.size ≤ maxLen; rw [List.size_toArray]; simp only [maxLen]; omega))
              have HF := Lib.hid (o_fin (q := qp) (cd := cd) HST10.out HTV2.out (.inr rfl) (show Told S R cd ts2 ns2 from by rw [hRe]; exact told_pref HTOLD.out) (fun t ht => ht) (by omega) (fun t ht => by rw [hRe, prefE_val] at ht; obtain ⟨q, _, hq⟩ := Option.map_eq_some_iff.1 ht; rw [← hq]))
              have hz := set4_blk HB15.out 3 ⟨x.1.text.toArray⟩ 0 (.slice (some ⟨U6.heap.size, 0, none⟩) 1 1)
              change bodyPost _ _ _ _ _ (set4 U7 W.heap.size 3 ⟨x.1.text.toArray⟩ 0 (.slice (some ⟨U6.heap.size, 0, none⟩) 1 1))
              obtain ⟨V', hV'⟩ : ∃ V', set4 U7 W.heap.size 3 ⟨x.1.text.toArray⟩ 0 (.slice (some ⟨U6.heap.size, 0, none⟩) 1 1) = V' := ⟨_, rfl⟩
              rw [hV'] at HF hz ⊢
              obtain ⟨⟨z0, z1, z2, z3⟩, -⟩ := row4 hz
              clear hV' hz a0 a1 a2 a3 af0 af1 af2 af3 p0 p1 p2 p3
              refine bodyPost_ret (v := .tuple #[.agg #[.int .i64 3, .string ⟨x.1.text.toArray⟩, .int .i64 0, .slice (some ⟨U6.heap.size, 0, none⟩) 1 1], .int .i64 (qp : Nat), .int .i64 (cd : Nat)]) (by simp [results, Tryz.results81, go_sem, z0, z1, z2, z3]) rfl ?_
              exact HF.out
              )
end Go.Proofs.YtkjnjahmlobjiaaGreatDoor
