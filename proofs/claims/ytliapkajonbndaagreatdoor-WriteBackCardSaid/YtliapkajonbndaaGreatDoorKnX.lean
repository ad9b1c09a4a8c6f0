/-
  The law's fun; its examples hold.
-/
import Derived.Test.YtliapkajonbndaaGreatDoorPwI
namespace Go.Proofs.YtliapkajonbndaaGreatDoor
open Go.RowKit

theorem setW_blk {w : World} {b o : Nat} {v : Value} {cs : Array Value} {t : TypeId} {fz : Nat × Nat} (h : w.heap[b]? = some (Obj.cells cs t fz)) : (w.setCell ⟨b, o, none⟩ v).heap[b]? = some (.cells (cs.setIfInBounds o v) t fz) := by
  obtain ⟨hlt, hk⟩ := Array.getElem?_eq_some_iff.1 h
  show (w.heap.modify b _)[b]? = _
  rw [Array.getElem?_eq_getElem (by rw [Array.size_modify]; exact hlt), Array.getElem_modify_self, hk]
  rfl
theorem setW_grown (W : World) (b o : Nat) (v : Value) : W.grownBy (W.setCell ⟨b, o, none⟩ v) (some b) :=
  ⟨rfl, rfl, rfl, by simp [World.setCell], fun k _ hk => Below.heap_setCell _ _ _ k (fun e => hk (by rw [e]))⟩
theorem setW_below {n : Nat} {w W : World} {b : Nat} (h : Below n w W) (hn : n ≤ w.heap.size) (hb : n ≤ b) (o : Nat) (v : Value) : Below n w (W.setCell ⟨b, o, none⟩ v) :=
  h.grown (setW_grown W b o v) (Nat.le_trans hn h.size) (fun k e => by cases e; exact hb)
set_option maxRecDepth 100000 in
set_option maxHeartbeats 2000000 in
theorem fun_any (s : ByteArray) (g : Option Addr) (m c : Nat) (w : World) :
    Calls Tryz.prog 12 #[.string s, .slice g m c] w fun e w' => e = .returned (.agg #[.int .i64 3, .string s, .int .i64 0, .slice g m c]) ∧ Below w.heap.size w w' := by
  go_enter Tryz.func12, Tryz.ntmps12
  go_upto_region 1 with fail
  have hv := (Below.refl w.heap.size w).alloc (Nat.le_refl _) (.cells #[.int .i64 0, .string ⟨#[]⟩, .int .i64 0, .slice none 0 0] 24)
  have hz := newBlk w (.cells #[.int .i64 0, .string ⟨#[]⟩, .int .i64 0, .slice none 0 0] 24) w.heap.size rfl
  obtain ⟨v, hv1⟩ : ∃ v, w.alloc (.cells #[.int .i64 0, .string ⟨#[]⟩, .int .i64 0, .slice none 0 0] 24) = v := ⟨_, rfl⟩
  rw [hv1] at hv hz ⊢
  clear hv1
  obtain ⟨⟨a0, a1, a2, a3⟩, f0, f1, f2, f3⟩ := row4 hz
  go_wp2_with fail
  have h1 := setW_blk (o := 3) (v := .slice g m c) (setW_blk (o := 2) (v := .int .i64 0) (setW_blk (o := 1) (v := .string s) (setW_blk (o := 0) (v := .int .i64 3) hz)))
  have h2 := setW_below (setW_below (setW_below (setW_below hv (Nat.le_refl _) (Nat.le_refl _) 0 (.int .i64 3)) (Nat.le_refl _) (Nat.le_refl _) 1 (.string s)) (Nat.le_refl _) (Nat.le_refl _) 2 (.int .i64 0)) (Nat.le_refl _) (Nat.le_refl _) 3 (.slice g m c)
  obtain ⟨V, hV⟩ : ∃ V, (((v.setCell ⟨w.heap.size, 0, none⟩ (.int .i64 3)).setCell ⟨w.heap.size, 1, none⟩ (.string s)).setCell ⟨w.heap.size, 2, none⟩ (.int .i64 0)).setCell ⟨w.heap.size, 3, none⟩ (.slice g m c) = V := ⟨_, rfl⟩
  rw [hV] at h1 h2 ⊢
  obtain ⟨⟨z0, z1, z2, z3⟩, -⟩ := row4 h1
  refine bodyPost_ret (v := .agg #[.int .i64 3, .string s, .int .i64 0, .slice g m c]) (by simp [results, Tryz.results12, go_sem, z0, z1, z2, z3]) rfl ?_
  exact ⟨rfl, h2⟩

/-! ### the example's terms -/
theorem kn_nil {W : World} {B : Nat} {s : ByteArray} (hs : s.size ≤ maxLen) : Tm.inn W B (.mk 3 s 0 []) (.slice none 0 0) := Tm.inn_mk.2 ⟨⟨by decide, hs, by decide⟩, none, 0, rfl, Nat.le_refl _, Nat.zero_le _, .inl rfl⟩
theorem kn_var {W : World} {B : Nat} : Tm.inn W B (.mk 1 ⟨#[]⟩ 3 []) (.slice none 0 0) := Tm.inn_mk.2 ⟨⟨by decide, by decide, by decide⟩, none, 0, rfl, Nat.le_refl _, Nat.zero_le _, .inl rfl⟩
theorem kn_next {W W' : World} {t : Tm} {sv : Value} (h : Tm.inn W W.heap.size t sv) (hb : Below W.heap.size W W') : Tm.inn W' W'.heap.size t sv := Tm.inn_mono (Tm.inn_below h hb (Nat.le_refl _)) hb.size
theorem kn_two {W W' : World} {a b : Tm} {sa sb : Value} {s : ByteArray} (hs : s.size ≤ maxLen) (ha : Tm.inn W W.heap.size a sa) (hb : Tm.inn W W.heap.size b sb)
    (h : Below (W.alloc (.cells #[.int .i64 a.kind, .string a.name, .int .i64 a.n, sa, .int .i64 b.kind, .string b.name, .int .i64 b.n, sb] 24)).heap.size (W.alloc (.cells #[.int .i64 a.kind, .string a.name, .int .i64 a.n, sa, .int .i64 b.kind, .string b.name, .int .i64 b.n, sb] 24)) W') :
    Tm.inn W' W'.heap.size (.mk 3 s 0 [a, b]) (.slice (some ⟨W.heap.size, 0, none⟩) 2 2) ∧ Below W.heap.size W W' := by
  have hal := (Below.refl W.heap.size W).alloc (Nat.le_refl _) (.cells #[.int .i64 a.kind, .string a.name, .int .i64 a.n, sa, .int .i64 b.kind, .string b.name, .int .i64 b.n, sb] 24)
  have hz := newBlk W (.cells #[.int .i64 a.kind, .string a.name, .int .i64 a.n, sa, .int .i64 b.kind, .string b.name, .int .i64 b.n, sb] 24) W.heap.size rfl
  have hl : W.heap.size < (W.alloc (.cells #[.int .i64 a.kind, .string a.name, .int .i64 a.n, sa, .int .i64 b.kind, .string b.name, .int .i64 b.n, sb] 24)).heap.size := by simp
  have ha2 := kn_next ha hal
  have hb2 := kn_next hb hal
  generalize W.alloc (.cells #[.int .i64 a.kind, .string a.name, .int .i64 a.n, sa, .int .i64 b.kind, .string b.name, .int .i64 b.n, sb] 24) = V at h hal hz hl ha2 hb2
  have hsl : Tm.sliceIn V V.heap.size [a, b] (.slice (some ⟨W.heap.size, 0, none⟩) 2 2) := by
    refine ⟨_, 2, rfl, Nat.le_refl _, by simp, .inr ⟨W.heap.size, 0, rfl, hl, ?_⟩⟩
    simp only [Tm.rowIn]
    refine ⟨⟨sa, ?_, ?_, ?_, ?_, ha2⟩, ⟨sb, ?_, ?_, ?_, ?_, hb2⟩, trivial⟩ <;> simp [World.cell?, hz]
  exact ⟨Tm.inn_mk.2 ⟨⟨by decide, hs, by decide⟩, Tm.sliceIn_mono (Tm.sliceIn_below hsl h (Nat.le_refl _)) h.size⟩, hal.trans (h.mono (Nat.le_of_lt hl))⟩
def ka : Tm := .mk 3 ⟨#[97]⟩ 0 []
def kv : Tm := .mk 1 ⟨#[]⟩ 3 []
def ke : Tm := .mk 3 ⟨#[91, 93]⟩ 0 []
def kd : Tm := .mk 3 ⟨#[46]⟩ 0 [kv, ke]
def kl : Tm := .mk 3 ⟨#[46]⟩ 0 [ka, kd]
def kb : Tm := .mk 3 ⟨#[66]⟩ 0 []
def kf : Tm := .mk 3 ⟨#[102]⟩ 0 [kl, kb]
def kp : Tm := .mk 3 ⟨#[112]⟩ 0 []
def kz : Tm := .mk 0 ⟨#[]⟩ 0 []
def kc : Gl := .mk 3 kz [] [] []
def kn : Gl := .mk 5 kz [] [] []
theorem kf_tx : tx kf = [102, 40, 91, 97, 44, 95, 51, 93, 44, 39, 66, 39, 41] := by
  have h3 : dgs 3 = [51] := dgs_small (by decide)
  have h1 : tx kv = [95, 51] := by simp [kv, tx, wr, txO, h3]
  have h1' : (wr kv).1 = [95, 51] := h1
  have h2 : tx ka = [97] := by kernel_rfl
  have h2' : (wr ka).1 = [97] := h2
  have h4 : (wr ke).2 = [93] := by kernel_rfl
  have h5 : (wr kb).1 = [39, 66, 39] := by kernel_rfl
  have h6 : (wr kd).2 = [44, 95, 51, 93] := by
    show tlO 3 [46] 0 (wrs [kv, ke]) = _
    simp [tlO, wrs, dotO, h1', h4]
  have h7 : (wr kl).1 = [91, 97, 44, 95, 51, 93] := by
    show txO 3 [46] 0 (wrs [ka, kd]) = _
    simp [txO, wrs, dotO, h2', h6]
  have h8 : nmX [102] = [102] := by kernel_rfl
  show txO 3 [102] 0 (wrs [kl, kb]) = _
  simp [txO, wrs, dotO, h7, h5, h8, cmX]
theorem kf_right : kf.right = true := by kernel_rfl
theorem kf_wt : wtX kf = ([102, 40, 91, 97, 44, 95, 51, 93, 44, 39, 66, 39, 41], 0) := by
  unfold wtX
  rw [kf_right, kf_tx]
  rfl
theorem kp_cl : clX kp [kc, kn] = [112, 32, 58, 45, 32, 33, 44, 32, 92, 43, 32, 40, 116, 114, 117, 101, 41, 46] := by kernel_rfl
theorem kg_nil : glsX [] = [116, 114, 117, 101] := rfl
/-- The example's two goals in a row of their own. -/
theorem kn_goals {W : World} {b : Nat} (hz : W.heap[b]? = some (Obj.cells #[.int .i64 3, .int .i64 0, .string ⟨#[]⟩, .int .i64 0, .slice none 0 0, .slice none 0 0, .slice none 0 0, .slice none 0 0, .int .i64 5, .int .i64 0, .string ⟨#[]⟩, .int .i64 0, .slice none 0 0, .slice none 0 0, .slice none 0 0, .slice none 0 0] 44 (0, 0))) : Gl.sliceIn W W.heap.size [kc, kn] (.slice (some ⟨b, 0, none⟩) 2 2) := by
  have hn : Gl.sliceIn W W.heap.size [] (.slice none 0 0) := ⟨none, 0, rfl, Nat.le_refl _, Nat.zero_le _, .inl rfl⟩
  have hk : Tm.inn W W.heap.size kz (.slice none 0 0) := Tm.inn_mk.2 ⟨⟨by decide, by decide, by decide⟩, none, 0, rfl, Nat.le_refl _, Nat.zero_le _, .inl rfl⟩
  refine ⟨_, 2, rfl, Nat.le_refl _, by decide, .inr ⟨b, 0, rfl, (Array.getElem?_eq_some_iff.1 hz).1, Gl.rowIn_of fun i hi => ?_⟩⟩
  refine ⟨.slice none 0 0, .slice none 0 0, .slice none 0 0, .slice none 0 0, ?_⟩
  have hi2 : i < 2 := hi
  have h0 : i = 0 ∨ i = 1 := by omega
  rcases h0 with rfl | rfl
  · exact ⟨by simp [World.cell?, hz, kc, Gl.kind], by simp [World.cell?, hz, kc, kz, Gl.t, Tm.kind], by simp [World.cell?, hz, kc, kz, Gl.t, Tm.name], by simp [World.cell?, hz, kc, kz, Gl.t, Tm.n], by simp [World.cell?, hz], by simp [World.cell?, hz], by simp [World.cell?, hz], by simp [World.cell?, hz], Gl.inn_mk.2 ⟨by decide, hk, hn, hn, hn⟩⟩
  · exact ⟨by simp [World.cell?, hz, kn, Gl.kind], by simp [World.cell?, hz, kn, kz, Gl.t, Tm.kind], by simp [World.cell?, hz, kn, kz, Gl.t, Tm.name], by simp [World.cell?, hz, kn, kz, Gl.t, Tm.n], by simp [World.cell?, hz], by simp [World.cell?, hz], by simp [World.cell?, hz], by simp [World.cell?, hz], Gl.inn_mk.2 ⟨by decide, hk, hn, hn, hn⟩⟩
theorem kn_term (W : World) (sv : Value) (h : Tm.inn W W.heap.size kf sv) (hp : Pow W) : Calls Tryz.prog 7 #[.agg #[.int .i64 3, .string ⟨#[102]⟩, .int .i64 0, sv]] W fun e w' => e = .returned (.tuple #[.string ⟨#[102, 40, 91, 97, 44, 95, 51, 93, 44, 39, 66, 39, 41]⟩, .int .i64 0]) ∧ Below W.heap.size W w' := by
  have h1 := wterm_any kf W sv h (by decide) hp
  rw [kf_wt] at h1
  exact h1
theorem kn_clause (W : World) (b : Nat) (hz : W.heap[b]? = some (Obj.cells #[.int .i64 3, .int .i64 0, .string ⟨#[]⟩, .int .i64 0, .slice none 0 0, .slice none 0 0, .slice none 0 0, .slice none 0 0, .int .i64 5, .int .i64 0, .string ⟨#[]⟩, .int .i64 0, .slice none 0 0, .slice none 0 0, .slice none 0 0, .slice none 0 0] 44 (0, 0))) (hp : Pow W) :
    Calls Tryz.prog 13 #[.agg #[.int .i64 3, .string ⟨#[112]⟩, .int .i64 0, .slice none 0 0, .slice (some ⟨b, 0, none⟩) 2 2, .int .i64 0]] W fun e w' => e = .returned (.string ⟨#[112, 32, 58, 45, 32, 33, 44, 32, 92, 43, 32, 40, 116, 114, 117, 101, 41, 46]⟩) ∧ Below W.heap.size W w' := by
  have h1 := wclause_any kp [kc, kn] 0 W (.slice none 0 0) _ (kn_nil (by decide)) (kn_goals hz) (by decide) (by decide) hp (by rw [kp_cl]; decide)
  rw [kp_cl] at h1
  exact h1
theorem kn_gnil (W : World) (hp : Pow W) : Calls Tryz.prog 14 #[.slice none 0 0] W fun e w' => e = .returned (.string ⟨#[116, 114, 117, 101]⟩) ∧ Below W.heap.size W w' :=
  wgoals_any [] W _ ⟨none, 0, rfl, Nat.le_refl _, Nat.zero_le _, .inl rfl⟩ (by decide) hp (by rw [kg_nil]; decide)
set_option maxRecDepth 100000 in
set_option maxHeartbeats 8000000 in
theorem wknows_any (w : World) (hpw : Pow w) : Calls Tryz.prog 6 #[] w fun e w' => e = .returned (.bool true) ∧ Below w.heap.size w w' := by
  have hpl := hpw.lt
  have HPW := Lib.hid hpw
  clear hpw
  go_enter Tryz.func6, Tryz.ntmps6
  go_upto_region 2 with (first
    | (go_at_call 12; (with_reducible refine (fun_any ⟨#[97]⟩ none 0 0 _).mono ?_); rintro e w1 ⟨rfl, hb⟩; have HB1 := Lib.hid hb; clear hb)
    | (go_at_call 12; (with_reducible refine (fun_any ⟨#[91, 93]⟩ none 0 0 _).mono ?_); rintro e w2 ⟨rfl, hb⟩; have HB2 := Lib.hid (HB1.out.trans (hb.mono HB1.out.size)); clear hb)
    | (go_at_call 12; (with_reducible refine (fun_any ⟨#[46]⟩ (some ⟨w2.heap.size, 0, none⟩) 2 2 _).mono ?_); rintro e w3 ⟨rfl, hb⟩; have hk := kn_two (a := kv) (b := ke) (s := ⟨#[46]⟩) (by decide) kn_var (kn_nil (by decide)) hb; have HI3 := Lib.hid hk.1; have HB3 := Lib.hid (HB2.out.trans (hk.2.mono HB2.out.size)); clear hb hk)
    | (go_at_call 12; (with_reducible refine (fun_any ⟨#[46]⟩ (some ⟨w3.heap.size, 0, none⟩) 2 2 _).mono ?_); rintro e w4 ⟨rfl, hb⟩; have hk := kn_two (a := ka) (b := kd) (s := ⟨#[46]⟩) (by decide) (kn_nil (by decide)) HI3.out hb; have HI4 := Lib.hid hk.1; have HB4 := Lib.hid (HB3.out.trans (hk.2.mono HB3.out.size)); clear hb hk))
  have hz := newBlk w4 (.cells #[.int .i64 3, .string ⟨#[46]⟩, .int .i64 0, .slice (some ⟨w3.heap.size, 0, none⟩) 2 2] 24) w4.heap.size rfl
  have hal := (Below.refl w4.heap.size w4).alloc (Nat.le_refl _) (.cells #[.int .i64 3, .string ⟨#[46]⟩, .int .i64 0, .slice (some ⟨w3.heap.size, 0, none⟩) 2 2] 24)
  have HI := Lib.hid (kn_next HI4.out hal)
  have HB := Lib.hid (HB4.out.trans (hal.mono HB4.out.size))
  generalize w4.alloc (.cells #[.int .i64 3, .string ⟨#[46]⟩, .int .i64 0, .slice (some ⟨w3.heap.size, 0, none⟩) 2 2] 24) = V at hz HI HB ⊢
  obtain ⟨x0, x1, x2, x3⟩ := (row4 (w := V.drew) hz).1
  have HZ := Lib.hid hz
  have hvl : w4.heap.size < V.heap.size := (Array.getElem?_eq_some_iff.1 hz).1
  clear hal hz
  go_region_with (first
    | (go_at_call 12; (with_reducible refine (fun_any ⟨#[66]⟩ none 0 0 _).mono ?_); rintro e w5 ⟨rfl, hb⟩; have hb5 : Below V.heap.size V w5 := ((Below.refl V.heap.size V).drew).trans hb; have HI5 := Lib.hid (kn_next HI.out hb5); have HB5 := Lib.hid (HB.out.trans (hb5.mono HB.out.size)); have hz5 := (hb5.block _ hvl).trans HZ.out; obtain ⟨y0, y1, y2, y3⟩ := (row4 hz5).1; have hl5 := hb5.size; clear hb hb5 hz5)
    | (go_at_call 12; (with_reducible refine (fun_any ⟨#[102]⟩ (some ⟨w5.heap.size, 0, none⟩) 2 2 _).mono ?_); rintro e w6 ⟨rfl, hb⟩; have hk := kn_two (a := kl) (b := kb) (s := ⟨#[102]⟩) (by decide) HI5.out (kn_nil (by decide)) hb; have HI6 := Lib.hid (show Tm.inn w6 w6.heap.size kf _ from hk.1); have HC6 := Lib.hid (kn_term w6 _ HI6.out (HPW.out.next (HB5.out.trans (hk.2.mono HB5.out.size)) hpl)); have HB6 := Lib.hid (HB5.out.trans (hk.2.mono HB5.out.size)); clear hb hk)
    | (go_at_call 7; (with_reducible refine (HC6.out).mono ?_); rintro e w7 ⟨rfl, hb⟩; have HB7 := Lib.hid (HB6.out.trans (hb.mono HB6.out.size)); clear hb))
  all_goals
    have e1 : ((⟨#[102, 40, 91, 97, 44, 95, 51, 93, 44, 39, 66, 39, 41]⟩ : ByteArray).toList == [102, 40, 91, 97, 44, 95, 51, 93, 44, 39, 66, 39, 41]) = true := by rw [bsN_toList]; rfl
    have e2 : ((⟨#[112, 32, 58, 45, 32, 33, 44, 32, 92, 43, 32, 40, 116, 114, 117, 101, 41, 46]⟩ : ByteArray).toList == [112, 32, 58, 45, 32, 33, 44, 32, 92, 43, 32, 40, 116, 114, 117, 101, 41, 46]) = true := by rw [bsN_toList]; rfl
    have e3 : ((⟨#[116, 114, 117, 101]⟩ : ByteArray).toList == [116, 114, 117, 101]) = true := by rw [bsN_toList]; rfl
    go_upto_region 4 with (first
      | (go_at_call 12; (with_reducible refine (fun_any ⟨#[112]⟩ none 0 0 _).mono ?_); rintro e w8 ⟨rfl, hb⟩; have HB8 := Lib.hid (HB7.out.trans (hb.mono HB7.out.size)); have hz8 := newBlk w8 (.cells #[.int .i64 3, .int .i64 0, .string ⟨#[]⟩, .int .i64 0, .slice none 0 0, .slice none 0 0, .slice none 0 0, .slice none 0 0, .int .i64 5, .int .i64 0, .string ⟨#[]⟩, .int .i64 0, .slice none 0 0, .slice none 0 0, .slice none 0 0, .slice none 0 0] 44) w8.heap.size rfl; have hal8 := (Below.refl w8.heap.size w8).alloc (Nat.le_refl _) (.cells #[.int .i64 3, .int .i64 0, .string ⟨#[]⟩, .int .i64 0, .slice none 0 0, .slice none 0 0, .slice none 0 0, .slice none 0 0, .int .i64 5, .int .i64 0, .string ⟨#[]⟩, .int .i64 0, .slice none 0 0, .slice none 0 0, .slice none 0 0, .slice none 0 0] 44); have HB9 := Lib.hid (HB8.out.trans (hal8.mono HB8.out.size)); have HC8 := Lib.hid (kn_clause _ w8.heap.size hz8 (HPW.out.next HB9.out hpl)); clear hb hz8 hal8)
      | (go_at_call 13; (with_reducible refine (HC8.out).mono ?_); rintro e w10 ⟨rfl, hb⟩; have HB10 := Lib.hid (HB9.out.trans (hb.mono HB9.out.size)); clear hb))
    have HG := Lib.hid (kn_gnil w10 (HPW.out.next HB10.out hpl))
    go_wp2_with (go_at_call 14; (with_reducible refine (HG.out).mono ?_); rintro e w11 ⟨rfl, hb⟩; have HB11 := Lib.hid (HB10.out.trans (hb.mono HB10.out.size)); clear hb)
    go_ret
    exact ⟨rfl, HB11.out⟩
end Go.Proofs.YtliapkajonbndaaGreatDoor
