/-
  The law's examples: a clause, and a text that is none.
  The law's Words: two rows of the same texts are alike; terms read as clauses say.
  Two clauses alike, side by side in memory; a term of nothing.
-/
import Derived.Test.YtilfglcjcmpfeaaGreatDoorOne
import Derived.Test.YtilfglcjcmpfeaaGreatDoorRdBad
import Derived.Test.YtilfglcjcmpfeaaGreatDoorTurnA
namespace Go.Proofs.YtilfglcjcmpfeaaGreatDoor
open Go.RowKit

def knS1 : ByteArray := ⟨#[97, 32, 58, 45, 32, 98, 44, 32, 92, 43, 32, 88, 32, 61, 32, 45, 49, 46]⟩
def knS2 : ByteArray := ⟨#[97, 32, 98, 46]⟩
theorem knw_1 : lexL false 0 (bs knS1) = .inr [(⟨1, [97], 0, false⟩, 0), (⟨1, [58, 45], 0, false⟩, 2), (⟨1, [98], 0, false⟩, 5), (⟨4, [44], 0, false⟩, 6), (⟨1, [92, 43], 0, false⟩, 8), (⟨2, [88], 0, false⟩, 11), (⟨1, [61], 0, false⟩, 13), (⟨1, [45], 0, false⟩, 15), (⟨3, [49], 1, false⟩, 16), (⟨5, [46], 0, false⟩, 17)] := by
  have h18 : lexL false 18 [] = .inr [] := lexL_nil _ _
  have h17 : lexL false 17 [46] = .inr [(⟨5, [46], 0, false⟩, 17)] := (lexL_tok (at' := 17) (c := 46) (r := []) (t := ⟨5, [46], 0, false⟩) (k := 1) (by decide) (by decide) (by rfl)).trans (congrArg (preL _) h18)
  have h16 : lexL false 16 [49, 46] = .inr [(⟨3, [49], 1, false⟩, 16), (⟨5, [46], 0, false⟩, 17)] := (lexL_tok (at' := 16) (c := 49) (r := [46]) (t := ⟨3, [49], 1, false⟩) (k := 1) (by decide) (by decide) (by rfl)).trans (congrArg (preL _) h17)
  have h15 : lexL false 15 [45, 49, 46] = .inr [(⟨1, [45], 0, false⟩, 15), (⟨3, [49], 1, false⟩, 16), (⟨5, [46], 0, false⟩, 17)] := (lexL_tok (at' := 15) (c := 45) (r := [49, 46]) (t := ⟨1, [45], 0, false⟩) (k := 1) (by decide) (by decide) (by rfl)).trans (congrArg (preL _) h16)
  have h14 : lexL false 14 [32, 45, 49, 46] = .inr [(⟨1, [45], 0, false⟩, 15), (⟨3, [49], 1, false⟩, 16), (⟨5, [46], 0, false⟩, 17)] := (lexL_gap (by decide) (by decide)).trans h15
  have h13 : lexL false 13 [61, 32, 45, 49, 46] = .inr [(⟨1, [61], 0, false⟩, 13), (⟨1, [45], 0, false⟩, 15), (⟨3, [49], 1, false⟩, 16), (⟨5, [46], 0, false⟩, 17)] := (lexL_tok (at' := 13) (c := 61) (r := [32, 45, 49, 46]) (t := ⟨1, [61], 0, false⟩) (k := 1) (by decide) (by decide) (by rfl)).trans (congrArg (preL _) h14)
  have h12 : lexL false 12 [32, 61, 32, 45, 49, 46] = .inr [(⟨1, [61], 0, false⟩, 13), (⟨1, [45], 0, false⟩, 15), (⟨3, [49], 1, false⟩, 16), (⟨5, [46], 0, false⟩, 17)] := (lexL_gap (by decide) (by decide)).trans h13
  have h11 : lexL false 11 [88, 32, 61, 32, 45, 49, 46] = .inr [(⟨2, [88], 0, false⟩, 11), (⟨1, [61], 0, false⟩, 13), (⟨1, [45], 0, false⟩, 15), (⟨3, [49], 1, false⟩, 16), (⟨5, [46], 0, false⟩, 17)] := (lexL_tok (at' := 11) (c := 88) (r := [32, 61, 32, 45, 49, 46]) (t := ⟨2, [88], 0, false⟩) (k := 1) (by decide) (by decide) (by rfl)).trans (congrArg (preL _) h12)
  have h10 : lexL false 10 [32, 88, 32, 61, 32, 45, 49, 46] = .inr [(⟨2, [88], 0, false⟩, 11), (⟨1, [61], 0, false⟩, 13), (⟨1, [45], 0, false⟩, 15), (⟨3, [49], 1, false⟩, 16), (⟨5, [46], 0, false⟩, 17)] := (lexL_gap (by decide) (by decide)).trans h11
  have h8 : lexL false 8 [92, 43, 32, 88, 32, 61, 32, 45, 49, 46] = .inr [(⟨1, [92, 43], 0, false⟩, 8), (⟨2, [88], 0, false⟩, 11), (⟨1, [61], 0, false⟩, 13), (⟨1, [45], 0, false⟩, 15), (⟨3, [49], 1, false⟩, 16), (⟨5, [46], 0, false⟩, 17)] := (lexL_tok (at' := 8) (c := 92) (r := [43, 32, 88, 32, 61, 32, 45, 49, 46]) (t := ⟨1, [92, 43], 0, false⟩) (k := 2) (by decide) (by decide) (by rfl)).trans (congrArg (preL _) h10)
  have h7 : lexL false 7 [32, 92, 43, 32, 88, 32, 61, 32, 45, 49, 46] = .inr [(⟨1, [92, 43], 0, false⟩, 8), (⟨2, [88], 0, false⟩, 11), (⟨1, [61], 0, false⟩, 13), (⟨1, [45], 0, false⟩, 15), (⟨3, [49], 1, false⟩, 16), (⟨5, [46], 0, false⟩, 17)] := (lexL_gap (by decide) (by decide)).trans h8
  have h6 : lexL false 6 [44, 32, 92, 43, 32, 88, 32, 61, 32, 45, 49, 46] = .inr [(⟨4, [44], 0, false⟩, 6), (⟨1, [92, 43], 0, false⟩, 8), (⟨2, [88], 0, false⟩, 11), (⟨1, [61], 0, false⟩, 13), (⟨1, [45], 0, false⟩, 15), (⟨3, [49], 1, false⟩, 16), (⟨5, [46], 0, false⟩, 17)] := (lexL_tok (at' := 6) (c := 44) (r := [32, 92, 43, 32, 88, 32, 61, 32, 45, 49, 46]) (t := ⟨4, [44], 0, false⟩) (k := 1) (by decide) (by decide) (by rfl)).trans (congrArg (preL _) h7)
  have h5 : lexL false 5 [98, 44, 32, 92, 43, 32, 88, 32, 61, 32, 45, 49, 46] = .inr [(⟨1, [98], 0, false⟩, 5), (⟨4, [44], 0, false⟩, 6), (⟨1, [92, 43], 0, false⟩, 8), (⟨2, [88], 0, false⟩, 11), (⟨1, [61], 0, false⟩, 13), (⟨1, [45], 0, false⟩, 15), (⟨3, [49], 1, false⟩, 16), (⟨5, [46], 0, false⟩, 17)] := (lexL_tok (at' := 5) (c := 98) (r := [44, 32, 92, 43, 32, 88, 32, 61, 32, 45, 49, 46]) (t := ⟨1, [98], 0, false⟩) (k := 1) (by decide) (by decide) (by rfl)).trans (congrArg (preL _) h6)
  have h4 : lexL false 4 [32, 98, 44, 32, 92, 43, 32, 88, 32, 61, 32, 45, 49, 46] = .inr [(⟨1, [98], 0, false⟩, 5), (⟨4, [44], 0, false⟩, 6), (⟨1, [92, 43], 0, false⟩, 8), (⟨2, [88], 0, false⟩, 11), (⟨1, [61], 0, false⟩, 13), (⟨1, [45], 0, false⟩, 15), (⟨3, [49], 1, false⟩, 16), (⟨5, [46], 0, false⟩, 17)] := (lexL_gap (by decide) (by decide)).trans h5
  have h2 : lexL false 2 [58, 45, 32, 98, 44, 32, 92, 43, 32, 88, 32, 61, 32, 45, 49, 46] = .inr [(⟨1, [58, 45], 0, false⟩, 2), (⟨1, [98], 0, false⟩, 5), (⟨4, [44], 0, false⟩, 6), (⟨1, [92, 43], 0, false⟩, 8), (⟨2, [88], 0, false⟩, 11), (⟨1, [61], 0, false⟩, 13), (⟨1, [45], 0, false⟩, 15), (⟨3, [49], 1, false⟩, 16), (⟨5, [46], 0, false⟩, 17)] := (lexL_tok (at' := 2) (c := 58) (r := [45, 32, 98, 44, 32, 92, 43, 32, 88, 32, 61, 32, 45, 49, 46]) (t := ⟨1, [58, 45], 0, false⟩) (k := 2) (by decide) (by decide) (by rfl)).trans (congrArg (preL _) h4)
  have h1 : lexL false 1 [32, 58, 45, 32, 98, 44, 32, 92, 43, 32, 88, 32, 61, 32, 45, 49, 46] = .inr [(⟨1, [58, 45], 0, false⟩, 2), (⟨1, [98], 0, false⟩, 5), (⟨4, [44], 0, false⟩, 6), (⟨1, [92, 43], 0, false⟩, 8), (⟨2, [88], 0, false⟩, 11), (⟨1, [61], 0, false⟩, 13), (⟨1, [45], 0, false⟩, 15), (⟨3, [49], 1, false⟩, 16), (⟨5, [46], 0, false⟩, 17)] := (lexL_gap (by decide) (by decide)).trans h2
  exact (lexL_tok (at' := 0) (c := 97) (r := [32, 58, 45, 32, 98, 44, 32, 92, 43, 32, 88, 32, 61, 32, 45, 49, 46]) (t := ⟨1, [97], 0, false⟩) (k := 1) (by decide) (by decide) (by rfl)).trans (congrArg (preL _) h1)
theorem knw_2 : lexL false 0 (bs knS2) = .inr [(⟨1, [97], 0, false⟩, 0), (⟨1, [98], 0, false⟩, 2), (⟨5, [46], 0, false⟩, 3)] := by
  have h4 : lexL false 4 [] = .inr [] := lexL_nil _ _
  have h3 : lexL false 3 [46] = .inr [(⟨5, [46], 0, false⟩, 3)] := (lexL_tok (at' := 3) (c := 46) (r := []) (t := ⟨5, [46], 0, false⟩) (k := 1) (by decide) (by decide) (by rfl)).trans (congrArg (preL _) h4)
  have h2 : lexL false 2 [98, 46] = .inr [(⟨1, [98], 0, false⟩, 2), (⟨5, [46], 0, false⟩, 3)] := (lexL_tok (at' := 2) (c := 98) (r := [46]) (t := ⟨1, [98], 0, false⟩) (k := 1) (by decide) (by decide) (by rfl)).trans (congrArg (preL _) h3)
  have h1 : lexL false 1 [32, 98, 46] = .inr [(⟨1, [98], 0, false⟩, 2), (⟨5, [46], 0, false⟩, 3)] := (lexL_gap (by decide) (by decide)).trans h2
  exact (lexL_tok (at' := 0) (c := 97) (r := [32, 98, 46]) (t := ⟨1, [97], 0, false⟩) (k := 1) (by decide) (by decide) (by rfl)).trans (congrArg (preL _) h1)
def knY : Tm := funT ⟨#[92, 43]⟩ [funT ⟨#[61]⟩ [varT 0, numT (-1)]]
def knU : Tm := funT ⟨#[44]⟩ [funT ⟨#[98]⟩ [], knY]
def knT : Tm := funT ⟨#[58, 45]⟩ [funT ⟨#[97]⟩ [], knU]
set_option maxRecDepth 100000 in
theorem kcl_1 : clE (bs knS1) [(⟨1, [97], 0, false⟩, 0), (⟨1, [58, 45], 0, false⟩, 2), (⟨1, [98], 0, false⟩, 5), (⟨4, [44], 0, false⟩, 6), (⟨1, [92, 43], 0, false⟩, 8), (⟨2, [88], 0, false⟩, 11), (⟨1, [61], 0, false⟩, 13), (⟨1, [45], 0, false⟩, 15), (⟨3, [49], 1, false⟩, 16), (⟨5, [46], 0, false⟩, 17)] = .ok (knT, [], [[88]]) := by kernel_rfl
set_option maxRecDepth 100000 in
theorem kcl_2 : clE (bs knS2) [(⟨1, [97], 0, false⟩, 0), (⟨1, [98], 0, false⟩, 2), (⟨5, [46], 0, false⟩, 3)] = .error (2, 2) := by kernel_rfl
theorem one_1 : oneE (bs knS1) = .ok (knT, [[88]]) := by
  have hr : knT.right = true := by kernel_rfl
  have h : readE (bs knS1) = .ok [(knT, [[88]])] := by
    unfold readE
    rw [if_neg (by decide), knw_1]
    dsimp only
    rw [List.length_cons, clsE, kcl_1]
    dsimp only
    rw [if_pos hr]
    rfl
  unfold oneE
  rw [h]
theorem one_2 : oneE (bs knS2) = .error (2, 2) := by
  have h : readE (bs knS2) = .error (2, 2) := by
    unfold readE
    rw [if_neg (by decide), knw_2]
    dsimp only
    rw [List.length_cons, clsE, kcl_2]
  unfold oneE
  rw [h]
/-- What the law looks at of its first example. -/
def K9 (W : World) (b0 o0 b1 o1 c1 b2 o2 : Nat) : Prop :=
  b0 < W.heap.size ∧ b1 < W.heap.size ∧ b2 < W.heap.size ∧ W.cell? ⟨b0, o0 + 5, none⟩ = some (.string ⟨#[44]⟩) ∧ W.cell? ⟨b0, o0 + 7, none⟩ = some (.slice (some ⟨b1, o1, none⟩) 2 c1) ∧ W.cell? ⟨b1, o1 + 5, none⟩ = some (.string ⟨#[92, 43]⟩) ∧ W.cell? ⟨b2, o2, none⟩ = some (.string ⟨#[88]⟩)
theorem K9.next {W W' : World} {b0 o0 b1 o1 c1 b2 o2 : Nat} (h : K9 W b0 o0 b1 o1 c1 b2 o2) (hb : Below W.heap.size W W') : K9 W' b0 o0 b1 o1 c1 b2 o2 := by
  obtain ⟨h0, h1, h2, h3, h4, h5, h6⟩ := h
  have key : ∀ b o v, b < W.heap.size → W.cell? ⟨b, o, none⟩ = some v → W'.cell? ⟨b, o, none⟩ = some v := fun b o v hlt hv => (World.cell?_of_block (a := ⟨b, o, none⟩) (hb.block b hlt)).trans hv
  have hs := hb.size
  exact ⟨by omega, by omega, by omega, key _ _ _ h0 h3, key _ _ _ h0 h4, key _ _ _ h1 h5, key _ _ _ h2 h6⟩
theorem K9_of {W : World} {g gn : Option Addr} {m c mn cn : Nat} (h : Tm.inn W W.heap.size knT (.slice g m c)) (hn : namesP W (fun x => x < W.heap.size) [[88]] (.slice gn mn cn)) : ∃ b0 o0 b1 o1 c1 b2 o2, g = some ⟨b0, o0, none⟩ ∧ m = 2 ∧ gn = some ⟨b2, o2, none⟩ ∧ mn = 1 ∧ K9 W b0 o0 b1 o1 c1 b2 o2 := by
  obtain ⟨_, g', cap, e, _, _, h | ⟨b0, o0, e0, hb0, hr⟩⟩ := Tm.inn_mk.1 h
  · cases h
  injection e with e1 e2 e3
  obtain ⟨sv, _, h1, _, h3, hi⟩ := Tm.rowIn_get hr 1 (by decide)
  obtain ⟨_, g1, c1, e4, _, _, h | ⟨b1, o1, e5, hb1, hr1⟩⟩ := Tm.inn_mk.1 hi
  · cases h
  obtain ⟨sv1, _, h4, _⟩ := Tm.rowIn_get hr1 1 (by decide)
  obtain ⟨gn', cn', e6, _, h | ⟨b2, o2, e7, hb2, hc⟩⟩ := hn
  · cases h
  injection e6 with e8 e9 e10
  have h5 := hc 0 (by decide)
  rw [e4, e5] at h3
  exact ⟨b0, o0, b1, o1, c1, b2, o2, by rw [e1, e0], e2, by rw [e8, e7], e9, hb0, hb1, hb2, h1, h3, h4, h5⟩
theorem knone_1 (w : World) (hr : Rng w) : Calls Tryz.prog 12 #[.string ⟨#[97, 32, 58, 45, 32, 98, 44, 32, 92, 43, 32, 88, 32, 61, 32, 45, 49, 46]⟩] w fun e w' => ∃ b0 o0 b1 o1 c1 b2 o2 c cn, e = .returned (.tuple #[.agg #[.int .i64 3, .string ⟨#[58, 45]⟩, .int .i64 0, .slice (some ⟨b0, o0, none⟩) 2 c, .slice (some ⟨b2, o2, none⟩) 1 cn], .int .i64 0, .int .i64 0]) ∧ K9 w' b0 o0 b1 o1 c1 b2 o2 ∧ Below w.heap.size w w' :=
  (one_p knS1 w hr (by decide)).mono fun e w' h => by
    obtain ⟨hb, k, nm, n, g, m, c, gn, mn, cn, b, cd, rfl, h⟩ := h
    rw [one_1] at h
    obtain ⟨rfl, rfl, rfl, rfl, rfl, hi, hn⟩ := h
    obtain ⟨b0, o0, b1, o1, c1, b2, o2, rfl, rfl, rfl, rfl, hk⟩ := K9_of hi hn
    exact ⟨b0, o0, b1, o1, c1, b2, o2, c, cn, rfl, hk, hb⟩
theorem knone_2 (w : World) (hr : Rng w) : Calls Tryz.prog 12 #[.string ⟨#[97, 32, 98, 46]⟩] w fun e w' => e = .returned (.tuple #[.agg #[.int .i64 0, .string ⟨#[]⟩, .int .i64 0, .slice none 0 0, .slice none 0 0], .int .i64 2, .int .i64 2]) ∧ Below w.heap.size w w' :=
  (one_p knS2 w hr (by decide)).mono fun e w' h => by
    obtain ⟨hb, k, nm, n, g, m, c, gn, mn, cn, b, cd, rfl, h⟩ := h
    rw [one_2] at h
    obtain ⟨_, rfl, rfl, rfl, rfl, rfl, rfl, rfl, rfl, rfl, rfl, rfl⟩ := h
    exact ⟨rfl, hb⟩
set_option maxRecDepth 100000 in
set_option maxHeartbeats 2000000 in
theorem rknows_any (w : World) (hr : Rng w) :
    Calls Tryz.prog 7 #[] w fun e w' => e = .returned (.bool true) ∧ Below w.heap.size w w' := by
  have H1 := Lib.hid (fun u h => knone_1 u h)
  have H2 := Lib.hid (fun u h => knone_2 u h)
  have HR := Lib.hid hr
  clear hr
  go_enter Tryz.func7, Tryz.ntmps7
  go_upto_region 2 with (go_at_call 12; (with_reducible refine (H1.out _ HR.out).mono ?_); rintro e w1 ⟨b0, o0, b1, o1, c1, b2, o2, c, cn, rfl, hk, hb1⟩; have HK := Lib.hid hk; have HB1 := Lib.hid hb1; clear hk hb1)
  have hv := (Below.refl w1.heap.size w1).alloc (Nat.le_refl _) (.cells #[.int .i64 3, .string ⟨#[58, 45]⟩, .int .i64 0, .slice (some ⟨b0, o0, none⟩) 2 c, .slice (some ⟨b2, o2, none⟩) 1 cn] 36)
  have hz := newBlk w1 (.cells #[.int .i64 3, .string ⟨#[58, 45]⟩, .int .i64 0, .slice (some ⟨b0, o0, none⟩) 2 c, .slice (some ⟨b2, o2, none⟩) 1 cn] 36) w1.heap.size rfl
  have hzl : w1.heap.size < (w1.alloc (.cells #[.int .i64 3, .string ⟨#[58, 45]⟩, .int .i64 0, .slice (some ⟨b0, o0, none⟩) 2 c, .slice (some ⟨b2, o2, none⟩) 1 cn] 36)).heap.size := by simp
  obtain ⟨v1, hv1⟩ : ∃ v1, w1.alloc (.cells #[.int .i64 3, .string ⟨#[58, 45]⟩, .int .i64 0, .slice (some ⟨b0, o0, none⟩) 2 c, .slice (some ⟨b2, o2, none⟩) 1 cn] 36) = v1 := ⟨_, rfl⟩
  rw [hv1] at hv hz hzl ⊢
  clear hv1
  have HV := Lib.hid hv
  have HZ := Lib.hid hz
  have HK1 := Lib.hid (HK.out.next hv)
  have HR1 := Lib.hid ((HR.out.next HB1.out).next hv)
  clear hv hz
  go_upto_region 3 with (go_at_call 12; (with_reducible refine (H2.out _ HR1.out).mono ?_); rintro e w2 ⟨rfl, hb2⟩; have HB2 := Lib.hid hb2; clear hb2)
  have hz2 := (HB2.out.block _ hzl).trans HZ.out
  have hzl2 : w1.heap.size < w2.heap.size := Nat.lt_of_lt_of_le hzl HB2.out.size
  have hk2 := HK1.out.next HB2.out
  have hv := (Below.refl w2.heap.size w2).alloc (Nat.le_refl _) (.cells #[.int .i64 0, .string ⟨#[]⟩, .int .i64 0, .slice none 0 0, .slice none 0 0] 36)
  obtain ⟨v2, hv2⟩ : ∃ v2, w2.alloc (.cells #[.int .i64 0, .string ⟨#[]⟩, .int .i64 0, .slice none 0 0, .slice none 0 0] 36) = v2 := ⟨_, rfl⟩
  rw [hv2] at hv ⊢
  clear hv2
  have hz3 := (hv.block _ hzl2).trans hz2
  obtain ⟨hl0, hl1, hl2, k0, k1, k2, k3⟩ := hk2.next hv
  obtain ⟨⟨a0, a1, a2, a3, a4⟩, -⟩ := row5f hz3
  have HB3 := Lib.hid hv
  have hll : w1.heap.size < v2.heap.size := Nat.lt_of_lt_of_le hzl2 hv.size
  have HF : Hid (Below w.heap.size w v2) := Lib.hid (((HB1.out.trans (HV.out.mono HB1.out.size)).trans (HB2.out.mono (Nat.le_trans HB1.out.size HV.out.size))).trans (HB3.out.mono (Nat.le_trans HB1.out.size (Nat.le_trans HV.out.size HB2.out.size))))
  clear hz2 hzl2 hk2 hv hz3 hzl
  go_wp2_with fail
  go_ret
  exact ⟨rfl, HF.out⟩
end Go.Proofs.YtilfglcjcmpfeaaGreatDoor

namespace Go.Proofs.YtilfglcjcmpfeaaGreatDoor
open Go.RowKit

set_option maxRecDepth 100000 in
set_option maxHeartbeats 2000000 in
theorem rwords_any {ok1 ok2 : Nat → Prop} (l : Names) (w : World) (v1 v2 : Value) (h1 : namesP w ok1 l v1) (h2 : namesP w ok2 l v2) (hok1 : ∀ b, ok1 b → b < w.heap.size) (hok2 : ∀ b, ok2 b → b < w.heap.size) (hl : l.length ≤ 1000000) :
    Calls Tryz.prog 11 #[v1, v2] w fun e w' => e = .returned (.bool true) ∧ Below w.heap.size w w' := by
  obtain ⟨g1, c1, rfl, _⟩ := id h1
  obtain ⟨g2, c2, rfl, _⟩ := id h2
  have H1 := Lib.hid h1
  have H2 := Lib.hid h2
  clear h1 h2
  go_enter Tryz.func11, Tryz.ntmps11
  go_wp2_with fail
  go_loopw [5] (fun i wr => ∃ q : Nat, q ≤ l.length ∧ i = .int .i64 q ∧ Below w.heap.size w wr) (fun i _ => l.length - (intOf i).toNat)
  case atStart => exact ⟨0, Nat.zero_le _, rfl, Below.refl _ _⟩
  case round =>
    obtain ⟨q, hq, rfl, hb⟩ := hrel
    have HB := Lib.hid hb
    clear hb
    by_cases hlt : q < l.length
    · obtain ⟨b1, o1, c1', e1, _, hb1, x0⟩ := namesP_at H1.out q hlt
      obtain ⟨b2, o2, c2', e2, _, hb2, y0⟩ := namesP_at H2.out q hlt
      injection e1 with e1 _ ec1
      injection e2 with e2 _ ec2
      subst e1 e2 ec1 ec2
      have hb1' := hok1 _ hb1
      have hb2' := hok2 _ hb2
      have x0 := (HB.out.cell (p := ⟨b1, o1 + q, none⟩) hb1').trans x0
      have y0 := (HB.out.cell (p := ⟨b2, o2 + q, none⟩) hb2').trans y0
      have j0 : (0 : Int) ≤ (q : Int) := by omega
      have j1 : (q : Int) < (l.length : Int) := by omega
      have jz : (0 : Int) + (q : Int) = (q : Int) := by omega
      have jw : IntKind.i64.wrap (q : Int) = (q : Int) := by rw [IntKind.wrap_i64]; omega
      have hsz := HB.out.size
      clear hb1 hb2
      go_wp2_with fail
      go_region
      all_goals go_wp2_with fail
      all_goals
        go_roundw
        case rel => exact ⟨q + 1, by omega, by go_num, HB.out.drew⟩
        case measure => simp [intOf]; omega
    · obtain rfl : l.length = q := by omega
      go_wp2_with fail
      go_ret
      exact ⟨rfl, HB.out⟩
end Go.Proofs.YtilfglcjcmpfeaaGreatDoor

namespace Go.Proofs.YtilfglcjcmpfeaaGreatDoor
open Go.RowKit

def zT9 : Tm := .mk 0 ⟨#[]⟩ 0 []
theorem inn_z9 (w : World) : Tm.inn w w.heap.size zT9 (.slice none 0 0) := Tm.inn_mk.2 ⟨⟨by decide, Nat.zero_le _, by decide⟩, none, 0, rfl, Nat.le_refl _, Nat.zero_le _, .inl rfl⟩
theorem same_z9 (w : World) : Calls Tryz.prog 10 #[.agg #[.int .i64 0, .string ⟨#[]⟩, .int .i64 0, .slice none 0 0], .agg #[.int .i64 0, .string ⟨#[]⟩, .int .i64 0, .slice none 0 0]] w fun e w' => e = .returned (.bool true) ∧ Below w.heap.size w w' :=
  rsame_any zT9 zT9 w _ (.slice none 0 0) (.slice none 0 0) (Nat.le_refl _) (inn_z9 w) (inn_z9 w)
theorem same_t9 (t : Tm) (w : World) (sv sv' : Value) (h : Tm.inn w w.heap.size t sv) (h' : Tm.inn w w.heap.size t sv') : Calls Tryz.prog 10 #[.agg #[.int .i64 t.kind, .string t.name, .int .i64 t.n, sv], .agg #[.int .i64 t.kind, .string t.name, .int .i64 t.n, sv']] w fun e w' => e = .returned (.bool true) ∧ Below w.heap.size w w' :=
  (rsame_any t t w _ sv sv' (Nat.le_refl _) h h').mono fun e w' h => by
    rw [show t.same t = true from (Tm.same_iff t t).2 rfl] at h
    exact h
def row5c (W : World) (b p : Nat) (t : Tm) (sv nv : Value) : Prop :=
  W.cell? ⟨b, p, none⟩ = some (.int .i64 t.kind) ∧ W.cell? ⟨b, p + 1, none⟩ = some (.string t.name) ∧ W.cell? ⟨b, p + 2, none⟩ = some (.int .i64 t.n) ∧ W.cell? ⟨b, p + 3, none⟩ = some sv ∧ W.cell? ⟨b, p + 4, none⟩ = some nv
theorem row5c.next {W W' : World} {b p : Nat} {t : Tm} {sv nv : Value} (h : row5c W b p t sv nv) (hl : b < W.heap.size) (hb : Below W.heap.size W W') : row5c W' b p t sv nv := by
  obtain ⟨h0, h1, h2, h3, h4⟩ := h
  have key : ∀ o v, W.cell? ⟨b, o, none⟩ = some v → W'.cell? ⟨b, o, none⟩ = some v := fun o v hv => (World.cell?_of_block (a := ⟨b, o, none⟩) (hb.block b hl)).trans hv
  exact ⟨key _ _ h0, key _ _ h1, key _ _ h2, key _ _ h3, key _ _ h4⟩
/-- Two clauses, and what the law keeps besides. -/
structure CH (w0 : World) (t : Tm) (ns : Names) (b1 p1 b2 p2 : Nat) (sv1 nv1 sv2 nv2 : Value) (W : World) : Prop where
  c1 : row5c W b1 p1 t sv1 nv1
  c2 : row5c W b2 p2 t sv2 nv2
  l1 : b1 < W.heap.size
  l2 : b2 < W.heap.size
  i1 : Tm.inn W W.heap.size t sv1
  i2 : Tm.inn W W.heap.size t sv2
  n1 : namesP W (fun x => x < W.heap.size) ns nv1
  n2 : namesP W (fun x => x < W.heap.size) ns nv2
  low : Below w0.heap.size w0 W
  rng : Rng W
theorem names_next {W W' : World} {ns : Names} {nv : Value} (h : namesP W (fun x => x < W.heap.size) ns nv) (hb : Below W.heap.size W W') : namesP W' (fun x => x < W'.heap.size) ns nv :=
  namesP_same (fun _ hl => Nat.lt_of_lt_of_le hl hb.size) (fun b o _ hl hv => (World.cell?_of_block (a := ⟨b, o, none⟩) (hb.block b hl)).trans hv) h
theorem CH.next {w0 : World} {t : Tm} {ns : Names} {b1 p1 b2 p2 : Nat} {sv1 nv1 sv2 nv2 : Value} {W W' : World} (h : CH w0 t ns b1 p1 b2 p2 sv1 nv1 sv2 nv2 W) (hb : Below W.heap.size W W') : CH w0 t ns b1 p1 b2 p2 sv1 nv1 sv2 nv2 W' :=
  ⟨h.c1.next h.l1 hb, h.c2.next h.l2 hb, Nat.lt_of_lt_of_le h.l1 hb.size, Nat.lt_of_lt_of_le h.l2 hb.size, Tm.inn_mono (Tm.inn_below h.i1 hb (Nat.le_refl _)) hb.size, Tm.inn_mono (Tm.inn_below h.i2 hb (Nat.le_refl _)) hb.size, names_next h.n1 hb, names_next h.n2 hb, h.low.trans (hb.mono h.low.size), h.rng.next hb⟩
theorem CH.same {w0 : World} {t : Tm} {ns : Names} {b1 p1 b2 p2 : Nat} {sv1 nv1 sv2 nv2 : Value} {W : World} (h : CH w0 t ns b1 p1 b2 p2 sv1 nv1 sv2 nv2 W) : Calls Tryz.prog 10 #[.agg #[.int .i64 t.kind, .string t.name, .int .i64 t.n, sv1], .agg #[.int .i64 t.kind, .string t.name, .int .i64 t.n, sv2]] W fun e w' => e = .returned (.bool true) ∧ Below W.heap.size W w' :=
  same_t9 t W sv1 sv2 h.i1 h.i2
theorem CH.words {w0 : World} {t : Tm} {ns : Names} {b1 p1 b2 p2 : Nat} {sv1 nv1 sv2 nv2 : Value} {W : World} (h : CH w0 t ns b1 p1 b2 p2 sv1 nv1 sv2 nv2 W) (hl : ns.length ≤ 1000000) : Calls Tryz.prog 11 #[nv1, nv2] W fun e w' => e = .returned (.bool true) ∧ Below W.heap.size W w' :=
  rwords_any ns W nv1 nv2 h.n1 h.n2 (fun _ h => h) (fun _ h => h) hl
end Go.Proofs.YtilfglcjcmpfeaaGreatDoor
