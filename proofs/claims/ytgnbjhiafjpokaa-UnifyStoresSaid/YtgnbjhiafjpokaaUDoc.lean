/-
  The document's unify and Unify, of terms that are right.
  The program's Unify and Mgu of terms that are not right: they are refused.
-/
import Derived.Test.YtgnbjhiafjpokaaUAlike
import Derived.Test.YtgnbjhiafjpokaaSUnify
import Derived.Test.YtgnbjhiafjpokaaMgu
namespace Go.Proofs.Ytgnbjhiafjpokaa
open Go.RowKit Go.Shelf Go.Maps

theorem unify_all (ok : Nat → Prop) (B lo : Nat) (hBlo : B ≤ lo) : ∀ (N : Nat) (l : List Bd), RightL l → 1000000 - l.length = N → ∀ a b : Tm, a.right = true → b.right = true → UAll ok B lo l a b := by
  intro N
  induction N using Nat.strongRecOn with
  | ind N ihN =>
    intro l hl hN
    obtain ⟨σ, hσ⟩ := sol_of hl
    have key : ∀ (M : Nat) (a b : Tm), a.right = true → b.right = true → (a.bnd σ).size = M → UAll ok B lo l a b := by
      intro M
      induction M using Nat.strongRecOn with
      | ind M ihM =>
        intro a b ha hb hM
        refine unify_step ok B lo hBlo l hl a b ha hb fun l1 x y hl1 hx hy hc => ?_
        rcases hc with ⟨rfl, a', hwa, hk, hxa⟩ | hlt
        · exact ihM _ (by rw [← hM, hwa.same σ (hσ.solves hl.1)]; exact size_arg σ hk hxa) x y hx hy rfl
        · exact ihN (1000000 - l1.length) (by have := okL_len hl1.1; omega) l1 hl1 rfl x y hx hy
    exact fun a b ha hb => key _ a b ha hb rfl

/-- What has the solutions of a list binds only the variables of that. -/
theorem Alike.binds {l m : List Bd} {V : List Int} (he : Alike l m) (hl : RightL l) (hm : RightL m) (hV : inV V l) : ∀ b ∈ m, b.v ∈ V := fun b hb => Classical.byContradiction fun hn => by
  obtain ⟨σ, hσ⟩ := sol_of hl
  have hs := hσ.solves hl.1
  obtain ⟨i, hi, rfl⟩ := List.getElem_of_mem hb
  have hvt : ¬ m[i].v ∈ m[i].t.vs := fun h => by
    obtain ⟨r, hr⟩ := hm.2
    have h1 := hr i hi i (deps_mem.2 ⟨m[i].v, by rw [tAt_get hi]; exact h, (hm.1 i hi).2.2.1⟩)
    omega
  have key : ∀ c : Tm, c = σ m[i].v := fun c => by
    have h1 : Solves (fun u => if u = m[i].v then c else σ u) l := fun x hx => by
      have h2 := hV x hx
      have h3 : x.v ≠ m[i].v := fun e => hn (e ▸ h2.1)
      have h4 : x.t.bnd (fun u => if u = m[i].v then c else σ u) = x.t.bnd σ := Tm.bnd_congr _ _ _ fun u hu => by
        have h5 : u ≠ m[i].v := fun e => hn (e ▸ h2.2 u hu)
        simp [h5]
      rw [h4]
      simp only [h3, if_false]
      exact hs x hx
    have h6 := (he _).1 h1 m[i] (List.getElem_mem hi)
    have h7 := (he _).1 hs m[i] (List.getElem_mem hi)
    have h8 : m[i].t.bnd (fun u => if u = m[i].v then c else σ u) = m[i].t.bnd σ := Tm.bnd_congr _ _ _ fun u hu => by
      have h5 : u ≠ m[i].v := fun e => hvt (e ▸ hu)
      simp [h5]
    rw [h8] at h6
    simp only [if_true] at h6
    rw [h6, h7]
  have h1 := key (.mk 0 ⟨#[]⟩ 0 [])
  have h2 := key (.mk 1 ⟨#[]⟩ 0 [])
  rw [← h1] at h2
  simp at h2
theorem nodup_sub : ∀ (m V : List Int), m.Nodup → (∀ x ∈ m, x ∈ V) → m.length ≤ V.length := by
  intro m
  induction m with
  | nil => intro V _ _; exact Nat.zero_le _
  | cons x r ih =>
    intro V hm hx
    rw [List.nodup_cons] at hm
    have hxV := hx x (by simp)
    have h1 := ih (V.erase x) hm.2 fun y hy => (List.mem_erase_of_ne (fun e => hm.1 (by rw [← e]; exact hy))).2 (hx y (List.mem_cons_of_mem _ hy))
    rw [List.length_erase_of_mem hxV] at h1
    have h2 := List.length_pos_of_mem hxV
    simp only [List.length_cons]
    omega
theorem Alike.len {l m : List Bd} {V : List Int} (he : Alike l m) (hl : RightL l) (hm : RightL m) (hV : inV V l) : m.length ≤ V.length := by
  have h := nodup_sub (vsB m) V (nodup_place hm.1) fun x hx => by
    obtain ⟨b, hb, rfl⟩ := List.mem_map.1 hx
    exact he.binds hl hm hV b hb
  rwa [vsB_length] at h

def RUniPost (ok : Nat → Prop) (l : List Bd) (a b : Tm) (B : Nat) (svl : Value) (w : World) (e : Ending) (w' : World) : Prop :=
  ∃ (svl' : Value) (q : Bool), e = .returned (.tuple #[svl', .bool q]) ∧ Below w.heap.size w w' ∧ ((q = false ∧ NoMgu l a b ∧ svl' = svl) ∨ (q = true ∧ ∃ l', MguOf l a b l' ∧ bdsQ w' B (fun k => k < w'.heap.size ∧ (ok k ∨ w.heap.size ≤ k)) l' svl'))
set_option maxRecDepth 100000 in
set_option maxHeartbeats 4000000 in
theorem runify_any {ok : Nat → Prop} {l : List Bd} (hl : RightL l) {a b : Tm} (ha : a.right = true) (hb : b.right = true) {B : Nat} {w : World} (hB : B ≤ w.heap.size) {svl sva svb : Value} (hbl : bdsQ w B (fun k => k < w.heap.size ∧ ok k) l svl) (hina : Tm.inn w B a sva) (hinb : Tm.inn w B b svb) :
    Calls Try.prog 33 #[svl, .agg #[.int .i64 a.kind, .string a.name, .int .i64 a.n, sva], .agg #[.int .i64 b.kind, .string b.name, .int .i64 b.n, svb]] w fun e w' => RUniPost ok l a b B svl w e w' := by
  obtain ⟨ga, ca, rfl⟩ := inn_sl hina
  obtain ⟨gb, cb, rfl⟩ := inn_sl hinb
  obtain ⟨gl, cl, rfl, _, _, _, _⟩ := id hbl
  have hal := al2 w (.cells #[.int .i64 a.kind, .string a.name, .int .i64 a.n, .slice ga a.args.length ca] 27) (.cells #[.int .i64 b.kind, .string b.name, .int .i64 b.n, .slice gb b.args.length cb] 27)
  obtain ⟨W0, hW⟩ : ∃ W0, (w.alloc (.cells #[.int .i64 a.kind, .string a.name, .int .i64 a.n, .slice ga a.args.length ca] 27)).alloc (.cells #[.int .i64 b.kind, .string b.name, .int .i64 b.n, .slice gb b.args.length cb] 27) = W0 := ⟨_, rfl⟩
  have hbx : bdsQ _ B (away ok w.heap.size _ (.slice none 0 0)) l _ := bdsQ_same hbl (fun b h => ⟨Nat.lt_of_lt_of_le h.1 hal.size, (fun e => by cases e), .inl h.2⟩) (fun b o v hlt hc => (hal.cell (p := ⟨b, o, none⟩) (by show b < w.heap.size; omega)).trans hc) (fun b o v hlt hc => (hal.cell (p := ⟨b, o, none⟩) hlt.1).trans hc)
  have hia := Tm.inn_below hina hal hB
  have hib := Tm.inn_below hinb hal hB
  rw [hW] at hal hbx hia hib
  have hc := unify_all ok B w.heap.size hB _ l hl rfl a b ha hb [] (fun x hx => by cases hx) MetBd.nil W0 _ _ _ (.slice none 0 0) hal.size
    hbx hia hib (ownMet_nil _ _)
  have HC := Lib.hid hc
  have HAL := Lib.hid hal
  have HW := Lib.hid hW
  clear hbx hia hib hc hal hW hbl hina hinb
  go_enter Try.func33, Try.ntmps33
  go_wp2_with fail
  rw [HW.out]
  refine HC.out.mono ?_
  rintro e w' ⟨svl', vm', ok, rfl, hg, hcase⟩
  have hbw : Below w.heap.size w w' := HAL.out.trans ⟨hg.os, hg.tape, hg.output, hg.size, fun k hk => hg.block k (Nat.lt_of_lt_of_le hk HAL.out.size) (fun e => by cases e)⟩
  have HBW := Lib.hid hbw
  have HCA := Lib.hid hcase
  clear hbw hcase hg HC HAL HW
  cases ok with
  | false =>
    go_wp2_with fail
    go_ret2
    refine ⟨_, false, rfl, HBW.out, .inl ⟨rfl, ?_, rfl⟩⟩
    rcases HCA.out with ⟨_, h⟩ | ⟨h, _⟩
    · exact h
    · cases h
  | true =>
    go_wp2_with fail
    go_ret2
    refine ⟨_, true, rfl, HBW.out, .inr ⟨rfl, ?_⟩⟩
    rcases HCA.out with ⟨h, _⟩ | ⟨_, l', met', hm, _, hb, _⟩
    · cases h
    · exact ⟨l', hm, bdsQ_same hb (fun _ h => ⟨h.1, h.2.2⟩) (fun _ _ _ _ h => h) (fun _ _ _ _ h => h)⟩
end Go.Proofs.Ytgnbjhiafjpokaa

namespace Go.Proofs.Ytgnbjhiafjpokaa
open Go.RowKit Go.Shelf Go.Maps

set_option maxRecDepth 100000 in
set_option maxHeartbeats 4000000 in
theorem sunify_bad {W : World} {sb : Nat} {a b : Tm} {sva svb : Value} (hina : Tm.inn W W.heap.size a sva) (hinb : Tm.inn W W.heap.size b svb) (hsa : a.size ≤ 1000000) (hsb : b.size ≤ 1000000) (hbad : ¬ (a.right = true ∧ b.right = true)) :
    Calls Try.prog 39 #[.pointer (some ⟨sb, 0, none⟩), .agg #[.int .i64 a.kind, .string a.name, .int .i64 a.n, sva], .agg #[.int .i64 b.kind, .string b.name, .int .i64 b.n, svb]] W fun e W' => e = .returned (.tuple #[.bool false, .int .i64 1]) ∧ Below W.heap.size W W' := by
  obtain ⟨ga, ca, rfl⟩ := inn_sl hina
  obtain ⟨gb, cb, rfl⟩ := inn_sl hinb
  have hb0 := al2 W (.cells #[.int .i64 a.kind, .string a.name, .int .i64 a.n, .slice ga a.args.length ca] 27) (.cells #[.int .i64 b.kind, .string b.name, .int .i64 b.n, .slice gb b.args.length cb] 27)
  obtain ⟨W0, hW0⟩ : ∃ W0, (W.alloc (.cells #[.int .i64 a.kind, .string a.name, .int .i64 a.n, .slice ga a.args.length ca] 27)).alloc (.cells #[.int .i64 b.kind, .string b.name, .int .i64 b.n, .slice gb b.args.length cb] 27) = W0 := ⟨_, rfl⟩
  have hba : W0.heap[W.heap.size]? = some (.cells #[.int .i64 a.kind, .string a.name, .int .i64 a.n, .slice ga a.args.length ca] 27 (0, 0)) := by rw [← hW0, Below.heap_alloc _ _ _ (by simp)]; exact newBlk _ _ _ rfl
  have hbb : W0.heap[W.heap.size + 1]? = some (.cells #[.int .i64 b.kind, .string b.name, .int .i64 b.n, .slice gb b.args.length cb] 27 (0, 0)) := by rw [← hW0]; exact newBlk _ _ _ (by simp)
  have hs0 : W0.heap.size = W.heap.size + 2 := by rw [← hW0]; simp
  rw [hW0] at hb0
  have hta := tright_any a W0 _ (Tm.inn_mono (Tm.inn_below hina hb0 (Nat.le_refl _)) (by omega)) hsa
  have htb : ∀ w1 : World, Below W0.heap.size W0 w1 → Calls Try.prog 54 #[.agg #[.int .i64 b.kind, .string b.name, .int .i64 b.n, .slice gb b.args.length cb]] w1 fun e w' => e = .returned (.bool b.right) ∧ Below w1.heap.size w1 w' := fun w1 h1 =>
    tright_any b w1 _ (Tm.inn_mono (Tm.inn_below (Tm.inn_below hinb hb0 (Nat.le_refl _)) h1 (by omega)) (by have := h1.size; omega)) hsb
  have HTA := Lib.hid hta
  have HTB := Lib.hid htb
  have HB0 := Lib.hid hb0
  have HBA := Lib.hid hba
  have HBB := Lib.hid hbb
  have HS0 := Lib.hid hs0
  have HW0 := Lib.hid hW0
  have HBAD := Lib.hid hbad
  obtain ⟨⟨x0, x1, x2, x3⟩, _⟩ := row4 hba
  obtain ⟨⟨y0, y1, y2, y3⟩, _⟩ := row4 hbb
  have hp := Try.underlying60
  clear hta htb hb0 hba hbb hs0 hW0 hina hinb hbad
  go_enter Try.func39, Try.ntmps39
  go_upto_region 1 with fail
  rw [HW0.out]
  go_wp2_with fail
  refine HTA.out.mono ?_
  rintro e w1 ⟨rfl, hb1⟩
  have hs1 := hb1.size
  obtain ⟨⟨p0, p1, p2, p3⟩, _⟩ := row4 ((hb1.block (W.heap.size + 1) (by have := HS0.out; omega)).trans HBB.out)
  have HTB1 := Lib.hid (HTB.out w1 hb1)
  have HB1 := Lib.hid (HB0.out.trans (hb1.mono (by have := HS0.out; omega)))
  have hl1 : W.heap.size + 1 < w1.heap.size := by have := HS0.out; omega
  clear hb1 HTA HTB x0 x1 x2 x3 y0 y1 y2 y3
  cases hra : a.right with
  | false =>
    clear hra
    go_wp2_with fail
    refine bodyPost_ret (v := .tuple #[.bool false, .int .i64 1]) (by simp [results, Try.results39, go_sem]) rfl ?_
    exact ⟨rfl, HB1.out⟩
  | true =>
    have HRA := Lib.hid hra
    clear hra
    go_wp2_with fail
    refine HTB1.out.mono ?_
    rintro e w2 ⟨rfl, hb2⟩
    have hrb : b.right = false := by
      cases h : b.right with
      | false => rfl
      | true => exact absurd ⟨HRA.out, h⟩ HBAD.out
    rw [hrb]
    have HB2 := Lib.hid (HB1.out.trans (hb2.mono (by omega)))
    clear hb2 hrb
    go_wp2_with fail
    refine bodyPost_ret (v := .tuple #[.bool false, .int .i64 1]) (by simp [results, Try.results39, go_sem]) rfl ?_
    exact ⟨rfl, HB2.out⟩

set_option maxRecDepth 100000 in
set_option maxHeartbeats 4000000 in
theorem mgu_bad {W : World} {a b : Tm} {sva svb : Value} (hina : Tm.inn W W.heap.size a sva) (hinb : Tm.inn W W.heap.size b svb) (hsa : a.size ≤ 1000000) (hsb : b.size ≤ 1000000) (hbad : ¬ (a.right = true ∧ b.right = true)) :
    Calls Try.prog 32 #[.agg #[.int .i64 a.kind, .string a.name, .int .i64 a.n, sva], .agg #[.int .i64 b.kind, .string b.name, .int .i64 b.n, svb]] W fun e W' => e = .returned (.tuple #[.slice none 0 0, .bool false, .int .i64 1]) ∧ Below W.heap.size W W' := by
  obtain ⟨ga, ca, rfl⟩ := inn_sl hina
  obtain ⟨gb, cb, rfl⟩ := inn_sl hinb
  obtain ⟨W0, hW0⟩ : ∃ W0, (W.alloc (.cells #[.int .i64 a.kind, .string a.name, .int .i64 a.n, .slice ga a.args.length ca] 27)).alloc (.cells #[.int .i64 b.kind, .string b.name, .int .i64 b.n, .slice gb b.args.length cb] 27) = W0 := ⟨_, rfl⟩
  have hb0 : Below W.heap.size W W0 := by rw [← hW0]; exact al2 _ _ _
  have hba : W0.heap[W.heap.size]? = some (.cells #[.int .i64 a.kind, .string a.name, .int .i64 a.n, .slice ga a.args.length ca] 27 (0, 0)) := by rw [← hW0, Below.heap_alloc _ _ _ (by simp)]; exact newBlk _ _ _ rfl
  have hbb : W0.heap[W.heap.size + 1]? = some (.cells #[.int .i64 b.kind, .string b.name, .int .i64 b.n, .slice gb b.args.length cb] 27 (0, 0)) := by rw [← hW0]; exact newBlk _ _ _ (by simp)
  have hs0 : W0.heap.size = W.heap.size + 2 := by rw [← hW0]; simp
  have hnew := new_any W0 W.heap.size (by omega)
  have hun : ∀ w1 : World, Below W0.heap.size W0 w1 → Calls Try.prog 39 #[.pointer (some ⟨W0.heap.size, 0, none⟩), .agg #[.int .i64 a.kind, .string a.name, .int .i64 a.n, .slice ga a.args.length ca], .agg #[.int .i64 b.kind, .string b.name, .int .i64 b.n, .slice gb b.args.length cb]] w1 fun e W' => e = .returned (.tuple #[.bool false, .int .i64 1]) ∧ Below w1.heap.size w1 W' := fun w1 h1 =>
    sunify_bad (Tm.inn_mono (Tm.inn_below (Tm.inn_below hina hb0 (Nat.le_refl _)) h1 (by omega)) (by have := h1.size; omega)) (Tm.inn_mono (Tm.inn_below (Tm.inn_below hinb hb0 (Nat.le_refl _)) h1 (by omega)) (by have := h1.size; omega)) hsa hsb hbad
  have HNEW := Lib.hid hnew
  have HUN := Lib.hid hun
  have HB0 := Lib.hid hb0
  have HBA := Lib.hid hba
  have HBB := Lib.hid hbb
  have HS0 := Lib.hid hs0
  have HW0 := Lib.hid hW0
  clear hnew hun hb0 hba hbb hs0 hW0 hina hinb hbad
  go_enter Try.func32, Try.ntmps32
  go_upto_region 1 with fail
  rw [HW0.out]
  go_wp2_with fail
  refine HNEW.out.mono ?_
  rintro e w1 ⟨rfl, hb1, hst1⟩
  have hs0 := HS0.out
  obtain ⟨⟨p0, p1, p2, p3⟩, _⟩ := row4 ((hb1.block (W.heap.size + 1) (by omega)).trans HBB.out)
  obtain ⟨⟨r0, r1, r2, r3⟩, _⟩ := row4 ((hb1.block W.heap.size (by omega)).trans HBA.out)
  have HU1 := Lib.hid (HUN.out w1 hb1)
  have HB1 := Lib.hid (HB0.out.trans (hb1.mono (by omega)))
  clear hb1 hst1 HNEW HUN hs0
  go_wp2_with fail
  refine HU1.out.mono ?_
  rintro e w2 ⟨rfl, hb2⟩
  have HB2 := Lib.hid (HB1.out.trans (hb2.mono HB1.out.size))
  clear hb2 HU1 p0 p1 p2 p3 r0 r1 r2 r3
  go_wp2_with fail
  go_ret3
  exact ⟨rfl, HB2.out⟩
end Go.Proofs.Ytgnbjhiafjpokaa
