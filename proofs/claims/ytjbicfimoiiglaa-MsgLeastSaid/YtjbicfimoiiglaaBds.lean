/-
  Rows of binds in memory; the document's Some and Place, the program's Find.
-/
import Derived.Test.YtjbicfimoiiglaaSub
import Derived.Test.YtjbicfimoiiglaaRef
import Derived.Test.YtjbicfimoiiglaaApart
namespace Go.Proofs.Ytjbicfimoiiglaa
open Go.RowKit

theorem inn_sl {W : World} {B : Nat} {t : Tm} {sv : Value} (h : Tm.inn W B t sv) : ∃ g c, sv = .slice g t.args.length c := by
  obtain ⟨_, g, c, e, _⟩ := Tm.inn_iff.1 h
  exact ⟨g, c, e⟩
theorem al2 (w : World) (o1 o2 : Obj) : Below w.heap.size w ((w.alloc o1).alloc o2) := ((Below.refl _ _).alloc (Nat.le_refl _) _).alloc (by simp) _
theorem al3 (w : World) (o1 o2 o3 : Obj) : Below w.heap.size w (((w.alloc o1).alloc o2).alloc o3) := (al2 w o1 o2).alloc (by simp; omega) _
/-- Bind x lies at cell off of block b. -/
def bdAt (w : World) (B b off : Nat) (x : Bd) : Prop := ∃ sv, w.cell? ⟨b, off, none⟩ = some (.int .i64 x.v) ∧ w.cell? ⟨b, off + 1, none⟩ = some (.int .i64 x.t.kind) ∧ w.cell? ⟨b, off + 2, none⟩ = some (.string x.t.name) ∧
  w.cell? ⟨b, off + 3, none⟩ = some (.int .i64 x.t.n) ∧ w.cell? ⟨b, off + 4, none⟩ = some sv ∧ Tm.inn w B x.t sv
/-- A row of binds. -/
def bdsIn (w : World) (B : Nat) (l : List Bd) (sv : Value) : Prop :=
  ∃ g cap, sv = .slice g l.length cap ∧ l.length ≤ cap ∧ l.length ≤ 2199023255552 ∧ (∀ x ∈ l, (Lit.int .i64 x.v).wf = true) ∧ (l = [] ∨ ∃ b off, g = some ⟨b, off, none⟩ ∧ b < B ∧ ∀ i (h : i < l.length), bdAt w B b (off + i * 5) l[i])
theorem bdAt_same {w w' : World} {B B' b off : Nat} {x : Bd} (hB : B ≤ B') (hb : b < B) (hc : ∀ b o v, b < B → w.cell? ⟨b, o, none⟩ = some v → w'.cell? ⟨b, o, none⟩ = some v) (h : bdAt w B b off x) : bdAt w' B' b off x := by
  obtain ⟨sv, h0, h1, h2, h3, h4, h5⟩ := h
  exact ⟨sv, hc _ _ _ hb h0, hc _ _ _ hb h1, hc _ _ _ hb h2, hc _ _ _ hb h3, hc _ _ _ hb h4, Tm.inn_same hB hc _ _ h5⟩
theorem bdsIn_same {w w' : World} {B B' : Nat} {l : List Bd} {sv : Value} (hB : B ≤ B') (hc : ∀ b o v, b < B → w.cell? ⟨b, o, none⟩ = some v → w'.cell? ⟨b, o, none⟩ = some v) (h : bdsIn w B l sv) : bdsIn w' B' l sv := by
  obtain ⟨g, cap, rfl, h1, h2, h3, h4⟩ := h
  refine ⟨g, cap, rfl, h1, h2, h3, ?_⟩
  rcases h4 with h4 | ⟨b, off, rfl, hb, hr⟩
  · exact .inl h4
  · exact .inr ⟨b, off, rfl, by omega, fun i hi => bdAt_same hB hb hc (hr i hi)⟩
theorem bdsIn_below {w w' : World} {B n₀ : Nat} {l : List Bd} {sv : Value} (h : bdsIn w B l sv) (hb : Below n₀ w w') (hB : B ≤ n₀) : bdsIn w' B l sv :=
  bdsIn_same (Nat.le_refl _) (fun b o v hlt hc => by rw [hb.cell (p := ⟨b, o, none⟩) (by show b < n₀; omega)]; exact hc) h
theorem bdsIn_mono {w : World} {B B' : Nat} {l : List Bd} {sv : Value} (h : bdsIn w B l sv) (hB : B ≤ B') : bdsIn w B' l sv := bdsIn_same hB (fun _ _ _ _ hc => hc) h
theorem bdsIn_held {w w' : World} {l : List Bd} {sv : Value} (h : bdsIn w w.heap.size l sv) (hb : Below w.heap.size w w') : bdsIn w' w'.heap.size l sv := bdsIn_mono (bdsIn_below h hb (Nat.le_refl _)) hb.size
theorem bdsIn_grown {w w' : World} {B : Nat} {l : List Bd} {sv : Value} {row : Option Nat} (h : bdsIn w B l sv) (hg : w.grownBy w' row) (hr : ∀ k, row = some k → B ≤ k) : bdsIn w' B l sv :=
  bdsIn_same (Nat.le_refl _) (fun b o v hlt hc => hg.cell hc (fun e => by have := hr b e.symm; omega)) h
/-- What a walk wants of bind i. -/
theorem bdsIn_get {w : World} {B : Nat} {l : List Bd} {g : Option Addr} {len cap : Nat} (h : bdsIn w B l (.slice g len cap)) (i : Nat) (hi : i < l.length) :
    ∃ b off sv, g = some ⟨b, off, none⟩ ∧ b < B ∧ w.cell? ⟨b, off + i * 5, none⟩ = some (.int .i64 l[i].v) ∧ w.cell? ⟨b, off + i * 5 + 1, none⟩ = some (.int .i64 l[i].t.kind) ∧ w.cell? ⟨b, off + i * 5 + 2, none⟩ = some (.string l[i].t.name) ∧
      w.cell? ⟨b, off + i * 5 + 3, none⟩ = some (.int .i64 l[i].t.n) ∧ w.cell? ⟨b, off + i * 5 + 4, none⟩ = some sv ∧ Tm.inn w B l[i].t sv := by
  obtain ⟨g', cap', he, h1, h2, _, h3⟩ := h
  injection he with e1 e2 e3
  subst e1
  rcases h3 with rfl | ⟨b, off, rfl, hb, hr⟩
  · simp at hi
  · obtain ⟨sv, hh⟩ := hr i hi
    exact ⟨b, off, sv, rfl, hb, hh⟩

def szB (l : List Bd) : Nat := Tm.sizes (l.map Bd.t)
theorem szB_mem {l : List Bd} {i : Nat} (h : i < l.length) : l[i].t.size ≤ szB l := Tm.size_mem_le (List.mem_map.2 ⟨_, List.getElem_mem h, rfl⟩)
theorem szB_len (l : List Bd) : l.length ≤ szB l := by
  have := Tm.length_le_sizes (l.map Bd.t)
  simpa [szB] using this

/-- What 'Some' tells: no more than what is used. -/
def SomePost (l : List Bd) (w : World) (e : Ending) (w' : World) : Prop := ∃ q : Bool, e = .returned (.bool q) ∧ (q = true → l.length ≤ 60 ∧ szB l ≤ 4000) ∧ Below w.heap.size w w'
theorem map_take (l : List Bd) (k : Nat) : (l.map Bd.t).take k = (l.take k).map Bd.t := by rw [List.map_take]

set_option maxHeartbeats 1000000 in
theorem bsome_any (l : List Bd) (w : World) (sv : Value) (hsl : bdsIn w w.heap.size l sv) :
    Calls Try.prog 26 #[sv] w fun e w' => SomePost l w e w' := by
  have hsl0 := hsl
  obtain ⟨g, cap, rfl, hcap, hlen, _, _⟩ := hsl0
  have hr : ∀ k, k ≤ l.length → -1 ≤ Tm.fews ((l.map Bd.t).take k) 4000 200 ∧ Tm.fews ((l.map Bd.t).take k) 4000 200 ≤ 4000 := fun k _ =>
    Tm.fews_rng _ (fun t _ m d h => Tm.few_rng t m d h) _ _ (by omega)
  have HR := Lib.hid hr
  have HSL := Lib.hid hsl
  clear hr hsl
  go_enter Try.func26, Try.ntmps26
  go_wp2_with fail
  go_loopw [3, 4] (fun q i wr => ∃ k : Nat, k ≤ l.length ∧ i = .int .i64 k ∧ q = .int .i64 (Tm.fews ((l.map Bd.t).take k) 4000 200) ∧ Below w.heap.size w wr) (fun _ i _ => l.length - (intOf i).toNat)
  case atStart => exact ⟨0, Nat.zero_le _, rfl, by simp [Tm.fews], Below.refl _ _⟩
  case round =>
    obtain ⟨k, hk, rfl, rfl, hb⟩ := hrel
    have hrk := HR.out k hk
    have hbs := hb.size
    by_cases hlt : k < l.length
    · by_cases hq : 0 ≤ Tm.fews ((l.map Bd.t).take k) 4000 200
      · obtain ⟨b, off, sv, rfl, hbB, g0, g1, g2, g3, g4, hin'⟩ := bdsIn_get (bdsIn_below HSL.out hb (Nat.le_refl _)) k hlt
        have hm := Tm.fews_take_succ (l.map Bd.t) k (by simpa using hlt) 4000 200 hq
        rw [List.getElem_map] at hm
        have hih := Lib.hid (few_any l[k].t wr w.heap.size sv (Tm.fews ((l.map Bd.t).take k) 4000 200) 200 hbs hin' hq (by omega) (by omega) (by omega))
        have HM := Lib.hid hm
        clear hm hin'
        go_wp2_with fail
        refine hih.out.mono ?_
        rintro e w1 ⟨rfl, hb1⟩
        go_wp2_with fail
        go_roundw
        case rel =>
          refine ⟨k + 1, by omega, by go_num, ?_, hb.trans (hb1.mono hb.size)⟩
          rw [HM.out]
        case measure => simp [intOf]; omega
      · go_wp2_with fail
        go_ret
        exact ⟨false, rfl, (fun h => by cases h), hb⟩
    · have : k = l.length := by omega
      subst this
      rw [List.take_of_length_le (by simp)] at hrk ⊢
      by_cases hq : 0 ≤ Tm.fews (l.map Bd.t) 4000 200
      · have hsz := (Tm.fews_says (l.map Bd.t) (fun t _ m d => Tm.few_says t m d) _ _ hq).1
        have HSZ := Lib.hid hsz
        clear hsz
        by_cases h60 : (l.length : Int) ≤ 60
        · go_wp2_with fail
          go_ret
          exact ⟨true, rfl, fun _ => ⟨by omega, by have := HSZ.out; unfold szB; omega⟩, hb⟩
        · go_wp2_with fail
          go_ret
          exact ⟨false, rfl, (fun h => by cases h), hb⟩
      · go_wp2_with fail
        go_ret
        exact ⟨false, rfl, (fun h => by cases h), hb⟩

theorem place_at {l : List Bd} {v : Int} {k : Nat} (hk : k < l.length) (hno : ∀ j (h : j < l.length), j < k → l[j].v ≠ v) (h : l[k].v = v) : place l v = some k :=
  place_is hk h fun j hj => hno j (by omega) hj
theorem place_not {l : List Bd} {v : Int} (hno : ∀ j (h : j < l.length), j < l.length → l[j].v ≠ v) : place l v = none :=
  place_none.2 fun b hb => by
    obtain ⟨j, hj, rfl⟩ := List.getElem_of_mem hb
    exact hno j hj hj

set_option maxHeartbeats 400000 in
theorem place_any (l : List Bd) (v : Int) (w : World) (sv : Value) (hsl : bdsIn w w.heap.size l sv) (hmax : l.length ≤ 1000000) :
    Calls Try.prog 29 #[sv, .int .i64 v] w fun e w' => e = .returned (.int .i64 (placeI l v)) ∧ w = w' := by
  have hsl0 := hsl
  obtain ⟨g, cap, rfl, hcap, hlen, _, _⟩ := hsl0
  have HSL := Lib.hid hsl
  clear hsl
  go_enter Try.func29, Try.ntmps29
  go_wp2_with fail
  go_loop [5] (fun i => ∃ k : Nat, k ≤ l.length ∧ i = .int .i64 k ∧ Hid (∀ j (h : j < l.length), j < k → l[j].v ≠ v)) (fun i => l.length - (intOf i).toNat)
  case atStart => exact ⟨0, Nat.zero_le _, rfl, fun j _ h => by omega⟩
  case round =>
    obtain ⟨k, hk, rfl, hp⟩ := hrel
    by_cases hlt : k < l.length
    · obtain ⟨b, off, sv, rfl, hbB, g0, g1, g2, g3, g4, _⟩ := bdsIn_get HSL.out k hlt
      by_cases he : l[k].v = v
      · have hpl := place_at hlt hp.out he
        have hpi : placeI l v = k := by simp [placeI, hpl]
        have HPI := Lib.hid hpi
        have heb : (l[k].v == v) = true := by simpa using he
        clear hpl hpi he
        go_wp2_with fail
        go_ret
        exact ⟨by rw [HPI.out]; rfl, rfl⟩
      · have heb : (l[k].v == v) = false := by simpa using he
        have HE := Lib.hid he
        clear he
        go_wp2_with fail
        go_round
        case rel =>
          refine ⟨k + 1, by omega, by go_num, fun j hj hjk => ?_⟩
          by_cases hjj : j < k
          · exact hp.out j hj hjj
          · obtain rfl : j = k := by omega
            exact HE.out
        case measure => simp [intOf]; omega
    · obtain rfl : k = l.length := by omega
      have hpl := place_not hp.out
      have hpi : placeI l v = -1 := by simp [placeI, hpl]
      have HPI := Lib.hid hpi
      clear hpl hpi
      go_wp2_with fail
      go_ret
      exact ⟨by rw [HPI.out]; rfl, rfl⟩

theorem Try.infoBd : (Try.prog.info? 49).map (fun i => (i.zero, i.size, i.bytes)) = some (some (.agg #[.int .i64 0, .int .i64 0, .string ⟨#[]⟩, .int .i64 0, .slice none 0 0]), 5, 64) := by kernel_rfl

/-- What Find tells: the term of the first bind, or none. -/
def FindPost (l : List Bd) (v : Int) (w : World) (e : Ending) (w' : World) : Prop :=
  Below w.heap.size w w' ∧ ((place l v = none ∧ e = .returned (.tuple #[.agg #[.int .i64 0, .string ⟨#[]⟩, .int .i64 0, .slice none 0 0], .bool false])) ∨
    ∃ p sv', place l v = some p ∧ e = .returned (.tuple #[.agg #[.int .i64 (tAt l p).kind, .string (tAt l p).name, .int .i64 (tAt l p).n, sv'], .bool true]) ∧ Tm.inn w' w'.heap.size (tAt l p) sv')

theorem row5 {w : World} {b : Nat} {a0 a1 a2 a3 a4 : Value} {t : TypeId} (h : w.heap[b]? = some (Obj.cells #[a0, a1, a2, a3, a4] t (0, 0))) :
    (w.cell? ⟨b, 0, none⟩ = some a0 ∧ w.cell? ⟨b, 1, none⟩ = some a1 ∧ w.cell? ⟨b, 2, none⟩ = some a2 ∧ w.cell? ⟨b, 3, none⟩ = some a3 ∧ w.cell? ⟨b, 4, none⟩ = some a4) ∧
    (w.frozen? ⟨b, 0, none⟩ = false ∧ w.frozen? ⟨b, 1, none⟩ = false ∧ w.frozen? ⟨b, 2, none⟩ = false ∧ w.frozen? ⟨b, 3, none⟩ = false ∧ w.frozen? ⟨b, 4, none⟩ = false) := by
  simp [World.cell?, World.frozen?, h]

set_option maxRecDepth 100000 in
set_option maxHeartbeats 2000000 in
theorem find_any (l : List Bd) (v : Int) (w : World) (sv : Value) (hsl : bdsIn w w.heap.size l sv) (hmax : l.length ≤ 1000000) :
    Calls Try.prog 28 #[sv, .int .i64 v] w fun e w' => FindPost l v w e w' := by
  have hsl0 := hsl
  obtain ⟨g, cap, rfl, hcap, hlen, _, _⟩ := hsl0
  have HSL := Lib.hid hsl
  clear hsl
  go_enter Try.func28, Try.ntmps28
  go_wp2_with fail
  go_loopw [10] (fun i wr => ∃ k : Nat, k ≤ l.length ∧ i = .int .i64 k ∧ Hid (∀ j (h : j < l.length), j < k → l[j].v ≠ v) ∧ Below w.heap.size w wr ∧ w.heap.size + 1 ≤ wr.heap.size ∧
      wr.heap[w.heap.size]? = some (Obj.cells #[.int .i64 0, .string ⟨#[]⟩, .int .i64 0, .slice none 0 0] 24 (0, 0))) (fun i _ => l.length - (intOf i).toNat)
  case atStart => exact ⟨0, Nat.zero_le _, rfl, fun j _ h => by omega, (Below.refl _ _).alloc (Nat.le_refl _) _, by simp, newBlk _ _ _ rfl⟩
  case round =>
    obtain ⟨k, hk, rfl, hp, hb, hbs, hres⟩ := hrel
    have HB := Lib.hid hb
    have HRES := Lib.hid hres
    by_cases hlt : k < l.length
    · obtain ⟨b, off, sv, rfl, hbB, g0, g1, g2, g3, g4, hin'⟩ := bdsIn_get (bdsIn_below HSL.out hb (Nat.le_refl _)) k hlt
      obtain ⟨_, ga, capa, rfl, _, _, _⟩ := Tm.inn_iff.1 hin'
      have HIN := Lib.hid hin'
      clear hin' hb hres
      by_cases he : l[k].v = v
      · have hpl := Lib.hid (place_at hlt hp.out he)
        have heb : (l[k].v == v) = true := by simpa using he
        have HT := Lib.hid (tAt_get hlt)
        clear he
        go_wp2_with fail
        refine (apart_any l[k].t _ w.heap.size _ (by simp; omega) (Tm.inn_below HIN.out (n₀ := wr.heap.size) ((Below.refl _ _).alloc (Nat.le_refl _) _) (by omega))).mono ?_
        rintro e w2 ⟨sv', rfl, hp2, hb2⟩
        obtain ⟨_, ga', capa', rfl, hc2, hl2, _⟩ := Tm.innP_iff.1 hp2
        have hs2 := hb2.size
        simp at hs2
        have r0 : w2.heap[w.heap.size]? = some (Obj.cells #[.int .i64 0, .string ⟨#[]⟩, .int .i64 0, .slice none 0 0] 24 (0, 0)) :=
          (hb2.block _ (by simp; omega)).trans ((Below.heap_alloc _ _ _ (by omega)).trans HRES.out)
        obtain ⟨⟨c0, c1, c2, c3⟩, f0, f1, f2, f3⟩ := row4 r0
        have HP := Lib.hid hp2
        have HB2 := Lib.hid (HB.out.trans ((((Below.refl _ _).alloc (Nat.le_refl _) _).trans (hb2.mono (by simp))).mono (by omega)))
        clear hp2 hb2 r0
        go_wp2_with fail
        refine bodyPost_ret (v := .tuple #[.agg #[.int .i64 l[k].t.kind, .string l[k].t.name, .int .i64 l[k].t.n, .slice ga' l[k].t.args.length capa'], .bool true]) (by simp [results, Try.results28, go_sem, c0, c1, c2, c3]) rfl ?_
        refine ⟨(((HB2.out.setCell (p := ⟨w.heap.size, 0, none⟩) (by simp) _).setCell (p := ⟨w.heap.size, 1, none⟩) (by simp) _).setCell (p := ⟨w.heap.size, 2, none⟩) (by simp) _).setCell (p := ⟨w.heap.size, 3, none⟩) (by simp) _, .inr ⟨k, _, hpl.out, by rw [HT.out], ?_⟩⟩
        rw [HT.out]
        have hfin := Tm.innP_same (w' := ((((w2.setCell ⟨w.heap.size, 0, none⟩ (.int .i64 l[k].t.kind)).setCell ⟨w.heap.size, 1, none⟩ (.string l[k].t.name)).setCell ⟨w.heap.size, 2, none⟩ (.int .i64 l[k].t.n)).setCell ⟨w.heap.size, 3, none⟩ (.slice ga' l[k].t.args.length capa'))) (ok' := fun b => b < w2.heap.size) (fun b hb' => hb'.2) (fun b o u hb' hc => by
          rw [World.cell?_of_block (a := ⟨b, o, none⟩) (set4_other w2 w.heap.size _ _ _ _ b (by have := hb'.1; simp at this; omega))]; exact hc) _ _ HP.out
        exact Tm.inn_of_P (fun b hb' => by simpa using hb') _ _ hfin
      · have heb : (l[k].v == v) = false := by simpa using he
        have HE := Lib.hid he
        clear he
        go_wp2_with fail
        go_roundw
        case rel =>
          refine ⟨k + 1, by omega, by go_num, fun j hj hjk => ?_, HB.out.alloc (by omega) _, by simp; omega, (Below.heap_alloc _ _ _ (by omega)).trans HRES.out⟩
          by_cases hjj : j < k
          · exact hp.out j hj hjj
          · obtain rfl : j = k := by omega
            exact HE.out
        case measure => simp [intOf]; omega
    · obtain rfl : k = l.length := by omega
      have hpl := Lib.hid (place_not hp.out)
      obtain ⟨⟨c0, c1, c2, c3⟩, f0, f1, f2, f3⟩ := row4 hres
      clear hb hres
      go_wp2_with fail
      refine bodyPost_ret (v := .tuple #[.agg #[.int .i64 0, .string ⟨#[]⟩, .int .i64 0, .slice none 0 0], .bool false]) (by simp [results, Try.results28, go_sem, c0, c1, c2, c3]) rfl ?_
      refine ⟨(((HB.out.setCell (p := ⟨w.heap.size, 0, none⟩) (by simp) _).setCell (p := ⟨w.heap.size, 1, none⟩) (by simp) _).setCell (p := ⟨w.heap.size, 2, none⟩) (by simp) _).setCell (p := ⟨w.heap.size, 3, none⟩) (by simp) _, .inl ⟨hpl.out, rfl⟩⟩
end Go.Proofs.Ytjbicfimoiiglaa
