/-
  The program's become: what a term becomes, if it is right.
-/
import Derived.Test.YtjbicfimoiiglaaBld
import Derived.Laws.EntriesVeiled
namespace Go.Proofs.Ytjbicfimoiiglaa
open Go.RowKit Go.Shelf Go.Maps

/-- What become tells. -/
def BecPost (u : Tm) (w : World) (e : Ending) (w' : World) : Prop :=
  Below w.heap.size w w' ∧ ((u.right = false ∧ e = .returned (.tuple #[.agg #[.int .i64 0, .string ⟨#[]⟩, .int .i64 0, .slice none 0 0], .int .i64 3])) ∨
    (u.right = true ∧ ∃ g c, e = .returned (.tuple #[.agg #[.int .i64 u.kind, .string u.name, .int .i64 u.n, .slice g u.args.length c], .int .i64 0]) ∧
      Tm.innP w' (fun b => w.heap.size ≤ b ∧ b < w'.heap.size) u (.slice g u.args.length c)))
theorem below_grown {w W W' : World} {Br : Nat} (h : Below w.heap.size w W) (hg : W.grownBy W' (some Br)) (hBr : w.heap.size ≤ Br) : Below w.heap.size w W' :=
  h.grown hg h.size (fun k e => by cases e; exact hBr)

theorem al5 (w : World) (a0 a1 a2 a3 a4 : Obj) : Below w.heap.size w (((((w.alloc a0).alloc a1).alloc a2).alloc a3).alloc a4) ∧ (((((w.alloc a0).alloc a1).alloc a2).alloc a3).alloc a4).heap[w.heap.size]? = some a0 ∧
    (((((w.alloc a0).alloc a1).alloc a2).alloc a3).alloc a4).heap[w.heap.size + 1 + 1]? = some a2 ∧ (((((w.alloc a0).alloc a1).alloc a2).alloc a3).alloc a4).heap[w.heap.size + 1 + 1 + 1]? = some a3 ∧
    (((((w.alloc a0).alloc a1).alloc a2).alloc a3).alloc a4).heap[w.heap.size + 1 + 1 + 1 + 1]? = some a4 ∧ (((((w.alloc a0).alloc a1).alloc a2).alloc a3).alloc a4).heap.size = w.heap.size + 5 := by
  refine ⟨((((((Below.refl _ _).alloc (Nat.le_refl _) _).alloc (by simp) _).alloc (by simp; omega) _).alloc (by simp; omega) _).alloc (by simp; omega) _), ?_, ?_, ?_, ?_, by simp⟩
  · rw [Below.heap_alloc _ _ _ (by simp <;> omega), Below.heap_alloc _ _ _ (by simp <;> omega), Below.heap_alloc _ _ _ (by simp <;> omega), Below.heap_alloc _ _ _ (by simp)]
    exact newBlk _ _ _ rfl
  · rw [Below.heap_alloc _ _ _ (by simp <;> omega), Below.heap_alloc _ _ _ (by simp)]
    exact newBlk _ _ _ (by simp)
  · rw [Below.heap_alloc _ _ _ (by simp)]
    exact newBlk _ _ _ (by simp)
  · exact newBlk _ _ _ (by simp)

set_option maxRecDepth 100000 in
set_option maxHeartbeats 4000000 in
theorem become_any (l : List Bd) (σ : Int → Tm) (hσ : Sol l σ) (dom : Int → Bool) (hdom : ∀ v, (dom v = true ∨ (dom v = false ∧ place l v = none))) (m n B : Nat) (x : Tm) (w : World) (sv : Value)
    (hM : EMap l σ dom m n B w) (hB : B ≤ w.heap.size) (hx : x.fair = true) (hin : Tm.inn w B x sv) :
    Calls Try.prog 58 #[.map (some m), .agg #[.int .i64 x.kind, .string x.name, .int .i64 x.n, sv]] w fun e w' => BecPost (x.bnd σ) w e w' := by
  obtain ⟨_, g, cap, rfl, hcap, hlen, _⟩ := Tm.inn_iff.1 hin
  have hml := hM.lt
  have hfair := hσ.fairT hx
  obtain ⟨u, hu⟩ : ∃ u, x.bnd σ = u := ⟨_, rfl⟩
  have hcr := Tm.cut_right u
  have hcz := Tm.cut_size u (hu ▸ hfair) 3000
  have HM := Lib.hid hM
  have HX := Lib.hid hx
  have HIN := Lib.hid hin
  have HS := Lib.hid hσ
  have HD := Lib.hid hdom
  have HU := Lib.hid hu
  have HCR := Lib.hid hcr
  have HCZ := Lib.hid hcz
  rw [hu]
  clear hM hx hin hσ hdom hfair hu hcr hcz
  go_enter Try.func58, Try.ntmps58
  go_wp2_with fail
  have h5 := al5 w (.cells #[.map (some m)] 71) (.cells #[.int .i64 x.kind, .string x.name, .int .i64 x.n, .slice g x.args.length cap] 24) (.cells #[.int .i64 0, .string ⟨#[]⟩, .int .i64 0, .slice none 0 0] 24) (.cells #[.int .i64 3000] 3)
    (.cells #[.func (.func 76) #[] #[.pointer (some ⟨w.heap.size + 1 + 1 + 1, 0, none⟩), .pointer (some ⟨w.heap.size, 0, none⟩), .pointer (some ⟨w.heap.size + 1 + 1 + 1 + 1, 0, none⟩)]] 80)
  obtain ⟨hb5, k0, k2, k3, k4, hsz5⟩ := h5
  have hinn5 := Tm.inn_below HIN.out hb5 hB
  have hM5 := HM.out.next hb5 hB
  refine (bld_any l σ HS.out dom HD.out m n B (w.heap.size + 1 + 1 + 1) w.heap.size (w.heap.size + 1 + 1 + 1 + 1) ⟨by omega, by omega, by omega, by omega⟩ 3000 (Nat.le_refl _) x _ _ k3 ⟨k0, k4, hM5⟩ HX.out hinn5).mono ?_
  rintro e w6 ⟨gb, cb, rfl, hp, hg6, _⟩
  rw [HU.out] at hp ⊢
  obtain ⟨ub, hub⟩ : ∃ ub, (u.cut 3000).1 = ub := ⟨_, rfl⟩
  rw [hub] at hp ⊢
  have hcr := HCR.out
  have hcz := HCZ.out
  rw [hub] at hcr hcz
  have hs6 : w.heap.size + 5 ≤ w6.heap.size := by have := hg6.size; omega
  have hr6 : w6.heap[w.heap.size + 1 + 1]? = some (Obj.cells #[.int .i64 0, .string ⟨#[]⟩, .int .i64 0, .slice none 0 0] 24 (0, 0)) := (hg6.block _ (by omega) (by simp)).trans k2
  have hb6 : Below w.heap.size w w6 := below_grown hb5 hg6 (by omega)
  have hpi : Tm.innP w6 (fun b => w.heap.size + 5 ≤ b ∧ b < w6.heap.size) ub (.slice gb ub.args.length cb) := Tm.innP_same (fun b hb' => ⟨by have := hb'.1; omega, hb'.2⟩) (fun _ _ _ _ h => h) _ _ hp
  have hi6 : Tm.inn w6 w6.heap.size ub (.slice gb ub.args.length cb) := Tm.inn_of_P (fun b hb' => hb'.2) _ _ hpi
  have HPI := Lib.hid hpi
  have HI6 := Lib.hid hi6
  have HR6 := Lib.hid hr6
  have HB6 := Lib.hid hb6
  have HCR' := Lib.hid hcr
  have HCZ' := Lib.hid hcz
  clear hb5 k0 k2 k3 k4 hinn5 hM5 hp hg6 hub hcr hcz hr6 hb6 hpi hi6 hsz5 HCR HCZ HM
  go_wp2_with fail
  refine (tright_any ub _ _ (Tm.inn_mono (Tm.inn_below HI6.out ((Below.refl w6.heap.size w6).alloc (Nat.le_refl _) _) (Nat.le_refl _)) (by simp)) (by have := HCZ'.out; omega)).mono ?_
  rintro e w7 ⟨rfl, hb7⟩
  rw [HCR'.out.1]
  have hs7 : w6.heap.size + 1 ≤ w7.heap.size := by have := hb7.size; simpa using this
  have hr7 : w7.heap[w.heap.size + 1 + 1]? = some (Obj.cells #[.int .i64 0, .string ⟨#[]⟩, .int .i64 0, .slice none 0 0] 24 (0, 0)) := (hb7.block _ (by simp; omega)).trans ((Below.heap_alloc _ _ _ (by omega)).trans HR6.out)
  have hx7 : w7.heap[w6.heap.size]? = some (Obj.cells #[.int .i64 ub.kind, .string ub.name, .int .i64 ub.n, .slice gb ub.args.length cb] 24 (0, 0)) := (hb7.block _ (by simp)).trans (newBlk _ _ _ rfl)
  have hB7 : Below w6.heap.size w6 w7 := ((Below.refl _ _).alloc (Nat.le_refl _) _).trans (hb7.mono (by simp))
  obtain ⟨⟨c0, c1, c2, c3⟩, f0, f1, f2, f3⟩ := row4 hr7
  obtain ⟨⟨d0, d1, d2, d3⟩, _⟩ := row4 hx7
  have HB7 := Lib.hid hB7
  have HR7 := Lib.hid hr7
  clear hr7 hx7 hb7 hB7
  cases hq : u.right with
  | false =>
    have HQ := Lib.hid hq
    clear hq
    go_wp2_with fail
    refine bodyPost_ret (v := .tuple #[.agg #[.int .i64 0, .string ⟨#[]⟩, .int .i64 0, .slice none 0 0], .int .i64 3]) (by simp [results, Try.results58, go_sem, c0, c1, c2, c3]) rfl ?_
    exact ⟨set4_below (HB6.out.trans (HB7.out.mono (by omega))) (by omega) _ _ _ _, .inl ⟨HQ.out, rfl⟩⟩
  | true =>
    have HQ := Lib.hid hq
    obtain rfl := HCR'.out.2 hq
    clear hq
    go_wp2_with fail
    refine bodyPost_ret (v := .tuple #[.agg #[.int .i64 ub.kind, .string ub.name, .int .i64 ub.n, .slice gb ub.args.length cb], .int .i64 0]) (by simp [results, Try.results58, go_sem, c0, c1, c2, c3]) rfl ?_
    refine ⟨set4_below (HB6.out.trans (HB7.out.mono (by omega))) (by omega) _ _ _ _, .inr ⟨HQ.out, gb, cb, rfl, ?_⟩⟩
    refine Tm.innP_same (fun b hb' => ⟨by omega, by simp; omega⟩) (fun b o v hb' hc => ?_) _ _ HPI.out
    have hne : b ≠ w.heap.size + 1 + 1 := by have := hb'.1; omega
    exact (World.cell?_of_block (a := ⟨b, o, none⟩) ((set4_blk w7 _ _ _ _ hne).trans (HB7.out.block b hb'.2))).trans hc
end Go.Proofs.Ytjbicfimoiiglaa
