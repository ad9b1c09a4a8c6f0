/-
  slices.Delete of the last binds; the program's unbind.
  The program's unbind: a store goes back.
-/
import Derived.Test.YtgnbjhiafjpokaaSBind
import Derived.Maps.OwnSet
namespace Go.Proofs.Ytgnbjhiafjpokaa
open Go.RowKit Go.Shelf Go.Maps

theorem ownsRow_setCells {base g n cap : Nat} {e : TypeId} {size : Nat} {xs : List Value} : ∀ (vs : List Value) (o : Nat) (w : World), w.ownsRow base e size (.slice (some ⟨g, 0, none⟩) n cap) n xs → xs.length ≤ o → (w.setCells g o vs).ownsRow base e size (.slice (some ⟨g, 0, none⟩) n cap) n xs ∧ w.grownBy (w.setCells g o vs) (some g)
  | [], _, w, h, _ => ⟨h, ⟨rfl, rfl, rfl, Nat.le_refl _, fun _ _ _ => rfl⟩⟩
  | v :: vs, o, w, h, ho => by
    have h1 := h.stored o v
    rw [List.set_eq_of_length_le ho] at h1
    have h2 := ownsRow_setCells vs (o + 1) (w.setCell ⟨g, o, none⟩ v) h1.1 (by omega)
    exact ⟨h2.1, grown_trans h1.2 h2.2 (fun k e => .inl e)⟩
theorem ownsRow_take {w : World} {base g n cap i : Nat} {e : TypeId} {size : Nat} {xs : List Value} (h : w.ownsRow base e size (.slice (some ⟨g, 0, none⟩) n cap) n xs) (hi : i ≤ n) : w.ownsRow base e size (.slice (some ⟨g, 0, none⟩) i cap) i (xs.take (i * size)) := by
  have hmul : i * size ≤ n * size := Nat.mul_le_mul_right _ hi
  refine ⟨by rw [List.length_take, h.1]; omega, ?_⟩
  rcases h.2 with ⟨e1, _⟩ | ⟨g', cap', cur, e1, h1, h2, h3, h4, h5, h6⟩
  · cases e1
  · injection e1 with e1 e2 e3
    injection e1 with e1
    injection e1 with e1
    subst e1 e3
    refine .inr ⟨g, cap, cur, rfl, h1, h2, by omega, h4, h5, ?_⟩
    rw [← h6, List.take_take]
    congr 1
    omega
theorem run_clear_any {P : Program} (w : World) (t e ty : TypeId) (z : Value) (ht : P.underlying t = some (.slice e)) (hv : ∀ w, (zeroValue e).run P w = .ok z w) (b o n c : Nat) (hn : 0 < n) (vs : List Value) (hvs : (Builtin.zeroCells z.cells n).toList = vs) (h1 : ∀ v ∈ vs, v.oneCell' = true)
    (hc : ∀ j, j < vs.length → (w.cell? ⟨b, o + j, none⟩).isSome = true) (hf : ∀ j, j < vs.length → w.frozen? ⟨b, o + j, none⟩ = false) :
    (Builtin.clear_ #[t] ty #[.slice (some ⟨b, o, none⟩) n c]).run P w = .ok (.tuple #[]) (w.setCells b o vs) := by
  have hst := run_storeCells_cells (P := P) b o vs 0 w (by simpa using hc) (by simpa using hf) h1
  simp only [Nat.add_zero] at hst
  obtain ⟨m, rfl⟩ : ∃ m, n = m + 1 := ⟨n - 1, by omega⟩
  subst hvs
  simp [Builtin.clear_, run_underlying ht, hv, hst]
theorem Try.zeroBind (w : World) : (zeroValue 33).run Try.prog w = .ok (.agg #[.int .i64 0, .int .i64 0, .string ⟨#[]⟩, .int .i64 0, .slice none 0 0]) w := by kernel_rfl
def zeroB : Value := .agg #[.int .i64 0, .int .i64 0, .string ⟨#[]⟩, .int .i64 0, .slice none 0 0]
theorem zeroB_len (n : Nat) : (Builtin.zeroCells zeroB.cells n).toList.length = n * 5 := by
  have : zeroB.cells.size = 5 := rfl
  simp [Builtin.zeroCells, this]
theorem zeroB_one (n : Nat) : ∀ v ∈ (Builtin.zeroCells zeroB.cells n).toList, v.oneCell' = true := by
  intro v hv
  have h5 : zeroB.cells.size = 5 := rfl
  simp only [Builtin.zeroCells, Array.toList_map, List.mem_map] at hv
  obtain ⟨i, _, rfl⟩ := hv
  rw [h5]
  have hi : i % 5 < 5 := Nat.mod_lt _ (by decide)
  have : i % 5 = 0 ∨ i % 5 = 1 ∨ i % 5 = 2 ∨ i % 5 = 3 ∨ i % 5 = 4 := by omega
  rcases this with e | e | e | e | e <;> rw [e] <;> rfl
theorem grown_undrew {w w' : World} {r : Option Nat} (h : w.drew.grownBy w' r) : w.grownBy w' r := ⟨h.os, h.tape, h.output, h.size, h.block⟩
/-- append of nothing. -/
theorem step_append_zero {w : World} {ops : Array Oper} {o : Oper} {a : Act} {K : Act → World → Prop} {Q : Exit → Act → World → Prop} {E : Prop} (hgd : o.guard = none) (s x : Operand)
    (ho : o.op = .call { callee := .builtin .append, args := #[s, x], argTypes := #[22, 22] })
    (base g n c : Nat) (xs : List Value) (hs : a.eval s = .slice (some ⟨g, 0, none⟩) n c) (hown : w.ownsRow base 33 5 (.slice (some ⟨g, 0, none⟩) n c) n xs) (hnc : n ≤ c)
    (ad : Option Addr) (m c' : Nat) (hx : a.eval x = .slice ad m c') (hm : m = 0)
    (h : ∀ w', w'.ownsRow base 33 5 (.slice (some ⟨g, 0, none⟩) n c) n xs → w.grownBy w' (some g) → K (a.put o.dst (.slice (some ⟨g, 0, none⟩) n c)) w') :
    if Region.wanted o (yielded ops a.tmps) = true then Oper.wp Try.prog o a w K Q else E := by
  have hw : Region.wanted o (yielded ops a.tmps) = true := by simp [Region.wanted, hgd]
  rw [if_pos hw]
  obtain ⟨i0, hi, hz0, hz1, hz2⟩ := info_parts Try.infoBd
  subst hm
  obtain ⟨w', hr, h2, h3⟩ : ∃ w', (Builtin.append_ #[22, 22] o.type #[.slice (some ⟨g, 0, none⟩) n c, .slice ad 0 c']).run Try.prog w = .ok (.slice (some ⟨g, 0, none⟩) n c) w' ∧ w'.ownsRow base 33 5 (.slice (some ⟨g, 0, none⟩) n c) n xs ∧ w.grownBy w' (some g) := by
    cases ad with
    | none => exact ⟨w, by simp [Builtin.append_, run_underlying Try.underlying22, sizeOf, typeInfo, hi, Builtin.lenOf, Builtin.firstCells, hnc, storeCells], hown, ⟨rfl, rfl, rfl, Nat.le_refl _, fun _ _ _ => rfl⟩⟩
    | some ad =>
      obtain ⟨w', hr, h2, h3⟩ := run_append_fits (P := Try.prog) w base 22 o.type 33 i0 5 Try.underlying22 hi hz1 g n c xs hown ad 0 c' [] rfl (fun j u hu => by simp at hu) (fun u hu => by cases hu) hnc
      exact ⟨w', hr, by simpa using h2, h3⟩
  unfold Oper.wp execOp
  simp only [ho, resolve, invoke, builtin, Sem.run_bind, Sem.run_pure, Result.andThen_ok, List.map_toArray, List.map_cons, List.map_nil, hs, hx, hr]
  exact h w' h2 h3
theorem ownsRow_room {w : World} {base g n cap : Nat} {e : TypeId} {size : Nat} {xs : List Value} (h : w.ownsRow base e size (.slice (some ⟨g, 0, none⟩) n cap) n xs) : ∀ j, j < cap * size → (w.cell? ⟨g, j, none⟩).isSome = true ∧ w.frozen? ⟨g, j, none⟩ = false := by
  rcases h.2 with ⟨e1, _⟩ | ⟨g', cap', cur, e1, h1, h2, h3, h4, h5, h6⟩
  · cases e1
  · injection e1 with e1 e2 e3
    injection e1 with e1
    injection e1 with e1
    subst e1 e3
    intro j hj
    have hj' : j < cur.size := by omega
    simp [World.cell?, World.frozen?, h2, hj']
/-- The last elements are cleared. -/
theorem run_clear_tail {w : World} {base g i n c : Nat} {xs : List Value} (h : w.ownsRow base 33 5 (.slice (some ⟨g, 0, none⟩) i c) i xs) (hin : i < n) (hnc : n ≤ c) (c' : Nat) (ty : TypeId) :
    (Builtin.clear_ #[22] ty #[.slice (some ⟨g, i * 5, none⟩) (n - i) c']).run Try.prog w = .ok (.tuple #[]) (w.setCells g (i * 5) (Builtin.zeroCells zeroB.cells (n - i)).toList) := by
  have hr := ownsRow_room h
  have hl := zeroB_len (n - i)
  refine run_clear_any w 22 33 ty zeroB Try.underlying22 Try.zeroBind g (i * 5) (n - i) c' (by omega) _ rfl (zeroB_one _) (fun j hj => (hr _ ?_).1) (fun j hj => (hr _ ?_).2)
  all_goals rw [hl] at hj; omega
def DelPost (w : World) (base g i c : Nat) (xs : List Value) (e : Ending) (w' : World) : Prop :=
  e = .returned (.slice (some ⟨g, 0, none⟩) i c) ∧ w'.ownsRow base 33 5 (.slice (some ⟨g, 0, none⟩) i c) i (xs.take (i * 5)) ∧ w.grownBy w' (some g)
set_option maxRecDepth 100000 in
set_option maxHeartbeats 4000000 in
theorem delete_any {w : World} {base g i n c : Nat} {xs : List Value} (h : w.ownsRow base 33 5 (.slice (some ⟨g, 0, none⟩) n c) n xs) (hnc : n ≤ c) (hi : i ≤ n) (_hcc : c ≤ 9223372036854775807) :
    Calls Try.prog 90 #[.slice (some ⟨g, 0, none⟩) n c, .int .i64 (i : Nat), .int .i64 (n : Nat)] w fun e w' => DelPost w base g i c xs e w' := by
  have hrow := ownsRow_take h hi
  have HROW := Lib.hid hrow
  have hi0 : (0 : Int) ≤ (i : Int) := by omega
  have hi1 : (i : Int) ≤ (n : Int) := by omega
  have hi2 : (n : Int) ≤ (c : Int) := by omega
  by_cases hin : i = n
  · have hfin : DelPost w base g i c xs (.returned (.slice (some ⟨g, 0, none⟩) n c)) w := ⟨by rw [hin], hrow, ⟨rfl, rfl, rfl, Nat.le_refl _, fun _ _ _ => rfl⟩⟩
    have HFIN := Lib.hid hfin
    clear hfin hrow h
    subst hin
    go_enter Try.func90, Try.ntmps90
    go_wp2_with fail
    refine bodyPost_ret (v := .slice (some ⟨g, 0, none⟩) i c) (by simp [results, Try.results90, go_sem]) rfl ?_
    exact HFIN.out
  · have hlt : i < n := by omega
    have hb : ((i : Int) == (n : Int)) = false := by simp; omega
    have hi3 : (i : Int) ≤ (c : Int) := by omega
    have hi4 : (0 : Int) ≤ (n : Int) := by omega
    have hi5 : (n : Int) ≤ (n : Int) := by omega
    clear hrow h hin
    go_enter Try.func90, Try.ntmps90
    go_wp2_with fail
    have hin' : ¬ c = i := by omega
    rcases Nat.lt_or_ge n c with hcn | hcn
    · skip
      go_region_law ((refine step_append_zero (by rfl) _ _ (by rfl) base g i c (xs.take (i * 5)) (by rfl) (by first | exact HROW.out) (by omega) _ _ _ (by rfl) (by omega) ?_; intro w1 hown1 hgrow1))
      all_goals have hcl := fun (c' : Nat) (ty : TypeId) => run_clear_tail hown1 (n := n) hlt (by omega) c' ty
      all_goals have hfin := fun vs => ownsRow_setCells vs (i * 5) w1 hown1 (by rw [List.length_take]; omega)
      all_goals have hg := fun vs => grown_trans hgrow1 (hfin vs).2 (fun k e => Or.inl e)
      all_goals have HFIN := Lib.hid (And.intro (fun vs => (hfin vs).1) hg)
      all_goals clear hfin hg hgrow1 hown1
      all_goals go_wp2_with fail
      all_goals go_ret
      all_goals exact ⟨rfl, HFIN.out.1 _, grown_undrew (HFIN.out.2 _)⟩
    · obtain rfl : c = n := by omega
      go_region_law ((refine step_append_zero (by rfl) _ _ (by rfl) base g i c (xs.take (i * 5)) (by rfl) (by first | exact HROW.out) (by omega) _ _ _ (by rfl) (by omega) ?_; intro w1 hown1 hgrow1))
      all_goals have hcl := fun (c' : Nat) (ty : TypeId) => run_clear_tail hown1 (n := c) hlt (by omega) c' ty
      all_goals have hfin := fun vs => ownsRow_setCells vs (i * 5) w1 hown1 (by rw [List.length_take]; omega)
      all_goals have hg := fun vs => grown_trans hgrow1 (hfin vs).2 (fun k e => Or.inl e)
      all_goals have HFIN := Lib.hid (And.intro (fun vs => (hfin vs).1) hg)
      all_goals clear hfin hg hgrow1 hown1
      all_goals go_wp2_with fail
      all_goals go_ret
      all_goals exact ⟨rfl, HFIN.out.1 _, grown_undrew (HFIN.out.2 _)⟩
theorem cellsB_take {w : World} {ok : Nat → Prop} : ∀ (l : List Bd) (xs : List Value) (i : Nat), cellsB w ok l xs → cellsB w ok (l.take i) (xs.take (i * 5))
  | [], xs, i, h => by
    simp only [cellsB] at h
    subst h
    simp [cellsB]
  | x :: r, xs, 0, h => by simp [cellsB]
  | x :: r, xs, i + 1, ⟨sv, xs', h1, h2, h3⟩ => by
    refine ⟨sv, xs'.take (i * 5), ?_, h2, cellsB_take r xs' i h3⟩
    rw [h1, show (i + 1) * 5 = i * 5 + 5 by omega]
    rfl
/-- Where the variables are, when some of the last have been struck. -/
def fdel (l : List Bd) (i k : Nat) (v : Int) : Option Nat := if v ∈ vsB ((l.drop i).take k) then none else place l v
theorem fdel_zero (l : List Bd) (i : Nat) (v : Int) : fdel l i 0 v = place l v := by simp [fdel, vsB]
theorem fdel_succ {l : List Bd} {i k : Nat} (hk : i + k < l.length) (v : Int) : fdel l i (k + 1) v = if v = l[i + k].v then none else fdel l i k v := by
  have hk' : k < (l.drop i).length := by rw [List.length_drop]; omega
  have e : vsB ((l.drop i).take (k + 1)) = vsB ((l.drop i).take k) ++ [l[i + k].v] := by
    rw [List.take_succ_eq_append_getElem hk', vsB, List.map_append]
    simp [vsB]
  unfold fdel
  rw [e]
  by_cases h1 : v = l[i + k].v
  · simp [h1]
  · by_cases h2 : v ∈ vsB ((l.drop i).take k) <;> simp [h1, h2]
theorem fdel_all {l : List Bd} (hl : okL l) {i : Nat} (hi : i ≤ l.length) (v : Int) : fdel l i (l.length - i) v = place (l.take i) v := by
  have htk : (l.drop i).take (l.length - i) = l.drop i := List.take_of_length_le (by rw [List.length_drop]; exact Nat.le_refl _)
  unfold fdel
  rw [htk]
  have hsplit : l.take i ++ l.drop i = l := List.take_append_drop i l
  have hp := place_app (l.take i) (l.drop i) v
  rw [hsplit] at hp
  cases h1 : place (l.take i) v with
  | some p =>
    obtain ⟨hpl, hpv, _⟩ := place_some h1
    rw [h1] at hp
    have hno : ¬ v ∈ vsB (l.drop i) := fun hm => by
      obtain ⟨b, hb, e⟩ := List.mem_map.1 hm
      obtain ⟨j, hj, rfl⟩ := List.getElem_of_mem hb
      have hj2 : i + j < l.length := by rw [List.length_drop] at hj; omega
      have h3 := (hl (i + j) hj2).2.2.1
      rw [List.getElem_drop] at e
      rw [e, hp] at h3
      simp at h3
      rw [List.length_take] at hpl
      omega
    rw [if_neg hno, hp]
  | none =>
    rw [h1] at hp
    by_cases hm : v ∈ vsB (l.drop i)
    · rw [if_pos hm]
    · rw [if_neg hm, hp]
      have : place (l.drop i) v = none := place_none.2 fun b hb e => hm (List.mem_map.2 ⟨b, hb, e⟩)
      rw [this]; rfl
theorem MapF.del {W' : World} {m K : Nat} {f : Int → Option Nat} {D : DataW Unit} {u : Int} (h : ∀ v, (∀ i, f v = some i → has D (.int .i64 v) = true ∧ D.atKey (.int .i64 v) (.lit (.int .i64 0)) = .lit (.int .i64 (i : Int))) ∧ (f v = none → has D (.int .i64 v) = false))
    (hw : W'.ownsMap Try.prog 3 (plainElem (H := Unit) Try.prog 3) m K (D.del (.int .i64 u))) : MapF W' m K (fun v => if v = u then none else f v) := by
  refine ⟨_, hw, fun v => ?_⟩
  by_cases e : v = u
  · subst e
    simp only [if_true]
    exact ⟨(fun i h => by cases h), fun _ => has_del_same⟩
  · have hne : Lit.int .i64 v ≠ .int .i64 u := by simpa using e
    simp only [if_neg e]
    rw [has_del_other hne, atKey_del_other hne]
    exact h v
/-- What stands while the map is cleared of the last binds. -/
structure UIt (W : World) (m K i k : Nat) (l : List Bd) (wr : World) : Prop where
  gr : W.grownBy wr (some m)
  map : MapF wr m K (fdel l i k)
def UnbPost (W : World) (B sb : Nat) (l : List Bd) (K i : Nat) (svS mv : Value) (e : Ending) (W' : World) : Prop :=
  e = .returned (.tuple #[]) ∧ ∃ svS' xs', SMem W' B sb (l.take i) K svS' mv xs' ∧ SFr B sb svS mv svS' mv W W'
/-- The store when the row has been cut. -/
theorem SMem.cut {W wr w5 : World} {B sb m K i g c : Nat} {l : List Bd} {xs : List Value} (h : SMem W B sb l K (.slice (some ⟨g, 0, none⟩) l.length c) (.map (some m)) xs) (hi : i ≤ l.length) (hit : UIt W m K i (l.length - i) l wr) (hrow : w5.ownsRow B 33 5 (.slice (some ⟨g, 0, none⟩) i c) i (xs.take (i * 5))) (hg : wr.grownBy w5 (some g)) :
    SMem (w5.setCell ⟨sb, 0, none⟩ (.slice (some ⟨g, 0, none⟩) i c)) B sb (l.take i) K (.slice (some ⟨g, 0, none⟩) i c) (.map (some m)) (xs.take (i * 5)) ∧ SFr B sb (.slice (some ⟨g, 0, none⟩) l.length c) (.map (some m)) (.slice (some ⟨g, 0, none⟩) i c) (.map (some m)) W (w5.setCell ⟨sb, 0, none⟩ (.slice (some ⟨g, 0, none⟩) i c)) := by
  have hlow := h.low
  have hlo := h.lo
  obtain ⟨hBm, hgm, hms⟩ : B ≤ m ∧ g ≠ m ∧ m ≠ sb := by
    rcases h.map with ⟨e, _⟩ | ⟨m', e, _, h1, h2, h3⟩
    · cases e
    · injection e with e
      injection e with e
      subst e
      exact ⟨h1, fun e => h2 (by rw [← e]; rfl), h3⟩
  have hgl := h.row.lt g rfl
  have hgs : g ≠ sb := fun e => h.sep (by rw [← e]; rfl)
  have hml := hlow.map m rfl
  have hsl := hlow.box
  have hs1 := hit.gr.size
  have hs2 := hg.size
  have hch : ∀ b, b < W.heap.size → b ≠ m → b ≠ g → w5.heap[b]? = W.heap[b]? := fun b hb h1 h2 => (hg.block b (by omega) (fun e => h2 (Option.some.inj e))).trans (hit.gr.block b hb (fun e => h1 (Option.some.inj e)))
  have hset : ∀ b, b ≠ sb → (w5.setCell ⟨sb, 0, none⟩ (.slice (some ⟨g, 0, none⟩) i c)).heap[b]? = w5.heap[b]? := fun b hb => Below.heap_setCell _ _ _ _ hb
  have hBc : ∀ b o v, b < B → W.cell? ⟨b, o, none⟩ = some v → (w5.setCell ⟨sb, 0, none⟩ (.slice (some ⟨g, 0, none⟩) i c)).cell? ⟨b, o, none⟩ = some v := fun b o v hlt hc =>
    (World.cell?_of_block (a := ⟨b, o, none⟩) ((hset b (by omega)).trans (hch b (by omega) (by omega) (by omega)))).trans hc
  have hlen : (l.take i).length = i := by rw [List.length_take]; omega
  refine ⟨⟨row2f ((hch sb hsl (fun e => hms e.symm) (fun e => hgs e.symm)).trans h.box) _, ?_, cellsB_take l xs i (cellsB_same (fun _ h => h) hBc _ _ h.cells), .inr ⟨m, rfl, ?_, hBm, fun e => hgm (Option.some.inj e), hms⟩, hlo, fun e => hgs (Option.some.inj e), ?_, by rw [hlen]; have := h.len; omega⟩, ⟨hg.os.trans hit.gr.os, hg.tape.trans hit.gr.tape, hg.output.trans hit.gr.output, by simp; omega, fun b hb hn => (hset b (fun e => hn (.inl e))).trans (hch b hb (fun e => hn (.inr (.inr (by rw [e])))) (fun e => hn (.inr (.inl (by rw [e]; rfl))))), fun b hb hn ho => ?_⟩⟩
  · rw [hlen]
    exact ownsRow_block hrow fun b e => hset b (fun e' => hgs ((Option.some.inj e).trans e'))
  · exact (hit.map.of_block ((hset m hms).trans (hg.block m (by omega) (fun e => hgm (Option.some.inj e).symm)))).congr fun v => fdel_all h.ok hi v
  · have h1 := okL_take (l := []) (bs := l) (by rw [List.nil_append]; exact h.ok) i
    rw [List.nil_append] at h1
    exact h1
  · rcases ho with e | e | e
    · exact hn (.inl e)
    · exact hn (.inr (.inl e))
    · exact hn (.inr (.inr e))
end Go.Proofs.Ytgnbjhiafjpokaa

namespace Go.Proofs.Ytgnbjhiafjpokaa
open Go.RowKit Go.Shelf Go.Maps

set_option maxRecDepth 100000 in
set_option maxHeartbeats 4000000 in
theorem delete_nil (w : World) : Calls Try.prog 90 #[.slice none 0 0, .int .i64 0, .int .i64 0] w fun e w' => e = .returned (.slice none 0 0) ∧ w = w' := by
  go_enter Try.func90, Try.ntmps90
  go_wp2_with fail
  refine bodyPost_ret (v := .slice none 0 0) (by simp [results, Try.results90, go_sem]) rfl ?_
  exact ⟨rfl, rfl⟩
set_option maxRecDepth 100000 in
set_option maxHeartbeats 4000000 in
theorem unbind_some {W : World} {B sb m K i g c : Nat} {l : List Bd} {xs : List Value} (h : SMem W B sb l K (.slice (some ⟨g, 0, none⟩) l.length c) (.map (some m)) xs) (hi : i ≤ l.length) (hcc : c ≤ 9223372036854775807) (hlc : l.length ≤ c) :
    Calls Try.prog 67 #[.pointer (some ⟨sb, 0, none⟩), .int .i64 (i : Nat)] W fun e W' => UnbPost W B sb l K i (.slice (some ⟨g, 0, none⟩) l.length c) (.map (some m)) e W' := by
  obtain ⟨⟨c0, c1⟩, f0, f1⟩ := row2 h.box
  have hbl := h.low.box
  have hml := h.low.map m rfl
  have hlen := h.len
  obtain ⟨hgm, hms⟩ : g ≠ m ∧ m ≠ sb := by
    rcases h.map with ⟨e, _⟩ | ⟨m', e, _, h1, h2, h3⟩
    · cases e
    · injection e with e
      injection e with e
      subst e
      exact ⟨fun e => h2 (by rw [← e]; rfl), h3⟩
  have hgl := h.row.lt g rfl
  have hgs : g ≠ sb := fun e => h.sep (by rw [← e]; rfl)
  have hmap0 : MapF W m K (place l) := by
    rcases h.map with ⟨e, _⟩ | ⟨m', e, h1, _⟩
    · cases e
    · injection e with e
      injection e with e
      rw [e]; exact h1
  obtain ⟨n, hn⟩ : ∃ n, l.length = n := ⟨_, rfl⟩
  have HS := Lib.hid h
  have HN := Lib.hid hn
  have HM0 := Lib.hid hmap0
  have HGM := Lib.hid (And.intro hgm (And.intro hms (And.intro hgs hgl)))
  rw [hn] at c0 hi hlc hlen
  have hi0 : (0 : Int) ≤ (i : Int) := by omega
  have hi1 : (i : Int) ≤ (n : Int) := by omega
  have hi2 : (n : Int) ≤ (c : Int) := by omega
  have hi3 : (i : Int) ≤ (c : Int) := by omega
  clear h hmap0 hgm hms hgs hgl hn
  have key : ∀ a : Addr, (i < n → a = ⟨g, i * 5, none⟩) → True := fun _ _ => trivial
  clear key
  by_cases hci : c = i
  · obtain rfl : i = c := hci.symm
    obtain rfl : i = n := by omega
    go_enter Try.func67, Try.ntmps67
    go_wp2_with fail
    go_loopw [13] (fun ii wr => ∃ k : Nat, k ≤ i - i ∧ ii = .int .i64 (k : Nat) ∧ Hid (UIt W m K i k l wr)) (fun ii _ => (i - i) - (intOf ii).toNat)
    case atStart => exact ⟨0, Nat.zero_le _, rfl, ⟨⟨rfl, rfl, rfl, Nat.le_refl _, fun _ _ _ => rfl⟩, HM0.out.congr fun v => (fdel_zero l i v).symm⟩⟩
    case round =>
      obtain ⟨k, hk, rfl, hit⟩ := hrel
      obtain rfl : k = i - i := by omega
      have HIT := Lib.hid hit.out
      clear hit
      have hit := HIT.out
      have hwr := hit.gr.size
      have hrow : wr.ownsRow B 33 5 (.slice (some ⟨g, 0, none⟩) i i) i xs := by
        have h0 := HS.out.row
        rw [HN.out] at h0
        refine ownsRow_block h0 fun b e => hit.gr.block b (h0.lt b e).2 (fun e' => HGM.out.1 ?_)
        have h1 : g = b := Option.some.inj e
        have h2 : b = m := Option.some.inj e'
        omega
      have hsb : wr.heap[sb]? = W.heap[sb]? := hit.gr.block sb hbl (fun e => HGM.out.2.1 (Option.some.inj e).symm)
      have s0 := (World.cell?_of_block (a := ⟨sb, 0, none⟩) hsb).trans c0
      have hdel := delete_any (w := wr.drew) (i := i) (n := i) hrow hlc hi hcc
      have hfin : ∀ w5 : World, w5.ownsRow B 33 5 (.slice (some ⟨g, 0, none⟩) i i) i (xs.take (i * 5)) → wr.drew.grownBy w5 (some g) → UnbPost W B sb l K i (.slice (some ⟨g, 0, none⟩) l.length i) (.map (some m)) (.returned (.tuple #[])) (w5.setCell ⟨sb, 0, none⟩ (.slice (some ⟨g, 0, none⟩) i i)) := fun w5 h1 h2 => by
        have hn := HN.out
        subst hn
        have h3 := HS.out.cut (by omega) hit h1 (grown_undrew h2)
        exact ⟨rfl, _, _, h3.1, h3.2⟩
      have hbx5 : ∀ w5 : World, wr.drew.grownBy w5 (some g) → w5.heap[sb]? = some (.cells #[.slice (some ⟨g, 0, none⟩) l.length i, .map (some m)] 95 (0, 0)) := fun w5 h1 =>
        (h1.block sb (by show sb < wr.heap.size; omega) (fun e => HGM.out.2.2.1 (Option.some.inj e).symm)).trans (hsb.trans HS.out.box)
      have HDEL := Lib.hid hdel
      have HFIN := Lib.hid hfin
      have HBX := Lib.hid hbx5
      clear hdel hfin hbx5 hrow hit hsb
      go_wp2_with fail
      go_region_law ((refine step_open (by rfl) ?_; go_simp; go_at_call 90; refine HDEL.out.mono ?_; rintro e w5 ⟨rfl, hown5, hg5⟩; obtain ⟨⟨z0, z1⟩, zf0, zf1⟩ := row2 (HBX.out w5 hg5)))
      all_goals go_wp2_with fail
      all_goals (try simp only [Exit.inBlock, Exit.then])
      all_goals refine bodyPost_ret (results_none rfl _ _ _) rfl ?_
      all_goals exact HFIN.out w5 hown5 hg5
  · go_enter Try.func67, Try.ntmps67
    go_wp2_with fail
    go_loopw [13] (fun ii wr => ∃ k : Nat, k ≤ n - i ∧ ii = .int .i64 (k : Nat) ∧ Hid (UIt W m K i k l wr)) (fun ii _ => (n - i) - (intOf ii).toNat)
    case atStart => exact ⟨0, Nat.zero_le _, rfl, ⟨⟨rfl, rfl, rfl, Nat.le_refl _, fun _ _ _ => rfl⟩, HM0.out.congr fun v => (fdel_zero l i v).symm⟩⟩
    case round =>
      obtain ⟨k, hk, rfl, hit⟩ := hrel
      have HIT := Lib.hid hit.out
      clear hit
      by_cases hkl : k < n - i
      · have hik : i + k < l.length := by have := HN.out; omega
        have hwr := HIT.out.gr.size
        have hchg : ∀ b, b < W.heap.size → b ≠ m → wr.heap[b]? = W.heap[b]? := fun b hb hne => HIT.out.gr.block b hb (fun e => hne (Option.some.inj e))
        obtain ⟨g', c', sv, e1, _, _, g0, g1, g2, g3, g4, hin⟩ := HS.out.get (i + k) hik
        injection e1 with e1 e2 e3
        injection e1 with e1
        injection e1 with e1
        subst e1
        obtain ⟨ga, ca, rfl⟩ := inn_sl hin
        have hgb : wr.heap[g]? = W.heap[g]? := hchg g HGM.out.2.2.2.2 HGM.out.1
        obtain ⟨x, hx⟩ : ∃ x, l[i + k] = x := ⟨_, rfl⟩
        rw [hx] at g0 g1 g2 g3 g4
        rw [Nat.add_mul] at g0 g1 g2 g3 g4
        have k0 := (World.cell?_of_block (a := ⟨g, i * 5 + k * 5, none⟩) hgb).trans g0
        have k1 := (World.cell?_of_block (a := ⟨g, i * 5 + k * 5 + 1, none⟩) hgb).trans g1
        have k2 := (World.cell?_of_block (a := ⟨g, i * 5 + k * 5 + 2, none⟩) hgb).trans g2
        have k3 := (World.cell?_of_block (a := ⟨g, i * 5 + k * 5 + 3, none⟩) hgb).trans g3
        have k4 := (World.cell?_of_block (a := ⟨g, i * 5 + k * 5 + 4, none⟩) hgb).trans g4
        have hok := HS.out.ok (i + k) hik
        rw [hx] at hok
        have hxw : (Lit.int .i64 x.v).wf = true := WalkArith.wf_i64 (by omega)
        have hsb : wr.heap[sb]? = W.heap[sb]? := hchg sb hbl (fun e => HGM.out.2.1 e.symm)
        have s0 := (World.cell?_of_block (a := ⟨sb, 0, none⟩) hsb).trans c0
        have s1 := (World.cell?_of_block (a := ⟨sb, 1, none⟩) hsb).trans c1
        have HX := Lib.hid hx
        have HXW := Lib.hid hxw
        have hk0 : (0 : Int) ≤ (k : Int) := by omega
        have hk1 : (k : Int) < ((n - i : Nat) : Int) := by omega
        obtain ⟨W1, hW1⟩ : ∃ W1, wr.alloc (.cells #[.int .i64 x.v, .int .i64 x.t.kind, .string x.t.name, .int .i64 x.t.n, .slice ga x.t.args.length ca] 33) = W1 := ⟨_, rfl⟩
        have HW1 := Lib.hid hW1
        have hslw : sb < wr.heap.size := by omega
        clear g0 g1 g2 g3 g4 hin hx hxw hok hsb hgb hW1 hchg e2 e3
        go_upto_region 3 with fail
        rw [HW1.out]
        have hbw1 : Below wr.heap.size wr W1 := by rw [← HW1.out]; exact (Below.refl _ _).alloc (Nat.le_refl _) _
        obtain ⟨⟨d0, d1, d2, d3, d4⟩, _⟩ := row5 (show W1.heap[wr.heap.size]? = some (Obj.cells #[.int .i64 x.v, .int .i64 x.t.kind, .string x.t.name, .int .i64 x.t.n, .slice ga x.t.args.length ca] 33 (0, 0)) by rw [← HW1.out]; exact newBlk _ _ _ rfl)
        have e1 : W1.cell? ⟨sb, 1, none⟩ = some (.map (some m)) := (hbw1.cell (p := ⟨sb, 1, none⟩) hslw).trans s1
        obtain ⟨D, hD1, hD2⟩ := HIT.out.map.of_block (hbw1.block m (by omega))
        have HD1 := Lib.hid hD1
        have HD2 := Lib.hid hD2
        have HBW := Lib.hid hbw1
        clear hD1 hD2 hbw1 s0 s1 k0 k1 k2 k3 k4
        go_still_tail 6, (by kernel_rfl)
        go_wp2_with (at_delete; refine wpList_delete_own _ rfl _ _ 93 3 rfl 3 (Maps.int_keyed Try.underlying3) Try.underlying93 _ m K D rfl HD1.out _ _ rfl (Maps.keyOf_int_mk Try.underlying3 HXW.out) ?_; intro w3 hown3 hturn3)
        have hg3 := hturn3.grown
        have hit3 : UIt W m K i (k + 1) l w3 := by
          refine ⟨grown_trans HIT.out.gr (grown_trans (grownBy_none HBW.out _) (grown_undrew hg3) (fun j e => .inl e)) (fun j e => .inl e), (MapF.del HD2.out hown3).congr fun v => ?_⟩
          rw [fdel_succ hik, HX.out]
        have HIT3 := Lib.hid hit3
        clear hit3 hg3 hturn3 hown3
        go_roundw
        case rel => exact ⟨k + 1, by omega, by go_num, HIT3.out⟩
        case measure => simp [intOf]; omega
      · have hkn : k = n - i := by omega
        subst hkn
        have hit := HIT.out
        have hwr := hit.gr.size
        have hrow : wr.ownsRow B 33 5 (.slice (some ⟨g, 0, none⟩) n c) n xs := by
          have h0 := HS.out.row
          rw [HN.out] at h0
          refine ownsRow_block h0 fun b e => hit.gr.block b (h0.lt b e).2 (fun e' => HGM.out.1 ?_)
          have h1 : g = b := Option.some.inj e
          have h2 : b = m := Option.some.inj e'
          omega
        have hsb : wr.heap[sb]? = W.heap[sb]? := hit.gr.block sb hbl (fun e => HGM.out.2.1 (Option.some.inj e).symm)
        have s0 := (World.cell?_of_block (a := ⟨sb, 0, none⟩) hsb).trans c0
        have hdel := delete_any (w := wr.drew) (i := i) (n := n) hrow hlc hi hcc
        have hfin : ∀ w5 : World, w5.ownsRow B 33 5 (.slice (some ⟨g, 0, none⟩) i c) i (xs.take (i * 5)) → wr.drew.grownBy w5 (some g) → UnbPost W B sb l K i (.slice (some ⟨g, 0, none⟩) l.length c) (.map (some m)) (.returned (.tuple #[])) (w5.setCell ⟨sb, 0, none⟩ (.slice (some ⟨g, 0, none⟩) i c)) := fun w5 h1 h2 => by
          have hn := HN.out
          subst hn
          have h3 := HS.out.cut hi hit h1 (grown_undrew h2)
          exact ⟨rfl, _, _, h3.1, h3.2⟩
        have hbx5 : ∀ w5 : World, wr.drew.grownBy w5 (some g) → w5.heap[sb]? = some (.cells #[.slice (some ⟨g, 0, none⟩) l.length c, .map (some m)] 95 (0, 0)) := fun w5 h1 =>
          (h1.block sb (by show sb < wr.heap.size; omega) (fun e => HGM.out.2.2.1 (Option.some.inj e).symm)).trans (hsb.trans HS.out.box)
        have HDEL := Lib.hid hdel
        have HFIN := Lib.hid hfin
        have HBX := Lib.hid hbx5
        clear hdel hfin hbx5 hrow hit hsb
        go_wp2_with fail
        go_region_law ((refine step_open (by rfl) ?_; go_simp; go_at_call 90; refine HDEL.out.mono ?_; rintro e w5 ⟨rfl, hown5, hg5⟩; obtain ⟨⟨z0, z1⟩, zf0, zf1⟩ := row2 (HBX.out w5 hg5)))
        all_goals go_wp2_with fail
        all_goals (try simp only [Exit.inBlock, Exit.then])
        all_goals refine bodyPost_ret (results_none rfl _ _ _) rfl ?_
        all_goals exact HFIN.out w5 hown5 hg5
end Go.Proofs.Ytgnbjhiafjpokaa
