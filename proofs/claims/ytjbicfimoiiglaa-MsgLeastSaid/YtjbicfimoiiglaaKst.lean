/-
  What the program's inOrder keeps in memory: for how many places each one waits, and which wait for each.
-/
import Derived.Test.YtjbicfimoiiglaaPlc
import Derived.Test.YtjbicfimoiiglaaBld
import Derived.Deep.OwnRows
namespace Go.Proofs.Ytjbicfimoiiglaa
open Go.RowKit Go.Shelf Go.Maps

theorem Try.infoInts : (Try.prog.info? 58).map (fun i => (i.zero, i.size, i.bytes)) = some (some (.slice none 0 0), 1, 24) := by kernel_rfl
def nums (l : List Nat) : List Int := l.map fun (i : Nat) => (i : Int)
theorem nums_length (l : List Nat) : (nums l).length = l.length := by simp [nums]
theorem nums_snoc (l : List Nat) (i : Nat) : nums (l ++ [i]) = nums l ++ [(i : Int)] := by simp [nums]

structure KSt (W : World) (lo n Wb Hb : Nat) (wt : Nat → Nat) (sv : Nat → Value) (bh : Nat → List Nat) : Prop where
  waits : W.rowIs Wb 3 n (fun i => .int .i64 (wt i : Nat))
  heads : W.rowIs Hb 58 n sv
  own : ∀ k, k < n → ownInts W lo (sv k) (nums (bh k))
  apart : ∀ i j, i < n → j < n → i ≠ j → ∀ b, (sv i).ownBlock = some b → (sv j).ownBlock ≠ some b
  awayW : ∀ k, k < n → (sv k).ownBlock ≠ some Wb
  awayH : ∀ k, k < n → (sv k).ownBlock ≠ some Hb
  ne : Wb ≠ Hb
  loW : lo ≤ Wb
  loH : lo ≤ Hb
theorem KSt.of_blocks {W W' : World} {lo n Wb Hb : Nat} {wt : Nat → Nat} {sv : Nat → Value} {bh : Nat → List Nat} (h : KSt W lo n Wb Hb wt sv bh) (_hs : W.heap.size ≤ W'.heap.size) (hb : ∀ b, (b = Wb ∨ b = Hb ∨ ∃ k, k < n ∧ (sv k).ownBlock = some b) → W'.heap[b]? = W.heap[b]?) : KSt W' lo n Wb Hb wt sv bh := by
  refine ⟨h.waits.of_block (hb _ (.inl rfl)), h.heads.of_block (hb _ (.inr (.inl rfl))), fun k hk => ?_, h.apart, h.awayW, h.awayH, h.ne, h.loW, h.loH⟩
  have ho := h.own k hk
  refine ⟨ho.1, ?_⟩
  rcases ho.2 with hn | ⟨g, cap, cur, e, h1, h2, h3⟩
  · exact .inl hn
  · exact .inr ⟨g, cap, cur, e, h1, (hb g (.inr (.inr ⟨k, hk, by rw [e]; rfl⟩))).trans h2, h3⟩
theorem KSt.low {W : World} {lo n Wb Hb : Nat} {wt : Nat → Nat} {sv : Nat → Value} {bh : Nat → List Nat} (h : KSt W lo n Wb Hb wt sv bh) {b : Nat} (hb : b = Wb ∨ b = Hb ∨ ∃ k, k < n ∧ (sv k).ownBlock = some b) : b < W.heap.size := by
  rcases hb with rfl | rfl | ⟨k, hk, e⟩
  · exact h.waits.lt
  · exact h.heads.lt
  · exact ((h.own k hk).lt b e).2
theorem KSt.next {W W' : World} {lo n Wb Hb : Nat} {wt : Nat → Nat} {sv : Nat → Value} {bh : Nat → List Nat} (h : KSt W lo n Wb Hb wt sv bh) (hb : Below W.heap.size W W') : KSt W' lo n Wb Hb wt sv bh :=
  h.of_blocks hb.size fun _ h' => hb.block _ (h.low h')
/-- All that it is about lies below a block. -/
def KLow (hi n Wb Hb : Nat) (sv : Nat → Value) : Prop := ∀ b, (b = Wb ∨ b = Hb ∨ ∃ k, k < n ∧ (sv k).ownBlock = some b) → b < hi
theorem KSt.far {W W' : World} {lo n Wb Hb hi : Nat} {wt : Nat → Nat} {sv : Nat → Value} {bh : Nat → List Nat} (h : KSt W lo n Wb Hb wt sv bh) (hl : KLow hi n Wb Hb sv) (hb : Below hi W W') : KSt W' lo n Wb Hb wt sv bh :=
  h.of_blocks hb.size fun b h' => hb.block _ (hl b h')
theorem KSt.congr {W : World} {lo n Wb Hb : Nat} {wt wt' : Nat → Nat} {sv : Nat → Value} {bh bh' : Nat → List Nat} (h : KSt W lo n Wb Hb wt sv bh) (e : ∀ i, i < n → wt i = wt' i) (e2 : ∀ i, i < n → bh i = bh' i) : KSt W lo n Wb Hb wt' sv bh' :=
  ⟨h.waits.congr fun i hi => by rw [e i hi], h.heads, fun k hk => by rw [← e2 k hk]; exact h.own k hk, h.apart, h.awayW, h.awayH, h.ne, h.loW, h.loH⟩
theorem ownInts_set {W : World} {lo : Nat} {v : Value} {l : List Int} (h : ownInts W lo v l) {B : Nat} (hB : v.ownBlock ≠ some B) (o : Nat) (u : Value) : ownInts (W.setCell ⟨B, o, none⟩ u) lo v l := by
  refine ⟨h.1, ?_⟩
  rcases h.2 with hn | ⟨g, cap, cur, rfl, h1, h2, h3⟩
  · exact .inl hn
  · exact .inr ⟨g, cap, cur, rfl, h1, (Below.heap_setCell _ _ _ _ (by show g ≠ B; exact fun e => hB (by rw [← e]; rfl))).trans h2, h3⟩
theorem KSt.setW {W : World} {lo n Wb Hb : Nat} {wt : Nat → Nat} {sv : Nat → Value} {bh : Nat → List Nat} (h : KSt W lo n Wb Hb wt sv bh) (i c : Nat) : KSt (W.setCell ⟨Wb, i, none⟩ (.int .i64 (c : Nat))) lo n Wb Hb (fun j => if j = i then c else wt j) sv bh :=
  ⟨(h.waits.set i _).congr fun j _ => by by_cases e : j = i <;> simp [e], h.heads.setOther (fun e => h.ne e.symm) _, fun k hk => ownInts_set (h.own k hk) (h.awayW k hk) _ _, h.apart, h.awayW, h.awayH, h.ne, h.loW, h.loH⟩
/-- One place more in a row of those that wait. -/
theorem KSt.push {W W3 : World} {lo n Wb Hb p i : Nat} {wt : Nat → Nat} {sv : Nat → Value} {bh : Nat → List Nat} {v' : Value} {tmp : Obj} (h : KSt W lo n Wb Hb wt sv bh) (hp : p < n)
    (hown : ownInts W3 lo v' (nums (bh p) ++ [(i : Int)])) (hg : (W.alloc tmp).grownBy W3 (sv p).ownBlock) (hsep : v'.ownBlock = (sv p).ownBlock ∨ ∀ b, v'.ownBlock = some b → (W.alloc tmp).heap.size ≤ b) :
    KSt (W3.setCell ⟨Hb, p, none⟩ v') lo n Wb Hb wt (fun j => if j = p then v' else sv j) (fun j => if j = p then bh p ++ [i] else bh j) := by
  have keep : ∀ b, b < W.heap.size → (sv p).ownBlock ≠ some b → W3.heap[b]? = W.heap[b]? := fun b hb hne => (hg.block b (by simp; omega) (fun e => hne e.symm)).trans (Below.heap_alloc _ _ _ hb)
  have sep : ∀ b, b < W.heap.size → (sv p).ownBlock ≠ some b → v'.ownBlock ≠ some b := fun b hb hne => by
    rcases hsep with e | e
    · rw [e]; exact hne
    · intro e2
      have := e b e2
      simp at this
      omega
  have hW := h.waits.lt
  have hH := h.heads.lt
  have hvW := sep Wb hW (h.awayW p hp)
  have hvH := sep Hb hH (h.awayH p hp)
  refine ⟨(h.waits.of_block (keep Wb hW (h.awayW p hp))).setOther h.ne _, ?_, fun k hk => ?_, fun a b ha hb hab x hx => ?_, fun k hk => ?_, fun k hk => ?_, h.ne, h.loW, h.loH⟩
  · exact ((h.heads.of_block (keep Hb hH (h.awayH p hp))).set p v')
  · by_cases e : k = p
    · subst e
      simp only [if_true, nums_snoc]
      exact ownInts_set hown hvH _ _
    · simp only [e, if_false]
      refine ownInts_set ?_ (h.awayH k hk) _ _
      have ho := h.own k hk
      refine ⟨ho.1, ?_⟩
      rcases ho.2 with hn | ⟨g, cap, cur, e1, h1, h2, h3⟩
      · exact .inl hn
      · have hgb : (sv k).ownBlock = some g := by rw [e1]; rfl
        exact .inr ⟨g, cap, cur, e1, h1, (keep g (ho.lt g hgb).2 (h.apart k p hk hp e g hgb)).trans h2, h3⟩
  · by_cases ea : a = p
    · subst ea
      have eb : b ≠ a := fun e => hab e.symm
      simp only [if_true] at hx
      simp only [eb, if_false]
      intro hy
      have hlt := ((h.own b hb).lt x hy).2
      exact sep x hlt (fun e => h.apart a b ha hb hab x e hy) hx
    · simp only [ea, if_false] at hx
      by_cases eb : b = p
      · subst eb
        simp only [if_true]
        have hlt := ((h.own a ha).lt x hx).2
        exact sep x hlt (h.apart a b ha hb hab x hx)
      · simp only [eb, if_false]
        exact h.apart a b ha hb hab x hx
  · by_cases e : k = p
    · subst e; simp only [if_true]; exact hvW
    · simp only [e, if_false]; exact h.awayW k hk
  · by_cases e : k = p
    · subst e; simp only [if_true]; exact hvH
    · simp only [e, if_false]; exact h.awayH k hk
theorem KSt.heads_grown {W W3 : World} {lo n Wb Hb p : Nat} {wt : Nat → Nat} {sv : Nat → Value} {bh : Nat → List Nat} {tmp : Obj} (h : KSt W lo n Wb Hb wt sv bh) (hp : p < n) (hg : (W.alloc tmp).grownBy W3 (sv p).ownBlock) : W3.rowIs Hb 58 n sv :=
  h.heads.of_block ((hg.block Hb (by have := h.heads.lt; simp; omega) (fun e => h.awayH p hp e.symm)).trans (Below.heap_alloc _ _ _ h.heads.lt))
theorem KSt.head_slice {W : World} {lo n Wb Hb : Nat} {wt : Nat → Nat} {sv : Nat → Value} {bh : Nat → List Nat} (h : KSt W lo n Wb Hb wt sv bh) {p : Nat} (hp : p < n) : ∃ g c, sv p = .slice g (bh p).length c := by
  have := owns_slice (h.own p hp)
  rwa [nums_length] at this
/-- A row of numbers in a block of its own, as it is read. -/
def rowAt (W : World) (lo hi : Nat) (vs : List Int) (g : Option Addr) : Prop := vs = [] ∨ ∃ b o, g = some ⟨b, o, none⟩ ∧ lo ≤ b ∧ b < hi ∧ ∀ i (h : i < vs.length), W.cell? ⟨b, o + i, none⟩ = some (.int .i64 vs[i])
theorem rowAt.get {W : World} {lo hi : Nat} {vs : List Int} {g : Option Addr} (h : rowAt W lo hi vs g) {i : Nat} (hi' : i < vs.length) : ∃ b o, g = some ⟨b, o, none⟩ ∧ lo ≤ b ∧ b < hi ∧ W.cell? ⟨b, o + i, none⟩ = some (.int .i64 vs[i]) := by
  rcases h with rfl | ⟨b, o, e, h1, h2, h3⟩
  · simp at hi'
  · exact ⟨b, o, e, h1, h2, h3 i hi'⟩
theorem rowAt.kept {W W' : World} {lo hi : Nat} {vs : List Int} {g : Option Addr} (h : rowAt W lo hi vs g) (hb : ∀ b, lo ≤ b → b < hi → W'.heap[b]? = W.heap[b]?) : rowAt W' lo hi vs g := by
  rcases h with h | ⟨b, o, e, h1, h2, h3⟩
  · exact .inl h
  · exact .inr ⟨b, o, e, h1, h2, fun i hi => (World.cell?_of_block (a := ⟨b, o + i, none⟩) (hb b h1 h2)).trans (h3 i hi)⟩
theorem rowAt.of {W : World} {B lo : Nat} {vs : List Int} {g : Option Addr} {n c : Nat} (h : intsIn W B vs (.slice g n c)) (hlo : ∀ b o, g = some ⟨b, o, none⟩ → lo ≤ b) : rowAt W lo B vs g := by
  obtain ⟨g', c', e, _, _, h3⟩ := h
  injection e with e1 e2 e3
  subst e1
  rcases h3 with h3 | ⟨b, o, e, hb, hc⟩
  · exact .inl h3
  · exact .inr ⟨b, o, e, hlo b o e, hb, hc⟩
theorem KSt.start (w : World) (n : Nat) : KSt ((w.alloc (.cells (madeCells #[.int .i64 0] n) 3)).alloc (.cells (madeCells #[.slice none 0 0] n) 58)) w.heap.size n w.heap.size (w.heap.size + 1) (fun _ => 0) (fun _ => .slice none 0 0) (fun _ => []) := by
  refine ⟨(World.rowIs_made w (.int .i64 0) n 3).alloc _, ?_, fun k _ => World.ownsRow_nil _ _ _ _, (fun i j _ _ _ b hb => by cases hb), (fun k _ h => by cases h), (fun k _ h => by cases h), by omega, Nat.le_refl _, by omega⟩
  have := World.rowIs_made (w.alloc (.cells (madeCells #[.int .i64 0] n) 3)) (.slice none 0 0) n 58
  simpa using this

theorem at_key0 {l : List Bd} (hn : (vsB l).Nodup) {v : Int} (hp : place l v = none) : (numD (vsB l) l.length).atKey (.int .i64 v) (.lit (.int .i64 0)) = .lit (.int .i64 0) := by
  rw [numD_at (vsB l) hn v l.length (by rw [vsB_length]; exact Nat.le_refl _), if_neg]
  intro hm
  obtain ⟨b, hb, e⟩ := List.mem_map.1 (List.mem_of_mem_take hm)
  exact place_none.1 hp b hb e
theorem AtMap.next {l : List Bd} {m n₀ : Nat} {W W' : World} (h : AtMap l m W) (hb : Below n₀ W W') (hm : m < n₀) : AtMap l m W' := by
  obtain ⟨es, ck, h1, r⟩ := h
  exact ⟨es, ck, (hb.block m hm).trans h1, r⟩
theorem wpList_lookup_at (w : World) {ops : Array Oper} {rest : List Oper} {o : Oper} {a : Act} {Q : Exit → Act → World → Prop}
    (hg : o.guard = none) (m x : Operand) (hop : o.op = Op.lookup 74 m x true) (l : List Bd) (hn : (vsB l).Nodup) (b : Nat) (hm : a.eval m = .map (some b)) (hown : AtMap l b w)
    (v : Int) (hx : a.eval x = .int .i64 v) (hwf : (Lit.int .i64 v).wf = true) (c : Int) (q : Bool) (hc : (q = true ∧ ∃ p : Nat, place l v = some p ∧ c = p) ∨ (q = false ∧ place l v = none ∧ c = 0))
    (hK : wpList Try.prog ops Q rest (a.put o.dst (.tuple #[.int .i64 c, .bool q])) w) : wpList Try.prog ops Q (o :: rest) a w := by
  refine wpList_lookup_own_ok_int w hg m x 74 hop 3 3 .i64 (Maps.int_keyed Try.underlying3) Try.underlying74 Try.underlying3 (Try.zeroInt w) b l.length _ hm hown _ _ hx (Maps.keyOf_int_mk Try.underlying3 hwf) fun c' hat _ => ?_
  rw [at_has]
  rcases hc with ⟨rfl, p, hp, rfl⟩ | ⟨rfl, hp, rfl⟩
  · rw [at_key hn hp] at hat
    rw [hp]
    simp only [DataW.lit.injEq, Lit.int.injEq, true_and] at hat
    rw [← hat]
    exact hK
  · rw [at_key0 hn hp] at hat
    rw [hp]
    simp only [DataW.lit.injEq, Lit.int.injEq, true_and] at hat
    rw [← hat]
    exact hK
theorem pairsTo_length (l : List Bd) : ∀ n, (pairsTo l n).length ≤ n * l.length
  | 0 => by simp [pairsTo]
  | n + 1 => by
    have h1 := pairsTo_length l n
    have h2 := deps_length l n
    simp only [pairsTo, List.length_append, List.length_map, Nat.succ_mul]
    omega
theorem pairs_bound {l : List Bd} (h : l.length ≤ 1000) {n : Nat} (hn : n ≤ l.length) : (pairsTo l n).length ≤ 1000000 := by
  have h1 := pairsTo_length l n
  have h2 : n * l.length ≤ 1000 * 1000 := Nat.mul_le_mul (by omega) h
  omega
theorem KInv.step' {l : List Bd} {os : List Nat} {j m kk : Nat} (hj : os[j]? = some kk) (hm : m < (behP (pairsL l) kk).length) (h : KInv l os (doneF l (os.take j) kk m)) :
    (∀ a, cntP (pairsL l) (doneF l (os.take j) kk (m + 1)) a + (if a = (behP (pairsL l) kk)[m] then 1 else 0) = cntP (pairsL l) (doneF l (os.take j) kk m) a) ∧ (behP (pairsL l) kk)[m] < l.length ∧
    (cntP (pairsL l) (doneF l (os.take j) kk (m + 1)) (behP (pairsL l) kk)[m] = 0 → KInv l (os ++ [(behP (pairsL l) kk)[m]]) (doneF l (os.take j) kk (m + 1))) ∧
    (cntP (pairsL l) (doneF l (os.take j) kk (m + 1)) (behP (pairsL l) kk)[m] ≠ 0 → KInv l os (doneF l (os.take j) kk (m + 1))) := by
  obtain ⟨hlt, e⟩ := List.getElem?_eq_some_iff.1 hj
  subst e
  exact h.step hlt hm
theorem doneF_zero (l : List Bd) (S : List Nat) (kk : Nat) (p : Pr) : doneF l S kk 0 p = decide (p.2 ∈ S) := by simp [doneF]
theorem doneF_end {l : List Bd} {os : List Nat} {j kk m : Nat} (hj : os[j]? = some kk) (hm : (behP (pairsL l) kk).length ≤ m) : ∀ p ∈ pairsL l, doneF l (os.take j) kk m p = decide (p.2 ∈ os.take (j + 1)) := fun p hp => by
  obtain ⟨hlt, e⟩ := List.getElem?_eq_some_iff.1 hj
  subst e
  rw [doneF, List.take_of_length_le hm, List.take_succ_eq_append_getElem hlt, Bool.eq_iff_iff]
  simp only [Bool.or_eq_true, decide_eq_true_eq, Bool.and_eq_true, beq_iff_eq, List.mem_append, List.mem_singleton, behP_mem]
  constructor
  · rintro (h1 | ⟨h1, _⟩)
    · exact .inl h1
    · exact .inr h1
  · rintro (h1 | h1)
    · exact .inl h1
    · exact .inr ⟨h1, by rw [← h1]; exact hp⟩
theorem KSt.row_get {W : World} {lo n Wb Hb : Nat} {wt : Nat → Nat} {sv : Nat → Value} {bh : Nat → List Nat} (h : KSt W lo n Wb Hb wt sv bh) {p : Nat} (hp : p < n) {g : Option Addr} {m c : Nat} (hsp : sv p = .slice g m c) {i : Nat} (hi : i < (bh p).length) :
    ∃ b, g = some ⟨b, 0, none⟩ ∧ b < W.heap.size ∧ W.cell? ⟨b, i, none⟩ = some (.int .i64 ((bh p)[i] : Nat)) := by
  have ho := h.own p hp
  rcases ho.2 with ⟨_, h0⟩ | ⟨b, cap, cur, e, _⟩
  · rw [nums_length] at h0; omega
  · rw [hsp] at e
    injection e with e1 e2 e3
    have hob : (sv p).ownBlock = some b := by rw [hsp, e1]; rfl
    refine ⟨b, e1, (ho.lt b hob).2, ?_⟩
    have := World.ownsRow.cells ho (g := b) hob i (.int .i64 ((bh p)[i] : Nat)) (by simp [nums, hi])
    rw [Addr.add_lit] at this
    simpa using this
theorem own_get {W : World} {lo : Nat} {v : Value} {os : List Nat} (h : ownInts W lo v (nums os)) {g : Option Addr} {m c : Nat} (hsp : v = .slice g m c) {i : Nat} (hi : i < os.length) :
    ∃ b, g = some ⟨b, 0, none⟩ ∧ b < W.heap.size ∧ W.cell? ⟨b, i, none⟩ = some (.int .i64 (os[i] : Nat)) := by
  rcases h.2 with ⟨_, h0⟩ | ⟨b, cap, cur, e, _⟩
  · rw [nums_length] at h0; omega
  · rw [hsp] at e
    injection e with e1 e2 e3
    have hob : v.ownBlock = some b := by rw [hsp, e1]; rfl
    refine ⟨b, e1, (h.lt b hob).2, ?_⟩
    have := World.ownsRow.cells h (g := b) hob i (.int .i64 (os[i] : Nat)) (by simp [nums, hi])
    rw [Addr.add_lit] at this
    simpa using this
theorem own_slice {W : World} {lo : Nat} {v : Value} {os : List Nat} (h : ownInts W lo v (nums os)) : ∃ g c, v = .slice g os.length c := by
  have := owns_slice h
  rwa [nums_length] at this
end Go.Proofs.Ytjbicfimoiiglaa
