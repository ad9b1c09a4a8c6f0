/-
  The document's like and At, the program's sameTop and place: whether two terms begin alike, and where a pair stands.
-/
import Derived.Test.YtjbicfimoiiglaaPrs
import Derived.Test.YtjbicfimoiiglaaRef
import Derived.Test.YtjbicfimoiiglaaTermB
import Derived.Deep.RegionHeld3
namespace Go.Proofs.Ytjbicfimoiiglaa
open Go.RowKit Go.Shelf Go.Maps

set_option maxRecDepth 100000 in
set_option maxHeartbeats 1000000 in
theorem like_any (a b : Tm) (w : World) (B : Nat) (sa sb : Value) (ha : Tm.inn w B a sa) (hb : Tm.inn w B b sb) :
    Calls Try.prog 50 #[.agg #[.int .i64 a.kind, .string a.name, .int .i64 a.n, sa], .agg #[.int .i64 b.kind, .string b.name, .int .i64 b.n, sb]] w fun e w' => e = .returned (.bool (likeB a b)) ∧ Below w.heap.size w w' := by
  obtain ⟨k, s, n, l⟩ := a
  obtain ⟨k', s', n', l'⟩ := b
  obtain ⟨_, g, cap, rfl, hcap, hlen, _⟩ := Tm.inn_mk.1 ha
  obtain ⟨_, g', cap', rfl, hcap', hlen', _⟩ := Tm.inn_mk.1 hb
  simp only [Tm.kind, Tm.name, Tm.n]
  clear ha hb
  have HB := Lib.hid (((Below.refl w.heap.size w).alloc (Nat.le_refl _) (.cells #[.int .i64 k, .string s, .int .i64 n, .slice g l.length cap] 24)).alloc (by simp) (.cells #[.int .i64 k', .string s', .int .i64 n', .slice g' l'.length cap'] 24))
  obtain ⟨r, hr⟩ : ∃ r, likeB (.mk k s n l) (.mk k' s' n' l') = r := ⟨_, rfl⟩
  rw [hr]
  by_cases hk1 : k = 1
  · subst hk1
    have hv : r = false := by rw [← hr]; simp [likeB, Tm.kind, Tm.name, Tm.n, Tm.args]
    subst hv
    clear hr
    have h1 : ((1 : Int) != 1) = false := by simp
    go_enter Try.func50, Try.ntmps50
    go_wp2_with fail
    go_ret
    exact ⟨rfl, HB.out⟩
  have hk1b : (k != 1) = true := by rw [bne_iff_ne]; exact hk1
  by_cases hk : k = k'
  · subst hk
    by_cases hn : n = n'
    · subst hn
      by_cases hs : s = s'
      · subst hs
        by_cases hl : l.length = l'.length
        · have hv : r = true := by rw [← hr]; simp [likeB, Tm.kind, Tm.name, Tm.n, Tm.args, hl, hk1]
          subst hv
          clear hr
          obtain ⟨m, hm1, hm2⟩ : ∃ m, l.length = m ∧ l'.length = m := ⟨_, hl, rfl⟩
          rw [hm1, hm2] at HB
          rw [hm1] at hcap hlen ⊢
          rw [hm2] at hcap' hlen' ⊢
          clear hl hm1 hm2
          go_enter Try.func50, Try.ntmps50
          go_wp2_with fail
          go_ret
          exact ⟨rfl, HB.out⟩
        · have hlb : ((l.length : Int) == (l'.length : Int)) = false := by rw [beq_eq_false_iff_ne]; omega
          have hv : r = false := by rw [← hr]; simp [likeB, Tm.kind, Tm.name, Tm.n, Tm.args, hl]
          subst hv
          clear hr
          go_enter Try.func50, Try.ntmps50
          go_wp2_with fail
          go_ret
          exact ⟨rfl, HB.out⟩
      · have hb0 := neS hs
        have hb1 : (s.toList == s'.toList) = false := by simpa using hb0
        have hv : r = false := by rw [← hr]; simp [likeB, Tm.kind, Tm.name, Tm.n, Tm.args, hs]
        subst hv
        clear hr
        go_enter Try.func50, Try.ntmps50
        go_wp2_with fail
        go_ret
        exact ⟨rfl, HB.out⟩
    · have hb1 : (n == n') = false := by simpa using hn
      have hv : r = false := by rw [← hr]; simp [likeB, Tm.kind, Tm.name, Tm.n, Tm.args, hn]
      subst hv
      clear hr
      go_enter Try.func50, Try.ntmps50
      go_wp2_with fail
      go_ret
      exact ⟨rfl, HB.out⟩
  · have hb1 : (k == k') = false := by simpa using hk
    have hv : r = false := by rw [← hr]; simp [likeB, Tm.kind, Tm.name, Tm.n, Tm.args, hk]
    subst hv
    clear hr
    go_enter Try.func50, Try.ntmps50
    go_wp2_with fail
    go_ret
    exact ⟨rfl, HB.out⟩
/-- The same, whatever the kind. -/
def topB (a b : Tm) : Bool := decide (a.kind = b.kind ∧ a.name = b.name ∧ a.n = b.n ∧ a.args.length = b.args.length)
theorem likeB_top (a b : Tm) : likeB a b = (!(a.kind == 1) && topB a b) := by
  rw [Bool.eq_iff_iff, likeB_iff]
  simp only [topB, Bool.and_eq_true, Bool.not_eq_true', beq_eq_false_iff_ne, decide_eq_true_eq]
  constructor
  · rintro ⟨h1, h2, h3, h4, h5⟩; exact ⟨h1, h2, h4, h3, h5⟩
  · rintro ⟨h1, h2, h4, h3, h5⟩; exact ⟨h1, h2, h3, h4, h5⟩
set_option maxRecDepth 100000 in
set_option maxHeartbeats 1000000 in
theorem top_any (a b : Tm) (w : World) (B : Nat) (sa sb : Value) (ha : Tm.inn w B a sa) (hb : Tm.inn w B b sb) :
    Calls Try.prog 67 #[.agg #[.int .i64 a.kind, .string a.name, .int .i64 a.n, sa], .agg #[.int .i64 b.kind, .string b.name, .int .i64 b.n, sb]] w fun e w' => e = .returned (.bool (topB a b)) ∧ Below w.heap.size w w' := by
  obtain ⟨k, s, n, l⟩ := a
  obtain ⟨k', s', n', l'⟩ := b
  obtain ⟨_, g, cap, rfl, hcap, hlen, _⟩ := Tm.inn_mk.1 ha
  obtain ⟨_, g', cap', rfl, hcap', hlen', _⟩ := Tm.inn_mk.1 hb
  simp only [Tm.kind, Tm.name, Tm.n]
  clear ha hb
  have HB := Lib.hid (((Below.refl w.heap.size w).alloc (Nat.le_refl _) (.cells #[.int .i64 k, .string s, .int .i64 n, .slice g l.length cap] 24)).alloc (by simp) (.cells #[.int .i64 k', .string s', .int .i64 n', .slice g' l'.length cap'] 24))
  obtain ⟨r, hr⟩ : ∃ r, topB (.mk k s n l) (.mk k' s' n' l') = r := ⟨_, rfl⟩
  rw [hr]
  by_cases hk : k = k'
  · subst hk
    by_cases hs : s = s'
    · subst hs
      by_cases hn : n = n'
      · subst hn
        by_cases hl : l.length = l'.length
        · have hv : r = true := by rw [← hr]; simp [topB, Tm.kind, Tm.name, Tm.n, Tm.args, hl]
          subst hv
          clear hr
          obtain ⟨m, hm1, hm2⟩ : ∃ m, l.length = m ∧ l'.length = m := ⟨_, hl, rfl⟩
          rw [hm1, hm2] at HB
          rw [hm1] at hcap hlen ⊢
          rw [hm2] at hcap' hlen' ⊢
          clear hl hm1 hm2
          go_enter Try.func67, Try.ntmps67
          go_wp2_with fail
          go_ret
          exact ⟨rfl, HB.out⟩
        · have hlb : ((l.length : Int) == (l'.length : Int)) = false := by rw [beq_eq_false_iff_ne]; omega
          have hv : r = false := by rw [← hr]; simp [topB, Tm.kind, Tm.name, Tm.n, Tm.args, hl]
          subst hv
          clear hr
          go_enter Try.func67, Try.ntmps67
          go_wp2_with fail
          go_ret
          exact ⟨rfl, HB.out⟩
      · have hb1 : (n == n') = false := by simpa using hn
        have hv : r = false := by rw [← hr]; simp [topB, Tm.kind, Tm.name, Tm.n, Tm.args, hn]
        subst hv
        clear hr
        go_enter Try.func67, Try.ntmps67
        go_wp2_with fail
        go_ret
        exact ⟨rfl, HB.out⟩
    · have hb0 := neS hs
      have hb1 : (s.toList == s'.toList) = false := by simpa using hb0
      have hv : r = false := by rw [← hr]; simp [topB, Tm.kind, Tm.name, Tm.n, Tm.args, hs]
      subst hv
      clear hr
      go_enter Try.func67, Try.ntmps67
      go_wp2_with fail
      go_ret
      exact ⟨rfl, HB.out⟩
  · have hb1 : (k == k') = false := by simpa using hk
    have hv : r = false := by rw [← hr]; simp [topB, Tm.kind, Tm.name, Tm.n, Tm.args, hk]
    subst hv
    clear hr
    go_enter Try.func67, Try.ntmps67
    go_wp2_with fail
    go_ret
    exact ⟨rfl, HB.out⟩

/-- The first of a row that is so. -/
theorem idxP_first (l : List (Tm × Tm)) (x : Tm × Tm) : ∀ (k : Nat) (hk : k < l.length), l[k] = x → (∀ j (hj : j < l.length), j < k → l[j] ≠ x) → l.idxOf x = k := by
  induction l with
  | nil => intro k hk; simp at hk
  | cons y r ih =>
    intro k hk h hp
    cases k with
    | zero => simp only [List.getElem_cons_zero] at h; simp [h]
    | succ k =>
      have h0 : y ≠ x := hp 0 (by simp) (by omega)
      rw [List.idxOf_cons, show (y == x) = false by simpa using h0]
      simp only [List.getElem_cons_succ] at h
      rw [cond_false, ih k (by simpa using hk) h fun j hj hjk => by
        have := hp (j + 1) (by simpa using hj) (by omega)
        simpa using this]
def atP (l : List (Tm × Tm)) (x : Tm × Tm) : Int := if x ∈ l then (l.idxOf x : Int) else -1
/-- What stays while a pair is looked for. -/
structure ASt (w : World) (B : Nat) (l : List (Tm × Tm)) (a b : Tm) (svl sva svb : Value) (W : World) : Prop where
  hb : Below w.heap.size w W
  hB : B ≤ w.heap.size
  lm : prsM W B l svl
  ba : W.heap[w.heap.size]? = some (Obj.cells #[.int .i64 a.kind, .string a.name, .int .i64 a.n, sva] 24 (0, 0))
  bb : W.heap[w.heap.size + 1]? = some (Obj.cells #[.int .i64 b.kind, .string b.name, .int .i64 b.n, svb] 24 (0, 0))
  ia : Tm.inn W B a sva
  ib : Tm.inn W B b svb
theorem ASt.next {w : World} {B : Nat} {l : List (Tm × Tm)} {a b : Tm} {svl sva svb : Value} {W W' : World} (h : ASt w B l a b svl sva svb W) (hb : Below W.heap.size W W') : ASt w B l a b svl sva svb W' :=
  have hs := h.hb.size
  have hB := h.hB
  ⟨h.hb.trans (hb.mono hs), hB, prsM_below h.lm hb (by omega), (hb.block _ (Array.getElem?_eq_some_iff.1 h.ba).1).trans h.ba, (hb.block _ (Array.getElem?_eq_some_iff.1 h.bb).1).trans h.bb, Tm.inn_below h.ia hb (by omega), Tm.inn_below h.ib hb (by omega)⟩
theorem ASt.start {w : World} {B : Nat} {l : List (Tm × Tm)} {a b : Tm} {svl sva svb : Value} (hB : B ≤ w.heap.size) (hl : prsM w B l svl) (ha : Tm.inn w B a sva) (hb : Tm.inn w B b svb) :
    ASt w B l a b svl sva svb ((w.alloc (Obj.cells #[.int .i64 a.kind, .string a.name, .int .i64 a.n, sva] 24 (0, 0))).alloc (Obj.cells #[.int .i64 b.kind, .string b.name, .int .i64 b.n, svb] 24 (0, 0))) := by
  have h2 : Below w.heap.size w ((w.alloc (Obj.cells #[.int .i64 a.kind, .string a.name, .int .i64 a.n, sva] 24 (0, 0))).alloc (Obj.cells #[.int .i64 b.kind, .string b.name, .int .i64 b.n, svb] 24 (0, 0))) := ((Below.refl _ _).alloc (Nat.le_refl _) _).alloc (by simp) _
  exact ⟨h2, hB, prsM_below hl h2 hB, (Below.heap_alloc _ _ _ (by simp)).trans (newBlk _ _ _ rfl), newBlk _ _ _ (by simp), Tm.inn_below ha h2 hB, Tm.inn_below hb h2 hB⟩
theorem ASt.step {w : World} {B : Nat} {l : List (Tm × Tm)} {a b : Tm} {svl sva svb v0 v1 v2 v3 v4 v5 v6 v7 : Value} {W W' : World} {p o N : Nat} (hb : Below W.heap.size W W') (hp : p < N)
    (h : W.cell? ⟨p, o, none⟩ = some v0 ∧ W.cell? ⟨p, o + 1, none⟩ = some v1 ∧ W.cell? ⟨p, o + 2, none⟩ = some v2 ∧ W.cell? ⟨p, o + 3, none⟩ = some v3 ∧ W.cell? ⟨p, o + 4, none⟩ = some v4 ∧ W.cell? ⟨p, o + 4 + 1, none⟩ = some v5 ∧ W.cell? ⟨p, o + 4 + 2, none⟩ = some v6 ∧ W.cell? ⟨p, o + 4 + 3, none⟩ = some v7 ∧ N ≤ W.heap.size ∧ ASt w B l a b svl sva svb W) :
    W'.cell? ⟨p, o, none⟩ = some v0 ∧ W'.cell? ⟨p, o + 1, none⟩ = some v1 ∧ W'.cell? ⟨p, o + 2, none⟩ = some v2 ∧ W'.cell? ⟨p, o + 3, none⟩ = some v3 ∧ W'.cell? ⟨p, o + 4, none⟩ = some v4 ∧ W'.cell? ⟨p, o + 4 + 1, none⟩ = some v5 ∧ W'.cell? ⟨p, o + 4 + 2, none⟩ = some v6 ∧ W'.cell? ⟨p, o + 4 + 3, none⟩ = some v7 ∧ W'.cell? ⟨w.heap.size, 0, none⟩ = some (.int .i64 a.kind) ∧ W'.cell? ⟨w.heap.size, 1, none⟩ = some (.string a.name) ∧ W'.cell? ⟨w.heap.size, 2, none⟩ = some (.int .i64 a.n) ∧ W'.cell? ⟨w.heap.size, 3, none⟩ = some sva ∧ W'.cell? ⟨w.heap.size + 1, 0, none⟩ = some (.int .i64 b.kind) ∧ W'.cell? ⟨w.heap.size + 1, 1, none⟩ = some (.string b.name) ∧ W'.cell? ⟨w.heap.size + 1, 2, none⟩ = some (.int .i64 b.n) ∧ W'.cell? ⟨w.heap.size + 1, 3, none⟩ = some svb ∧ (N ≤ W'.heap.size ∧ ASt w B l a b svl sva svb W') := by
  obtain ⟨h0, h1, h2, h3, h4, h5, h6, h7, hN, hq⟩ := h
  have hlt : p < W.heap.size := by omega
  have hq' := hq.next hb
  obtain ⟨⟨a0, a1, a2, a3⟩, _⟩ := row4 hq'.ba
  obtain ⟨⟨b0, b1, b2, b3⟩, _⟩ := row4 hq'.bb
  exact ⟨(hb.cell (p := ⟨p, o, none⟩) hlt).trans h0, (hb.cell (p := ⟨p, o + 1, none⟩) hlt).trans h1, (hb.cell (p := ⟨p, o + 2, none⟩) hlt).trans h2, (hb.cell (p := ⟨p, o + 3, none⟩) hlt).trans h3,
    (hb.cell (p := ⟨p, o + 4, none⟩) hlt).trans h4, (hb.cell (p := ⟨p, o + 4 + 1, none⟩) hlt).trans h5, (hb.cell (p := ⟨p, o + 4 + 2, none⟩) hlt).trans h6, (hb.cell (p := ⟨p, o + 4 + 3, none⟩) hlt).trans h7, a0, a1, a2, a3, b0, b1, b2, b3, Nat.le_trans hN hb.size, hq'⟩
theorem inn_sl6 {W : World} {B : Nat} {t : Tm} {sv : Value} (h : Tm.inn W B t sv) : ∃ g c, sv = .slice g t.args.length c := by
  obtain ⟨_, g, c, e, _⟩ := Tm.inn_iff.1 h
  exact ⟨g, c, e⟩
theorem prs_at {W : World} {B : Nat} {l : List (Tm × Tm)} {p o n c : Nat} (h : prsM W B l (.slice (some ⟨p, o, none⟩) n c)) {i : Nat} (hi : i < l.length) :
    (∀ sv, W.cell? ⟨p, o + i * 8 + 3, none⟩ = some sv → Tm.inn W B l[i].1 sv) ∧ (∀ sv, W.cell? ⟨p, o + i * 8 + 4 + 3, none⟩ = some sv → Tm.inn W B l[i].2 sv) := by
  obtain ⟨p', o', sa, sb, e1, _, _, _, _, q3, _, _, _, q7, i1, i2⟩ := prsM_get h i hi
  injection e1 with e1
  injection e1 with e1 e2
  subst e1 e2
  exact ⟨fun sv hc => by rw [q3] at hc; injection hc with hc; exact hc ▸ i1, fun sv hc => by rw [q7] at hc; injection hc with hc; exact hc ▸ i2⟩

set_option maxRecDepth 100000 in
set_option maxHeartbeats 8000000 in
theorem at6_any (l : List (Tm × Tm)) (a b : Tm) (w : World) (B : Nat) (svl sva svb : Value) (hB : B ≤ w.heap.size) (hl : prsM w B l svl) (ha : Tm.inn w B a sva) (hb : Tm.inn w B b svb) :
    Calls Try.prog 51 #[svl, .agg #[.int .i64 a.kind, .string a.name, .int .i64 a.n, sva], .agg #[.int .i64 b.kind, .string b.name, .int .i64 b.n, svb]] w fun e w' => e = .returned (.int .i64 (atP l (a, b))) ∧ Below w.heap.size w w' := by
  have hst := ASt.start hB hl ha hb
  obtain ⟨gl, cl, rfl, hcl, hll, _⟩ := id hl
  obtain ⟨_, ga, ca, rfl, hca, hla, _⟩ := Tm.inn_iff.1 ha
  obtain ⟨_, gb, cb, rfl, hcb, hlb, _⟩ := Tm.inn_iff.1 hb
  have HST := Lib.hid hst
  clear hl ha hb hst
  go_enter Try.func51, Try.ntmps51
  go_wp2_with fail
  go_loopw [7] (fun i wr => ∃ k : Nat, k ≤ l.length ∧ i = .int .i64 k ∧ Hid (∀ j (h : j < l.length), j < k → l[j] ≠ (a, b)) ∧ Hid (ASt w B l a b (.slice gl l.length cl) (.slice ga a.args.length ca) (.slice gb b.args.length cb) wr)) (fun i _ => l.length - (intOf i).toNat)
  case atStart => exact ⟨0, Nat.zero_le _, rfl, fun j _ h => by omega, HST.out⟩
  case round =>
    obtain ⟨k, hk, rfl, hp, hq⟩ := hrel
    have HP := Lib.hid hp.out
    have HQ := Lib.hid hq.out
    clear hp hq HST
    by_cases hlt : k < l.length
    · obtain ⟨p, o, sx, sy, hgl, hpB, c0, c1, c2, c3, c4, c5, c6, c7, i1, i2⟩ := prsM_get HQ.out.lm k hlt
      subst hgl
      obtain ⟨gx, cx, rfl⟩ := inn_sl6 i1
      obtain ⟨gy, cy, rfl⟩ := inn_sl6 i2
      have hB2 : B ≤ wr.heap.size := Nat.le_trans hB HQ.out.hb.size
      obtain ⟨N, hN⟩ : ∃ N, wr.heap.size = N := ⟨_, rfl⟩
      have hNle := Lib.hid (Nat.le_of_eq hN.symm)
      have hpN : p < N := by omega
      have HG := Lib.hid (ASt.step (N := N) ((Below.refl wr.heap.size wr).drew) hpN ⟨c0, c1, c2, c3, c4, c5, c6, c7, hNle.out, HQ.out⟩)
      obtain ⟨q1, hq1⟩ : ∃ q, Tm.same l[k].1 a = q := ⟨_, rfl⟩
      obtain ⟨q2, hq2⟩ : ∃ q, Tm.same l[k].2 b = q := ⟨_, rfl⟩
      have H1 := Lib.hid (fun (W : World) (hc : W.cell? ⟨p, o + k * 8 + 3, none⟩ = some (.slice gx l[k].1.args.length cx)) (h : N ≤ W.heap.size ∧ ASt w B l a b (.slice (some ⟨p, o, none⟩) l.length cl) (.slice ga a.args.length ca) (.slice gb b.args.length cb) W) => by
        have h1 := rsame_any l[k].1 a W B _ _ (Nat.le_trans h.2.hB h.2.hb.size) ((prs_at h.2.lm hlt).1 _ hc) (h.2.ia)
        rw [hq1] at h1
        exact h1)
      have H2 := Lib.hid (fun (W : World) (hc : W.cell? ⟨p, o + k * 8 + 4 + 3, none⟩ = some (.slice gy l[k].2.args.length cy)) (h : N ≤ W.heap.size ∧ ASt w B l a b (.slice (some ⟨p, o, none⟩) l.length cl) (.slice ga a.args.length ca) (.slice gb b.args.length cb) W) => by
        have h1 := rsame_any l[k].2 b W B _ _ (Nat.le_trans h.2.hB h.2.hb.size) ((prs_at h.2.lm hlt).2 _ hc) (h.2.ib)
        rw [hq2] at h1
        exact h1)
      have HEQ := Lib.hid (show l[k] = (a, b) ↔ q1 = true ∧ q2 = true by
        rw [← hq1, ← hq2, Tm.same_iff, Tm.same_iff]
        exact Prod.ext_iff)
      clear c0 c1 c2 c3 c4 c5 c6 c7 i1 i2 hN hpB hq1 hq2 hB2
      cases q1 with
      | false =>
        go_wp2_with fail
        refine wp_region_held_drew (S := fun W' => W'.cell? ⟨p, o + k * 8, none⟩ = some (.int .i64 l[k].1.kind) ∧ W'.cell? ⟨p, o + k * 8 + 1, none⟩ = some (.string l[k].1.name) ∧ W'.cell? ⟨p, o + k * 8 + 2, none⟩ = some (.int .i64 l[k].1.n) ∧ W'.cell? ⟨p, o + k * 8 + 3, none⟩ = some (.slice gx l[k].1.args.length cx) ∧ W'.cell? ⟨p, o + k * 8 + 4, none⟩ = some (.int .i64 l[k].2.kind) ∧ W'.cell? ⟨p, o + k * 8 + 4 + 1, none⟩ = some (.string l[k].2.name) ∧ W'.cell? ⟨p, o + k * 8 + 4 + 2, none⟩ = some (.int .i64 l[k].2.n) ∧ W'.cell? ⟨p, o + k * 8 + 4 + 3, none⟩ = some (.slice gy l[k].2.args.length cy) ∧ W'.cell? ⟨w.heap.size, 0, none⟩ = some (.int .i64 a.kind) ∧ W'.cell? ⟨w.heap.size, 1, none⟩ = some (.string a.name) ∧ W'.cell? ⟨w.heap.size, 2, none⟩ = some (.int .i64 a.n) ∧ W'.cell? ⟨w.heap.size, 3, none⟩ = some (.slice ga a.args.length ca) ∧ W'.cell? ⟨w.heap.size + 1, 0, none⟩ = some (.int .i64 b.kind) ∧ W'.cell? ⟨w.heap.size + 1, 1, none⟩ = some (.string b.name) ∧ W'.cell? ⟨w.heap.size + 1, 2, none⟩ = some (.int .i64 b.n) ∧ W'.cell? ⟨w.heap.size + 1, 3, none⟩ = some (.slice gb b.args.length cb) ∧ (N ≤ W'.heap.size ∧ ASt w B l a b (.slice (some ⟨p, o, none⟩) l.length cl) (.slice ga a.args.length ca) (.slice gb b.args.length cb) W')) (by kernel_rfl) HG.out (fun hHeld => ?_)
        clear HG
        refine wpAnyH_take (i := 0) (oi := _) (v := ?_) rfl (by kernel_rfl) (by kernel_rfl) (by kernel_rfl) (fun _ _ _ h => h) (Or.inl ⟨by rfl, ?_⟩) hHeld ?_
        rotate_left
        · (intro w hSw; (try dsimp only at hSw); go_simp; try with_reducible rfl)
        try simp only [Act.put, List.setIfInBounds_toArray, List.set_cons_zero, List.set_cons_succ, List.getElem_toArray, List.getElem_cons_zero]
        refine wpAnyH_take (i := 1) (oi := _) (v := ?_) rfl (by kernel_rfl) (by kernel_rfl) (by kernel_rfl) (fun _ _ _ h => h) (Or.inl ⟨by rfl, ?_⟩) hHeld ?_
        rotate_left
        · (intro w hSw; (try dsimp only at hSw); go_simp; try with_reducible rfl)
        try simp only [Act.put, List.setIfInBounds_toArray, List.set_cons_zero, List.set_cons_succ, List.getElem_toArray, List.getElem_cons_zero, List.getElem_cons_succ]
        refine wpAnyH_take (i := 2) (oi := _) (v := ?_) rfl (by kernel_rfl) (by kernel_rfl) (by kernel_rfl) (fun _ _ _ h => h) (Or.inl ⟨by rfl, ?_⟩) hHeld ?_
        rotate_left
        · (intro w hSw; (try dsimp only at hSw); go_simp; try with_reducible rfl)
        try simp only [Act.put, List.setIfInBounds_toArray, List.set_cons_zero, List.set_cons_succ, List.getElem_toArray, List.getElem_cons_zero, List.getElem_cons_succ]
        refine wpAnyH_take (i := 3) (oi := _) (v := ?_) rfl (by kernel_rfl) (by kernel_rfl) (by kernel_rfl) (fun _ _ _ h => h) (Or.inl ⟨by rfl, ?_⟩) hHeld ?_
        rotate_left
        · (intro w hSw; (try dsimp only at hSw); go_simp; try with_reducible rfl)
        try simp only [Act.put, List.setIfInBounds_toArray, List.set_cons_zero, List.set_cons_succ, List.getElem_toArray, List.getElem_cons_zero, List.getElem_cons_succ]
        refine wpAnyH_take (i := 4) (oi := _) (v := ?_) rfl (by kernel_rfl) (by kernel_rfl) (by kernel_rfl) (fun _ _ _ h => h) (Or.inl ⟨by rfl, ?_⟩) hHeld ?_
        rotate_left
        · (intro w hSw; (try dsimp only at hSw); go_simp; try with_reducible rfl)
        try simp only [Act.put, List.setIfInBounds_toArray, List.set_cons_zero, List.set_cons_succ, List.getElem_toArray, List.getElem_cons_zero, List.getElem_cons_succ]
        refine wpAnyH_take (i := 5) (oi := _) (v := ?_) rfl (by kernel_rfl) (by kernel_rfl) (by kernel_rfl) (fun _ _ _ h => h) (Or.inl ⟨by rfl, ?_⟩) hHeld ?_
        rotate_left
        · (intro w hSw; (try dsimp only at hSw); go_simp; try with_reducible rfl)
        try simp only [Act.put, List.setIfInBounds_toArray, List.set_cons_zero, List.set_cons_succ, List.getElem_toArray, List.getElem_cons_zero, List.getElem_cons_succ]
        refine wpAnyH_ready (rs := [6]) (by kernel_rfl) (by simp) ?_
        refine AllReadyH.cons (o := _) rfl (fun K hK => ?_) AllReadyH.nil
        go_simp
        refine (H1.out _ hHeld.2.2.2.1 hHeld.2.2.2.2.2.2.2.2.2.2.2.2.2.2.2.2).mono ?_
        rintro e w' ⟨rfl, hb⟩
        go_wp2_with fail
        refine hK.out _ _ (ASt.step hb hpN ⟨hHeld.1, hHeld.2.1, hHeld.2.2.1, hHeld.2.2.2.1, hHeld.2.2.2.2.1, hHeld.2.2.2.2.2.1, hHeld.2.2.2.2.2.2.1, hHeld.2.2.2.2.2.2.2.1, hHeld.2.2.2.2.2.2.2.2.2.2.2.2.2.2.2.2.1, hHeld.2.2.2.2.2.2.2.2.2.2.2.2.2.2.2.2.2⟩) (fun hHeld => ?_)
        clear hK K hb
        try simp only [Act.put, List.setIfInBounds_toArray, List.set_cons_zero, List.set_cons_succ, List.getElem_toArray, List.getElem_cons_zero, List.getElem_cons_succ]
        refine wpAnyH_take (i := 7) (oi := _) (v := ?_) rfl (by kernel_rfl) (by kernel_rfl) (by kernel_rfl) (fun _ _ _ h => h) (Or.inl ⟨by rfl, ?_⟩) hHeld ?_
        rotate_left
        · (intro w hSw; (try dsimp only at hSw); go_simp; try with_reducible rfl)
        try simp only [Act.put, List.setIfInBounds_toArray, List.set_cons_zero, List.set_cons_succ, List.getElem_toArray, List.getElem_cons_zero, List.getElem_cons_succ]
        refine wpAnyH_take (i := 8) (oi := _) (v := undef) rfl (by kernel_rfl) (by kernel_rfl) (by kernel_rfl) (fun _ _ _ h => h) (Or.inr ⟨by rfl, rfl⟩) hHeld ?_
        try simp only [Act.put, List.setIfInBounds_toArray, List.set_cons_zero, List.set_cons_succ, List.getElem_toArray, List.getElem_cons_zero, List.getElem_cons_succ]
        refine wpAnyH_take (i := 9) (oi := _) (v := undef) rfl (by kernel_rfl) (by kernel_rfl) (by kernel_rfl) (fun _ _ _ h => h) (Or.inr ⟨by rfl, rfl⟩) hHeld ?_
        try simp only [Act.put, List.setIfInBounds_toArray, List.set_cons_zero, List.set_cons_succ, List.getElem_toArray, List.getElem_cons_zero, List.getElem_cons_succ]
        refine wpAnyH_take (i := 10) (oi := _) (v := undef) rfl (by kernel_rfl) (by kernel_rfl) (by kernel_rfl) (fun _ _ _ h => h) (Or.inr ⟨by rfl, rfl⟩) hHeld ?_
        try simp only [Act.put, List.setIfInBounds_toArray, List.set_cons_zero, List.set_cons_succ, List.getElem_toArray, List.getElem_cons_zero, List.getElem_cons_succ]
        refine wpAnyH_take (i := 11) (oi := _) (v := undef) rfl (by kernel_rfl) (by kernel_rfl) (by kernel_rfl) (fun _ _ _ h => h) (Or.inr ⟨by rfl, rfl⟩) hHeld ?_
        try simp only [Act.put, List.setIfInBounds_toArray, List.set_cons_zero, List.set_cons_succ, List.getElem_toArray, List.getElem_cons_zero, List.getElem_cons_succ]
        refine wpAnyH_take (i := 12) (oi := _) (v := undef) rfl (by kernel_rfl) (by kernel_rfl) (by kernel_rfl) (fun _ _ _ h => h) (Or.inr ⟨by rfl, rfl⟩) hHeld ?_
        try simp only [Act.put, List.setIfInBounds_toArray, List.set_cons_zero, List.set_cons_succ, List.getElem_toArray, List.getElem_cons_zero, List.getElem_cons_succ]
        refine wpAnyH_take (i := 13) (oi := _) (v := undef) rfl (by kernel_rfl) (by kernel_rfl) (by kernel_rfl) (fun _ _ _ h => h) (Or.inr ⟨by rfl, rfl⟩) hHeld ?_
        try simp only [Act.put, List.setIfInBounds_toArray, List.set_cons_zero, List.set_cons_succ, List.getElem_toArray, List.getElem_cons_zero, List.getElem_cons_succ]
        refine wpAnyH_ready (rs := [14]) (by kernel_rfl) (by simp) ?_
        refine AllReadyH.cons (o := _) rfl (fun K hK => ?_) AllReadyH.nil
        go_simp
        refine hK.out _ _ hHeld (fun hHeld => ?_)
        clear hK K
        try simp only [Act.put, List.setIfInBounds_toArray, List.set_cons_zero, List.set_cons_succ, List.getElem_toArray, List.getElem_cons_zero, List.getElem_cons_succ]
        refine wpAnyH_take (i := 15) (oi := _) (v := ?_) rfl (by kernel_rfl) (by kernel_rfl) (by kernel_rfl) (fun _ _ _ h => h) (Or.inl ⟨by rfl, ?_⟩) hHeld ?_
        rotate_left
        · (intro w hSw; (try dsimp only at hSw); go_simp; try with_reducible rfl)
        try simp only [Act.put, List.setIfInBounds_toArray, List.set_cons_zero, List.set_cons_succ, List.getElem_toArray, List.getElem_cons_zero, List.getElem_cons_succ]
        refine wpAnyH_done (by kernel_rfl) ?_ _
        have HQ2 := Lib.hid (hHeld.2.2.2.2.2.2.2.2.2.2.2.2.2.2.2.2.2)
        clear hHeld H1 H2
        go_wp2_with fail
        go_roundw
        case rel =>
          refine ⟨k + 1, by omega, by go_num, fun j hj hjk => ?_, HQ2.out⟩
          by_cases hjj : j < k
          · exact HP.out j hj hjj
          · obtain rfl : j = k := by omega
            exact fun e => absurd (HEQ.out.1 e).1 (by decide)
        case measure => simp [intOf]; omega
      | true =>
        go_wp2_with fail
        refine wp_region_held_drew (S := fun W' => W'.cell? ⟨p, o + k * 8, none⟩ = some (.int .i64 l[k].1.kind) ∧ W'.cell? ⟨p, o + k * 8 + 1, none⟩ = some (.string l[k].1.name) ∧ W'.cell? ⟨p, o + k * 8 + 2, none⟩ = some (.int .i64 l[k].1.n) ∧ W'.cell? ⟨p, o + k * 8 + 3, none⟩ = some (.slice gx l[k].1.args.length cx) ∧ W'.cell? ⟨p, o + k * 8 + 4, none⟩ = some (.int .i64 l[k].2.kind) ∧ W'.cell? ⟨p, o + k * 8 + 4 + 1, none⟩ = some (.string l[k].2.name) ∧ W'.cell? ⟨p, o + k * 8 + 4 + 2, none⟩ = some (.int .i64 l[k].2.n) ∧ W'.cell? ⟨p, o + k * 8 + 4 + 3, none⟩ = some (.slice gy l[k].2.args.length cy) ∧ W'.cell? ⟨w.heap.size, 0, none⟩ = some (.int .i64 a.kind) ∧ W'.cell? ⟨w.heap.size, 1, none⟩ = some (.string a.name) ∧ W'.cell? ⟨w.heap.size, 2, none⟩ = some (.int .i64 a.n) ∧ W'.cell? ⟨w.heap.size, 3, none⟩ = some (.slice ga a.args.length ca) ∧ W'.cell? ⟨w.heap.size + 1, 0, none⟩ = some (.int .i64 b.kind) ∧ W'.cell? ⟨w.heap.size + 1, 1, none⟩ = some (.string b.name) ∧ W'.cell? ⟨w.heap.size + 1, 2, none⟩ = some (.int .i64 b.n) ∧ W'.cell? ⟨w.heap.size + 1, 3, none⟩ = some (.slice gb b.args.length cb) ∧ (N ≤ W'.heap.size ∧ ASt w B l a b (.slice (some ⟨p, o, none⟩) l.length cl) (.slice ga a.args.length ca) (.slice gb b.args.length cb) W')) (by kernel_rfl) HG.out (fun hHeld => ?_)
        clear HG
        refine wpAnyH_take (i := 0) (oi := _) (v := ?_) rfl (by kernel_rfl) (by kernel_rfl) (by kernel_rfl) (fun _ _ _ h => h) (Or.inl ⟨by rfl, ?_⟩) hHeld ?_
        rotate_left
        · (intro w hSw; (try dsimp only at hSw); go_simp; try with_reducible rfl)
        try simp only [Act.put, List.setIfInBounds_toArray, List.set_cons_zero, List.set_cons_succ, List.getElem_toArray, List.getElem_cons_zero]
        refine wpAnyH_take (i := 1) (oi := _) (v := ?_) rfl (by kernel_rfl) (by kernel_rfl) (by kernel_rfl) (fun _ _ _ h => h) (Or.inl ⟨by rfl, ?_⟩) hHeld ?_
        rotate_left
        · (intro w hSw; (try dsimp only at hSw); go_simp; try with_reducible rfl)
        try simp only [Act.put, List.setIfInBounds_toArray, List.set_cons_zero, List.set_cons_succ, List.getElem_toArray, List.getElem_cons_zero, List.getElem_cons_succ]
        refine wpAnyH_take (i := 2) (oi := _) (v := ?_) rfl (by kernel_rfl) (by kernel_rfl) (by kernel_rfl) (fun _ _ _ h => h) (Or.inl ⟨by rfl, ?_⟩) hHeld ?_
        rotate_left
        · (intro w hSw; (try dsimp only at hSw); go_simp; try with_reducible rfl)
        try simp only [Act.put, List.setIfInBounds_toArray, List.set_cons_zero, List.set_cons_succ, List.getElem_toArray, List.getElem_cons_zero, List.getElem_cons_succ]
        refine wpAnyH_take (i := 3) (oi := _) (v := ?_) rfl (by kernel_rfl) (by kernel_rfl) (by kernel_rfl) (fun _ _ _ h => h) (Or.inl ⟨by rfl, ?_⟩) hHeld ?_
        rotate_left
        · (intro w hSw; (try dsimp only at hSw); go_simp; try with_reducible rfl)
        try simp only [Act.put, List.setIfInBounds_toArray, List.set_cons_zero, List.set_cons_succ, List.getElem_toArray, List.getElem_cons_zero, List.getElem_cons_succ]
        refine wpAnyH_take (i := 4) (oi := _) (v := ?_) rfl (by kernel_rfl) (by kernel_rfl) (by kernel_rfl) (fun _ _ _ h => h) (Or.inl ⟨by rfl, ?_⟩) hHeld ?_
        rotate_left
        · (intro w hSw; (try dsimp only at hSw); go_simp; try with_reducible rfl)
        try simp only [Act.put, List.setIfInBounds_toArray, List.set_cons_zero, List.set_cons_succ, List.getElem_toArray, List.getElem_cons_zero, List.getElem_cons_succ]
        refine wpAnyH_take (i := 5) (oi := _) (v := ?_) rfl (by kernel_rfl) (by kernel_rfl) (by kernel_rfl) (fun _ _ _ h => h) (Or.inl ⟨by rfl, ?_⟩) hHeld ?_
        rotate_left
        · (intro w hSw; (try dsimp only at hSw); go_simp; try with_reducible rfl)
        try simp only [Act.put, List.setIfInBounds_toArray, List.set_cons_zero, List.set_cons_succ, List.getElem_toArray, List.getElem_cons_zero, List.getElem_cons_succ]
        refine wpAnyH_ready (rs := [6]) (by kernel_rfl) (by simp) ?_
        refine AllReadyH.cons (o := _) rfl (fun K hK => ?_) AllReadyH.nil
        go_simp
        refine (H1.out _ hHeld.2.2.2.1 hHeld.2.2.2.2.2.2.2.2.2.2.2.2.2.2.2.2).mono ?_
        rintro e w' ⟨rfl, hb⟩
        go_wp2_with fail
        refine hK.out _ _ (ASt.step hb hpN ⟨hHeld.1, hHeld.2.1, hHeld.2.2.1, hHeld.2.2.2.1, hHeld.2.2.2.2.1, hHeld.2.2.2.2.2.1, hHeld.2.2.2.2.2.2.1, hHeld.2.2.2.2.2.2.2.1, hHeld.2.2.2.2.2.2.2.2.2.2.2.2.2.2.2.2.1, hHeld.2.2.2.2.2.2.2.2.2.2.2.2.2.2.2.2.2⟩) (fun hHeld => ?_)
        clear hK K hb
        try simp only [Act.put, List.setIfInBounds_toArray, List.set_cons_zero, List.set_cons_succ, List.getElem_toArray, List.getElem_cons_zero, List.getElem_cons_succ]
        refine wpAnyH_take (i := 7) (oi := _) (v := ?_) rfl (by kernel_rfl) (by kernel_rfl) (by kernel_rfl) (fun _ _ _ h => h) (Or.inl ⟨by rfl, ?_⟩) hHeld ?_
        rotate_left
        · (intro w hSw; (try dsimp only at hSw); go_simp; try with_reducible rfl)
        try simp only [Act.put, List.setIfInBounds_toArray, List.set_cons_zero, List.set_cons_succ, List.getElem_toArray, List.getElem_cons_zero, List.getElem_cons_succ]
        refine wpAnyH_take (i := 8) (oi := _) (v := ?_) rfl (by kernel_rfl) (by kernel_rfl) (by kernel_rfl) (fun _ _ _ h => h) (Or.inl ⟨by rfl, ?_⟩) hHeld ?_
        rotate_left
        · (intro w hSw; (try dsimp only at hSw); go_simp; try with_reducible rfl)
        try simp only [Act.put, List.setIfInBounds_toArray, List.set_cons_zero, List.set_cons_succ, List.getElem_toArray, List.getElem_cons_zero, List.getElem_cons_succ]
        refine wpAnyH_take (i := 9) (oi := _) (v := ?_) rfl (by kernel_rfl) (by kernel_rfl) (by kernel_rfl) (fun _ _ _ h => h) (Or.inl ⟨by rfl, ?_⟩) hHeld ?_
        rotate_left
        · (intro w hSw; (try dsimp only at hSw); go_simp; try with_reducible rfl)
        try simp only [Act.put, List.setIfInBounds_toArray, List.set_cons_zero, List.set_cons_succ, List.getElem_toArray, List.getElem_cons_zero, List.getElem_cons_succ]
        refine wpAnyH_take (i := 10) (oi := _) (v := ?_) rfl (by kernel_rfl) (by kernel_rfl) (by kernel_rfl) (fun _ _ _ h => h) (Or.inl ⟨by rfl, ?_⟩) hHeld ?_
        rotate_left
        · (intro w hSw; (try dsimp only at hSw); go_simp; try with_reducible rfl)
        try simp only [Act.put, List.setIfInBounds_toArray, List.set_cons_zero, List.set_cons_succ, List.getElem_toArray, List.getElem_cons_zero, List.getElem_cons_succ]
        refine wpAnyH_take (i := 11) (oi := _) (v := ?_) rfl (by kernel_rfl) (by kernel_rfl) (by kernel_rfl) (fun _ _ _ h => h) (Or.inl ⟨by rfl, ?_⟩) hHeld ?_
        rotate_left
        · (intro w hSw; (try dsimp only at hSw); go_simp; try with_reducible rfl)
        try simp only [Act.put, List.setIfInBounds_toArray, List.set_cons_zero, List.set_cons_succ, List.getElem_toArray, List.getElem_cons_zero, List.getElem_cons_succ]
        refine wpAnyH_take (i := 12) (oi := _) (v := ?_) rfl (by kernel_rfl) (by kernel_rfl) (by kernel_rfl) (fun _ _ _ h => h) (Or.inl ⟨by rfl, ?_⟩) hHeld ?_
        rotate_left
        · (intro w hSw; (try dsimp only at hSw); go_simp; try with_reducible rfl)
        try simp only [Act.put, List.setIfInBounds_toArray, List.set_cons_zero, List.set_cons_succ, List.getElem_toArray, List.getElem_cons_zero, List.getElem_cons_succ]
        refine wpAnyH_take (i := 13) (oi := _) (v := ?_) rfl (by kernel_rfl) (by kernel_rfl) (by kernel_rfl) (fun _ _ _ h => h) (Or.inl ⟨by rfl, ?_⟩) hHeld ?_
        rotate_left
        · (intro w hSw; (try dsimp only at hSw); go_simp; try with_reducible rfl)
        try simp only [Act.put, List.setIfInBounds_toArray, List.set_cons_zero, List.set_cons_succ, List.getElem_toArray, List.getElem_cons_zero, List.getElem_cons_succ]
        refine wpAnyH_ready (rs := [14]) (by kernel_rfl) (by simp) ?_
        refine AllReadyH.cons (o := _) rfl (fun K hK => ?_) AllReadyH.nil
        go_simp
        refine (H2.out _ hHeld.2.2.2.2.2.2.2.1 hHeld.2.2.2.2.2.2.2.2.2.2.2.2.2.2.2.2).mono ?_
        rintro e w' ⟨rfl, hb⟩
        go_wp2_with fail
        refine hK.out _ _ (ASt.step hb hpN ⟨hHeld.1, hHeld.2.1, hHeld.2.2.1, hHeld.2.2.2.1, hHeld.2.2.2.2.1, hHeld.2.2.2.2.2.1, hHeld.2.2.2.2.2.2.1, hHeld.2.2.2.2.2.2.2.1, hHeld.2.2.2.2.2.2.2.2.2.2.2.2.2.2.2.2.1, hHeld.2.2.2.2.2.2.2.2.2.2.2.2.2.2.2.2.2⟩) (fun hHeld => ?_)
        clear hK K hb
        try simp only [Act.put, List.setIfInBounds_toArray, List.set_cons_zero, List.set_cons_succ, List.getElem_toArray, List.getElem_cons_zero, List.getElem_cons_succ]
        refine wpAnyH_take (i := 15) (oi := _) (v := ?_) rfl (by kernel_rfl) (by kernel_rfl) (by kernel_rfl) (fun _ _ _ h => h) (Or.inl ⟨by rfl, ?_⟩) hHeld ?_
        rotate_left
        · (intro w hSw; (try dsimp only at hSw); go_simp; try with_reducible rfl)
        try simp only [Act.put, List.setIfInBounds_toArray, List.set_cons_zero, List.set_cons_succ, List.getElem_toArray, List.getElem_cons_zero, List.getElem_cons_succ]
        refine wpAnyH_done (by kernel_rfl) ?_ _
        have HQ2 := Lib.hid (hHeld.2.2.2.2.2.2.2.2.2.2.2.2.2.2.2.2.2)
        clear hHeld H1 H2
        cases q2 with
        | false =>
          go_wp2_with fail
          go_roundw
          case rel =>
            refine ⟨k + 1, by omega, by go_num, fun j hj hjk => ?_, HQ2.out⟩
            by_cases hjj : j < k
            · exact HP.out j hj hjj
            · obtain rfl : j = k := by omega
              exact fun e => absurd (HEQ.out.1 e).2 (by decide)
          case measure => simp [intOf]; omega
        | true =>
          have hix := idxP_first l (a, b) k hlt (HEQ.out.2 (by simp)) HP.out
          have HR := Lib.hid (show atP l (a, b) = (k : Int) by unfold atP; rw [if_pos (by rw [← HEQ.out.2 (by simp)]; exact List.getElem_mem hlt), hix])
          clear hix
          go_wp2_with fail
          go_ret
          exact ⟨by rw [HR.out]; rfl, HQ2.out.hb⟩
    · have hno : (a, b) ∉ l := fun hm => by
        obtain ⟨j, hj, he⟩ := List.getElem_of_mem hm
        exact HP.out j hj (by omega) he
      have HR := Lib.hid (show atP l (a, b) = -1 by unfold atP; rw [if_neg hno])
      obtain rfl : k = l.length := by omega
      clear hno HP
      go_wp2_with fail
      go_ret
      exact ⟨by rw [HR.out]; rfl, HQ.out.hb⟩

set_option maxRecDepth 100000 in
set_option maxHeartbeats 8000000 in
theorem mplace_any (l : List (Tm × Tm)) (a b : Tm) (w : World) (B : Nat) (svl sva svb : Value) (hB : B ≤ w.heap.size) (hl : prsM w B l svl) (ha : Tm.inn w B a sva) (hb : Tm.inn w B b svb) :
    Calls Try.prog 68 #[svl, .agg #[.int .i64 a.kind, .string a.name, .int .i64 a.n, sva], .agg #[.int .i64 b.kind, .string b.name, .int .i64 b.n, svb]] w fun e w' => e = .returned (.int .i64 ((l.idxOf (a, b) : Nat) : Int)) ∧ Below w.heap.size w w' := by
  have hst := ASt.start hB hl ha hb
  obtain ⟨gl, cl, rfl, hcl, hll, _⟩ := id hl
  obtain ⟨_, ga, ca, rfl, hca, hla, _⟩ := Tm.inn_iff.1 ha
  obtain ⟨_, gb, cb, rfl, hcb, hlb, _⟩ := Tm.inn_iff.1 hb
  have HST := Lib.hid hst
  clear hl ha hb hst
  go_enter Try.func68, Try.ntmps68
  go_wp2_with fail
  go_loopw [7, 10] (fun _ i wr => ∃ k : Nat, k ≤ l.length ∧ i = .int .i64 k ∧ Hid (∀ j (h : j < l.length), j < k → l[j] ≠ (a, b)) ∧ Hid (ASt w B l a b (.slice gl l.length cl) (.slice ga a.args.length ca) (.slice gb b.args.length cb) wr)) (fun _ i _ => l.length - (intOf i).toNat)
  case atStart => exact ⟨0, Nat.zero_le _, rfl, fun j _ h => by omega, HST.out⟩
  case round =>
    obtain ⟨k, hk, rfl, hp, hq⟩ := hrel
    have HP := Lib.hid hp.out
    have HQ := Lib.hid hq.out
    clear hp hq HST
    by_cases hlt : k < l.length
    · obtain ⟨p, o, sx, sy, hgl, hpB, c0, c1, c2, c3, c4, c5, c6, c7, i1, i2⟩ := prsM_get HQ.out.lm k hlt
      subst hgl
      obtain ⟨gx, cx, rfl⟩ := inn_sl6 i1
      obtain ⟨gy, cy, rfl⟩ := inn_sl6 i2
      have hB2 : B ≤ wr.heap.size := Nat.le_trans hB HQ.out.hb.size
      obtain ⟨N, hN⟩ : ∃ N, wr.heap.size = N := ⟨_, rfl⟩
      have hNle := Lib.hid (Nat.le_of_eq hN.symm)
      have hpN : p < N := by omega
      have HG := Lib.hid (ASt.step (N := N) ((Below.refl wr.heap.size wr).drew) hpN ⟨c0, c1, c2, c3, c4, c5, c6, c7, hNle.out, HQ.out⟩)
      obtain ⟨q1, hq1⟩ : ∃ q, Tm.same l[k].1 a = q := ⟨_, rfl⟩
      obtain ⟨q2, hq2⟩ : ∃ q, Tm.same l[k].2 b = q := ⟨_, rfl⟩
      have H1 := Lib.hid (fun (W : World) (hc : W.cell? ⟨p, o + k * 8 + 3, none⟩ = some (.slice gx l[k].1.args.length cx)) (h : N ≤ W.heap.size ∧ ASt w B l a b (.slice (some ⟨p, o, none⟩) l.length cl) (.slice ga a.args.length ca) (.slice gb b.args.length cb) W) => by
        have h1 := tsame_any l[k].1 a W B _ _ (Nat.le_trans h.2.hB h.2.hb.size) ((prs_at h.2.lm hlt).1 _ hc) (h.2.ia)
        rw [hq1] at h1
        exact h1)
      have H2 := Lib.hid (fun (W : World) (hc : W.cell? ⟨p, o + k * 8 + 4 + 3, none⟩ = some (.slice gy l[k].2.args.length cy)) (h : N ≤ W.heap.size ∧ ASt w B l a b (.slice (some ⟨p, o, none⟩) l.length cl) (.slice ga a.args.length ca) (.slice gb b.args.length cb) W) => by
        have h1 := tsame_any l[k].2 b W B _ _ (Nat.le_trans h.2.hB h.2.hb.size) ((prs_at h.2.lm hlt).2 _ hc) (h.2.ib)
        rw [hq2] at h1
        exact h1)
      have HEQ := Lib.hid (show l[k] = (a, b) ↔ q1 = true ∧ q2 = true by
        rw [← hq1, ← hq2, Tm.same_iff, Tm.same_iff]
        exact Prod.ext_iff)
      clear c0 c1 c2 c3 c4 c5 c6 c7 i1 i2 hN hpB hq1 hq2 hB2
      cases q1 with
      | false =>
        go_wp2_with fail
        refine wp_region_held_drew (S := fun W' => W'.cell? ⟨p, o + k * 8, none⟩ = some (.int .i64 l[k].1.kind) ∧ W'.cell? ⟨p, o + k * 8 + 1, none⟩ = some (.string l[k].1.name) ∧ W'.cell? ⟨p, o + k * 8 + 2, none⟩ = some (.int .i64 l[k].1.n) ∧ W'.cell? ⟨p, o + k * 8 + 3, none⟩ = some (.slice gx l[k].1.args.length cx) ∧ W'.cell? ⟨p, o + k * 8 + 4, none⟩ = some (.int .i64 l[k].2.kind) ∧ W'.cell? ⟨p, o + k * 8 + 4 + 1, none⟩ = some (.string l[k].2.name) ∧ W'.cell? ⟨p, o + k * 8 + 4 + 2, none⟩ = some (.int .i64 l[k].2.n) ∧ W'.cell? ⟨p, o + k * 8 + 4 + 3, none⟩ = some (.slice gy l[k].2.args.length cy) ∧ W'.cell? ⟨w.heap.size, 0, none⟩ = some (.int .i64 a.kind) ∧ W'.cell? ⟨w.heap.size, 1, none⟩ = some (.string a.name) ∧ W'.cell? ⟨w.heap.size, 2, none⟩ = some (.int .i64 a.n) ∧ W'.cell? ⟨w.heap.size, 3, none⟩ = some (.slice ga a.args.length ca) ∧ W'.cell? ⟨w.heap.size + 1, 0, none⟩ = some (.int .i64 b.kind) ∧ W'.cell? ⟨w.heap.size + 1, 1, none⟩ = some (.string b.name) ∧ W'.cell? ⟨w.heap.size + 1, 2, none⟩ = some (.int .i64 b.n) ∧ W'.cell? ⟨w.heap.size + 1, 3, none⟩ = some (.slice gb b.args.length cb) ∧ (N ≤ W'.heap.size ∧ ASt w B l a b (.slice (some ⟨p, o, none⟩) l.length cl) (.slice ga a.args.length ca) (.slice gb b.args.length cb) W')) (by kernel_rfl) HG.out (fun hHeld => ?_)
        clear HG
        refine wpAnyH_take (i := 0) (oi := _) (v := ?_) rfl (by kernel_rfl) (by kernel_rfl) (by kernel_rfl) (fun _ _ _ h => h) (Or.inl ⟨by rfl, ?_⟩) hHeld ?_
        rotate_left
        · (intro w hSw; (try dsimp only at hSw); go_simp; try with_reducible rfl)
        try simp only [Act.put, List.setIfInBounds_toArray, List.set_cons_zero, List.set_cons_succ, List.getElem_toArray, List.getElem_cons_zero]
        refine wpAnyH_take (i := 1) (oi := _) (v := ?_) rfl (by kernel_rfl) (by kernel_rfl) (by kernel_rfl) (fun _ _ _ h => h) (Or.inl ⟨by rfl, ?_⟩) hHeld ?_
        rotate_left
        · (intro w hSw; (try dsimp only at hSw); go_simp; try with_reducible rfl)
        try simp only [Act.put, List.setIfInBounds_toArray, List.set_cons_zero, List.set_cons_succ, List.getElem_toArray, List.getElem_cons_zero, List.getElem_cons_succ]
        refine wpAnyH_take (i := 2) (oi := _) (v := ?_) rfl (by kernel_rfl) (by kernel_rfl) (by kernel_rfl) (fun _ _ _ h => h) (Or.inl ⟨by rfl, ?_⟩) hHeld ?_
        rotate_left
        · (intro w hSw; (try dsimp only at hSw); go_simp; try with_reducible rfl)
        try simp only [Act.put, List.setIfInBounds_toArray, List.set_cons_zero, List.set_cons_succ, List.getElem_toArray, List.getElem_cons_zero, List.getElem_cons_succ]
        refine wpAnyH_take (i := 3) (oi := _) (v := ?_) rfl (by kernel_rfl) (by kernel_rfl) (by kernel_rfl) (fun _ _ _ h => h) (Or.inl ⟨by rfl, ?_⟩) hHeld ?_
        rotate_left
        · (intro w hSw; (try dsimp only at hSw); go_simp; try with_reducible rfl)
        try simp only [Act.put, List.setIfInBounds_toArray, List.set_cons_zero, List.set_cons_succ, List.getElem_toArray, List.getElem_cons_zero, List.getElem_cons_succ]
        refine wpAnyH_take (i := 4) (oi := _) (v := ?_) rfl (by kernel_rfl) (by kernel_rfl) (by kernel_rfl) (fun _ _ _ h => h) (Or.inl ⟨by rfl, ?_⟩) hHeld ?_
        rotate_left
        · (intro w hSw; (try dsimp only at hSw); go_simp; try with_reducible rfl)
        try simp only [Act.put, List.setIfInBounds_toArray, List.set_cons_zero, List.set_cons_succ, List.getElem_toArray, List.getElem_cons_zero, List.getElem_cons_succ]
        refine wpAnyH_take (i := 5) (oi := _) (v := ?_) rfl (by kernel_rfl) (by kernel_rfl) (by kernel_rfl) (fun _ _ _ h => h) (Or.inl ⟨by rfl, ?_⟩) hHeld ?_
        rotate_left
        · (intro w hSw; (try dsimp only at hSw); go_simp; try with_reducible rfl)
        try simp only [Act.put, List.setIfInBounds_toArray, List.set_cons_zero, List.set_cons_succ, List.getElem_toArray, List.getElem_cons_zero, List.getElem_cons_succ]
        refine wpAnyH_ready (rs := [6]) (by kernel_rfl) (by simp) ?_
        refine AllReadyH.cons (o := _) rfl (fun K hK => ?_) AllReadyH.nil
        go_simp
        refine (H1.out _ hHeld.2.2.2.1 hHeld.2.2.2.2.2.2.2.2.2.2.2.2.2.2.2.2).mono ?_
        rintro e w' ⟨rfl, hb⟩
        go_wp2_with fail
        refine hK.out _ _ (ASt.step hb hpN ⟨hHeld.1, hHeld.2.1, hHeld.2.2.1, hHeld.2.2.2.1, hHeld.2.2.2.2.1, hHeld.2.2.2.2.2.1, hHeld.2.2.2.2.2.2.1, hHeld.2.2.2.2.2.2.2.1, hHeld.2.2.2.2.2.2.2.2.2.2.2.2.2.2.2.2.1, hHeld.2.2.2.2.2.2.2.2.2.2.2.2.2.2.2.2.2⟩) (fun hHeld => ?_)
        clear hK K hb
        try simp only [Act.put, List.setIfInBounds_toArray, List.set_cons_zero, List.set_cons_succ, List.getElem_toArray, List.getElem_cons_zero, List.getElem_cons_succ]
        refine wpAnyH_take (i := 7) (oi := _) (v := ?_) rfl (by kernel_rfl) (by kernel_rfl) (by kernel_rfl) (fun _ _ _ h => h) (Or.inl ⟨by rfl, ?_⟩) hHeld ?_
        rotate_left
        · (intro w hSw; (try dsimp only at hSw); go_simp; try with_reducible rfl)
        try simp only [Act.put, List.setIfInBounds_toArray, List.set_cons_zero, List.set_cons_succ, List.getElem_toArray, List.getElem_cons_zero, List.getElem_cons_succ]
        refine wpAnyH_take (i := 8) (oi := _) (v := undef) rfl (by kernel_rfl) (by kernel_rfl) (by kernel_rfl) (fun _ _ _ h => h) (Or.inr ⟨by rfl, rfl⟩) hHeld ?_
        try simp only [Act.put, List.setIfInBounds_toArray, List.set_cons_zero, List.set_cons_succ, List.getElem_toArray, List.getElem_cons_zero, List.getElem_cons_succ]
        refine wpAnyH_take (i := 9) (oi := _) (v := undef) rfl (by kernel_rfl) (by kernel_rfl) (by kernel_rfl) (fun _ _ _ h => h) (Or.inr ⟨by rfl, rfl⟩) hHeld ?_
        try simp only [Act.put, List.setIfInBounds_toArray, List.set_cons_zero, List.set_cons_succ, List.getElem_toArray, List.getElem_cons_zero, List.getElem_cons_succ]
        refine wpAnyH_take (i := 10) (oi := _) (v := undef) rfl (by kernel_rfl) (by kernel_rfl) (by kernel_rfl) (fun _ _ _ h => h) (Or.inr ⟨by rfl, rfl⟩) hHeld ?_
        try simp only [Act.put, List.setIfInBounds_toArray, List.set_cons_zero, List.set_cons_succ, List.getElem_toArray, List.getElem_cons_zero, List.getElem_cons_succ]
        refine wpAnyH_take (i := 11) (oi := _) (v := undef) rfl (by kernel_rfl) (by kernel_rfl) (by kernel_rfl) (fun _ _ _ h => h) (Or.inr ⟨by rfl, rfl⟩) hHeld ?_
        try simp only [Act.put, List.setIfInBounds_toArray, List.set_cons_zero, List.set_cons_succ, List.getElem_toArray, List.getElem_cons_zero, List.getElem_cons_succ]
        refine wpAnyH_take (i := 12) (oi := _) (v := undef) rfl (by kernel_rfl) (by kernel_rfl) (by kernel_rfl) (fun _ _ _ h => h) (Or.inr ⟨by rfl, rfl⟩) hHeld ?_
        try simp only [Act.put, List.setIfInBounds_toArray, List.set_cons_zero, List.set_cons_succ, List.getElem_toArray, List.getElem_cons_zero, List.getElem_cons_succ]
        refine wpAnyH_take (i := 13) (oi := _) (v := undef) rfl (by kernel_rfl) (by kernel_rfl) (by kernel_rfl) (fun _ _ _ h => h) (Or.inr ⟨by rfl, rfl⟩) hHeld ?_
        try simp only [Act.put, List.setIfInBounds_toArray, List.set_cons_zero, List.set_cons_succ, List.getElem_toArray, List.getElem_cons_zero, List.getElem_cons_succ]
        refine wpAnyH_ready (rs := [14]) (by kernel_rfl) (by simp) ?_
        refine AllReadyH.cons (o := _) rfl (fun K hK => ?_) AllReadyH.nil
        go_simp
        refine hK.out _ _ hHeld (fun hHeld => ?_)
        clear hK K
        try simp only [Act.put, List.setIfInBounds_toArray, List.set_cons_zero, List.set_cons_succ, List.getElem_toArray, List.getElem_cons_zero, List.getElem_cons_succ]
        refine wpAnyH_take (i := 15) (oi := _) (v := ?_) rfl (by kernel_rfl) (by kernel_rfl) (by kernel_rfl) (fun _ _ _ h => h) (Or.inl ⟨by rfl, ?_⟩) hHeld ?_
        rotate_left
        · (intro w hSw; (try dsimp only at hSw); go_simp; try with_reducible rfl)
        try simp only [Act.put, List.setIfInBounds_toArray, List.set_cons_zero, List.set_cons_succ, List.getElem_toArray, List.getElem_cons_zero, List.getElem_cons_succ]
        refine wpAnyH_done (by kernel_rfl) ?_ _
        have HQ2 := Lib.hid (hHeld.2.2.2.2.2.2.2.2.2.2.2.2.2.2.2.2.2)
        clear hHeld H1 H2
        go_wp2_with fail
        go_roundw
        case rel =>
          refine ⟨k + 1, by omega, by go_num, fun j hj hjk => ?_, HQ2.out⟩
          by_cases hjj : j < k
          · exact HP.out j hj hjj
          · obtain rfl : j = k := by omega
            exact fun e => absurd (HEQ.out.1 e).1 (by decide)
        case measure => simp [intOf]; omega
      | true =>
        go_wp2_with fail
        refine wp_region_held_drew (S := fun W' => W'.cell? ⟨p, o + k * 8, none⟩ = some (.int .i64 l[k].1.kind) ∧ W'.cell? ⟨p, o + k * 8 + 1, none⟩ = some (.string l[k].1.name) ∧ W'.cell? ⟨p, o + k * 8 + 2, none⟩ = some (.int .i64 l[k].1.n) ∧ W'.cell? ⟨p, o + k * 8 + 3, none⟩ = some (.slice gx l[k].1.args.length cx) ∧ W'.cell? ⟨p, o + k * 8 + 4, none⟩ = some (.int .i64 l[k].2.kind) ∧ W'.cell? ⟨p, o + k * 8 + 4 + 1, none⟩ = some (.string l[k].2.name) ∧ W'.cell? ⟨p, o + k * 8 + 4 + 2, none⟩ = some (.int .i64 l[k].2.n) ∧ W'.cell? ⟨p, o + k * 8 + 4 + 3, none⟩ = some (.slice gy l[k].2.args.length cy) ∧ W'.cell? ⟨w.heap.size, 0, none⟩ = some (.int .i64 a.kind) ∧ W'.cell? ⟨w.heap.size, 1, none⟩ = some (.string a.name) ∧ W'.cell? ⟨w.heap.size, 2, none⟩ = some (.int .i64 a.n) ∧ W'.cell? ⟨w.heap.size, 3, none⟩ = some (.slice ga a.args.length ca) ∧ W'.cell? ⟨w.heap.size + 1, 0, none⟩ = some (.int .i64 b.kind) ∧ W'.cell? ⟨w.heap.size + 1, 1, none⟩ = some (.string b.name) ∧ W'.cell? ⟨w.heap.size + 1, 2, none⟩ = some (.int .i64 b.n) ∧ W'.cell? ⟨w.heap.size + 1, 3, none⟩ = some (.slice gb b.args.length cb) ∧ (N ≤ W'.heap.size ∧ ASt w B l a b (.slice (some ⟨p, o, none⟩) l.length cl) (.slice ga a.args.length ca) (.slice gb b.args.length cb) W')) (by kernel_rfl) HG.out (fun hHeld => ?_)
        clear HG
        refine wpAnyH_take (i := 0) (oi := _) (v := ?_) rfl (by kernel_rfl) (by kernel_rfl) (by kernel_rfl) (fun _ _ _ h => h) (Or.inl ⟨by rfl, ?_⟩) hHeld ?_
        rotate_left
        · (intro w hSw; (try dsimp only at hSw); go_simp; try with_reducible rfl)
        try simp only [Act.put, List.setIfInBounds_toArray, List.set_cons_zero, List.set_cons_succ, List.getElem_toArray, List.getElem_cons_zero]
        refine wpAnyH_take (i := 1) (oi := _) (v := ?_) rfl (by kernel_rfl) (by kernel_rfl) (by kernel_rfl) (fun _ _ _ h => h) (Or.inl ⟨by rfl, ?_⟩) hHeld ?_
        rotate_left
        · (intro w hSw; (try dsimp only at hSw); go_simp; try with_reducible rfl)
        try simp only [Act.put, List.setIfInBounds_toArray, List.set_cons_zero, List.set_cons_succ, List.getElem_toArray, List.getElem_cons_zero, List.getElem_cons_succ]
        refine wpAnyH_take (i := 2) (oi := _) (v := ?_) rfl (by kernel_rfl) (by kernel_rfl) (by kernel_rfl) (fun _ _ _ h => h) (Or.inl ⟨by rfl, ?_⟩) hHeld ?_
        rotate_left
        · (intro w hSw; (try dsimp only at hSw); go_simp; try with_reducible rfl)
        try simp only [Act.put, List.setIfInBounds_toArray, List.set_cons_zero, List.set_cons_succ, List.getElem_toArray, List.getElem_cons_zero, List.getElem_cons_succ]
        refine wpAnyH_take (i := 3) (oi := _) (v := ?_) rfl (by kernel_rfl) (by kernel_rfl) (by kernel_rfl) (fun _ _ _ h => h) (Or.inl ⟨by rfl, ?_⟩) hHeld ?_
        rotate_left
        · (intro w hSw; (try dsimp only at hSw); go_simp; try with_reducible rfl)
        try simp only [Act.put, List.setIfInBounds_toArray, List.set_cons_zero, List.set_cons_succ, List.getElem_toArray, List.getElem_cons_zero, List.getElem_cons_succ]
        refine wpAnyH_take (i := 4) (oi := _) (v := ?_) rfl (by kernel_rfl) (by kernel_rfl) (by kernel_rfl) (fun _ _ _ h => h) (Or.inl ⟨by rfl, ?_⟩) hHeld ?_
        rotate_left
        · (intro w hSw; (try dsimp only at hSw); go_simp; try with_reducible rfl)
        try simp only [Act.put, List.setIfInBounds_toArray, List.set_cons_zero, List.set_cons_succ, List.getElem_toArray, List.getElem_cons_zero, List.getElem_cons_succ]
        refine wpAnyH_take (i := 5) (oi := _) (v := ?_) rfl (by kernel_rfl) (by kernel_rfl) (by kernel_rfl) (fun _ _ _ h => h) (Or.inl ⟨by rfl, ?_⟩) hHeld ?_
        rotate_left
        · (intro w hSw; (try dsimp only at hSw); go_simp; try with_reducible rfl)
        try simp only [Act.put, List.setIfInBounds_toArray, List.set_cons_zero, List.set_cons_succ, List.getElem_toArray, List.getElem_cons_zero, List.getElem_cons_succ]
        refine wpAnyH_ready (rs := [6]) (by kernel_rfl) (by simp) ?_
        refine AllReadyH.cons (o := _) rfl (fun K hK => ?_) AllReadyH.nil
        go_simp
        refine (H1.out _ hHeld.2.2.2.1 hHeld.2.2.2.2.2.2.2.2.2.2.2.2.2.2.2.2).mono ?_
        rintro e w' ⟨rfl, hb⟩
        go_wp2_with fail
        refine hK.out _ _ (ASt.step hb hpN ⟨hHeld.1, hHeld.2.1, hHeld.2.2.1, hHeld.2.2.2.1, hHeld.2.2.2.2.1, hHeld.2.2.2.2.2.1, hHeld.2.2.2.2.2.2.1, hHeld.2.2.2.2.2.2.2.1, hHeld.2.2.2.2.2.2.2.2.2.2.2.2.2.2.2.2.1, hHeld.2.2.2.2.2.2.2.2.2.2.2.2.2.2.2.2.2⟩) (fun hHeld => ?_)
        clear hK K hb
        try simp only [Act.put, List.setIfInBounds_toArray, List.set_cons_zero, List.set_cons_succ, List.getElem_toArray, List.getElem_cons_zero, List.getElem_cons_succ]
        refine wpAnyH_take (i := 7) (oi := _) (v := ?_) rfl (by kernel_rfl) (by kernel_rfl) (by kernel_rfl) (fun _ _ _ h => h) (Or.inl ⟨by rfl, ?_⟩) hHeld ?_
        rotate_left
        · (intro w hSw; (try dsimp only at hSw); go_simp; try with_reducible rfl)
        try simp only [Act.put, List.setIfInBounds_toArray, List.set_cons_zero, List.set_cons_succ, List.getElem_toArray, List.getElem_cons_zero, List.getElem_cons_succ]
        refine wpAnyH_take (i := 8) (oi := _) (v := ?_) rfl (by kernel_rfl) (by kernel_rfl) (by kernel_rfl) (fun _ _ _ h => h) (Or.inl ⟨by rfl, ?_⟩) hHeld ?_
        rotate_left
        · (intro w hSw; (try dsimp only at hSw); go_simp; try with_reducible rfl)
        try simp only [Act.put, List.setIfInBounds_toArray, List.set_cons_zero, List.set_cons_succ, List.getElem_toArray, List.getElem_cons_zero, List.getElem_cons_succ]
        refine wpAnyH_take (i := 9) (oi := _) (v := ?_) rfl (by kernel_rfl) (by kernel_rfl) (by kernel_rfl) (fun _ _ _ h => h) (Or.inl ⟨by rfl, ?_⟩) hHeld ?_
        rotate_left
        · (intro w hSw; (try dsimp only at hSw); go_simp; try with_reducible rfl)
        try simp only [Act.put, List.setIfInBounds_toArray, List.set_cons_zero, List.set_cons_succ, List.getElem_toArray, List.getElem_cons_zero, List.getElem_cons_succ]
        refine wpAnyH_take (i := 10) (oi := _) (v := ?_) rfl (by kernel_rfl) (by kernel_rfl) (by kernel_rfl) (fun _ _ _ h => h) (Or.inl ⟨by rfl, ?_⟩) hHeld ?_
        rotate_left
        · (intro w hSw; (try dsimp only at hSw); go_simp; try with_reducible rfl)
        try simp only [Act.put, List.setIfInBounds_toArray, List.set_cons_zero, List.set_cons_succ, List.getElem_toArray, List.getElem_cons_zero, List.getElem_cons_succ]
        refine wpAnyH_take (i := 11) (oi := _) (v := ?_) rfl (by kernel_rfl) (by kernel_rfl) (by kernel_rfl) (fun _ _ _ h => h) (Or.inl ⟨by rfl, ?_⟩) hHeld ?_
        rotate_left
        · (intro w hSw; (try dsimp only at hSw); go_simp; try with_reducible rfl)
        try simp only [Act.put, List.setIfInBounds_toArray, List.set_cons_zero, List.set_cons_succ, List.getElem_toArray, List.getElem_cons_zero, List.getElem_cons_succ]
        refine wpAnyH_take (i := 12) (oi := _) (v := ?_) rfl (by kernel_rfl) (by kernel_rfl) (by kernel_rfl) (fun _ _ _ h => h) (Or.inl ⟨by rfl, ?_⟩) hHeld ?_
        rotate_left
        · (intro w hSw; (try dsimp only at hSw); go_simp; try with_reducible rfl)
        try simp only [Act.put, List.setIfInBounds_toArray, List.set_cons_zero, List.set_cons_succ, List.getElem_toArray, List.getElem_cons_zero, List.getElem_cons_succ]
        refine wpAnyH_take (i := 13) (oi := _) (v := ?_) rfl (by kernel_rfl) (by kernel_rfl) (by kernel_rfl) (fun _ _ _ h => h) (Or.inl ⟨by rfl, ?_⟩) hHeld ?_
        rotate_left
        · (intro w hSw; (try dsimp only at hSw); go_simp; try with_reducible rfl)
        try simp only [Act.put, List.setIfInBounds_toArray, List.set_cons_zero, List.set_cons_succ, List.getElem_toArray, List.getElem_cons_zero, List.getElem_cons_succ]
        refine wpAnyH_ready (rs := [14]) (by kernel_rfl) (by simp) ?_
        refine AllReadyH.cons (o := _) rfl (fun K hK => ?_) AllReadyH.nil
        go_simp
        refine (H2.out _ hHeld.2.2.2.2.2.2.2.1 hHeld.2.2.2.2.2.2.2.2.2.2.2.2.2.2.2.2).mono ?_
        rintro e w' ⟨rfl, hb⟩
        go_wp2_with fail
        refine hK.out _ _ (ASt.step hb hpN ⟨hHeld.1, hHeld.2.1, hHeld.2.2.1, hHeld.2.2.2.1, hHeld.2.2.2.2.1, hHeld.2.2.2.2.2.1, hHeld.2.2.2.2.2.2.1, hHeld.2.2.2.2.2.2.2.1, hHeld.2.2.2.2.2.2.2.2.2.2.2.2.2.2.2.2.1, hHeld.2.2.2.2.2.2.2.2.2.2.2.2.2.2.2.2.2⟩) (fun hHeld => ?_)
        clear hK K hb
        try simp only [Act.put, List.setIfInBounds_toArray, List.set_cons_zero, List.set_cons_succ, List.getElem_toArray, List.getElem_cons_zero, List.getElem_cons_succ]
        refine wpAnyH_take (i := 15) (oi := _) (v := ?_) rfl (by kernel_rfl) (by kernel_rfl) (by kernel_rfl) (fun _ _ _ h => h) (Or.inl ⟨by rfl, ?_⟩) hHeld ?_
        rotate_left
        · (intro w hSw; (try dsimp only at hSw); go_simp; try with_reducible rfl)
        try simp only [Act.put, List.setIfInBounds_toArray, List.set_cons_zero, List.set_cons_succ, List.getElem_toArray, List.getElem_cons_zero, List.getElem_cons_succ]
        refine wpAnyH_done (by kernel_rfl) ?_ _
        have HQ2 := Lib.hid (hHeld.2.2.2.2.2.2.2.2.2.2.2.2.2.2.2.2.2)
        clear hHeld H1 H2
        cases q2 with
        | false =>
          go_wp2_with fail
          go_roundw
          case rel =>
            refine ⟨k + 1, by omega, by go_num, fun j hj hjk => ?_, HQ2.out⟩
            by_cases hjj : j < k
            · exact HP.out j hj hjj
            · obtain rfl : j = k := by omega
              exact fun e => absurd (HEQ.out.1 e).2 (by decide)
          case measure => simp [intOf]; omega
        | true =>
          have hix := idxP_first l (a, b) k hlt (HEQ.out.2 (by simp)) HP.out
          have HR := Lib.hid (show ((l.idxOf (a, b) : Nat) : Int) = (k : Int) by rw [hix])
          clear hix
          go_wp2_with fail
          go_ret
          exact ⟨by rw [HR.out]; rfl, HQ2.out.hb⟩
    · have hno : (a, b) ∉ l := fun hm => by
        obtain ⟨j, hj, he⟩ := List.getElem_of_mem hm
        exact HP.out j hj (by omega) he
      have HR := Lib.hid (show ((l.idxOf (a, b) : Nat) : Int) = (l.length : Int) by rw [List.idxOf_eq_length hno])
      obtain rfl : k = l.length := by omega
      clear hno HP
      go_wp2_with fail
      go_ret
      exact ⟨by rw [HR.out]; rfl, HQ.out.hb⟩
end Go.Proofs.Ytjbicfimoiiglaa
