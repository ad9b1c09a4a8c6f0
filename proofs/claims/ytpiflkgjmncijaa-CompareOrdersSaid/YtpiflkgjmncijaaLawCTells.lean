/-
  The statement CompareTells, walked: for any two terms that lie in memory the call returns true, and nothing that was there has turned.
-/
import Derived.Test.YtpiflkgjmncijaaKnows2
import Derived.Test.YtpiflkgjmncijaaRVar
import Derived.Test.YtpiflkgjmncijaaRCmp
import Derived.Test.YtpiflkgjmncijaaRefB
namespace Go.Proofs.Ytpiflkgjmncijaa
open Go.RowKit

theorem some_two {a b : Tm} (h : Tm.someB [a, b] = true) : a.size ≤ 1000000 ∧ b.size ≤ 1000000 :=
  ⟨Nat.le_trans (Tm.some_size h (by simp)) (by omega), Nat.le_trans (Tm.some_size h (by simp)) (by omega)⟩

set_option maxRecDepth 100000 in
set_option maxHeartbeats 8000000 in
theorem ctells_any (a b : Tm) (w : World) (sva svb : Value) (hia : Tm.inn w w.heap.size a sva) (hib : Tm.inn w w.heap.size b svb) :
    Calls Try.prog 3 #[.agg #[.int .i64 a.kind, .string a.name, .int .i64 a.n, sva], .agg #[.int .i64 b.kind, .string b.name, .int .i64 b.n, svb]] w fun e w' => e = .returned (.bool true) ∧ Below w.heap.size w w' := by
  have hst := TSt.start hia hib
  obtain ⟨_, ga, ca, rfl, _, _, _⟩ := Tm.inn_iff.1 hia
  obtain ⟨_, gb, cb, rfl, _, _, _⟩ := Tm.inn_iff.1 hib
  clear hia hib
  go_enter Try.func3, Try.ntmps3
  go_wp2_with fail
  have hst0 := hst.next ((Below.refl _ _).alloc (Nat.le_refl _) (Obj.cells #[.int .i64 a.kind, .string a.name, .int .i64 a.n, .slice ga a.args.length ca, .int .i64 b.kind, .string b.name, .int .i64 b.n, .slice gb b.args.length cb] 24 (0, 0)))
  have hsl := two_slice (n := w.heap.size + 1 + 1) (newBlk (World.alloc _ _) (Obj.cells #[.int .i64 a.kind, .string a.name, .int .i64 a.n, .slice ga a.args.length ca, .int .i64 b.kind, .string b.name, .int .i64 b.n, .slice gb b.args.length cb] 24 (0, 0)) _ (by simp)) hst0.ia hst0.ib
  clear hst
  revert hst0 hsl
  generalize (((w.alloc (Obj.cells #[.int .i64 a.kind, .string a.name, .int .i64 a.n, .slice ga a.args.length ca] 24 (0, 0))).alloc (Obj.cells #[.int .i64 b.kind, .string b.name, .int .i64 b.n, .slice gb b.args.length cb] 24 (0, 0))).alloc (Obj.cells #[.int .i64 a.kind, .string a.name, .int .i64 a.n, .slice ga a.args.length ca, .int .i64 b.kind, .string b.name, .int .i64 b.n, .slice gb b.args.length cb] 24 (0, 0))) = W0
  intro hst0 hsl
  refine (some_any [a, b] W0 _ _ (Nat.le_refl _) hsl).mono ?_
  rintro e W1 ⟨rfl, hb1⟩
  have hst1 := hst0.next hb1
  clear hst0 hsl hb1
  cases hs : Tm.someB [a, b] with
  | false =>
    clear hs
    go_wp2_with fail
    refine (knows2_any W1).mono ?_
    rintro e W2 ⟨rfl, hb2⟩
    go_wp2_with fail
    go_ret
    exact ⟨rfl, (hst1.next hb2).below⟩
  | true =>
    obtain ⟨hsa, hsb⟩ := some_two hs
    clear hs
    obtain ⟨a0, a1, a2, a3, b0, b1, b2, b3, _⟩ := hst1.cells
    go_wp2_with fail
    refine (ccompare_any a b W1 _ _ hst1.ia hst1.ib hsa hsb).mono ?_
    rintro e W2 ⟨rfl, hb2⟩
    have hst2 := hst1.next hb2
    have HN := Lib.hid (show ccN a b = if a.right = true ∧ b.right = true then a.cmp b else 0 from rfl)
    have HE := Lib.hid (show ccE a b = if a.right = true ∧ b.right = true then 0 else 1 from rfl)
    obtain ⟨n, hn⟩ : ∃ n, ccN a b = n := ⟨_, rfl⟩
    obtain ⟨er, her⟩ : ∃ er, ccE a b = er := ⟨_, rfl⟩
    rw [hn] at HN
    rw [her] at HE
    rw [hn, her]
    clear hst1 hb2 a0 a1 a2 a3 b0 b1 b2 b3 hn her
    go_wp2_with fail
    go_region_held3 (fun W' => W'.cell? ⟨w.heap.size, 0, none⟩ = some (.int .i64 a.kind) ∧ W'.cell? ⟨w.heap.size, 1, none⟩ = some (.string a.name) ∧ W'.cell? ⟨w.heap.size, 2, none⟩ = some (.int .i64 a.n) ∧ W'.cell? ⟨w.heap.size, 3, none⟩ = some (.slice ga a.args.length ca) ∧
      W'.cell? ⟨w.heap.size + 1, 0, none⟩ = some (.int .i64 b.kind) ∧ W'.cell? ⟨w.heap.size + 1, 1, none⟩ = some (.string b.name) ∧ W'.cell? ⟨w.heap.size + 1, 2, none⟩ = some (.int .i64 b.n) ∧ W'.cell? ⟨w.heap.size + 1, 3, none⟩ = some (.slice gb b.args.length cb) ∧ TSt w a b (.slice ga a.args.length ca) (.slice gb b.args.length cb) W')
      (first | exact (hst2.next ((Below.refl _ _).drew)).cells | exact TSt.step (by assumption) (by assumption))
      (first
        | (go_at_call 14; refine (cvariant_any a b _ _ _ (TSt.a' (w := w) (b := b) (svb := .slice gb b.args.length cb) (by assumption)) (TSt.b' (w := w) (a := a) (sva := .slice ga a.args.length ca) (by assumption)) hsa hsb).mono ?_; rintro e w' ⟨rfl, hb⟩)
        | (go_at_call 15; refine (rvariant_any a b _ _ _ (TSt.a' (w := w) (b := b) (svb := .slice gb b.args.length cb) (by assumption)) (TSt.b' (w := w) (a := a) (sva := .slice ga a.args.length ca) (by assumption)) hsa hsb).mono ?_; rintro e w' ⟨rfl, hb⟩))
    rename_i hst3
    have hst4 := hst3.2.2.2.2.2.2.2.2
    obtain ⟨a0, a1, a2, a3, b0, b1, b2, b3, _⟩ := hst3
    go_wp2_with fail
    cases har : a.right with
    | false =>
      obtain rfl : n = 0 := by have := HN.out; rw [har] at this; simpa using this
      obtain rfl : er = 1 := by have := HE.out; rw [har] at this; simpa using this
      refine (rright_false har _ _ hst4.ia hsa).mono ?_
      rintro e W5 ⟨rfl, hb5⟩
      have hst5 := hst4.next hb5
      clear hst4 hb5 a0 a1 a2 a3 b0 b1 b2 b3 har HN HE
      go_wp2_with fail
      refine (knows2_any W5).mono ?_
      rintro e W6 ⟨rfl, hb6⟩
      have hB := Lib.hid (hst5.next hb6).below
      clear hst5 hb6
      go_wp2_with fail
      go_ret
      exact ⟨rfl, hB.out⟩
    | true =>
      refine (rright_true har _ _ hst4.ia hsa).mono ?_
      rintro e W5 ⟨rfl, hb5⟩
      have hst5 := hst4.next hb5
      clear hst4 hb5 a0 a1 a2 a3 b0 b1 b2 b3
      obtain ⟨a0, a1, a2, a3, b0, b1, b2, b3, _⟩ := hst5.cells
      go_wp2_with fail
      cases hbr : b.right with
      | false =>
        obtain rfl : n = 0 := by have := HN.out; rw [hbr] at this; simpa using this
        obtain rfl : er = 1 := by have := HE.out; rw [hbr] at this; simpa using this
        refine (rright_false hbr _ _ hst5.ib hsb).mono ?_
        rintro e W6 ⟨rfl, hb6⟩
        have hst6 := hst5.next hb6
        clear hst5 hb6 a0 a1 a2 a3 b0 b1 b2 b3 har hbr HN HE
        go_wp2_with fail
        refine (knows2_any W6).mono ?_
        rintro e W7 ⟨rfl, hb7⟩
        have hB := Lib.hid (hst6.next hb7).below
        clear hst6 hb7
        go_wp2_with fail
        go_ret
        exact ⟨rfl, hB.out⟩
      | true =>
        obtain rfl : n = a.cmp b := by have := HN.out; rw [har, hbr] at this; simpa using this
        obtain rfl : er = 0 := by have := HE.out; rw [har, hbr] at this; simpa using this
        refine (rright_true hbr _ _ hst5.ib hsb).mono ?_
        rintro e W6 ⟨rfl, hb6⟩
        have hst6 := hst5.next hb6
        have hfa := right_fair har
        have hfb := right_fair hbr
        clear hst5 hb6 a0 a1 a2 a3 b0 b1 b2 b3 har hbr HN HE
        obtain ⟨a0, a1, a2, a3, b0, b1, b2, b3, _⟩ := hst6.cells
        have hrc := Lib.hid (rcmp_any a b W6 W6.heap.size _ _ hfa hfb (Nat.le_refl _) hst6.ia hst6.ib)
        clear hfa hfb
        go_wp2_with fail
        refine hrc.out.mono ?_
        rintro e W7 ⟨rfl, hb7⟩
        have hst7 := hst6.next hb7
        clear hst6 hb7 a0 a1 a2 a3 b0 b1 b2 b3 hrc
        go_wp2_with fail
        refine (knows2_any W7).mono ?_
        rintro e W8 ⟨rfl, hb8⟩
        have hB := Lib.hid (hst7.next hb8).below
        clear hst7 hb8
        go_wp2_with fail
        go_ret
        exact ⟨rfl, hB.out⟩
end Go.Proofs.Ytpiflkgjmncijaa
