/-
  The program's Mark, New, Unify.
-/
import Derived.Test.YtgnbjhiafjpokaaSUnbind
import Derived.Test.YtgnbjhiafjpokaaSBehind
namespace Go.Proofs.Ytgnbjhiafjpokaa
open Go.RowKit Go.Shelf Go.Maps

/-- A store in memory, whatever it keeps. -/
structure Str (W : World) (B sb : Nat) (l : List Bd) (K : Nat) (svS mv : Value) (xs : List Value) : Prop where
  mem : SMem W B sb l K svS mv xs
  nil_ : mv = .map none → svS = .slice none 0 0
  right : RightL l
def UnbPost2 (W : World) (B sb : Nat) (l : List Bd) (K i : Nat) (svS mv : Value) (e : Ending) (W' : World) : Prop :=
  e = .returned (.tuple #[]) ∧ ∃ svS' xs', SMem W' B sb (l.take i) K svS' mv xs' ∧ SFr B sb svS mv svS' mv W W' ∧ (mv = .map none → svS' = .slice none 0 0)
set_option maxRecDepth 100000 in
set_option maxHeartbeats 4000000 in
theorem unbind_any {W : World} {B sb K i : Nat} {l : List Bd} {svS mv : Value} {xs : List Value} (h : SMem W B sb l K svS mv xs) (hnil : mv = .map none → svS = .slice none 0 0) (hi : i ≤ l.length) :
    Calls Try.prog 67 #[.pointer (some ⟨sb, 0, none⟩), .int .i64 (i : Nat)] W fun e W' => UnbPost2 W B sb l K i svS mv e W' := by
  rcases h.row.2 with ⟨e, h0⟩ | ⟨g, cap, cur, e, h1, h2, h3, h4, h5⟩
  · subst e
    have hl : l = [] := List.eq_nil_of_length_eq_zero h0
    subst hl
    obtain rfl : i = 0 := by simpa using hi
    obtain ⟨⟨c0, c1⟩, f0, f1⟩ := row2 h.box
    have hbl := h.low.box
    have hfin : SMem (W.setCell ⟨sb, 0, none⟩ (.slice none 0 0)) B sb (([] : List Bd).take 0) K (.slice none 0 0) mv xs ∧ SFr B sb (.slice none 0 0) mv (.slice none 0 0) mv W (W.setCell ⟨sb, 0, none⟩ (.slice none 0 0)) := by
      have hset : ∀ b, b ≠ sb → (W.setCell ⟨sb, 0, none⟩ (.slice none 0 0)).heap[b]? = W.heap[b]? := fun b hb => Below.heap_setCell _ _ _ _ hb
      have hlo := h.lo
      refine ⟨⟨row2f h.box _, ownsRow_block h.row (fun b e => by cases e), cellsB_same (fun _ h => h) (fun b o v hlt hc => (World.cell?_of_block (a := ⟨b, o, none⟩) (hset b (by omega))).trans hc) _ _ h.cells, ?_, h.lo, h.sep, h.ok, h.len⟩, ⟨rfl, rfl, rfl, by simp, fun b hb hn => hset b (fun e => hn (.inl e)), fun _ _ h => h⟩⟩
      rcases h.map with hm | ⟨m, e, h1, h2, h3, h4⟩
      · exact .inl hm
      · exact .inr ⟨m, e, h1.of_block (hset m h4), h2, h3, h4⟩
    have hdel := delete_nil W.drew
    have HFIN := Lib.hid hfin
    have HDEL := Lib.hid hdel
    clear hfin hdel h hnil hi h0
    go_enter Try.func67, Try.ntmps67
    go_wp2_with fail
    go_loopw [13] (fun ii wr => ii = .int .i64 0 ∧ wr = W) (fun _ _ => 0)
    case atStart => exact ⟨rfl, rfl⟩
    case round =>
      obtain ⟨rfl, rfl⟩ := hrel
      go_wp2_with fail
      go_region_law ((refine step_open (by rfl) ?_; go_simp; go_at_call 90; refine HDEL.out.mono ?_; rintro e w5 ⟨rfl, rfl⟩))
      all_goals go_wp2_with fail
      all_goals (try simp only [Exit.inBlock, Exit.then])
      all_goals refine bodyPost_ret (results_none rfl _ _ _) rfl ?_
      all_goals exact ⟨rfl, _, _, HFIN.out.1.keep (fun _ _ => rfl), ⟨HFIN.out.2.os, HFIN.out.2.tape, HFIN.out.2.output, HFIN.out.2.size, HFIN.out.2.block, HFIN.out.2.new⟩, fun _ => rfl⟩
  · have hm : ∃ m, mv = .map (some m) := by
      rcases h.map with ⟨e2, _⟩ | ⟨m, e2, _⟩
      · have := hnil e2
        rw [this] at e
        cases e
      · exact ⟨m, e2⟩
    obtain ⟨m, rfl⟩ := hm
    subst e
    refine (unbind_some h hi (by unfold maxLen at h4; omega) h3).mono fun e W' => ?_
    rintro ⟨rfl, svS', xs', h6, h7⟩
    exact ⟨rfl, svS', xs', h6, h7, (fun h => by cases h)⟩
set_option maxRecDepth 100000 in
set_option maxHeartbeats 2000000 in
theorem mark_any {W : World} {B sb K : Nat} {l : List Bd} {svS mv : Value} {xs : List Value} (h : SMem W B sb l K svS mv xs) : Calls Try.prog 38 #[.pointer (some ⟨sb, 0, none⟩)] W fun e W' => e = .returned (.int .i64 (l.length : Nat)) ∧ W = W' := by
  obtain ⟨⟨c0, c1⟩, f0, f1⟩ := row2 h.box
  obtain ⟨g, c, rfl⟩ := h.slice
  have hp := Try.underlying60
  clear h
  go_enter Try.func38, Try.ntmps38
  go_wp2_with fail
  go_ret
  exact ⟨rfl, rfl⟩
set_option maxRecDepth 100000 in
set_option maxHeartbeats 2000000 in
theorem new_any (W : World) (B : Nat) (hB : B ≤ W.heap.size) : Calls Try.prog 37 #[] W fun e W' => e = .returned (.pointer (some ⟨W.heap.size, 0, none⟩)) ∧ Below W.heap.size W W' ∧ Str W' B W.heap.size [] 0 (.slice none 0 0) (.map none) [] := by
  have hfin : Below W.heap.size W (W.alloc (.cells #[.slice none 0 0, .map none] 95)) ∧ Str (W.alloc (.cells #[.slice none 0 0, .map none] 95)) B W.heap.size [] 0 (.slice none 0 0) (.map none) [] :=
    ⟨(Below.refl _ _).alloc (Nat.le_refl _) _, ⟨newBlk _ _ _ rfl, World.ownsRow_nil _ _ _ _, rfl, .inl ⟨rfl, rfl⟩, hB, (fun h => by cases h), (fun i hi => absurd hi (Nat.not_lt_zero _)), by simp⟩, fun _ => rfl, ⟨fun i hi => absurd hi (Nat.not_lt_zero _), fun _ => 0, fun i hi => absurd hi (Nat.not_lt_zero _)⟩⟩
  have HFIN := Lib.hid hfin
  clear hfin
  go_enter Try.func37, Try.ntmps37
  go_wp2_with fail
  go_ret
  exact ⟨rfl, HFIN.out.1, HFIN.out.2⟩
/-- All variables of a list lie in V. -/
def inV (V : List Int) (l : List Bd) : Prop := ∀ b ∈ l, b.v ∈ V ∧ ∀ w ∈ b.t.vs, w ∈ V
theorem okL_inV {V : List Int} {l : List Bd} (h : okL l) (hV : inV V l) : l.length ≤ V.length := by
  have hn := nodup_place h
  have : ∀ (m V : List Int), m.Nodup → (∀ x ∈ m, x ∈ V) → m.length ≤ V.length := by
    intro m
    induction m with
    | nil => intro V _ _; exact Nat.zero_le _
    | cons x r ih =>
      intro V hm hx
      rw [List.nodup_cons] at hm
      have hxV := hx x (by simp)
      have h1 := ih (V.erase x) hm.2 fun y hy => (List.mem_erase_of_ne (fun e => hm.1 (by rw [← e]; exact hy))).2 (hx y (List.mem_cons_of_mem _ hy))
      rw [List.length_erase_of_mem hxV] at h1
      have h2 := List.length_pos_of_mem hxV
      simp only [List.length_cons]
      omega
  have h1 := this (vsB l) V hn fun x hx => by
    obtain ⟨b, hb, rfl⟩ := List.mem_map.1 hx
    exact (hV b hb).1
  rwa [vsB_length] at h1
def UniPost (W : World) (B sb : Nat) (l : List Bd) (K : Nat) (svS mv : Value) (V : List Int) (a b : Tm) (e : Ending) (W' : World) : Prop :=
  ∃ (q : Bool) (l' : List Bd) (K' : Nat) (svS' mv' : Value) (xs' : List Value), e = .returned (.tuple #[.bool q, .int .i64 0]) ∧ Str W' B sb l' K' svS' mv' xs' ∧ SFr B sb svS mv svS' mv' W W' ∧ K' ≤ K + 1000 ∧ inV V l' ∧
    ((q = true ∧ MguOf l a b l' ∧ ∃ bs, l' = l ++ bs) ∨ (q = false ∧ NoMgu l a b ∧ l' = l))
theorem szB_right {l : List Bd} (h : okL l) : szB l ≤ 3000 * l.length := by
  have : ∀ m : List Bd, (∀ b ∈ m, b.t.right = true) → Tm.sizes (m.map Bd.t) ≤ 3000 * m.length := by
    intro m hm
    induction m with
    | nil => simp [Tm.sizes]
    | cons c r ih =>
      have h2 := ih fun b hb => hm b (List.mem_cons_of_mem _ hb)
      have h3 := hm c (by simp)
      simp only [Tm.right, Bool.and_eq_true, decide_eq_true_eq] at h3
      simp only [List.map_cons, Tm.sizes, List.length_cons]
      omega
  exact this l fun b hb => by
    obtain ⟨i, hi, rfl⟩ := List.getElem_of_mem hb
    exact (h i hi).2.2.2
theorem BRow.bds {W : World} {B lo : Nat} {l : List Bd} {sv : Value} {xs : List Value} (h : BRow W B lo l sv xs) (hB : B ≤ W.heap.size) (hok : okL l) (hl : l.length ≤ 1000) : bdsIn W W.heap.size l sv := by
  obtain ⟨g, c, rfl⟩ := h.slice
  exact bds_of_owns h.row h.cells (by omega) (fun b hb => by omega) (okL_wf hok)

set_option maxRecDepth 100000 in
set_option maxHeartbeats 8000000 in
theorem sunify_any {W : World} {B sb K : Nat} {l : List Bd} {svS mv : Value} {xs : List Value} {V : List Int} (h : Str W B sb l K svS mv xs) (hV : inV V l) (hVl : V.length ≤ 300) (hK : K ≤ 1000000) {a b : Tm} {sva svb : Value} (hra : a.right = true) (hrb : b.right = true) (hVa : ∀ v ∈ a.vs, v ∈ V) (hVb : ∀ v ∈ b.vs, v ∈ V)
    (hina : Tm.inn W B a sva) (hinb : Tm.inn W B b svb) :
    Calls Try.prog 39 #[.pointer (some ⟨sb, 0, none⟩), .agg #[.int .i64 a.kind, .string a.name, .int .i64 a.n, sva], .agg #[.int .i64 b.kind, .string b.name, .int .i64 b.n, svb]] W fun e W' => UniPost W B sb l K svS mv V a b e W' := by
  obtain ⟨ga, ca, rfl⟩ := inn_sl hina
  obtain ⟨gb, cb, rfl⟩ := inn_sl hinb
  have hlo := h.mem.lo
  have hbl := h.mem.low.box
  have hBW : B ≤ W.heap.size := by omega
  have h3a : a.size ≤ 3000 := by simp only [Tm.right, Bool.and_eq_true, decide_eq_true_eq] at hra; exact hra.1.2
  have h3b : b.size ≤ 3000 := by simp only [Tm.right, Bool.and_eq_true, decide_eq_true_eq] at hrb; exact hrb.1.2
  have hb0 := al2 W (.cells #[.int .i64 a.kind, .string a.name, .int .i64 a.n, .slice ga a.args.length ca] 27) (.cells #[.int .i64 b.kind, .string b.name, .int .i64 b.n, .slice gb b.args.length cb] 27)
  obtain ⟨W0, hW0⟩ : ∃ W0, (W.alloc (.cells #[.int .i64 a.kind, .string a.name, .int .i64 a.n, .slice ga a.args.length ca] 27)).alloc (.cells #[.int .i64 b.kind, .string b.name, .int .i64 b.n, .slice gb b.args.length cb] 27) = W0 := ⟨_, rfl⟩
  have hba : W0.heap[W.heap.size]? = some (.cells #[.int .i64 a.kind, .string a.name, .int .i64 a.n, .slice ga a.args.length ca] 27 (0, 0)) := by rw [← hW0, Below.heap_alloc _ _ _ (by simp)]; exact newBlk _ _ _ rfl
  have hbb : W0.heap[W.heap.size + 1]? = some (.cells #[.int .i64 b.kind, .string b.name, .int .i64 b.n, .slice gb b.args.length cb] 27 (0, 0)) := by rw [← hW0]; exact newBlk _ _ _ (by simp)
  have hs0 : W0.heap.size = W.heap.size + 2 := by rw [← hW0]; simp
  rw [hW0] at hb0
  have hta := tright_any a W0 _ (Tm.inn_mono (Tm.inn_below hina hb0 hBW) (by omega)) (by omega)
  have htb : ∀ w1 : World, Below W0.heap.size W0 w1 → Calls Try.prog 54 #[.agg #[.int .i64 b.kind, .string b.name, .int .i64 b.n, .slice gb b.args.length cb]] w1 fun e w' => e = .returned (.bool b.right) ∧ Below w1.heap.size w1 w' := fun w1 h1 =>
    tright_any b w1 _ (Tm.inn_mono (Tm.inn_below (Tm.inn_below hinb hb0 hBW) h1 (by omega)) (by have := h1.size; omega)) (by omega)
  have hjoin : ∀ w1 : World, Below W0.heap.size W0 w1 → Calls Try.prog 64 #[.pointer (some ⟨sb, 0, none⟩), .agg #[.int .i64 a.kind, .string a.name, .int .i64 a.n, .slice ga a.args.length ca], .agg #[.int .i64 b.kind, .string b.name, .int .i64 b.n, .slice gb b.args.length cb]] w1 fun e W' => JoinPost w1 B l V a b e W' := fun w1 h1 =>
    join_any ((h.mem.next hb0).next h1) h.right (fun b hb => (hV b hb).2) hra hrb hVa hVb (Tm.inn_below (Tm.inn_below hina hb0 hBW) h1 (by omega)) (Tm.inn_below (Tm.inn_below hinb hb0 hBW) h1 (by omega))
  have HS := Lib.hid h
  have HV := Lib.hid hV
  have HTA := Lib.hid hta
  have HTB := Lib.hid htb
  have HJ := Lib.hid hjoin
  have HB0 := Lib.hid hb0
  have HBA := Lib.hid hba
  have HBB := Lib.hid hbb
  have HS0 := Lib.hid hs0
  have HW0 := Lib.hid hW0
  have HRA := Lib.hid (And.intro hra hrb)
  obtain ⟨⟨x0, x1, x2, x3⟩, _⟩ := row4 hba
  obtain ⟨⟨y0, y1, y2, y3⟩, _⟩ := row4 hbb
  have hp := Try.underlying60
  obtain ⟨i0, hi0, hz0, hz1, hz2⟩ := info_parts Try.infoInt
  clear h hV hta htb hjoin hb0 hba hbb hs0 hW0 hina hinb hVa hVb
  go_enter Try.func39, Try.ntmps39
  go_upto_region 1 with fail
  rw [HW0.out]
  go_wp2_with fail
  refine HTA.out.mono ?_
  rintro e w1 ⟨rfl, hb1⟩
  have h1r := HRA.out.1
  rw [h1r]
  have hs1 := hb1.size
  obtain ⟨⟨p0, p1, p2, p3⟩, _⟩ := row4 ((hb1.block (W.heap.size + 1) (by have := HS0.out; omega)).trans HBB.out)
  obtain ⟨⟨r0, r1, r2, r3⟩, _⟩ := row4 ((hb1.block W.heap.size (by have := HS0.out; omega)).trans HBA.out)
  have htb1 := HTB.out w1 hb1
  rw [HRA.out.2] at htb1
  have HTB1 := Lib.hid htb1
  have HB1 := Lib.hid hb1
  clear htb1 hb1 HTA HTB h1r hra hrb
  go_wp2_with fail
  refine HTB1.out.mono ?_
  rintro e w2 ⟨rfl, hb2⟩
  have hb12 : Below W0.heap.size W0 w2 := HB1.out.trans (hb2.mono hs1)
  obtain ⟨⟨q0, q1, q2, q3⟩, _⟩ := row4 ((hb12.block (W.heap.size + 1) (by have := HS0.out; omega)).trans HBB.out)
  obtain ⟨⟨s0, s1, s2, s3⟩, _⟩ := row4 ((hb12.block W.heap.size (by have := HS0.out; omega)).trans HBA.out)
  have hj2 := HJ.out w2 hb12
  have HJ2 := Lib.hid hj2
  have HB12 := Lib.hid hb12
  clear hj2 hb12 hb2 HJ HTB1
  go_wp2_with fail
  refine HJ2.out.mono ?_
  rintro e w3 ⟨hb3, hpost⟩
  have hbW : Below W.heap.size W w3 := (HB0.out.trans (HB12.out.mono (by have := HS0.out; omega))).trans (hb3.mono (by have := HB12.out.size; have := HS0.out; omega))
  have HBW := Lib.hid hbW
  rcases hpost with ⟨rfl, hno⟩ | ⟨svb, xsb, bs, rfl, hrow, hcells, hok, hbsV, hyes, hnot⟩
  · have hfin : UniPost W B sb l K svS mv V a b (.returned (.tuple #[.bool false, .int .i64 0])) w3 :=
      ⟨false, l, K, svS, mv, xs, rfl, ⟨HS.out.mem.next hbW, HS.out.nil_, HS.out.right⟩, SFr.of hbW, by omega, HV.out, .inr ⟨rfl, hno, rfl⟩⟩
    have HFIN := Lib.hid hfin
    clear hfin hbW hb3 hno HJ2
    go_wp2_with fail
    go_ret2
    exact HFIN.out
  · have hVapp : inV V (l ++ bs) := fun x hx => by
      rcases List.mem_append.1 hx with hx | hx
      · exact HV.out x hx
      · exact hbsV x hx
    have hlen := okL_inV hok hVapp
    have hbr : BRow w3 B w2.heap.size bs svb xsb := ⟨hrow, hcells⟩
    obtain ⟨gbs, cbs, hsvb⟩ := hbr.slice
    subst hsvb
    have hbsl : bs.length ≤ 300 := by rw [List.length_append] at hlen; omega
    have HBR := Lib.hid hbr
    have HOK := Lib.hid hok
    have HVA := Lib.hid hVapp
    have HLEN := Lib.hid hlen
    have HYES := Lib.hid hyes
    have HNOT := Lib.hid hnot
    have hs2W : W.heap.size ≤ w2.heap.size := by have := HB12.out.size; have := HS0.out; omega
    clear hbr hok hVapp hlen hyes hnot hrow hcells hbsV hbW hb3 HJ2 q0 q1 q2 q3 s0 s1 s2 s3 p0 p1 p2 p3 r0 r1 r2 r3 x0 x1 x2 x3 y0 y1 y2 y3
    go_wp2_with fail
    obtain ⟨w3', hw3'⟩ : ∃ x, x = w3 := ⟨_, rfl⟩
    subst hw3'
    go_loopw [10, 37] (fun sv ii wr => ∃ k : Nat, k ≤ bs.length ∧ ii = .int .i64 (k : Nat) ∧ Hid (ownInts wr w3'.heap.size sv (vsB (bs.take k))) ∧ Hid (Below w3'.heap.size w3' wr)) (fun _ ii _ => bs.length - (intOf ii).toNat)
    case atStart => exact ⟨0, Nat.zero_le _, rfl, ⟨rfl, .inl ⟨rfl, rfl⟩⟩, Below.refl _ _⟩
    case round =>
      obtain ⟨k, hk, rfl, ho, hb⟩ := hrel
      have HO := Lib.hid ho.out
      have HB := Lib.hid hb.out
      clear ho hb
      have hsr := HB.out.size
      by_cases hkl : k < bs.length
      · have hbr := HBR.out.keep (W' := wr) (fun b hb => HB.out.block b (by have := HBW.out.size; omega)) (fun b e => HB.out.block b (HBR.out.row.lt b e).2)
        obtain ⟨gq, svx, hgq, _, _, g0, g1, g2, g3, g4, hin⟩ := hbr.get k hkl
        subst hgq
        obtain ⟨gx, cx, rfl⟩ := inn_sl hin
        have hkt : (vsB (bs.take k)).length = k := by rw [vsB_length, List.length_take]; omega
        have hown : wr.ownsRow w3'.heap.size 3 1 u10 k ((vsB (bs.take k)).map (Value.int .i64)) := by
          have h0 := HO.out
          unfold ownInts at h0
          rw [hkt] at h0
          exact h0
        have HOWN := Lib.hid hown
        have hk0 : (0 : Int) ≤ (k : Int) := by omega
        have hk1 : (k : Int) < (bs.length : Int) := by omega
        have HKT := Lib.hid hkt
        clear hbr hin hkt hown
        go_wp2_with (at_builtin; refine wpList_append_sep _ rfl _ _ 46 rfl w3'.heap.size 3 i0 _ 1 8 Try.underlying46 hi0 hz0 hz1 hz2 rfl (by decide) u10 k ((vsB (bs.take k)).map (Value.int .i64)) rfl ((HOWN.out.alloc _).alloc _) ⟨wr.heap.size + 1, 0, none⟩ 1 1 [.int .i64 bs[k].v] rfl (by decide) rfl (news1h _ (by simp)) (by simp [Value.oneCell']) (by unfold maxLen; omega) (by omega) (by simp; omega) ?_; intro v' w5 hown5 hgrow5 hsep5)
        have ho5 : ownInts w5 w3'.heap.size v' (vsB (bs.take (k + 1))) := by
          have e : vsB (bs.take (k + 1)) = vsB (bs.take k) ++ [bs[k].v] := by rw [List.take_succ_eq_append_getElem hkl, vsB, vsB, List.map_append]; rfl
          rw [e]
          exact ownInts_append hown5 HKT.out
        have hb5 : Below w3'.heap.size w3' w5 := (HB.out.trans ((al2 wr _ _).mono hsr)).grown hgrow5 (by simp; omega) (fun j e => (HOWN.out.lt j e).1)
        have HO5 := Lib.hid ho5
        have HB5 := Lib.hid hb5
        clear ho5 hb5 hown5 hgrow5 hsep5
        go_roundw
        case rel => exact ⟨k + 1, by omega, by go_num, HO5.out, HB5.out⟩
        case measure => simp [intOf]; omega
      · obtain rfl : k = bs.length := by omega
        have hov := HO.out
        rw [List.take_of_length_le (Nat.le_refl _)] at hov
        have hbWr : Below W.heap.size W wr := HBW.out.trans (HB.out.mono HBW.out.size)
        have hmem := HS.out.mem.next hbWr
        have hmark := mark_any hmem
        have hbr := HBR.out.keep (W' := wr) (fun b hb => HB.out.block b (by have := HBW.out.size; omega)) (fun b e => HB.out.block b (HBR.out.row.lt b e).2)
        have hlow := HS.out.mem.low
        have hno : ∀ b, W.heap.size ≤ b → ¬ owned sb svS mv b := fun b hb ho => by
          rcases ho with e | e | e
          · have := hlow.box; omega
          · have := hlow.row b e; omega
          · have := hlow.map b e; omega
        have hbind := bind_any hmem hbr (fun b e => hno b (by have := (HBR.out.row.lt b e).1; omega)) HOK.out (by have := HLEN.out; omega) (by omega)
        have HMARK := Lib.hid hmark
        have HBIND := Lib.hid hbind
        have HOV := Lib.hid hov
        have HNO := Lib.hid hno
        have HBWR := Lib.hid hbWr
        clear hmem hmark hbr hlow hno hbind hov hbWr HO
        go_wp2_with fail
        refine HMARK.out.mono ?_
        rintro e w' ⟨rfl, rfl⟩
        go_wp2_with fail
        refine HBIND.out.mono ?_
        rintro e w4 ⟨rfl, svS', mv', xs', hS4, hF4, hmv4⟩
        have HMV := Lib.hid hmv4
        clear hmv4
        have hov4 : ownInts w4 w3'.heap.size u10 (vsB bs) := ownsRow_block HOV.out fun b e => hF4.block b (World.ownsRow.lt HOV.out b e).2 (HNO.out b (by have := (World.ownsRow.lt HOV.out b e).1; have := HBW.out.size; omega))
        have hlen4 := HLEN.out
        have hbeh := behind_any hS4 (ints_of_own hov4 (by rw [vsB_length]; omega)) (by rw [vsB_length]; omega) (fun v hv => by
          obtain ⟨b, hb, rfl⟩ := List.mem_map.1 hv
          exact okL_wf HOK.out b (List.mem_append_right _ hb))
        have HBEH := Lib.hid hbeh
        have HS4 := Lib.hid hS4
        have HF4 := Lib.hid hF4
        clear hov4 hbeh hS4 hF4 hlen4 HBIND HMARK HOV
        go_wp2_with fail
        refine HBEH.out.mono ?_
        rintro e w5 ⟨L', sv5, xs5, rfl, hb5, hr5, hbe5, hl5⟩
        have hlen5 := HLEN.out
        have hL5 : L'.length ≤ 300 := by omega
        have hB5 : B ≤ w5.heap.size := by have := HS4.out.lo; have := HS4.out.low.box; have := hb5.size; omega
        have hrt := sright_any L' w5 sv5 (hr5.bds hB5 hbe5.ok (by omega)) (by omega) (by have := szB_right hbe5.ok; omega)
        have HRT := Lib.hid hrt
        have HB5 := Lib.hid hb5
        have HBE := Lib.hid hbe5
        clear hrt hb5 hr5 hbe5 hl5 hlen5 HBEH
        go_wp2_with fail
        refine HRT.out.mono ?_
        rintro e w6 ⟨q, rfl, hq, hb6⟩
        have hb46 : Below w4.heap.size w4 w6 := HB5.out.trans (hb6.mono HB5.out.size)
        have hS6 := HS4.out.next hb46
        have hF6 : SFr B sb svS mv svS' mv' W w6 := (SFr.of HBWR.out).trans (HF4.out.trans (SFr.of hb46))
        have HS6 := Lib.hid hS6
        have HF6 := Lib.hid hF6
        have HQ := Lib.hid hq
        clear hb46 hS6 hF6 hb6 hq HRT
        cases q with
        | true =>
          have hright : RightL (l ++ bs) := HBE.out.all HS.out.right HOK.out (HQ.out.1 rfl)
          have hfin : UniPost W B sb l K svS mv V a b (.returned (.tuple #[.bool true, .int .i64 0])) w6 :=
            ⟨true, l ++ bs, K + bs.length, svS', mv', xs', rfl, ⟨HS6.out, fun e => absurd e HMV.out, hright⟩, HF6.out, by omega, HVA.out, .inl ⟨rfl, HYES.out hright, bs, rfl⟩⟩
          have HFIN := Lib.hid hfin
          clear hfin hright
          go_wp2_with fail
          go_ret2
          exact HFIN.out
        | false =>
          have hnr : ¬ RightL (l ++ bs) := fun hr => by
            have := HQ.out.2 (HBE.out.right hr)
            cases this
          have hub := unbind_any (i := l.length) HS6.out (fun e => absurd e HMV.out) (by rw [List.length_append]; omega)
          have HUB := Lib.hid hub
          have HNR := Lib.hid hnr
          clear hub hnr
          go_wp2_with fail
          refine HUB.out.mono ?_
          rintro e w7 ⟨rfl, svS7, xs7, hS7, hF7, hnil7⟩
          rw [List.take_left] at hS7
          have hfin : UniPost W B sb l K svS mv V a b (.returned (.tuple #[.bool false, .int .i64 0])) w7 :=
            ⟨false, l, K + bs.length, svS7, mv', xs7, rfl, ⟨hS7, hnil7, HS.out.right⟩, HF6.out.trans hF7, by omega, HV.out, .inr ⟨rfl, HNOT.out HNR.out, rfl⟩⟩
          have HFIN := Lib.hid hfin
          clear hfin hS7 hF7 hnil7
          go_wp2_with fail
          go_ret2
          exact HFIN.out
end Go.Proofs.Ytgnbjhiafjpokaa
