/-
  The document's Become: what a term becomes, if it has room.
-/
import Derived.Test.YtgnbjhiafjpokaaBld
namespace Go.Proofs.Ytgnbjhiafjpokaa
open Go.RowKit Go.Shelf Go.Maps

def fitB (u : Tm) (m d : Int) : Bool := decide ((u.size : Int) ≤ m) && decide ((u.deep : Int) ≤ d)
theorem fitB_iff {u : Tm} {m d : Int} : fitB u m d = true ↔ (u.size : Int) ≤ m ∧ (u.deep : Int) ≤ d := by simp [fitB]
theorem fitB_not {u : Tm} {m d : Int} (h : ¬ ((u.size : Int) ≤ m ∧ (u.deep : Int) ≤ d)) : fitB u m d = false := by
  rw [Bool.eq_false_iff]
  exact fun h' => h (fitB_iff.1 h')
/-- What Become tells. -/
def RBecPost (u : Tm) (m d : Int) (w : World) (e : Ending) (w' : World) : Prop :=
  Below w.heap.size w w' ∧ ((fitB u m d = false ∧ e = .returned (.tuple #[.agg #[.int .i64 0, .string ⟨#[]⟩, .int .i64 0, .slice none 0 0], .int .i64 0])) ∨
    (fitB u m d = true ∧ ∃ g c, e = .returned (.tuple #[.agg #[.int .i64 u.kind, .string u.name, .int .i64 u.n, .slice g u.args.length c], .int .i64 (u.size : Nat)]) ∧
      Tm.innP w' (fun b => w.heap.size ≤ b ∧ b < w'.heap.size) u (.slice g u.args.length c)))
theorem deeps_mem_le {l : List Tm} {i : Nat} (h : i < l.length) : l[i].deep ≤ Tm.deeps l := by
  have h1 := Tm.deeps_take_succ l i h
  have h2 := Tm.deeps_take_le l (i + 1)
  omega
theorem sizes_split {l : List Tm} {i : Nat} (h : i < l.length) : Tm.sizes (l.take i) + l[i].size ≤ Tm.sizes l := by
  have h1 := Tm.sizes_take_succ l i h
  have h2 := Tm.sizes_take_le l (i + 1)
  omega
theorem news4h {w : World} {a b c d : Value} {t : TypeId} (H : Nat) (hH : w.heap.size = H) : ∀ (j : Nat) (u : Value), [a, b, c, d][j]? = some u → (w.alloc (.cells #[a, b, c, d] t)).cell? ((⟨H, 0, none⟩ : Addr).add j) = some u := by
  subst hH
  exact news4
theorem blk_two {w4 w5 : World} {o a b : Obj} {j : Nat} {row : Option Nat} (h : w4.heap[j]? = some o) (hg : ((w4.alloc a).alloc b).grownBy w5 row) (hr : row ≠ some j) : w5.heap[j]? = some o := by
  have h1 : (w4.alloc a).heap[j]? = some o := (Below.heap_alloc _ _ _ (Array.getElem?_eq_some_iff.1 h).1).trans h
  have h2 : ((w4.alloc a).alloc b).heap[j]? = some o := (Below.heap_alloc _ _ _ (Array.getElem?_eq_some_iff.1 h1).1).trans h1
  exact (hg.block j (Array.getElem?_eq_some_iff.1 h2).1 (fun e => hr e.symm)).trans h2
theorem al3b (w : World) (o1 o2 o3 : Obj) : Below w.heap.size w (((w.alloc o1).alloc o2).alloc o3) ∧ (((w.alloc o1).alloc o2).alloc o3).heap[w.heap.size]? = some o1 ∧ (((w.alloc o1).alloc o2).alloc o3).heap[w.heap.size + 1]? = some o2 ∧ (((w.alloc o1).alloc o2).alloc o3).heap[w.heap.size + 1 + 1]? = some o3 :=
  ⟨al3 _ _ _ _, (Below.heap_alloc _ _ _ (by simp; omega)).trans ((Below.heap_alloc _ _ _ (by simp)).trans (newBlk _ _ _ rfl)), (Below.heap_alloc _ _ _ (by simp)).trans (newBlk _ _ _ (by simp)), newBlk _ _ _ (by simp)⟩

set_option maxRecDepth 100000 in
set_option maxHeartbeats 4000000 in
theorem rbecome_any (l : List Bd) (hl : l.length ≤ 1000000) (hok : okL l) (σ : Int → Tm) (hσ : Sol l σ) (r : Nat → Nat) (hr : Ranked l r) :
    ∀ (R : Nat) (x : Tm), (∀ v ∈ x.vs, ∀ q, place l v = some q → r q < R) → x.fair = true → ∀ (m d : Int) (w : World) (svl sv : Value), 0 ≤ m → m ≤ 3000 → 0 ≤ d → d ≤ 100 → bdsIn w w.heap.size l svl → Tm.inn w w.heap.size x sv →
    Calls Try.prog 59 #[svl, .agg #[.int .i64 x.kind, .string x.name, .int .i64 x.n, sv], .int .i64 m, .int .i64 d] w fun e w' => RBecPost (x.bnd σ) m d w e w' := by
  intro R
  induction R using Nat.strongRecOn with
  | ind R ihR =>
  refine Tm.ind fun k s n ts ih => ?_
  intro hrank hx m d w svl sv hm0 hm1 hd0 hd1 hbl hin
  obtain ⟨_, g, cap, rfl, hcap, hlen, _⟩ := Tm.inn_iff.1 hin
  obtain ⟨gl, cl, rfl, hcl, hll, _, _⟩ := id hbl
  have hts8 := Tm.fair_args hx
  simp only [Tm.kind, Tm.name, Tm.n, Tm.args] at hlen hcap ⊢
  have HIN := Lib.hid hin
  have HBL := Lib.hid hbl
  have HX := Lib.hid hx
  have HRANK := Lib.hid hrank
  have HIH := Lib.hid ih
  have HIHR := Lib.hid ihR
  have HS := Lib.hid hσ
  have HR := Lib.hid hr
  have HOK := Lib.hid hok
  clear hin hbl hx hrank ih ihR hσ hr hok
  by_cases hb : k = 1 ∧ ∃ p, place l n = some p
  · obtain ⟨rfl, p, hp⟩ := hb
    obtain ⟨hpl, _, _⟩ := place_some hp
    have hpi : placeI l n = (p : Int) := by simp [placeI, hp]
    have hbd := HS.out.bound n p hp
    have hta := tAt_get hpl
    have hu : Tm.bnd σ (.mk 1 s n ts) = l[p].t.bnd σ := by rw [show Tm.bnd σ (.mk 1 s n ts) = σ n by simp [Tm.bnd], hbd, hta]
    have hrp : r p < R := HRANK.out n (by simp [Tm.vs]) p hp
    have hvr : ∀ v ∈ l[p].t.vs, ∀ q, place l v = some q → r q < r p := fun v hv q hq => HR.out p hpl q (deps_mem.2 ⟨v, by rw [hta]; exact hv, hq⟩)
    have hfp := right_fair (HOK.out p hpl).2.2.2
    have hb0 := al2 w (.cells #[.int .i64 1, .string s, .int .i64 n, .slice g ts.length cap] 27) (.cells #[.int .i64 0, .string ⟨#[]⟩, .int .i64 0, .slice none 0 0] 27)
    have hbl2 := bdsIn_held HBL.out hb0
    obtain ⟨b, off, sv2, hgl, hbB, g0, g1, g2, g3, g4, hinp⟩ := bdsIn_get hbl2 p hpl
    subst hgl
    obtain ⟨_, ga, capa, rfl, _, _, _⟩ := Tm.inn_iff.1 hinp
    have hpa := place_any l n _ _ hbl2 hl
    rw [hpi] at hpa
    have hih := HIHR.out (r p) hrp l[p].t hvr hfp m d _ _ _ hm0 hm1 hd0 hd1 hbl2 hinp
    rw [hu]
    obtain ⟨u, hu'⟩ : ∃ u, l[p].t.bnd σ = u := ⟨_, rfl⟩
    rw [hu'] at hih ⊢
    have HPA := Lib.hid hpa
    have hIH := Lib.hid hih
    have HB0 := Lib.hid hb0
    clear hp hpi hbd hta hu hu' hrp hvr hfp hb0 hbl2 hinp hpa hih
    go_enter Try.func59, Try.ntmps59
    go_wp2_with fail
    refine HPA.out.mono ?_
    rintro e w' ⟨rfl, rfl⟩
    go_wp2_with fail
    refine hIH.out.mono ?_
    rintro e w3 ⟨hb3, hpost⟩
    have hres3 : w3.heap[w.heap.size + 1]? = some (Obj.cells #[.int .i64 0, .string ⟨#[]⟩, .int .i64 0, .slice none 0 0] 27 (0, 0)) := (hb3.block _ (by simp)).trans (newBlk _ _ _ (by simp))
    obtain ⟨⟨c0, c1, c2, c3⟩, f0, f1, f2, f3⟩ := row4 hres3
    have hs3 : w.heap.size + 2 ≤ w3.heap.size := by have := hb3.size; simpa using this
    have HB3 := Lib.hid (HB0.out.trans (hb3.mono (by simp; omega)))
    clear hb3 hres3
    rcases hpost with ⟨hf, rfl⟩ | ⟨hf, gu, cu, rfl, hpu⟩
    · have HF := Lib.hid hf
      clear hf
      go_wp2_with fail
      refine bodyPost_ret (v := .tuple #[.agg #[.int .i64 0, .string ⟨#[]⟩, .int .i64 0, .slice none 0 0], .int .i64 0]) (by simp [results, Try.results59, go_sem, c0, c1, c2, c3]) rfl ?_
      exact ⟨set4_below HB3.out (by omega) _ _ _ _, .inl ⟨HF.out, rfl⟩⟩
    · have HF := Lib.hid hf
      have HPU := Lib.hid hpu
      clear hf hpu hIH
      go_wp2_with fail
      refine bodyPost_ret (v := .tuple #[.agg #[.int .i64 u.kind, .string u.name, .int .i64 u.n, .slice gu u.args.length cu], .int .i64 (u.size : Nat)]) (by simp [results, Try.results59, go_sem, c0, c1, c2, c3]) rfl ?_
      refine ⟨set4_below HB3.out (by omega) _ _ _ _, .inr ⟨HF.out, gu, cu, rfl, ?_⟩⟩
      refine Tm.innP_same (fun b hb' => ⟨by have := hb'.1; simp at this; omega, by simp; omega⟩) (fun b o v hb' hc => ?_) _ _ HPU.out
      have hne : b ≠ w.heap.size + 1 := by have := hb'.1; simp at this; omega
      exact (World.cell?_of_block (a := ⟨b, o, none⟩) (set4_blk w3 _ _ _ _ hne)).trans hc
  · have hu : Tm.bnd σ (.mk k s n ts) = .mk k s n (Tm.bnds σ ts) := by
      have he : EndOK l σ (.mk k s n ts) (.mk k s n ts) := EndOK.self HX.out (fun hk => by
        cases hp : place l (Tm.mk k s n ts).n with
        | none => rfl
        | some p => exact absurd ⟨hk, p, hp⟩ hb)
      exact EndOK.args HS.out he
    obtain ⟨L, hL⟩ : ∃ L, Tm.bnds σ ts = L := ⟨_, rfl⟩
    have hLlen : L.length = ts.length := by rw [← hL, Tm.bnds_length]
    have hLle : ts.length ≤ L.length := by omega
    have hLge : L.length ≤ ts.length := by omega
    have hLget : ∀ (i : Nat) (h : i < ts.length), L[i]'(Nat.lt_of_lt_of_le h hLle) = ts[i].bnd σ := fun i h => by subst hL; simp [Tm.bnds_map]
    rw [hu, hL]
    have hrk : ∀ t ∈ ts, ∀ v ∈ t.vs, ∀ q, place l v = some q → r q < R := fun t ht v hv => HRANK.out v (Tm.vs_mem_args ht hv)
    have hfa := (Tm.fair_alone HX.out).2.1
    have hhd := headOk_of (Tm.inn_iff.1 HIN.out).1
    have HHD := Lib.hid hhd
    have HLL := Lib.hid hLlen
    have HLG := Lib.hid hLget
    have HRK := Lib.hid hrk
    have HFA := Lib.hid hfa
    have hpn : k = 1 → placeI l n = -1 := fun hk => by
      have : place l n = none := by
        cases hp : place l n with
        | none => rfl
        | some p => exact absurd ⟨hk, p, hp⟩ hb
      simp [placeI, this]
    have HPN := Lib.hid hpn
    have hb0 := al2 w (.cells #[.int .i64 k, .string s, .int .i64 n, .slice g ts.length cap] 27) (.cells #[.int .i64 0, .string ⟨#[]⟩, .int .i64 0, .slice none 0 0] 27)
    have hpa := place_any l n _ _ (bdsIn_held HBL.out hb0) hl
    have HPA := Lib.hid hpa
    obtain ⟨i0, hi, hz0, hz1, hz2⟩ := info_parts Try.infoTm
    clear hu hL hLlen hLget hrk hfa hb hhd hpn hb0 hpa
    by_cases hmd : m < 1 ∨ d < 1
    · have hff : fitB (.mk k s n L) m d = false := fitB_not fun h => by
        have h1 := h.1
        have h2 := h.2
        simp only [Tm.size, Tm.deep] at h1 h2
        omega
      have HF := Lib.hid hff
      clear hff
      by_cases hm : m < 1
      · clear hmd
        go_enter Try.func59, Try.ntmps59
        by_cases hk1 : k = 1
        · have HPN1 := Lib.hid (HPN.out hk1)
          subst hk1
          go_wp2_with fail
          refine HPA.out.mono ?_
          rintro e w' ⟨rfl, rfl⟩
          rw [HPN1.out]
          go_wp2_with fail
          refine bodyPost_ret (v := .tuple #[.agg #[.int .i64 0, .string ⟨#[]⟩, .int .i64 0, .slice none 0 0], .int .i64 0]) (by simp [results, Try.results59, go_sem]) rfl ?_
          exact ⟨al2 _ _ _, .inl ⟨HF.out, rfl⟩⟩
        · have hk1b : (k == 1) = false := by simpa using hk1
          go_wp2_with fail
          refine bodyPost_ret (v := .tuple #[.agg #[.int .i64 0, .string ⟨#[]⟩, .int .i64 0, .slice none 0 0], .int .i64 0]) (by simp [results, Try.results59, go_sem]) rfl ?_
          exact ⟨al2 _ _ _, .inl ⟨HF.out, rfl⟩⟩
      · have hd : d < 1 := by omega
        clear hmd
        go_enter Try.func59, Try.ntmps59
        by_cases hk1 : k = 1
        · have HPN1 := Lib.hid (HPN.out hk1)
          subst hk1
          go_wp2_with fail
          refine HPA.out.mono ?_
          rintro e w' ⟨rfl, rfl⟩
          rw [HPN1.out]
          go_wp2_with fail
          refine bodyPost_ret (v := .tuple #[.agg #[.int .i64 0, .string ⟨#[]⟩, .int .i64 0, .slice none 0 0], .int .i64 0]) (by simp [results, Try.results59, go_sem]) rfl ?_
          exact ⟨al2 _ _ _, .inl ⟨HF.out, rfl⟩⟩
        · have hk1b : (k == 1) = false := by simpa using hk1
          go_wp2_with fail
          refine bodyPost_ret (v := .tuple #[.agg #[.int .i64 0, .string ⟨#[]⟩, .int .i64 0, .slice none 0 0], .int .i64 0]) (by simp [results, Try.results59, go_sem]) rfl ?_
          exact ⟨al2 _ _ _, .inl ⟨HF.out, rfl⟩⟩
    · have hm1' : 1 ≤ m := by omega
      have hd1' : 1 ≤ d := by omega
      clear hmd
      go_enter Try.func59, Try.ntmps59
      by_cases hk1 : k = 1
      · have HPN1 := Lib.hid (HPN.out hk1)
        subst hk1
        go_wp2_with fail
        refine HPA.out.mono ?_
        rintro e w' ⟨rfl, rfl⟩
        rw [HPN1.out]
        go_wp2_with fail
        go_loopw [12, 13, 14, 15] (fun q i _ _ wr => ∃ (k' : Nat) (gv : Option Addr) (cv : Nat), k' ≤ ts.length ∧ i = .int .i64 k' ∧ q = .int .i64 ((Tm.sizes (L.take k') + 1 : Nat) : Int) ∧ ((Tm.sizes (L.take k') + 1 : Nat) : Int) ≤ m ∧ ((Tm.deeps (L.take k') : Nat) : Int) ≤ d - 1 ∧
            Hid (∃ xs, wr.ownsRow (w.heap.size + 3) 27 4 (.slice gv k' cv) k' xs ∧ Tm.cellsP wr (okRow (w.heap.size + 3) wr (.slice gv k' cv)) (L.take k') xs) ∧ Hid (Below w.heap.size w wr) ∧ w.heap.size + 3 ≤ wr.heap.size ∧
            Hid (wr.heap[w.heap.size]? = some (Obj.cells #[.int .i64 1, .string s, .int .i64 n, .slice g ts.length cap] 27 (0, 0))) ∧ Hid (wr.heap[w.heap.size + 1]? = some (Obj.cells #[.int .i64 0, .string ⟨#[]⟩, .int .i64 0, .slice none 0 0] 27 (0, 0))) ∧
            Hid (wr.heap[w.heap.size + 1 + 1]? = some (Obj.cells #[.int .i64 1, .string s, .int .i64 n, .slice gv k' cv] 27 (0, 0)))) (fun _ i _ _ _ => ts.length - (intOf i).toNat)
        case atStart =>
          obtain ⟨a1, a2, a3, a4⟩ := al3b w (.cells #[.int .i64 1, .string s, .int .i64 n, .slice g ts.length cap] 27) (.cells #[.int .i64 0, .string ⟨#[]⟩, .int .i64 0, .slice none 0 0] 27) (.cells #[.int .i64 1, .string s, .int .i64 n, .slice none 0 0] 27)
          exact ⟨0, none, 0, Nat.zero_le _, rfl, by simp [Tm.sizes], by simp [Tm.sizes]; omega, by simp [Tm.deeps]; omega, ⟨[], World.ownsRow_nil _ _ _ _, by simp [Tm.cellsP]⟩, a1, by simp, a2, a3, a4⟩
        case round =>
          obtain ⟨k', gv, cv, hk', rfl, rfl, hq, hdq, hrow, hb, hbs, hbox, hres, hout⟩ := hrel
          obtain ⟨⟨b0, b1, b2, b3⟩, _⟩ := row4 hbox.out
          have HROW := Lib.hid hrow.out
          have HB := Lib.hid hb.out
          have HBOX := Lib.hid hbox.out
          have HRES := Lib.hid hres.out
          have HOUT := Lib.hid hout.out
          clear hrow hb hbox hres hout
          by_cases hlt : k' < ts.length
          · have hbl := bdsIn_held HBL.out HB.out
            have hin := Tm.inn_mono (Tm.inn_below HIN.out HB.out (Nat.le_refl _)) HB.out.size
            obtain ⟨b, off, sv, hgt, hbB, g0, g1, g2, g3, hin'⟩ := Tm.sliceIn_get (Tm.inn_iff.1 hin).2 k' hlt
            subst hgt
            simp only [Tm.args] at g0 g1 g2 g3 hin'
            obtain ⟨_, ga, capa, rfl, _, _, _⟩ := Tm.inn_iff.1 hin'
            have hih := HIH.out ts[k'] (List.getElem_mem hlt) (HRK.out _ (List.getElem_mem hlt)) (HFA.out _ (List.getElem_mem hlt)) (m - (((Tm.sizes (L.take k') : Nat) : Int) + 1)) (d - 1) wr _ _ (by omega) (by omega) (by omega) (by omega) hbl hin'
            rw [← HLG.out k' hlt] at hih
            have hIH := Lib.hid hih
            clear hbl hin hin' hih
            go_wp2_with fail
            refine hIH.out.mono ?_
            rintro e w4 ⟨hb4, hpost⟩
            have hs4 := hb4.size
            have hl4 : w.heap.size + 1 + 1 < w4.heap.size := by omega
            have hl5 : w.heap.size + 1 < w4.heap.size := by omega
            have hl6 : w.heap.size < w4.heap.size := by omega
            have hout4 := (hb4.block _ (by omega)).trans HOUT.out
            have hres4 := (hb4.block _ (by omega)).trans HRES.out
            obtain ⟨⟨o0, o1, o2, o3⟩, of0, of1, of2, of3⟩ := row4 hout4
            obtain ⟨⟨c0, c1, c2, c3⟩, f0, f1, f2, f3⟩ := row4 hres4
            have hkL : k' < L.length := by omega
            have hsz := Tm.sizes_take_succ L k' hkL
            have hdp := Tm.deeps_take_succ L k' hkL
            have hssp := sizes_split hkL
            have hdml := deeps_mem_le hkL
            have htk := List.take_succ_eq_append_getElem hkL
            have hupos := Tm.size_pos (L[k']'hkL)
            obtain ⟨u, hu⟩ : ∃ u, L[k']'hkL = u := ⟨_, rfl⟩
            rw [hu] at hpost hsz hdp htk hssp hdml hupos
            have HSZ := Lib.hid hsz
            have HDP := Lib.hid hdp
            have HTK := Lib.hid htk
            have HB4 := Lib.hid hb4
            have HRES4 := Lib.hid hres4
            have HOUT4 := Lib.hid hout4
            clear hsz hdp htk hu hb4 hres4 hout4 hIH b0 b1 b2 b3
            rcases hpost with ⟨hf, rfl⟩ | ⟨hf, gu, cu, rfl, hpu⟩
            · have hff : fitB (.mk 1 s n L) m d = false := fitB_not fun h => by
                have h1 := h.1
                have h2 := h.2
                simp only [Tm.size, Tm.deep] at h1 h2
                rw [Bool.eq_false_iff] at hf
                exact hf (fitB_iff.2 ⟨by omega, by omega⟩)
              have HF := Lib.hid hff
              clear hf hff hssp hdml
              go_wp2_with fail
              refine bodyPost_ret (v := .tuple #[.agg #[.int .i64 0, .string ⟨#[]⟩, .int .i64 0, .slice none 0 0], .int .i64 0]) (by simp [results, Try.results59, go_sem, c0, c1, c2, c3, hl5]) rfl ?_
              exact ⟨(set4_below (HB.out.trans (HB4.out.mono (by omega))) (by omega) _ _ _ _).alloc (by rw [set4_size]; omega) _, .inl ⟨HF.out, rfl⟩⟩
            · obtain ⟨hf1, hf2⟩ := fitB_iff.1 hf
              have hcu : u.args.length ≤ cu := by
                obtain ⟨_, _, _, e1, h1, _, _⟩ := Tm.innP_iff.1 hpu
                injection e1 with e1 e2 e3
                omega
              obtain ⟨xs, hown, hcells⟩ := HROW.out
              have HOWN := Lib.hid hown
              have HCELLS := Lib.hid hcells
              have HOWN4 := Lib.hid (ownsRow_below hown HB4.out)
              have HPU := Lib.hid hpu
              clear hf hpu hown hcells hssp hdml HROW
              go_wp2_with (at_builtin; refine wpList_append_sep _ rfl _ _ 25 rfl (w.heap.size + 3) 27 i0 _ 4 56 Try.underlying25 hi hz0 hz1 hz2 rfl (by decide) (.slice gv k' cv) k' xs rfl ((HOWN4.out.alloc _).alloc _) ⟨w4.heap.size + 1, 0, none⟩ 1 1 [.int .i64 u.kind, .string u.name, .int .i64 u.n, .slice gu u.args.length cu] rfl (by decide) rfl (news4h _ (by simp)) one4 (by unfold maxLen; omega) (by omega) (by simp; omega) ?_; intro v' w5 hown5 hgrow hsep; obtain ⟨g5, c5, rfl⟩ := owns_slice hown5; have hout5 := blk_two HOUT4.out hgrow (fun e => by have := (HOWN.out.lt _ e).1; omega); obtain ⟨⟨p0, p1, p2, p3⟩, pf0, pf1, pf2, pf3⟩ := row4 hout5)
              go_roundw
              case rel =>
                have hne : ∀ j, j < w.heap.size + 3 → (Value.slice gv k' cv).ownBlock ≠ some j := fun j hj e => by have := (HOWN.out.lt j e).1; omega
                have hb45 : Below wr.heap.size wr (w4.alloc (Obj.cells #[.int .i64 u.kind, .string u.name, .int .i64 u.n, .slice gu u.args.length cu] 27)) := HB4.out.alloc (by omega) _
                have hs5 := hgrow.size
                simp at hs5
                refine ⟨k' + 1, g5, c5, by omega, by go_num, ?_, ?_, ?_, ⟨_, ownsRow_set hown5 (by omega) _ _, ?_⟩, ?_, by simp; omega, ?_, ?_, ?_⟩
                · rw [HSZ.out]
                  congr 1
                  push_cast
                  omega
                · rw [HSZ.out]
                  push_cast
                  omega
                · rw [HDP.out]
                  omega
                · rw [HTK.out]
                  exact cellsP_set (by omega) (row_step HOWN.out HCELLS.out hb45 (by omega) (Tm.innP_same (fun b hb' => ⟨hb'.1, by simp; omega⟩) (fun b o v hb' hc => by rw [World.cell?_alloc_lt _ _ _ (by exact hb'.2)]; exact hc) _ _ HPU.out) hgrow hsep)
                · exact (((((HB.out.trans (HB4.out.mono (by omega))).alloc (by omega) _).alloc (by simp; omega) _).grown hgrow (by simp; omega) (fun j e => by have := (HOWN.out.lt j e).1; omega)).setCell (p := ⟨w.heap.size + 1 + 1, 3, none⟩) (by simp; omega) _)
                · exact (Below.heap_setCell _ _ _ _ (by simp; omega)).trans (blk_two ((HB4.out.block _ (by omega)).trans HBOX.out) hgrow (hne _ (by omega)))
                · exact (Below.heap_setCell _ _ _ _ (by simp)).trans (blk_two HRES4.out hgrow (hne _ (by omega)))
                · exact set1_same hout5 _
              case measure => simp [intOf]; omega
          · obtain rfl : k' = L.length := by omega
            obtain ⟨⟨o0, o1, o2, o3⟩, of0, of1, of2, of3⟩ := row4 HOUT.out
            obtain ⟨⟨c0, c1, c2, c3⟩, f0, f1, f2, f3⟩ := row4 HRES.out
            rw [List.take_length] at HROW hq hdq ⊢
            have hff : fitB (.mk 1 s n L) m d = true := fitB_iff.2 ⟨by simp only [Tm.size]; omega, by simp only [Tm.deep]; push_cast; omega⟩
            have HF := Lib.hid hff
            obtain ⟨xs, hown, hcells⟩ := HROW.out
            have HOWN := Lib.hid hown
            have HCELLS := Lib.hid hcells
            clear hff hown hcells HROW
            go_wp2_with fail
            refine bodyPost_ret (v := .tuple #[.agg #[.int .i64 1, .string s, .int .i64 n, .slice gv L.length cv], .int .i64 ((Tm.sizes L + 1 : Nat) : Int)]) (by simp [results, Try.results59, go_sem, c0, c1, c2, c3]) rfl ?_
            refine ⟨set4_below HB.out (by omega) _ _ _ _, .inr ⟨HF.out, gv, cv, rfl, ?_⟩⟩
            rw [Tm.innP_mk]
            exact ⟨HHD.out, sliceP_done (wr := wr) (wf := set4 wr (w.heap.size + 1) _ _ _ _) (lo := w.heap.size + 3) (xs := xs) HOWN.out HCELLS.out (by omega) (by omega) (by rw [set4_size]; exact Nat.le_refl _) fun k hk _ => set4_blk wr _ _ _ _ (by omega)⟩
      · have hk1b : (k == 1) = false := by simpa using hk1
        go_wp2_with fail
        go_loopw [12, 13, 14, 15] (fun q i _ _ wr => ∃ (k' : Nat) (gv : Option Addr) (cv : Nat), k' ≤ ts.length ∧ i = .int .i64 k' ∧ q = .int .i64 ((Tm.sizes (L.take k') + 1 : Nat) : Int) ∧ ((Tm.sizes (L.take k') + 1 : Nat) : Int) ≤ m ∧ ((Tm.deeps (L.take k') : Nat) : Int) ≤ d - 1 ∧
            Hid (∃ xs, wr.ownsRow (w.heap.size + 3) 27 4 (.slice gv k' cv) k' xs ∧ Tm.cellsP wr (okRow (w.heap.size + 3) wr (.slice gv k' cv)) (L.take k') xs) ∧ Hid (Below w.heap.size w wr) ∧ w.heap.size + 3 ≤ wr.heap.size ∧
            Hid (wr.heap[w.heap.size]? = some (Obj.cells #[.int .i64 k, .string s, .int .i64 n, .slice g ts.length cap] 27 (0, 0))) ∧ Hid (wr.heap[w.heap.size + 1]? = some (Obj.cells #[.int .i64 0, .string ⟨#[]⟩, .int .i64 0, .slice none 0 0] 27 (0, 0))) ∧
            Hid (wr.heap[w.heap.size + 1 + 1]? = some (Obj.cells #[.int .i64 k, .string s, .int .i64 n, .slice gv k' cv] 27 (0, 0)))) (fun _ i _ _ _ => ts.length - (intOf i).toNat)
        case atStart =>
          obtain ⟨a1, a2, a3, a4⟩ := al3b w (.cells #[.int .i64 k, .string s, .int .i64 n, .slice g ts.length cap] 27) (.cells #[.int .i64 0, .string ⟨#[]⟩, .int .i64 0, .slice none 0 0] 27) (.cells #[.int .i64 k, .string s, .int .i64 n, .slice none 0 0] 27)
          exact ⟨0, none, 0, Nat.zero_le _, rfl, by simp [Tm.sizes], by simp [Tm.sizes]; omega, by simp [Tm.deeps]; omega, ⟨[], World.ownsRow_nil _ _ _ _, by simp [Tm.cellsP]⟩, a1, by simp, a2, a3, a4⟩
        case round =>
          obtain ⟨k', gv, cv, hk', rfl, rfl, hq, hdq, hrow, hb, hbs, hbox, hres, hout⟩ := hrel
          obtain ⟨⟨b0, b1, b2, b3⟩, _⟩ := row4 hbox.out
          have HROW := Lib.hid hrow.out
          have HB := Lib.hid hb.out
          have HBOX := Lib.hid hbox.out
          have HRES := Lib.hid hres.out
          have HOUT := Lib.hid hout.out
          clear hrow hb hbox hres hout
          by_cases hlt : k' < ts.length
          · have hbl := bdsIn_held HBL.out HB.out
            have hin := Tm.inn_mono (Tm.inn_below HIN.out HB.out (Nat.le_refl _)) HB.out.size
            obtain ⟨b, off, sv, hgt, hbB, g0, g1, g2, g3, hin'⟩ := Tm.sliceIn_get (Tm.inn_iff.1 hin).2 k' hlt
            subst hgt
            simp only [Tm.args] at g0 g1 g2 g3 hin'
            obtain ⟨_, ga, capa, rfl, _, _, _⟩ := Tm.inn_iff.1 hin'
            have hih := HIH.out ts[k'] (List.getElem_mem hlt) (HRK.out _ (List.getElem_mem hlt)) (HFA.out _ (List.getElem_mem hlt)) (m - (((Tm.sizes (L.take k') : Nat) : Int) + 1)) (d - 1) wr _ _ (by omega) (by omega) (by omega) (by omega) hbl hin'
            rw [← HLG.out k' hlt] at hih
            have hIH := Lib.hid hih
            clear hbl hin hin' hih
            go_wp2_with fail
            refine hIH.out.mono ?_
            rintro e w4 ⟨hb4, hpost⟩
            have hs4 := hb4.size
            have hl4 : w.heap.size + 1 + 1 < w4.heap.size := by omega
            have hl5 : w.heap.size + 1 < w4.heap.size := by omega
            have hl6 : w.heap.size < w4.heap.size := by omega
            have hout4 := (hb4.block _ (by omega)).trans HOUT.out
            have hres4 := (hb4.block _ (by omega)).trans HRES.out
            obtain ⟨⟨o0, o1, o2, o3⟩, of0, of1, of2, of3⟩ := row4 hout4
            obtain ⟨⟨c0, c1, c2, c3⟩, f0, f1, f2, f3⟩ := row4 hres4
            have hkL : k' < L.length := by omega
            have hsz := Tm.sizes_take_succ L k' hkL
            have hdp := Tm.deeps_take_succ L k' hkL
            have hssp := sizes_split hkL
            have hdml := deeps_mem_le hkL
            have htk := List.take_succ_eq_append_getElem hkL
            have hupos := Tm.size_pos (L[k']'hkL)
            obtain ⟨u, hu⟩ : ∃ u, L[k']'hkL = u := ⟨_, rfl⟩
            rw [hu] at hpost hsz hdp htk hssp hdml hupos
            have HSZ := Lib.hid hsz
            have HDP := Lib.hid hdp
            have HTK := Lib.hid htk
            have HB4 := Lib.hid hb4
            have HRES4 := Lib.hid hres4
            have HOUT4 := Lib.hid hout4
            clear hsz hdp htk hu hb4 hres4 hout4 hIH b0 b1 b2 b3
            rcases hpost with ⟨hf, rfl⟩ | ⟨hf, gu, cu, rfl, hpu⟩
            · have hff : fitB (.mk k s n L) m d = false := fitB_not fun h => by
                have h1 := h.1
                have h2 := h.2
                simp only [Tm.size, Tm.deep] at h1 h2
                rw [Bool.eq_false_iff] at hf
                exact hf (fitB_iff.2 ⟨by omega, by omega⟩)
              have HF := Lib.hid hff
              clear hf hff hssp hdml
              go_wp2_with fail
              refine bodyPost_ret (v := .tuple #[.agg #[.int .i64 0, .string ⟨#[]⟩, .int .i64 0, .slice none 0 0], .int .i64 0]) (by simp [results, Try.results59, go_sem, c0, c1, c2, c3, hl5]) rfl ?_
              exact ⟨(set4_below (HB.out.trans (HB4.out.mono (by omega))) (by omega) _ _ _ _).alloc (by rw [set4_size]; omega) _, .inl ⟨HF.out, rfl⟩⟩
            · obtain ⟨hf1, hf2⟩ := fitB_iff.1 hf
              have hcu : u.args.length ≤ cu := by
                obtain ⟨_, _, _, e1, h1, _, _⟩ := Tm.innP_iff.1 hpu
                injection e1 with e1 e2 e3
                omega
              obtain ⟨xs, hown, hcells⟩ := HROW.out
              have HOWN := Lib.hid hown
              have HCELLS := Lib.hid hcells
              have HOWN4 := Lib.hid (ownsRow_below hown HB4.out)
              have HPU := Lib.hid hpu
              clear hf hpu hown hcells hssp hdml HROW
              go_wp2_with (at_builtin; refine wpList_append_sep _ rfl _ _ 25 rfl (w.heap.size + 3) 27 i0 _ 4 56 Try.underlying25 hi hz0 hz1 hz2 rfl (by decide) (.slice gv k' cv) k' xs rfl ((HOWN4.out.alloc _).alloc _) ⟨w4.heap.size + 1, 0, none⟩ 1 1 [.int .i64 u.kind, .string u.name, .int .i64 u.n, .slice gu u.args.length cu] rfl (by decide) rfl (news4h _ (by simp)) one4 (by unfold maxLen; omega) (by omega) (by simp; omega) ?_; intro v' w5 hown5 hgrow hsep; obtain ⟨g5, c5, rfl⟩ := owns_slice hown5; have hout5 := blk_two HOUT4.out hgrow (fun e => by have := (HOWN.out.lt _ e).1; omega); obtain ⟨⟨p0, p1, p2, p3⟩, pf0, pf1, pf2, pf3⟩ := row4 hout5)
              go_roundw
              case rel =>
                have hne : ∀ j, j < w.heap.size + 3 → (Value.slice gv k' cv).ownBlock ≠ some j := fun j hj e => by have := (HOWN.out.lt j e).1; omega
                have hb45 : Below wr.heap.size wr (w4.alloc (Obj.cells #[.int .i64 u.kind, .string u.name, .int .i64 u.n, .slice gu u.args.length cu] 27)) := HB4.out.alloc (by omega) _
                have hs5 := hgrow.size
                simp at hs5
                refine ⟨k' + 1, g5, c5, by omega, by go_num, ?_, ?_, ?_, ⟨_, ownsRow_set hown5 (by omega) _ _, ?_⟩, ?_, by simp; omega, ?_, ?_, ?_⟩
                · rw [HSZ.out]
                  congr 1
                  push_cast
                  omega
                · rw [HSZ.out]
                  push_cast
                  omega
                · rw [HDP.out]
                  omega
                · rw [HTK.out]
                  exact cellsP_set (by omega) (row_step HOWN.out HCELLS.out hb45 (by omega) (Tm.innP_same (fun b hb' => ⟨hb'.1, by simp; omega⟩) (fun b o v hb' hc => by rw [World.cell?_alloc_lt _ _ _ (by exact hb'.2)]; exact hc) _ _ HPU.out) hgrow hsep)
                · exact (((((HB.out.trans (HB4.out.mono (by omega))).alloc (by omega) _).alloc (by simp; omega) _).grown hgrow (by simp; omega) (fun j e => by have := (HOWN.out.lt j e).1; omega)).setCell (p := ⟨w.heap.size + 1 + 1, 3, none⟩) (by simp; omega) _)
                · exact (Below.heap_setCell _ _ _ _ (by simp; omega)).trans (blk_two ((HB4.out.block _ (by omega)).trans HBOX.out) hgrow (hne _ (by omega)))
                · exact (Below.heap_setCell _ _ _ _ (by simp)).trans (blk_two HRES4.out hgrow (hne _ (by omega)))
                · exact set1_same hout5 _
              case measure => simp [intOf]; omega
          · obtain rfl : k' = L.length := by omega
            obtain ⟨⟨o0, o1, o2, o3⟩, of0, of1, of2, of3⟩ := row4 HOUT.out
            obtain ⟨⟨c0, c1, c2, c3⟩, f0, f1, f2, f3⟩ := row4 HRES.out
            rw [List.take_length] at HROW hq hdq ⊢
            have hff : fitB (.mk k s n L) m d = true := fitB_iff.2 ⟨by simp only [Tm.size]; omega, by simp only [Tm.deep]; push_cast; omega⟩
            have HF := Lib.hid hff
            obtain ⟨xs, hown, hcells⟩ := HROW.out
            have HOWN := Lib.hid hown
            have HCELLS := Lib.hid hcells
            clear hff hown hcells HROW
            go_wp2_with fail
            refine bodyPost_ret (v := .tuple #[.agg #[.int .i64 k, .string s, .int .i64 n, .slice gv L.length cv], .int .i64 ((Tm.sizes L + 1 : Nat) : Int)]) (by simp [results, Try.results59, go_sem, c0, c1, c2, c3]) rfl ?_
            refine ⟨set4_below HB.out (by omega) _ _ _ _, .inr ⟨HF.out, gv, cv, rfl, ?_⟩⟩
            rw [Tm.innP_mk]
            exact ⟨HHD.out, sliceP_done (wr := wr) (wf := set4 wr (w.heap.size + 1) _ _ _ _) (lo := w.heap.size + 3) (xs := xs) HOWN.out HCELLS.out (by omega) (by omega) (by rw [set4_size]; exact Nat.le_refl _) fun k hk _ => set4_blk wr _ _ _ _ (by omega)⟩
end Go.Proofs.Ytgnbjhiafjpokaa
