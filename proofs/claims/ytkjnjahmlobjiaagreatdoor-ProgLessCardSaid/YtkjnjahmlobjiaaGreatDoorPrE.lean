/-
  The program's reader: what stands while a function of its runs; what each is to do.
  Reading goes on: what stands ahead of the next call.
  The program's reader: terms in brackets; names with Args.
-/
import Derived.Test.YtkjnjahmlobjiaaGreatDoorPrA
import Derived.Test.YtkjnjahmlobjiaaGreatDoorG14
import Derived.Deep.RegionWith
namespace Go.Proofs.YtkjnjahmlobjiaaGreatDoor
open Go.RowKit

/-- What is left alone in a call: what the caller says, the call's boxes, the texts. -/
def Yc (X B : Nat → Prop) (nv : Value) : Nat → Prop := XN (fun b => X b ∨ B b) nv
/-- What stands in a call of the reader's. -/
structure PSt (X B : Nat → Prop) (W : World) (rb z : Nat) (nv : Value) (ts : Toks) (ns : Names) (nv' : Value) (wx : World) : Prop where
  rd : PRd (Yc X B nv') wx rb z ts ns nv'
  nvn : NvN W nv nv'
  fr : FrP (wrt rb nv) W wx
  bx : ∀ b, B b → W.heap.size ≤ b ∧ b < wx.heap.size ∧ nv'.ownBlock ≠ some b
  xr : X rb
  xn : ∀ b, nv.ownBlock = some b → X b
  old : ∀ b, X b → b < W.heap.size
theorem PSt.start {X : Nat → Prop} {W : World} {rb z : Nat} {ts : Toks} {ns : Names} {nv : Value} (h : PRd X W rb z ts ns nv) : PSt X (fun _ => False) W rb z nv ts ns nv W :=
  ⟨h.mv (FrP.refl (fun _ => False) W) (fun _ hp => hp.elim) (fun b hx => .inl (by
    rcases hx with (hx | hx) | hx
    · exact hx
    · exact hx.elim
    · exact (h.nvx b hx).1)) (.inl (.inl h.own)) (fun b hb => .inr hb), NvN.refl _ _, FrP.refl _ _, fun _ hb => hb.elim, h.own, fun b hb => (h.nvx b hb).1, h.old⟩
theorem PSt.lt {X B : Nat → Prop} {W : World} {rb z : Nat} {nv : Value} {ts : Toks} {ns : Names} {nv' : Value} {wx : World} (h : PSt X B W rb z nv ts ns nv' wx) : rb < W.heap.size := h.old rb h.xr
theorem PSt.box {X B : Nat → Prop} {W : World} {rb z : Nat} {nv : Value} {ts : Toks} {ns : Names} {nv' : Value} {wx : World} (h : PSt X B W rb z nv ts ns nv' wx) (o : Obj) : PSt X (fun b => B b ∨ b = wx.heap.size) W rb z nv ts ns nv' (wx.alloc o) := by
  have hb := (Below.refl wx.heap.size wx).alloc (Nat.le_refl _) o
  have hs : (wx.alloc o).heap.size = wx.heap.size + 1 := by simp
  refine ⟨h.rd.mv (FrP.of_below hb) (fun _ hp => hp.elim) (fun b hx => ?_) ?_ (fun b hx => .inr hx), h.nvn, h.fr.trans (FrP.of_below hb) (fun _ _ h => h) (fun _ _ h => h.elim), fun b hx => ?_, h.xr, h.xn, h.old⟩
  · rcases hx with (hx | hx | hx) | hx
    · exact .inl (.inl (.inl hx))
    · exact .inl (.inl (.inr hx))
    · subst hx
      exact .inr ⟨Nat.le_refl _, by rw [hs]; omega⟩
    · exact .inl (.inr hx)
  · exact .inl (.inl h.xr)
  · rcases hx with hx | hx
    · obtain ⟨h1, h2, h3⟩ := h.bx b hx
      exact ⟨h1, by rw [hs]; omega, h3⟩
    · subst hx
      refine ⟨h.fr.size, by rw [hs]; omega, fun e => ?_⟩
      have := h.rd.old _ ((h.rd.nvx _ e).1)
      omega
theorem PSt.next {X B : Nat → Prop} {W : World} {rb z : Nat} {nv : Value} {ts : Toks} {ns : Names} {nv' : Value} {wx wy : World} (h : PSt X B W rb z nv ts ns nv' wx) (hb : Below wx.heap.size wx wy) : PSt X B W rb z nv ts ns nv' wy :=
  ⟨h.rd.next hb, h.nvn, h.fr.trans (FrP.of_below hb) (fun _ _ h => h) (fun _ _ h => h.elim), fun b hx => ⟨(h.bx b hx).1, Nat.lt_of_lt_of_le (h.bx b hx).2.1 hb.size, (h.bx b hx).2.2⟩, h.xr, h.xn, h.old⟩
theorem PSt.dn {X B : Nat → Prop} {W : World} {rb z : Nat} {nv : Value} {ts : Toks} {ns : Names} {nv' : Value} {wx : World} (h : PSt X B W rb z nv ts ns nv' wx) (k : Nat) : PSt X B W rb z nv ts ns nv' (wx.drewN k) := h.next ⟨rfl, rfl, rfl, Nat.le_refl _, fun _ _ => rfl⟩
/-- A store into a box. -/
theorem PSt.put {X B : Nat → Prop} {W : World} {rb z tb : Nat} {nv : Value} {ts : Toks} {ns : Names} {nv' : Value} {wx wy : World} (h : PSt X B W rb z nv ts ns nv' wx) (hf : FrP (fun b => b = tb) wx wy) (hb : B tb) : PSt X B W rb z nv ts ns nv' wy := by
  obtain ⟨h1, h2, h3⟩ := h.bx tb hb
  have hlt := h.lt
  exact ⟨h.rd.other hf (.inl (.inr hb)) (by omega) h3, h.nvn, h.fr.trans hf (fun _ _ h => h) (fun b hb' e => by omega), fun b hx => ⟨(h.bx b hx).1, Nat.lt_of_lt_of_le (h.bx b hx).2.1 hf.size, (h.bx b hx).2.2⟩, h.xr, h.xn, h.old⟩
theorem Yc_call {X B : Nat → Prop} {nv n2 : Value} {wx : World} (hn : NvN wx nv n2) : ∀ b, Yc X B n2 b → Yc X B nv b ∨ wx.heap.size ≤ b := fun b hx => by
  rcases hx with hx | hx
  · exact .inl (.inl hx)
  · rcases hn b hx with h1 | h1
    · exact .inl (.inr h1)
    · exact .inr h1
theorem Yc_sub {X B : Nat → Prop} {nv n2 : Value} : ∀ b, Yc X B n2 b → XN (Yc X B nv) n2 b := fun b hx => by
  rcases hx with hx | hx
  · exact .inl (.inl hx)
  · exact .inr hx
/-- A call of the reader's in a call. -/
theorem PSt.call {X B : Nat → Prop} {W : World} {rb z : Nat} {nv : Value} {ts ts2 : Toks} {ns ns2 : Names} {nv' n2 : Value} {wx wy : World} (h : PSt X B W rb z nv ts ns nv' wx) (hr : PRd (XN (Yc X B nv') n2) wy rb z ts2 ns2 n2) (hn : NvN wx nv' n2) (hf : FrP (wrt rb nv') wx wy) : PSt X B W rb z nv ts2 ns2 n2 wy := by
  refine ⟨hr.less Yc_sub (.inl (.inl h.xr)) (fun b hb => .inr hb), h.nvn.trans hn h.fr, h.fr.trans hf (fun _ _ h => h) (fun b hb hw => ?_), fun b hx => ?_, h.xr, h.xn, h.old⟩
  · rcases hw with hw | hw
    · exact .inl hw
    · rcases h.nvn b hw with h1 | h1
      · exact .inr h1
      · omega
  · obtain ⟨h1, h2, h3⟩ := h.bx b hx
    refine ⟨h1, Nat.lt_of_lt_of_le h2 hf.size, fun e => ?_⟩
    rcases hn b e with h4 | h4
    · exact h3 h4
    · omega
/-- A call that writes the reader alone. -/
theorem PSt.call0 {X B : Nat → Prop} {W : World} {rb z : Nat} {nv : Value} {ts ts2 : Toks} {ns ns2 : Names} {nv' : Value} {wx wy : World} (h : PSt X B W rb z nv ts ns nv' wx) (hr : PRd (Yc X B nv') wy rb z ts2 ns2 nv') (hf : FrP (fun b => b = rb) wx wy) : PSt X B W rb z nv ts2 ns2 nv' wy :=
  ⟨hr, h.nvn, h.fr.trans hf (fun _ _ h => h) (fun _ _ e => .inl e), fun b hx => ⟨(h.bx b hx).1, Nat.lt_of_lt_of_le (h.bx b hx).2.1 hf.size, (h.bx b hx).2.2⟩, h.xr, h.xn, h.old⟩
/-- What lies in a box stays in a call. -/
theorem PSt.keep {X B : Nat → Prop} {W : World} {rb z b : Nat} {nv : Value} {ts : Toks} {ns : Names} {nv' : Value} {wx wy : World} (h : PSt X B W rb z nv ts ns nv' wx) (hf : FrP (wrt rb nv') wx wy) (hb : B b) : wy.heap[b]? = wx.heap[b]? := by
  obtain ⟨h1, h2, h3⟩ := h.bx b hb
  refine hf.block b h2 (fun hw => ?_)
  rcases hw with hw | hw
  · have := h.lt
    omega
  · exact h3 hw
theorem wrt0 {rb : Nat} {nv : Value} {wx wy : World} (h : FrP (fun b => b = rb) wx wy) : FrP (wrt rb nv) wx wy := h.mono (fun _ _ e => .inl e)
theorem wrt_X {X B : Nat → Prop} {rb : Nat} {nv : Value} (hr : X rb) : ∀ b, wrt rb nv b → Yc X B nv b := fun b hw => by
  rcases hw with hw | hw
  · exact .inl (.inl (by rw [hw]; exact hr))
  · exact .inr hw
/-- A term that is held stays in a call. -/
theorem PSt.tv {X B : Nat → Prop} {W : World} {rb z : Nat} {nv : Value} {ts : Toks} {ns : Names} {nv' n2 : Value} {wx wy : World} {u : Option Tm} {k : Int} {nm : ByteArray} {n : Int} {sv : Value} (h : PSt X B W rb z nv ts ns nv' wx) (ht : TV (Yc X B nv') wx u k nm n sv) (hn : NvN wx nv' n2) (hf : FrP (wrt rb nv') wx wy) : TV (Yc X B n2) wy u k nm n sv :=
  ht.mv hf (wrt_X h.xr) (Yc_call hn)
theorem TV.back {X B : Nat → Prop} {nv n2 : Value} {w : World} {u : Option Tm} {k : Int} {nm : ByteArray} {n : Int} {sv : Value} (h : TV (XN (Yc X B nv) n2) w u k nm n sv) : TV (Yc X B n2) w u k nm n sv :=
  h.mv (FrP.refl (fun _ => False) w) (fun _ hp => hp.elim) (fun b hx => .inl (Yc_sub b hx))
/-- The call ends. -/
theorem PSt.fin {α : Type} {X B : Nat → Prop} {W : World} {rb z : Nat} {nv : Value} {ts : Toks} {ns : Names} {nv' : Value} {wx : World} {S : List UInt8} {r : RRes α} {c : Nat} (h : PSt X B W rb z nv ts ns nv' wx) (hr : match r with | .ok (_, ts1, ns1) => c = 0 ∧ ts = ts1 ∧ ns = ns1 | .error (k, pl) => c = k ∧ (k = 2 ∨ k = 3) ∧ placeT S ts = pl) : PEnd X W rb z nv S r c nv' wx :=
  ⟨⟨ts, ns, h.rd.less (fun b hx => by rcases hx with hx | hx; exact .inl (.inl hx); exact .inr hx) (.inl h.xr) (fun b hb => .inr hb), hr⟩, h.nvn, h.fr⟩
theorem TV.fin {X B : Nat → Prop} {nv : Value} {w : World} {u : Option Tm} {k : Int} {nm : ByteArray} {n : Int} {sv : Value} (h : TV (Yc X B nv) w u k nm n sv) : TV (XN X nv) w u k nm n sv :=
  h.mv (FrP.refl (fun _ => False) w) (fun _ hp => hp.elim) (fun b hx => .inl (by rcases hx with hx | hx; exact .inl (.inl hx); exact .inr hx))

/-! ### what each function is to do -/
def PTermPost (X : Nat → Prop) (W : World) (rb z : Nat) (nv : Value) (S : List UInt8) (r : RRes Tm) (e : Ending) (W' : World) : Prop :=
  ∃ k nm n g m c cd nv', e = .returned (.tuple #[.agg #[.int .i64 k, .string nm, .int .i64 n, .slice g m c], .int .i64 (cd : Nat)]) ∧ PEnd X W rb z nv S r cd nv' W' ∧ TV (XN X nv') W' (valOf r) k nm n (.slice g m c)
def PTerm (f : Nat) : Prop := ∀ (X : Nat → Prop) (W : World) (rb z : Nat) (S : List UInt8) (ts : Toks) (ns : Names) (nv : Value) (most deep : Nat), PIn S z f 3 ts ns → PRd X W rb z ts ns nv → most ≤ 1200 → deep ≤ 1000 →
  Calls Tryz.prog 61 #[.pointer (some ⟨rb, 0, none⟩), .int .i64 (most : Nat), .int .i64 (deep : Nat)] W fun e W' => PTermPost X W rb z nv S (rdTerm S f most deep ts ns) e W'
def PTermsPost (X : Nat → Prop) (W : World) (rb z : Nat) (nv : Value) (S : List UInt8) (r : RRes (List Tm)) (e : Ending) (W' : World) : Prop :=
  ∃ g m c cd nv', e = .returned (.tuple #[.slice g m c, .int .i64 (cd : Nat)]) ∧ PEnd X W rb z nv S r cd nv' W' ∧ (match valOf r with | some l => l.length = m ∧ m ≤ 1000001 ∧ Tm.sliceP W' (okN (XN X nv') W') l (.slice g m c) | none => g = none ∧ m = 0 ∧ c = 0)
def PTerms (f : Nat) : Prop := ∀ (X : Nat → Prop) (W : World) (rb z : Nat) (S : List UInt8) (ts : Toks) (ns : Names) (nv : Value) (deep : Nat), PIn S z f 4 ts ns → PRd X W rb z ts ns nv → deep ≤ 999 →
  Calls Tryz.prog 124 #[.pointer (some ⟨rb, 0, none⟩), .int .i64 ((deep : Int) + 1)] W fun e W' => PTermsPost X W rb z nv S (rdRow S f deep ts ns) e W'
/-- An operand, and its priority. -/
def rdOp (S : List UInt8) (f p deep : Nat) (ts : Toks) (ns : Names) : RRes (Tm × Nat) :=
  if 999 < deep then .error (3, placeT S ts)
  else match ts with
  | [] => .error (2, S.length)
  | x :: r =>
    if x.1.kind = 3 then .ok ((numT x.1.n, 0), r, ns)
    else if x.1.kind = 2 then .ok ((varT (varN ns x.1.text).1, 0), r, (varN ns x.1.text).2)
    else if x.1.kind = 1 then rdName S f x p deep r ns
    else if seeT 40 (x :: r) = true then (match parE S f deep (.ok (r, ns)) with | .error e => .error e | .ok (t, r', n') => .ok ((t, 0), r', n'))
    else if seeT 91 (x :: r) = true then (match lstE S f deep (.ok (r, ns)) with | .error e => .error e | .ok (t, r', n') => .ok ((t, 0), r', n'))
    else .error (2, x.2)
theorem rdTerm_op (S : List UInt8) (f p deep : Nat) (ts : Toks) (ns : Names) : rdTerm S (f + 1) p deep ts ns = restE2 S f p deep (rdOp S f p deep ts ns) := by
  rw [rdTerm.eq_def]
  dsimp only
  unfold rdOp
  by_cases hd : 999 < deep
  · rw [if_pos hd, if_pos hd]
    rfl
  rw [if_neg hd, if_neg hd]
  cases ts with
  | nil => rfl
  | cons x r =>
    dsimp only
    by_cases k3 : x.1.kind = 3
    · rw [if_pos k3, if_pos k3]; rfl
    rw [if_neg k3, if_neg k3]
    by_cases k2 : x.1.kind = 2
    · rw [if_pos k2, if_pos k2]; rfl
    rw [if_neg k2, if_neg k2]
    by_cases k1 : x.1.kind = 1
    · rw [if_pos k1, if_pos k1]
      cases rdName S f x p deep r ns with
      | error e => rfl
      | ok q => obtain ⟨⟨t, q⟩, r1, n1⟩ := q; rfl
    rw [if_neg k1, if_neg k1]
    by_cases h4 : seeT 40 (x :: r) = true
    · rw [if_pos h4, if_pos h4, parE_eq]
      cases rdTerm S f 1200 (deep + 1) r ns with
      | error e => rfl
      | ok q =>
        obtain ⟨t, r1, n1⟩ := q
        dsimp only
        cases needT S 41 r1 <;> rfl
    rw [if_neg h4, if_neg h4]
    by_cases h9 : seeT 91 (x :: r) = true
    · rw [if_pos h9, if_pos h9]
      have h := lstE_eq S f p deep r ns
      refine Eq.trans h.symm ?_
      cases lstE S f deep (.ok (r, ns)) with
      | error e => rfl
      | ok q => obtain ⟨t, r1, n1⟩ := q; rfl
    rw [if_neg h9, if_neg h9]
    rfl
/-- An operand that is neither a negative number nor an operator ahead of its one term. -/
def cmpE (S : List UInt8) (f deep : Nat) (nm : ByteArray) (ts : Toks) (ns : Names) : RRes Tm :=
  match rdRow S f deep ts ns with
  | .error e => .error e
  | .ok (l, r2, ns2) => match needT S 41 r2 with
    | .error e => .error e
    | .ok r3 => .ok (funT nm l, r3, ns2)
def rdSim (S : List UInt8) (f deep : Nat) (ts : Toks) (ns : Names) : RRes Tm :=
  match ts with
  | [] => .error (2, S.length)
  | x :: r =>
    if x.1.kind = 3 then .ok (numT x.1.n, r, ns)
    else if x.1.kind = 2 then .ok (varT (varN ns x.1.text).1, r, (varN ns x.1.text).2)
    else if x.1.kind = 1 then (if x.1.opn = true then cmpE S (f - 1) deep (nmT x) r.tail ns else .ok (funT (nmT x) [], r, ns))
    else if seeT 40 (x :: r) = true then parE S f deep (.ok (r, ns))
    else if seeT 91 (x :: r) = true then lstE S f deep (.ok (r, ns))
    else .error (2, x.2)
def PComp (f : Nat) : Prop := ∀ (X : Nat → Prop) (W : World) (rb z : Nat) (S : List UInt8) (ts : Toks) (ns : Names) (nv : Value) (nm : ByteArray) (deep : Nat), PIn S z f 4 ts.tail ns → PRd X W rb z ts ns nv → 1 ≤ ts.length → ts.length ≤ 1000000 → deep ≤ 999 → nm.size ≤ maxLen →
  Calls Tryz.prog 110 #[.pointer (some ⟨rb, 0, none⟩), .string nm, .int .i64 ((deep : Int) + 1)] W fun e W' => PTermPost X W rb z nv S (cmpE S f deep nm ts.tail ns) e W'
def PParen (f : Nat) : Prop := ∀ (X : Nat → Prop) (W : World) (rb z : Nat) (S : List UInt8) (ts : Toks) (ns : Names) (nv : Value) (deep : Nat), PIn S z f 3 ts ns → PRd X W rb z ts ns nv → deep ≤ 999 →
  Calls Tryz.prog 112 #[.pointer (some ⟨rb, 0, none⟩), .int .i64 ((deep : Int) + 1)] W fun e W' => PTermPost X W rb z nv S (parE S f deep (.ok (ts, ns))) e W'
def PList (f : Nat) : Prop := ∀ (X : Nat → Prop) (W : World) (rb z : Nat) (S : List UInt8) (ts : Toks) (ns : Names) (nv : Value) (deep : Nat), PIn S z f 4 ts ns → PRd X W rb z ts ns nv → deep ≤ 999 →
  Calls Tryz.prog 113 #[.pointer (some ⟨rb, 0, none⟩), .int .i64 ((deep : Int) + 1)] W fun e W' => PTermPost X W rb z nv S (lstE S f deep (.ok (ts, ns))) e W'
def PSimple (f : Nat) : Prop := ∀ (X : Nat → Prop) (W : World) (rb z : Nat) (S : List UInt8) (ts : Toks) (ns : Names) (nv : Value) (deep : Nat), PIn S z f 2 ts ns → PRd X W rb z ts ns nv → deep ≤ 999 →
  Calls Tryz.prog 96 #[.pointer (some ⟨rb, 0, none⟩), .int .i64 (deep : Nat)] W fun e W' => PTermPost X W rb z nv S (rdSim S f deep ts ns) e W'
def POpPost (X : Nat → Prop) (W : World) (rb z : Nat) (nv : Value) (S : List UInt8) (r : RRes (Tm × Nat)) (e : Ending) (W' : World) : Prop :=
  ∃ k nm n g m c q cd nv', e = .returned (.tuple #[.agg #[.int .i64 k, .string nm, .int .i64 n, .slice g m c], .int .i64 (q : Nat), .int .i64 (cd : Nat)]) ∧ q ≤ 1200 ∧ PEnd X W rb z nv S r cd nv' W' ∧ TV (XN X nv') W' ((valOf r).map Prod.fst) k nm n (.slice g m c) ∧ ∀ u, valOf r = some u → q = u.2
def POper (f : Nat) : Prop := ∀ (X : Nat → Prop) (W : World) (rb z : Nat) (S : List UInt8) (ts : Toks) (ns : Names) (nv : Value) (most deep : Nat), PIn S z f 2 ts ns → PRd X W rb z ts ns nv → most ≤ 1200 → deep ≤ 1000 →
  Calls Tryz.prog 81 #[.pointer (some ⟨rb, 0, none⟩), .int .i64 (most : Nat), .int .i64 (deep : Nat)] W fun e W' => POpPost X W rb z nv S (rdOp S f most deep ts ns) e W'
end Go.Proofs.YtkjnjahmlobjiaaGreatDoor

namespace Go.Proofs.YtkjnjahmlobjiaaGreatDoor
open Go.RowKit

theorem NoUs.var {ns : Names} (h : NoUs ns) (tx : List UInt8) : NoUs (varN ns tx).2 := by
  unfold varN
  by_cases h1 : tx = [95] ∨ tx = []
  · rw [if_pos h1]
    intro hm
    rcases List.mem_append.1 hm with hm | hm
    · exact h hm
    · simp at hm
  · rw [if_neg h1]
    cases findN tx ns with
    | some i => exact h
    | none =>
      intro hm
      rcases List.mem_append.1 hm with hm | hm
      · exact h hm
      · exact h1 (.inl (by simpa using (List.mem_singleton.1 hm).symm))
theorem rd_us (S : List UInt8) : ∀ f : Nat,
    (∀ t now p deep ts ns u ts' ns', rdRest S f t now p deep ts ns = .ok (u, ts', ns') → NoUs ns → NoUs ns') ∧
    (∀ p deep ts ns u ts' ns', rdTerm S f p deep ts ns = .ok (u, ts', ns') → NoUs ns → NoUs ns') ∧
    (∀ x p deep ts ns u ts' ns', rdName S f x p deep ts ns = .ok (u, ts', ns') → NoUs ns → NoUs ns') ∧
    (∀ deep ts ns u ts' ns', rdRow S f deep ts ns = .ok (u, ts', ns') → NoUs ns → NoUs ns')
  | 0 => by
    refine ⟨?_, ?_, ?_, ?_⟩
    · intro t now p deep ts ns u ts' ns' h; rw [rdRest] at h; cases h
    · intro p deep ts ns u ts' ns' h; rw [rdTerm] at h; cases h
    · intro x p deep ts ns u ts' ns' h; rw [rdName] at h; cases h
    · intro deep ts ns u ts' ns' h; rw [rdRow] at h; cases h
  | f + 1 => by
    obtain ⟨ih1, ih2, ih3, ih4⟩ := rd_us S f
    refine ⟨?_, ?_, ?_, ?_⟩
    · intro t now p deep ts ns u ts' ns' h hu
      rw [rdRest.eq_def] at h
      dsimp only at h
      split at h
      · injection h with h; injection h with _ h; injection h with h1 h2; subst h1 h2; exact hu
      · rename_i x r
        split at h
        · split at h
          · cases h
          · rename_i v r1 ns1 hv
            exact ih1 _ _ _ _ _ _ _ _ _ h (ih2 _ _ _ _ _ _ _ hv hu)
        · injection h with h; injection h with _ h; injection h with h1 h2; subst h1 h2; exact hu
    · intro p deep ts ns u ts' ns' h hu
      rw [rdTerm.eq_def] at h
      dsimp only at h
      split at h
      · cases h
      split at h
      · cases h
      rename_i x r
      split at h
      · exact ih1 _ _ _ _ _ _ _ _ _ h hu
      split at h
      · exact ih1 _ _ _ _ _ _ _ _ _ h (hu.var _)
      split at h
      · split at h
        · cases h
        · rename_i t q r1 ns1 hv
          exact ih1 _ _ _ _ _ _ _ _ _ h (ih3 _ _ _ _ _ _ _ _ hv hu)
      split at h
      · split at h
        · cases h
        · rename_i t r1 ns1 hv
          split at h
          · cases h
          · exact ih1 _ _ _ _ _ _ _ _ _ h (ih2 _ _ _ _ _ _ _ hv hu)
      split at h
      · split at h
        · cases h
        · rename_i l r1 ns1 hv
          split at h
          · split at h
            · cases h
            · rename_i t r2 ns2 ht
              split at h
              · cases h
              · exact ih1 _ _ _ _ _ _ _ _ _ h (ih2 _ _ _ _ _ _ _ ht (ih4 _ _ _ _ _ _ hv hu))
          · split at h
            · cases h
            · exact ih1 _ _ _ _ _ _ _ _ _ h (ih4 _ _ _ _ _ _ hv hu)
      · cases h
    · intro x p deep ts ns u ts' ns' h hu
      rw [rdName] at h
      split at h
      · injection h with h; injection h with _ h; injection h with h1 h2; subst h1 h2; exact hu
      split at h
      · split at h
        · cases h
        · split at h
          · cases h
          · rename_i l r2 ns2 hv
            split at h
            · cases h
            · injection h with h; injection h with _ h; injection h with h1 h2; subst h1 h2
              exact ih4 _ _ _ _ _ _ hv hu
      split at h
      · injection h with h; injection h with _ h; injection h with h1 h2; subst h1 h2; exact hu
      split at h
      · cases h
      split at h
      · cases h
      · rename_i v r1 ns1 hv
        injection h with h; injection h with _ h; injection h with h1 h2; subst h1 h2
        exact ih2 _ _ _ _ _ _ _ hv hu
    · intro deep ts ns u ts' ns' h hu
      rw [rdRow] at h
      split at h
      · cases h
      · rename_i t r ns1 hv
        split at h
        · split at h
          · cases h
          · rename_i l r2 ns2 hl
            injection h with h; injection h with _ h; injection h with h1 h2; subst h1 h2
            exact ih4 _ _ _ _ _ _ hl (ih2 _ _ _ _ _ _ _ hv hu)
        · injection h with h; injection h with _ h; injection h with h1 h2; subst h1 h2
          exact ih2 _ _ _ _ _ _ _ hv hu
theorem PIn.went {S : List UInt8} {z f k f' k' j : Nat} {ts ts' : Toks} {ns ns' : Names} (h : PIn S z f k ts ns) (w : Went ts ts' ns ns' j) (hu : NoUs ns') (hk : f + k' ≤ f' + k + 4 * j) : PIn S z f' k' ts' ns' := by
  have h1 := h.room
  have h2 := w.len
  have h3 := w.nms
  have h4 := h.names
  have h5 := h.len
  exact ⟨h.good.suf w.suf, hu, by omega, by omega, by omega, h.zs, h.zl⟩
theorem PIn.rest {S : List UInt8} {z f k f' k' : Nat} {x : Tk × Nat} {r : Toks} {ns : Names} (h : PIn S z f k (x :: r) ns) (hk : f + k' ≤ f' + k + 4) : PIn S z f' k' r ns := h.went (Went.one x r ns) h.us (by omega)
theorem PIn.see {S : List UInt8} {z f k f' k' : Nat} {m : UInt8} {ts : Toks} {ns : Names} (h : PIn S z f k ts ns) (hm : seeT m ts = true) (hk : f + k' ≤ f' + k + 4) : PIn S z f' k' ts.tail ns := h.went (seeT_tail ns hm) h.us (by omega)
theorem PIn.less {S : List UInt8} {z f k f' k' : Nat} {ts : Toks} {ns : Names} (h : PIn S z f k ts ns) (hk : f + k' ≤ f' + k) : PIn S z f' k' ts ns := h.went (Went.refl ts ns) h.us (by omega)
theorem PIn.term {S : List UInt8} {z f k f' k' g p deep : Nat} {ts ts' : Toks} {ns ns' : Names} {u : Tm} (h : PIn S z f k ts ns) (hr : rdTerm S g p deep ts ns = .ok (u, ts', ns')) (hk : f + k' ≤ f' + k + 4) : PIn S z f' k' ts' ns' :=
  h.went ((rd_went S g).2.1 _ _ _ _ _ _ _ hr) ((rd_us S g).2.1 _ _ _ _ _ _ _ hr h.us) (by omega)
theorem PIn.row {S : List UInt8} {z f k f' k' g deep : Nat} {ts ts' : Toks} {ns ns' : Names} {u : List Tm} (h : PIn S z f k ts ns) (hr : rdRow S g deep ts ns = .ok (u, ts', ns')) (hk : f + k' ≤ f' + k + 4) : PIn S z f' k' ts' ns' :=
  h.went ((rd_went S g).2.2.2 _ _ _ _ _ _ hr) ((rd_us S g).2.2.2 _ _ _ _ _ _ hr h.us) (by omega)
/-- What a mark's need is, in the words of the two readers. -/
theorem need_cases (S : List UInt8) (m : UInt8) (ts : Toks) : (seeT m ts = true ∧ needT S m ts = .ok ts.tail) ∨ (seeT m ts = false ∧ needT S m ts = .error (2, placeT S ts)) := by
  unfold needT
  rcases Bool.eq_false_or_eq_true (seeT m ts) with h | h
  · exact .inl ⟨h, by rw [if_pos h]⟩
  · exact .inr ⟨h, by rw [if_neg (by rw [h]; simp)]⟩
end Go.Proofs.YtkjnjahmlobjiaaGreatDoor

namespace Go.Proofs.YtkjnjahmlobjiaaGreatDoor
open Go.RowKit

theorem TV.box {X B : Nat → Prop} {nv : Value} {w : World} {u : Option Tm} {k : Int} {nm : ByteArray} {n : Int} {sv : Value} (h : TV (Yc X B nv) w u k nm n sv) (o : Obj) : TV (Yc X (fun b => B b ∨ b = w.heap.size) nv) (w.alloc o) u k nm n sv :=
  h.mv (FrP.new w o) (fun _ hp => hp.elim) (fun b hx => by
    rcases hx with (hx | hx | hx) | hx
    · exact .inl (.inl (.inl hx))
    · exact .inl (.inl (.inr hx))
    · exact .inr (by omega)
    · exact .inl (.inr hx))
theorem slP_back {X B : Nat → Prop} {nv n2 : Value} {w : World} {l : List Tm} {sv : Value} (h : Tm.sliceP w (okN (XN (Yc X B nv) n2) w) l sv) : Tm.sliceP w (okN (Yc X B n2) w) l sv :=
  slP_mv h (FrP.refl (fun _ => False) w) (fun _ hp => hp.elim) (fun b hx => .inl (Yc_sub b hx))
/-- What is told of the tokens and the error. -/
def Told {α : Type} (S : List UInt8) (r : RRes α) (c : Nat) (ts : Toks) (ns : Names) : Prop := match r with | .ok (_, ts1, ns1) => c = 0 ∧ ts = ts1 ∧ ns = ns1 | .error (k, pl) => c = k ∧ (k = 2 ∨ k = 3) ∧ placeT S ts = pl
/-- The result is stored and handed back. -/
theorem p_fin {X B : Nat → Prop} {W : World} {rb z tb : Nat} {nv : Value} {ts : Toks} {ns : Names} {nv' : Value} {V : World} {S : List UInt8} {r : RRes Tm} {cd : Nat} {u : Option Tm} {k : Int} {nm : ByteArray} {n : Int} {g : Option Addr} {m c : Nat}
    (h : PSt X B W rb z nv ts ns nv' V) (ht : TV (Yc X B nv') V u k nm n (.slice g m c)) (hb : B tb) (hr : Told S r cd ts ns) (hu : ∀ t, valOf r = some t → u = some t) :
    PTermPost X W rb z nv S r (.returned (.tuple #[.agg #[.int .i64 k, .string nm, .int .i64 n, .slice g m c], .int .i64 (cd : Nat)])) (set4 V tb k nm n (.slice g m c)) := by
  have hf := FrP.put V tb k nm n (.slice g m c)
  refine ⟨k, nm, n, g, m, c, cd, nv', rfl, (h.put hf hb).fin hr, ?_⟩
  exact ((ht.mv hf (fun b e => by subst e; exact .inl (.inr hb)) (fun b hx => .inl hx)).fin).sub hu
set_option maxRecDepth 100000 in
set_option maxHeartbeats 8000000 in
theorem paren_p (f : Nat) (IH : PTerm f) : PParen f := by
  intro X W rb z S ts ns nv deep hin hrd hdeep
  obtain ⟨R, hR⟩ : ∃ R, parE S f deep (.ok (ts, ns)) = R := ⟨_, rfl⟩
  rw [hR]
  have HR := Lib.hid hR
  have HIN := Lib.hid hin
  have hlt := hrd.lt
  have HST := Lib.hid ((PSt.start hrd).box (.cells #[.int .i64 0, .string ⟨#[]⟩, .int .i64 0, .slice none 0 0] 34))
  have HB4 := Lib.hid (newBlk W (.cells #[.int .i64 0, .string ⟨#[]⟩, .int .i64 0, .slice none 0 0] 34) W.heap.size rfl)
  clear hR hin hrd
  obtain ⟨V, hV⟩ : ∃ V, W.alloc (.cells #[.int .i64 0, .string ⟨#[]⟩, .int .i64 0, .slice none 0 0] 34) = V := ⟨_, rfl⟩
  rw [hV] at HST HB4
  have HTM : Hid (Calls Tryz.prog 61 #[.pointer (some ⟨rb, 0, none⟩), .int .i64 1200, .int .i64 ((deep : Int) + 1)] V fun e W' => PTermPost (Yc X (fun b => False ∨ b = W.heap.size) nv) V rb z nv S (rdTerm S f 1200 (deep + 1) ts ns) e W') :=
    Lib.hid (IH _ V rb z S ts ns nv 1200 (deep + 1) HIN.out HST.out.rd (by omega) (by omega))
  go_enter Tryz.func112, Tryz.ntmps112
  go_upto_region 1 with fail
  clear hV
  go_upto_region 2 with (go_at_call 61; (with_reducible refine (HTM.out).mono ?_); rintro e U ⟨k, nm, n, g, m, c, cd, n1, rfl, hend, htv⟩; obtain ⟨ts1, ns1, hrd1, htold⟩ := hend.rd; have HB5 := Lib.hid ((HST.out.keep hend.fr (.inr rfl)).trans HB4.out); have HST1 := Lib.hid ((HST.out.call hrd1 hend.nvn hend.fr).box (.cells #[.int .i64 k, .string nm, .int .i64 n, .slice g m c] 34)); have HTV1 := Lib.hid ((htv.back).box (.cells #[.int .i64 k, .string nm, .int .i64 n, .slice g m c] 34)); have HTOLD : Hid (Told S (rdTerm S f 1200 (deep + 1) ts ns) cd ts1 ns1) := Lib.hid htold; clear hend htv hrd1 htold)
  have hb0 : Below U.heap.size U (U.alloc (.cells #[.int .i64 k, .string nm, .int .i64 n, .slice g m c] 34)) := (Below.refl _ _).alloc (Nat.le_refl _) _
  have HB6 := Lib.hid (newBlk U (.cells #[.int .i64 k, .string nm, .int .i64 n, .slice g m c] 34) U.heap.size rfl)
  have hWU : W.heap.size < U.heap.size := (Array.getElem?_eq_some_iff.1 HB5.out).1
  replace HB5 := Lib.hid ((hb0.block _ hWU).trans HB5.out)
  obtain ⟨tb, htb⟩ : ∃ tb, U.heap.size = tb := ⟨_, rfl⟩
  obtain ⟨U1, hU1⟩ : ∃ U1, U.alloc (.cells #[.int .i64 k, .string nm, .int .i64 n, .slice g m c] 34) = U1 := ⟨_, rfl⟩
  rw [hU1] at HB5 HB6 HST1 HTV1 ⊢
  rw [htb] at HB6 HST1 HTV1 hWU ⊢
  clear hb0 hU1 htb HTM HST HB4
  cases hr : rdTerm S f 1200 (deep + 1) ts ns with
  | error e =>
    obtain ⟨c9, pl⟩ := e
    rw [hr] at HTOLD HTV1
    obtain ⟨hc1, hc2, hc3⟩ := HTOLD.out
    have hRe : R = .error (c9, pl) := by
      rw [← HR.out, parE_eq, hr]
    have hcd : ((cd : Int) == 0) = false := by rw [beq_eq_false_iff_ne]; omega
    clear hc1 hc2 hc3 hr
    obtain ⟨⟨a0, a1, a2, a3⟩, af0, af1, af2, af3⟩ := row4 HB5.out
    obtain ⟨⟨b0, b1, b2, b3⟩, bf0, bf1, bf2, bf3⟩ := row4 HB6.out
    have htb1 : tb < U1.heap.size := (Array.getElem?_eq_some_iff.1 HB6.out).1
    have htw : W.heap.size < U1.heap.size := (Array.getElem?_eq_some_iff.1 HB5.out).1
    subst hRe
    go_wp2_with fail
    have HF := Lib.hid (p_fin (cd := cd) HST1.out HTV1.out (.inl (.inr rfl)) HTOLD.out (fun t ht => by cases ht))
    have hz := set4_blk HB5.out k nm n (.slice g m c)
    change bodyPost _ _ _ _ _ (set4 U1 W.heap.size k nm n (.slice g m c))
    obtain ⟨V', hV'⟩ : ∃ V', set4 U1 W.heap.size k nm n (.slice g m c) = V' := ⟨_, rfl⟩
    rw [hV'] at HF hz ⊢
    obtain ⟨⟨z0, z1, z2, z3⟩, -⟩ := row4 hz
    clear hV' hz a0 a1 a2 a3 af0 af1 af2 af3 b0 b1 b2 b3 bf0 bf1 bf2 bf3
    refine bodyPost_ret (v := .tuple #[.agg #[.int .i64 k, .string nm, .int .i64 n, .slice g m c], .int .i64 (cd : Nat)]) (by simp [results, Tryz.results112, go_sem, z0, z1, z2, z3]) rfl ?_
    exact HF.out
  | ok q =>
    obtain ⟨u, ts9, n9⟩ := q
    rw [hr] at HTOLD HTV1
    obtain ⟨hc1, hc2, hc3⟩ := HTOLD.out
    subst hc1 hc2 hc3
    have HIN2 := Lib.hid (HIN.out.term (f' := f) (k' := 0) hr (by omega))
    have HND := Lib.hid (need_p U1 rb z ts1 ns1 n1 41 S HIN2.out.good HIN2.out.zl HST1.out.rd HIN2.out.len)
    have HRr := Lib.hid hr
    clear hr
    obtain ⟨⟨a0, a1, a2, a3⟩, af0, af1, af2, af3⟩ := row4 HB5.out
    go_upto_region 4 with (go_at_call 125; (with_reducible refine (HND.out).mono ?_); rintro e U2 ⟨rfl, hrd2, hfr2⟩; have HB5b := Lib.hid ((HST1.out.keep (wrt0 hfr2) (.inl (.inr rfl))).trans HB5.out); have HB6b := Lib.hid ((HST1.out.keep (wrt0 hfr2) (.inr rfl)).trans HB6.out); have HST2 := Lib.hid (HST1.out.call0 hrd2 hfr2); have HTV2 := Lib.hid (HST1.out.tv HTV1.out (NvN.refl _ _) (wrt0 hfr2)); clear hrd2 hfr2)
    clear a0 a1 a2 a3 af0 af1 af2 af3 HND HST1 HTV1 HB5 HB6
    obtain ⟨⟨a0, a1, a2, a3⟩, af0, af1, af2, af3⟩ := row4 HB5b.out
    obtain ⟨⟨b0, b1, b2, b3⟩, bf0, bf1, bf2, bf3⟩ := row4 HB6b.out
    have htb1 : tb < U2.heap.size := (Array.getElem?_eq_some_iff.1 HB6b.out).1
    have htw : W.heap.size < U2.heap.size := (Array.getElem?_eq_some_iff.1 HB5b.out).1
    rcases need_cases S 41 ts1 with ⟨hs, hn⟩ | ⟨hs, hn⟩
    · have hRe : R = .ok (u, ts1.tail, ns1) := by rw [← HR.out, parE_eq, HRr.out]; simp only [hn]
      have hval : (if seeT 41 ts1 = true then (0 : Int) else 2) = 0 := by rw [if_pos hs]
      have HS2 : Hid (PSt X (fun b => (False ∨ b = W.heap.size) ∨ b = tb) W rb z nv ts1.tail ns1 n1 U2) := Lib.hid (by have h0 := HST2.out; rw [if_pos hs] at h0; exact h0)
      subst hRe
      rw [hval]
      clear hs hn hval HST2
      go_wp2_with fail
      have HF := Lib.hid (p_fin (cd := 0) HS2.out HTV2.out (.inl (.inr rfl)) (show Told S (.ok (u, ts1.tail, ns1)) 0 ts1.tail ns1 from ⟨rfl, rfl, rfl⟩) (fun t ht => ht))
      have hz := set4_blk HB5b.out k nm n (.slice g m c)
      change bodyPost _ _ _ _ _ (set4 U2 W.heap.size k nm n (.slice g m c))
      obtain ⟨V', hV'⟩ : ∃ V', set4 U2 W.heap.size k nm n (.slice g m c) = V' := ⟨_, rfl⟩
      rw [hV'] at HF hz ⊢
      obtain ⟨⟨z0, z1, z2, z3⟩, -⟩ := row4 hz
      clear hV' hz a0 a1 a2 a3 af0 af1 af2 af3 b0 b1 b2 b3 bf0 bf1 bf2 bf3
      refine bodyPost_ret (v := .tuple #[.agg #[.int .i64 k, .string nm, .int .i64 n, .slice g m c], .int .i64 (0 : Nat)]) (by simp [results, Tryz.results112, go_sem, z0, z1, z2, z3]) rfl ?_
      exact HF.out
    · have hRe : R = .error (2, placeT S ts1) := by rw [← HR.out, parE_eq, HRr.out]; simp only [hn]
      have hval : (if seeT 41 ts1 = true then (0 : Int) else 2) = 2 := by rw [if_neg (by rw [hs]; simp)]
      have HS2 : Hid (PSt X (fun b => (False ∨ b = W.heap.size) ∨ b = tb) W rb z nv ts1 ns1 n1 U2) := Lib.hid (by have h0 := HST2.out; rw [if_neg (by rw [hs]; simp)] at h0; exact h0)
      subst hRe
      rw [hval]
      clear hs hn hval HST2
      go_wp2_with fail
      have HF := Lib.hid (p_fin (cd := 2) HS2.out HTV2.out (.inl (.inr rfl)) (show Told S (.error (2, placeT S ts1) : RRes Tm) 2 ts1 ns1 from ⟨rfl, .inl rfl, rfl⟩) (fun t ht => by cases ht))
      have hz := set4_blk HB5b.out k nm n (.slice g m c)
      change bodyPost _ _ _ _ _ (set4 U2 W.heap.size k nm n (.slice g m c))
      obtain ⟨V', hV'⟩ : ∃ V', set4 U2 W.heap.size k nm n (.slice g m c) = V' := ⟨_, rfl⟩
      rw [hV'] at HF hz ⊢
      obtain ⟨⟨z0, z1, z2, z3⟩, -⟩ := row4 hz
      clear hV' hz a0 a1 a2 a3 af0 af1 af2 af3 b0 b1 b2 b3 bf0 bf1 bf2 bf3
      refine bodyPost_ret (v := .tuple #[.agg #[.int .i64 k, .string nm, .int .i64 n, .slice g m c], .int .i64 (2 : Nat)]) (by simp [results, Tryz.results112, go_sem, z0, z1, z2, z3]) rfl ?_
      exact HF.out
set_option maxRecDepth 100000 in
set_option maxHeartbeats 8000000 in
theorem comp_p (f : Nat) (IH : PTerms f) : PComp f := by
  intro X W rb z S ts ns nv nm deep hin hrd hone hlen hdeep hnm
  obtain ⟨R, hR⟩ : ∃ R, cmpE S f deep nm ts.tail ns = R := ⟨_, rfl⟩
  rw [hR]
  have HR := Lib.hid hR
  have HIN := Lib.hid hin
  have hlt := hrd.lt
  have HST := Lib.hid ((PSt.start hrd).box (.cells #[.int .i64 0, .string ⟨#[]⟩, .int .i64 0, .slice none 0 0] 34))
  have HB4 := Lib.hid (newBlk W (.cells #[.int .i64 0, .string ⟨#[]⟩, .int .i64 0, .slice none 0 0] 34) W.heap.size rfl)
  clear hR hin hrd
  obtain ⟨V, hV⟩ : ∃ V, W.alloc (.cells #[.int .i64 0, .string ⟨#[]⟩, .int .i64 0, .slice none 0 0] 34) = V := ⟨_, rfl⟩
  rw [hV] at HST HB4
  have HPS := Lib.hid (pass1_any V rb z ts ns nv HST.out.rd hone hlen)
  go_enter Tryz.func110, Tryz.ntmps110
  go_upto_region 1 with fail
  clear hV
  go_upto_region 2 with (go_at_call 62; (with_reducible refine (HPS.out).mono ?_); rintro e V1 ⟨rfl, hrd2, hfr2⟩; have HB5 := Lib.hid ((HST.out.keep (wrt0 hfr2) (.inr rfl)).trans HB4.out); have HST1 := Lib.hid (HST.out.call0 hrd2 hfr2); clear hrd2 hfr2)
  clear HPS HST HB4
  have HTM := Lib.hid (IH _ V1 rb z S ts.tail ns nv deep HIN.out HST1.out.rd hdeep)
  go_upto_region 3 with (go_at_call 124; (with_reducible refine (HTM.out).mono ?_); rintro e U ⟨g, m, c, cd, n1, rfl, hend, hsl⟩; obtain ⟨ts1, ns1, hrd1, htold⟩ := hend.rd; have HB5b := Lib.hid ((HST1.out.keep hend.fr (.inr rfl)).trans HB5.out); have HST2 := Lib.hid (HST1.out.call hrd1 hend.nvn hend.fr); have HSL : Hid (∀ l, valOf (rdRow S f deep ts.tail ns) = some l → l.length = m ∧ m ≤ 1000001 ∧ Tm.sliceP U (okN (Yc X (fun b => False ∨ b = W.heap.size) n1) U) l (.slice g m c)) := Lib.hid (fun l hl => by rw [hl] at hsl; exact ⟨hsl.1, hsl.2.1, slP_back hsl.2.2⟩); have HTOLD : Hid (Told S (rdRow S f deep ts.tail ns) cd ts1 ns1) := Lib.hid htold; clear hend hsl hrd1 htold)
  clear HTM HST1 HB5
  cases hr : rdRow S f deep ts.tail ns with
  | error e =>
    obtain ⟨c9, pl⟩ := e
    rw [hr] at HTOLD
    obtain ⟨hc1, hc2, hc3⟩ := HTOLD.out
    have hRe : R = .error (c9, pl) := by
      rw [← HR.out]
      unfold cmpE
      simp only [hr]
    have hcd : ((cd : Int) == 0) = false := by rw [beq_eq_false_iff_ne]; omega
    clear hc1 hc2 hc3 hr
    have hFN := fun_p nm g m c U
    have HFN := Lib.hid hFN
    clear hFN
    subst hRe
    go_wp2_with (go_at_call 83; (with_reducible refine (HFN.out).mono ?_); rintro e U2 ⟨rfl, hb⟩; have HB5c := Lib.hid ((hb.block _ (Array.getElem?_eq_some_iff.1 HB5b.out).1).trans HB5b.out); replace HST2 := Lib.hid (HST2.out.next hb); obtain ⟨⟨a0, a1, a2, a3⟩, af0, af1, af2, af3⟩ := row4 HB5c.out; have htw : W.heap.size < U2.heap.size := (Array.getElem?_eq_some_iff.1 HB5c.out).1; clear hb)
    have HTV2 : Hid (TV (Yc X (fun b => False ∨ b = W.heap.size) n1) U2 none 3 nm 0 (.slice g m c)) := Lib.hid (TV.fn hnm (fun t ht => by cases ht))
    have HF := Lib.hid (p_fin (cd := cd) HST2.out HTV2.out (.inr rfl) (show Told S (.error (c9, pl) : RRes Tm) cd ts1 ns1 from HTOLD.out) (fun t ht => by cases ht))
    have hz := set4_blk HB5c.out 3 nm 0 (.slice g m c)
    change bodyPost _ _ _ _ _ (set4 U2 W.heap.size 3 nm 0 (.slice g m c))
    obtain ⟨V', hV'⟩ : ∃ V', set4 U2 W.heap.size 3 nm 0 (.slice g m c) = V' := ⟨_, rfl⟩
    rw [hV'] at HF hz ⊢
    obtain ⟨⟨z0, z1, z2, z3⟩, -⟩ := row4 hz
    clear hV' hz a0 a1 a2 a3 af0 af1 af2 af3
    refine bodyPost_ret (v := .tuple #[.agg #[.int .i64 3, .string nm, .int .i64 0, .slice g m c], .int .i64 (cd : Nat)]) (by simp [results, Tryz.results110, go_sem, z0, z1, z2, z3]) rfl ?_
    exact HF.out
  | ok q =>
    obtain ⟨l, ts9, n9⟩ := q
    rw [hr] at HTOLD HSL
    obtain ⟨hc1, hc2, hc3⟩ := HTOLD.out
    subst hc1 hc2 hc3
    have HIN2 := Lib.hid (HIN.out.row (f' := f) (k' := 0) hr (by omega))
    have HND := Lib.hid (need_p U rb z ts1 ns1 n1 41 S HIN2.out.good HIN2.out.zl HST2.out.rd HIN2.out.len)
    have HRr := Lib.hid hr
    have HSL2 := Lib.hid (HSL.out l rfl)
    clear hr HSL
    go_upto_region 5 with (go_at_call 125; (with_reducible refine (HND.out).mono ?_); rintro e U2 ⟨rfl, hrd2, hfr2⟩; have HB5c := Lib.hid ((HST2.out.keep (wrt0 hfr2) (.inr rfl)).trans HB5b.out); have HSL3 := Lib.hid (slP_mv HSL2.out.2.2 (wrt0 (nv := n1) hfr2) (wrt_X HST2.out.xr) (fun b hx => .inl hx)); have HST3 := Lib.hid (HST2.out.call0 hrd2 hfr2); clear hrd2 hfr2)
    clear HND HST2 HB5b
    have hFN := fun_p nm g m c U2
    have HFN := Lib.hid hFN
    clear hFN
    have HTV : Hid (TV (Yc X (fun b => False ∨ b = W.heap.size) n1) U2 (some (funT nm l)) 3 nm 0 (.slice g m c)) := Lib.hid (TV.fn hnm (fun t ht => ⟨l, by simpa using ht.symm, HSL3.out⟩))
    have hTVb : ∀ U3, Below U2.heap.size U2 U3 → TV (Yc X (fun b => False ∨ b = W.heap.size) n1) U3 (some (funT nm l)) 3 nm 0 (.slice g m c) := fun U3 hb => HTV.out.mv (FrP.of_below hb) (fun _ h => h.elim) (fun _ hx => .inl hx)
    have HTVB := Lib.hid hTVb
    clear hTVb
    rcases need_cases S 41 ts1 with ⟨hs, hn⟩ | ⟨hs, hn⟩
    · have hRe : R = .ok (funT nm l, ts1.tail, ns1) := by
        rw [← HR.out]
        unfold cmpE
        simp only [HRr.out, hn]
      have hval : (if seeT 41 ts1 = true then (0 : Int) else 2) = 0 := by rw [if_pos hs]
      have HS2 : Hid (PSt X (fun b => False ∨ b = W.heap.size) W rb z nv ts1.tail ns1 n1 U2) := Lib.hid (by have h0 := HST3.out; rw [if_pos hs] at h0; exact h0)
      subst hRe
      rw [hval]
      clear hs hn hval HST3
      go_wp2_with (go_at_call 83; (with_reducible refine (HFN.out).mono ?_); rintro e U3 ⟨rfl, hb⟩; have HB5d := Lib.hid ((hb.block _ (Array.getElem?_eq_some_iff.1 HB5c.out).1).trans HB5c.out); replace HS2 := Lib.hid (HS2.out.next hb); have HTV2 := Lib.hid (HTVB.out U3 hb); obtain ⟨⟨a0, a1, a2, a3⟩, af0, af1, af2, af3⟩ := row4 HB5d.out; have htw : W.heap.size < U3.heap.size := (Array.getElem?_eq_some_iff.1 HB5d.out).1; clear hb)
      have HF := Lib.hid (p_fin (cd := 0) HS2.out HTV2.out (.inr rfl) (show Told S (.ok (funT nm l, ts1.tail, ns1)) 0 ts1.tail ns1 from ⟨rfl, rfl, rfl⟩) (fun t ht => ht))
      have hz := set4_blk HB5d.out 3 nm 0 (.slice g m c)
      change bodyPost _ _ _ _ _ (set4 U3 W.heap.size 3 nm 0 (.slice g m c))
      obtain ⟨V', hV'⟩ : ∃ V', set4 U3 W.heap.size 3 nm 0 (.slice g m c) = V' := ⟨_, rfl⟩
      rw [hV'] at HF hz ⊢
      obtain ⟨⟨z0, z1, z2, z3⟩, -⟩ := row4 hz
      clear hV' hz a0 a1 a2 a3 af0 af1 af2 af3
      refine bodyPost_ret (v := .tuple #[.agg #[.int .i64 3, .string nm, .int .i64 0, .slice g m c], .int .i64 (0 : Nat)]) (by simp [results, Tryz.results110, go_sem, z0, z1, z2, z3]) rfl ?_
      exact HF.out
    · have hRe : R = .error (2, placeT S ts1) := by
        rw [← HR.out]
        unfold cmpE
        simp only [HRr.out, hn]
      have hval : (if seeT 41 ts1 = true then (0 : Int) else 2) = 2 := by rw [if_neg (by rw [hs]; simp)]
      have HS2 : Hid (PSt X (fun b => False ∨ b = W.heap.size) W rb z nv ts1 ns1 n1 U2) := Lib.hid (by have h0 := HST3.out; rw [if_neg (by rw [hs]; simp)] at h0; exact h0)
      subst hRe
      rw [hval]
      clear hs hn hval HST3
      go_wp2_with (go_at_call 83; (with_reducible refine (HFN.out).mono ?_); rintro e U3 ⟨rfl, hb⟩; have HB5d := Lib.hid ((hb.block _ (Array.getElem?_eq_some_iff.1 HB5c.out).1).trans HB5c.out); replace HS2 := Lib.hid (HS2.out.next hb); have HTV2 := Lib.hid (HTVB.out U3 hb); obtain ⟨⟨a0, a1, a2, a3⟩, af0, af1, af2, af3⟩ := row4 HB5d.out; have htw : W.heap.size < U3.heap.size := (Array.getElem?_eq_some_iff.1 HB5d.out).1; clear hb)
      have HF := Lib.hid (p_fin (cd := 2) HS2.out HTV2.out (.inr rfl) (show Told S (.error (2, placeT S ts1) : RRes Tm) 2 ts1 ns1 from ⟨rfl, .inl rfl, rfl⟩) (fun t ht => by cases ht))
      have hz := set4_blk HB5d.out 3 nm 0 (.slice g m c)
      change bodyPost _ _ _ _ _ (set4 U3 W.heap.size 3 nm 0 (.slice g m c))
      obtain ⟨V', hV'⟩ : ∃ V', set4 U3 W.heap.size 3 nm 0 (.slice g m c) = V' := ⟨_, rfl⟩
      rw [hV'] at HF hz ⊢
      obtain ⟨⟨z0, z1, z2, z3⟩, -⟩ := row4 hz
      clear hV' hz a0 a1 a2 a3 af0 af1 af2 af3
      refine bodyPost_ret (v := .tuple #[.agg #[.int .i64 3, .string nm, .int .i64 0, .slice g m c], .int .i64 (2 : Nat)]) (by simp [results, Tryz.results110, go_sem, z0, z1, z2, z3]) rfl ?_
      exact HF.out
end Go.Proofs.YtkjnjahmlobjiaaGreatDoor
