/-
  The walk of the law's 'knows' for embedded terms: the document's examples.
-/
import Derived.Test.YtomdccejgmhfoaaEWhis
import Derived.Test.YtomdccejgmhfoaaBox
import Derived.Test.YtomdccejgmhfoaaThree
import Derived.Deep.RegionHeld3
namespace Go.Proofs.Ytomdccejgmhfoaa
open Go.RowKit Go.Shelf Go.Maps

theorem sg1 {Goal : Prop} (F G : World → Prop) (main : (∀ W, F W → G W) → Goal) (tail : ∀ W, F W → G W) : Goal := main tail
theorem sg2 {Goal : Prop} (F G : Nat → World → Prop) (main : (∀ x0 W, F x0 W → G x0 W) → Goal) (tail : ∀ x0 W, F x0 W → G x0 W) : Goal := main tail
theorem sg3 {Goal : Prop} (F G : Nat → Nat → World → Prop) (main : (∀ x0 x1 W, F x0 x1 W → G x0 x1 W) → Goal) (tail : ∀ x0 x1 W, F x0 x1 W → G x0 x1 W) : Goal := main tail
theorem sg4 {Goal : Prop} (F G : Nat → Nat → Nat → World → Prop) (main : (∀ x0 x1 x2 W, F x0 x1 x2 W → G x0 x1 x2 W) → Goal) (tail : ∀ x0 x1 x2 W, F x0 x1 x2 W → G x0 x1 x2 W) : Goal := main tail
theorem sg5 {Goal : Prop} (F G : Nat → Nat → Nat → Nat → World → Prop) (main : (∀ x0 x1 x2 x3 W, F x0 x1 x2 x3 W → G x0 x1 x2 x3 W) → Goal) (tail : ∀ x0 x1 x2 x3 W, F x0 x1 x2 x3 W → G x0 x1 x2 x3 W) : Goal := main tail
theorem sg6 {Goal : Prop} (F G : Nat → Nat → Nat → Nat → Nat → World → Prop) (main : (∀ x0 x1 x2 x3 x4 W, F x0 x1 x2 x3 x4 W → G x0 x1 x2 x3 x4 W) → Goal) (tail : ∀ x0 x1 x2 x3 x4 W, F x0 x1 x2 x3 x4 W → G x0 x1 x2 x3 x4 W) : Goal := main tail
theorem sg7 {Goal : Prop} (F G : Nat → Nat → Nat → Nat → Nat → Nat → World → Prop) (main : (∀ x0 x1 x2 x3 x4 x5 W, F x0 x1 x2 x3 x4 x5 W → G x0 x1 x2 x3 x4 x5 W) → Goal) (tail : ∀ x0 x1 x2 x3 x4 x5 W, F x0 x1 x2 x3 x4 x5 W → G x0 x1 x2 x3 x4 x5 W) : Goal := main tail
theorem sg8 {Goal : Prop} (F G : Nat → Nat → Nat → Nat → Nat → Nat → Nat → World → Prop) (main : (∀ x0 x1 x2 x3 x4 x5 x6 W, F x0 x1 x2 x3 x4 x5 x6 W → G x0 x1 x2 x3 x4 x5 x6 W) → Goal) (tail : ∀ x0 x1 x2 x3 x4 x5 x6 W, F x0 x1 x2 x3 x4 x5 x6 W → G x0 x1 x2 x3 x4 x5 x6 W) : Goal := main tail
theorem sg9 {Goal : Prop} (F G : Nat → Nat → Nat → Nat → Nat → Nat → Nat → Nat → World → Prop) (main : (∀ x0 x1 x2 x3 x4 x5 x6 x7 W, F x0 x1 x2 x3 x4 x5 x6 x7 W → G x0 x1 x2 x3 x4 x5 x6 x7 W) → Goal) (tail : ∀ x0 x1 x2 x3 x4 x5 x6 x7 W, F x0 x1 x2 x3 x4 x5 x6 x7 W → G x0 x1 x2 x3 x4 x5 x6 x7 W) : Goal := main tail
theorem sg10 {Goal : Prop} (F G : Nat → Nat → Nat → Nat → Nat → Nat → Nat → Nat → Nat → World → Prop) (main : (∀ x0 x1 x2 x3 x4 x5 x6 x7 x8 W, F x0 x1 x2 x3 x4 x5 x6 x7 x8 W → G x0 x1 x2 x3 x4 x5 x6 x7 x8 W) → Goal) (tail : ∀ x0 x1 x2 x3 x4 x5 x6 x7 x8 W, F x0 x1 x2 x3 x4 x5 x6 x7 x8 W → G x0 x1 x2 x3 x4 x5 x6 x7 x8 W) : Goal := main tail
theorem lift7_inn {W W' : World} {t : Tm} {sv : Value} (h : Tm.inn W W.heap.size t sv) (hb : Below W.heap.size W W') : Tm.inn W' W'.heap.size t sv := Tm.inn_mono (Tm.inn_below h hb (Nat.le_refl _)) hb.size
theorem lift7 {W W' : World} {l : List Tm} {sv : Value} (h : Tm.sliceIn W W.heap.size l sv) (hb : Below W.heap.size W W') : Tm.sliceIn W' W'.heap.size l sv := Tm.sliceIn_mono (Tm.sliceIn_below h hb (Nat.le_refl _)) hb.size
/-- The law's 'fun': a term built from a name and its arguments. -/
theorem fun7 (s : ByteArray) (w : World) (g : Option Addr) (n c : Nat) :
    Calls Try.prog 55 #[.string s, .slice g n c] w fun e w' => e = .returned (.agg #[.int .i64 3, .string s, .int .i64 0, .slice g n c]) ∧ Below w.heap.size w w' := by
  go_enter Try.func55, Try.ntmps55
  go_wp2_with fail
  refine bodyPost_ret (v := .agg #[.int .i64 3, .string s, .int .i64 0, .slice g n c]) (by simp [results, Try.results55, go_sem]) rfl ?_
  exact ⟨rfl, (Below.refl w.heap.size w).alloc (Nat.le_refl _) _⟩
theorem fun7_inn {W : World} {B : Nat} {s : ByteArray} {l : List Tm} {sv : Value} (hs : s.size ≤ maxLen) (h : Tm.sliceIn W B l sv) : Tm.inn W B (.mk 3 s 0 l) sv := Tm.inn_mk.2 ⟨⟨by decide, hs, by decide⟩, h⟩
theorem nil7_in {W : World} {B : Nat} : Tm.sliceIn W B [] (.slice none 0 0) := ⟨none, 0, rfl, Nat.le_refl _, Nat.zero_le _, .inl rfl⟩
def k7a : Tm := .mk 3 ⟨#[97]⟩ 0 []
def k7b : Tm := .mk 3 ⟨#[98]⟩ 0 []
def k7ga : Tm := .mk 3 ⟨#[103]⟩ 0 [k7a]
def k7fa : Tm := .mk 3 ⟨#[102]⟩ 0 [k7a]
def k7fga : Tm := .mk 3 ⟨#[102]⟩ 0 [k7ga]
def k7gfb : Tm := .mk 3 ⟨#[103]⟩ 0 [k7fa, k7b]
def k7fab : Tm := .mk 3 ⟨#[102]⟩ 0 [k7a, k7b]
def k7fba : Tm := .mk 3 ⟨#[102]⟩ 0 [k7b, k7a]
theorem k7_in1 : inB k7fa k7fga = true := by kernel_rfl
theorem k7_in2 : inB k7fa k7gfb = true := by kernel_rfl
theorem k7_in3 : inB k7fab k7fba = false := by kernel_rfl
theorem k7_wh1 : whT [k7a, k7a, k7b] k7a = 1 := by kernel_rfl
theorem k7_wh2 : whT [] k7a = -1 := by kernel_rfl
theorem k7_inn {W : World} {s : ByteArray} (hs : s.size ≤ maxLen) : Tm.inn W W.heap.size (.mk 3 s 0 []) (.slice none 0 0) := fun7_inn hs nil7_in
theorem in_is {a b : Tm} {r : Bool} (h : inB a b = r) (w : World) (sa sb : Value) (ha : Tm.inn w w.heap.size a sa) (hb : Tm.inn w w.heap.size b sb) (hsa : a.size ≤ 1000000) (hsb : b.size ≤ 1000000) :
    Calls Try.prog 35 #[.agg #[.int .i64 a.kind, .string a.name, .int .i64 a.n, sa], .agg #[.int .i64 b.kind, .string b.name, .int .i64 b.n, sb]] w fun e w' => e = .returned (.bool r) ∧ Below w.heap.size w w' := by
  subst h
  exact in_any a b w sa sb ha hb hsa hsb
theorem wh_is {ts : List Tm} {t : Tm} {r : Int} (h : whT ts t = r) (w : World) (sl st : Value) (hsl : Tm.sliceIn w w.heap.size ts sl) (ht : Tm.inn w w.heap.size t st) (hts : ∀ t ∈ ts, t.size ≤ 1000000) (hlen : ts.length ≤ 1000000) (hsz : t.size ≤ 1000000) :
    Calls Try.prog 56 #[sl, .agg #[.int .i64 t.kind, .string t.name, .int .i64 t.n, st]] w fun e w' => e = .returned (.int .i64 r) ∧ Below w.heap.size w w' := by
  subst h
  exact whistle_any ts t w sl st hsl ht hts hlen hsz
/-- Both atoms in their boxes. -/
def S7 (m : Nat) (W : World) : Prop :=
  (W.cell? ⟨m, 0, none⟩ = some (.int .i64 3) ∧ W.cell? ⟨m, 1, none⟩ = some (.string ⟨#[97]⟩) ∧ W.cell? ⟨m, 2, none⟩ = some (.int .i64 0) ∧ W.cell? ⟨m, 3, none⟩ = some (.slice none 0 0)) ∧
  (W.cell? ⟨m + 1, 0, none⟩ = some (.int .i64 3) ∧ W.cell? ⟨m + 1, 1, none⟩ = some (.string ⟨#[98]⟩) ∧ W.cell? ⟨m + 1, 2, none⟩ = some (.int .i64 0) ∧ W.cell? ⟨m + 1, 3, none⟩ = some (.slice none 0 0))
theorem S7.nx {m : Nat} {W W' : World} (h : S7 m W) (hb : Below W.heap.size W W') : S7 m W' := by
  have key : ∀ b o v, W.cell? ⟨b, o, none⟩ = some v → W'.cell? ⟨b, o, none⟩ = some v := fun b o v h => (hb.cell (p := ⟨b, o, none⟩) (World.block_lt_of_cell? _ _ h)).trans h
  obtain ⟨⟨a0, a1, a2, a3⟩, b0, b1, b2, b3⟩ := h
  exact ⟨⟨key _ _ _ a0, key _ _ _ a1, key _ _ _ a2, key _ _ _ a3⟩, key _ _ _ b0, key _ _ _ b1, key _ _ _ b2, key _ _ _ b3⟩
/-- A slice of terms, all of whose memory is there. -/
def Sl7 (b k : Nat) (l : List Tm) (W : World) : Prop := Tm.sliceIn W W.heap.size l (.slice (some ⟨b, 0, none⟩) k k)
theorem Sl7.nx {b k : Nat} {l : List Tm} {W W' : World} (h : Sl7 b k l W) (hb : Below W.heap.size W W') : Sl7 b k l W' := lift7 h hb
theorem sl7_one {W : World} {a : Tm} {sv : Value} (ha : Tm.inn W W.heap.size a sv) : Sl7 W.heap.size 1 [a] (W.alloc (Obj.cells #[.int .i64 a.kind, .string a.name, .int .i64 a.n, sv] 27 (0, 0))) :=
  one_slice (newBlk _ _ _ rfl) (lift7_inn ha ((Below.refl _ _).alloc (Nat.le_refl _) _))
theorem sl7_two {W : World} {a b : Tm} {sa sb : Value} (ha : Tm.inn W W.heap.size a sa) (hb : Tm.inn W W.heap.size b sb) :
    Sl7 W.heap.size 2 [a, b] (W.alloc (Obj.cells #[.int .i64 a.kind, .string a.name, .int .i64 a.n, sa, .int .i64 b.kind, .string b.name, .int .i64 b.n, sb] 27 (0, 0))) :=
  two_slice (newBlk _ _ _ rfl) (lift7_inn ha ((Below.refl _ _).alloc (Nat.le_refl _) _)) (lift7_inn hb ((Below.refl _ _).alloc (Nat.le_refl _) _))
theorem sl7_three {W : World} {a b c : Tm} {sa sb sc : Value} (ha : Tm.inn W W.heap.size a sa) (hb : Tm.inn W W.heap.size b sb) (hc : Tm.inn W W.heap.size c sc) :
    Sl7 W.heap.size 3 [a, b, c] (W.alloc (Obj.cells #[.int .i64 a.kind, .string a.name, .int .i64 a.n, sa, .int .i64 b.kind, .string b.name, .int .i64 b.n, sb, .int .i64 c.kind, .string c.name, .int .i64 c.n, sc] 27 (0, 0))) :=
  three_slice (newBlk _ _ _ rfl) (lift7_inn ha ((Below.refl _ _).alloc (Nat.le_refl _) _)) (lift7_inn hb ((Below.refl _ _).alloc (Nat.le_refl _) _)) (lift7_inn hc ((Below.refl _ _).alloc (Nat.le_refl _) _))
/-- What 'knows' leaves. -/
def K7Post (w : World) (e : Ending) (w' : World) : Prop := e = .returned (.bool true) ∧ Below w.heap.size w w'
theorem k7_few : ∀ t ∈ [k7a, k7a, k7b], t.size ≤ 1000000 := by
  intro t ht
  simp only [List.mem_cons, List.not_mem_nil, or_false] at ht
  rcases ht with rfl | rfl | rfl <;> decide
set_option maxRecDepth 100000 in
set_option maxHeartbeats 32000000 in
theorem k7_any (w : World) : Calls Try.prog 33 #[] w fun e w' => K7Post w e w' := by
  go_enter Try.func33, Try.ntmps33
  go_wp2_with fail
  refine (fun7 ⟨#[97]⟩ _ _ _ _).mono ?_
  rintro e va ⟨rfl, ha⟩
  go_wp2_with fail
  refine (fun7 ⟨#[98]⟩ _ _ _ _).mono ?_
  rintro e vb ⟨rfl, hb⟩
  have hv : Below w.heap.size w vb := ha.trans (hb.mono ha.size)
  have HV := Lib.hid hv
  clear ha hb hv
  go_wp2_with fail
  obtain ⟨W0, hW0⟩ : ∃ W0, (vb.alloc (Obj.cells #[.int .i64 3, .string ⟨#[97]⟩, .int .i64 0, .slice none 0 0] 27 (0, 0))).alloc (Obj.cells #[.int .i64 3, .string ⟨#[98]⟩, .int .i64 0, .slice none 0 0] 27 (0, 0)) = W0 := ⟨_, rfl⟩
  obtain ⟨m, hm⟩ : ∃ m, vb.heap.size = m := ⟨_, rfl⟩
  have q0 : S7 m W0.drew ∧ Below w.heap.size w W0 := by
    rw [← hW0, ← hm]
    have ra := row4 ((Below.heap_alloc _ (Obj.cells #[.int .i64 3, .string ⟨#[98]⟩, .int .i64 0, .slice none 0 0] 27 (0, 0)) _ (by simp)).trans (newBlk vb (Obj.cells #[.int .i64 3, .string ⟨#[97]⟩, .int .i64 0, .slice none 0 0] 27 (0, 0)) _ rfl))
    have rb := row4 (newBlk (vb.alloc (Obj.cells #[.int .i64 3, .string ⟨#[97]⟩, .int .i64 0, .slice none 0 0] 27 (0, 0))) (Obj.cells #[.int .i64 3, .string ⟨#[98]⟩, .int .i64 0, .slice none 0 0] 27 (0, 0)) (vb.heap.size + 1) (by simp))
    exact ⟨⟨ra.1, rb.1⟩, (HV.out.alloc HV.out.size _).alloc (by have := HV.out.size; simp; omega) _⟩
  simp only [hW0, hm]
  obtain ⟨q0, q1⟩ := q0
  clear hW0 hm HV
  refine wp_region_held_drew (S := fun W' => S7 m W') (by kernel_rfl) q0 (fun hHeld => ?_)
  refine wpAnyH_take (i := 0) (oi := _) (v := ?_) rfl (by kernel_rfl) (by kernel_rfl) (by kernel_rfl) (fun _ _ _ h => h) (Or.inl ⟨by rfl, ?_⟩) hHeld ?_
  rotate_left
  · (intro w hSw; obtain ⟨⟨a0, a1, a2, a3⟩, d0, d1, d2, d3⟩ := hSw; go_simp; try with_reducible rfl)
  try simp only [Act.put, List.setIfInBounds_toArray, List.set_cons_zero, List.set_cons_succ, List.getElem_toArray, List.getElem_cons_zero]
  refine wpAnyH_take (i := 3) (oi := _) (v := ?_) rfl (by kernel_rfl) (by kernel_rfl) (by kernel_rfl) (fun _ _ _ h => h) (Or.inl ⟨by rfl, ?_⟩) hHeld ?_
  rotate_left
  · (intro w hSw; obtain ⟨⟨a0, a1, a2, a3⟩, d0, d1, d2, d3⟩ := hSw; go_simp; try with_reducible rfl)
  try simp only [Act.put, List.setIfInBounds_toArray, List.set_cons_zero, List.set_cons_succ, List.getElem_toArray, List.getElem_cons_zero, List.getElem_cons_succ]
  have HF0 := Lib.hid (And.intro q0 q1)
  clear hHeld q0 q1
  apply sg10 (fun b1 b4 b6 b11 b14 b17 b24 b28 b37 X => S7 m X ∧ Below w.heap.size w X)
  case main =>
    intro H0
    apply sg10 (fun b1 b4 b6 b11 b14 b17 b24 b28 b37 X => S7 m X ∧ Below w.heap.size w X)
    case main =>
      intro H1
      apply sg10 (fun b1 b4 b6 b11 b14 b17 b24 b28 b37 X => S7 m X ∧ Below w.heap.size w X ∧ Sl7 b37 3 [k7a, k7a, k7b] X)
      case main =>
        intro H2
        apply sg9 (fun b1 b4 b6 b11 b14 b17 b24 b28 X => S7 m X ∧ Below w.heap.size w X)
        case main =>
          intro H3
          apply sg9 (fun b1 b4 b6 b11 b14 b17 b24 b28 X => S7 m X ∧ Below w.heap.size w X ∧ Sl7 b24 2 [k7a, k7b] X ∧ Sl7 b28 2 [k7b, k7a] X)
          case main =>
            intro H4
            apply sg9 (fun b1 b4 b6 b11 b14 b17 b24 b28 X => S7 m X ∧ Below w.heap.size w X ∧ Sl7 b24 2 [k7a, k7b] X ∧ Sl7 b28 2 [k7b, k7a] X)
            case main =>
              intro H5
              apply sg9 (fun b1 b4 b6 b11 b14 b17 b24 b28 X => S7 m X ∧ Below w.heap.size w X ∧ Sl7 b24 2 [k7a, k7b] X ∧ Sl7 b28 2 [k7b, k7a] X)
              case main =>
                intro H6
                apply sg8 (fun b1 b4 b6 b11 b14 b17 b24 X => S7 m X ∧ Below w.heap.size w X ∧ Sl7 b24 2 [k7a, k7b] X)
                case main =>
                  intro H7
                  apply sg8 (fun b1 b4 b6 b11 b14 b17 b28 X => S7 m X ∧ Below w.heap.size w X ∧ Sl7 b28 2 [k7b, k7a] X)
                  case main =>
                    intro H8
                    apply sg8 (fun b1 b4 b6 b11 b14 b17 b24 X => S7 m X ∧ Below w.heap.size w X ∧ Sl7 b24 2 [k7a, k7b] X)
                    case main =>
                      intro H9
                      apply sg7 (fun b1 b4 b6 b11 b14 b17 X => S7 m X ∧ Below w.heap.size w X)
                      case main =>
                        intro H10
                        apply sg7 (fun b1 b4 b6 b11 b14 b17 X => S7 m X ∧ Below w.heap.size w X ∧ Sl7 b11 1 [k7a] X ∧ Sl7 b14 1 [k7a] X ∧ Sl7 b17 2 [k7fa, k7b] X)
                        case main =>
                          intro H11
                          apply sg7 (fun b1 b4 b6 b11 b14 b17 X => S7 m X ∧ Below w.heap.size w X ∧ Sl7 b11 1 [k7a] X ∧ Sl7 b14 1 [k7a] X ∧ Sl7 b17 2 [k7fa, k7b] X)
                          case main =>
                            intro H12
                            apply sg6 (fun b1 b4 b6 b11 b14 X => S7 m X ∧ Below w.heap.size w X ∧ Sl7 b11 1 [k7a] X ∧ Sl7 b14 1 [k7a] X)
                            case main =>
                              intro H13
                              apply sg6 (fun b1 b4 b6 b11 b14 X => S7 m X ∧ Below w.heap.size w X ∧ Sl7 b11 1 [k7a] X ∧ Sl7 b14 1 [k7a] X)
                              case main =>
                                intro H14
                                apply sg6 (fun b1 b4 b6 b11 b14 X => S7 m X ∧ Below w.heap.size w X ∧ Sl7 b11 1 [k7a] X ∧ Sl7 b14 1 [k7a] X)
                                case main =>
                                  intro H15
                                  apply sg5 (fun b1 b4 b6 b11 X => S7 m X ∧ Below w.heap.size w X ∧ Sl7 b11 1 [k7a] X)
                                  case main =>
                                    intro H16
                                    apply sg5 (fun b1 b4 b6 b14 X => S7 m X ∧ Below w.heap.size w X ∧ Sl7 b14 1 [k7a] X)
                                    case main =>
                                      intro H17
                                      apply sg5 (fun b1 b4 b6 b11 X => S7 m X ∧ Below w.heap.size w X ∧ Sl7 b11 1 [k7a] X)
                                      case main =>
                                        intro H18
                                        apply sg4 (fun b1 b4 b6 X => S7 m X ∧ Below w.heap.size w X)
                                        case main =>
                                          intro H19
                                          apply sg4 (fun b1 b4 b6 X => S7 m X ∧ Below w.heap.size w X ∧ Sl7 b1 1 [k7a] X ∧ Sl7 b4 1 [k7a] X ∧ Sl7 b6 1 [k7ga] X)
                                          case main =>
                                            intro H20
                                            apply sg4 (fun b1 b4 b6 X => S7 m X ∧ Below w.heap.size w X ∧ Sl7 b1 1 [k7a] X ∧ Sl7 b4 1 [k7a] X ∧ Sl7 b6 1 [k7ga] X)
                                            case main =>
                                              intro H21
                                              apply sg3 (fun b1 b4 X => S7 m X ∧ Below w.heap.size w X ∧ Sl7 b1 1 [k7a] X ∧ Sl7 b4 1 [k7a] X)
                                              case main =>
                                                intro H22
                                                apply sg3 (fun b1 b4 X => S7 m X ∧ Below w.heap.size w X ∧ Sl7 b1 1 [k7a] X ∧ Sl7 b4 1 [k7a] X)
                                                case main =>
                                                  intro H23
                                                  apply sg3 (fun b1 b4 X => S7 m X ∧ Below w.heap.size w X ∧ Sl7 b1 1 [k7a] X ∧ Sl7 b4 1 [k7a] X)
                                                  case main =>
                                                    intro H24
                                                    apply sg2 (fun b1 X => S7 m X ∧ Below w.heap.size w X ∧ Sl7 b1 1 [k7a] X)
                                                    case main =>
                                                      intro H25
                                                      apply sg2 (fun b4 X => S7 m X ∧ Below w.heap.size w X ∧ Sl7 b4 1 [k7a] X)
                                                      case main =>
                                                        intro H26
                                                        apply sg2 (fun b1 X => S7 m X ∧ Below w.heap.size w X ∧ Sl7 b1 1 [k7a] X)
                                                        case main =>
                                                          intro H27
                                                          have f0 : S7 m W0 := HF0.out.1
                                                          have f1 := HF0.out.2
                                                          have hHeld := HF0.out.1
                                                          refine wpAnyH_ready (rs := [1, 4]) (by kernel_rfl) (by simp) ?_
                                                          refine AllReadyH.cons (o := _) rfl (fun K hK => ?_) (AllReadyH.cons (o := _) rfl (fun K hK => ?_) (AllReadyH.nil))
                                                          · skip
                                                            go_simp
                                                            have hy : Below W0.heap.size W0 (W0.alloc (Obj.cells #[.int .i64 3, .string ⟨#[97]⟩, .int .i64 0, .slice none 0 0] 27 (0, 0))) := (Below.refl _ _).alloc (Nat.le_refl _) _
                                                            have hnew : Sl7 W0.heap.size 1 [k7a] (W0.alloc (Obj.cells #[.int .i64 3, .string ⟨#[97]⟩, .int .i64 0, .slice none 0 0] 27 (0, 0))) := sl7_one (a := k7a) (k7_inn (by decide))
                                                            have hyd : Below W0.heap.size W0 (W0.alloc (Obj.cells #[.int .i64 3, .string ⟨#[97]⟩, .int .i64 0, .slice none 0 0] 27 (0, 0))).drew := hy.drew
                                                            have hnew := hnew.nx ((Below.refl _ _).drew)
                                                            obtain ⟨b1, hb1⟩ : ∃ b, W0.heap.size = b := ⟨_, rfl⟩
                                                            obtain ⟨Y, hY⟩ : ∃ Y, (W0.alloc (Obj.cells #[.int .i64 3, .string ⟨#[97]⟩, .int .i64 0, .slice none 0 0] 27 (0, 0))).drew = Y := ⟨_, rfl⟩
                                                            rw [hY] at hyd hnew
                                                            rw [hb1] at hnew
                                                            have g0 := f0.nx hyd
                                                            simp only [hY, hb1]
                                                            refine hK.out _ _ (g0) (fun hHeld => ?_)
                                                            clear hK K
                                                            try simp only [Act.put, List.setIfInBounds_toArray, List.set_cons_zero, List.set_cons_succ, List.getElem_toArray, List.getElem_cons_zero, List.getElem_cons_succ]
                                                            exact H27 b1 Y ⟨g0, f1.trans (hyd.mono f1.size), hnew⟩
                                                          · skip
                                                            go_simp
                                                            have hy : Below W0.heap.size W0 (W0.alloc (Obj.cells #[.int .i64 3, .string ⟨#[97]⟩, .int .i64 0, .slice none 0 0] 27 (0, 0))) := (Below.refl _ _).alloc (Nat.le_refl _) _
                                                            have hnew : Sl7 W0.heap.size 1 [k7a] (W0.alloc (Obj.cells #[.int .i64 3, .string ⟨#[97]⟩, .int .i64 0, .slice none 0 0] 27 (0, 0))) := sl7_one (a := k7a) (k7_inn (by decide))
                                                            have hyd : Below W0.heap.size W0 (W0.alloc (Obj.cells #[.int .i64 3, .string ⟨#[97]⟩, .int .i64 0, .slice none 0 0] 27 (0, 0))).drew := hy.drew
                                                            have hnew := hnew.nx ((Below.refl _ _).drew)
                                                            obtain ⟨b4, hb4⟩ : ∃ b, W0.heap.size = b := ⟨_, rfl⟩
                                                            obtain ⟨Y, hY⟩ : ∃ Y, (W0.alloc (Obj.cells #[.int .i64 3, .string ⟨#[97]⟩, .int .i64 0, .slice none 0 0] 27 (0, 0))).drew = Y := ⟨_, rfl⟩
                                                            rw [hY] at hyd hnew
                                                            rw [hb4] at hnew
                                                            have g0 := f0.nx hyd
                                                            simp only [hY, hb4]
                                                            refine hK.out _ _ (g0) (fun hHeld => ?_)
                                                            clear hK K
                                                            try simp only [Act.put, List.setIfInBounds_toArray, List.set_cons_zero, List.set_cons_succ, List.getElem_toArray, List.getElem_cons_zero, List.getElem_cons_succ]
                                                            exact H26 b4 Y ⟨g0, f1.trans (hyd.mono f1.size), hnew⟩
                                                        case tail =>
                                                          intro b1 W hF
                                                          obtain ⟨f0, f1, f2⟩ := hF
                                                          have hHeld := f0
                                                          refine wpAnyH_ready (rs := [2, 4]) (by kernel_rfl) (by simp) ?_
                                                          refine AllReadyH.cons (o := _) rfl (fun K hK => ?_) (AllReadyH.cons (o := _) rfl (fun K hK => ?_) (AllReadyH.nil))
                                                          · skip
                                                            go_simp
                                                            refine (fun7 ⟨#[102]⟩ _ _ _ _).mono ?_
                                                            rintro e Y ⟨rfl, hy⟩
                                                            have g0 := f0.nx hy
                                                            have HG0 := Lib.hid g0
                                                            have HY := Lib.hid hy
                                                            have E0 := Lib.hid f0
                                                            have E1 := Lib.hid f1
                                                            have E2 := Lib.hid f2
                                                            clear hy g0 f0 f1 f2 hHeld
                                                            go_wp2_with fail
                                                            refine hK.out _ _ (HG0.out) (fun hHeld => ?_)
                                                            clear hK K
                                                            try simp only [Act.put, List.setIfInBounds_toArray, List.set_cons_zero, List.set_cons_succ, List.getElem_toArray, List.getElem_cons_zero, List.getElem_cons_succ]
                                                            exact H25 b1 Y ⟨HG0.out, E1.out.trans (HY.out.mono E1.out.size), E2.out.nx HY.out⟩
                                                          · skip
                                                            go_simp
                                                            have hy : Below W.heap.size W (W.alloc (Obj.cells #[.int .i64 3, .string ⟨#[97]⟩, .int .i64 0, .slice none 0 0] 27 (0, 0))) := (Below.refl _ _).alloc (Nat.le_refl _) _
                                                            have hnew : Sl7 W.heap.size 1 [k7a] (W.alloc (Obj.cells #[.int .i64 3, .string ⟨#[97]⟩, .int .i64 0, .slice none 0 0] 27 (0, 0))) := sl7_one (a := k7a) (k7_inn (by decide))
                                                            obtain ⟨b4, hb4⟩ : ∃ b, W.heap.size = b := ⟨_, rfl⟩
                                                            obtain ⟨Y, hY⟩ : ∃ Y, (W.alloc (Obj.cells #[.int .i64 3, .string ⟨#[97]⟩, .int .i64 0, .slice none 0 0] 27 (0, 0))) = Y := ⟨_, rfl⟩
                                                            rw [hY] at hy hnew
                                                            rw [hb4] at hnew
                                                            have g0 := f0.nx hy
                                                            simp only [hY, hb4]
                                                            refine hK.out _ _ (g0) (fun hHeld => ?_)
                                                            clear hK K
                                                            try simp only [Act.put, List.setIfInBounds_toArray, List.set_cons_zero, List.set_cons_succ, List.getElem_toArray, List.getElem_cons_zero, List.getElem_cons_succ]
                                                            exact H24 b1 b4 Y ⟨g0, f1.trans (hy.mono f1.size), f2.nx hy, hnew⟩
                                                      case tail =>
                                                        intro b4 W hF
                                                        obtain ⟨f0, f1, f2⟩ := hF
                                                        have hHeld := f0
                                                        refine wpAnyH_ready (rs := [1]) (by kernel_rfl) (by simp) ?_
                                                        refine AllReadyH.cons (o := _) rfl (fun K hK => ?_) (AllReadyH.nil)
                                                        go_simp
                                                        have hy : Below W.heap.size W (W.alloc (Obj.cells #[.int .i64 3, .string ⟨#[97]⟩, .int .i64 0, .slice none 0 0] 27 (0, 0))) := (Below.refl _ _).alloc (Nat.le_refl _) _
                                                        have hnew : Sl7 W.heap.size 1 [k7a] (W.alloc (Obj.cells #[.int .i64 3, .string ⟨#[97]⟩, .int .i64 0, .slice none 0 0] 27 (0, 0))) := sl7_one (a := k7a) (k7_inn (by decide))
                                                        obtain ⟨b1, hb1⟩ : ∃ b, W.heap.size = b := ⟨_, rfl⟩
                                                        obtain ⟨Y, hY⟩ : ∃ Y, (W.alloc (Obj.cells #[.int .i64 3, .string ⟨#[97]⟩, .int .i64 0, .slice none 0 0] 27 (0, 0))) = Y := ⟨_, rfl⟩
                                                        rw [hY] at hy hnew
                                                        rw [hb1] at hnew
                                                        have g0 := f0.nx hy
                                                        simp only [hY, hb1]
                                                        refine hK.out _ _ (g0) (fun hHeld => ?_)
                                                        clear hK K
                                                        try simp only [Act.put, List.setIfInBounds_toArray, List.set_cons_zero, List.set_cons_succ, List.getElem_toArray, List.getElem_cons_zero, List.getElem_cons_succ]
                                                        exact H24 b1 b4 Y ⟨g0, f1.trans (hy.mono f1.size), hnew, f2.nx hy⟩
                                                    case tail =>
                                                      intro b1 W hF
                                                      obtain ⟨f0, f1, f2⟩ := hF
                                                      have hHeld := f0
                                                      refine wpAnyH_ready (rs := [4]) (by kernel_rfl) (by simp) ?_
                                                      refine AllReadyH.cons (o := _) rfl (fun K hK => ?_) (AllReadyH.nil)
                                                      go_simp
                                                      have hy : Below W.heap.size W (W.alloc (Obj.cells #[.int .i64 3, .string ⟨#[97]⟩, .int .i64 0, .slice none 0 0] 27 (0, 0))) := (Below.refl _ _).alloc (Nat.le_refl _) _
                                                      have hnew : Sl7 W.heap.size 1 [k7a] (W.alloc (Obj.cells #[.int .i64 3, .string ⟨#[97]⟩, .int .i64 0, .slice none 0 0] 27 (0, 0))) := sl7_one (a := k7a) (k7_inn (by decide))
                                                      obtain ⟨b4, hb4⟩ : ∃ b, W.heap.size = b := ⟨_, rfl⟩
                                                      obtain ⟨Y, hY⟩ : ∃ Y, (W.alloc (Obj.cells #[.int .i64 3, .string ⟨#[97]⟩, .int .i64 0, .slice none 0 0] 27 (0, 0))) = Y := ⟨_, rfl⟩
                                                      rw [hY] at hy hnew
                                                      rw [hb4] at hnew
                                                      have g0 := f0.nx hy
                                                      simp only [hY, hb4]
                                                      refine hK.out _ _ (g0) (fun hHeld => ?_)
                                                      clear hK K
                                                      try simp only [Act.put, List.setIfInBounds_toArray, List.set_cons_zero, List.set_cons_succ, List.getElem_toArray, List.getElem_cons_zero, List.getElem_cons_succ]
                                                      exact H23 b1 b4 Y ⟨g0, f1.trans (hy.mono f1.size), f2.nx hy, hnew⟩
                                                  case tail =>
                                                    intro b1 b4 W hF
                                                    obtain ⟨f0, f1, f2, f3⟩ := hF
                                                    have hHeld := f0
                                                    refine wpAnyH_ready (rs := [2]) (by kernel_rfl) (by simp) ?_
                                                    refine AllReadyH.cons (o := _) rfl (fun K hK => ?_) (AllReadyH.nil)
                                                    go_simp
                                                    refine (fun7 ⟨#[102]⟩ _ _ _ _).mono ?_
                                                    rintro e Y ⟨rfl, hy⟩
                                                    have g0 := f0.nx hy
                                                    have HG0 := Lib.hid g0
                                                    have HY := Lib.hid hy
                                                    have E0 := Lib.hid f0
                                                    have E1 := Lib.hid f1
                                                    have E2 := Lib.hid f2
                                                    have E3 := Lib.hid f3
                                                    clear hy g0 f0 f1 f2 f3 hHeld
                                                    go_wp2_with fail
                                                    refine hK.out _ _ (HG0.out) (fun hHeld => ?_)
                                                    clear hK K
                                                    try simp only [Act.put, List.setIfInBounds_toArray, List.set_cons_zero, List.set_cons_succ, List.getElem_toArray, List.getElem_cons_zero, List.getElem_cons_succ]
                                                    exact H23 b1 b4 Y ⟨HG0.out, E1.out.trans (HY.out.mono E1.out.size), E2.out.nx HY.out, E3.out.nx HY.out⟩
                                                case tail =>
                                                  intro b1 b4 W hF
                                                  obtain ⟨f0, f1, f2, f3⟩ := hF
                                                  have hHeld := f0
                                                  refine wpAnyH_ready (rs := [5]) (by kernel_rfl) (by simp) ?_
                                                  refine AllReadyH.cons (o := _) rfl (fun K hK => ?_) (AllReadyH.nil)
                                                  go_simp
                                                  refine (fun7 ⟨#[103]⟩ _ _ _ _).mono ?_
                                                  rintro e Y ⟨rfl, hy⟩
                                                  have g0 := f0.nx hy
                                                  have HG0 := Lib.hid g0
                                                  have HY := Lib.hid hy
                                                  have E0 := Lib.hid f0
                                                  have E1 := Lib.hid f1
                                                  have E2 := Lib.hid f2
                                                  have E3 := Lib.hid f3
                                                  clear hy g0 f0 f1 f2 f3 hHeld
                                                  go_wp2_with fail
                                                  refine hK.out _ _ (HG0.out) (fun hHeld => ?_)
                                                  clear hK K
                                                  try simp only [Act.put, List.setIfInBounds_toArray, List.set_cons_zero, List.set_cons_succ, List.getElem_toArray, List.getElem_cons_zero, List.getElem_cons_succ]
                                                  exact H22 b1 b4 Y ⟨HG0.out, E1.out.trans (HY.out.mono E1.out.size), E2.out.nx HY.out, E3.out.nx HY.out⟩
                                              case tail =>
                                                intro b1 b4 W hF
                                                obtain ⟨f0, f1, f2, f3⟩ := hF
                                                have hHeld := f0
                                                refine wpAnyH_ready (rs := [6]) (by kernel_rfl) (by simp) ?_
                                                refine AllReadyH.cons (o := _) rfl (fun K hK => ?_) (AllReadyH.nil)
                                                go_simp
                                                have hy : Below W.heap.size W (W.alloc (Obj.cells #[.int .i64 3, .string ⟨#[103]⟩, .int .i64 0, .slice (some ⟨b4, 0, none⟩) 1 1] 27 (0, 0))) := (Below.refl _ _).alloc (Nat.le_refl _) _
                                                have hnew : Sl7 W.heap.size 1 [k7ga] (W.alloc (Obj.cells #[.int .i64 3, .string ⟨#[103]⟩, .int .i64 0, .slice (some ⟨b4, 0, none⟩) 1 1] 27 (0, 0))) := sl7_one (a := k7ga) (fun7_inn (by decide) f3)
                                                obtain ⟨b6, hb6⟩ : ∃ b, W.heap.size = b := ⟨_, rfl⟩
                                                obtain ⟨Y, hY⟩ : ∃ Y, (W.alloc (Obj.cells #[.int .i64 3, .string ⟨#[103]⟩, .int .i64 0, .slice (some ⟨b4, 0, none⟩) 1 1] 27 (0, 0))) = Y := ⟨_, rfl⟩
                                                rw [hY] at hy hnew
                                                rw [hb6] at hnew
                                                have g0 := f0.nx hy
                                                simp only [hY, hb6]
                                                refine hK.out _ _ (g0) (fun hHeld => ?_)
                                                clear hK K
                                                try simp only [Act.put, List.setIfInBounds_toArray, List.set_cons_zero, List.set_cons_succ, List.getElem_toArray, List.getElem_cons_zero, List.getElem_cons_succ]
                                                exact H21 b1 b4 b6 Y ⟨g0, f1.trans (hy.mono f1.size), f2.nx hy, f3.nx hy, hnew⟩
                                            case tail =>
                                              intro b1 b4 b6 W hF
                                              obtain ⟨f0, f1, f2, f3, f4⟩ := hF
                                              have hHeld := f0
                                              refine wpAnyH_ready (rs := [7]) (by kernel_rfl) (by simp) ?_
                                              refine AllReadyH.cons (o := _) rfl (fun K hK => ?_) (AllReadyH.nil)
                                              go_simp
                                              refine (fun7 ⟨#[102]⟩ _ _ _ _).mono ?_
                                              rintro e Y ⟨rfl, hy⟩
                                              have g0 := f0.nx hy
                                              have HG0 := Lib.hid g0
                                              have HY := Lib.hid hy
                                              have E0 := Lib.hid f0
                                              have E1 := Lib.hid f1
                                              have E2 := Lib.hid f2
                                              have E3 := Lib.hid f3
                                              have E4 := Lib.hid f4
                                              clear hy g0 f0 f1 f2 f3 f4 hHeld
                                              go_wp2_with fail
                                              refine hK.out _ _ (HG0.out) (fun hHeld => ?_)
                                              clear hK K
                                              try simp only [Act.put, List.setIfInBounds_toArray, List.set_cons_zero, List.set_cons_succ, List.getElem_toArray, List.getElem_cons_zero, List.getElem_cons_succ]
                                              exact H20 b1 b4 b6 Y ⟨HG0.out, E1.out.trans (HY.out.mono E1.out.size), E2.out.nx HY.out, E3.out.nx HY.out, E4.out.nx HY.out⟩
                                          case tail =>
                                            intro b1 b4 b6 W hF
                                            obtain ⟨f0, f1, f2, f3, f4⟩ := hF
                                            have hHeld := f0
                                            refine wpAnyH_ready (rs := [8]) (by kernel_rfl) (by simp) ?_
                                            refine AllReadyH.cons (o := _) rfl (fun K hK => ?_) (AllReadyH.nil)
                                            go_simp
                                            refine (in_is (a := k7fa) (b := k7fga) k7_in1 _ _ _ (fun7_inn (by decide) f2) (fun7_inn (by decide) f4) (by decide) (by decide)).mono ?_
                                            rintro e Y ⟨rfl, hy⟩
                                            have g0 := f0.nx hy
                                            have HG0 := Lib.hid g0
                                            have HY := Lib.hid hy
                                            have E0 := Lib.hid f0
                                            have E1 := Lib.hid f1
                                            have E2 := Lib.hid f2
                                            have E3 := Lib.hid f3
                                            have E4 := Lib.hid f4
                                            clear hy g0 f0 f1 f2 f3 f4 hHeld
                                            go_wp2_with fail
                                            refine hK.out _ _ (HG0.out) (fun hHeld => ?_)
                                            clear hK K
                                            try simp only [Act.put, List.setIfInBounds_toArray, List.set_cons_zero, List.set_cons_succ, List.getElem_toArray, List.getElem_cons_zero, List.getElem_cons_succ]
                                            refine wpAnyH_take (i := 9) (oi := _) (v := ?_) rfl (by kernel_rfl) (by kernel_rfl) (by kernel_rfl) (fun _ _ _ h => h) (Or.inl ⟨by rfl, ?_⟩) hHeld ?_
                                            rotate_left
                                            · (intro w hSw; obtain ⟨⟨a0, a1, a2, a3⟩, d0, d1, d2, d3⟩ := hSw; go_simp; try with_reducible rfl)
                                            try simp only [Act.put, List.setIfInBounds_toArray, List.set_cons_zero, List.set_cons_succ, List.getElem_toArray, List.getElem_cons_zero, List.getElem_cons_succ]
                                            refine wpAnyH_take (i := 10) (oi := _) (v := ?_) rfl (by kernel_rfl) (by kernel_rfl) (by kernel_rfl) (fun _ _ _ h => h) (Or.inl ⟨by rfl, ?_⟩) hHeld ?_
                                            rotate_left
                                            · (intro w hSw; obtain ⟨⟨a0, a1, a2, a3⟩, d0, d1, d2, d3⟩ := hSw; go_simp; try with_reducible rfl)
                                            try simp only [Act.put, List.setIfInBounds_toArray, List.set_cons_zero, List.set_cons_succ, List.getElem_toArray, List.getElem_cons_zero, List.getElem_cons_succ]
                                            refine wpAnyH_take (i := 13) (oi := _) (v := ?_) rfl (by kernel_rfl) (by kernel_rfl) (by kernel_rfl) (fun _ _ _ h => h) (Or.inl ⟨by rfl, ?_⟩) hHeld ?_
                                            rotate_left
                                            · (intro w hSw; obtain ⟨⟨a0, a1, a2, a3⟩, d0, d1, d2, d3⟩ := hSw; go_simp; try with_reducible rfl)
                                            try simp only [Act.put, List.setIfInBounds_toArray, List.set_cons_zero, List.set_cons_succ, List.getElem_toArray, List.getElem_cons_zero, List.getElem_cons_succ]
                                            refine wpAnyH_take (i := 16) (oi := _) (v := ?_) rfl (by kernel_rfl) (by kernel_rfl) (by kernel_rfl) (fun _ _ _ h => h) (Or.inl ⟨by rfl, ?_⟩) hHeld ?_
                                            rotate_left
                                            · (intro w hSw; obtain ⟨⟨a0, a1, a2, a3⟩, d0, d1, d2, d3⟩ := hSw; go_simp; try with_reducible rfl)
                                            try simp only [Act.put, List.setIfInBounds_toArray, List.set_cons_zero, List.set_cons_succ, List.getElem_toArray, List.getElem_cons_zero, List.getElem_cons_succ]
                                            exact H19 b1 b4 b6 Y ⟨HG0.out, E1.out.trans (HY.out.mono E1.out.size)⟩
                                        case tail =>
                                          intro b1 b4 b6 W hF
                                          obtain ⟨f0, f1⟩ := hF
                                          have hHeld := f0
                                          refine wpAnyH_ready (rs := [11, 14]) (by kernel_rfl) (by simp) ?_
                                          refine AllReadyH.cons (o := _) rfl (fun K hK => ?_) (AllReadyH.cons (o := _) rfl (fun K hK => ?_) (AllReadyH.nil))
                                          · skip
                                            go_simp
                                            have hy : Below W.heap.size W (W.alloc (Obj.cells #[.int .i64 3, .string ⟨#[97]⟩, .int .i64 0, .slice none 0 0] 27 (0, 0))) := (Below.refl _ _).alloc (Nat.le_refl _) _
                                            have hnew : Sl7 W.heap.size 1 [k7a] (W.alloc (Obj.cells #[.int .i64 3, .string ⟨#[97]⟩, .int .i64 0, .slice none 0 0] 27 (0, 0))) := sl7_one (a := k7a) (k7_inn (by decide))
                                            obtain ⟨b11, hb11⟩ : ∃ b, W.heap.size = b := ⟨_, rfl⟩
                                            obtain ⟨Y, hY⟩ : ∃ Y, (W.alloc (Obj.cells #[.int .i64 3, .string ⟨#[97]⟩, .int .i64 0, .slice none 0 0] 27 (0, 0))) = Y := ⟨_, rfl⟩
                                            rw [hY] at hy hnew
                                            rw [hb11] at hnew
                                            have g0 := f0.nx hy
                                            simp only [hY, hb11]
                                            refine hK.out _ _ (g0) (fun hHeld => ?_)
                                            clear hK K
                                            try simp only [Act.put, List.setIfInBounds_toArray, List.set_cons_zero, List.set_cons_succ, List.getElem_toArray, List.getElem_cons_zero, List.getElem_cons_succ]
                                            exact H18 b1 b4 b6 b11 Y ⟨g0, f1.trans (hy.mono f1.size), hnew⟩
                                          · skip
                                            go_simp
                                            have hy : Below W.heap.size W (W.alloc (Obj.cells #[.int .i64 3, .string ⟨#[97]⟩, .int .i64 0, .slice none 0 0] 27 (0, 0))) := (Below.refl _ _).alloc (Nat.le_refl _) _
                                            have hnew : Sl7 W.heap.size 1 [k7a] (W.alloc (Obj.cells #[.int .i64 3, .string ⟨#[97]⟩, .int .i64 0, .slice none 0 0] 27 (0, 0))) := sl7_one (a := k7a) (k7_inn (by decide))
                                            obtain ⟨b14, hb14⟩ : ∃ b, W.heap.size = b := ⟨_, rfl⟩
                                            obtain ⟨Y, hY⟩ : ∃ Y, (W.alloc (Obj.cells #[.int .i64 3, .string ⟨#[97]⟩, .int .i64 0, .slice none 0 0] 27 (0, 0))) = Y := ⟨_, rfl⟩
                                            rw [hY] at hy hnew
                                            rw [hb14] at hnew
                                            have g0 := f0.nx hy
                                            simp only [hY, hb14]
                                            refine hK.out _ _ (g0) (fun hHeld => ?_)
                                            clear hK K
                                            try simp only [Act.put, List.setIfInBounds_toArray, List.set_cons_zero, List.set_cons_succ, List.getElem_toArray, List.getElem_cons_zero, List.getElem_cons_succ]
                                            exact H17 b1 b4 b6 b14 Y ⟨g0, f1.trans (hy.mono f1.size), hnew⟩
                                      case tail =>
                                        intro b1 b4 b6 b11 W hF
                                        obtain ⟨f0, f1, f2⟩ := hF
                                        have hHeld := f0
                                        refine wpAnyH_ready (rs := [12, 14]) (by kernel_rfl) (by simp) ?_
                                        refine AllReadyH.cons (o := _) rfl (fun K hK => ?_) (AllReadyH.cons (o := _) rfl (fun K hK => ?_) (AllReadyH.nil))
                                        · skip
                                          go_simp
                                          refine (fun7 ⟨#[102]⟩ _ _ _ _).mono ?_
                                          rintro e Y ⟨rfl, hy⟩
                                          have g0 := f0.nx hy
                                          have HG0 := Lib.hid g0
                                          have HY := Lib.hid hy
                                          have E0 := Lib.hid f0
                                          have E1 := Lib.hid f1
                                          have E2 := Lib.hid f2
                                          clear hy g0 f0 f1 f2 hHeld
                                          go_wp2_with fail
                                          refine hK.out _ _ (HG0.out) (fun hHeld => ?_)
                                          clear hK K
                                          try simp only [Act.put, List.setIfInBounds_toArray, List.set_cons_zero, List.set_cons_succ, List.getElem_toArray, List.getElem_cons_zero, List.getElem_cons_succ]
                                          exact H16 b1 b4 b6 b11 Y ⟨HG0.out, E1.out.trans (HY.out.mono E1.out.size), E2.out.nx HY.out⟩
                                        · skip
                                          go_simp
                                          have hy : Below W.heap.size W (W.alloc (Obj.cells #[.int .i64 3, .string ⟨#[97]⟩, .int .i64 0, .slice none 0 0] 27 (0, 0))) := (Below.refl _ _).alloc (Nat.le_refl _) _
                                          have hnew : Sl7 W.heap.size 1 [k7a] (W.alloc (Obj.cells #[.int .i64 3, .string ⟨#[97]⟩, .int .i64 0, .slice none 0 0] 27 (0, 0))) := sl7_one (a := k7a) (k7_inn (by decide))
                                          obtain ⟨b14, hb14⟩ : ∃ b, W.heap.size = b := ⟨_, rfl⟩
                                          obtain ⟨Y, hY⟩ : ∃ Y, (W.alloc (Obj.cells #[.int .i64 3, .string ⟨#[97]⟩, .int .i64 0, .slice none 0 0] 27 (0, 0))) = Y := ⟨_, rfl⟩
                                          rw [hY] at hy hnew
                                          rw [hb14] at hnew
                                          have g0 := f0.nx hy
                                          simp only [hY, hb14]
                                          refine hK.out _ _ (g0) (fun hHeld => ?_)
                                          clear hK K
                                          try simp only [Act.put, List.setIfInBounds_toArray, List.set_cons_zero, List.set_cons_succ, List.getElem_toArray, List.getElem_cons_zero, List.getElem_cons_succ]
                                          exact H15 b1 b4 b6 b11 b14 Y ⟨g0, f1.trans (hy.mono f1.size), f2.nx hy, hnew⟩
                                    case tail =>
                                      intro b1 b4 b6 b14 W hF
                                      obtain ⟨f0, f1, f2⟩ := hF
                                      have hHeld := f0
                                      refine wpAnyH_ready (rs := [11]) (by kernel_rfl) (by simp) ?_
                                      refine AllReadyH.cons (o := _) rfl (fun K hK => ?_) (AllReadyH.nil)
                                      go_simp
                                      have hy : Below W.heap.size W (W.alloc (Obj.cells #[.int .i64 3, .string ⟨#[97]⟩, .int .i64 0, .slice none 0 0] 27 (0, 0))) := (Below.refl _ _).alloc (Nat.le_refl _) _
                                      have hnew : Sl7 W.heap.size 1 [k7a] (W.alloc (Obj.cells #[.int .i64 3, .string ⟨#[97]⟩, .int .i64 0, .slice none 0 0] 27 (0, 0))) := sl7_one (a := k7a) (k7_inn (by decide))
                                      obtain ⟨b11, hb11⟩ : ∃ b, W.heap.size = b := ⟨_, rfl⟩
                                      obtain ⟨Y, hY⟩ : ∃ Y, (W.alloc (Obj.cells #[.int .i64 3, .string ⟨#[97]⟩, .int .i64 0, .slice none 0 0] 27 (0, 0))) = Y := ⟨_, rfl⟩
                                      rw [hY] at hy hnew
                                      rw [hb11] at hnew
                                      have g0 := f0.nx hy
                                      simp only [hY, hb11]
                                      refine hK.out _ _ (g0) (fun hHeld => ?_)
                                      clear hK K
                                      try simp only [Act.put, List.setIfInBounds_toArray, List.set_cons_zero, List.set_cons_succ, List.getElem_toArray, List.getElem_cons_zero, List.getElem_cons_succ]
                                      exact H15 b1 b4 b6 b11 b14 Y ⟨g0, f1.trans (hy.mono f1.size), hnew, f2.nx hy⟩
                                  case tail =>
                                    intro b1 b4 b6 b11 W hF
                                    obtain ⟨f0, f1, f2⟩ := hF
                                    have hHeld := f0
                                    refine wpAnyH_ready (rs := [14]) (by kernel_rfl) (by simp) ?_
                                    refine AllReadyH.cons (o := _) rfl (fun K hK => ?_) (AllReadyH.nil)
                                    go_simp
                                    have hy : Below W.heap.size W (W.alloc (Obj.cells #[.int .i64 3, .string ⟨#[97]⟩, .int .i64 0, .slice none 0 0] 27 (0, 0))) := (Below.refl _ _).alloc (Nat.le_refl _) _
                                    have hnew : Sl7 W.heap.size 1 [k7a] (W.alloc (Obj.cells #[.int .i64 3, .string ⟨#[97]⟩, .int .i64 0, .slice none 0 0] 27 (0, 0))) := sl7_one (a := k7a) (k7_inn (by decide))
                                    obtain ⟨b14, hb14⟩ : ∃ b, W.heap.size = b := ⟨_, rfl⟩
                                    obtain ⟨Y, hY⟩ : ∃ Y, (W.alloc (Obj.cells #[.int .i64 3, .string ⟨#[97]⟩, .int .i64 0, .slice none 0 0] 27 (0, 0))) = Y := ⟨_, rfl⟩
                                    rw [hY] at hy hnew
                                    rw [hb14] at hnew
                                    have g0 := f0.nx hy
                                    simp only [hY, hb14]
                                    refine hK.out _ _ (g0) (fun hHeld => ?_)
                                    clear hK K
                                    try simp only [Act.put, List.setIfInBounds_toArray, List.set_cons_zero, List.set_cons_succ, List.getElem_toArray, List.getElem_cons_zero, List.getElem_cons_succ]
                                    exact H14 b1 b4 b6 b11 b14 Y ⟨g0, f1.trans (hy.mono f1.size), f2.nx hy, hnew⟩
                                case tail =>
                                  intro b1 b4 b6 b11 b14 W hF
                                  obtain ⟨f0, f1, f2, f3⟩ := hF
                                  have hHeld := f0
                                  refine wpAnyH_ready (rs := [12]) (by kernel_rfl) (by simp) ?_
                                  refine AllReadyH.cons (o := _) rfl (fun K hK => ?_) (AllReadyH.nil)
                                  go_simp
                                  refine (fun7 ⟨#[102]⟩ _ _ _ _).mono ?_
                                  rintro e Y ⟨rfl, hy⟩
                                  have g0 := f0.nx hy
                                  have HG0 := Lib.hid g0
                                  have HY := Lib.hid hy
                                  have E0 := Lib.hid f0
                                  have E1 := Lib.hid f1
                                  have E2 := Lib.hid f2
                                  have E3 := Lib.hid f3
                                  clear hy g0 f0 f1 f2 f3 hHeld
                                  go_wp2_with fail
                                  refine hK.out _ _ (HG0.out) (fun hHeld => ?_)
                                  clear hK K
                                  try simp only [Act.put, List.setIfInBounds_toArray, List.set_cons_zero, List.set_cons_succ, List.getElem_toArray, List.getElem_cons_zero, List.getElem_cons_succ]
                                  exact H14 b1 b4 b6 b11 b14 Y ⟨HG0.out, E1.out.trans (HY.out.mono E1.out.size), E2.out.nx HY.out, E3.out.nx HY.out⟩
                              case tail =>
                                intro b1 b4 b6 b11 b14 W hF
                                obtain ⟨f0, f1, f2, f3⟩ := hF
                                have hHeld := f0
                                refine wpAnyH_ready (rs := [15]) (by kernel_rfl) (by simp) ?_
                                refine AllReadyH.cons (o := _) rfl (fun K hK => ?_) (AllReadyH.nil)
                                go_simp
                                refine (fun7 ⟨#[102]⟩ _ _ _ _).mono ?_
                                rintro e Y ⟨rfl, hy⟩
                                have g0 := f0.nx hy
                                have HG0 := Lib.hid g0
                                have HY := Lib.hid hy
                                have E0 := Lib.hid f0
                                have E1 := Lib.hid f1
                                have E2 := Lib.hid f2
                                have E3 := Lib.hid f3
                                clear hy g0 f0 f1 f2 f3 hHeld
                                go_wp2_with fail
                                refine hK.out _ _ (HG0.out) (fun hHeld => ?_)
                                clear hK K
                                try simp only [Act.put, List.setIfInBounds_toArray, List.set_cons_zero, List.set_cons_succ, List.getElem_toArray, List.getElem_cons_zero, List.getElem_cons_succ]
                                exact H13 b1 b4 b6 b11 b14 Y ⟨HG0.out, E1.out.trans (HY.out.mono E1.out.size), E2.out.nx HY.out, E3.out.nx HY.out⟩
                            case tail =>
                              intro b1 b4 b6 b11 b14 W hF
                              obtain ⟨f0, f1, f2, f3⟩ := hF
                              have hHeld := f0
                              refine wpAnyH_ready (rs := [17]) (by kernel_rfl) (by simp) ?_
                              refine AllReadyH.cons (o := _) rfl (fun K hK => ?_) (AllReadyH.nil)
                              go_simp
                              have hy : Below W.heap.size W (W.alloc (Obj.cells #[.int .i64 3, .string ⟨#[102]⟩, .int .i64 0, .slice (some ⟨b14, 0, none⟩) 1 1, .int .i64 3, .string ⟨#[98]⟩, .int .i64 0, .slice none 0 0] 27 (0, 0))) := (Below.refl _ _).alloc (Nat.le_refl _) _
                              have hnew : Sl7 W.heap.size 2 [k7fa, k7b] (W.alloc (Obj.cells #[.int .i64 3, .string ⟨#[102]⟩, .int .i64 0, .slice (some ⟨b14, 0, none⟩) 1 1, .int .i64 3, .string ⟨#[98]⟩, .int .i64 0, .slice none 0 0] 27 (0, 0))) := sl7_two (a := k7fa) (b := k7b) (fun7_inn (by decide) f3) (k7_inn (by decide))
                              obtain ⟨b17, hb17⟩ : ∃ b, W.heap.size = b := ⟨_, rfl⟩
                              obtain ⟨Y, hY⟩ : ∃ Y, (W.alloc (Obj.cells #[.int .i64 3, .string ⟨#[102]⟩, .int .i64 0, .slice (some ⟨b14, 0, none⟩) 1 1, .int .i64 3, .string ⟨#[98]⟩, .int .i64 0, .slice none 0 0] 27 (0, 0))) = Y := ⟨_, rfl⟩
                              rw [hY] at hy hnew
                              rw [hb17] at hnew
                              have g0 := f0.nx hy
                              simp only [hY, hb17]
                              refine hK.out _ _ (g0) (fun hHeld => ?_)
                              clear hK K
                              try simp only [Act.put, List.setIfInBounds_toArray, List.set_cons_zero, List.set_cons_succ, List.getElem_toArray, List.getElem_cons_zero, List.getElem_cons_succ]
                              exact H12 b1 b4 b6 b11 b14 b17 Y ⟨g0, f1.trans (hy.mono f1.size), f2.nx hy, f3.nx hy, hnew⟩
                          case tail =>
                            intro b1 b4 b6 b11 b14 b17 W hF
                            obtain ⟨f0, f1, f2, f3, f4⟩ := hF
                            have hHeld := f0
                            refine wpAnyH_ready (rs := [18]) (by kernel_rfl) (by simp) ?_
                            refine AllReadyH.cons (o := _) rfl (fun K hK => ?_) (AllReadyH.nil)
                            go_simp
                            refine (fun7 ⟨#[103]⟩ _ _ _ _).mono ?_
                            rintro e Y ⟨rfl, hy⟩
                            have g0 := f0.nx hy
                            have HG0 := Lib.hid g0
                            have HY := Lib.hid hy
                            have E0 := Lib.hid f0
                            have E1 := Lib.hid f1
                            have E2 := Lib.hid f2
                            have E3 := Lib.hid f3
                            have E4 := Lib.hid f4
                            clear hy g0 f0 f1 f2 f3 f4 hHeld
                            go_wp2_with fail
                            refine hK.out _ _ (HG0.out) (fun hHeld => ?_)
                            clear hK K
                            try simp only [Act.put, List.setIfInBounds_toArray, List.set_cons_zero, List.set_cons_succ, List.getElem_toArray, List.getElem_cons_zero, List.getElem_cons_succ]
                            exact H11 b1 b4 b6 b11 b14 b17 Y ⟨HG0.out, E1.out.trans (HY.out.mono E1.out.size), E2.out.nx HY.out, E3.out.nx HY.out, E4.out.nx HY.out⟩
                        case tail =>
                          intro b1 b4 b6 b11 b14 b17 W hF
                          obtain ⟨f0, f1, f2, f3, f4⟩ := hF
                          have hHeld := f0
                          refine wpAnyH_ready (rs := [19]) (by kernel_rfl) (by simp) ?_
                          refine AllReadyH.cons (o := _) rfl (fun K hK => ?_) (AllReadyH.nil)
                          go_simp
                          refine (in_is (a := k7fa) (b := k7gfb) k7_in2 _ _ _ (fun7_inn (by decide) f2) (fun7_inn (by decide) f4) (by decide) (by decide)).mono ?_
                          rintro e Y ⟨rfl, hy⟩
                          have g0 := f0.nx hy
                          have HG0 := Lib.hid g0
                          have HY := Lib.hid hy
                          have E0 := Lib.hid f0
                          have E1 := Lib.hid f1
                          have E2 := Lib.hid f2
                          have E3 := Lib.hid f3
                          have E4 := Lib.hid f4
                          clear hy g0 f0 f1 f2 f3 f4 hHeld
                          go_wp2_with fail
                          refine hK.out _ _ (HG0.out) (fun hHeld => ?_)
                          clear hK K
                          try simp only [Act.put, List.setIfInBounds_toArray, List.set_cons_zero, List.set_cons_succ, List.getElem_toArray, List.getElem_cons_zero, List.getElem_cons_succ]
                          refine wpAnyH_take (i := 20) (oi := _) (v := ?_) rfl (by kernel_rfl) (by kernel_rfl) (by kernel_rfl) (fun _ _ _ h => h) (Or.inl ⟨by rfl, ?_⟩) hHeld ?_
                          rotate_left
                          · (intro w hSw; obtain ⟨⟨a0, a1, a2, a3⟩, d0, d1, d2, d3⟩ := hSw; go_simp; try with_reducible rfl)
                          try simp only [Act.put, List.setIfInBounds_toArray, List.set_cons_zero, List.set_cons_succ, List.getElem_toArray, List.getElem_cons_zero, List.getElem_cons_succ]
                          refine wpAnyH_take (i := 21) (oi := _) (v := ?_) rfl (by kernel_rfl) (by kernel_rfl) (by kernel_rfl) (fun _ _ _ h => h) (Or.inl ⟨by rfl, ?_⟩) hHeld ?_
                          rotate_left
                          · (intro w hSw; obtain ⟨⟨a0, a1, a2, a3⟩, d0, d1, d2, d3⟩ := hSw; go_simp; try with_reducible rfl)
                          try simp only [Act.put, List.setIfInBounds_toArray, List.set_cons_zero, List.set_cons_succ, List.getElem_toArray, List.getElem_cons_zero, List.getElem_cons_succ]
                          refine wpAnyH_take (i := 22) (oi := _) (v := ?_) rfl (by kernel_rfl) (by kernel_rfl) (by kernel_rfl) (fun _ _ _ h => h) (Or.inl ⟨by rfl, ?_⟩) hHeld ?_
                          rotate_left
                          · (intro w hSw; obtain ⟨⟨a0, a1, a2, a3⟩, d0, d1, d2, d3⟩ := hSw; go_simp; try with_reducible rfl)
                          try simp only [Act.put, List.setIfInBounds_toArray, List.set_cons_zero, List.set_cons_succ, List.getElem_toArray, List.getElem_cons_zero, List.getElem_cons_succ]
                          refine wpAnyH_take (i := 23) (oi := _) (v := ?_) rfl (by kernel_rfl) (by kernel_rfl) (by kernel_rfl) (fun _ _ _ h => h) (Or.inl ⟨by rfl, ?_⟩) hHeld ?_
                          rotate_left
                          · (intro w hSw; obtain ⟨⟨a0, a1, a2, a3⟩, d0, d1, d2, d3⟩ := hSw; go_simp; try with_reducible rfl)
                          try simp only [Act.put, List.setIfInBounds_toArray, List.set_cons_zero, List.set_cons_succ, List.getElem_toArray, List.getElem_cons_zero, List.getElem_cons_succ]
                          refine wpAnyH_take (i := 26) (oi := _) (v := ?_) rfl (by kernel_rfl) (by kernel_rfl) (by kernel_rfl) (fun _ _ _ h => h) (Or.inl ⟨by rfl, ?_⟩) hHeld ?_
                          rotate_left
                          · (intro w hSw; obtain ⟨⟨a0, a1, a2, a3⟩, d0, d1, d2, d3⟩ := hSw; go_simp; try with_reducible rfl)
                          try simp only [Act.put, List.setIfInBounds_toArray, List.set_cons_zero, List.set_cons_succ, List.getElem_toArray, List.getElem_cons_zero, List.getElem_cons_succ]
                          refine wpAnyH_take (i := 27) (oi := _) (v := ?_) rfl (by kernel_rfl) (by kernel_rfl) (by kernel_rfl) (fun _ _ _ h => h) (Or.inl ⟨by rfl, ?_⟩) hHeld ?_
                          rotate_left
                          · (intro w hSw; obtain ⟨⟨a0, a1, a2, a3⟩, d0, d1, d2, d3⟩ := hSw; go_simp; try with_reducible rfl)
                          try simp only [Act.put, List.setIfInBounds_toArray, List.set_cons_zero, List.set_cons_succ, List.getElem_toArray, List.getElem_cons_zero, List.getElem_cons_succ]
                          exact H10 b1 b4 b6 b11 b14 b17 Y ⟨HG0.out, E1.out.trans (HY.out.mono E1.out.size)⟩
                      case tail =>
                        intro b1 b4 b6 b11 b14 b17 W hF
                        obtain ⟨f0, f1⟩ := hF
                        have hHeld := f0
                        refine wpAnyH_ready (rs := [24, 28]) (by kernel_rfl) (by simp) ?_
                        refine AllReadyH.cons (o := _) rfl (fun K hK => ?_) (AllReadyH.cons (o := _) rfl (fun K hK => ?_) (AllReadyH.nil))
                        · skip
                          go_simp
                          have hy : Below W.heap.size W (W.alloc (Obj.cells #[.int .i64 3, .string ⟨#[97]⟩, .int .i64 0, .slice none 0 0, .int .i64 3, .string ⟨#[98]⟩, .int .i64 0, .slice none 0 0] 27 (0, 0))) := (Below.refl _ _).alloc (Nat.le_refl _) _
                          have hnew : Sl7 W.heap.size 2 [k7a, k7b] (W.alloc (Obj.cells #[.int .i64 3, .string ⟨#[97]⟩, .int .i64 0, .slice none 0 0, .int .i64 3, .string ⟨#[98]⟩, .int .i64 0, .slice none 0 0] 27 (0, 0))) := sl7_two (a := k7a) (b := k7b) (k7_inn (by decide)) (k7_inn (by decide))
                          obtain ⟨b24, hb24⟩ : ∃ b, W.heap.size = b := ⟨_, rfl⟩
                          obtain ⟨Y, hY⟩ : ∃ Y, (W.alloc (Obj.cells #[.int .i64 3, .string ⟨#[97]⟩, .int .i64 0, .slice none 0 0, .int .i64 3, .string ⟨#[98]⟩, .int .i64 0, .slice none 0 0] 27 (0, 0))) = Y := ⟨_, rfl⟩
                          rw [hY] at hy hnew
                          rw [hb24] at hnew
                          have g0 := f0.nx hy
                          simp only [hY, hb24]
                          refine hK.out _ _ (g0) (fun hHeld => ?_)
                          clear hK K
                          try simp only [Act.put, List.setIfInBounds_toArray, List.set_cons_zero, List.set_cons_succ, List.getElem_toArray, List.getElem_cons_zero, List.getElem_cons_succ]
                          exact H9 b1 b4 b6 b11 b14 b17 b24 Y ⟨g0, f1.trans (hy.mono f1.size), hnew⟩
                        · skip
                          go_simp
                          have hy : Below W.heap.size W (W.alloc (Obj.cells #[.int .i64 3, .string ⟨#[98]⟩, .int .i64 0, .slice none 0 0, .int .i64 3, .string ⟨#[97]⟩, .int .i64 0, .slice none 0 0] 27 (0, 0))) := (Below.refl _ _).alloc (Nat.le_refl _) _
                          have hnew : Sl7 W.heap.size 2 [k7b, k7a] (W.alloc (Obj.cells #[.int .i64 3, .string ⟨#[98]⟩, .int .i64 0, .slice none 0 0, .int .i64 3, .string ⟨#[97]⟩, .int .i64 0, .slice none 0 0] 27 (0, 0))) := sl7_two (a := k7b) (b := k7a) (k7_inn (by decide)) (k7_inn (by decide))
                          obtain ⟨b28, hb28⟩ : ∃ b, W.heap.size = b := ⟨_, rfl⟩
                          obtain ⟨Y, hY⟩ : ∃ Y, (W.alloc (Obj.cells #[.int .i64 3, .string ⟨#[98]⟩, .int .i64 0, .slice none 0 0, .int .i64 3, .string ⟨#[97]⟩, .int .i64 0, .slice none 0 0] 27 (0, 0))) = Y := ⟨_, rfl⟩
                          rw [hY] at hy hnew
                          rw [hb28] at hnew
                          have g0 := f0.nx hy
                          simp only [hY, hb28]
                          refine hK.out _ _ (g0) (fun hHeld => ?_)
                          clear hK K
                          try simp only [Act.put, List.setIfInBounds_toArray, List.set_cons_zero, List.set_cons_succ, List.getElem_toArray, List.getElem_cons_zero, List.getElem_cons_succ]
                          exact H8 b1 b4 b6 b11 b14 b17 b28 Y ⟨g0, f1.trans (hy.mono f1.size), hnew⟩
                    case tail =>
                      intro b1 b4 b6 b11 b14 b17 b24 W hF
                      obtain ⟨f0, f1, f2⟩ := hF
                      have hHeld := f0
                      refine wpAnyH_ready (rs := [25, 28]) (by kernel_rfl) (by simp) ?_
                      refine AllReadyH.cons (o := _) rfl (fun K hK => ?_) (AllReadyH.cons (o := _) rfl (fun K hK => ?_) (AllReadyH.nil))
                      · skip
                        go_simp
                        refine (fun7 ⟨#[102]⟩ _ _ _ _).mono ?_
                        rintro e Y ⟨rfl, hy⟩
                        have g0 := f0.nx hy
                        have HG0 := Lib.hid g0
                        have HY := Lib.hid hy
                        have E0 := Lib.hid f0
                        have E1 := Lib.hid f1
                        have E2 := Lib.hid f2
                        clear hy g0 f0 f1 f2 hHeld
                        go_wp2_with fail
                        refine hK.out _ _ (HG0.out) (fun hHeld => ?_)
                        clear hK K
                        try simp only [Act.put, List.setIfInBounds_toArray, List.set_cons_zero, List.set_cons_succ, List.getElem_toArray, List.getElem_cons_zero, List.getElem_cons_succ]
                        exact H7 b1 b4 b6 b11 b14 b17 b24 Y ⟨HG0.out, E1.out.trans (HY.out.mono E1.out.size), E2.out.nx HY.out⟩
                      · skip
                        go_simp
                        have hy : Below W.heap.size W (W.alloc (Obj.cells #[.int .i64 3, .string ⟨#[98]⟩, .int .i64 0, .slice none 0 0, .int .i64 3, .string ⟨#[97]⟩, .int .i64 0, .slice none 0 0] 27 (0, 0))) := (Below.refl _ _).alloc (Nat.le_refl _) _
                        have hnew : Sl7 W.heap.size 2 [k7b, k7a] (W.alloc (Obj.cells #[.int .i64 3, .string ⟨#[98]⟩, .int .i64 0, .slice none 0 0, .int .i64 3, .string ⟨#[97]⟩, .int .i64 0, .slice none 0 0] 27 (0, 0))) := sl7_two (a := k7b) (b := k7a) (k7_inn (by decide)) (k7_inn (by decide))
                        obtain ⟨b28, hb28⟩ : ∃ b, W.heap.size = b := ⟨_, rfl⟩
                        obtain ⟨Y, hY⟩ : ∃ Y, (W.alloc (Obj.cells #[.int .i64 3, .string ⟨#[98]⟩, .int .i64 0, .slice none 0 0, .int .i64 3, .string ⟨#[97]⟩, .int .i64 0, .slice none 0 0] 27 (0, 0))) = Y := ⟨_, rfl⟩
                        rw [hY] at hy hnew
                        rw [hb28] at hnew
                        have g0 := f0.nx hy
                        simp only [hY, hb28]
                        refine hK.out _ _ (g0) (fun hHeld => ?_)
                        clear hK K
                        try simp only [Act.put, List.setIfInBounds_toArray, List.set_cons_zero, List.set_cons_succ, List.getElem_toArray, List.getElem_cons_zero, List.getElem_cons_succ]
                        exact H6 b1 b4 b6 b11 b14 b17 b24 b28 Y ⟨g0, f1.trans (hy.mono f1.size), f2.nx hy, hnew⟩
                  case tail =>
                    intro b1 b4 b6 b11 b14 b17 b28 W hF
                    obtain ⟨f0, f1, f2⟩ := hF
                    have hHeld := f0
                    refine wpAnyH_ready (rs := [24]) (by kernel_rfl) (by simp) ?_
                    refine AllReadyH.cons (o := _) rfl (fun K hK => ?_) (AllReadyH.nil)
                    go_simp
                    have hy : Below W.heap.size W (W.alloc (Obj.cells #[.int .i64 3, .string ⟨#[97]⟩, .int .i64 0, .slice none 0 0, .int .i64 3, .string ⟨#[98]⟩, .int .i64 0, .slice none 0 0] 27 (0, 0))) := (Below.refl _ _).alloc (Nat.le_refl _) _
                    have hnew : Sl7 W.heap.size 2 [k7a, k7b] (W.alloc (Obj.cells #[.int .i64 3, .string ⟨#[97]⟩, .int .i64 0, .slice none 0 0, .int .i64 3, .string ⟨#[98]⟩, .int .i64 0, .slice none 0 0] 27 (0, 0))) := sl7_two (a := k7a) (b := k7b) (k7_inn (by decide)) (k7_inn (by decide))
                    obtain ⟨b24, hb24⟩ : ∃ b, W.heap.size = b := ⟨_, rfl⟩
                    obtain ⟨Y, hY⟩ : ∃ Y, (W.alloc (Obj.cells #[.int .i64 3, .string ⟨#[97]⟩, .int .i64 0, .slice none 0 0, .int .i64 3, .string ⟨#[98]⟩, .int .i64 0, .slice none 0 0] 27 (0, 0))) = Y := ⟨_, rfl⟩
                    rw [hY] at hy hnew
                    rw [hb24] at hnew
                    have g0 := f0.nx hy
                    simp only [hY, hb24]
                    refine hK.out _ _ (g0) (fun hHeld => ?_)
                    clear hK K
                    try simp only [Act.put, List.setIfInBounds_toArray, List.set_cons_zero, List.set_cons_succ, List.getElem_toArray, List.getElem_cons_zero, List.getElem_cons_succ]
                    exact H6 b1 b4 b6 b11 b14 b17 b24 b28 Y ⟨g0, f1.trans (hy.mono f1.size), hnew, f2.nx hy⟩
                case tail =>
                  intro b1 b4 b6 b11 b14 b17 b24 W hF
                  obtain ⟨f0, f1, f2⟩ := hF
                  have hHeld := f0
                  refine wpAnyH_ready (rs := [28]) (by kernel_rfl) (by simp) ?_
                  refine AllReadyH.cons (o := _) rfl (fun K hK => ?_) (AllReadyH.nil)
                  go_simp
                  have hy : Below W.heap.size W (W.alloc (Obj.cells #[.int .i64 3, .string ⟨#[98]⟩, .int .i64 0, .slice none 0 0, .int .i64 3, .string ⟨#[97]⟩, .int .i64 0, .slice none 0 0] 27 (0, 0))) := (Below.refl _ _).alloc (Nat.le_refl _) _
                  have hnew : Sl7 W.heap.size 2 [k7b, k7a] (W.alloc (Obj.cells #[.int .i64 3, .string ⟨#[98]⟩, .int .i64 0, .slice none 0 0, .int .i64 3, .string ⟨#[97]⟩, .int .i64 0, .slice none 0 0] 27 (0, 0))) := sl7_two (a := k7b) (b := k7a) (k7_inn (by decide)) (k7_inn (by decide))
                  obtain ⟨b28, hb28⟩ : ∃ b, W.heap.size = b := ⟨_, rfl⟩
                  obtain ⟨Y, hY⟩ : ∃ Y, (W.alloc (Obj.cells #[.int .i64 3, .string ⟨#[98]⟩, .int .i64 0, .slice none 0 0, .int .i64 3, .string ⟨#[97]⟩, .int .i64 0, .slice none 0 0] 27 (0, 0))) = Y := ⟨_, rfl⟩
                  rw [hY] at hy hnew
                  rw [hb28] at hnew
                  have g0 := f0.nx hy
                  simp only [hY, hb28]
                  refine hK.out _ _ (g0) (fun hHeld => ?_)
                  clear hK K
                  try simp only [Act.put, List.setIfInBounds_toArray, List.set_cons_zero, List.set_cons_succ, List.getElem_toArray, List.getElem_cons_zero, List.getElem_cons_succ]
                  exact H5 b1 b4 b6 b11 b14 b17 b24 b28 Y ⟨g0, f1.trans (hy.mono f1.size), f2.nx hy, hnew⟩
              case tail =>
                intro b1 b4 b6 b11 b14 b17 b24 b28 W hF
                obtain ⟨f0, f1, f2, f3⟩ := hF
                have hHeld := f0
                refine wpAnyH_ready (rs := [25]) (by kernel_rfl) (by simp) ?_
                refine AllReadyH.cons (o := _) rfl (fun K hK => ?_) (AllReadyH.nil)
                go_simp
                refine (fun7 ⟨#[102]⟩ _ _ _ _).mono ?_
                rintro e Y ⟨rfl, hy⟩
                have g0 := f0.nx hy
                have HG0 := Lib.hid g0
                have HY := Lib.hid hy
                have E0 := Lib.hid f0
                have E1 := Lib.hid f1
                have E2 := Lib.hid f2
                have E3 := Lib.hid f3
                clear hy g0 f0 f1 f2 f3 hHeld
                go_wp2_with fail
                refine hK.out _ _ (HG0.out) (fun hHeld => ?_)
                clear hK K
                try simp only [Act.put, List.setIfInBounds_toArray, List.set_cons_zero, List.set_cons_succ, List.getElem_toArray, List.getElem_cons_zero, List.getElem_cons_succ]
                exact H5 b1 b4 b6 b11 b14 b17 b24 b28 Y ⟨HG0.out, E1.out.trans (HY.out.mono E1.out.size), E2.out.nx HY.out, E3.out.nx HY.out⟩
            case tail =>
              intro b1 b4 b6 b11 b14 b17 b24 b28 W hF
              obtain ⟨f0, f1, f2, f3⟩ := hF
              have hHeld := f0
              refine wpAnyH_ready (rs := [29]) (by kernel_rfl) (by simp) ?_
              refine AllReadyH.cons (o := _) rfl (fun K hK => ?_) (AllReadyH.nil)
              go_simp
              refine (fun7 ⟨#[102]⟩ _ _ _ _).mono ?_
              rintro e Y ⟨rfl, hy⟩
              have g0 := f0.nx hy
              have HG0 := Lib.hid g0
              have HY := Lib.hid hy
              have E0 := Lib.hid f0
              have E1 := Lib.hid f1
              have E2 := Lib.hid f2
              have E3 := Lib.hid f3
              clear hy g0 f0 f1 f2 f3 hHeld
              go_wp2_with fail
              refine hK.out _ _ (HG0.out) (fun hHeld => ?_)
              clear hK K
              try simp only [Act.put, List.setIfInBounds_toArray, List.set_cons_zero, List.set_cons_succ, List.getElem_toArray, List.getElem_cons_zero, List.getElem_cons_succ]
              exact H4 b1 b4 b6 b11 b14 b17 b24 b28 Y ⟨HG0.out, E1.out.trans (HY.out.mono E1.out.size), E2.out.nx HY.out, E3.out.nx HY.out⟩
          case tail =>
            intro b1 b4 b6 b11 b14 b17 b24 b28 W hF
            obtain ⟨f0, f1, f2, f3⟩ := hF
            have hHeld := f0
            refine wpAnyH_ready (rs := [30]) (by kernel_rfl) (by simp) ?_
            refine AllReadyH.cons (o := _) rfl (fun K hK => ?_) (AllReadyH.nil)
            go_simp
            refine (in_is (a := k7fab) (b := k7fba) k7_in3 _ _ _ (fun7_inn (by decide) f2) (fun7_inn (by decide) f3) (by decide) (by decide)).mono ?_
            rintro e Y ⟨rfl, hy⟩
            have g0 := f0.nx hy
            have HG0 := Lib.hid g0
            have HY := Lib.hid hy
            have E0 := Lib.hid f0
            have E1 := Lib.hid f1
            have E2 := Lib.hid f2
            have E3 := Lib.hid f3
            clear hy g0 f0 f1 f2 f3 hHeld
            go_wp2_with fail
            refine hK.out _ _ (HG0.out) (fun hHeld => ?_)
            clear hK K
            try simp only [Act.put, List.setIfInBounds_toArray, List.set_cons_zero, List.set_cons_succ, List.getElem_toArray, List.getElem_cons_zero, List.getElem_cons_succ]
            refine wpAnyH_take (i := 31) (oi := _) (v := ?_) rfl (by kernel_rfl) (by kernel_rfl) (by kernel_rfl) (fun _ _ _ h => h) (Or.inl ⟨by rfl, ?_⟩) hHeld ?_
            rotate_left
            · (intro w hSw; obtain ⟨⟨a0, a1, a2, a3⟩, d0, d1, d2, d3⟩ := hSw; go_simp; try with_reducible rfl)
            try simp only [Act.put, List.setIfInBounds_toArray, List.set_cons_zero, List.set_cons_succ, List.getElem_toArray, List.getElem_cons_zero, List.getElem_cons_succ]
            refine wpAnyH_take (i := 32) (oi := _) (v := ?_) rfl (by kernel_rfl) (by kernel_rfl) (by kernel_rfl) (fun _ _ _ h => h) (Or.inl ⟨by rfl, ?_⟩) hHeld ?_
            rotate_left
            · (intro w hSw; obtain ⟨⟨a0, a1, a2, a3⟩, d0, d1, d2, d3⟩ := hSw; go_simp; try with_reducible rfl)
            try simp only [Act.put, List.setIfInBounds_toArray, List.set_cons_zero, List.set_cons_succ, List.getElem_toArray, List.getElem_cons_zero, List.getElem_cons_succ]
            refine wpAnyH_take (i := 33) (oi := _) (v := ?_) rfl (by kernel_rfl) (by kernel_rfl) (by kernel_rfl) (fun _ _ _ h => h) (Or.inl ⟨by rfl, ?_⟩) hHeld ?_
            rotate_left
            · (intro w hSw; obtain ⟨⟨a0, a1, a2, a3⟩, d0, d1, d2, d3⟩ := hSw; go_simp; try with_reducible rfl)
            try simp only [Act.put, List.setIfInBounds_toArray, List.set_cons_zero, List.set_cons_succ, List.getElem_toArray, List.getElem_cons_zero, List.getElem_cons_succ]
            refine wpAnyH_take (i := 34) (oi := _) (v := ?_) rfl (by kernel_rfl) (by kernel_rfl) (by kernel_rfl) (fun _ _ _ h => h) (Or.inl ⟨by rfl, ?_⟩) hHeld ?_
            rotate_left
            · (intro w hSw; obtain ⟨⟨a0, a1, a2, a3⟩, d0, d1, d2, d3⟩ := hSw; go_simp; try with_reducible rfl)
            try simp only [Act.put, List.setIfInBounds_toArray, List.set_cons_zero, List.set_cons_succ, List.getElem_toArray, List.getElem_cons_zero, List.getElem_cons_succ]
            refine wpAnyH_take (i := 35) (oi := _) (v := ?_) rfl (by kernel_rfl) (by kernel_rfl) (by kernel_rfl) (fun _ _ _ h => h) (Or.inl ⟨by rfl, ?_⟩) hHeld ?_
            rotate_left
            · (intro w hSw; obtain ⟨⟨a0, a1, a2, a3⟩, d0, d1, d2, d3⟩ := hSw; go_simp; try with_reducible rfl)
            try simp only [Act.put, List.setIfInBounds_toArray, List.set_cons_zero, List.set_cons_succ, List.getElem_toArray, List.getElem_cons_zero, List.getElem_cons_succ]
            refine wpAnyH_take (i := 36) (oi := _) (v := ?_) rfl (by kernel_rfl) (by kernel_rfl) (by kernel_rfl) (fun _ _ _ h => h) (Or.inl ⟨by rfl, ?_⟩) hHeld ?_
            rotate_left
            · (intro w hSw; obtain ⟨⟨a0, a1, a2, a3⟩, d0, d1, d2, d3⟩ := hSw; go_simp; try with_reducible rfl)
            try simp only [Act.put, List.setIfInBounds_toArray, List.set_cons_zero, List.set_cons_succ, List.getElem_toArray, List.getElem_cons_zero, List.getElem_cons_succ]
            refine wpAnyH_take (i := 38) (oi := _) (v := ?_) rfl (by kernel_rfl) (by kernel_rfl) (by kernel_rfl) (fun _ _ _ h => h) (Or.inl ⟨by rfl, ?_⟩) hHeld ?_
            rotate_left
            · (intro w hSw; obtain ⟨⟨a0, a1, a2, a3⟩, d0, d1, d2, d3⟩ := hSw; go_simp; try with_reducible rfl)
            try simp only [Act.put, List.setIfInBounds_toArray, List.set_cons_zero, List.set_cons_succ, List.getElem_toArray, List.getElem_cons_zero, List.getElem_cons_succ]
            exact H3 b1 b4 b6 b11 b14 b17 b24 b28 Y ⟨HG0.out, E1.out.trans (HY.out.mono E1.out.size)⟩
        case tail =>
          intro b1 b4 b6 b11 b14 b17 b24 b28 W hF
          obtain ⟨f0, f1⟩ := hF
          have hHeld := f0
          refine wpAnyH_ready (rs := [37]) (by kernel_rfl) (by simp) ?_
          refine AllReadyH.cons (o := _) rfl (fun K hK => ?_) (AllReadyH.nil)
          go_simp
          have hy : Below W.heap.size W (W.alloc (Obj.cells #[.int .i64 3, .string ⟨#[97]⟩, .int .i64 0, .slice none 0 0, .int .i64 3, .string ⟨#[97]⟩, .int .i64 0, .slice none 0 0, .int .i64 3, .string ⟨#[98]⟩, .int .i64 0, .slice none 0 0] 27 (0, 0))) := (Below.refl _ _).alloc (Nat.le_refl _) _
          have hnew : Sl7 W.heap.size 3 [k7a, k7a, k7b] (W.alloc (Obj.cells #[.int .i64 3, .string ⟨#[97]⟩, .int .i64 0, .slice none 0 0, .int .i64 3, .string ⟨#[97]⟩, .int .i64 0, .slice none 0 0, .int .i64 3, .string ⟨#[98]⟩, .int .i64 0, .slice none 0 0] 27 (0, 0))) := sl7_three (a := k7a) (b := k7a) (c := k7b) (k7_inn (by decide)) (k7_inn (by decide)) (k7_inn (by decide))
          obtain ⟨b37, hb37⟩ : ∃ b, W.heap.size = b := ⟨_, rfl⟩
          obtain ⟨Y, hY⟩ : ∃ Y, (W.alloc (Obj.cells #[.int .i64 3, .string ⟨#[97]⟩, .int .i64 0, .slice none 0 0, .int .i64 3, .string ⟨#[97]⟩, .int .i64 0, .slice none 0 0, .int .i64 3, .string ⟨#[98]⟩, .int .i64 0, .slice none 0 0] 27 (0, 0))) = Y := ⟨_, rfl⟩
          rw [hY] at hy hnew
          rw [hb37] at hnew
          have g0 := f0.nx hy
          simp only [hY, hb37]
          refine hK.out _ _ (g0) (fun hHeld => ?_)
          clear hK K
          try simp only [Act.put, List.setIfInBounds_toArray, List.set_cons_zero, List.set_cons_succ, List.getElem_toArray, List.getElem_cons_zero, List.getElem_cons_succ]
          exact H2 b1 b4 b6 b11 b14 b17 b24 b28 b37 Y ⟨g0, f1.trans (hy.mono f1.size), hnew⟩
      case tail =>
        intro b1 b4 b6 b11 b14 b17 b24 b28 b37 W hF
        obtain ⟨f0, f1, f2⟩ := hF
        have hHeld := f0
        refine wpAnyH_ready (rs := [39]) (by kernel_rfl) (by simp) ?_
        refine AllReadyH.cons (o := _) rfl (fun K hK => ?_) (AllReadyH.nil)
        go_simp
        refine (wh_is (ts := [k7a, k7a, k7b]) (t := k7a) k7_wh1 _ _ _ f2 (k7_inn (by decide)) k7_few (by decide) (by decide)).mono ?_
        rintro e Y ⟨rfl, hy⟩
        have g0 := f0.nx hy
        have HG0 := Lib.hid g0
        have HY := Lib.hid hy
        have E0 := Lib.hid f0
        have E1 := Lib.hid f1
        have E2 := Lib.hid f2
        clear hy g0 f0 f1 f2 hHeld
        go_wp2_with fail
        refine hK.out _ _ (HG0.out) (fun hHeld => ?_)
        clear hK K
        try simp only [Act.put, List.setIfInBounds_toArray, List.set_cons_zero, List.set_cons_succ, List.getElem_toArray, List.getElem_cons_zero, List.getElem_cons_succ]
        refine wpAnyH_take (i := 40) (oi := _) (v := ?_) rfl (by kernel_rfl) (by kernel_rfl) (by kernel_rfl) (fun _ _ _ h => h) (Or.inl ⟨by rfl, ?_⟩) hHeld ?_
        rotate_left
        · (intro w hSw; obtain ⟨⟨a0, a1, a2, a3⟩, d0, d1, d2, d3⟩ := hSw; go_simp; try with_reducible rfl)
        try simp only [Act.put, List.setIfInBounds_toArray, List.set_cons_zero, List.set_cons_succ, List.getElem_toArray, List.getElem_cons_zero, List.getElem_cons_succ]
        refine wpAnyH_take (i := 41) (oi := _) (v := ?_) rfl (by kernel_rfl) (by kernel_rfl) (by kernel_rfl) (fun _ _ _ h => h) (Or.inl ⟨by rfl, ?_⟩) hHeld ?_
        rotate_left
        · (intro w hSw; obtain ⟨⟨a0, a1, a2, a3⟩, d0, d1, d2, d3⟩ := hSw; go_simp; try with_reducible rfl)
        try simp only [Act.put, List.setIfInBounds_toArray, List.set_cons_zero, List.set_cons_succ, List.getElem_toArray, List.getElem_cons_zero, List.getElem_cons_succ]
        refine wpAnyH_take (i := 42) (oi := _) (v := ?_) rfl (by kernel_rfl) (by kernel_rfl) (by kernel_rfl) (fun _ _ _ h => h) (Or.inl ⟨by rfl, ?_⟩) hHeld ?_
        rotate_left
        · (intro w hSw; obtain ⟨⟨a0, a1, a2, a3⟩, d0, d1, d2, d3⟩ := hSw; go_simp; try with_reducible rfl)
        try simp only [Act.put, List.setIfInBounds_toArray, List.set_cons_zero, List.set_cons_succ, List.getElem_toArray, List.getElem_cons_zero, List.getElem_cons_succ]
        refine wpAnyH_take (i := 43) (oi := _) (v := ?_) rfl (by kernel_rfl) (by kernel_rfl) (by kernel_rfl) (fun _ _ _ h => h) (Or.inl ⟨by rfl, ?_⟩) hHeld ?_
        rotate_left
        · (intro w hSw; obtain ⟨⟨a0, a1, a2, a3⟩, d0, d1, d2, d3⟩ := hSw; go_simp; try with_reducible rfl)
        try simp only [Act.put, List.setIfInBounds_toArray, List.set_cons_zero, List.set_cons_succ, List.getElem_toArray, List.getElem_cons_zero, List.getElem_cons_succ]
        exact H1 b1 b4 b6 b11 b14 b17 b24 b28 b37 Y ⟨HG0.out, E1.out.trans (HY.out.mono E1.out.size)⟩
    case tail =>
      intro b1 b4 b6 b11 b14 b17 b24 b28 b37 W hF
      obtain ⟨f0, f1⟩ := hF
      have hHeld := f0
      refine wpAnyH_ready (rs := [44]) (by kernel_rfl) (by simp) ?_
      refine AllReadyH.cons (o := _) rfl (fun K hK => ?_) (AllReadyH.nil)
      go_simp
      refine (wh_is (ts := []) (t := k7a) k7_wh2 _ _ _ nil7_in (k7_inn (by decide)) (fun t ht => by cases ht) (by decide) (by decide)).mono ?_
      rintro e Y ⟨rfl, hy⟩
      have g0 := f0.nx hy
      have HG0 := Lib.hid g0
      have HY := Lib.hid hy
      have E0 := Lib.hid f0
      have E1 := Lib.hid f1
      clear hy g0 f0 f1 hHeld
      go_wp2_with fail
      refine hK.out _ _ (HG0.out) (fun hHeld => ?_)
      clear hK K
      try simp only [Act.put, List.setIfInBounds_toArray, List.set_cons_zero, List.set_cons_succ, List.getElem_toArray, List.getElem_cons_zero, List.getElem_cons_succ]
      refine wpAnyH_take (i := 45) (oi := _) (v := ?_) rfl (by kernel_rfl) (by kernel_rfl) (by kernel_rfl) (fun _ _ _ h => h) (Or.inl ⟨by rfl, ?_⟩) hHeld ?_
      rotate_left
      · (intro w hSw; obtain ⟨⟨a0, a1, a2, a3⟩, d0, d1, d2, d3⟩ := hSw; go_simp; try with_reducible rfl)
      try simp only [Act.put, List.setIfInBounds_toArray, List.set_cons_zero, List.set_cons_succ, List.getElem_toArray, List.getElem_cons_zero, List.getElem_cons_succ]
      refine wpAnyH_take (i := 46) (oi := _) (v := ?_) rfl (by kernel_rfl) (by kernel_rfl) (by kernel_rfl) (fun _ _ _ h => h) (Or.inl ⟨by rfl, ?_⟩) hHeld ?_
      rotate_left
      · (intro w hSw; obtain ⟨⟨a0, a1, a2, a3⟩, d0, d1, d2, d3⟩ := hSw; go_simp; try with_reducible rfl)
      try simp only [Act.put, List.setIfInBounds_toArray, List.set_cons_zero, List.set_cons_succ, List.getElem_toArray, List.getElem_cons_zero, List.getElem_cons_succ]
      exact H0 b1 b4 b6 b11 b14 b17 b24 b28 b37 Y ⟨HG0.out, E1.out.trans (HY.out.mono E1.out.size)⟩
  case tail =>
    intro b1 b4 b6 b11 b14 b17 b24 b28 b37 W hF
    obtain ⟨f0, f1⟩ := hF
    have hHeld := f0
    refine wpAnyH_ready (rs := [47]) (by kernel_rfl) (by simp) ?_
    refine AllReadyH.cons (o := _) rfl (fun K hK => ?_) AllReadyH.nil
    go_simp
    refine hK.out _ _ (hHeld) (fun hHeld => ?_)
    clear hK K
    try simp only [Act.put, List.setIfInBounds_toArray, List.set_cons_zero, List.set_cons_succ, List.getElem_toArray, List.getElem_cons_zero, List.getElem_cons_succ]
    refine wpAnyH_done (by kernel_rfl) ?_ _
    go_wp2_with fail
    go_ret
    exact ⟨rfl, f1⟩
end Go.Proofs.Ytomdccejgmhfoaa
