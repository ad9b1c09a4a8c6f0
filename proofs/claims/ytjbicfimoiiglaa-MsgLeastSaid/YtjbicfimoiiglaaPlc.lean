/-
  The program's places: where each variable is bound, in a map.
-/
import Derived.Test.YtjbicfimoiiglaaBds
import Derived.Test.YtjbicfimoiiglaaKahn
import Derived.Test.YtjbicfimoiiglaaNumber
import Derived.Test.YtjbicfimoiiglaaBox
import Derived.Maps.OwnOps
import Derived.Maps.OwnSet
namespace Go.Proofs.Ytjbicfimoiiglaa
open Go.RowKit Go.Shelf Go.Maps

theorem numD_size_all (vs : List Int) : ∀ k, k ≤ vs.length → Maps.size (numD vs k) ≤ k ∧ (Maps.size (numD vs k) = k → (vs.take k).Nodup)
  | 0, _ => ⟨Nat.le_refl _, fun _ => by simp⟩
  | k + 1, hk => by
    have hlt : k < vs.length := by omega
    obtain ⟨ih1, ih2⟩ := numD_size_all vs k (by omega)
    have hg : vs.getD k 0 = vs[k] := by simp [List.getD, hlt]
    simp only [numD, hg]
    rw [size_put (numD_tidy vs k), numD_has vs _ k (by omega)]
    by_cases hm : vs[k] ∈ vs.take k
    · simp only [hm, decide_true, if_true]
      exact ⟨by omega, fun h => by omega⟩
    · simp only [hm, decide_false]
      refine ⟨by simp; omega, fun h => ?_⟩
      rw [List.take_succ_eq_append_getElem hlt]
      refine List.nodup_append.2 ⟨ih2 (by simp at h; omega), by simp, fun a ha b hb e => ?_⟩
      simp at hb
      subst hb; subst e
      exact hm ha
def vsB (l : List Bd) : List Int := l.map Bd.v
theorem vsB_length (l : List Bd) : (vsB l).length = l.length := by simp [vsB]
theorem place_nodup {l : List Bd} (hn : (vsB l).Nodup) {i : Nat} (hi : i < l.length) : place l l[i].v = some i :=
  place_is hi rfl fun j hj e => by
    have h1 : (vsB l)[j]'(by rw [vsB_length]; omega) = (vsB l)[i]'(by rw [vsB_length]; exact hi) := by simp [vsB, e]
    have := (List.getElem_inj hn).1 h1
    omega
theorem nodup_place {l : List Bd} (h : okL l) : (vsB l).Nodup := by
  refine List.pairwise_iff_getElem.2 fun i j hi hj hij e => ?_
  rw [vsB_length] at hi hj
  simp only [vsB, List.getElem_map] at e
  have h1 := (h i hi).2.2.1
  have h2 := (h j hj).2.2.1
  rw [e, h2] at h1
  simp at h1
  omega
theorem at_has {l : List Bd} (v : Int) : has (numD (vsB l) l.length) (.int .i64 v) = (place l v).isSome := by
  have := numD_has (vsB l) v l.length (by rw [vsB_length]; exact Nat.le_refl _)
  rw [this, List.take_of_length_le (by rw [vsB_length]; exact Nat.le_refl _), Bool.eq_iff_iff]
  simp only [decide_eq_true_eq]
  cases hp : place l v with
  | none =>
    simp only [Option.isSome_none, Bool.false_eq_true, iff_false]
    intro hm
    obtain ⟨b, hb, e⟩ := List.mem_map.1 hm
    exact place_none.1 hp b hb e
  | some p =>
    obtain ⟨hl, h1, _⟩ := place_some hp
    simp only [Option.isSome_some, iff_true]
    exact List.mem_map.2 ⟨_, List.getElem_mem hl, h1⟩
theorem at_key {l : List Bd} (hn : (vsB l).Nodup) {v : Int} {p : Nat} (hp : place l v = some p) : (numD (vsB l) l.length).atKey (.int .i64 v) (.lit (.int .i64 0)) = .lit (.int .i64 (p : Int)) := by
  obtain ⟨hl, h1, _⟩ := place_some hp
  have hm : v ∈ vsB l := List.mem_map.2 ⟨_, List.getElem_mem hl, h1⟩
  rw [numD_at (vsB l) hn v l.length (by rw [vsB_length]; exact Nat.le_refl _), List.take_of_length_le (by rw [vsB_length]; exact Nat.le_refl _), if_pos hm]
  have hg : (vsB l)[p]'(by rw [vsB_length]; exact hl) = v := by simp [vsB, h1]
  have := List.Nodup.idxOf_getElem hn p (by rw [vsB_length]; exact hl)
  rw [hg] at this
  rw [this]

/-- The map of places. -/
def AtMap (l : List Bd) (m : Nat) (W : World) : Prop := W.ownsMap Try.prog 3 (plainElem (H := Unit) Try.prog 3) m l.length (numD (vsB l) l.length)
/-- What places tells. -/
def PlacesPost (l : List Bd) (w : World) (e : Ending) (w' : World) : Prop :=
  Below w.heap.size w w' ∧ ((¬ okL l ∧ ∃ mv, e = .returned (.tuple #[.map mv, .bool false])) ∨ (okL l ∧ ∃ m, e = .returned (.tuple #[.map (some m), .bool true]) ∧ AtMap l m w'))
theorem not_ok {l : List Bd} {i : Nat} (hi : i < l.length) (h : ¬ (0 ≤ l[i].v ∧ l[i].v < 1000000 ∧ l[i].t.right = true)) : ¬ okL l := fun ho => h ⟨(ho i hi).1, (ho i hi).2.1, (ho i hi).2.2.2⟩

set_option maxRecDepth 100000 in
set_option maxHeartbeats 4000000 in
theorem places_any (l : List Bd) (w : World) (sv : Value) (hsl : bdsIn w w.heap.size l sv) (hmax : l.length ≤ 1000) (hsz : szB l ≤ 1000000) :
    Calls Try.prog 73 #[sv] w fun e w' => PlacesPost l w e w' := by
  have hsl0 := hsl
  obtain ⟨g, cap, rfl, hcap, hlen, hwf, _⟩ := hsl0
  have HSL := Lib.hid hsl
  have HSZ := Lib.hid hsz
  have HWF := Lib.hid hwf
  have hmm := @run_makeMap Try.prog
  clear hsl hsz hwf
  go_enter Try.func73, Try.ntmps73
  go_wp2_with fail
  go_loopw [5, 6, 10] (fun _ _ i wr => ∃ k : Nat, k ≤ l.length ∧ i = .int .i64 k ∧ Hid (∀ j (h : j < l.length), j < k → 0 ≤ l[j].v ∧ l[j].v < 1000000 ∧ l[j].t.right = true) ∧ Hid (wr.ownsMap Try.prog 3 (plainElem (H := Unit) Try.prog 3) w.heap.size k (numD (vsB l) k)) ∧ Hid (Below w.heap.size w wr) ∧ w.heap.size + 1 ≤ wr.heap.size) (fun _ _ i _ => l.length - (intOf i).toNat)
  case atStart => exact ⟨0, Nat.zero_le _, rfl, fun j _ h => by omega, World.ownsMap_made w Try.prog 3 (plainElem (H := Unit) Try.prog 3), (Below.refl _ _).alloc (Nat.le_refl _) _, by simp⟩
  case round =>
    obtain ⟨k, hk, rfl, hp, hmap, hb, hbs⟩ := hrel
    have HMAP := Lib.hid hmap.out
    have HB := Lib.hid hb.out
    clear hmap hb
    by_cases hlt : k < l.length
    · obtain ⟨b, off, sv, hg, hbB, g0, g1, g2, g3, g4, hin'⟩ := bdsIn_get (bdsIn_below HSL.out HB.out (Nat.le_refl _)) k hlt
      subst hg
      obtain ⟨_, ga, capa, rfl, _, _, _⟩ := Tm.inn_iff.1 hin'
      have hal : Below wr.heap.size wr (wr.alloc (.cells #[.int .i64 l[k].v, .int .i64 l[k].t.kind, .string l[k].t.name, .int .i64 l[k].t.n, .slice ga l[k].t.args.length capa] 49)) := (Below.refl _ _).alloc (Nat.le_refl _) _
      have hin2 := Tm.inn_mono (Tm.inn_below hin' hal (by omega)) (B' := (wr.alloc (.cells #[.int .i64 l[k].v, .int .i64 l[k].t.kind, .string l[k].t.name, .int .i64 l[k].t.n, .slice ga l[k].t.args.length capa] 49)).heap.size) (by simp; omega)
      have htr := Lib.hid (tright_any l[k].t _ _ hin2 (by have := szB_mem hlt; have := HSZ.out; omega))
      have hkw := Lib.hid (HWF.out _ (List.getElem_mem hlt))
      have hkm : k < maxLen := by unfold maxLen; omega
      have HIW := Lib.hid (show (Lit.int .i64 (k : Int)).wf = true from WalkArith.wf_i64 (by omega))
      have hno := Lib.hid (fun h => not_ok (l := l) hlt h)
      clear hin' hal hin2
      by_cases h0 : l[k].v < 0
      · go_wp2_with fail
        go_ret2
        exact ⟨HB.out.alloc (by omega) _, .inl ⟨hno.out fun h => by have := h.1; omega, none, rfl⟩⟩
      · by_cases h1 : 1000000 ≤ l[k].v
        · go_wp2_with fail
          go_ret2
          exact ⟨HB.out.alloc (by omega) _, .inl ⟨hno.out fun h => by have := h.2.1; omega, none, rfl⟩⟩
        · go_wp2_with fail
          refine htr.out.mono ?_
          rintro e w2 ⟨rfl, hb2⟩
          have hs2 : wr.heap.size + 1 ≤ w2.heap.size := by have := hb2.size; simpa using this
          have hx2 : w2.heap[wr.heap.size]? = some (Obj.cells #[.int .i64 l[k].v, .int .i64 l[k].t.kind, .string l[k].t.name, .int .i64 l[k].t.n, .slice ga l[k].t.args.length capa] 49 (0, 0)) := (hb2.block _ (by simp)).trans (newBlk _ _ _ rfl)
          obtain ⟨⟨d0, d1, d2, d3, d4⟩, _⟩ := row5 hx2
          have hmap2 : w2.ownsMap Try.prog 3 (plainElem (H := Unit) Try.prog 3) w.heap.size k (numD (vsB l) k) := by
            obtain ⟨es, ck, hm, r⟩ := HMAP.out.alloc (.cells #[.int .i64 l[k].v, .int .i64 l[k].t.kind, .string l[k].t.name, .int .i64 l[k].t.n, .slice ga l[k].t.args.length capa] 49)
            exact ⟨es, ck, (hb2.block _ (Array.getElem?_eq_some_iff.1 hm).1).trans hm, r⟩
          have HM2 := Lib.hid hmap2
          have HB2 := Lib.hid ((HB.out.alloc (by omega) _).trans (hb2.mono (by simp; omega)))
          clear hb2 hx2 hmap2 htr g0 g1 g2 g3 g4
          cases hq : l[k].t.right with
          | false =>
            have HQ := Lib.hid hq
            clear hq
            go_wp2_with fail
            go_ret2
            exact ⟨HB2.out, .inl ⟨hno.out (fun h => by have := h.2.2; rw [HQ.out] at this; cases this), none, rfl⟩⟩
          | true =>
            have HQ := Lib.hid hq
            clear hq
            go_wp2_with (at_mapUpdate; refine wpList_mapUpdate_own _ rfl _ _ _ 74 rfl 3 3 (Maps.int_keyed Try.underlying3) Try.underlying74 _ w.heap.size k _ rfl HM2.out hkm _ _ _ rfl rfl (Maps.keyOf_int_mk Try.underlying3 hkw.out) _ [] (plainElem_int Try.underlying3 HIW.out) ?_; intro w3 hown3 hgrow3)
            go_roundw
            case rel =>
              refine ⟨k + 1, by omega, by go_num, fun j hj hjk => ?_, ?_, HB2.out.grown hgrow3 (by omega) (fun j e => by cases e; omega), by have := hgrow3.size; omega⟩
              · by_cases hjj : j < k
                · exact hp.out j hj hjj
                · obtain rfl : j = k := by omega
                  exact ⟨by omega, by omega, HQ.out⟩
              · have hg : (vsB l).getD k 0 = l[k].v := by simp [vsB, List.getD, hlt]
                simp only [numD, hg]
                exact hown3
            case measure => simp [intOf]; omega
    · obtain rfl : k = l.length := by omega
      have hsa := numD_size_all (vsB l) l.length (by rw [vsB_length]; exact Nat.le_refl _)
      have htk : (vsB l).take l.length = vsB l := List.take_of_length_le (by rw [vsB_length]; exact Nat.le_refl _)
      rw [htk] at hsa
      obtain ⟨s, hs⟩ : ∃ s, Maps.size (numD (vsB l) l.length) = s := ⟨_, rfl⟩
      have hsl' : s ≤ l.length := by rw [← hs]; exact hsa.1
      have hok : okL l ↔ s = l.length := by
        constructor
        · intro ho
          rw [← hs]
          exact numD_size (vsB l) (nodup_place ho) l.length (by rw [vsB_length]; exact Nat.le_refl _)
        · intro he i hi
          have hn := hsa.2 (by rw [hs]; exact he)
          obtain ⟨h1, h2, h3⟩ := hp.out i hi hi
          exact ⟨h1, h2, place_nodup hn hi, h3⟩
      have hlen' := HMAP.out.len Try.underlying74
      rw [hs] at hlen'
      have HOK := Lib.hid hok
      clear hsa htk hok hs hp
      by_cases he : s = l.length
      · have HE := Lib.hid he
        have heb : ((s : Int) == (l.length : Int)) = true := by simp [he]
        clear he
        go_wp2_with fail
        go_ret2
        exact ⟨HB.out, .inr ⟨HOK.out.2 HE.out, w.heap.size, rfl, HMAP.out⟩⟩
      · have HE := Lib.hid he
        have heb : ((s : Int) == (l.length : Int)) = false := by simp; omega
        clear he
        go_wp2_with fail
        go_ret2
        exact ⟨HB.out, .inl ⟨fun ho => HE.out (HOK.out.1 ho), _, rfl⟩⟩
end Go.Proofs.Ytjbicfimoiiglaa
