/-
  The document's quoted.
-/
import Derived.Test.YtlildhacfimaaaaDoorLxB
import Derived.OwnWalk
namespace Go.Proofs.YtlildhacfimaaaaDoor
open Go.RowKit

theorem bs_append (a b : ByteArray) : bs (a ++ b) = bs a ++ bs b := by simp [bs]
theorem run_byte_at {P : Program} {t : TypeId} (h : P.underlying t = some .string) (s : ByteArray) (q : Nat) (hq : q < s.size) (w : World) : (Instr.slice t (.string s) (some (.int .i64 (q : Int))) (some (.int .i64 ((q : Int) + 1))) none).run P w = .ok (.string (s.extract q (q + 1))) w := by
  have := run_slice_string (P := P) w t s .i64 .i64 (q : Int) ((q : Int) + 1) h (by omega) (by omega) (by omega)
  rw [this]
  rfl
theorem run_byte_at1 {P : Program} {t : TypeId} (h : P.underlying t = some .string) (s : ByteArray) (q : Nat) (hq : q + 1 < s.size) (w : World) : (Instr.slice t (.string s) (some (.int .i64 ((q : Int) + 1))) (some (.int .i64 ((q : Int) + 1 + 1))) none).run P w = .ok (.string (s.extract (q + 1) (q + 1 + 1))) w := by
  have := run_slice_string (P := P) w t s .i64 .i64 ((q : Int) + 1) ((q : Int) + 1 + 1) h (by omega) (by omega) (by omega)
  rw [this]
  rfl
theorem bs_extract (s : ByteArray) (a b : Nat) : bs (s.extract a b) = ((bs s).drop a).take (b - a) := by
  simp [bs, List.extract]
theorem bs_byte (s : ByteArray) (q : Nat) (hq : q < s.size) : bs (s.extract q (q + 1)) = [s[q]] := by
  rw [bs_extract, List.drop_eq_getElem_cons (by rw [bs_length]; exact hq), bs_get s q hq]
  simp
def QuoPost (w : World) (l : List UInt8) (at' : Nat) (e : Ending) (w' : World) : Prop := ∃ (o : ByteArray) (to : Nat) (b : Bool), e = .returned (.tuple #[.string o, .int .i64 (to : Nat), .bool b]) ∧ w = w' ∧ ((quoL (l.drop at') = some (bs o, to - at') ∧ at' ≤ to ∧ b = true) ∨ (quoL (l.drop at') = none ∧ b = false))
set_option maxRecDepth 100000 in
set_option maxHeartbeats 2000000 in
theorem dquoted_any (s : ByteArray) (at' : Nat) (w : World) (hat : at' ≤ s.size) (hs : s.size ≤ 1000000) :
    Calls Tryd.prog 31 #[.string s, .int .i64 (at' : Nat)] w fun e w' => QuoPost w (bs s) at' e w' := by
  have HAT := Lib.hid hat
  go_enter Tryd.func31, Tryd.ntmps31
  go_wp2_with fail
  go_loop [1, 7] (fun i v => ∃ (q : Nat) (o : ByteArray), at' ≤ q ∧ q ≤ s.size ∧ o.size ≤ q ∧ i = .int .i64 q ∧ v = .string o ∧ Hid (quoL ((bs s).drop at') = (quoL ((bs s).drop q)).map fun x => (bs o ++ x.1, x.2 + (q - at')))) (fun i _ => s.size - (intOf i).toNat)
  case atStart =>
    refine ⟨at', _, Nat.le_refl _, hat, ?_, rfl, rfl, Lib.hid ?_⟩
    · exact Nat.zero_le _
    · cases quoL ((bs s).drop at') <;> simp [bs]
  case round =>
    obtain ⟨q, o, hq1, hq2, ho, rfl, rfl, hr⟩ := hrel
    have HR := Lib.hid hr.out
    clear hr
    by_cases hlt : q < s.size
    · have hcons : (bs s).drop q = s[q] :: (bs s).drop (q + 1) := by
        rw [List.drop_eq_getElem_cons (by rw [bs_length]; exact hlt), bs_get s q hlt]
      have HC := Lib.hid hcons
      clear hcons
      by_cases h1 : s[q].toNat < 32
      · have hn : quoL ((bs s).drop at') = none := by rw [HR.out, HC.out, quoL_bad _ (.inl h1)]; rfl
        have HN := Lib.hid hn
        clear hn
        go_wp2_with fail
        go_ret3
        exact ⟨_, 0, false, rfl, rfl, .inr ⟨HN.out, rfl⟩⟩
      by_cases h2 : 126 < s[q].toNat
      · have hn : quoL ((bs s).drop at') = none := by rw [HR.out, HC.out, quoL_bad _ (.inr h2)]; rfl
        have HN := Lib.hid hn
        have h1' : 32 ≤ s[q].toNat := by omega
        clear hn h1
        go_wp2_with fail
        go_ret3
        exact ⟨_, 0, false, rfl, rfl, .inr ⟨HN.out, rfl⟩⟩
      have h1' : 32 ≤ s[q].toNat := by omega
      have h2' : s[q].toNat ≤ 126 := by omega
      have HB := Lib.hid (show ¬ (s[q].toNat < 32 ∨ 126 < s[q].toNat) by omega)
      clear h1 h2
      by_cases h3 : s[q] = 39
      · have hb : ((s[q].toNat : Int) == 39) = true := by rw [h3]; rfl
        have H3 := Lib.hid h3
        clear h3
        by_cases h4 : q + 1 < s.size
        · have hcons2 : (bs s).drop (q + 1) = s[q + 1] :: (bs s).drop (q + 2) := by
            rw [List.drop_eq_getElem_cons (by rw [bs_length]; exact h4), bs_get s (q + 1) h4]
          have HC2 := Lib.hid hcons2
          clear hcons2
          by_cases h5 : s[q + 1] = 39
          · have hb2 : ((s[q + 1].toNat : Int) == 39) = true := by rw [h5]; rfl
            have H5 := Lib.hid h5
            clear h5
            have hsl := fun u => run_byte_at1 Tryd.underlying9 s q h4 u
            go_wp2_with fail
            refine ⟨⟨q + 2, o ++ s.extract (q + 1) (q + 1 + 1), by omega, by omega, ?_, by go_num, rfl, Lib.hid ?_⟩, by simp [intOf]; omega⟩
            · rw [ByteArray.size_append, ByteArray.size_extract]; omega
            · rw [HR.out, HC.out, H3.out, HC2.out, H5.out, quoL_two, bs_append, bs_byte s (q + 1) h4, H5.out]
              cases quoL ((bs s).drop (q + 2)) with
              | none => rfl
              | some x =>
                simp only [Option.map_some, List.append_assoc, List.cons_append, List.nil_append]
                rw [show x.2 + 2 + (q - at') = x.2 + (q + 2 - at') by omega]
          · have hb2 : ((s[q + 1].toNat : Int) == 39) = false := by
              rw [beq_eq_false_iff_ne]
              intro e
              exact h5 (UInt8.toNat_inj.1 (by show s[q + 1].toNat = 39; omega))
            have hn : quoL ((bs s).drop at') = some (bs o, q + 1 - at') := by
              rw [HR.out, HC.out, H3.out, quoL_end (by rw [HC2.out]; simpa using h5)]
              simp only [Option.map_some, List.append_nil]
              rw [show 1 + (q - at') = q + 1 - at' by omega]
            have HN := Lib.hid hn
            clear hn h5
            go_wp2_with fail
            go_ret3
            exact ⟨o, q + 1, true, by go_num, rfl, .inl ⟨HN.out, by omega, rfl⟩⟩
        · have hn : quoL ((bs s).drop at') = some (bs o, q + 1 - at') := by
            rw [HR.out, HC.out, H3.out, quoL_end (by rw [List.drop_eq_nil_of_le (by rw [bs_length]; omega)]; simp)]
            simp only [Option.map_some, List.append_nil]
            rw [show 1 + (q - at') = q + 1 - at' by omega]
          have HN := Lib.hid hn
          clear hn
          go_wp2_with fail
          go_ret3
          exact ⟨o, q + 1, true, by go_num, rfl, .inl ⟨HN.out, by omega, rfl⟩⟩
      · have hb : ((s[q].toNat : Int) == 39) = false := by
          rw [beq_eq_false_iff_ne]
          intro e
          exact h3 (UInt8.toNat_inj.1 (by show s[q].toNat = 39; omega))
        have H3 := Lib.hid h3
        have hsl := fun u => run_byte_at Tryd.underlying9 s q hlt u
        clear h3
        go_wp2_with fail
        refine ⟨⟨q + 1, o ++ s.extract q (q + 1), by omega, by omega, ?_, by go_num, rfl, Lib.hid ?_⟩, by simp [intOf]; omega⟩
        · rw [ByteArray.size_append, ByteArray.size_extract]; omega
        · rw [HR.out, HC.out, quoL_one _ HB.out H3.out, bs_append, bs_byte s q hlt]
          cases quoL ((bs s).drop (q + 1)) with
          | none => rfl
          | some x =>
            simp only [Option.map_some, List.append_assoc, List.cons_append, List.nil_append]
            rw [show x.2 + 1 + (q - at') = x.2 + (q + 1 - at') by omega]
    · obtain rfl : s.size = q := by omega
      have hn : quoL ((bs s).drop at') = none := by
        rw [HR.out, List.drop_eq_nil_of_le (by rw [bs_length]; exact Nat.le_refl _), quoL_nil]; rfl
      have HN := Lib.hid hn
      clear hn
      go_wp2_with fail
      go_ret3
      exact ⟨_, 0, false, rfl, rfl, .inr ⟨HN.out, rfl⟩⟩
end Go.Proofs.YtlildhacfimaaaaDoor
