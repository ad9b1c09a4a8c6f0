/-
  The document's One at a sign of its own, and at brackets.
-/
import Derived.Test.YtlildhacfimaaaaDoorLxF
namespace Go.Proofs.YtlildhacfimaaaaDoor
open Go.RowKit

theorem ext_one (s : ByteArray) (at' : Nat) (h : at' < s.size) : bs (s.extract at' (at' + 1)) = [s[at']] := bs_byte s at' h
theorem size_one (s : ByteArray) (at' : Nat) (h : at' < s.size) : (s.extract at' (at' + 1)).size = 1 := by rw [ByteArray.size_extract]; omega
set_option maxRecDepth 100000 in
set_option maxHeartbeats 2000000 in
theorem done_40 (s : ByteArray) (at' : Nat) (w : World) (hat : at' < s.size) (hs : s.size ≤ 1000000) (hc : s[at'] = 40) :
    Calls Tryd.prog 13 #[.string s, .int .i64 (at' : Nat)] w fun e w' => OnePost w (bs s) at' e w' := by
  have hsort := fun u => dsort_any s[at'] u
  rw [show srt s[at'] = 0 by rw [hc]; rfl] at hsort
  have hsl := fun u => run_byte_at Tryd.underlying9 s at' hat u
  have HS := Lib.hid hsort
  have b39 : ((s[at'].toNat : Int) == 39) = false := by rw [hc]; rfl
  have b91 : ((s[at'].toNat : Int) == 91) = false := by rw [hc]; rfl
  have b33 : ((s[at'].toNat : Int) == 33) = false := by rw [hc]; rfl
  have b59 : ((s[at'].toNat : Int) == 59) = false := by rw [hc]; rfl
  have b40 : ((s[at'].toNat : Int) == 40) = true := by rw [hc]; rfl
  have b41 : ((s[at'].toNat : Int) == 41) = false := by rw [hc]; rfl
  have b93 : ((s[at'].toNat : Int) == 93) = false := by rw [hc]; rfl
  have b124 : ((s[at'].toNat : Int) == 124) = false := by rw [hc]; rfl
  have b44 : ((s[at'].toNat : Int) == 44) = false := by rw [hc]; rfl
  have b46 : ((s[at'].toNat : Int) == 46) = false := by rw [hc]; rfl
  have hone : oneL ((bs s).drop at') = some (⟨4, bs (s.extract at' (at' + 1)), 0, false⟩, 1) := by
    rw [ext_one s at' hat, drop_at s at' hat, hc]
    unfold oneL
    simp only
    rw [if_neg (by decide), if_neg (by decide), if_neg (by decide), if_neg (fun h => absurd h.1 (by decide)), if_neg (by decide), if_pos (by decide)]
  have HONE := Lib.hid hone
  clear hone hsort
  clear hc
  go_enter Tryd.func13, Tryd.ntmps13
  go_wp2_with (first
    | (go_at_call 12; refine (HS.out _).mono ?_; rintro e w' ⟨rfl, rfl⟩))
  refine bodyPost_ret (v := .tuple #[tokV 4 (s.extract at' (at' + 1)) 0 at' false, .int .i64 (at' + 1 : Nat)]) (by simp [results, tokV, Tryd.results13, go_sem]) rfl ?_
  exact ⟨(Below.refl _ _).alloc (Nat.le_refl _) _, .inr ⟨⟨4, bs (s.extract at' (at' + 1)), 0, false⟩, s.extract at' (at' + 1), 1, HONE.out, rfl, rfl⟩⟩
set_option maxRecDepth 100000 in
set_option maxHeartbeats 2000000 in
theorem done_41 (s : ByteArray) (at' : Nat) (w : World) (hat : at' < s.size) (hs : s.size ≤ 1000000) (hc : s[at'] = 41) :
    Calls Tryd.prog 13 #[.string s, .int .i64 (at' : Nat)] w fun e w' => OnePost w (bs s) at' e w' := by
  have hsort := fun u => dsort_any s[at'] u
  rw [show srt s[at'] = 0 by rw [hc]; rfl] at hsort
  have hsl := fun u => run_byte_at Tryd.underlying9 s at' hat u
  have HS := Lib.hid hsort
  have b39 : ((s[at'].toNat : Int) == 39) = false := by rw [hc]; rfl
  have b91 : ((s[at'].toNat : Int) == 91) = false := by rw [hc]; rfl
  have b33 : ((s[at'].toNat : Int) == 33) = false := by rw [hc]; rfl
  have b59 : ((s[at'].toNat : Int) == 59) = false := by rw [hc]; rfl
  have b40 : ((s[at'].toNat : Int) == 40) = false := by rw [hc]; rfl
  have b41 : ((s[at'].toNat : Int) == 41) = true := by rw [hc]; rfl
  have b93 : ((s[at'].toNat : Int) == 93) = false := by rw [hc]; rfl
  have b124 : ((s[at'].toNat : Int) == 124) = false := by rw [hc]; rfl
  have b44 : ((s[at'].toNat : Int) == 44) = false := by rw [hc]; rfl
  have b46 : ((s[at'].toNat : Int) == 46) = false := by rw [hc]; rfl
  have hone : oneL ((bs s).drop at') = some (⟨4, bs (s.extract at' (at' + 1)), 0, false⟩, 1) := by
    rw [ext_one s at' hat, drop_at s at' hat, hc]
    unfold oneL
    simp only
    rw [if_neg (by decide), if_neg (by decide), if_neg (by decide), if_neg (fun h => absurd h.1 (by decide)), if_neg (by decide), if_pos (by decide)]
  have HONE := Lib.hid hone
  clear hone hsort
  clear hc
  go_enter Tryd.func13, Tryd.ntmps13
  go_wp2_with (first
    | (go_at_call 12; refine (HS.out _).mono ?_; rintro e w' ⟨rfl, rfl⟩))
  refine bodyPost_ret (v := .tuple #[tokV 4 (s.extract at' (at' + 1)) 0 at' false, .int .i64 (at' + 1 : Nat)]) (by simp [results, tokV, Tryd.results13, go_sem]) rfl ?_
  exact ⟨(Below.refl _ _).alloc (Nat.le_refl _) _, .inr ⟨⟨4, bs (s.extract at' (at' + 1)), 0, false⟩, s.extract at' (at' + 1), 1, HONE.out, rfl, rfl⟩⟩
set_option maxRecDepth 100000 in
set_option maxHeartbeats 2000000 in
theorem done_91 (s : ByteArray) (at' : Nat) (w : World) (hat : at' < s.size) (hs : s.size ≤ 1000000) (hc : s[at'] = 91) (hb : ((bs s).drop (at' + 1)).head? ≠ some 93) :
    Calls Tryd.prog 13 #[.string s, .int .i64 (at' : Nat)] w fun e w' => OnePost w (bs s) at' e w' := by
  have hsort := fun u => dsort_any s[at'] u
  rw [show srt s[at'] = 0 by rw [hc]; rfl] at hsort
  have hsl := fun u => run_byte_at Tryd.underlying9 s at' hat u
  have HS := Lib.hid hsort
  have b39 : ((s[at'].toNat : Int) == 39) = false := by rw [hc]; rfl
  have b91 : ((s[at'].toNat : Int) == 91) = true := by rw [hc]; rfl
  have b33 : ((s[at'].toNat : Int) == 33) = false := by rw [hc]; rfl
  have b59 : ((s[at'].toNat : Int) == 59) = false := by rw [hc]; rfl
  have b40 : ((s[at'].toNat : Int) == 40) = false := by rw [hc]; rfl
  have b41 : ((s[at'].toNat : Int) == 41) = false := by rw [hc]; rfl
  have b93 : ((s[at'].toNat : Int) == 93) = false := by rw [hc]; rfl
  have b124 : ((s[at'].toNat : Int) == 124) = false := by rw [hc]; rfl
  have b44 : ((s[at'].toNat : Int) == 44) = false := by rw [hc]; rfl
  have b46 : ((s[at'].toNat : Int) == 46) = false := by rw [hc]; rfl
  have hone : oneL ((bs s).drop at') = some (⟨4, bs (s.extract at' (at' + 1)), 0, false⟩, 1) := by
    rw [ext_one s at' hat, drop_at s at' hat, hc]
    unfold oneL
    simp only
    rw [if_neg (by decide), if_neg (by decide), if_neg (by decide), if_neg (fun h => hb h.2), if_neg (by decide), if_pos (by decide)]
  have HONE := Lib.hid hone
  clear hone hsort
  clear hc
  by_cases hlt : at' + 1 < s.size
  · have hb2 : ((s[at' + 1].toNat : Int) == 93) = false := by
      rw [beq_eq_false_iff_ne]
      intro e
      refine hb ?_
      rw [drop_at s (at' + 1) hlt]
      exact congrArg some (UInt8.toNat_inj.1 (by show s[at' + 1].toNat = 93; omega))
    clear hb
    go_enter Tryd.func13, Tryd.ntmps13
    go_wp2_with (first
      | (go_at_call 12; refine (HS.out _).mono ?_; rintro e w' ⟨rfl, rfl⟩))
    refine bodyPost_ret (v := .tuple #[tokV 4 (s.extract at' (at' + 1)) 0 at' false, .int .i64 (at' + 1 : Nat)]) (by simp [results, tokV, Tryd.results13, go_sem]) rfl ?_
    exact ⟨(Below.refl _ _).alloc (Nat.le_refl _) _, .inr ⟨⟨4, bs (s.extract at' (at' + 1)), 0, false⟩, s.extract at' (at' + 1), 1, HONE.out, rfl, rfl⟩⟩
  · clear hb
    go_enter Tryd.func13, Tryd.ntmps13
    go_wp2_with (first
      | (go_at_call 12; refine (HS.out _).mono ?_; rintro e w' ⟨rfl, rfl⟩))
    refine bodyPost_ret (v := .tuple #[tokV 4 (s.extract at' (at' + 1)) 0 at' false, .int .i64 (at' + 1 : Nat)]) (by simp [results, tokV, Tryd.results13, go_sem]) rfl ?_
    exact ⟨(Below.refl _ _).alloc (Nat.le_refl _) _, .inr ⟨⟨4, bs (s.extract at' (at' + 1)), 0, false⟩, s.extract at' (at' + 1), 1, HONE.out, rfl, rfl⟩⟩
set_option maxRecDepth 100000 in
set_option maxHeartbeats 2000000 in
theorem done_93 (s : ByteArray) (at' : Nat) (w : World) (hat : at' < s.size) (hs : s.size ≤ 1000000) (hc : s[at'] = 93) :
    Calls Tryd.prog 13 #[.string s, .int .i64 (at' : Nat)] w fun e w' => OnePost w (bs s) at' e w' := by
  have hsort := fun u => dsort_any s[at'] u
  rw [show srt s[at'] = 0 by rw [hc]; rfl] at hsort
  have hsl := fun u => run_byte_at Tryd.underlying9 s at' hat u
  have HS := Lib.hid hsort
  have b39 : ((s[at'].toNat : Int) == 39) = false := by rw [hc]; rfl
  have b91 : ((s[at'].toNat : Int) == 91) = false := by rw [hc]; rfl
  have b33 : ((s[at'].toNat : Int) == 33) = false := by rw [hc]; rfl
  have b59 : ((s[at'].toNat : Int) == 59) = false := by rw [hc]; rfl
  have b40 : ((s[at'].toNat : Int) == 40) = false := by rw [hc]; rfl
  have b41 : ((s[at'].toNat : Int) == 41) = false := by rw [hc]; rfl
  have b93 : ((s[at'].toNat : Int) == 93) = true := by rw [hc]; rfl
  have b124 : ((s[at'].toNat : Int) == 124) = false := by rw [hc]; rfl
  have b44 : ((s[at'].toNat : Int) == 44) = false := by rw [hc]; rfl
  have b46 : ((s[at'].toNat : Int) == 46) = false := by rw [hc]; rfl
  have hone : oneL ((bs s).drop at') = some (⟨4, bs (s.extract at' (at' + 1)), 0, false⟩, 1) := by
    rw [ext_one s at' hat, drop_at s at' hat, hc]
    unfold oneL
    simp only
    rw [if_neg (by decide), if_neg (by decide), if_neg (by decide), if_neg (fun h => absurd h.1 (by decide)), if_neg (by decide), if_pos (by decide)]
  have HONE := Lib.hid hone
  clear hone hsort
  clear hc
  go_enter Tryd.func13, Tryd.ntmps13
  go_wp2_with (first
    | (go_at_call 12; refine (HS.out _).mono ?_; rintro e w' ⟨rfl, rfl⟩))
  refine bodyPost_ret (v := .tuple #[tokV 4 (s.extract at' (at' + 1)) 0 at' false, .int .i64 (at' + 1 : Nat)]) (by simp [results, tokV, Tryd.results13, go_sem]) rfl ?_
  exact ⟨(Below.refl _ _).alloc (Nat.le_refl _) _, .inr ⟨⟨4, bs (s.extract at' (at' + 1)), 0, false⟩, s.extract at' (at' + 1), 1, HONE.out, rfl, rfl⟩⟩
set_option maxRecDepth 100000 in
set_option maxHeartbeats 2000000 in
theorem done_124 (s : ByteArray) (at' : Nat) (w : World) (hat : at' < s.size) (hs : s.size ≤ 1000000) (hc : s[at'] = 124) :
    Calls Tryd.prog 13 #[.string s, .int .i64 (at' : Nat)] w fun e w' => OnePost w (bs s) at' e w' := by
  have hsort := fun u => dsort_any s[at'] u
  rw [show srt s[at'] = 0 by rw [hc]; rfl] at hsort
  have hsl := fun u => run_byte_at Tryd.underlying9 s at' hat u
  have HS := Lib.hid hsort
  have b39 : ((s[at'].toNat : Int) == 39) = false := by rw [hc]; rfl
  have b91 : ((s[at'].toNat : Int) == 91) = false := by rw [hc]; rfl
  have b33 : ((s[at'].toNat : Int) == 33) = false := by rw [hc]; rfl
  have b59 : ((s[at'].toNat : Int) == 59) = false := by rw [hc]; rfl
  have b40 : ((s[at'].toNat : Int) == 40) = false := by rw [hc]; rfl
  have b41 : ((s[at'].toNat : Int) == 41) = false := by rw [hc]; rfl
  have b93 : ((s[at'].toNat : Int) == 93) = false := by rw [hc]; rfl
  have b124 : ((s[at'].toNat : Int) == 124) = true := by rw [hc]; rfl
  have b44 : ((s[at'].toNat : Int) == 44) = false := by rw [hc]; rfl
  have b46 : ((s[at'].toNat : Int) == 46) = false := by rw [hc]; rfl
  have hone : oneL ((bs s).drop at') = some (⟨4, bs (s.extract at' (at' + 1)), 0, false⟩, 1) := by
    rw [ext_one s at' hat, drop_at s at' hat, hc]
    unfold oneL
    simp only
    rw [if_neg (by decide), if_neg (by decide), if_neg (by decide), if_neg (fun h => absurd h.1 (by decide)), if_neg (by decide), if_pos (by decide)]
  have HONE := Lib.hid hone
  clear hone hsort
  clear hc
  go_enter Tryd.func13, Tryd.ntmps13
  go_wp2_with (first
    | (go_at_call 12; refine (HS.out _).mono ?_; rintro e w' ⟨rfl, rfl⟩))
  refine bodyPost_ret (v := .tuple #[tokV 4 (s.extract at' (at' + 1)) 0 at' false, .int .i64 (at' + 1 : Nat)]) (by simp [results, tokV, Tryd.results13, go_sem]) rfl ?_
  exact ⟨(Below.refl _ _).alloc (Nat.le_refl _) _, .inr ⟨⟨4, bs (s.extract at' (at' + 1)), 0, false⟩, s.extract at' (at' + 1), 1, HONE.out, rfl, rfl⟩⟩
set_option maxRecDepth 100000 in
set_option maxHeartbeats 2000000 in
theorem done_44 (s : ByteArray) (at' : Nat) (w : World) (hat : at' < s.size) (hs : s.size ≤ 1000000) (hc : s[at'] = 44) :
    Calls Tryd.prog 13 #[.string s, .int .i64 (at' : Nat)] w fun e w' => OnePost w (bs s) at' e w' := by
  have hsort := fun u => dsort_any s[at'] u
  rw [show srt s[at'] = 0 by rw [hc]; rfl] at hsort
  have hsl := fun u => run_byte_at Tryd.underlying9 s at' hat u
  have HS := Lib.hid hsort
  have b39 : ((s[at'].toNat : Int) == 39) = false := by rw [hc]; rfl
  have b91 : ((s[at'].toNat : Int) == 91) = false := by rw [hc]; rfl
  have b33 : ((s[at'].toNat : Int) == 33) = false := by rw [hc]; rfl
  have b59 : ((s[at'].toNat : Int) == 59) = false := by rw [hc]; rfl
  have b40 : ((s[at'].toNat : Int) == 40) = false := by rw [hc]; rfl
  have b41 : ((s[at'].toNat : Int) == 41) = false := by rw [hc]; rfl
  have b93 : ((s[at'].toNat : Int) == 93) = false := by rw [hc]; rfl
  have b124 : ((s[at'].toNat : Int) == 124) = false := by rw [hc]; rfl
  have b44 : ((s[at'].toNat : Int) == 44) = true := by rw [hc]; rfl
  have b46 : ((s[at'].toNat : Int) == 46) = false := by rw [hc]; rfl
  have hone : oneL ((bs s).drop at') = some (⟨4, bs (s.extract at' (at' + 1)), 0, false⟩, 1) := by
    rw [ext_one s at' hat, drop_at s at' hat, hc]
    unfold oneL
    simp only
    rw [if_neg (by decide), if_neg (by decide), if_neg (by decide), if_neg (fun h => absurd h.1 (by decide)), if_neg (by decide), if_pos (by decide)]
  have HONE := Lib.hid hone
  clear hone hsort
  clear hc
  go_enter Tryd.func13, Tryd.ntmps13
  go_wp2_with (first
    | (go_at_call 12; refine (HS.out _).mono ?_; rintro e w' ⟨rfl, rfl⟩))
  refine bodyPost_ret (v := .tuple #[tokV 4 (s.extract at' (at' + 1)) 0 at' false, .int .i64 (at' + 1 : Nat)]) (by simp [results, tokV, Tryd.results13, go_sem]) rfl ?_
  exact ⟨(Below.refl _ _).alloc (Nat.le_refl _) _, .inr ⟨⟨4, bs (s.extract at' (at' + 1)), 0, false⟩, s.extract at' (at' + 1), 1, HONE.out, rfl, rfl⟩⟩
end Go.Proofs.YtlildhacfimaaaaDoor
