/-
  The document's One, at whatever byte.
-/
import Derived.Test.YtlildhacfimaaaaDoorLxI
namespace Go.Proofs.YtlildhacfimaaaaDoor
open Go.RowKit

theorem done_any (s : ByteArray) (at' : Nat) (w : World) (hat : at' < s.size) (hs : s.size ≤ 1000000) :
    Calls Tryd.prog 13 #[.string s, .int .i64 (at' : Nat)] w fun e w' => OnePost w (bs s) at' e w' := by
  by_cases h1 : srt s[at'] = 1
  · exact done_word1 s at' w hat hs h1
  by_cases h2 : srt s[at'] = 2
  · exact done_word2 s at' w hat hs h2
  by_cases h3 : srt s[at'] = 3
  · exact done_num s at' w hat hs h3
  by_cases h39 : s[at'] = 39
  · exact done_quo s at' w hat hs h39
  by_cases h91 : s[at'] = 91
  · by_cases hb : ((bs s).drop (at' + 1)).head? = some 93
    · exact done_nil s at' w hat hs h91 hb
    · exact done_91 s at' w hat hs h91 hb
  by_cases h33 : s[at'] = 33
  · exact done_33 s at' w hat hs h33
  by_cases h59 : s[at'] = 59
  · exact done_59 s at' w hat hs h59
  by_cases h40 : s[at'] = 40
  · exact done_40 s at' w hat hs h40
  by_cases h41 : s[at'] = 41
  · exact done_41 s at' w hat hs h41
  by_cases h93 : s[at'] = 93
  · exact done_93 s at' w hat hs h93
  by_cases h124 : s[at'] = 124
  · exact done_124 s at' w hat hs h124
  by_cases h44 : s[at'] = 44
  · exact done_44 s at' w hat hs h44
  refine done_sign s at' w hat hs ⟨?_, h3⟩ h39 h91 ?_ ?_
  · rintro (h | h)
    · exact h1 h
    · exact h2 h
  · rintro (h | h)
    · exact h33 h
    · exact h59 h
  · rintro (h | h | h | h | h | h)
    · exact h40 h
    · exact h41 h
    · exact h91 h
    · exact h93 h
    · exact h124 h
    · exact h44 h
end Go.Proofs.YtlildhacfimaaaaDoor
