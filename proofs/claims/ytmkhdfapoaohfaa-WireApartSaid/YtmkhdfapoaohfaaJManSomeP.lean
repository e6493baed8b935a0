/-
  What is proved here: a manifest that may be has bytes.
  Conditions: its hash has 32 bytes.
-/
import Derived.Test.YtmkhdfapoaohfaaJManEnc
import Derived.Test.YtmkhdfapoaohfaaJRecKit
namespace Go.Proofs.Ytmkhdfapoaohfaa
open Go.RowKit

theorem man_some {m : MM} (h : okM m) (hh : m.h.length = 32) : ∃ p, encM m = some p ∧ encTop manF (manVs m) = some p := by
  obtain ⟨u1, u0⟩ := okM_len h
  have hs : (encL 4 manF (manVs m)).isSome = true := by
    have e : encL 4 manF (manVs m) = catO [encOne (encL 3) (.mk 1 1 1073741824 []) (.mk m.v.toNat [] []), encOne (encL 3) (.mk 1 1 32768 []) (.mk m.s.toNat [] []), encOne (encL 3) (.mk 1 16 1024 []) (.mk m.c.toNat [] []), encOne (encL 3) (.mk 2 32 32 []) (.mk 0 m.h []), encOne (encL 3) (.mk 3 1 128 [sumF]) (.mk 0 [] (m.u.map sumV))] := rfl
    obtain ⟨⟨⟨v1, v2⟩, ⟨s1, s2⟩, ⟨c1, c2⟩, _⟩, _, hx⟩ := h
    rw [e]
    refine catO_all _ fun x hxm => ?_
    simp only [List.mem_cons, List.not_mem_nil, or_false] at hxm
    rcases hxm with rfl | rfl | rfl | rfl | rfl
    · exact encOne_numM (by omega) (by omega)
    · exact encOne_numM (by omega) (by omega)
    · exact encOne_numM (by omega) (by omega)
    · exact encOne_byt (by omega) (by omega)
    · refine encOne_rec (by rw [List.length_map]; omega) (by rw [List.length_map]; omega) fun v hv => ?_
      obtain ⟨y, hy, rfl⟩ := List.mem_map.1 hv
      have hy := hx y hy
      show (catO [encOne (encL 2) (.mk 1 0 16777215 []) (.mk y.toNat [] [])]).isSome = true
      refine catO_all _ fun z hz => ?_
      simp only [List.mem_cons, List.not_mem_nil, or_false] at hz
      subst hz
      exact encOne_numM (by omega) (by omega)
  have ht : encTop manF (manVs m) = encL 4 manF (manVs m) := by
    unfold encTop
    exact if_pos (by decide)
  obtain ⟨p, hp⟩ := Option.isSome_iff_exists.1 hs
  exact ⟨p, by unfold encM; rw [if_pos h, ht, hp], by rw [ht, hp]⟩
end Go.Proofs.Ytmkhdfapoaohfaa
