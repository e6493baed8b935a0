/-
  What is proved here: messages with the same bytes are the same; wire.Encode of any message that lies in memory.
  Conditions: those that each fact names.
-/
import Derived.Test.YtgfcindkfnjeoaaJRefMSame
import Derived.Test.YtgfcindkfnjeoaaJWireInj
namespace Go.Proofs.Ytgfcindkfnjeoaa
open Go.RowKit

theorem hid_ofM {p : Prop} (h : p) : Hid p := h
theorem sameMM_iff (m n : MM) : sameMM m n = true ↔ m = n := by
  obtain ⟨a, b, c, d, e⟩ := m
  obtain ⟨a', b', c', d', e'⟩ := n
  unfold sameMM
  simp only [MM.mk.injEq, Bool.and_eq_true, beq_iff_eq]
theorem sameMs_iff (x y : MS) : sameMs x y = true ↔ x = y := by
  obtain ⟨k, d, c, l, v, s, h, o, m, b⟩ := x
  obtain ⟨k', d', c', l', v', s', h', o', m', b'⟩ := y
  unfold sameMs
  simp only [MS.mk.injEq, Bool.and_eq_true, beq_iff_eq, decide_eq_true_eq, sameMM_iff]
  constructor
  · rintro ⟨h1, h2, h3, h4, h5, h6, h7, h8, h9, h10⟩
    exact ⟨h1, h2, h3, h4, h5, h6, h7, h8, h10, h9⟩
  · rintro ⟨h1, h2, h3, h4, h5, h6, h7, h8, h10, h9⟩
    exact ⟨h1, h2, h3, h4, h5, h6, h7, h8, h9, h10⟩
theorem bytesM_one {x y : MS} {p q : List UInt8} (hh : x.m.h.length = 32) (hh' : y.m.h.length = 32) (h1 : bytesM x = some p) (h2 : bytesM y = some q) : decide (p = q) = sameMs x y := by
  have rx := bytesM_right h1
  have ry := bytesM_right h2
  by_cases e : p = q
  · subst e
    have := encW_inj rx ry (encM_of rx hh) (encM_of ry hh') h1 h2
    rw [decide_eq_true rfl, (sameMs_iff x y).2 this]
  · rw [decide_eq_false e]
    cases h : sameMs x y with
    | false => rfl
    | true =>
      have hxy := (sameMs_iff x y).1 h
      subst hxy
      rw [h1] at h2
      injection h2 with h2
      exact absurd h2 e
theorem encode14_any (x : MS) (ao : Option Addr) (cu : Nat) (ab : Option Addr) (cb : Nat) (w : World) (hh : x.m.h.length = 32) (hm : x.m.u.length ≤ 1000000000) (hu : Wds w (.slice ao x.m.u.length cu) x.m.u) (hS : Seg w (.slice ab x.b.length cb) x.b) (hbl : x.b.length ≤ maxLen) :
    Calls Try.prog 8 #[.agg (msA x (manL x.m (.slice ao x.m.u.length cu)) (.slice ab x.b.length cb))] w fun e w' => encodePost w (bytesM x) e w' := by
  refine wencode_any x (manL x.m (.slice ao x.m.u.length cu)) ab cb _ w (manL_len _ _ hh) hS hbl (fun h2 hr => ?_) (fun V hV => manMay_any x ao cu _ V hh (hu.below hV (Nat.le_refl _))) (fun h2 hr V hV => ?_)
  · exact encM_len (encM_of hr hh h2)
  · have := menc_any x.m (.slice ao x.m.u.length cu) V hh hm (hu.below hV (Nat.le_refl _))
    rw [encM_of hr hh h2] at this
    refine this.mono ?_
    rintro e w' ⟨⟨b, rfl, ho⟩, hb⟩
    exact ⟨b, 0, rfl, ho, hb⟩
end Go.Proofs.Ytgfcindkfnjeoaa
