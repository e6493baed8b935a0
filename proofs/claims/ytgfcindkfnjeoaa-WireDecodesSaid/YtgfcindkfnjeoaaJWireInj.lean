/-
  What is proved here: plain facts: messages that may be and have the same bytes are the same; the bytes of a manifest are few. a manifest that may be has bytes. plain facts on the bytes of a message.
  Conditions: those that each fact names. its hash has 32 bytes.
-/
import Derived.Test.YtgfcindkfnjeoaaJWireEnc
import Derived.Test.YtgfcindkfnjeoaaJManDecP
import Derived.Test.YtgfcindkfnjeoaaJManFlds
import Derived.Test.YtgfcindkfnjeoaaJRecKit
namespace Go.Proofs.Ytgfcindkfnjeoaa
open Go.RowKit

theorem encM_len {m : MM} {nb : List UInt8} (h : encM m = some nb) : nb.length ≤ 500 := by
  unfold encM at h
  split at h
  · unfold encTop at h
    split at h
    · exact Nat.le_trans (encL_len 4 manF _ (manVs m) nb (by decide : mostL 4 manF = some ((mostL 4 manF).getD 0)) h) (by decide)
    · cases h
  · cases h
theorem encM_inj {m k : MM} {nb : List UInt8} (h1 : encM m = some nb) (h2 : encM k = some nb) : m = k := by
  unfold encM at h1 h2
  split at h1
  · split at h2
    · exact dec_one (by assumption) (by assumption) h1 h2
    · cases h2
  · cases h1
theorem kind_same {a b : Int} (ha : 1 ≤ a ∧ a ≤ 8) (hb : 1 ≤ b ∧ b ≤ 8) (h : UInt8.ofNat a.toNat = UInt8.ofNat b.toNat) : a = b := by
  have h2 := congrArg UInt8.toNat h
  rw [UInt8.toNat_ofNat', UInt8.toNat_ofNat'] at h2
  omega
theorem noneM_one {m k : MM} (h1 : noneM m = true) (h2 : noneM k = true) : m = k := by
  obtain ⟨v, s, c, hh, u⟩ := m
  obtain ⟨v', s', c', hh', u'⟩ := k
  unfold noneM at h1 h2
  simp only [Bool.and_eq_true, beq_iff_eq, decide_eq_true_eq] at h1 h2
  obtain ⟨rfl, rfl, rfl, rfl, h1⟩ := h1
  obtain ⟨rfl, rfl, rfl, rfl, h2⟩ := h2
  rw [List.eq_nil_of_length_eq_zero h1, List.eq_nil_of_length_eq_zero h2]
/-- Messages that may be, of one kind, with the same numbers, manifest and body. -/
theorem parts_one {x y : MS} (hx : rightM x = true) (hy : rightM y = true) (hk : x.k = y.k) (hn : xsK x = xsK y) (hm : x.m = y.m) (hb : x.b = y.b) : x = y := by
  obtain ⟨⟨a1, a8⟩, an, -, -⟩ := right_parts hx
  obtain ⟨-, bn, -, -⟩ := right_parts hy
  obtain ⟨k, d, c, l, v, s, h, o, m, b⟩ := x
  obtain ⟨k', d', c', l', v', s', h', o', m', b'⟩ := y
  simp only at hk hm hb a1 a8
  subst hk hm hb
  unfold numsMay at an bn
  simp only at an bn
  unfold xsK at hn
  simp only at hn
  rcases kinds k with rfl | rfl | rfl | rfl | rfl | rfl | rfl | rfl | hk
  all_goals first | omega | skip
  all_goals simp [numK, mayL, getM, zeroAt] at an bn hn
  all_goals simp only [MS.mk.injEq, true_and, and_true]
  all_goals omega
theorem man_one {x y : MS} {nx ny : List UInt8} (hx : rightM x = true) (hy : rightM y = true) (hk : x.k = y.k) (h2 : x.k = 2 → nx = ny) (ex : x.k = 2 → encM x.m = some nx) (ey : y.k = 2 → encM y.m = some ny) : x.m = y.m := by
  obtain ⟨-, -, am, -⟩ := right_parts hx
  obtain ⟨-, -, bm, -⟩ := right_parts hy
  unfold manMay at am bm
  by_cases h : x.k = 2
  · have e1 := ex h
    rw [h2 h] at e1
    exact encM_inj e1 (ey (by rw [← hk]; exact h))
  · rw [if_neg h] at am
    rw [if_neg (by rw [← hk]; exact h)] at bm
    exact noneM_one am bm
theorem body_one {x y : MS} (hx : rightM x = true) (hy : rightM y = true) (hk : x.k = y.k) (h5 : x.k = 5 → x.b = y.b) : x.b = y.b := by
  obtain ⟨-, -, -, ab⟩ := right_parts hx
  obtain ⟨-, -, -, bb⟩ := right_parts hy
  unfold bodyMay at ab bb
  by_cases h : x.k = 5
  · exact h5 h
  · rw [if_neg h] at ab
    rw [if_neg (by rw [← hk]; exact h)] at bb
    rw [List.eq_nil_of_length_eq_zero (of_decide_eq_true ab), List.eq_nil_of_length_eq_zero (of_decide_eq_true bb)]
/-- No two messages that are unlike are the same bytes. -/
theorem encW_inj {x y : MS} {nx ny p : List UInt8} (hx : rightM x = true) (hy : rightM y = true) (ex : x.k = 2 → encM x.m = some nx) (ey : y.k = 2 → encM y.m = some ny) (h1 : encW x nx = some p) (h2 : encW y ny = some p) : x = y := by
  unfold encW at h1 h2
  rw [if_pos hx] at h1
  rw [if_pos hy] at h2
  rw [← h2] at h1
  injection h1 with h1
  injection h1 with hhd htl
  have hk := kind_same (right_parts hx).1 (right_parts hy).1 hhd
  have lx : x.k = 2 → nx.length ≤ 500 := fun e => encM_len (ex e)
  have ly : y.k = 2 → ny.length ≤ 500 := fun e => encM_len (ey e)
  by_cases h3 : x.k = 3
  · have hxs : xsK x = xsK y := by
      unfold xsK
      rw [← hk, h3]
      rfl
    exact parts_one hx hy hk hxs (man_one hx hy hk (fun e => by omega) ex ey) (body_one hx hy hk (fun e => by omega))
  · rw [if_neg h3, if_neg (by rw [← hk]; exact h3)] at htl
    obtain ⟨r, hr, -⟩ := recW_some hx h3 lx
    obtain ⟨r', hr', -⟩ := recW_some hy (by rw [← hk]; exact h3) ly
    rw [hr, hr'] at htl
    have htl : r = r' := htl
    subst htl
    obtain ⟨⟨k1, k8⟩, -, -, -⟩ := right_parts hx
    have hok := rec_okK k1 k8 h3
    unfold recW at hr hr'
    rw [← hk] at hr'
    have e1 := hok.back hr
    rw [hok.back hr'] at e1
    injection e1 with e1
    obtain ⟨hxs, hbo⟩ := recV_inj (by unfold xsK; rw [List.length_map, List.length_map, hk]) e1.symm
    unfold boK at hbo
    refine parts_one hx hy hk hxs (man_one hx hy hk (fun e => ?_) ex ey) (body_one hx hy hk (fun e => ?_))
    · rw [if_pos e, if_pos (by rw [← hk]; exact e)] at hbo
      injection hbo
    · rw [if_neg (by omega), if_pos e, if_neg (by omega), if_pos (by omega)] at hbo
      injection hbo
end Go.Proofs.Ytgfcindkfnjeoaa
namespace Go.Proofs.Ytgfcindkfnjeoaa
open Go.RowKit

theorem man_some {m : MM} (h : okM m) (hh : m.h.length = 32) : ∃ p, encM m = some p ∧ encTop manF (manVs m) = some p := by
  obtain ⟨u1, u0⟩ := okM_len h
  have hs : (encL 4 manF (manVs m)).isSome = true := by
    have e : encL 4 manF (manVs m) = catO [encOne (encL 3) (.mk 1 1 1073741824 []) (.mk m.v.toNat [] []), encOne (encL 3) (.mk 1 1 32768 []) (.mk m.s.toNat [] []), encOne (encL 3) (.mk 1 16 1024 []) (.mk m.c.toNat [] []), encOne (encL 3) (.mk 2 32 32 []) (.mk 0 m.h []), encOne (encL 3) (.mk 3 1 128 [sumF]) (.mk 0 [] (m.u.map sumV))] := rfl
    obtain ⟨⟨⟨v1, v2⟩, ⟨s1, s2⟩, ⟨c1, c2⟩, _⟩, _, hx⟩ := h
    rw [e]
    refine catO_all _ fun x hxm => ?_
    simp only [List.mem_cons, List.not_mem_nil, or_false] at hxm
    rcases hxm with rfl | rfl | rfl | rfl | rfl
    · exact encOne_numM (by omega) (by omega)
    · exact encOne_numM (by omega) (by omega)
    · exact encOne_numM (by omega) (by omega)
    · exact encOne_byt (by omega) (by omega)
    · refine encOne_rec (by rw [List.length_map]; omega) (by rw [List.length_map]; omega) fun v hv => ?_
      obtain ⟨y, hy, rfl⟩ := List.mem_map.1 hv
      have hy := hx y hy
      show (catO [encOne (encL 2) (.mk 1 0 16777215 []) (.mk y.toNat [] [])]).isSome = true
      refine catO_all _ fun z hz => ?_
      simp only [List.mem_cons, List.not_mem_nil, or_false] at hz
      subst hz
      exact encOne_numM (by omega) (by omega)
  have ht : encTop manF (manVs m) = encL 4 manF (manVs m) := by
    unfold encTop
    exact if_pos (by decide)
  obtain ⟨p, hp⟩ := Option.isSome_iff_exists.1 hs
  exact ⟨p, by unfold encM; rw [if_pos h, ht, hp], by rw [ht, hp]⟩
end Go.Proofs.Ytgfcindkfnjeoaa
namespace Go.Proofs.Ytgfcindkfnjeoaa
open Go.RowKit

/-- The bytes of a message. -/
def bytesM (x : MS) : Option (List UInt8) := encW x ((encM x.m).getD [])
theorem encM_of {x : MS} (h : rightM x = true) (hh : x.m.h.length = 32) (h2 : x.k = 2) : encM x.m = some ((encM x.m).getD []) := by
  obtain ⟨-, -, hm, -⟩ := right_parts h
  unfold manMay at hm
  rw [if_pos h2] at hm
  obtain ⟨p, hp, -⟩ := man_some (of_decide_eq_true hm) hh
  rw [hp]
  rfl
theorem bytesM_right {x : MS} {p : List UInt8} (h : bytesM x = some p) : rightM x = true := by
  unfold bytesM encW at h
  split at h
  · assumption
  · cases h
end Go.Proofs.Ytgfcindkfnjeoaa
