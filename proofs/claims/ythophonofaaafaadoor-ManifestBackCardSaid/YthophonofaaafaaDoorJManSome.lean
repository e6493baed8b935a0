/-
  What is proved here: a manifest that may be has bytes.
  Conditions: its hash has 32 bytes.
-/
import Derived.Test.YthophonofaaafaaDoorJManUn
namespace Go.Proofs.YthophonofaaafaaDoor
open Go.RowKit

theorem catO_some : ∀ l : List (Option (List UInt8)), (∀ x ∈ l, x.isSome = true) → (catO l).isSome = true
  | [], _ => rfl
  | none :: _, h => by have := h none List.mem_cons_self; cases this
  | some a :: l, h => by
    show ((catO l).map (a ++ ·)).isSome = true
    rw [Option.isSome_map]
    exact catO_some l fun x hx => h x (List.mem_cons_of_mem _ hx)
theorem encOne_num {E : List Fld → List Val → Option (List UInt8)} {a b n : Nat} (h1 : a ≤ n) (h2 : n ≤ b) : (encOne E (.mk 1 a b []) (.mk n [] [])).isSome = true := by
  have h : encOne E (.mk 1 a b []) (.mk n [] []) = if n < a ∨ b < n then none else (catO (([] : List (List Val)).map (E []))).map (fun r => leN (n - a) (wid (b - a)) ++ (([] : List UInt8) ++ r)) := rfl
  rw [h, if_neg (by omega)]
  rfl
theorem encOne_byt {E : List Fld → List Val → Option (List UInt8)} {a b : Nat} {bs : List UInt8} (h1 : a ≤ bs.length) (h2 : bs.length ≤ b) : (encOne E (.mk 2 a b []) (.mk 0 bs [])).isSome = true := by
  have h : encOne E (.mk 2 a b []) (.mk 0 bs []) = if bs.length < a ∨ b < bs.length then none else (catO (([] : List (List Val)).map (E []))).map (fun r => leN (bs.length - a) (wid (b - a)) ++ (bs ++ r)) := rfl
  rw [h, if_neg (by omega)]
  rfl
theorem encOne_rec {E : List Fld → List Val → Option (List UInt8)} {a b : Nat} {o : List Fld} {l : List (List Val)} (h1 : a ≤ l.length) (h2 : l.length ≤ b) (h3 : ∀ v ∈ l, (E o v).isSome = true) : (encOne E (.mk 3 a b o) (.mk 0 [] l)).isSome = true := by
  have h : encOne E (.mk 3 a b o) (.mk 0 [] l) = if l.length < a ∨ b < l.length then none else (catO (l.map (E o))).map (fun r => leN (l.length - a) (wid (b - a)) ++ (([] : List UInt8) ++ r)) := rfl
  rw [h, if_neg (by omega), Option.isSome_map]
  exact catO_some _ fun x hx => by obtain ⟨v, hv, rfl⟩ := List.mem_map.1 hx; exact h3 v hv
theorem man_some {m : MM} (h : okM m) (hh : m.h.length = 32) : ∃ p, encM m = some p ∧ encTop manF (manVs m) = some p := by
  obtain ⟨u1, u0⟩ := okM_len h
  have hs : (encL 4 manF (manVs m)).isSome = true := by
    have e : encL 4 manF (manVs m) = catO [encOne (encL 3) (.mk 1 1 1073741824 []) (.mk m.v.toNat [] []), encOne (encL 3) (.mk 1 1 32768 []) (.mk m.s.toNat [] []), encOne (encL 3) (.mk 1 16 1024 []) (.mk m.c.toNat [] []), encOne (encL 3) (.mk 2 32 32 []) (.mk 0 m.h []), encOne (encL 3) (.mk 3 1 128 [sumF]) (.mk 0 [] (m.u.map sumV))] := rfl
    obtain ⟨⟨⟨v1, v2⟩, ⟨s1, s2⟩, ⟨c1, c2⟩, _⟩, _, hx⟩ := h
    rw [e]
    refine catO_some _ fun x hxm => ?_
    simp only [List.mem_cons, List.not_mem_nil, or_false] at hxm
    rcases hxm with rfl | rfl | rfl | rfl | rfl
    · exact encOne_num (by omega) (by omega)
    · exact encOne_num (by omega) (by omega)
    · exact encOne_num (by omega) (by omega)
    · exact encOne_byt (by omega) (by omega)
    · refine encOne_rec (by rw [List.length_map]; omega) (by rw [List.length_map]; omega) fun v hv => ?_
      obtain ⟨y, hy, rfl⟩ := List.mem_map.1 hv
      have hy := hx y hy
      show (catO [encOne (encL 2) (.mk 1 0 16777215 []) (.mk y.toNat [] [])]).isSome = true
      refine catO_some _ fun z hz => ?_
      simp only [List.mem_cons, List.not_mem_nil, or_false] at hz
      subst hz
      exact encOne_num (by omega) (by omega)
  have ht : encTop manF (manVs m) = encL 4 manF (manVs m) := by
    unfold encTop
    exact if_pos (by decide)
  obtain ⟨p, hp⟩ := Option.isSome_iff_exists.1 hs
  exact ⟨p, by unfold encM; rw [if_pos h, ht, hp], by rw [ht, hp]⟩
theorem Own.maxL {w : World} {base : Nat} {v : Value} {bs : List UInt8} (h : Own w base v bs) : bs.length ≤ maxLen := by
  rcases h.2 with ⟨_, h1⟩ | ⟨g', cap, cur, h1, h2, h3, h4, h5, _⟩
  · rw [h1]; exact Nat.zero_le _
  · unfold maxLen at h5 ⊢; omega
/-- What is decoded of a manifest's bytes. -/
theorem dec_back {W : World} {p : List UInt8} {m M : MM} {su : Value} {er : Int} (h : decIs W p M su er) (hm : okM m) (he : encTop manF (manVs m) = some p) : M = m ∧ er = 0 ∧ Wds W su m.u := by
  obtain ⟨_, _, hw, ⟨h1, h2, h3⟩ | ⟨_, _, _, h4⟩⟩ := h
  · obtain rfl := dec_one h2 hm h3 he
    exact ⟨rfl, h1, hw⟩
  · exact absurd he (h4 m hm)
end Go.Proofs.YthophonofaaafaaDoor
