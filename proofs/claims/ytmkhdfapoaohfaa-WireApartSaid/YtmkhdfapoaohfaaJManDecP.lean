/-
  What is proved here: what bytes decode to by a manifest's fields: the values of a manifest whose numbers may be.
  Conditions: none.
-/
import Derived.Test.YtmkhdfapoaohfaaJManEnc
import Derived.Test.YtmkhdfapoaohfaaJPackReader
import Derived.Test.YtmkhdfapoaohfaaJRecKit
namespace Go.Proofs.Ytmkhdfapoaohfaa
open Go.RowKit

theorem rec_sumM {v : List Val} {p : List UInt8} (h : encL 3 [sumF] v = some p) : ∃ x : BitVec 32, v = sumV x ∧ x.toNat < 16777216 := by
  have h : (if [sumF].length = v.length then catO (List.zipWith (encOne (encL 2)) [sumF] v) else none) = some p := h
  split at h
  · rename_i hl
    match v, hl with
    | [a], _ =>
      obtain ⟨q, r, hq, _⟩ := catO_consM h
      obtain ⟨n, rfl, _, h1⟩ := enc_numM hq
      refine ⟨BitVec.ofNat 32 n, ?_, ?_⟩
      · unfold sumV
        rw [BitVec.toNat_ofNat, Nat.mod_eq_of_lt (by omega)]
      · rw [BitVec.toNat_ofNat, Nat.mod_eq_of_lt (by omega)]
        omega
  · cases h
theorem recs_sumM : ∀ {l : List (List Val)} {q : List UInt8}, catO (l.map (encL 3 [sumF])) = some q → ∃ u : List (BitVec 32), l = u.map sumV ∧ ∀ x ∈ u, x.toNat < 16777216
  | [], _, _ => ⟨[], rfl, fun _ h => by cases h⟩
  | v :: l, q, h => by
    obtain ⟨a, r, ha, hr⟩ := catO_consM h
    obtain ⟨x, rfl, hx⟩ := rec_sumM ha
    obtain ⟨u, rfl, hu⟩ := recs_sumM hr
    refine ⟨x :: u, rfl, fun y hy => ?_⟩
    rcases List.mem_cons.1 hy with rfl | hy
    · exact hx
    · exact hu y hy
/-- A manifest whose numbers lie in the fields' bounds. -/
structure InB (m : MM) : Prop where
  v : 1 ≤ m.v ∧ m.v ≤ 1073741824
  s : 1 ≤ m.s ∧ m.s ≤ 32768
  c : 16 ≤ m.c ∧ m.c ≤ 1024
  h : m.h.length = 32
  u : 1 ≤ m.u.length ∧ m.u.length ≤ 128
  x : ∀ x ∈ m.u, x.toNat < 16777216
theorem man_shape {v : List Val} {p : List UInt8} (h : encL 4 manF v = some p) : ∃ m : MM, v = manVs m ∧ InB m := by
  have h : (if manF.length = v.length then catO (List.zipWith (encOne (encL 3)) manF v) else none) = some p := h
  split at h
  · rename_i hl
    match v, hl with
    | [a, b, c, d, e], _ =>
      obtain ⟨q1, r1, h1, hr1⟩ := catO_consM h
      obtain ⟨q2, r2, h2, hr2⟩ := catO_consM hr1
      obtain ⟨q3, r3, h3, hr3⟩ := catO_consM hr2
      obtain ⟨q4, r4, h4, hr4⟩ := catO_consM hr3
      obtain ⟨q5, r5, h5, _⟩ := catO_consM hr4
      obtain ⟨n1, rfl, a1, b1⟩ := enc_numM h1
      obtain ⟨n2, rfl, a2, b2⟩ := enc_numM h2
      obtain ⟨n3, rfl, a3, b3⟩ := enc_numM h3
      obtain ⟨bs, rfl, a4, b4⟩ := enc_bytM h4
      obtain ⟨l, q, rfl, a5, b5, hc⟩ := enc_recM h5
      obtain ⟨u, rfl, hu⟩ := recs_sumM hc
      rw [List.length_map] at a5 b5
      refine ⟨⟨n1, n2, n3, bs, u⟩, ?_, ⟨by show 1 ≤ (n1 : Int) ∧ (n1 : Int) ≤ _; omega, by show 1 ≤ (n2 : Int) ∧ (n2 : Int) ≤ _; omega, by show 16 ≤ (n3 : Int) ∧ (n3 : Int) ≤ _; omega, by show bs.length = 32; omega, ⟨a5, b5⟩, hu⟩⟩
      rfl
  · cases h
/-- What bytes decode to, as a manifest; the code of the fault. -/
theorem man_dec {s : List UInt8} {v : List Val} (h : decTop manF s = .ok v) : ∃ m : MM, v = manVs m ∧ InB m ∧ encTop manF (manVs m) = some s := by
  unfold decTop at h
  cases hm : mostL 4 manF with
  | none => rw [hm] at h; cases h
  | some k =>
    rw [hm] at h
    have h : (match decL 4 manF s with
      | some (v, []) => Except.ok v
      | _ => .error (2 : Int)) = .ok v := h
    split at h
    · rename_i v' hd
      cases h
      obtain ⟨p, hp, hs⟩ := decL_enc 4 manF k hm s _ [] hd
      obtain ⟨m, rfl, hB⟩ := man_shape hp
      refine ⟨m, rfl, hB, ?_⟩
      unfold encTop
      rw [hm]
      rw [List.append_nil] at hs
      rw [hs]
      exact hp
    · cases h
theorem most_manF : mostL 4 manF = some ((mostL 4 manF).getD 0) := by decide
theorem man_derr {s : List UInt8} {c : Int} (h : decTop manF s = .error c) : c = 2 := by
  unfold decTop at h
  rw [if_pos (by decide)] at h
  have h : (match decL 4 manF s with
      | some (v, []) => Except.ok v
      | _ => .error (2 : Int)) = .error c := h
  split at h
  · cases h
  · cases h; rfl
theorem man_wf : Fwf 4 manF := by
  have h0 : ∀ r, Fwf r [] := fun r => by
    cases r with
    | zero => trivial
    | succ r => exact fun _ h => by cases h
  have h1 : Fwf 3 [sumF] := fun f hf => by
    rcases List.mem_cons.1 hf with rfl | hf
    · exact ⟨by decide, h0 _⟩
    · cases hf
  intro f hf
  unfold manF at hf
  simp only [List.mem_cons, List.not_mem_nil, or_false] at hf
  rcases hf with rfl | rfl | rfl | rfl | rfl
  · exact ⟨by decide, h0 _⟩
  · exact ⟨by decide, h0 _⟩
  · exact ⟨by decide, h0 _⟩
  · exact ⟨by decide, h0 _⟩
  · exact ⟨by decide, h1⟩
theorem man_back {m : MM} {p : List UInt8} (h : encTop manF (manVs m) = some p) : decTop manF p = .ok (manVs m) := by
  unfold encTop at h
  rw [if_pos (by decide)] at h
  have hd := decL_dec 4 manF _ most_manF man_wf (manVs m) p [] h
  rw [List.append_nil] at hd
  unfold decTop
  rw [if_pos (by decide), hd]
end Go.Proofs.Ytmkhdfapoaohfaa
