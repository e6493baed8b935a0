/-
  What is proved here: plain facts on acts as they lie in memory.
  Conditions: those that each fact names.
-/
import Derived.Test.YtjcbkimibmdggaaFlashI
namespace Go.Proofs.Ytjcbkimibmdggaa
open Go.RowKit

def IsBool (e : Ending) : Prop := ∃ b, e = .returned (.bool b)
structure Act6 where
  act : Int
  k : Int
  n : Int
  b : List UInt8
/-- An act's numbers are such, and its bytes lie here. -/
structure At6 (W : World) (bv : Value) (a : Act6) : Prop where
  b : Seg W bv a.b
  bm : a.b.length ≤ maxLen
  act : R64 a.act
  k : R64 a.k
  n : R64 a.n
/-- An act lies in these four cells. -/
def Cells6 (W : World) (q off : Nat) (a : Act6) : Prop := q < W.heap.size ∧ W.cell? ⟨q, off, none⟩ = some (.int .i64 a.act) ∧ W.cell? ⟨q, off + 1, none⟩ = some (.int .i64 a.k) ∧ W.cell? ⟨q, off + 2, none⟩ = some (.int .i64 a.n) ∧ ∃ bv, W.cell? ⟨q, off + 3, none⟩ = some bv ∧ At6 W bv a
def Acts6 (W : World) (v : Value) (l : List Act6) : Prop := ∃ ao c, v = .slice ao l.length c ∧ l.length ≤ maxLen ∧ ∀ (i : Nat) a, l[i]? = some a → ∃ q off, ao = some ⟨q, off, none⟩ ∧ Cells6 W q (off + 4 * i) a
theorem At6.below {w w' : World} {B : Nat} {bv : Value} {a : Act6} (h : At6 w bv a) (hb : Below B w w') (hB : w.heap.size ≤ B) : At6 w' bv a := ⟨h.b.below hb hB, h.bm, h.act, h.k, h.n⟩
theorem Cells6.below {w w' : World} {B q off : Nat} {a : Act6} (h : Cells6 w q off a) (hb : Below B w w') (hB : w.heap.size ≤ B) : Cells6 w' q off a := by
  obtain ⟨hq, h1, h2, h3, bv, h4, h6⟩ := h
  have hc : ∀ o, w'.cell? ⟨q, o, none⟩ = w.cell? ⟨q, o, none⟩ := fun o => hb.cell (p := ⟨q, o, none⟩) (Nat.lt_of_lt_of_le hq hB)
  exact ⟨Nat.lt_of_lt_of_le hq hb.size, (hc _).trans h1, (hc _).trans h2, (hc _).trans h3, bv, (hc _).trans h4, h6.below hb hB⟩
theorem Acts6.below {w w' : World} {B : Nat} {v : Value} {l : List Act6} (h : Acts6 w v l) (hb : Below B w w') (hB : w.heap.size ≤ B) : Acts6 w' v l := by
  obtain ⟨ao, c, h1, h2, h3⟩ := h
  refine ⟨ao, c, h1, h2, fun i a hi => ?_⟩
  obtain ⟨q, off, e, h4⟩ := h3 i a hi
  exact ⟨q, off, e, h4.below hb hB⟩

set_option maxRecDepth 100000 in
set_option maxHeartbeats 2000000 in
theorem much6_any (v : Value) (l : List Act6) (w : World) (h : Acts6 w v l) : Calls Try.prog 13 #[v] w fun e w' => IsBool e ∧ w = w' := by
  obtain ⟨ao, c, rfl, hm, hc⟩ := h
  unfold maxLen at hm
  go_enter Try.func13, Try.ntmps13
  go_wp2
  go_loop [3, 4] (fun n i => ∃ N I : Nat, n = .int .i64 (N : Int) ∧ N ≤ 100000 ∧ i = .int .i64 (I : Int) ∧ I ≤ l.length ∧ I ≤ 200) (fun _ i => 200 - (intOf i).toNat)
  case atStart => exact ⟨0, 0, rfl, by omega, rfl, Nat.zero_le _, by omega⟩
  case round =>
    obtain ⟨N, I, rfl, hN, rfl, hI, hI3⟩ := hrel
    by_cases h1 : I < l.length
    case neg =>
      have i1 : ¬ (I : Int) < (l.length : Int) := by omega
      go_wp2
      go_ret
      exact ⟨⟨_, rfl⟩, rfl⟩
    by_cases h2 : I < 200
    case neg =>
      have i1 : (I : Int) < (l.length : Int) := by omega
      have i2 : ¬ (I : Int) < 200 := by omega
      go_wp2
      go_ret
      exact ⟨⟨_, rfl⟩, rfl⟩
    have i1 : (I : Int) < (l.length : Int) := by omega
    have i2 : (I : Int) < 200 := by omega
    have hg : l[I]? = some l[I] := List.getElem?_eq_getElem h1
    obtain ⟨A, hA⟩ : ∃ A, l[I] = A := ⟨_, rfl⟩
    rw [hA] at hg
    clear hA
    obtain ⟨q, off, rfl, hq, d0, d1, d2, bv, d3, hat⟩ := hc I A hg
    obtain ⟨ab, cb, rfl⟩ := Seg.shapeD hat.b
    have e5 : off + 4 * I + 3 = off + I * 4 + 3 := by omega
    rw [e5] at d3
    clear hc hg
    by_cases hb : 6000 < A.b.length
    · have j1 : (6000 : Int) < (A.b.length : Int) := by omega
      go_wp2
      go_ret
      exact ⟨⟨_, rfl⟩, rfl⟩
    have j1 : ¬ (6000 : Int) < (A.b.length : Int) := by omega
    have hj3 : A.b.length ≤ 6000 := by omega
    by_cases hs : 100000 < N + A.b.length
    · have j2 : (100000 : Int) < (N : Int) + (A.b.length : Int) := by omega
      go_wp2
      go_ret
      exact ⟨⟨_, rfl⟩, rfl⟩
    have j2 : ¬ (100000 : Int) < (N : Int) + (A.b.length : Int) := by omega
    go_wp2
    go_round
    case rel => exact ⟨N + A.b.length, I + 1, by go_num, by omega, by go_num, h1, h2⟩
    case measure => simp [intOf]; omega
end Go.Proofs.Ytjcbkimibmdggaa
