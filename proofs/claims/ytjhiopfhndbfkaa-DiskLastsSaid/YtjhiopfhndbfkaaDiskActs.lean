/-
  What is proved here: plain facts on acts as they lie in memory.
  Conditions: those that each fact names.
-/
import Derived.Test.YtjhiopfhndbfkaaSegKit
namespace Go.Proofs.Ytjhiopfhndbfkaa
open Go.RowKit

structure ActP where
  act : Int
  k : Int
  n : Int
  b : List UInt8
  stay : List Bool
instance actP_inhabited : Inhabited ActP := ⟨⟨0, 0, 0, [], []⟩⟩
/-- Booleans lie here. -/
def BoolsIn (W : World) (v : Value) (l : List Bool) : Prop := ∃ ao c, v = .slice ao l.length c ∧ ∀ (j : Nat) b, l[j]? = some b → ∃ q off, ao = some ⟨q, off, none⟩ ∧ q < W.heap.size ∧ W.cell? ⟨q, off + j, none⟩ = some (.bool b)
/-- An act's bytes and booleans lie here. -/
structure ActAt (W : World) (bv sv : Value) (a : ActP) : Prop where
  b : Seg W bv a.b
  bm : a.b.length ≤ maxLen
  s : BoolsIn W sv a.stay
  sm : a.stay.length ≤ maxLen
/-- An act lies in these five cells. -/
def ActCells (W : World) (q off : Nat) (a : ActP) : Prop := q < W.heap.size ∧ W.cell? ⟨q, off, none⟩ = some (.int .i64 a.act) ∧ W.cell? ⟨q, off + 1, none⟩ = some (.int .i64 a.k) ∧ W.cell? ⟨q, off + 2, none⟩ = some (.int .i64 a.n) ∧ ∃ bv sv, W.cell? ⟨q, off + 3, none⟩ = some bv ∧ W.cell? ⟨q, off + 4, none⟩ = some sv ∧ ActAt W bv sv a
def ActsIn (W : World) (v : Value) (l : List ActP) : Prop := ∃ ao c, v = .slice ao l.length c ∧ l.length ≤ maxLen ∧ ∀ (i : Nat) a, l[i]? = some a → ∃ q off, ao = some ⟨q, off, none⟩ ∧ ActCells W q (off + 5 * i) a
theorem BoolsIn.below {w w' : World} {B : Nat} {v : Value} {l : List Bool} (h : BoolsIn w v l) (hb : Below B w w') (hB : w.heap.size ≤ B) : BoolsIn w' v l := by
  obtain ⟨ao, c, h1, h2⟩ := h
  refine ⟨ao, c, h1, fun j b hj => ?_⟩
  obtain ⟨q, off, e, hq, hc⟩ := h2 j b hj
  exact ⟨q, off, e, Nat.lt_of_lt_of_le hq hb.size, by rw [hb.cell (p := ⟨q, off + j, none⟩) (Nat.lt_of_lt_of_le hq hB)]; exact hc⟩
theorem ActAt.below {w w' : World} {B : Nat} {bv sv : Value} {a : ActP} (h : ActAt w bv sv a) (hb : Below B w w') (hB : w.heap.size ≤ B) : ActAt w' bv sv a := ⟨h.b.below hb hB, h.bm, h.s.below hb hB, h.sm⟩
theorem ActCells.below {w w' : World} {B q off : Nat} {a : ActP} (h : ActCells w q off a) (hb : Below B w w') (hB : w.heap.size ≤ B) : ActCells w' q off a := by
  obtain ⟨hq, h1, h2, h3, bv, sv, h4, h5, h6⟩ := h
  have hc : ∀ o, w'.cell? ⟨q, o, none⟩ = w.cell? ⟨q, o, none⟩ := fun o => hb.cell (p := ⟨q, o, none⟩) (Nat.lt_of_lt_of_le hq hB)
  exact ⟨Nat.lt_of_lt_of_le hq hb.size, (hc _).trans h1, (hc _).trans h2, (hc _).trans h3, bv, sv, (hc _).trans h4, (hc _).trans h5, h6.below hb hB⟩
theorem ActsIn.below {w w' : World} {B : Nat} {v : Value} {l : List ActP} (h : ActsIn w v l) (hb : Below B w w') (hB : w.heap.size ≤ B) : ActsIn w' v l := by
  obtain ⟨ao, c, h1, h2, h3⟩ := h
  refine ⟨ao, c, h1, h2, fun i a hi => ?_⟩
  obtain ⟨q, off, e, h4⟩ := h3 i a hi
  exact ⟨q, off, e, h4.below hb hB⟩
/-- Are acts longer than a test should be? -/
def muchB (l : List ActP) : Bool := (l.take 300).any fun a => decide (1000 < a.b.length) || decide (5000 < a.stay.length)
theorem muchB_false {l : List ActP} (h : muchB l = false) {i : Nat} {a : ActP} (hi : l[i]? = some a) (hl : i < 300) : a.b.length ≤ 1000 ∧ a.stay.length ≤ 5000 := by
  unfold muchB at h
  rw [List.any_eq_false] at h
  have hm : a ∈ l.take 300 := List.mem_of_getElem? (i := i) (by rw [List.getElem?_take_of_lt hl]; exact hi)
  have := h a hm
  simp only [Bool.or_eq_true, decide_eq_true_eq, not_or] at this
  omega
theorem muchB_step {l : List ActP} {I : Nat} {a : ActP} (h : ((l.take I).any fun a => decide (1000 < a.b.length) || decide (5000 < a.stay.length)) = false) (hi : l[I]? = some a) (hb : ¬ 1000 < a.b.length) (hs : ¬ 5000 < a.stay.length) : ((l.take (I + 1)).any fun a => decide (1000 < a.b.length) || decide (5000 < a.stay.length)) = false := by
  rw [List.take_add_one, hi, List.any_append, h]
  simp; omega
theorem muchB_hit {l : List ActP} {I : Nat} {a : ActP} (hI : I < 300) (hi : l[I]? = some a) (h : 1000 < a.b.length ∨ 5000 < a.stay.length) : muchB l = true := by
  unfold muchB
  rw [List.any_eq_true]
  refine ⟨a, List.mem_of_getElem? (i := I) (by rw [List.getElem?_take_of_lt hI]; exact hi), ?_⟩
  simpa using h
theorem muchB_done {l : List ActP} {I : Nat} (h : ((l.take I).any fun a => decide (1000 < a.b.length) || decide (5000 < a.stay.length)) = false) (hI : l.length ≤ I ∨ 300 ≤ I) : muchB l = false := by
  unfold muchB
  rw [List.any_eq_false] at h ⊢
  intro a ha
  refine h a ?_
  rcases hI with hI | hI
  · rw [List.take_of_length_le hI]; exact List.mem_of_mem_take ha
  · exact List.take_subset_take_left l hI ha

set_option maxRecDepth 100000 in
set_option maxHeartbeats 2000000 in
theorem much_any (v : Value) (l : List ActP) (w : World) (h : ActsIn w v l) : Calls Try.prog 13 #[v] w fun e w' => e = .returned (.bool (muchB l)) ∧ w' = w := by
  obtain ⟨ao, c, rfl, hm, hc⟩ := h
  unfold maxLen at hm
  obtain ⟨R, hR⟩ : ∃ R, R = muchB l := ⟨_, rfl⟩
  rw [← hR]
  have HR : Hid (R = muchB l) := hR
  clear hR
  go_enter Try.func13, Try.ntmps13
  go_wp2
  go_loop [3] (fun i => ∃ I : Nat, i = .int .i64 (I : Int) ∧ I ≤ l.length ∧ I ≤ 300 ∧ ((l.take I).any fun a => decide (1000 < a.b.length) || decide (5000 < a.stay.length)) = false) (fun i => 300 - (intOf i).toNat)
  case atStart => exact ⟨0, rfl, Nat.zero_le _, by omega, by simp⟩
  case round =>
    obtain ⟨I, rfl, hI, hI3, hno⟩ := hrel
    have HNO : Hid (((l.take I).any fun a => decide (1000 < a.b.length) || decide (5000 < a.stay.length)) = false) := hno
    clear hno
    by_cases h1 : I < l.length
    case neg =>
      have i1 : ¬ (I : Int) < (l.length : Int) := by omega
      go_wp2
      go_ret
      rw [HR.out, muchB_done HNO.out (.inl (by omega))]
      exact ⟨rfl, rfl⟩
    by_cases h2 : I < 300
    case neg =>
      have i1 : (I : Int) < (l.length : Int) := by omega
      have i2 : ¬ (I : Int) < 300 := by omega
      go_wp2
      go_ret
      rw [HR.out, muchB_done HNO.out (.inr (by omega))]
      exact ⟨rfl, rfl⟩
    have i1 : (I : Int) < (l.length : Int) := by omega
    have i2 : (I : Int) < 300 := by omega
    have hg : l[I]? = some l[I] := List.getElem?_eq_getElem h1
    obtain ⟨A, hA⟩ : ∃ A, l[I] = A := ⟨_, rfl⟩
    rw [hA] at hg
    clear hA
    obtain ⟨q, off, rfl, hq, d0, d1, d2, bv, sv, d3, d4, hat⟩ := hc I A hg
    obtain ⟨ab, cb, rfl⟩ := Seg.shapeD hat.b
    obtain ⟨as5, cs5, rfl, hbo⟩ := hat.s
    have HG : Hid (l[I]? = some A) := hg
    have e5 : off + 5 * I + 3 = off + I * 5 + 3 := by omega
    have e6 : off + 5 * I + 4 = off + I * 5 + 4 := by omega
    rw [e5] at d3
    rw [e6] at d4
    clear hc hg hbo
    by_cases hb : 1000 < A.b.length
    · have j1 : (1000 : Int) < (A.b.length : Int) := by omega
      go_wp2
      go_ret
      rw [HR.out, muchB_hit h2 HG.out (.inl hb)]
      exact ⟨rfl, rfl⟩
    have j1 : ¬ (1000 : Int) < (A.b.length : Int) := by omega
    by_cases hs : 5000 < A.stay.length
    · have j2 : (5000 : Int) < (A.stay.length : Int) := by omega
      go_wp2
      go_ret
      rw [HR.out, muchB_hit h2 HG.out (.inr hs)]
      exact ⟨rfl, rfl⟩
    have j2 : ¬ (5000 : Int) < (A.stay.length : Int) := by omega
    go_wp2
    go_round
    case rel => exact ⟨I + 1, by go_num, h1, h2, muchB_step HNO.out HG.out hb hs⟩
    case measure => simp [intOf]; omega
end Go.Proofs.Ytjhiopfhndbfkaa
