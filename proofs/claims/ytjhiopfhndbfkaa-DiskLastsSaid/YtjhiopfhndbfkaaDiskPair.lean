/-
  What is proved here: two new disks are alike and apart; an act's cells.
  Conditions: those that each fact names.
-/
import Derived.Test.YtjhiopfhndbfkaaDiskDoes
import Derived.Test.YtjhiopfhndbfkaaRefDiskNew
namespace Go.Proofs.Ytjhiopfhndbfkaa
open Go.RowKit Go.Maps

theorem Try.info38s : (Try.prog.info? 38).map (·.size) = some 5 := by kernel_rfl
/-- An act's five cells. -/
def actL (a : ActP) (bv sv : Value) : List Value := [.int .i64 a.act, .int .i64 a.k, .int .i64 a.n, bv, sv]
theorem ActCells.range {W : World} {q off : Nat} {a : ActP} (h : ActCells W q off a) : ∃ bv sv, W.rangeAt q off (actL a bv sv) ∧ ActAt W bv sv a := by
  obtain ⟨_, h0, h1, h2, bv, sv, h3, h4, h5⟩ := h
  refine ⟨bv, sv, fun j v hj => ?_, h5⟩
  unfold actL at hj
  match j, hj with
  | 0, hj => cases hj; exact h0
  | 1, hj => cases hj; exact h1
  | 2, hj => cases hj; exact h2
  | 3, hj => cases hj; exact h3
  | 4, hj => cases hj; exact h4
  | (j + 5), hj => simp at hj
theorem Pair.drewN {w : World} {L : PLay} {M : RLay} {s : DS} (h : Pair w L M s) (n : Nat) : Pair (w.drewN n) L M s := h.after (Below.drewN (Below.refl _ w) n)
/-- Two new disks. -/
theorem pair_new {w3 w4 : World} {L : PLay} {M : RLay} {n : Nat} (hD : PDisk w3 L (newS n)) (hb : Blk w3 L.g 60 (L.head (.slice none 0 0) false)) (hb4 : Below w3.heap.size w3 w4) (hR : RDisk w4 M (newS n)) (hE : M.E = L.T) (hT : ∀ q, M.T q → w3.heap.size ≤ q) : Pair w4 { L with E := M.T } M (newS n) := by
  have h4 := (hD.after hb4).avoid (hb.below hb4 hb.lt) M.T hR.lt
  exact ⟨h4, hR, fun _ h => h, fun q hq => by rw [hE]; exact hq, fun q hq e => by have h1 := hD.lt q hq; have h2 := hT q e; omega⟩
theorem refNew_at (z : Int) (n : Nat) (hz : z = (n : Int)) (w : World) (h1 : 1 ≤ n) (h2 : n ≤ 4096) (E : Nat → Prop) (hE : ∀ q, E q → q < w.heap.size) :
    Calls Try.prog 11 #[.int .i64 z] w fun e w' => ∃ L : RLay, e = .returned (.tuple #[.pointer (some ⟨L.g, 0, none⟩), .int .i64 0]) ∧ L.n = n ∧ L.E = E ∧ RDisk w' L (newS n) ∧ Below w.heap.size w w' ∧ ∀ q, L.T q → w.heap.size ≤ q := by
  subst hz; exact refNew_any n w h1 h2 E hE
end Go.Proofs.Ytjhiopfhndbfkaa
