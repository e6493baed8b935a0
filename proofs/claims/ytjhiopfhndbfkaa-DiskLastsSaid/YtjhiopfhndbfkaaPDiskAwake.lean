/-
  What is proved here: the small thing that the statements on the disk ask first is so.
  Conditions: none.
-/
import Derived.Test.YtjhiopfhndbfkaaPDiskWrite
import Derived.Test.YtjhiopfhndbfkaaPDiskNew
namespace Go.Proofs.Ytjhiopfhndbfkaa
open Go.RowKit Go.Maps

theorem writeS_awake : writeS (newS 2) 1 [7] = (0, putS (newS 2) 1 [7]) := rfl
theorem readS_awake : readS (putS (newS 2) 1 [7]) 1 = (padS [7], 0) := rfl
/-- Nothing is planned, and the power is on. -/
def calm (s : DS) : Prop := s.down = false ∧ s.next = []
theorem newS_calm (n : Nat) : calm (newS n) := ⟨rfl, rfl⟩
theorem mayS_calm {s : DS} (h : calm s) : mayS s = (0, s) := by
  obtain ⟨h1, h2⟩ := h
  unfold mayS
  rw [h1, h2]
  rfl
theorem writeS_calm {s : DS} (h : calm s) (k : Int) (b : List UInt8) : writeS s k b = if k < 0 ∨ (s.now.length : Int) ≤ k ∨ 128 < b.length then (1, s) else (0, putS s k.toNat b) := by
  unfold writeS
  rw [mayS_calm h]
  split
  · rfl
  · simp
theorem calm_put {s : DS} (h : calm s) (k : Nat) (b : List UInt8) : calm (putS s k b) := h
theorem calm_write {s : DS} (h : calm s) (k : Int) (b : List UInt8) : calm (writeS s k b).2 := by
  rw [writeS_calm h]
  split
  · exact h
  · exact h
theorem readS_calm {s : DS} (h : calm s) (k : Int) : readS s k = if k < 0 ∨ (s.now.length : Int) ≤ k then ([], 1) else (s.now.getD k.toNat [], 0) := by
  unfold readS
  rw [h.1]
  simp
theorem writeS_len (s : DS) (k : Int) (b : List UInt8) : (writeS s k b).2.now.length = s.now.length := by
  have hm : (mayS s).2.now.length = s.now.length := by
    rw [mayS_eq]
    split
    · rfl
    · split
      · rfl
      · split <;> rfl
  unfold writeS
  split
  · rfl
  · split
    · exact hm
    · show ((mayS s).2.now.set _ _).length = _; rw [List.length_set]; exact hm
theorem new_at (z : Int) (n : Nat) (hz : z = (n : Int)) (w : World) (h1 : 1 ≤ n) (h2 : n ≤ 4096) :
    Calls Try.prog 10 #[.int .i64 z] w fun e w' => ∃ L : PLay, e = .returned (.tuple #[.pointer (some ⟨L.g, 0, none⟩), .int .i64 0]) ∧ L.n = n ∧ PDisk w' L (newS n) ∧ Below w.heap.size w w' ∧ (∀ q, L.T q → w.heap.size ≤ q) ∧ Blk w' L.g 60 (L.head (.slice none 0 0) false) := by
  subst hz; exact new_any n w h1 h2
theorem below_chg {B : Nat} {w w1 w2 : World} {S : Nat → Prop} (h : Below B w w1) (hc : Chg S w1 w2) (hS : ∀ k, S k → B ≤ k) (hB : B ≤ w.heap.size) : Below B w w2 := h.trans (hc.below hS (Nat.le_trans hB h.size))
theorem own_new (w : World) (arr : List UInt8) : Seg (w.alloc (.cells (arr.map v8).toArray 5)) (.slice (some ⟨w.heap.size, 0, none⟩) arr.length arr.length) arr :=
  Seg.of_row (Blk.row (Blk.new w 5 _)) rfl (Nat.le_refl _) (by simp)

set_option maxRecDepth 100000 in
set_option maxHeartbeats 1000000 in
theorem awake5_any (w : World) : Calls Try.prog 9 #[] w fun e w' => e = .returned (.bool true) ∧ Below w.heap.size w w' := by
  have HN : Hid (Calls Try.prog 10 #[.int .i64 2] w fun e w' => ∃ L : PLay, e = .returned (.tuple #[.pointer (some ⟨L.g, 0, none⟩), .int .i64 0]) ∧ L.n = 2 ∧ PDisk w' L (newS 2) ∧ Below w.heap.size w w' ∧ (∀ q, L.T q → w.heap.size ≤ q) ∧ Blk w' L.g 60 (L.head (.slice none 0 0) false)) := new_any 2 w (by decide) (by decide)
  have HW : Hid (∀ (L : PLay) (W : World) (x : Value), PDisk W L (newS 2) → Seg W x [7] → (0 < [(7 : UInt8)].length → ∀ q, x.ownBlock = some q → ¬ L.T q) → Calls Try.prog 23 #[.pointer (some ⟨L.g, 0, none⟩), .int .i64 1, x] W fun e w' => e = .returned (.int .i64 0) ∧ PDisk w' L (putS (newS 2) 1 [7]) ∧ Chg L.T W w') := fun L W x h1 h2 h3 => write_any L (newS 2) 1 x [7] W h1 h2 h3
  have HR : Hid (∀ (L : PLay) (W : World), PDisk W L (putS (newS 2) 1 [7]) → Calls Try.prog 19 #[.pointer (some ⟨L.g, 0, none⟩), .int .i64 1] W fun e w' => ∃ v, e = .returned (.tuple #[v, .int .i64 0]) ∧ Own w' W.heap.size v (padS [7]) ∧ Below W.heap.size W w') := fun L W h => read_any L (putS (newS 2) 1 [7]) 1 W h
  go_enter Try.func9, Try.ntmps9
  go_wp2_with (first | (go_at_call 10; refine HN.out.mono ?_; rintro e w1 ⟨L, rfl, hn, hD1, hB1, hT1, -⟩) | (go_at_call 23; refine (HW.out L _ _ (hD1.after ((Below.refl _ w1).alloc (Nat.le_refl _) _)) (own_new w1 [7]) (fun _ q hq e => by have := hD1.lt q e; simp [Value.ownBlock] at hq; omega)).mono ?_; rintro e w2 ⟨rfl, hD2, hc2⟩) | (go_at_call 19; refine (HR.out L _ hD2).mono ?_; rintro e w3 ⟨v3, rfl, ho3, hB3⟩; obtain ⟨g3, c3, rfl, hg3, hl3, hc3, hr3⟩ := ho3.form (by decide); have hlen : (padS [7]).length = 128 := rfl; have d0 := hr3 0 (by decide); rw [hlen] at hc3))
  go_ret
  have hB1' := hB1.alloc hB1.size (.cells #[.int .u8 7] 5)
  exact ⟨rfl, (hB1'.trans (hc2.below hT1 hB1'.size)).trans (hB3.mono (Nat.le_trans hB1'.size hc2.size))⟩
end Go.Proofs.Ytjhiopfhndbfkaa
