/-
  What is proved here: plain facts: behind a nought nothing is held; frames one behind the other are told as they were.
  Conditions: none.
-/
import Derived.Test.YtchbfhckocfjhaaDoorFrameJoin
import Derived.Test.YtchbfhckocfjhaaDoorFramePut
namespace Go.Proofs.YtchbfhckocfjhaaDoor

/-- The frame of bytes that are not too many. -/
def frameOf (b : List UInt8) : List UInt8 := stuff (b ++ sumB (crcOf b)) ++ [0]
theorem open_seal (b : List UInt8) : openOf (b ++ sumB (crcOf b)) = some b := by
  have hl : (b ++ sumB (crcOf b)).length = b.length + 3 := by rw [List.length_append]; rfl
  have ht : (b ++ sumB (crcOf b)).take ((b ++ sumB (crcOf b)).length - 3) = b := by rw [hl, Nat.add_sub_cancel]; simp
  unfold openOf
  rw [if_neg (by omega), ht, if_pos rfl]
theorem taken_frame (b : List UInt8) (h : b.length ≤ 2048) : takenOf (stuff (b ++ sumB (crcOf b))) = some b := by
  unfold takenOf
  rw [plainOf_stuff]
  dsimp only
  rw [open_seal]
  dsimp only
  rw [if_neg (by omega)]
theorem feed_nz (u : List UInt8) : ∀ (s : FS), (0 : UInt8) ∉ u → s.held.length + u.length ≤ 2100 → feedS s u = { s with held := s.held ++ u } := by
  induction u with
  | nil => intro s _ _; simp [feedS]
  | cons x t ih =>
    intro s h0 hl
    simp only [List.mem_cons, not_or] at h0
    simp only [List.length_cons] at hl
    have e : feedS s (x :: t) = feedS (fstep s x) t := rfl
    have e2 : fstep s x = { s with held := s.held ++ [x] } := by
      unfold fstep
      rw [if_neg (fun e => h0.1 e.symm)]
      unfold fhold
      rw [if_neg (by omega)]
    rw [e, e2, ih _ h0.2 (by simp; omega)]
    simp
/-- A nought leaves nothing held. -/
theorem fend_clear (s : FS) (h : s.ok) : (fend s).held = [] ∧ (fend s).sp = false := by
  unfold fend
  split
  · rename_i h0
    refine ⟨List.eq_nil_of_length_eq_zero h0, ?_⟩
    cases hs : s.sp with
    | false => rfl
    | true => have := h.2 hs; omega
  · split <;> exact ⟨rfl, rfl⟩
theorem feed_noise (s : FS) (h : s.ok) (u : List UInt8) : (feedS s (u ++ [0])).held = [] ∧ (feedS s (u ++ [0])).sp = false := by
  rw [feedS_append]
  have e : feedS (feedS s u) [0] = fend (feedS s u) := rfl
  rw [e]
  exact fend_clear _ (FS.ok_feed u s h)
theorem feed_frame (t : List (List UInt8)) (n : Nat) (b : List UInt8) (h : b.length ≤ 2048) : feedS ⟨[], false, t, n⟩ (frameOf b) = ⟨[], false, t ++ [b], n⟩ := by
  unfold frameOf
  have hl : (b ++ sumB (crcOf b)).length = b.length + 3 := by rw [List.length_append]; rfl
  have hs := stuff_len _ (b ++ sumB (crcOf b)) (Nat.le_refl _)
  rw [hl] at hs
  rw [feedS_append, feed_nz _ _ (stuff_nz _ _ (Nat.le_refl _)) (by simp only [List.length_nil]; omega)]
  have e : ∀ s, feedS s [0] = fend s := fun _ => rfl
  rw [e]
  unfold fend
  simp only [List.nil_append]
  rw [if_neg (by omega)]
  simp [taken_frame b h]
theorem feed_frames (L : List (List UInt8)) : ∀ (t : List (List UInt8)) (n : Nat), (∀ b ∈ L, b.length ≤ 2048) → feedS ⟨[], false, t, n⟩ (L.flatMap frameOf) = ⟨[], false, t ++ L, n⟩ := by
  induction L with
  | nil => intro t n _; simp [feedS]
  | cons b L ih =>
    intro t n h
    rw [List.flatMap_cons, feedS_append, feed_frame t n b (h b (by simp)), ih _ _ (fun x hx => h x (by simp [hx]))]
    simp
theorem frameOf_len (b : List UInt8) (h : b.length ≤ 2048) : (frameOf b).length ≤ 2065 := by
  unfold frameOf
  have hl : (b ++ sumB (crcOf b)).length = b.length + 3 := by rw [List.length_append]; rfl
  have hs := (stuff_len _ (b ++ sumB (crcOf b)) (Nat.le_refl _)).2
  rw [hl] at hs
  rw [List.length_append]
  simp only [List.length_cons, List.length_nil]
  omega
theorem frames_len (L : List (List UInt8)) (h : ∀ b ∈ L, b.length ≤ 2048) : (L.flatMap frameOf).length ≤ 2065 * L.length := by
  induction L with
  | nil => simp
  | cons b L ih =>
    have h1 := frameOf_len b (h b (by simp))
    have h2 := ih (fun x hx => h x (by simp [hx]))
    rw [List.flatMap_cons, List.length_append, List.length_cons]
    omega
theorem putOf_frame (b : List UInt8) (h : b.length ≤ 2048) : putOf b = some (frameOf b) := by
  unfold putOf frameOf; rw [if_neg (by omega)]
end Go.Proofs.YtchbfhckocfjhaaDoor
