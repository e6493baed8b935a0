/-
  What is proved here: plain facts on a keeper whose flash keeps its power: the entry of the last Save is the greatest one, and it is found again.
  Conditions: the flash is not armed, and no block is worn out.
-/
import Derived.Test.YtoemdmfpcobadaaDoorJBootAwake
namespace Go.Proofs.YtoemdmfpcobadaaDoor
open Go.RowKit

/-- A place's bytes in a flash. -/
def plB (s : FS) (q i : Nat) : List UInt8 := cellB (blkB s q) i
theorem pl_at (s : FS) (q i : Nat) (hi : i < 32) : plB s q i = (s.b.drop (1024 * q + 32 * i)).take 32 := by
  unfold plB cellB blkB
  rw [List.drop_take, List.take_take, List.drop_drop]
  congr 1
  omega
theorem part_getD (l : List UInt8) (a n i : Nat) (hi : i < n) : ((l.drop a).take n).getD i 0 = l.getD (a + i) 0 := by
  rw [List.getD_eq_getElem?_getD, List.getElem?_take_of_lt hi, List.getElem?_drop, ← List.getD_eq_getElem?_getD]
theorem part_len (l : List UInt8) (a n : Nat) (h : a + n ≤ l.length) : ((l.drop a).take n).length = n := by
  rw [List.length_take, List.length_drop]
  omega
theorem rep_getD (n i : Nat) (h : i < n) : (List.replicate n (255 : UInt8)).getD i 0 = 255 := by
  rw [List.getD_eq_getElem?_getD, List.getElem?_replicate, if_pos h]
  rfl
/-- Programmed elsewhere: as it was. -/
theorem prog_else (l bs : List UInt8) (a c : Nat) (hc : c + 32 ≤ l.length) (hd : c + 32 ≤ a ∨ a + 32 ≤ c) : ((progL l a bs 32).drop c).take 32 = (l.drop c).take 32 := by
  refine bytes_ext (by rw [part_len _ _ _ (by rw [progL_len]; exact hc), part_len _ _ _ hc]) fun i hi => ?_
  rw [part_len _ _ _ (by rw [progL_len]; exact hc)] at hi
  rw [part_getD _ _ _ _ hi, part_getD _ _ _ _ hi, progL_at _ _ _ _ _ (by omega), if_neg (by omega)]
theorem and_255 (x : UInt8) : 255 &&& x = x := by
  apply UInt8.eq_of_toBitVec_eq
  have : (255 &&& x).toBitVec = 255#8 &&& x.toBitVec := rfl
  rw [this]
  exact BitVec.allOnes_and
/-- Programmed where all is ones: what was programmed. -/
theorem prog_here (l bs : List UInt8) (a : Nat) (hc : a + 32 ≤ l.length) (hb : bs.length = 32) (ho : (l.drop a).take 32 = List.replicate 32 255) : ((progL l a bs 32).drop a).take 32 = bs := by
  refine bytes_ext (by rw [part_len _ _ _ (by rw [progL_len]; exact hc), hb]) fun i hi => ?_
  rw [part_len _ _ _ (by rw [progL_len]; exact hc)] at hi
  have h1 := part_getD l a 32 i hi
  rw [ho] at h1
  have h2 := rep_getD 32 i hi
  rw [part_getD _ _ _ _ hi, progL_at _ _ _ _ _ (by omega), if_pos (by omega), ← h1, h2, show a + i - a = i by omega, and_255]
theorem ones_else (l : List UInt8) (a c : Nat) (hc : c + 32 ≤ l.length) (hd : c + 32 ≤ a ∨ a + 1024 ≤ c) : ((onesL l a 1024).drop c).take 32 = (l.drop c).take 32 := by
  refine bytes_ext (by rw [part_len _ _ _ (by rw [onesL_len]; exact hc), part_len _ _ _ hc]) fun i hi => ?_
  rw [part_len _ _ _ (by rw [onesL_len]; exact hc)] at hi
  rw [part_getD _ _ _ _ hi, part_getD _ _ _ _ hi, onesL_at _ _ _ _ (by omega), if_neg (by omega)]
theorem ones_here (l : List UInt8) (a c : Nat) (hc : c + 32 ≤ l.length) (h1 : a ≤ c) (h2 : c + 32 ≤ a + 1024) : ((onesL l a 1024).drop c).take 32 = List.replicate 32 255 := by
  refine bytes_ext (by rw [part_len _ _ _ (by rw [onesL_len]; exact hc), List.length_replicate]) fun i hi => ?_
  rw [part_len _ _ _ (by rw [onesL_len]; exact hc)] at hi
  rw [part_getD _ _ _ _ hi, onesL_at _ _ _ _ (by omega), if_pos (by omega), rep_getD 32 i hi]
/-- The flash keeps its power, and is not worn out: at most so many times erased. -/
structure Well (s : FS) (n e : Nat) : Prop where
  ok : s.ok n
  up : s.down = false
  un : s.armed < 0
  most : s.most = 10000
  worn : ∀ x ∈ s.worn, x ≤ e
/-- In the two blocks from j on the entry of generation G and record R is the greatest. -/
structure Last9 (s : FS) (j G : Nat) (R : BR) : Prop where
  le : ∀ wh i p, wh ≤ 1 → i < 32 → decE (plB s (j + wh) i) = some p → p.1 ≤ G ∧ (p.1 = G → p.2 = R)
  zero : G = 0 → R = BR.zero
/-- A keeper of it. -/
structure Keeps9 (s : FS) (j : Nat) (k : KS) : Prop where
  last : Last9 s j k.gen k.r
  wh : k.wh ≤ 1
  br : k.br = false
  at_ : (k.gen = 0 ∧ k.la = -1) ∨ ∃ i : Nat, i < 32 ∧ k.la = (i : Int) ∧ decE (plB s (j + k.wh) i) = some (k.gen, k.r)
theorem decE_pos {c : List UInt8} {p : Nat × BR} (h : decE c = some p) : 1 ≤ p.1 := by
  unfold decE at h
  split at h
  · cases h
  · split at h
    · cases h
    · split at h
      · cases h
      · split at h
        · rename_i hx
          cases h
          exact hx.1
        · cases h
/-- What a look finds: nothing greater than what stands there. -/
theorem see_steps (s : FS) (j wh : Nat) (k0 : KS) (hw0 : k0.wh ≤ 1) (hw : wh ≤ 1) (h0 : (k0.gen = 0 ∧ k0.la = -1) ∨ ∃ i : Nat, i < 32 ∧ k0.la = (i : Int) ∧ decE (plB s (j + k0.wh) i) = some (k0.gen, k0.r)) (hz : k0.gen = 0 → k0.r = BR.zero) : ∀ (l : List Nat), (∀ i ∈ l, i < 32) →
    ((l.foldl (seeK wh (blkB s (j + wh))) k0).wh ≤ 1 ∧ (l.foldl (seeK wh (blkB s (j + wh))) k0).br = k0.br ∧ k0.gen ≤ (l.foldl (seeK wh (blkB s (j + wh))) k0).gen ∧ ((l.foldl (seeK wh (blkB s (j + wh))) k0).gen = 0 → (l.foldl (seeK wh (blkB s (j + wh))) k0).r = BR.zero) ∧
      (((l.foldl (seeK wh (blkB s (j + wh))) k0).gen = 0 ∧ (l.foldl (seeK wh (blkB s (j + wh))) k0).la = -1) ∨ ∃ i : Nat, i < 32 ∧ (l.foldl (seeK wh (blkB s (j + wh))) k0).la = (i : Int) ∧ decE (plB s (j + (l.foldl (seeK wh (blkB s (j + wh))) k0).wh) i) = some ((l.foldl (seeK wh (blkB s (j + wh))) k0).gen, (l.foldl (seeK wh (blkB s (j + wh))) k0).r)) ∧
      ∀ i ∈ l, ∀ p, decE (plB s (j + wh) i) = some p → p.1 ≤ (l.foldl (seeK wh (blkB s (j + wh))) k0).gen) := by
  intro l
  obtain ⟨zs, rfl⟩ : ∃ zs, l = zs.reverse := ⟨l.reverse, by simp⟩
  induction zs with
  | nil => intro _; exact ⟨hw0, rfl, Nat.le_refl _, hz, h0, fun i hi => by cases hi⟩
  | cons x t ih =>
    rw [List.reverse_cons]
    generalize t.reverse = l at *
    intro hl
    obtain ⟨i1, i2, i3, i4, i5, i6⟩ := ih (fun i hi => hl i (List.mem_append_left _ hi))
    have hx : x < 32 := hl x (List.mem_append_right _ List.mem_cons_self)
    rw [List.foldl_append, List.foldl_cons, List.foldl_nil]
    generalize l.foldl (seeK wh (blkB s (j + wh))) k0 = k at *
    unfold seeK
    have hpl : cellB (blkB s (j + wh)) x = plB s (j + wh) x := rfl
    rw [hpl]
    cases hd : decE (plB s (j + wh) x) with
    | none =>
      refine ⟨i1, i2, i3, i4, i5, fun i hi p hp => ?_⟩
      rcases List.mem_append.1 hi with h | h
      · exact i6 i h p hp
      · rw [List.mem_singleton.1 h, hd] at hp; cases hp
    | some q =>
      dsimp only
      by_cases hg : k.gen < q.1
      · rw [if_pos hg]
        refine ⟨hw, i2, by show k0.gen ≤ q.1; omega, fun h => by have h2 : q.1 = 0 := h; omega, .inr ⟨x, hx, rfl, hd⟩, fun i hi p hp => ?_⟩
        rcases List.mem_append.1 hi with h | h
        · have := i6 i h p hp; show p.1 ≤ q.1; omega
        · rw [List.mem_singleton.1 h, hd] at hp; cases hp; exact Nat.le_refl _
      · rw [if_neg hg]
        refine ⟨i1, i2, i3, i4, i5, fun i hi p hp => ?_⟩
        rcases List.mem_append.1 hi with h | h
        · exact i6 i h p hp
        · rw [List.mem_singleton.1 h, hd] at hp; cases hp; omega
/-- Opened again it is that entry. -/
theorem find_keeps {s : FS} {j G : Nat} {R : BR} (hL : Last9 s j G R) (hE : 0 < G → ∃ wh i : Nat, wh ≤ 1 ∧ i < 32 ∧ decE (plB s (j + wh) i) = some (G, R)) : Keeps9 s j (findK s j) ∧ (findK s j).gen = G ∧ (findK s j).r = R := by
  have r32 : ∀ i ∈ List.range 32, i < 32 := fun i hi => List.mem_range.1 hi
  obtain ⟨a1, a2, a3, a4, a5, a6⟩ := see_steps s j 0 KS.first (by decide) (by decide) (.inl ⟨rfl, rfl⟩) (fun _ => rfl) (List.range 32) r32
  obtain ⟨b1, b2, b3, b4, b5, b6⟩ := see_steps s j 1 _ a1 (by decide) a5 a4 (List.range 32) r32
  have hfk : findK s j = (List.range 32).foldl (seeK 1 (blkB s (j + 1))) ((List.range 32).foldl (seeK 0 (blkB s (j + 0))) KS.first) := rfl
  rw [← hfk] at b1 b2 b3 b4 b5 b6
  generalize findK s j = k at *
  have hle : k.gen ≤ G := by
    rcases b5 with h | ⟨i, h1, _, h3⟩
    · omega
    · exact (hL.le k.wh i _ b1 h1 h3).1
  have hge : G ≤ k.gen := by
    by_cases h0 : 0 < G
    · obtain ⟨wh, i, h1, h2, h3⟩ := hE h0
      rcases Nat.lt_or_ge wh 1 with h | h
      · obtain rfl : wh = 0 := by omega
        have := a6 i (List.mem_range.2 h2) _ h3
        have h5 : G ≤ _ := this
        omega
      · obtain rfl : wh = 1 := by omega
        exact b6 i (List.mem_range.2 h2) _ h3
    · omega
  have hG : k.gen = G := by omega
  have hR : k.r = R := by
    rcases b5 with h | ⟨i, h1, _, h3⟩
    · rw [b4 h.1, hL.zero (by omega)]
    · exact (hL.le k.wh i _ b1 h1 h3).2 hG
  refine ⟨⟨by rw [hG, hR]; exact hL, b1, by rw [b2, a2]; rfl, b5⟩, hG, hR⟩
end Go.Proofs.YtoemdmfpcobadaaDoor
