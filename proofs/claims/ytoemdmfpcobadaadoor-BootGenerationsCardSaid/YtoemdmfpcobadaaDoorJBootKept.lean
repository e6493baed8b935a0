/-
  What is proved here: plain facts on Save with the power on: it is OK, its entry is the greatest one behind it, and the keeper keeps it.
  Conditions: the flash is not armed, and no block is worn out.
-/
import Derived.Test.YtoemdmfpcobadaaDoorJBootHeld
namespace Go.Proofs.YtoemdmfpcobadaaDoor
open Go.RowKit

theorem prog_well {s : FS} {n e : Nat} (h : Well s n e) (a : Nat) (bs : List UInt8) (hb : bs.length = 32) (ha : a + 32 ≤ 1024 * n) : programF s (a : Int) bs = (0, { s with b := progL s.b a bs 32 }) := by
  unfold programF
  have hl := h.ok.b
  rw [hb, there9 (by decide) (by decide) (by omega) (by rw [hl]; omega), if_neg (by decide), if_neg (show ¬ s.down = true by rw [h.up]; decide)]
  have hg : goesF s 32 = (32, 0, s) := by unfold goesF; rw [if_pos h.un]
  rw [hg]
  rfl
theorem erase_well {s : FS} {n e : Nat} (h : Well s n e) (q : Nat) (hq : q < n) (he : e < 10000) : eraseF s (q : Int) = (0, { s with b := onesL s.b (1024 * q) 1024, worn := s.worn.set q (s.worn.getD q 0 + 1) }) := by
  unfold eraseF
  have hl := h.ok.worn
  have hx : s.worn.getD q 0 ≤ e := by
    rw [List.getD_eq_getElem?_getD, List.getElem?_eq_getElem (by omega)]
    exact h.worn _ (List.getElem_mem _)
  have hm := h.most
  rw [if_neg (by omega), if_neg (show ¬ s.down = true by rw [h.up]; decide), Int.toNat_natCast, if_neg (by omega)]
  have hg : goesF s 1024 = (1024, 0, s) := by unfold goesF; rw [if_pos h.un]
  rw [hg]
theorem Well.prog {s : FS} {n e : Nat} (h : Well s n e) (a : Nat) (bs : List UInt8) : Well { s with b := progL s.b a bs 32 } n e :=
  ⟨h.ok.bytes _ (progL_len ..), h.up, h.un, h.most, h.worn⟩
theorem Well.more {s : FS} {n e : Nat} (h : Well s n e) : Well s n (e + 1) := ⟨h.ok, h.up, h.un, h.most, fun x hx => Nat.le_succ_of_le (h.worn x hx)⟩
theorem Well.erase {s : FS} {n e : Nat} (h : Well s n e) (q : Nat) (hq : q < n) (he : e < 10000) : Well { s with b := onesL s.b (1024 * q) 1024, worn := s.worn.set q (s.worn.getD q 0 + 1) } n (e + 1) := by
  have hl := h.ok.worn
  have hx : s.worn.getD q 0 ≤ e := by
    rw [List.getD_eq_getElem?_getD, List.getElem?_eq_getElem (by omega)]
    exact h.worn _ (List.getElem_mem _)
  have hmem : ∀ x ∈ s.worn.set q (s.worn.getD q 0 + 1), x ≤ e + 1 := fun x hx2 => by
    rcases List.mem_or_eq_of_mem_set hx2 with h2 | h2
    · exact Nat.le_succ_of_le (h.worn x h2)
    · omega
  have hm := h.most
  refine ⟨⟨by show (onesL s.b _ _).length = _; rw [onesL_len]; exact h.ok.b, by show (s.worn.set _ _).length = _; rw [List.length_set]; exact h.ok.worn, h.ok.one, h.ok.cap, h.ok.most, fun x hx2 => ?_, h.ok.armed, h.ok.done⟩, h.up, h.un, h.most, hmem⟩
  have := hmem x hx2
  show x ≤ s.most
  omega
theorem room_some {b : List UInt8} {la : Int} {i : Nat} (h : roomI b la = some i) : i < 32 ∧ (cellB b i).all (· == 255) = true := by
  unfold roomI at h
  refine ⟨List.mem_range.1 (List.mem_of_find?_eq_some h), ?_⟩
  have := List.find?_some h
  rw [Bool.and_eq_true] at this
  exact this.2
theorem all_ones {l : List UInt8} {n : Nat} (hl : l.length = n) (h : l.all (· == 255) = true) : l = List.replicate n 255 := by
  rw [List.eq_replicate_iff]
  refine ⟨hl, fun b hb => ?_⟩
  have := List.all_eq_true.1 h b hb
  simpa using this
theorem pl_len {s : FS} {n : Nat} (h : s.ok n) (q i : Nat) (hq : q < n) (hi : i < 32) : (plB s q i).length = 32 := by
  rw [pl_at s q i hi, part_len _ _ _ (by rw [h.b]; omega)]
/-- An entry is programmed at a free place. -/
theorem put_last {s : FS} {n e j G : Nat} {R : BR} (h : Well s n e) (hL : Last9 s j G R) (hj : j + 1 < n) (wh i : Nat) (hw : wh ≤ 1) (hi : i < 32) (hfree : plB s (j + wh) i = List.replicate 32 255) (r : BR) (hr : r.ok) (hG : G + 1 ≤ 1073741824) :
    Last9 { s with b := progL s.b (1024 * (j + wh) + 32 * i) (entB (G + 1) r) 32 } j (G + 1) r ∧ decE (plB { s with b := progL s.b (1024 * (j + wh) + 32 * i) (entB (G + 1) r) 32 } (j + wh) i) = some (G + 1, r) := by
  have hb := h.ok.b
  have hnew : plB { s with b := progL s.b (1024 * (j + wh) + 32 * i) (entB (G + 1) r) 32 } (j + wh) i = entB (G + 1) r := by
    rw [pl_at _ _ _ hi]
    rw [pl_at _ _ _ hi] at hfree
    exact prog_here s.b _ _ (by omega) (entB_len _ _) hfree
  have hdec := decE_ent (G + 1) r (by omega) hG hr
  refine ⟨⟨fun wh' i' p hw' hi' hp => ?_, fun h0 => by omega⟩, by rw [hnew]; exact hdec⟩
  by_cases hsame : wh' = wh ∧ i' = i
  · obtain ⟨rfl, rfl⟩ := hsame
    rw [hnew, hdec] at hp
    cases hp
    exact ⟨Nat.le_refl _, fun _ => rfl⟩
  · have hold : plB { s with b := progL s.b (1024 * (j + wh) + 32 * i) (entB (G + 1) r) 32 } (j + wh') i' = plB s (j + wh') i' := by
      rw [pl_at _ _ _ hi', pl_at _ _ _ hi']
      exact prog_else s.b _ _ _ (by omega) (by omega)
    rw [hold] at hp
    have := (hL.le wh' i' p hw' hi' hp).1
    exact ⟨by omega, fun h2 => by omega⟩
/-- The other block is erased. -/
theorem erase_last {s : FS} {n e j G : Nat} {R : BR} (h : Well s n e) (hL : Last9 s j G R) (hj : j + 1 < n) (wh : Nat) (hw : wh ≤ 1) (wn : List Nat) :
    Last9 { s with b := onesL s.b (1024 * (j + wh)) 1024, worn := wn } j G R ∧ ∀ i, i < 32 → plB { s with b := onesL s.b (1024 * (j + wh)) 1024, worn := wn } (j + wh) i = List.replicate 32 255 := by
  have hb := h.ok.b
  have hnew : ∀ i, i < 32 → plB { s with b := onesL s.b (1024 * (j + wh)) 1024, worn := wn } (j + wh) i = List.replicate 32 255 := fun i hi => by
    rw [pl_at _ _ _ hi]
    exact ones_here s.b _ _ (by omega) (by omega) (by omega)
  refine ⟨⟨fun wh' i' p hw' hi' hp => ?_, hL.zero⟩, hnew⟩
  by_cases hsame : wh' = wh
  · subst hsame
    rw [hnew i' hi', decE_ones] at hp
    cases hp
  · have hold : plB { s with b := onesL s.b (1024 * (j + wh)) 1024, worn := wn } (j + wh') i' = plB s (j + wh') i' := by
      rw [pl_at _ _ _ hi', pl_at _ _ _ hi']
      exact ones_else s.b _ _ (by omega) (by omega)
    rw [hold] at hp
    exact hL.le wh' i' p hw' hi' hp
/-- A Save with the power on. -/
theorem save_keeps {s : FS} {n e j : Nat} {k : KS} (h : Well s n e) (hK : Keeps9 s j k) (hj : j + 1 < n) (he : e < 10000) (r : BR) (hr : r.ok) (hG : k.gen + 1 ≤ 1073741824) :
    (saveE k j s r).1 = 0 ∧ Keeps9 (saveE k j s r).2.2 j (saveE k j s r).2.1 ∧ (saveE k j s r).2.1.gen = k.gen + 1 ∧ (saveE k j s r).2.1.r = r ∧ Well (saveE k j s r).2.2 n (e + 1) := by
  have hbr := hK.br
  have hrr : rightR r = true := decide_eq_true hr
  have main : ∀ (wh i : Nat) (s1 : FS), roomE k j s = ((wh, i), 0, s1) → wh ≤ 1 → i < 32 → Well s1 n (e + 1) → Last9 s1 j k.gen k.r → plB s1 (j + wh) i = List.replicate 32 255 →
      (saveE k j s r).1 = 0 ∧ Keeps9 (saveE k j s r).2.2 j (saveE k j s r).2.1 ∧ (saveE k j s r).2.1.gen = k.gen + 1 ∧ (saveE k j s r).2.1.r = r ∧ Well (saveE k j s r).2.2 n (e + 1) := by
    intro wh i s1 hR hw hi hW hL hfree
    have hP : progE k j r (roomE k j s) = (0, { s1 with b := progL s1.b (1024 * (j + wh) + 32 * i) (entB (k.gen + 1) r) 32 }) := by
      rw [hR]
      unfold progE
      dsimp only
      rw [show ((j : Int) + (wh : Int)) * 1024 + (i : Int) * 32 = ((1024 * (j + wh) + 32 * i : Nat) : Int) by omega]
      exact prog_well hW _ _ (entB_len _ _) (by omega)
    have hputE : putE k j s r = (0, ⟨k.gen + 1, r, wh, (i : Int), k.br⟩, { s1 with b := progL s1.b (1024 * (j + wh) + 32 * i) (entB (k.gen + 1) r) 32 }) := by
      unfold putE
      rw [hP, hR]
      rw [if_neg (fun h => h rfl), if_neg (fun h => h rfl)]
    have hsave : saveE k j s r = (0, ⟨k.gen + 1, r, wh, (i : Int), false⟩, { s1 with b := progL s1.b (1024 * (j + wh) + 32 * i) (entB (k.gen + 1) r) 32 }) := by
      unfold saveE
      rw [hputE, hbr, if_neg (by decide), hrr, if_neg (by decide), if_neg (by omega)]
      rfl
    rw [hsave]
    obtain ⟨p1, p2⟩ := put_last hW hL hj wh i hw hi hfree r hr hG
    exact ⟨rfl, ⟨p1, hw, rfl, .inr ⟨i, hi, rfl, p2⟩⟩, rfl, rfl, hW.prog _ _⟩
  have hroom : roomE k j s = match roomI (blkB s (j + k.wh)) k.la with
      | some i => ((k.wh, i), 0, s)
      | none => ((1 - k.wh, 0), (eraseF s ((j + (1 - k.wh) : Nat) : Int)).1, (eraseF s ((j + (1 - k.wh) : Nat) : Int)).2) := by
    unfold roomE
    rw [if_neg (show ¬ s.down = true by rw [h.up]; decide)]
    cases roomI (blkB s (j + k.wh)) k.la <;> rfl
  have hwh := hK.wh
  cases hri : roomI (blkB s (j + k.wh)) k.la with
  | some i =>
    rw [hri] at hroom
    obtain ⟨h1, h2⟩ := room_some hri
    exact main k.wh i s hroom hwh h1 h.more hK.last (all_ones (pl_len h.ok (j + k.wh) i (by omega) h1) h2)
  | none =>
    rw [hri] at hroom
    dsimp only at hroom
    rw [erase_well h (j + (1 - k.wh)) (by omega) he] at hroom
    obtain ⟨e1, e2⟩ := erase_last h hK.last hj (1 - k.wh) (by omega) (s.worn.set (j + (1 - k.wh)) (s.worn.getD (j + (1 - k.wh)) 0 + 1))
    exact main (1 - k.wh) 0 _ hroom (by omega) (by decide) (h.erase _ (by omega) he) e1 (e2 0 (by decide))
theorem new_well (n : Nat) (h1 : 1 ≤ n) (h2 : n ≤ 256) : Well (newF n 10000) n 0 := ⟨newF_ok n 10000 h1 h2 (by decide), rfl, by show (-1 : Int) < 0; decide, rfl, fun x hx => by rw [List.eq_of_mem_replicate hx]; exact Nat.le_refl _⟩
theorem new_last (n j : Nat) (hj : j + 1 < n) : Last9 (newF n 10000) j 0 BR.zero := by
  refine ⟨fun wh i p hw hi hp => ?_, fun _ => rfl⟩
  unfold plB at hp
  rw [blk_new n 10000 (j + wh) (by omega), cell_ones i hi, decE_ones] at hp
  cases hp
theorem Keeps9.found {s : FS} {j : Nat} {k : KS} (h : Keeps9 s j k) : Keeps9 s j (findK s j) ∧ (findK s j).gen = k.gen ∧ (findK s j).r = k.r := find_keeps h.last fun h0 => by
  rcases h.at_ with h1 | ⟨i, h1, _, h3⟩
  · omega
  · exact ⟨k.wh, i, h.wh, h1, h3⟩
end Go.Proofs.YtoemdmfpcobadaaDoor
