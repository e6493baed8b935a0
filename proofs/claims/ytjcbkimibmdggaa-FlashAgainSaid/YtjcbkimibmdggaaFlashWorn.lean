/-
  What is proved here: plain facts on how often a flash behind some acts was erased.
  Conditions: those that each fact names.
-/
import Derived.Test.YtjcbkimibmdggaaFlashCalm
namespace Go.Proofs.Ytjcbkimibmdggaa
open Go.RowKit

theorem ba_get6 (B : List UInt8) (I : Nat) (h : I < (⟨B.toArray⟩ : ByteArray).size) : (⟨B.toArray⟩ : ByteArray)[I] = B.getD I 0 := by
  have h2 : I < B.length := by simpa [ByteArray.size] using h
  show B.toArray[I] = _
  simp [h2]
/-- No act erases a block twice. -/
def mostW (s : FS) (n : Nat) : Prop := ∀ x ∈ s.worn, x ≤ n
theorem mostW_act {s : FS} {n : Nat} (h : mostW s n) (a : Act6) : mostW (actF s a) (n + 1) ∧ (actF s a).most = s.most := by
  have h0 : mostW s (n + 1) := fun x hx => Nat.le_succ_of_le (h x hx)
  have hg : ∀ m, (goesF s m).2.2.worn = s.worn ∧ (goesF s m).2.2.most = s.most := fun m => by
    unfold goesF
    split
    · exact ⟨rfl, rfl⟩
    · split <;> exact ⟨rfl, rfl⟩
  unfold actF
  split
  · unfold programF
    split
    · exact ⟨h0, rfl⟩
    · split
      · exact ⟨h0, rfl⟩
      · exact ⟨fun x hx => by rw [(hg _).1] at hx; exact h0 x hx, (hg _).2⟩
  · split
    · unfold eraseF
      split
      · exact ⟨h0, rfl⟩
      · split
        · exact ⟨h0, rfl⟩
        · split
          · exact ⟨h0, rfl⟩
          · refine ⟨fun x hx => ?_, (hg _).2⟩
            rcases List.mem_or_eq_of_mem_set hx with hx | hx
            · exact h0 x hx
            · rw [hx]
              rename_i hk _ _
              have hl : a.k.toNat < s.worn.length := by omega
              have := h (s.worn.getD a.k.toNat 0) (by rw [List.getD_eq_getElem?_getD, List.getElem?_eq_getElem hl]; exact List.getElem_mem hl)
              omega
    · split
      · exact ⟨h0, rfl⟩
      · split
        · exact ⟨h0, rfl⟩
        · split
          · exact ⟨h0, rfl⟩
          · exact ⟨h0, rfl⟩
theorem mostW_gone (l : List Act6) (s : FS) (n : Nat) (h : mostW s n) : ∀ I, mostW (goneF l I s) (n + I) ∧ (goneF l I s).most = s.most
  | 0 => ⟨h, rfl⟩
  | I + 1 => by
    obtain ⟨h1, h2⟩ := mostW_gone l s n h I
    cases hI : l[I]? with
    | none =>
      have : goneF l (I + 1) s = goneF l I s := by
        unfold goneF
        rw [List.take_add_one, hI]
        simp
      rw [this]
      exact ⟨fun x hx => by have := h1 x hx; omega, h2⟩
    | some a =>
      rw [← goneF_step s hI]
      obtain ⟨h3, h4⟩ := mostW_act h1 a
      exact ⟨h3, h4.trans h2⟩
theorem begun_worn (l : List Act6) : mostW (begunF l) 100 ∧ (begunF l).most = 10000 := by
  obtain ⟨h1, h2⟩ := mostW_gone l (newF 4 10000) 0 (fun x hx => by rw [List.eq_of_mem_replicate hx]; exact Nat.le_refl _) 100
  exact ⟨fun x hx => by have := h1 x hx; omega, h2⟩
theorem worn_getD {s : FS} {n : Nat} (h : mostW s n) (k : Nat) : s.worn.getD k 0 ≤ n := by
  rw [List.getD_eq_getElem?_getD]
  cases hk : s.worn[k]? with
  | none => exact Nat.zero_le _
  | some x => exact h x (List.mem_of_getElem? hk)
end Go.Proofs.Ytjcbkimibmdggaa
