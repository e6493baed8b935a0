/-
  What is proved here: plain facts on a flash whose power is on and which is not armed.
  Conditions: those that each fact names.
-/
import Derived.Test.YtjcbkimibmdggaaFlashBegun
namespace Go.Proofs.Ytjcbkimibmdggaa
open Go.RowKit

def calm6 (s : FS) : Prop := s.down = false ∧ s.armed = -1
theorem begunF_calm (l : List Act6) : calm6 (begunF l) := ⟨rfl, rfl⟩
theorem newF_calm (n k : Nat) : calm6 (newF n k) := ⟨rfl, rfl⟩
theorem goesF_calm {s : FS} (h : calm6 s) (n : Nat) : goesF s n = (n, 0, s) := by
  unfold goesF
  rw [h.2, if_pos (by decide)]
theorem programF_calm {s : FS} (h : calm6 s) (a : Int) (b : List UInt8) : programF s a b = if thereB s a b.length = false then (1, s) else (0, { s with b := progL s.b a.toNat b b.length }) := by
  unfold programF
  rw [goesF_calm h]
  split
  · rfl
  · rw [if_neg (show ¬ s.down = true by rw [h.1]; decide)]
theorem eraseF_calm {s : FS} (h : calm6 s) (k : Int) : eraseF s k = if k < 0 ∨ (s.worn.length : Int) ≤ k then (1, s) else if s.most ≤ s.worn.getD k.toNat 0 then (8, s) else (0, { s with b := onesL s.b (1024 * k.toNat) 1024, worn := s.worn.set k.toNat (s.worn.getD k.toNat 0 + 1) }) := by
  unfold eraseF
  rw [goesF_calm h]
  split
  · rfl
  · rw [if_neg (show ¬ s.down = true by rw [h.1]; decide)]
theorem readF_calm {s : FS} (h : s.down = false) (a m : Int) : readF s a m = if thereB s a m = false then ([], 1) else ((s.b.drop a.toNat).take m.toNat, 0) := by
  unfold readF
  rw [h]
  simp
/-- All of four blocks. -/
theorem readF_all {s : FS} (h : s.down = false) (hk : s.ok 4) : readF s 0 4096 = (s.b, 0) := by
  have hl : s.b.length = 4096 := hk.b
  rw [readF_calm h, there_true (by decide) (by decide) (by decide) (by rw [hl]; decide), if_neg (by decide)]
  rw [show (0 : Int).toNat = 0 from rfl, show (4096 : Int).toNat = 4096 from rfl, List.drop_zero, List.take_of_length_le (by rw [hl]; exact Nat.le_refl _)]
theorem thereB_len {s t : FS} (h : t.b.length = s.b.length) (a m : Int) : thereB t a m = thereB s a m := by
  unfold thereB; rw [h]
/-- Parts of it ahead: it is the same as once. -/
theorem progL_again (l : List UInt8) (a : Nat) (b c : List UInt8) (k n : Nat) (hk : k ≤ n) (hc : ∀ i, i < k → c.getD i 0 = b.getD i 0) : progL (progL l a c k) a b n = progL l a b n := by
  refine bytes_ext (by rw [progL_len, progL_len, progL_len]) fun i hi => ?_
  rw [progL_len, progL_len] at hi
  rw [progL_at _ _ _ _ _ (by rw [progL_len]; exact hi), progL_at _ _ _ _ _ hi, progL_at _ _ _ _ _ hi]
  by_cases h1 : a ≤ i ∧ i < a + n
  · rw [if_pos h1, if_pos h1]
    by_cases h2 : a ≤ i ∧ i < a + k
    · rw [if_pos h2, hc (i - a) (by omega)]
      generalize l.getD i 0 = x
      generalize b.getD (i - a) 0 = y
      rw [UInt8.and_assoc, UInt8.and_self]
    · rw [if_neg h2]
  · rw [if_neg h1, if_neg h1, if_neg (by omega)]
/-- No bit is set. -/
theorem progL_clears (l : List UInt8) (a : Nat) (b : List UInt8) (n i : Nat) (h : i < l.length) : l.getD i 0 &&& (progL l a b n).getD i 0 = (progL l a b n).getD i 0 := by
  rw [progL_at _ _ _ _ _ h]
  split
  · rw [← UInt8.and_assoc, UInt8.and_self]
  · rw [UInt8.and_self]
theorem onesL_again (l : List UInt8) (a k n : Nat) (hk : k ≤ n) : onesL (onesL l a k) a n = onesL l a n := by
  refine bytes_ext (by rw [onesL_len, onesL_len, onesL_len]) fun i hi => ?_
  rw [onesL_len, onesL_len] at hi
  rw [onesL_at _ _ _ _ (by rw [onesL_len]; exact hi), onesL_at _ _ _ _ hi, onesL_at _ _ _ _ hi]
  by_cases h1 : a ≤ i ∧ i < a + n
  · rw [if_pos h1, if_pos h1]
  · rw [if_neg h1, if_neg h1, if_neg (by omega)]
theorem FS.ok.gone {n : Nat} {l : List Act6} (hl : ∀ a ∈ l, R64 a.k ∧ R64 a.n) : ∀ {s : FS}, s.ok n → (l.foldl actF s).ok n := by
  induction l with
  | nil => exact fun h => h
  | cons a l ih =>
    intro s h
    refine ih (fun x hx => hl x (List.mem_cons_of_mem _ hx)) ?_
    obtain ⟨h1, h2⟩ := hl a List.mem_cons_self
    unfold actF
    split
    · exact h.program _ _
    · split
      · exact h.erase _
      · split
        · exact h
        · split
          · exact h.arm _ _ h1.2 h2.2
          · split
            · exact h.power
            · exact h
end Go.Proofs.Ytjcbkimibmdggaa
