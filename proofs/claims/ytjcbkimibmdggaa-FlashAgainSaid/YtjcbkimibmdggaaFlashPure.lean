/-
  What is proved here: plain facts on what a flash does: its bytes, how often each block was erased, when the power goes.
  Conditions: those that each fact names.
-/
import Derived.Test.YtjcbkimibmdggaaShaPure
namespace Go.Proofs.Ytjcbkimibmdggaa

structure FS where
  b : List UInt8
  worn : List Nat
  most : Nat
  armed : Int
  done : Int
  down : Bool
/-- So many blocks; numbers that may be. -/
structure FS.ok (s : FS) (n : Nat) : Prop where
  b : s.b.length = 1024 * n
  worn : s.worn.length = n
  one : 1 ≤ n
  cap : n ≤ 256
  most : s.most ≤ 10000
  worns : ∀ x ∈ s.worn, x ≤ s.most
  armed : -1 ≤ s.armed ∧ s.armed ≤ 9223372036854775807
  done : 0 ≤ s.done ∧ s.done ≤ 9223372036854775807
def newF (n wear : Nat) : FS := ⟨List.replicate (1024 * n) 255, List.replicate n 0, wear, -1, 0, false⟩
/-- Are all bytes from a place on there? -/
def thereB (s : FS) (at_ n : Int) : Bool := decide (0 ≤ n) && decide (n ≤ 4096) && decide (0 ≤ at_) && decide (at_ ≤ (s.b.length : Int) - n)
def wearF (s : FS) (k : Int) : Nat × Int := if k < 0 ∨ (s.worn.length : Int) ≤ k then (0, 1) else (s.worn.getD k.toNat 0, 0)
def readF (s : FS) (at_ n : Int) : List UInt8 × Int := if s.down then ([], 7) else if thereB s at_ n = false then ([], 1) else ((s.b.drop at_.toNat).take n.toNat, 0)
/-- How many bytes of a change are done, what it answers, what is behind it. -/
def goesF (s : FS) (n : Nat) : Nat × Int × FS := if s.armed < 0 then (n, 0, s) else if 0 < s.armed then (n, 0, { s with armed := s.armed - 1 }) else ((min (n : Int) s.done).toNat, 7, { s with armed := -1, down := true })
/-- The first n of these bytes are programmed from a place on. -/
def progL (l : List UInt8) (a : Nat) (b : List UInt8) (n : Nat) : List UInt8 := (List.range l.length).map fun i => if a ≤ i ∧ i < a + n then l.getD i 0 &&& b.getD (i - a) 0 else l.getD i 0
/-- The first n bytes from a place on are ones. -/
def onesL (l : List UInt8) (a n : Nat) : List UInt8 := (List.range l.length).map fun i => if a ≤ i ∧ i < a + n then 255 else l.getD i 0
def programF (s : FS) (at_ : Int) (b : List UInt8) : Int × FS := if thereB s at_ b.length = false then (1, s) else if s.down then (7, s) else ((goesF s b.length).2.1, { (goesF s b.length).2.2 with b := progL s.b at_.toNat b (goesF s b.length).1 })
def eraseF (s : FS) (k : Int) : Int × FS := if k < 0 ∨ (s.worn.length : Int) ≤ k then (1, s) else if s.down then (7, s) else if s.most ≤ s.worn.getD k.toNat 0 then (8, s) else ((goesF s 1024).2.1, { (goesF s 1024).2.2 with b := onesL s.b (1024 * k.toNat) (goesF s 1024).1, worn := s.worn.set k.toNat (s.worn.getD k.toNat 0 + 1) })
def armF (s : FS) (c d : Int) : FS := { s with armed := max c 0, done := max d 0 }
def powerF (s : FS) : FS := { s with armed := -1, down := false }

theorem progL_len (l : List UInt8) (a : Nat) (b : List UInt8) (n : Nat) : (progL l a b n).length = l.length := by simp [progL]
theorem onesL_len (l : List UInt8) (a n : Nat) : (onesL l a n).length = l.length := by simp [onesL]
theorem progL_at (l : List UInt8) (a : Nat) (b : List UInt8) (n i : Nat) (h : i < l.length) : (progL l a b n).getD i 0 = if a ≤ i ∧ i < a + n then l.getD i 0 &&& b.getD (i - a) 0 else l.getD i 0 := by
  simp [progL, h]
theorem onesL_at (l : List UInt8) (a n i : Nat) (h : i < l.length) : (onesL l a n).getD i 0 = if a ≤ i ∧ i < a + n then 255 else l.getD i 0 := by
  simp [onesL, h]
theorem bytes_ext {l m : List UInt8} (h : l.length = m.length) (hi : ∀ i, i < l.length → l.getD i 0 = m.getD i 0) : l = m := by
  apply List.ext_getElem h
  intro i h1 h2
  have := hi i h1
  simpa [h1, h2] using this
theorem progL_zero (l : List UInt8) (a : Nat) (b : List UInt8) : progL l a b 0 = l :=
  bytes_ext (progL_len ..) fun i h => by rw [progL_at _ _ _ _ _ (by rwa [progL_len] at h), if_neg (by omega)]
theorem onesL_zero (l : List UInt8) (a : Nat) : onesL l a 0 = l :=
  bytes_ext (onesL_len ..) fun i h => by rw [onesL_at _ _ _ _ (by rwa [onesL_len] at h), if_neg (by omega)]
theorem getD_set8 (l : List UInt8) (k j : Nat) (x : UInt8) (hk : k < l.length) : (l.set k x).getD j 0 = if j = k then x else l.getD j 0 := by
  rw [List.getD_eq_getElem?_getD, List.getD_eq_getElem?_getD, List.getElem?_set]
  by_cases h : k = j
  · subst h; simp [hk]
  · simp [h, Ne.symm h]
/-- One byte more. -/
theorem progL_step (l : List UInt8) (a : Nat) (b : List UInt8) (n : Nat) (h : a + n < l.length) : (progL l a b n).set (a + n) ((progL l a b n).getD (a + n) 0 &&& b.getD n 0) = progL l a b (n + 1) := by
  refine bytes_ext (by rw [List.length_set, progL_len, progL_len]) fun i hi => ?_
  rw [List.length_set, progL_len] at hi
  rw [getD_set8 _ _ _ _ (by rw [progL_len]; exact h), progL_at _ _ _ _ _ hi, progL_at _ _ _ _ _ hi, progL_at _ _ _ _ _ h]
  by_cases e : i = a + n
  · subst e
    rw [if_pos rfl, if_neg (by omega), if_pos (by omega), show a + n - a = n by omega]
  · rw [if_neg e]
    by_cases h2 : a ≤ i ∧ i < a + n
    · rw [if_pos h2, if_pos (by omega)]
    · rw [if_neg h2, if_neg (by omega)]
theorem onesL_step (l : List UInt8) (a n : Nat) (h : a + n < l.length) : (onesL l a n).set (a + n) 255 = onesL l a (n + 1) := by
  refine bytes_ext (by rw [List.length_set, onesL_len, onesL_len]) fun i hi => ?_
  rw [List.length_set, onesL_len] at hi
  rw [getD_set8 _ _ _ _ (by rw [onesL_len]; exact h), onesL_at _ _ _ _ hi, onesL_at _ _ _ _ hi]
  by_cases e : i = a + n
  · rw [if_pos e, if_pos (by omega)]
  · rw [if_neg e]
    by_cases h2 : a ≤ i ∧ i < a + n
    · rw [if_pos h2, if_pos (by omega)]
    · rw [if_neg h2, if_neg (by omega)]
theorem newF_ok (n wear : Nat) (h1 : 1 ≤ n) (h2 : n ≤ 256) (h3 : wear ≤ 10000) : (newF n wear).ok n :=
  ⟨List.length_replicate .., List.length_replicate .., h1, h2, h3, fun x hx => by rw [List.eq_of_mem_replicate hx]; exact Nat.zero_le _, by show (-1 : Int) ≤ -1 ∧ (-1 : Int) ≤ _; omega, by show (0 : Int) ≤ 0 ∧ (0 : Int) ≤ _; omega⟩
theorem goesF_ok {s : FS} {n : Nat} (h : s.ok n) (m : Nat) : (goesF s m).2.2.ok n ∧ (goesF s m).1 ≤ m ∧ (goesF s m).2.2.b = s.b ∧ (goesF s m).2.2.worn = s.worn ∧ (goesF s m).2.2.most = s.most := by
  have ha := h.armed
  have hd := h.done
  unfold goesF
  split
  · exact ⟨h, Nat.le_refl _, rfl, rfl, rfl⟩
  · split
    · exact ⟨⟨h.b, h.worn, h.one, h.cap, h.most, h.worns, by show _ ≤ s.armed - 1 ∧ s.armed - 1 ≤ _; omega, h.done⟩, Nat.le_refl _, rfl, rfl, rfl⟩
    · exact ⟨⟨h.b, h.worn, h.one, h.cap, h.most, h.worns, by show (-1 : Int) ≤ -1 ∧ (-1 : Int) ≤ _; omega, h.done⟩, by show (min (m : Int) s.done).toNat ≤ m; omega, rfl, rfl, rfl⟩
theorem FS.ok.program {s : FS} {n : Nat} (h : s.ok n) (a : Int) (b : List UInt8) : (programF s a b).2.ok n := by
  unfold programF
  split
  · exact h
  · split
    · exact h
    · obtain ⟨h1, _, _, _, _⟩ := goesF_ok h b.length
      exact ⟨by show (progL s.b _ _ _).length = _; rw [progL_len]; exact h.b, h1.worn, h1.one, h1.cap, h1.most, h1.worns, h1.armed, h1.done⟩
theorem FS.ok.erase {s : FS} {n : Nat} (h : s.ok n) (k : Int) : (eraseF s k).2.ok n := by
  unfold eraseF
  split
  · exact h
  · split
    · exact h
    · split
      · exact h
      · rename_i hw
        obtain ⟨h1, _, _, _, h5⟩ := goesF_ok h 1024
        refine ⟨by show (onesL s.b _ _).length = _; rw [onesL_len]; exact h.b, by show (s.worn.set _ _).length = n; rw [List.length_set]; exact h.worn, h1.one, h1.cap, h1.most, fun x hx => ?_, h1.armed, h1.done⟩
        show x ≤ (goesF s 1024).2.2.most
        rw [h5]
        rcases List.mem_or_eq_of_mem_set hx with hx | hx
        · exact h.worns x hx
        · rw [hx]; omega
theorem FS.ok.arm {s : FS} {n : Nat} (h : s.ok n) (c d : Int) (hc : c ≤ 9223372036854775807) (hd : d ≤ 9223372036854775807) : (armF s c d).ok n :=
  ⟨h.b, h.worn, h.one, h.cap, h.most, h.worns, by show _ ≤ max c 0 ∧ max c 0 ≤ _; omega, by show _ ≤ max d 0 ∧ max d 0 ≤ _; omega⟩
theorem FS.ok.power {s : FS} {n : Nat} (h : s.ok n) : (powerF s).ok n := ⟨h.b, h.worn, h.one, h.cap, h.most, h.worns, by show (-1 : Int) ≤ -1 ∧ (-1 : Int) ≤ _; omega, h.done⟩
end Go.Proofs.Ytjcbkimibmdggaa
