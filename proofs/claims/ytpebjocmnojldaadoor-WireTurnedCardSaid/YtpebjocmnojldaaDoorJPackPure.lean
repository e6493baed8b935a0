/-
  What is proved here: records and their fields as plain data; how many bytes fields ask for at most, and the bytes of a record, as plain functions.
  Conditions: none.
-/
import Derived.Test.YtpebjocmnojldaaDoorProg
namespace Go.Proofs.YtpebjocmnojldaaDoor

inductive Fld where
  | mk (kind : Int) (min max : Nat) (of : List Fld)
def Fld.kind : Fld → Int | .mk k _ _ _ => k
def Fld.min : Fld → Nat | .mk _ m _ _ => m
def Fld.max : Fld → Nat | .mk _ _ m _ => m
def Fld.of : Fld → List Fld | .mk _ _ _ o => o
inductive Val where
  | mk (n : Nat) (b : List UInt8) (l : List (List Val))
def Val.n : Val → Nat | .mk n _ _ => n
def Val.b : Val → List UInt8 | .mk _ b _ => b
def Val.l : Val → List (List Val) | .mk _ _ l => l
instance : Inhabited Fld := ⟨.mk 0 0 0 []⟩
instance : Inhabited Val := ⟨.mk 0 [] []⟩

/-- In how many bytes a number can be written. -/
def wid (n : Nat) : Nat := if n < 256 then 1 else if n < 65536 then 2 else if n < 16777216 then 3 else if n < 4294967296 then 4 else if n < 1099511627776 then 5 else if n < 281474976710656 then 6 else if n < 72057594037927936 then 7 else 8
theorem wid_pos (n : Nat) : 1 ≤ wid n := by unfold wid; repeat' split
                                            all_goals omega
theorem wid_le (n : Nat) : wid n ≤ 8 := by unfold wid; repeat' split
                                           all_goals omega
theorem wid_step (n : Nat) (h : 256 ≤ n) (hn : n < 18446744073709551616) : wid n = wid (n / 256) + 1 := by
  unfold wid
  repeat' split
  all_goals omega
theorem wid_small (n : Nat) (h : n < 256) : wid n = 1 := by unfold wid; rw [if_pos h]

/-- How many bytes a field asks for at most; none: it may not be. M: that of fields within. -/
def mostOne (M : List Fld → Option Nat) (f : Fld) : Option Nat :=
  if f.max < f.min then none
  else if f.kind ≠ 1 ∧ 65536 < f.max then none
  else if f.kind = 1 then (if f.of.length = 0 then some (wid (f.max - f.min)) else none)
  else if f.kind = 2 then (if f.of.length = 0 then some (wid (f.max - f.min) + f.max) else none)
  else if f.kind = 3 then (M f.of).map (fun k => wid (f.max - f.min) + f.max * k)
  else none
def mostSum (M : List Fld → Option Nat) : List Fld → Option Nat
  | [] => some 0
  | f :: r => match mostOne M f with
    | none => none
    | some a => (mostSum M r).map (a + ·)
/-- Of fields, so many lists deep at most. -/
def mostL : Nat → List Fld → Option Nat
  | 0, _ => none
  | r + 1, l => if l.length < 1 ∨ 16 < l.length then none else match mostSum (mostL r) l with
    | none => none
    | some n => if 1048576 < n then none else some n
theorem mostL_le {r : Nat} {l : List Fld} {m : Nat} (h : mostL r l = some m) : m ≤ 1048576 := by
  cases r with
  | zero => simp [mostL] at h
  | succ r =>
    unfold mostL at h
    split at h
    · cases h
    · split at h
      · cases h
      · split at h
        · cases h
        · cases h; omega
theorem mostOne_le {r : Nat} {f : Fld} {m : Nat} (h : mostOne (mostL r) f = some m) : m ≤ 68719476744 := by
  have hw := wid_le (f.max - f.min)
  unfold mostOne at h
  split at h
  · cases h
  split at h
  · cases h
  split at h
  · split at h
    · cases h; omega
    · cases h
  split at h
  · split at h
    · cases h; omega
    · cases h
  split at h
  · obtain ⟨k, hk, rfl⟩ := Option.map_eq_some_iff.1 h
    have h1 := mostL_le hk
    have h2 : f.max ≤ 65536 := by omega
    have h3 := Nat.mul_le_mul h2 h1
    omega
  · cases h

/-- The bytes of a number, the lowest first. -/
def leN : Nat → Nat → List UInt8
  | _, 0 => []
  | n, k + 1 => UInt8.ofNat (n % 256) :: leN (n / 256) k
theorem leN_len (n k : Nat) : (leN n k).length = k := by
  induction k generalizing n with
  | zero => rfl
  | succ k ih => simp [leN, ih]

/-- What a field's bounds speak of; none: there is what the kind has not. -/
def amountOf (f : Fld) (v : Val) : Option Nat :=
  if f.kind = 1 then (if v.b.length = 0 ∧ v.l.length = 0 then some v.n else none)
  else if f.kind = 2 then (if v.n = 0 ∧ v.l.length = 0 then some v.b.length else none)
  else (if v.n = 0 ∧ v.b.length = 0 then some v.l.length else none)
def catO : List (Option (List UInt8)) → Option (List UInt8)
  | [] => some []
  | none :: _ => none
  | some a :: r => (catO r).map (a ++ ·)
def encOne (E : List Fld → List Val → Option (List UInt8)) (f : Fld) (v : Val) : Option (List UInt8) :=
  match amountOf f v with
  | none => none
  | some n => if n < f.min ∨ f.max < n then none else (catO (v.l.map (E f.of))).map (fun r => leN (n - f.min) (wid (f.max - f.min)) ++ (v.b ++ r))
/-- The bytes of a record; none: it does not fit. -/
def encL : Nat → List Fld → List Val → Option (List UInt8)
  | 0, _, _ => none
  | r + 1, l, v => if l.length = v.length then catO (List.zipWith (encOne (encL r)) l v) else none

end Go.Proofs.YtpebjocmnojldaaDoor
