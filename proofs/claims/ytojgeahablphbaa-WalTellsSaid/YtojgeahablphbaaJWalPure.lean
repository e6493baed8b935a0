/-
  What is proved here: plain facts on a log on a disk: numbers in four bytes, heads, pieces, what there is, what a change writes.
  Conditions: those that each fact names.
-/
import Derived.Test.YtojgeahablphbaaJDiskPure
namespace Go.Proofs.Ytojgeahablphbaa

/-! ### numbers in four bytes -/
def num4 (n : Nat) : List UInt8 := [UInt8.ofNat (n % 256), UInt8.ofNat (n / 256 % 256), UInt8.ofNat (n / 65536 % 256), UInt8.ofNat (n / 16777216 % 256)]
def of4 (b : List UInt8) : Nat := (b.getD 0 0).toNat + (b.getD 1 0).toNat * 256 + (b.getD 2 0).toNat * 65536 + (b.getD 3 0).toNat * 16777216
theorem num4_len (n : Nat) : (num4 n).length = 4 := rfl
theorem of4_num4 (n : Nat) (h : n < 4294967296) (r : List UInt8) : of4 (num4 n ++ r) = n := by
  have e : ∀ k : Nat, (UInt8.ofNat (k % 256)).toNat = k % 256 := fun k => by rw [UInt8.toNat_ofNat']; exact Nat.mod_eq_of_lt (by show k % 256 < 256; omega)
  show (UInt8.ofNat (n % 256)).toNat + (UInt8.ofNat (n / 256 % 256)).toNat * 256 + (UInt8.ofNat (n / 65536 % 256)).toNat * 65536 + (UInt8.ofNat (n / 16777216 % 256)).toNat * 16777216 = n
  rw [e, e, e, e]
  omega
theorem of4_lt (b : List UInt8) : of4 b < 4294967296 := by
  unfold of4
  have := (b.getD 0 0).toNat_lt
  have := (b.getD 1 0).toNat_lt
  have := (b.getD 2 0).toNat_lt
  have := (b.getD 3 0).toNat_lt
  omega
/-! ### heads and pieces -/
def threeB (n g m : Nat) : List UInt8 := num4 n ++ num4 g ++ num4 m
def headB (n g m : Nat) : List UInt8 := threeB n g m ++ threeB n g m
def pieceB (kind : Nat) (b : List UInt8) : List UInt8 := UInt8.ofNat kind :: (num4 b.length ++ b)
theorem threeB_len (n g m : Nat) : (threeB n g m).length = 12 := rfl
theorem headB_len (n g m : Nat) : (headB n g m).length = 24 := rfl
theorem pieceB_len (kind : Nat) (b : List UInt8) : (pieceB kind b).length = b.length + 5 := by
  unfold pieceB; rw [List.length_cons, List.length_append, num4_len]; omega
/-! ### banks -/
def halfS (s : DS) : Nat := (s.now.length - 2) / 2
def sizeS (s : DS) : Nat := halfS s * 128
/-- The first so many sectors of a bank. -/
def bankTo (s : DS) (k : Nat) : Nat → List UInt8
  | 0 => []
  | i + 1 => bankTo s k i ++ s.now.getD (2 + k * halfS s + i) []
def bankS (s : DS) (k : Nat) : List UInt8 := bankTo s k (halfS s)
/-- Does a head stand so in a sector? -/
def standsB (s : DS) (k : Nat) (h : List UInt8) : Bool := decide (of4 h ≤ 1073741824) && decide (of4 h % 2 = k) && decide (1 ≤ of4 (h.drop 4)) && decide (of4 (h.drop 4) ≤ 1048576) && decide (of4 (h.drop 8) ≤ sizeS s) && decide (h.take 12 = (h.drop 12).take 12)
/-- The head that counts: a number, a generation, a length. -/
def nextH (s : DS) (k : Nat) (t : Nat × Nat × Nat) : Nat × Nat × Nat :=
  if t.1 < of4 (s.now.getD k []) ∧ standsB s k (s.now.getD k []) = true then (of4 (s.now.getD k []), of4 ((s.now.getD k []).drop 4), of4 ((s.now.getD k []).drop 8)) else t
def thereTo (s : DS) : Nat → Nat × Nat × Nat
  | 0 => (0, 0, 0)
  | k + 1 => nextH s k (thereTo s k)
def thereS (s : DS) : Nat × Nat × Nat := thereTo s 2
theorem nextH_le (s : DS) (k : Nat) (t : Nat × Nat × Nat) (h : t.1 ≤ 1073741824 ∧ t.2.1 ≤ 1048576 ∧ t.2.2 ≤ sizeS s) : (nextH s k t).1 ≤ 1073741824 ∧ (nextH s k t).2.1 ≤ 1048576 ∧ (nextH s k t).2.2 ≤ sizeS s := by
  unfold nextH
  split
  · rename_i hc
    have := hc.2
    unfold standsB at this
    simp only [Bool.and_eq_true, decide_eq_true_eq] at this
    exact ⟨this.1.1.1.1.1, this.1.1.2, this.1.2⟩
  · exact h
theorem thereTo_le (s : DS) : ∀ k, (thereTo s k).1 ≤ 1073741824 ∧ (thereTo s k).2.1 ≤ 1048576 ∧ (thereTo s k).2.2 ≤ sizeS s
  | 0 => ⟨Nat.zero_le _, Nat.zero_le _, Nat.zero_le _⟩
  | k + 1 => nextH_le s k _ (thereTo_le s k)
theorem thereS_le (s : DS) : (thereS s).1 ≤ 1073741824 ∧ (thereS s).2.1 ≤ 1048576 ∧ (thereS s).2.2 ≤ sizeS s := thereTo_le s 2
/-! ### what bytes tell -/
structure TS where
  b : List UInt8
  state : List UInt8
  recs : List (List UInt8)
  whole : Bool
/-- Does a piece follow? -/
def fitsT (t : TS) : Bool := decide (5 ≤ t.b.length) && decide (of4 (t.b.drop 1) ≤ 4096) && decide (of4 (t.b.drop 1) ≤ t.b.length - 5) && decide (1 ≤ (t.b.getD 0 0).toNat) && decide ((t.b.getD 0 0).toNat ≤ 3) && decide (t.whole = decide ((t.b.getD 0 0).toNat = 3))
def pieceT (t : TS) : List UInt8 := (t.b.drop 5).take (of4 (t.b.drop 1))
def stepT (t : TS) : TS :=
  if (t.b.getD 0 0).toNat = 3 then { t with b := t.b.drop (5 + of4 (t.b.drop 1)), recs := t.recs ++ [pieceT t] }
  else { t with b := t.b.drop (5 + of4 (t.b.drop 1)), state := t.state ++ pieceT t, whole := decide ((t.b.getD 0 0).toNat = 2) }
def goT : Nat → TS → TS
  | 0, t => t
  | n + 1, t => if fitsT t then goT n (stepT t) else t
def tellB (b : List UInt8) : TS := goT b.length ⟨b, [], [], false⟩
/-- The state and the records. -/
def toldB (b : List UInt8) : List UInt8 × List (List UInt8) := if (tellB b).whole then ((tellB b).state, (tellB b).recs) else ([], [])
theorem fitsT_len {t : TS} (h : fitsT t = true) : 5 ≤ t.b.length ∧ of4 (t.b.drop 1) ≤ t.b.length - 5 := by
  unfold fitsT at h
  simp only [Bool.and_eq_true, decide_eq_true_eq] at h
  omega
theorem stepT_b (t : TS) : (stepT t).b = t.b.drop (5 + of4 (t.b.drop 1)) := by
  unfold stepT; split <;> rfl
theorem stepT_less {t : TS} (h : fitsT t = true) : (stepT t).b.length + 5 ≤ t.b.length := by
  obtain ⟨h1, h2⟩ := fitsT_len h
  rw [stepT_b, List.length_drop]
  omega
/-- Enough is enough. -/
theorem goT_more : ∀ (n m : Nat) (t : TS), t.b.length ≤ n → t.b.length ≤ m → goT n t = goT m t
  | 0, 0, t, _, _ => rfl
  | 0, m + 1, t, h, _ => by
    show t = if fitsT t then _ else t
    rw [if_neg (fun hf => by have := (fitsT_len hf).1; omega)]
  | n + 1, 0, t, _, h => by
    show (if fitsT t then _ else t) = t
    rw [if_neg (fun hf => by have := (fitsT_len hf).1; omega)]
  | n + 1, m + 1, t, h1, h2 => by
    show (if fitsT t then goT n (stepT t) else t) = if fitsT t then goT m (stepT t) else t
    by_cases hf : fitsT t = true
    · rw [if_pos hf, if_pos hf]
      have := stepT_less hf
      exact goT_more n m (stepT t) (by omega) (by omega)
    · rw [if_neg hf, if_neg hf]
/-! ### the log -/
structure LS where
  n : Nat
  gen : Nat
  b : List UInt8
  sure : Nat
  begun : Bool
  broke : Bool
/-- What there is on a disk whose power is on. -/
def foundS (s : DS) : List UInt8 × List (List UInt8) := if (thereS s).1 = 0 then ([], []) else toldB ((bankS s ((thereS s).2.1 % 2)).take (thereS s).2.2)
def openL (s : DS) : LS := ⟨(thereS s).1, (thereS s).2.1, [], 0, false, false⟩
/-- What Open answers: 0, 1 or 7. -/
def openE (s : DS) : Int := if sizeS s < 256 then 1 else if s.down then 7 else 0
/-- The i-th sector's bytes. -/
def rowB (b : List UInt8) (i : Nat) : List UInt8 := (b.drop (i * 128)).take 128
/-- The sectors of a bank from the i-th one on are written, as long as all is well. -/
def rowsW (first : Nat) (b : List UInt8) : Nat → Nat → DS → Int × DS
  | 0, _, s => (0, s)
  | n + 1, i, s => if b.length ≤ i * 128 then (0, s) else if (writeS s ((first + i : Nat) : Int) (rowB b i)).1 ≠ 0 then writeS s ((first + i : Nat) : Int) (rowB b i) else rowsW first b n (i + 1) (writeS s ((first + i : Nat) : Int) (rowB b i)).2
/-- Behind the sectors: sync, the head, sync. -/
def sealW (n gen len : Nat) (s : DS) : Int × DS :=
  if (syncS s).1 ≠ 0 then syncS s
  else if (writeS (syncS s).2 (((n + 1) % 2 : Nat) : Int) (headB (n + 1) gen len)).1 ≠ 0 then writeS (syncS s).2 (((n + 1) % 2 : Nat) : Int) (headB (n + 1) gen len)
  else syncS (writeS (syncS s).2 (((n + 1) % 2 : Nat) : Int) (headB (n + 1) gen len)).2
def writeW (s : DS) (n gen frm : Nat) (b : List UInt8) : Int × DS :=
  if (rowsW (2 + gen % 2 * halfS s) b (b.length + 1) (frm / 128) s).1 ≠ 0 then rowsW (2 + gen % 2 * halfS s) b (b.length + 1) (frm / 128) s
  else sealW n gen b.length (rowsW (2 + gen % 2 * halfS s) b (b.length + 1) (frm / 128) s).2
/-- A state's pieces. -/
def partsB : Nat → List UInt8 → List UInt8
  | 0, b => pieceB 2 b
  | n + 1, b => if 1024 < b.length then pieceB 1 (b.take 1024) ++ partsB n (b.drop 1024) else pieceB 2 b
def stateB (b : List UInt8) : List UInt8 := partsB b.length b
def checkW (s : DS) (l : LS) (st : List UInt8) : Int × DS × LS :=
  if l.broke then (10, s, l)
  else if sizeS s < (stateB st).length ∨ 1048576 < l.gen + 1 ∨ 1073741824 ≤ l.n then (3, s, l)
  else if (writeW s l.n (l.gen + 1) 0 (stateB st)).1 ≠ 0 then ((writeW s l.n (l.gen + 1) 0 (stateB st)).1, (writeW s l.n (l.gen + 1) 0 (stateB st)).2, { l with broke := true })
  else (0, (writeW s l.n (l.gen + 1) 0 (stateB st)).2, { l with n := l.n + 1, gen := l.gen + 1, b := stateB st, sure := (stateB st).length, begun := true })
def roomW (s : DS) (l : LS) : Int := if l.broke || !l.begun then 0 else (sizeS s : Int) - (l.b.length : Int)
def appendW (s : DS) (l : LS) (b : List UInt8) : Int × LS :=
  if l.broke then (10, l) else if l.begun = false then (9, l) else if 4096 < b.length then (1, l) else if roomW s l < (b.length : Int) + 5 then (3, l)
  else (0, { l with b := l.b ++ pieceB 3 b })
def commitW (s : DS) (l : LS) : Int × DS × LS :=
  if l.broke then (10, s, l) else if l.begun = false then (9, s, l) else if l.sure = l.b.length then (0, s, l) else if 1073741824 ≤ l.n then (3, s, l)
  else if (writeW s l.n l.gen l.sure l.b).1 ≠ 0 then ((writeW s l.n l.gen l.sure l.b).1, (writeW s l.n l.gen l.sure l.b).2, { l with broke := true })
  else (0, (writeW s l.n l.gen l.sure l.b).2, { l with n := l.n + 1, sure := l.b.length })
end Go.Proofs.Ytojgeahablphbaa
