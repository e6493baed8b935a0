/-
  What is proved here: plain facts on a log on a disk: numbers in four bytes, heads, pieces, what there is, what a change writes. what was put as pieces is told: a state, in whichever parts, and the records behind it; how many bytes they take. bytes of numbers and of single values as cells of memory; an index into bytes. laws for a statement that draws its order, some of whose operations are calls: what yields one value in every world of a kind is taken first; then one behind the other. steps of a statement that draws its order, one operation each, and what single operations answer.
  Conditions: those that each fact names. those that each law names.
-/
import Derived.Test.YtbegphfideopoaaGreatJDiskPure
import Derived.Test.YtbegphfideopoaaGreatJShaPure
import Derived.Test.YtbegphfideopoaaGreatProg
import Derived.OrdersHeld
import Derived.Deep.RegionHeld3
namespace Go.Proofs.YtbegphfideopoaaGreat

/-! ### numbers in four bytes -/
def num4 (n : Nat) : List UInt8 := [UInt8.ofNat (n % 256), UInt8.ofNat (n / 256 % 256), UInt8.ofNat (n / 65536 % 256), UInt8.ofNat (n / 16777216 % 256)]
def of4 (b : List UInt8) : Nat := (b.getD 0 0).toNat + (b.getD 1 0).toNat * 256 + (b.getD 2 0).toNat * 65536 + (b.getD 3 0).toNat * 16777216
theorem num4_len (n : Nat) : (num4 n).length = 4 := rfl
theorem of4_num4 (n : Nat) (h : n < 4294967296) (r : List UInt8) : of4 (num4 n ++ r) = n := by
  have e : ∀ k : Nat, (UInt8.ofNat (k % 256)).toNat = k % 256 := fun k => by rw [UInt8.toNat_ofNat']; exact Nat.mod_eq_of_lt (by show k % 256 < 256; omega)
  show (UInt8.ofNat (n % 256)).toNat + (UInt8.ofNat (n / 256 % 256)).toNat * 256 + (UInt8.ofNat (n / 65536 % 256)).toNat * 65536 + (UInt8.ofNat (n / 16777216 % 256)).toNat * 16777216 = n
  rw [e, e, e, e]
  omega
theorem of4_lt (b : List UInt8) : of4 b < 4294967296 := by
  unfold of4
  have := (b.getD 0 0).toNat_lt
  have := (b.getD 1 0).toNat_lt
  have := (b.getD 2 0).toNat_lt
  have := (b.getD 3 0).toNat_lt
  omega
/-! ### heads and pieces -/
def threeB (n g m : Nat) : List UInt8 := num4 n ++ num4 g ++ num4 m
def headB (n g m : Nat) : List UInt8 := threeB n g m ++ threeB n g m
def pieceB (kind : Nat) (b : List UInt8) : List UInt8 := UInt8.ofNat kind :: (num4 b.length ++ b)
theorem threeB_len (n g m : Nat) : (threeB n g m).length = 12 := rfl
theorem headB_len (n g m : Nat) : (headB n g m).length = 24 := rfl
theorem pieceB_len (kind : Nat) (b : List UInt8) : (pieceB kind b).length = b.length + 5 := by
  unfold pieceB; rw [List.length_cons, List.length_append, num4_len]; omega
/-! ### banks -/
def halfS (s : DS) : Nat := (s.now.length - 2) / 2
def sizeS (s : DS) : Nat := halfS s * 128
/-- The first so many sectors of a bank. -/
def bankTo (s : DS) (k : Nat) : Nat → List UInt8
  | 0 => []
  | i + 1 => bankTo s k i ++ s.now.getD (2 + k * halfS s + i) []
def bankS (s : DS) (k : Nat) : List UInt8 := bankTo s k (halfS s)
/-- Does a head stand so in a sector? -/
def standsB (s : DS) (k : Nat) (h : List UInt8) : Bool := decide (of4 h ≤ 1073741824) && decide (of4 h % 2 = k) && decide (1 ≤ of4 (h.drop 4)) && decide (of4 (h.drop 4) ≤ 1048576) && decide (of4 (h.drop 8) ≤ sizeS s) && decide (h.take 12 = (h.drop 12).take 12)
/-- The head that counts: a number, a generation, a length. -/
def nextH (s : DS) (k : Nat) (t : Nat × Nat × Nat) : Nat × Nat × Nat :=
  if t.1 < of4 (s.now.getD k []) ∧ standsB s k (s.now.getD k []) = true then (of4 (s.now.getD k []), of4 ((s.now.getD k []).drop 4), of4 ((s.now.getD k []).drop 8)) else t
def thereTo (s : DS) : Nat → Nat × Nat × Nat
  | 0 => (0, 0, 0)
  | k + 1 => nextH s k (thereTo s k)
def thereS (s : DS) : Nat × Nat × Nat := thereTo s 2
theorem nextH_le (s : DS) (k : Nat) (t : Nat × Nat × Nat) (h : t.1 ≤ 1073741824 ∧ t.2.1 ≤ 1048576 ∧ t.2.2 ≤ sizeS s) : (nextH s k t).1 ≤ 1073741824 ∧ (nextH s k t).2.1 ≤ 1048576 ∧ (nextH s k t).2.2 ≤ sizeS s := by
  unfold nextH
  split
  · rename_i hc
    have := hc.2
    unfold standsB at this
    simp only [Bool.and_eq_true, decide_eq_true_eq] at this
    exact ⟨this.1.1.1.1.1, this.1.1.2, this.1.2⟩
  · exact h
theorem thereTo_le (s : DS) : ∀ k, (thereTo s k).1 ≤ 1073741824 ∧ (thereTo s k).2.1 ≤ 1048576 ∧ (thereTo s k).2.2 ≤ sizeS s
  | 0 => ⟨Nat.zero_le _, Nat.zero_le _, Nat.zero_le _⟩
  | k + 1 => nextH_le s k _ (thereTo_le s k)
theorem thereS_le (s : DS) : (thereS s).1 ≤ 1073741824 ∧ (thereS s).2.1 ≤ 1048576 ∧ (thereS s).2.2 ≤ sizeS s := thereTo_le s 2
/-! ### what bytes tell -/
structure TS where
  b : List UInt8
  state : List UInt8
  recs : List (List UInt8)
  whole : Bool
/-- Does a piece follow? -/
def fitsT (t : TS) : Bool := decide (5 ≤ t.b.length) && decide (of4 (t.b.drop 1) ≤ 4096) && decide (of4 (t.b.drop 1) ≤ t.b.length - 5) && decide (1 ≤ (t.b.getD 0 0).toNat) && decide ((t.b.getD 0 0).toNat ≤ 3) && decide (t.whole = decide ((t.b.getD 0 0).toNat = 3))
def pieceT (t : TS) : List UInt8 := (t.b.drop 5).take (of4 (t.b.drop 1))
def stepT (t : TS) : TS :=
  if (t.b.getD 0 0).toNat = 3 then { t with b := t.b.drop (5 + of4 (t.b.drop 1)), recs := t.recs ++ [pieceT t] }
  else { t with b := t.b.drop (5 + of4 (t.b.drop 1)), state := t.state ++ pieceT t, whole := decide ((t.b.getD 0 0).toNat = 2) }
def goT : Nat → TS → TS
  | 0, t => t
  | n + 1, t => if fitsT t then goT n (stepT t) else t
def tellB (b : List UInt8) : TS := goT b.length ⟨b, [], [], false⟩
/-- The state and the records. -/
def toldB (b : List UInt8) : List UInt8 × List (List UInt8) := if (tellB b).whole then ((tellB b).state, (tellB b).recs) else ([], [])
theorem fitsT_len {t : TS} (h : fitsT t = true) : 5 ≤ t.b.length ∧ of4 (t.b.drop 1) ≤ t.b.length - 5 := by
  unfold fitsT at h
  simp only [Bool.and_eq_true, decide_eq_true_eq] at h
  omega
theorem stepT_b (t : TS) : (stepT t).b = t.b.drop (5 + of4 (t.b.drop 1)) := by
  unfold stepT; split <;> rfl
theorem stepT_less {t : TS} (h : fitsT t = true) : (stepT t).b.length + 5 ≤ t.b.length := by
  obtain ⟨h1, h2⟩ := fitsT_len h
  rw [stepT_b, List.length_drop]
  omega
/-- Enough is enough. -/
theorem goT_more : ∀ (n m : Nat) (t : TS), t.b.length ≤ n → t.b.length ≤ m → goT n t = goT m t
  | 0, 0, t, _, _ => rfl
  | 0, m + 1, t, h, _ => by
    show t = if fitsT t then _ else t
    rw [if_neg (fun hf => by have := (fitsT_len hf).1; omega)]
  | n + 1, 0, t, _, h => by
    show (if fitsT t then _ else t) = t
    rw [if_neg (fun hf => by have := (fitsT_len hf).1; omega)]
  | n + 1, m + 1, t, h1, h2 => by
    show (if fitsT t then goT n (stepT t) else t) = if fitsT t then goT m (stepT t) else t
    by_cases hf : fitsT t = true
    · rw [if_pos hf, if_pos hf]
      have := stepT_less hf
      exact goT_more n m (stepT t) (by omega) (by omega)
    · rw [if_neg hf, if_neg hf]
/-! ### the log -/
structure LS where
  n : Nat
  gen : Nat
  b : List UInt8
  sure : Nat
  begun : Bool
  broke : Bool
/-- What there is on a disk whose power is on. -/
def foundS (s : DS) : List UInt8 × List (List UInt8) := if (thereS s).1 = 0 then ([], []) else toldB ((bankS s ((thereS s).2.1 % 2)).take (thereS s).2.2)
def openL (s : DS) : LS := ⟨(thereS s).1, (thereS s).2.1, [], 0, false, false⟩
/-- What Open answers: 0, 1 or 7. -/
def openE (s : DS) : Int := if sizeS s < 256 then 1 else if s.down then 7 else 0
/-- The i-th sector's bytes. -/
def rowB (b : List UInt8) (i : Nat) : List UInt8 := (b.drop (i * 128)).take 128
/-- The sectors of a bank from the i-th one on are written, as long as all is well. -/
def rowsW (first : Nat) (b : List UInt8) : Nat → Nat → DS → Int × DS
  | 0, _, s => (0, s)
  | n + 1, i, s => if b.length ≤ i * 128 then (0, s) else if (writeS s ((first + i : Nat) : Int) (rowB b i)).1 ≠ 0 then writeS s ((first + i : Nat) : Int) (rowB b i) else rowsW first b n (i + 1) (writeS s ((first + i : Nat) : Int) (rowB b i)).2
/-- Behind the sectors: sync, the head, sync. -/
def sealW (n gen len : Nat) (s : DS) : Int × DS :=
  if (syncS s).1 ≠ 0 then syncS s
  else if (writeS (syncS s).2 (((n + 1) % 2 : Nat) : Int) (headB (n + 1) gen len)).1 ≠ 0 then writeS (syncS s).2 (((n + 1) % 2 : Nat) : Int) (headB (n + 1) gen len)
  else syncS (writeS (syncS s).2 (((n + 1) % 2 : Nat) : Int) (headB (n + 1) gen len)).2
def writeW (s : DS) (n gen frm : Nat) (b : List UInt8) : Int × DS :=
  if (rowsW (2 + gen % 2 * halfS s) b (b.length + 1) (frm / 128) s).1 ≠ 0 then rowsW (2 + gen % 2 * halfS s) b (b.length + 1) (frm / 128) s
  else sealW n gen b.length (rowsW (2 + gen % 2 * halfS s) b (b.length + 1) (frm / 128) s).2
/-- A state's pieces. -/
def partsB : Nat → List UInt8 → List UInt8
  | 0, b => pieceB 2 b
  | n + 1, b => if 1024 < b.length then pieceB 1 (b.take 1024) ++ partsB n (b.drop 1024) else pieceB 2 b
def stateB (b : List UInt8) : List UInt8 := partsB b.length b
def checkW (s : DS) (l : LS) (st : List UInt8) : Int × DS × LS :=
  if l.broke then (10, s, l)
  else if sizeS s < (stateB st).length ∨ 1048576 < l.gen + 1 ∨ 1073741824 ≤ l.n then (3, s, l)
  else if (writeW s l.n (l.gen + 1) 0 (stateB st)).1 ≠ 0 then ((writeW s l.n (l.gen + 1) 0 (stateB st)).1, (writeW s l.n (l.gen + 1) 0 (stateB st)).2, { l with broke := true })
  else (0, (writeW s l.n (l.gen + 1) 0 (stateB st)).2, { l with n := l.n + 1, gen := l.gen + 1, b := stateB st, sure := (stateB st).length, begun := true })
def roomW (s : DS) (l : LS) : Int := if l.broke || !l.begun then 0 else (sizeS s : Int) - (l.b.length : Int)
def appendW (s : DS) (l : LS) (b : List UInt8) : Int × LS :=
  if l.broke then (10, l) else if l.begun = false then (9, l) else if 4096 < b.length then (1, l) else if roomW s l < (b.length : Int) + 5 then (3, l)
  else (0, { l with b := l.b ++ pieceB 3 b })
def commitW (s : DS) (l : LS) : Int × DS × LS :=
  if l.broke then (10, s, l) else if l.begun = false then (9, s, l) else if l.sure = l.b.length then (0, s, l) else if 1073741824 ≤ l.n then (3, s, l)
  else if (writeW s l.n l.gen l.sure l.b).1 ≠ 0 then ((writeW s l.n l.gen l.sure l.b).1, (writeW s l.n l.gen l.sure l.b).2, { l with broke := true })
  else (0, (writeW s l.n l.gen l.sure l.b).2, { l with n := l.n + 1, sure := l.b.length })
end Go.Proofs.YtbegphfideopoaaGreat
namespace Go.Proofs.YtbegphfideopoaaGreat

def tellT (t : TS) : TS := goT t.b.length t
theorem tellT_step {t : TS} (h : fitsT t = true) : tellT t = tellT (stepT t) := by
  have h1 := (fitsT_len h).1
  have h2 := stepT_less h
  obtain ⟨n, hn⟩ : ∃ n, t.b.length = n + 1 := ⟨t.b.length - 1, by omega⟩
  unfold tellT
  rw [hn]
  show (if fitsT t then goT n (stepT t) else t) = _
  rw [if_pos h]
  exact goT_more _ _ _ (by omega) (Nat.le_refl _)
theorem tellT_stop {t : TS} (h : fitsT t = false) : tellT t = t := by
  unfold tellT
  cases hn : t.b.length with
  | zero => rfl
  | succ n =>
    show (if fitsT t then goT n (stepT t) else t) = _
    rw [if_neg (by rw [h]; decide)]
theorem of4_piece (k : Nat) (x rest : List UInt8) (h : x.length ≤ 4096) : of4 ((pieceB k x ++ rest).drop 1) = x.length := by
  show of4 ((num4 x.length ++ x) ++ rest) = _
  rw [List.append_assoc]
  exact of4_num4 _ (by omega) _
theorem kind_piece (k : Nat) (x rest : List UInt8) (h : k < 256) : ((pieceB k x ++ rest).getD 0 0).toNat = k := by
  show (UInt8.ofNat k).toNat = k
  rw [UInt8.toNat_ofNat']
  exact Nat.mod_eq_of_lt h
theorem drop_piece (k : Nat) (x rest : List UInt8) : (pieceB k x ++ rest).drop (5 + x.length) = rest := by
  rw [List.drop_append, List.drop_of_length_le (by rw [pieceB_len]; omega), pieceB_len, show 5 + x.length - (x.length + 5) = 0 by omega]
  simp
theorem take_piece (k : Nat) (x rest : List UInt8) : ((pieceB k x ++ rest).drop 5).take x.length = x := by
  show ((x ++ rest)).take x.length = x
  rw [List.take_left]
theorem fits_piece {t : TS} {k : Nat} {x rest : List UInt8} (hb : t.b = pieceB k x ++ rest) (hx : x.length ≤ 4096) (h1 : 1 ≤ k) (h3 : k ≤ 3) (hw : t.whole = decide (k = 3)) : fitsT t = true := by
  unfold fitsT
  rw [hb, of4_piece k x rest hx, kind_piece k x rest (by omega), hw, List.length_append, pieceB_len]
  simp only [Bool.and_eq_true, decide_eq_true_eq]
  refine ⟨⟨⟨⟨⟨by omega, hx⟩, by omega⟩, h1⟩, h3⟩, ?_⟩
  first | rfl | trivial | simp
theorem step_piece {t : TS} {k : Nat} {x rest : List UInt8} (hb : t.b = pieceB k x ++ rest) (hx : x.length ≤ 4096) (h3 : k ≤ 3) : stepT t = if k = 3 then { t with b := rest, recs := t.recs ++ [x] } else { t with b := rest, state := t.state ++ x, whole := decide (k = 2) } := by
  unfold stepT pieceT
  rw [hb, of4_piece k x rest hx, kind_piece k x rest (by omega), drop_piece, take_piece]
/-- Records' pieces. -/
def recsB (rs : List (List UInt8)) : List UInt8 := (rs.map (pieceB 3)).flatten
theorem recsB_snoc (rs : List (List UInt8)) (x : List UInt8) : recsB (rs ++ [x]) = recsB rs ++ pieceB 3 x := by simp [recsB]
theorem tell_recs : ∀ (rs : List (List UInt8)), (∀ x ∈ rs, x.length ≤ 4096) → ∀ (st : List UInt8) (acc : List (List UInt8)), tellT ⟨recsB rs, st, acc, true⟩ = ⟨[], st, acc ++ rs, true⟩
  | [], _, st, acc => by rw [List.append_nil]; exact tellT_stop rfl
  | x :: rs, h, st, acc => by
    have hb : recsB (x :: rs) = pieceB 3 x ++ recsB rs := by simp [recsB]
    have hx := h x List.mem_cons_self
    rw [tellT_step (fits_piece (k := 3) (x := x) (rest := recsB rs) hb hx (by decide) (by decide) rfl), step_piece (k := 3) (x := x) (rest := recsB rs) hb hx (by decide), if_pos rfl]
    show tellT ⟨recsB rs, st, acc ++ [x], true⟩ = _
    rw [tell_recs rs (fun y hy => h y (List.mem_cons_of_mem _ hy)) st (acc ++ [x]), List.append_assoc]
    rfl
theorem tell_parts : ∀ (n : Nat) (b : List UInt8), b.length ≤ n * 1024 + 1024 → ∀ (acc rest : List UInt8), tellT ⟨partsB n b ++ rest, acc, [], false⟩ = tellT ⟨rest, acc ++ b, [], true⟩
  | 0, b, h, acc, rest => by
    have hx : b.length ≤ 4096 := by omega
    rw [tellT_step (fits_piece (k := 2) (x := b) (rest := rest) rfl hx (by decide) (by decide) rfl), step_piece (k := 2) (x := b) (rest := rest) rfl hx (by decide), if_neg (by decide)]
    rfl
  | n + 1, b, h, acc, rest => by
    by_cases hl : 1024 < b.length
    · have e : partsB (n + 1) b = pieceB 1 (b.take 1024) ++ partsB n (b.drop 1024) := by show (if 1024 < b.length then _ else _) = _; rw [if_pos hl]
      have hx : (b.take 1024).length ≤ 4096 := by rw [List.length_take]; omega
      rw [e, List.append_assoc]
      rw [tellT_step (fits_piece (k := 1) (x := b.take 1024) (rest := partsB n (b.drop 1024) ++ rest) rfl hx (by decide) (by decide) rfl), step_piece (k := 1) (x := b.take 1024) (rest := partsB n (b.drop 1024) ++ rest) rfl hx (by decide), if_neg (by decide)]
      show tellT ⟨partsB n (b.drop 1024) ++ rest, acc ++ b.take 1024, [], false⟩ = _
      rw [tell_parts n (b.drop 1024) (by rw [List.length_drop]; omega) (acc ++ b.take 1024) rest, List.append_assoc, List.take_append_drop]
    · have e : partsB (n + 1) b = pieceB 2 b := by show (if 1024 < b.length then _ else _) = _; rw [if_neg hl]
      have hx : b.length ≤ 4096 := by omega
      rw [e, tellT_step (fits_piece (k := 2) (x := b) (rest := rest) rfl hx (by decide) (by decide) rfl), step_piece (k := 2) (x := b) (rest := rest) rfl hx (by decide), if_neg (by decide)]
      rfl
/-- What was put is told. -/
theorem told_put (st : List UInt8) (rs : List (List UInt8)) (h : ∀ x ∈ rs, x.length ≤ 4096) : toldB (stateB st ++ recsB rs) = (st, rs) := by
  have e : tellB (stateB st ++ recsB rs) = ⟨[], st, rs, true⟩ := by
    show tellT ⟨stateB st ++ recsB rs, [], [], false⟩ = _
    unfold stateB
    rw [tell_parts st.length st (by omega) [] (recsB rs), tell_recs rs h]
    rfl
  unfold toldB
  rw [e]
  rfl
theorem partsB_len : ∀ (n : Nat) (b : List UInt8), b.length ≤ n * 1024 + 1024 → (partsB n b).length = b.length + 5 * max ((b.length + 1023) / 1024) 1
  | 0, b, h => by
    show (pieceB 2 b).length = _
    rw [pieceB_len]
    omega
  | n + 1, b, h => by
    by_cases hl : 1024 < b.length
    · have e : partsB (n + 1) b = pieceB 1 (b.take 1024) ++ partsB n (b.drop 1024) := by show (if 1024 < b.length then _ else _) = _; rw [if_pos hl]
      rw [e, List.length_append, pieceB_len, partsB_len n (b.drop 1024) (by rw [List.length_drop]; omega), List.length_take, List.length_drop]
      omega
    · have e : partsB (n + 1) b = pieceB 2 b := by show (if 1024 < b.length then _ else _) = _; rw [if_neg hl]
      rw [e, pieceB_len]
      omega
theorem stateB_len (b : List UInt8) : (stateB b).length = b.length + 5 * max ((b.length + 1023) / 1024) 1 := partsB_len b.length b (by omega)
end Go.Proofs.YtbegphfideopoaaGreat
namespace Go.Proofs.YtbegphfideopoaaGreat
open Go.RowKit

theorem own_new7 (w : World) (bs : List UInt8) (hm : bs.length ≤ maxLen) : Own (w.alloc (.cells (bs.map v8).toArray 5)) w.heap.size (.slice (some ⟨w.heap.size, 0, none⟩) bs.length bs.length) bs :=
  ⟨by simp, .inr ⟨w.heap.size, bs.length, (bs.map v8).toArray, rfl, Nat.le_refl _, heap_alloc_new w _, Nat.le_refl _, hm, by simp, by rw [Nat.mul_one]; exact List.take_of_length_le (by simp)⟩⟩
theorem v8_ofNat (k : Nat) (h : k < 256) : v8 (UInt8.ofNat k) = .int .u8 (k : Int) := by
  unfold v8 n8
  rw [UInt8.toNat_ofNat', Nat.mod_eq_of_lt h]
theorem num4_cells (n : Nat) (hn : n < 4294967296) : ((num4 n).map v8).toArray = #[.int .u8 ((n : Int) % 256), .int .u8 ((n : Int) / 256 % 256), .int .u8 ((n : Int) / 65536 % 256), .int .u8 ((n : Int) / 16777216)] := by
  show #[v8 (UInt8.ofNat (n % 256)), v8 (UInt8.ofNat (n / 256 % 256)), v8 (UInt8.ofNat (n / 65536 % 256)), v8 (UInt8.ofNat (n / 16777216 % 256))] = _
  rw [v8_ofNat _ (by omega), v8_ofNat _ (by omega), v8_ofNat _ (by omega), v8_ofNat _ (by omega)]
  have e : n / 16777216 % 256 = n / 16777216 := by omega
  rw [e]
  rfl
theorem index7 (b off len c : Nat) (z : Int) (I : Nat) (hz : z = (I : Int)) (h : I < len) (w : World) : (Instr.indexAt 34 (.slice (some ⟨b, off, none⟩) len c) (.int .i64 z)).run Tryz.prog w = .ok (.pointer (some ⟨b, off + I, none⟩)) w := by
  subst hz
  have hi : (0 : Int) ≤ (I : Int) ∧ (I : Int) < (len : Int) := by omega
  simp [Instr.indexAt, asIntOf, run_underlying Tryz.underlying34, hi, Addr.add_mid]
  intro h2
  omega
end Go.Proofs.YtbegphfideopoaaGreat
namespace Go.Proofs.YtbegphfideopoaaGreat
open Go.RowKit

theorem held_begin {id : Nat} {Q : Exit → Act → World → Prop} {a : Act} {w : World} {l : List Oper} (S : World → Prop) (hm : Tryz.prog.follows .mixedOrders = true)
    (h : wpAnyH Tryz.prog .any l.toArray (NoPanic Q) S l.toArray.size (Array.replicate l.toArray.size false) a w.drew) : (Code.region id l.toArray true).wp Tryz.prog Q a w :=
  wp_region_noPanic (wp_region_held hm h)
/-- An operation that yields its value in every world of the kind is taken first. -/
theorem held_take {ops : Array Oper} {Q : Exit → Act → World → Prop} {S : World → Prop} {fuel : Nat} {listed : Array Bool} {a : Act} {w : World} (i d : Nat) (o : Oper) (v : Value) (hi : ops[i]? = some o) (hd : o.dst = some d)
    (hs : Region.noSelect ops = true) (hf : Region.free .any ops listed i = true) (hr : (Region.ready .any ops listed).contains i = true) (hw : Region.wanted o (yielded ops a.tmps) = true) (hS : S w) (hrun : ∀ w, S w → (execOp a.eval o).run Tryz.prog w = .ok (.value v) w)
    (h : wpAnyH Tryz.prog .any ops (NoPanic Q) S fuel (listed.setIfInBounds i true) (a.put (some d) v) w) : wpAnyH Tryz.prog .any ops (NoPanic Q) S (fuel + 1) listed a w :=
  wpAnyH_take hi hs hf hr (fun _ _ _ h => h) (.inl ⟨hw, hrun⟩) hS (by rw [hd]; exact h)
/-- The one operation that may come up yields a value in the world at hand. -/
theorem held_one {ops : Array Oper} {Q : Exit → Act → World → Prop} {S : World → Prop} {fuel : Nat} {listed : Array Bool} {a : Act} {w : World} (i d : Nat) (o : Oper) (v : Value) (hi : ops[i]? = some o) (hd : o.dst = some d)
    (hr : Region.ready .any ops listed = [i]) (hw : Region.wanted o (yielded ops a.tmps) = true) (hS : S w) (hrun : (execOp a.eval o).run Tryz.prog w = .ok (.value v) w)
    (h : wpAnyH Tryz.prog .any ops Q S fuel (listed.setIfInBounds i true) (a.put (some d) v) w) : wpAnyH Tryz.prog .any ops Q S (fuel + 1) listed a w := by
  refine wpAnyH_all hr (by simp) fun k hk => ?_
  obtain rfl : k = i := by simpa using hk
  unfold wpOp
  simp only [hi, hw, if_true]
  refine .inl ?_
  unfold Oper.wp
  rw [hrun]
  show _ ∧ _
  rw [hd]; exact ⟨hS, h⟩
/-- The one operation that may come up is a call. -/
theorem held_call {ops : Array Oper} {Q : Exit → Act → World → Prop} {S : World → Prop} {fuel : Nat} {listed : Array Bool} {a : Act} {w : World} (i d : Nat) (o : Oper) (f : FuncId) (args : Array Value) (hi : ops[i]? = some o) (hd : o.dst = some d)
    (hr : Region.ready .any ops listed = [i]) (hw : Region.wanted o (yielded ops a.tmps) = true) (hrun : (execOp a.eval o).run Tryz.prog w = .ok (.enter f args) w)
    (h : Calls Tryz.prog f args w fun e w' => ∃ v, e = .returned v ∧ S w' ∧ wpAnyH Tryz.prog .any ops Q S fuel (listed.setIfInBounds i true) (a.put (some d) v) w') : wpAnyH Tryz.prog .any ops Q S (fuel + 1) listed a w := by
  refine wpAnyH_all hr (by simp) fun k hk => ?_
  obtain rfl : k = i := by simpa using hk
  unfold wpOp
  simp only [hi, hw, if_true]
  refine .inl ?_
  unfold Oper.wp
  rw [hrun]
  refine Calls.mono h ?_
  rintro e w' ⟨v, rfl, h1, h2⟩
  show _ ∧ _
  rw [hd]; exact ⟨h1, h2⟩
/-- The one operation that may come up is passed by. -/
theorem held_skip {ops : Array Oper} {Q : Exit → Act → World → Prop} {S : World → Prop} {fuel : Nat} {listed : Array Bool} {a : Act} {w : World} (i d : Nat) (o : Oper) (hi : ops[i]? = some o) (hd : o.dst = some d)
    (hr : Region.ready .any ops listed = [i]) (hw : Region.wanted o (yielded ops a.tmps) = false) (hS : S w)
    (h : wpAnyH Tryz.prog .any ops Q S fuel (listed.setIfInBounds i true) (a.put (some d) undef) w) : wpAnyH Tryz.prog .any ops Q S (fuel + 1) listed a w := by
  refine wpAnyH_all hr (by simp) fun k hk => ?_
  obtain rfl : k = i := by simpa using hk
  unfold wpOp
  simp only [hi, hw, Bool.false_eq_true, if_false]
  show _ ∧ _
  rw [hd]; exact ⟨hS, h⟩
/-- A narrower kind of worlds serves. -/
theorem held_weaken {ops : Array Oper} {Q : Exit → Act → World → Prop} {S S' : World → Prop} (hS : ∀ w, S' w → S w) : ∀ (fuel : Nat) (listed : Array Bool) (a : Act) (w : World), wpAnyH Tryz.prog .any ops Q S' fuel listed a w → wpAnyH Tryz.prog .any ops Q S fuel listed a w
  | 0, _, _, _, h => h
  | fuel + 1, _, _, _, h => ⟨h.1, fun i hi => wpOp_mono (fun a' w' h' => ⟨hS _ h'.1, held_weaken hS fuel _ a' w' h'.2⟩) (h.2 i hi)⟩
theorem eql_string_self (w : World) (s : ByteArray) : (binOp .eql 9 (.string s) (.string s)).run Tryz.prog w = .ok (.bool true) w := by
  rw [binOp_string_eql]
  simp
set_option maxRecDepth 100000 in
theorem eql_bool_self (w : World) (b : Bool) : (binOp .eql 4 (.bool b) (.bool b)).run Tryz.prog w = .ok (.bool true) w := by
  cases b <;> rfl
theorem exec_conv {a : Act} {o : Oper} {w : World} (src dst : TypeId) (x : Operand) (ho : o.op = .convert src dst x) (u v : Value) (hx : a.eval x = u) (h : (convert src dst u).run Tryz.prog w = .ok v w) : (execOp a.eval o).run Tryz.prog w = .ok (.value v) w := by
  unfold execOp
  simp [ho, hx, h]
theorem exec_cmp {a : Act} {o : Oper} {w : World} (b : BinOp) (t t' : TypeId) (x y : Operand) (ho : o.op = .binOp b t x y t') (hb : b = .neq ∨ b = .eql) (ux uy v : Value) (hx : a.eval x = ux) (hy : a.eval y = uy) (hg : (eqGuard b t x y ux uy).run Tryz.prog w = .ok () w) (h : (binOp b t ux uy).run Tryz.prog w = .ok v w) : (execOp a.eval o).run Tryz.prog w = .ok (.value v) w := by
  unfold execOp
  rcases hb with rfl | rfl <;> simp [ho, hx, hy, hg, h]
theorem exec_one {a : Act} {o : Oper} {w : World} (f : FuncId) (x : Operand) (ts : Array TypeId) (ho : o.op = .call { callee := .value (.func f), args := #[x], argTypes := ts }) (u : Value) (hx : a.eval x = u) (hc : ∀ args w, (callFunc f args).run Tryz.prog w = .ok (.enter f args) w) : (execOp a.eval o).run Tryz.prog w = .ok (.enter f #[u]) w := by
  have he : a.eval (.func f) = .func (.func f) #[] #[] := rfl
  unfold execOp
  simp [ho, resolve, invoke, Deferred.ofValue, he, hx, hc]
theorem str_beq (a b : List UInt8) : ((⟨a.toArray⟩ : ByteArray).toList == (⟨b.toArray⟩ : ByteArray).toList) = decide (a = b) := by
  rw [ByteArray.toList_mk, ByteArray.toList_mk]
  by_cases e : a = b <;> simp [e]
theorem neq_string (w : World) (a b : List UInt8) : (binOp .neq 9 (.string ⟨a.toArray⟩) (.string ⟨b.toArray⟩)).run Tryz.prog w = .ok (.bool (!decide (a = b))) w := by
  rw [← str_beq]
  rw [binOp_string_neq]; rfl
theorem eql_string (w : World) (a b : List UInt8) : (binOp .eql 9 (.string ⟨a.toArray⟩) (.string ⟨b.toArray⟩)).run Tryz.prog w = .ok (.bool (decide (a = b))) w := by
  rw [← str_beq]
  rw [binOp_string_eql]; rfl
end Go.Proofs.YtbegphfideopoaaGreat
namespace Go.Proofs.YtbegphfideopoaaGreat
open Go.RowKit

theorem held_all2 {ops : Array Oper} {Q : Exit → Act → World → Prop} {S : World → Prop} {fuel : Nat} {listed : Array Bool} {a : Act} {w : World} (i j : Nat) (hr : Region.ready .any ops listed = [i, j])
    (h1 : wpOp Tryz.prog ops Q i (fun a' w' => S w' ∧ wpAnyH Tryz.prog .any ops Q S fuel (listed.setIfInBounds i true) a' w') a w) (h2 : wpOp Tryz.prog ops Q j (fun a' w' => S w' ∧ wpAnyH Tryz.prog .any ops Q S fuel (listed.setIfInBounds j true) a' w') a w) : wpAnyH Tryz.prog .any ops Q S (fuel + 1) listed a w := by
  refine wpAnyH_all hr (by simp) fun k hk => ?_
  simp only [List.mem_cons, List.not_mem_nil, or_false] at hk
  rcases hk with rfl | rfl
  · exact h1
  · exact h2
theorem held_all1 {ops : Array Oper} {Q : Exit → Act → World → Prop} {S : World → Prop} {fuel : Nat} {listed : Array Bool} {a : Act} {w : World} (i : Nat) (hr : Region.ready .any ops listed = [i])
    (h1 : wpOp Tryz.prog ops Q i (fun a' w' => S w' ∧ wpAnyH Tryz.prog .any ops Q S fuel (listed.setIfInBounds i true) a' w') a w) : wpAnyH Tryz.prog .any ops Q S (fuel + 1) listed a w := by
  refine wpAnyH_all hr (by simp) fun k hk => ?_
  obtain rfl : k = i := by simpa using hk
  exact h1
theorem op_value {ops : Array Oper} {Q : Exit → Act → World → Prop} {K : Act → World → Prop} {a : Act} {w : World} (i d : Nat) (o : Oper) (v : Value) (w' : World) (hi : ops[i]? = some o) (hd : o.dst = some d) (hw : Region.wanted o (yielded ops a.tmps) = true) (hrun : (execOp a.eval o).run Tryz.prog w = .ok (.value v) w') (h : K (a.put (some d) v) w') : wpOp Tryz.prog ops Q i K a w := by
  unfold wpOp
  simp only [hi, hw, if_true]
  refine .inl ?_
  unfold Oper.wp
  rw [hrun, Oper.upon_value, hd]
  exact h
theorem op_skip {ops : Array Oper} {Q : Exit → Act → World → Prop} {K : Act → World → Prop} {a : Act} {w : World} (i : Nat) (o : Oper) (w' : World) (hi : ops[i]? = some o) (hd : o.dst = none) (hw : Region.wanted o (yielded ops a.tmps) = true) (hrun : (execOp a.eval o).run Tryz.prog w = .ok .skip w') (h : K a w') : wpOp Tryz.prog ops Q i K a w := by
  unfold wpOp
  simp only [hi, hw, if_true]
  refine .inl ?_
  unfold Oper.wp
  rw [hrun, Oper.upon_skip, hd]
  exact h
theorem op_call {ops : Array Oper} {Q : Exit → Act → World → Prop} {K : Act → World → Prop} {a : Act} {w : World} (i d : Nat) (o : Oper) (f : FuncId) (args : Array Value) (hi : ops[i]? = some o) (hd : o.dst = some d) (hw : Region.wanted o (yielded ops a.tmps) = true) (hrun : (execOp a.eval o).run Tryz.prog w = .ok (.enter f args) w)
    (h : Calls Tryz.prog f args w fun e w' => ∃ v, e = .returned v ∧ K (a.put (some d) v) w') : wpOp Tryz.prog ops Q i K a w := by
  unfold wpOp
  simp only [hi, hw, if_true]
  refine .inl ?_
  unfold Oper.wp
  rw [hrun]
  refine Calls.mono h ?_
  rintro e w' ⟨v, rfl, h1⟩
  show K _ _
  rw [hd]; exact h1
theorem exec_loadc {a : Act} {o : Oper} {w : World} (ty : TypeId) (x : Operand) (ho : o.op = .load ty x) (p : Addr) (v : Value) (hx : a.eval x = .pointer (some p)) (hr : (Instr.loadAt ty (.pointer (some p))).run Tryz.prog w = .ok v w) : (execOp a.eval o).run Tryz.prog w = .ok (.value v) w := by
  unfold execOp
  simp [ho, hx, hr]
theorem load_one (ty : TypeId) (hag : ∀ w, (isAgg ty).run Tryz.prog w = .ok false w) (w : World) (g i : Nat) (v : Value) (h : w.cell? ⟨g, i, none⟩ = some v) : (Instr.loadAt ty (.pointer (some ⟨g, i, none⟩))).run Tryz.prog w = .ok v w := by
  simp [Instr.loadAt, Instr.sureAddr, loadVar, hag, h]
theorem exec_len {a : Act} {o : Oper} {w : World} (x : Operand) (ho : o.op = .call { callee := .builtin .len, args := #[x], argTypes := #[34] }) (ao : Option Addr) (n c : Nat) (hx : a.eval x = .slice ao n c) : (execOp a.eval o).run Tryz.prog w = .ok (.value (.int .i64 (n : Int))) w := by
  unfold execOp
  have hl : ∀ cs, builtin .len #[34] o.type cs #[.slice ao n c] = (do pure (.value (← Builtin.len_ #[34] o.type #[.slice ao n c]))) := fun _ => rfl
  simp [ho, resolve, invoke, hx, hl, Builtin.len_, run_underlying Tryz.underlying34]
  rfl
theorem exec_subi {a : Act} {o : Oper} {w : World} (t : TypeId) (x y : Operand) (ho : o.op = .binOp .sub t x y t) (m n : Int) (hx : a.eval x = .int .i64 m) (hy : a.eval y = .int .i64 n) (h0 : -9223372036854775808 ≤ m - n) (h1 : m - n < 9223372036854775808) : (execOp a.eval o).run Tryz.prog w = .ok (.value (.int .i64 (m - n))) w := by
  have hw : IntKind.i64.wrap (m - n) = m - n := by rw [IntKind.wrap_i64]; omega
  unfold execOp
  simp [ho, hx, hy]
  rw [← hw]
  rfl
theorem exec_indexat {a : Act} {o : Oper} {w : World} (t : TypeId) (x y : Operand) (ho : o.op = .indexAddr t x y) (u v r : Value) (hx : a.eval x = u) (hy : a.eval y = v) (h : (Instr.indexAt t u v).run Tryz.prog w = .ok r w) : (execOp a.eval o).run Tryz.prog w = .ok (.value r) w := by
  unfold execOp
  simp [ho, hx, hy, h]
theorem exec_app {a : Act} {o : Oper} {w w' : World} (s x : Operand) (t tn : TypeId) (ho : o.op = .call { callee := .builtin .append, args := #[s, x], argTypes := #[t, tn] }) (vs vx v' : Value) (hs : a.eval s = vs) (hx : a.eval x = vx) (hr : ∀ ty, (Builtin.append_ #[t, tn] ty #[vs, vx]).run Tryz.prog w = .ok v' w') : (execOp a.eval o).run Tryz.prog w = .ok (.value v') w' := by
  unfold execOp
  simp [ho, resolve, invoke, builtin, hs, hx, hr, Result.andThen]
theorem exec_empty {a : Act} {o : Oper} {w : World} (ho : o.op = .buildSlice 34 0 #[]) : (execOp a.eval o).run Tryz.prog w = .ok (.value (.slice (some ⟨w.heap.size, 0, none⟩) 0 0)) (w.alloc (.cells #[] 5)) := by
  unfold execOp
  simp only [ho]
  simp [go_sem]
theorem exec_stores {a : Act} {o : Oper} {w : World} (x y : Operand) (ho : o.op = .store 34 x y) (g i : Nat) (ao : Option Addr) (n c : Nat) (u : Value) (hx : a.eval x = .pointer (some ⟨g, i, none⟩)) (hy : a.eval y = .slice ao n c) (hc : w.cell? ⟨g, i, none⟩ = some u) (hf : w.frozen? ⟨g, i, none⟩ = false) : (execOp a.eval o).run Tryz.prog w = .ok .skip (w.setCell ⟨g, i, none⟩ (.slice ao n c)) := by
  unfold execOp
  simp only [ho, hx, hy]
  simp [go_sem, hc, hf]
/-- What append of bytes does to a slice of the call's own. -/
theorem app_bytes (w : World) (base : Nat) (v : Value) (bs : List UInt8) (hown : Own w base v bs) (xv : Value) (nw : List UInt8) (hseg : Seg w xv nw) (hlen : bs.length + nw.length ≤ 1000000000) (hbase : base ≤ w.heap.size) :
    ∃ v' w', (∀ ty, (Builtin.append_ #[34, 34] ty #[v, xv]).run Tryz.prog w = .ok v' w') ∧ Own w' base v' (bs ++ nw) ∧ w.grownBy w' v.ownBlock ∧ (v'.ownBlock = v.ownBlock ∨ v'.ownBlock = some w.heap.size) := by
  obtain ⟨i0, hi, hz0, hz1, hz2⟩ := info_parts Tryz.info5
  have key : ∀ ad c m, xv = .slice (some ad) m c → m = nw.length → (∀ (j : Nat) u, (nw.map v8)[j]? = some u → w.cell? (ad.add j) = some u) → ∃ v' w', (∀ ty, (Builtin.append_ #[34, 34] ty #[v, xv]).run Tryz.prog w = .ok v' w') ∧ Own w' base v' (bs ++ nw) ∧ w.grownBy w' v.ownBlock ∧ (v'.ownBlock = v.ownBlock ∨ v'.ownBlock = some w.heap.size) := by
    intro ad c m hxv hm hc
    subst hm
    subst hxv
    obtain ⟨v', w', h0, h1, h2, _, h4⟩ := run_append_own_at (P := Tryz.prog) w base 34 34 5 i0 (.int .u8 0) 1 1 Tryz.underlying34 hi hz0 hz1 hz2 rfl (by decide) v bs.length (bs.map v8) hown ad nw.length c (nw.map v8) (by simp) hc (one8l nw) (by unfold maxLen; omega) (by omega) hbase
    refine ⟨v', w', fun ty => h0, ?_, h2, h4⟩
    unfold Own; rw [List.length_append, List.map_append]; exact h1
  rcases hseg with ⟨rfl, ao, c, rfl, hn⟩ | ⟨b, off, c, rfl, _, hr, _⟩
  · cases ao with
    | none =>
      obtain rfl := hn rfl
      exact ⟨v, w, fun ty => run_append_owned_none (P := Tryz.prog) (w := w) base 34 ty 5 i0 1 Tryz.underlying34 hi v bs.length (bs.map v8) hown, by rw [List.append_nil]; exact hown, ⟨rfl, rfl, rfl, Nat.le_refl _, fun _ _ _ => rfl⟩, .inl rfl⟩
    | some ad => exact key ad c 0 rfl rfl (fun j u h => by simp at h)
  · exact key ⟨b, off, none⟩ c _ rfl rfl hr.at
end Go.Proofs.YtbegphfideopoaaGreat
