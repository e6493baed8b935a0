/-
  What is proved here: nothing yet: what a disk does, plain: its sectors as they are and as they are synced, which are dirty, what comes, whether the power is off. plain facts on a log on a disk: numbers in four bytes, heads, pieces, what there is, what a change writes. what was put as pieces is told: a state, in whichever parts, and the records behind it; how many bytes they take.
  Conditions: none. those that each fact names.
-/
import Derived.Test.YtbdhkkdombdnkaaDoorJShaPure
namespace Go.Proofs.YtbdhkkdombdnkaaDoor

structure DS where
  now : List (List UInt8)
  sure : List (List UInt8)
  dirt : List Bool
  next : List UInt8
  down : Bool
def noughts (n : Nat) : List UInt8 := List.replicate n 0
def newS (n : Nat) : DS := ⟨List.replicate n (noughts 128), List.replicate n (noughts 128), List.replicate n false, [], false⟩
/-- As many of each, each of 128 bytes. -/
structure DS.ok (s : DS) (n : Nat) : Prop where
  now : s.now.length = n
  sure : s.sure.length = n
  dirt : s.dirt.length = n
  nows : ∀ r ∈ s.now, r.length = 128
  sures : ∀ r ∈ s.sure, r.length = 128
def readS (s : DS) (k : Int) : List UInt8 × Int := if s.down then ([], 7) else if k < 0 ∨ (s.now.length : Int) ≤ k then ([], 1) else (s.now.getD k.toNat [], 0)
/-- What a change meets, and what is behind it. -/
def mayS (s : DS) : Int × DS := if s.down then (7, s) else match s.next with
  | [] => (0, s)
  | c :: t => if c = 1 then (6, { s with next := t }) else if c = 2 then (7, { s with next := t, down := true }) else (0, { s with next := t })
def padS (b : List UInt8) : List UInt8 := b ++ noughts (128 - b.length)
def putS (s : DS) (k : Nat) (b : List UInt8) : DS := { s with now := s.now.set k (padS b), dirt := s.dirt.set k true }
def writeS (s : DS) (k : Int) (b : List UInt8) : Int × DS := if k < 0 ∨ (s.now.length : Int) ≤ k ∨ 128 < b.length then (1, s) else if (mayS s).1 ≠ 0 then mayS s else (0, putS (mayS s).2 k.toNat b)
def syncedS (s : DS) : DS := { s with sure := s.now, dirt := List.replicate s.dirt.length false }
def syncS (s : DS) : Int × DS := if (mayS s).1 ≠ 0 then mayS s else (0, syncedS (mayS s).2)
def dirtyAt : Nat → List Bool → List Nat
  | _, [] => []
  | i, b :: l => if b then i :: dirtyAt (i + 1) l else dirtyAt (i + 1) l
def dirtyS (s : DS) : List Nat := dirtyAt 0 s.dirt
/-- How many bytes of the i-th dirty sector stay as they are. -/
def stayN (stay : List Bool) (torn cut : Int) (i : Nat) : Nat := if (i : Int) = torn then (max 0 (min cut 128)).toNat else if stay[i]? = some true then 128 else 0
def tornRow (s : DS) (k n : Nat) : List UInt8 := (s.now.getD k []).take n ++ (s.sure.getD k []).drop n
def crashOne (s : DS) (k n : Nat) : DS := { s with now := s.now.set k (tornRow s k n), sure := s.sure.set k (tornRow s k n), dirt := s.dirt.set k false }
def crashTo (N : Nat → Nat) : Nat → List Nat → DS → DS
  | _, [], s => s
  | i, k :: l, s => crashTo N (i + 1) l (crashOne s k (N i))
def crashS (s : DS) (stay : List Bool) (torn cut : Int) : DS := { crashTo (stayN stay torn cut) 0 (dirtyS s) s with next := [], down := false }

theorem noughts_length (n : Nat) : (noughts n).length = n := List.length_replicate ..
theorem newS_ok (n : Nat) : (newS n).ok n := ⟨List.length_replicate .., List.length_replicate .., List.length_replicate .., fun r h => by rw [List.eq_of_mem_replicate h]; exact noughts_length _, fun r h => by rw [List.eq_of_mem_replicate h]; exact noughts_length _⟩
theorem DS.ok.may {s : DS} {n : Nat} (h : s.ok n) : (mayS s).2.ok n := by
  unfold mayS
  split
  · exact h
  · split
    · exact h
    · split
      · exact ⟨h.now, h.sure, h.dirt, h.nows, h.sures⟩
      · split
        · exact ⟨h.now, h.sure, h.dirt, h.nows, h.sures⟩
        · exact ⟨h.now, h.sure, h.dirt, h.nows, h.sures⟩
theorem padS_length {b : List UInt8} (h : b.length ≤ 128) : (padS b).length = 128 := by
  unfold padS; rw [List.length_append, noughts_length]; omega
theorem mem_set' {α : Type} {l : List α} {k : Nat} {x y : α} (h : y ∈ l.set k x) : y = x ∨ y ∈ l := (List.mem_or_eq_of_mem_set h).symm
theorem DS.ok.put {s : DS} {n : Nat} (h : s.ok n) (k : Nat) (b : List UInt8) (hb : b.length ≤ 128) : (putS s k b).ok n :=
  ⟨by show (s.now.set _ _).length = n; rw [List.length_set]; exact h.now, h.sure, by show (s.dirt.set _ _).length = n; rw [List.length_set]; exact h.dirt, fun r hr => by rcases mem_set' hr with rfl | h2; exact padS_length hb; exact h.nows r h2, h.sures⟩
theorem DS.ok.synced {s : DS} {n : Nat} (h : s.ok n) : (syncedS s).ok n := ⟨h.now, h.now, by show (List.replicate _ _).length = n; rw [List.length_replicate]; exact h.dirt, h.nows, h.nows⟩
theorem DS.ok.sync {s : DS} {n : Nat} (h : s.ok n) : (syncS s).2.ok n := by
  unfold syncS
  split
  · exact h.may
  · exact h.may.synced
theorem DS.ok.write {s : DS} {n : Nat} (h : s.ok n) (k : Int) (b : List UInt8) : (writeS s k b).2.ok n := by
  unfold writeS
  split
  · exact h
  · split
    · exact h.may
    · exact h.may.put _ _ (by omega)
theorem getD_len {l : List (List UInt8)} (h : ∀ r ∈ l, r.length = 128) {k : Nat} (hk : k < l.length) : (l.getD k []).length = 128 := by
  rw [List.getD_eq_getElem?_getD, List.getElem?_eq_getElem hk]
  exact h _ (List.getElem_mem hk)
theorem tornRow_length {s : DS} {n k m : Nat} (h : s.ok n) (hk : k < n) (hm : m ≤ 128) : (tornRow s k m).length = 128 := by
  unfold tornRow
  have h1 := getD_len h.nows (k := k) (by rw [h.now]; exact hk)
  have h2 := getD_len h.sures (k := k) (by rw [h.sure]; exact hk)
  rw [List.length_append, List.length_take, List.length_drop]; omega
theorem DS.ok.one {s : DS} {n : Nat} (h : s.ok n) {k m : Nat} (hk : k < n) (hm : m ≤ 128) : (crashOne s k m).ok n :=
  ⟨by show (s.now.set _ _).length = n; rw [List.length_set]; exact h.now, by show (s.sure.set _ _).length = n; rw [List.length_set]; exact h.sure, by show (s.dirt.set _ _).length = n; rw [List.length_set]; exact h.dirt, fun r hr => by rcases mem_set' hr with rfl | h2; exact tornRow_length h hk hm; exact h.nows r h2, fun r hr => by rcases mem_set' hr with rfl | h2; exact tornRow_length h hk hm; exact h.sures r h2⟩
theorem stayN_le (stay : List Bool) (torn cut : Int) (i : Nat) : stayN stay torn cut i ≤ 128 := by
  unfold stayN
  split
  · omega
  · split <;> omega
theorem dirtyAt_lt : ∀ (l : List Bool) (i k : Nat), k ∈ dirtyAt i l → k < i + l.length
  | [], _, _, h => by cases h
  | b :: l, i, k, h => by
    unfold dirtyAt at h
    rw [List.length_cons]
    split at h
    · rcases List.mem_cons.1 h with rfl | h
      · omega
      · have := dirtyAt_lt l (i + 1) k h; omega
    · have := dirtyAt_lt l (i + 1) k h; omega
theorem DS.ok.crashTo {n : Nat} (N : Nat → Nat) (hN : ∀ i, N i ≤ 128) : ∀ (l : List Nat) (i : Nat) (s : DS), s.ok n → (∀ k ∈ l, k < n) → (crashTo N i l s).ok n
  | [], _, _, h, _ => h
  | k :: l, i, _, h, hl => DS.ok.crashTo N hN l (i + 1) _ (h.one (hl k List.mem_cons_self) (hN i)) (fun q hq => hl q (List.mem_cons_of_mem _ hq))
theorem DS.ok.crash {s : DS} {n : Nat} (h : s.ok n) (stay : List Bool) (torn cut : Int) : (crashS s stay torn cut).ok n := by
  have := DS.ok.crashTo (stayN stay torn cut) (stayN_le _ _ _) (dirtyS s) 0 s h (fun k hk => by have := dirtyAt_lt _ _ _ hk; have := h.dirt; omega)
  exact ⟨this.now, this.sure, this.dirt, this.nows, this.sures⟩
end Go.Proofs.YtbdhkkdombdnkaaDoor
namespace Go.Proofs.YtbdhkkdombdnkaaDoor

/-! ### numbers in four bytes -/
def num4 (n : Nat) : List UInt8 := [UInt8.ofNat (n % 256), UInt8.ofNat (n / 256 % 256), UInt8.ofNat (n / 65536 % 256), UInt8.ofNat (n / 16777216 % 256)]
def of4 (b : List UInt8) : Nat := (b.getD 0 0).toNat + (b.getD 1 0).toNat * 256 + (b.getD 2 0).toNat * 65536 + (b.getD 3 0).toNat * 16777216
theorem num4_len (n : Nat) : (num4 n).length = 4 := rfl
theorem of4_num4 (n : Nat) (h : n < 4294967296) (r : List UInt8) : of4 (num4 n ++ r) = n := by
  have e : ∀ k : Nat, (UInt8.ofNat (k % 256)).toNat = k % 256 := fun k => by rw [UInt8.toNat_ofNat']; exact Nat.mod_eq_of_lt (by show k % 256 < 256; omega)
  show (UInt8.ofNat (n % 256)).toNat + (UInt8.ofNat (n / 256 % 256)).toNat * 256 + (UInt8.ofNat (n / 65536 % 256)).toNat * 65536 + (UInt8.ofNat (n / 16777216 % 256)).toNat * 16777216 = n
  rw [e, e, e, e]
  omega
theorem of4_lt (b : List UInt8) : of4 b < 4294967296 := by
  unfold of4
  have := (b.getD 0 0).toNat_lt
  have := (b.getD 1 0).toNat_lt
  have := (b.getD 2 0).toNat_lt
  have := (b.getD 3 0).toNat_lt
  omega
/-! ### heads and pieces -/
def threeB (n g m : Nat) : List UInt8 := num4 n ++ num4 g ++ num4 m
def headB (n g m : Nat) : List UInt8 := threeB n g m ++ threeB n g m
def pieceB (kind : Nat) (b : List UInt8) : List UInt8 := UInt8.ofNat kind :: (num4 b.length ++ b)
theorem threeB_len (n g m : Nat) : (threeB n g m).length = 12 := rfl
theorem headB_len (n g m : Nat) : (headB n g m).length = 24 := rfl
theorem pieceB_len (kind : Nat) (b : List UInt8) : (pieceB kind b).length = b.length + 5 := by
  unfold pieceB; rw [List.length_cons, List.length_append, num4_len]; omega
/-! ### banks -/
def halfS (s : DS) : Nat := (s.now.length - 2) / 2
def sizeS (s : DS) : Nat := halfS s * 128
/-- The first so many sectors of a bank. -/
def bankTo (s : DS) (k : Nat) : Nat → List UInt8
  | 0 => []
  | i + 1 => bankTo s k i ++ s.now.getD (2 + k * halfS s + i) []
def bankS (s : DS) (k : Nat) : List UInt8 := bankTo s k (halfS s)
/-- Does a head stand so in a sector? -/
def standsB (s : DS) (k : Nat) (h : List UInt8) : Bool := decide (of4 h ≤ 1073741824) && decide (of4 h % 2 = k) && decide (1 ≤ of4 (h.drop 4)) && decide (of4 (h.drop 4) ≤ 1048576) && decide (of4 (h.drop 8) ≤ sizeS s) && decide (h.take 12 = (h.drop 12).take 12)
/-- The head that counts: a number, a generation, a length. -/
def nextH (s : DS) (k : Nat) (t : Nat × Nat × Nat) : Nat × Nat × Nat :=
  if t.1 < of4 (s.now.getD k []) ∧ standsB s k (s.now.getD k []) = true then (of4 (s.now.getD k []), of4 ((s.now.getD k []).drop 4), of4 ((s.now.getD k []).drop 8)) else t
def thereTo (s : DS) : Nat → Nat × Nat × Nat
  | 0 => (0, 0, 0)
  | k + 1 => nextH s k (thereTo s k)
def thereS (s : DS) : Nat × Nat × Nat := thereTo s 2
theorem nextH_le (s : DS) (k : Nat) (t : Nat × Nat × Nat) (h : t.1 ≤ 1073741824 ∧ t.2.1 ≤ 1048576 ∧ t.2.2 ≤ sizeS s) : (nextH s k t).1 ≤ 1073741824 ∧ (nextH s k t).2.1 ≤ 1048576 ∧ (nextH s k t).2.2 ≤ sizeS s := by
  unfold nextH
  split
  · rename_i hc
    have := hc.2
    unfold standsB at this
    simp only [Bool.and_eq_true, decide_eq_true_eq] at this
    exact ⟨this.1.1.1.1.1, this.1.1.2, this.1.2⟩
  · exact h
theorem thereTo_le (s : DS) : ∀ k, (thereTo s k).1 ≤ 1073741824 ∧ (thereTo s k).2.1 ≤ 1048576 ∧ (thereTo s k).2.2 ≤ sizeS s
  | 0 => ⟨Nat.zero_le _, Nat.zero_le _, Nat.zero_le _⟩
  | k + 1 => nextH_le s k _ (thereTo_le s k)
theorem thereS_le (s : DS) : (thereS s).1 ≤ 1073741824 ∧ (thereS s).2.1 ≤ 1048576 ∧ (thereS s).2.2 ≤ sizeS s := thereTo_le s 2
/-! ### what bytes tell -/
structure TS where
  b : List UInt8
  state : List UInt8
  recs : List (List UInt8)
  whole : Bool
/-- Does a piece follow? -/
def fitsT (t : TS) : Bool := decide (5 ≤ t.b.length) && decide (of4 (t.b.drop 1) ≤ 4096) && decide (of4 (t.b.drop 1) ≤ t.b.length - 5) && decide (1 ≤ (t.b.getD 0 0).toNat) && decide ((t.b.getD 0 0).toNat ≤ 3) && decide (t.whole = decide ((t.b.getD 0 0).toNat = 3))
def pieceT (t : TS) : List UInt8 := (t.b.drop 5).take (of4 (t.b.drop 1))
def stepT (t : TS) : TS :=
  if (t.b.getD 0 0).toNat = 3 then { t with b := t.b.drop (5 + of4 (t.b.drop 1)), recs := t.recs ++ [pieceT t] }
  else { t with b := t.b.drop (5 + of4 (t.b.drop 1)), state := t.state ++ pieceT t, whole := decide ((t.b.getD 0 0).toNat = 2) }
def goT : Nat → TS → TS
  | 0, t => t
  | n + 1, t => if fitsT t then goT n (stepT t) else t
def tellB (b : List UInt8) : TS := goT b.length ⟨b, [], [], false⟩
/-- The state and the records. -/
def toldB (b : List UInt8) : List UInt8 × List (List UInt8) := if (tellB b).whole then ((tellB b).state, (tellB b).recs) else ([], [])
theorem fitsT_len {t : TS} (h : fitsT t = true) : 5 ≤ t.b.length ∧ of4 (t.b.drop 1) ≤ t.b.length - 5 := by
  unfold fitsT at h
  simp only [Bool.and_eq_true, decide_eq_true_eq] at h
  omega
theorem stepT_b (t : TS) : (stepT t).b = t.b.drop (5 + of4 (t.b.drop 1)) := by
  unfold stepT; split <;> rfl
theorem stepT_less {t : TS} (h : fitsT t = true) : (stepT t).b.length + 5 ≤ t.b.length := by
  obtain ⟨h1, h2⟩ := fitsT_len h
  rw [stepT_b, List.length_drop]
  omega
/-- Enough is enough. -/
theorem goT_more : ∀ (n m : Nat) (t : TS), t.b.length ≤ n → t.b.length ≤ m → goT n t = goT m t
  | 0, 0, t, _, _ => rfl
  | 0, m + 1, t, h, _ => by
    show t = if fitsT t then _ else t
    rw [if_neg (fun hf => by have := (fitsT_len hf).1; omega)]
  | n + 1, 0, t, _, h => by
    show (if fitsT t then _ else t) = t
    rw [if_neg (fun hf => by have := (fitsT_len hf).1; omega)]
  | n + 1, m + 1, t, h1, h2 => by
    show (if fitsT t then goT n (stepT t) else t) = if fitsT t then goT m (stepT t) else t
    by_cases hf : fitsT t = true
    · rw [if_pos hf, if_pos hf]
      have := stepT_less hf
      exact goT_more n m (stepT t) (by omega) (by omega)
    · rw [if_neg hf, if_neg hf]
/-! ### the log -/
structure LS where
  n : Nat
  gen : Nat
  b : List UInt8
  sure : Nat
  begun : Bool
  broke : Bool
/-- What there is on a disk whose power is on. -/
def foundS (s : DS) : List UInt8 × List (List UInt8) := if (thereS s).1 = 0 then ([], []) else toldB ((bankS s ((thereS s).2.1 % 2)).take (thereS s).2.2)
def openL (s : DS) : LS := ⟨(thereS s).1, (thereS s).2.1, [], 0, false, false⟩
/-- What Open answers: 0, 1 or 7. -/
def openE (s : DS) : Int := if sizeS s < 256 then 1 else if s.down then 7 else 0
/-- The i-th sector's bytes. -/
def rowB (b : List UInt8) (i : Nat) : List UInt8 := (b.drop (i * 128)).take 128
/-- The sectors of a bank from the i-th one on are written, as long as all is well. -/
def rowsW (first : Nat) (b : List UInt8) : Nat → Nat → DS → Int × DS
  | 0, _, s => (0, s)
  | n + 1, i, s => if b.length ≤ i * 128 then (0, s) else if (writeS s ((first + i : Nat) : Int) (rowB b i)).1 ≠ 0 then writeS s ((first + i : Nat) : Int) (rowB b i) else rowsW first b n (i + 1) (writeS s ((first + i : Nat) : Int) (rowB b i)).2
/-- Behind the sectors: sync, the head, sync. -/
def sealW (n gen len : Nat) (s : DS) : Int × DS :=
  if (syncS s).1 ≠ 0 then syncS s
  else if (writeS (syncS s).2 (((n + 1) % 2 : Nat) : Int) (headB (n + 1) gen len)).1 ≠ 0 then writeS (syncS s).2 (((n + 1) % 2 : Nat) : Int) (headB (n + 1) gen len)
  else syncS (writeS (syncS s).2 (((n + 1) % 2 : Nat) : Int) (headB (n + 1) gen len)).2
def writeW (s : DS) (n gen frm : Nat) (b : List UInt8) : Int × DS :=
  if (rowsW (2 + gen % 2 * halfS s) b (b.length + 1) (frm / 128) s).1 ≠ 0 then rowsW (2 + gen % 2 * halfS s) b (b.length + 1) (frm / 128) s
  else sealW n gen b.length (rowsW (2 + gen % 2 * halfS s) b (b.length + 1) (frm / 128) s).2
/-- A state's pieces. -/
def partsB : Nat → List UInt8 → List UInt8
  | 0, b => pieceB 2 b
  | n + 1, b => if 1024 < b.length then pieceB 1 (b.take 1024) ++ partsB n (b.drop 1024) else pieceB 2 b
def stateB (b : List UInt8) : List UInt8 := partsB b.length b
def checkW (s : DS) (l : LS) (st : List UInt8) : Int × DS × LS :=
  if l.broke then (10, s, l)
  else if sizeS s < (stateB st).length ∨ 1048576 < l.gen + 1 ∨ 1073741824 ≤ l.n then (3, s, l)
  else if (writeW s l.n (l.gen + 1) 0 (stateB st)).1 ≠ 0 then ((writeW s l.n (l.gen + 1) 0 (stateB st)).1, (writeW s l.n (l.gen + 1) 0 (stateB st)).2, { l with broke := true })
  else (0, (writeW s l.n (l.gen + 1) 0 (stateB st)).2, { l with n := l.n + 1, gen := l.gen + 1, b := stateB st, sure := (stateB st).length, begun := true })
def roomW (s : DS) (l : LS) : Int := if l.broke || !l.begun then 0 else (sizeS s : Int) - (l.b.length : Int)
def appendW (s : DS) (l : LS) (b : List UInt8) : Int × LS :=
  if l.broke then (10, l) else if l.begun = false then (9, l) else if 4096 < b.length then (1, l) else if roomW s l < (b.length : Int) + 5 then (3, l)
  else (0, { l with b := l.b ++ pieceB 3 b })
def commitW (s : DS) (l : LS) : Int × DS × LS :=
  if l.broke then (10, s, l) else if l.begun = false then (9, s, l) else if l.sure = l.b.length then (0, s, l) else if 1073741824 ≤ l.n then (3, s, l)
  else if (writeW s l.n l.gen l.sure l.b).1 ≠ 0 then ((writeW s l.n l.gen l.sure l.b).1, (writeW s l.n l.gen l.sure l.b).2, { l with broke := true })
  else (0, (writeW s l.n l.gen l.sure l.b).2, { l with n := l.n + 1, sure := l.b.length })
end Go.Proofs.YtbdhkkdombdnkaaDoor
namespace Go.Proofs.YtbdhkkdombdnkaaDoor

def tellT (t : TS) : TS := goT t.b.length t
theorem tellT_step {t : TS} (h : fitsT t = true) : tellT t = tellT (stepT t) := by
  have h1 := (fitsT_len h).1
  have h2 := stepT_less h
  obtain ⟨n, hn⟩ : ∃ n, t.b.length = n + 1 := ⟨t.b.length - 1, by omega⟩
  unfold tellT
  rw [hn]
  show (if fitsT t then goT n (stepT t) else t) = _
  rw [if_pos h]
  exact goT_more _ _ _ (by omega) (Nat.le_refl _)
theorem tellT_stop {t : TS} (h : fitsT t = false) : tellT t = t := by
  unfold tellT
  cases hn : t.b.length with
  | zero => rfl
  | succ n =>
    show (if fitsT t then goT n (stepT t) else t) = _
    rw [if_neg (by rw [h]; decide)]
theorem of4_piece (k : Nat) (x rest : List UInt8) (h : x.length ≤ 4096) : of4 ((pieceB k x ++ rest).drop 1) = x.length := by
  show of4 ((num4 x.length ++ x) ++ rest) = _
  rw [List.append_assoc]
  exact of4_num4 _ (by omega) _
theorem kind_piece (k : Nat) (x rest : List UInt8) (h : k < 256) : ((pieceB k x ++ rest).getD 0 0).toNat = k := by
  show (UInt8.ofNat k).toNat = k
  rw [UInt8.toNat_ofNat']
  exact Nat.mod_eq_of_lt h
theorem drop_piece (k : Nat) (x rest : List UInt8) : (pieceB k x ++ rest).drop (5 + x.length) = rest := by
  rw [List.drop_append, List.drop_of_length_le (by rw [pieceB_len]; omega), pieceB_len, show 5 + x.length - (x.length + 5) = 0 by omega]
  simp
theorem take_piece (k : Nat) (x rest : List UInt8) : ((pieceB k x ++ rest).drop 5).take x.length = x := by
  show ((x ++ rest)).take x.length = x
  rw [List.take_left]
theorem fits_piece {t : TS} {k : Nat} {x rest : List UInt8} (hb : t.b = pieceB k x ++ rest) (hx : x.length ≤ 4096) (h1 : 1 ≤ k) (h3 : k ≤ 3) (hw : t.whole = decide (k = 3)) : fitsT t = true := by
  unfold fitsT
  rw [hb, of4_piece k x rest hx, kind_piece k x rest (by omega), hw, List.length_append, pieceB_len]
  simp only [Bool.and_eq_true, decide_eq_true_eq]
  refine ⟨⟨⟨⟨⟨by omega, hx⟩, by omega⟩, h1⟩, h3⟩, ?_⟩
  first | rfl | trivial | simp
theorem step_piece {t : TS} {k : Nat} {x rest : List UInt8} (hb : t.b = pieceB k x ++ rest) (hx : x.length ≤ 4096) (h3 : k ≤ 3) : stepT t = if k = 3 then { t with b := rest, recs := t.recs ++ [x] } else { t with b := rest, state := t.state ++ x, whole := decide (k = 2) } := by
  unfold stepT pieceT
  rw [hb, of4_piece k x rest hx, kind_piece k x rest (by omega), drop_piece, take_piece]
/-- Records' pieces. -/
def recsB (rs : List (List UInt8)) : List UInt8 := (rs.map (pieceB 3)).flatten
theorem recsB_snoc (rs : List (List UInt8)) (x : List UInt8) : recsB (rs ++ [x]) = recsB rs ++ pieceB 3 x := by simp [recsB]
theorem tell_recs : ∀ (rs : List (List UInt8)), (∀ x ∈ rs, x.length ≤ 4096) → ∀ (st : List UInt8) (acc : List (List UInt8)), tellT ⟨recsB rs, st, acc, true⟩ = ⟨[], st, acc ++ rs, true⟩
  | [], _, st, acc => by rw [List.append_nil]; exact tellT_stop rfl
  | x :: rs, h, st, acc => by
    have hb : recsB (x :: rs) = pieceB 3 x ++ recsB rs := by simp [recsB]
    have hx := h x List.mem_cons_self
    rw [tellT_step (fits_piece (k := 3) (x := x) (rest := recsB rs) hb hx (by decide) (by decide) rfl), step_piece (k := 3) (x := x) (rest := recsB rs) hb hx (by decide), if_pos rfl]
    show tellT ⟨recsB rs, st, acc ++ [x], true⟩ = _
    rw [tell_recs rs (fun y hy => h y (List.mem_cons_of_mem _ hy)) st (acc ++ [x]), List.append_assoc]
    rfl
theorem tell_parts : ∀ (n : Nat) (b : List UInt8), b.length ≤ n * 1024 + 1024 → ∀ (acc rest : List UInt8), tellT ⟨partsB n b ++ rest, acc, [], false⟩ = tellT ⟨rest, acc ++ b, [], true⟩
  | 0, b, h, acc, rest => by
    have hx : b.length ≤ 4096 := by omega
    rw [tellT_step (fits_piece (k := 2) (x := b) (rest := rest) rfl hx (by decide) (by decide) rfl), step_piece (k := 2) (x := b) (rest := rest) rfl hx (by decide), if_neg (by decide)]
    rfl
  | n + 1, b, h, acc, rest => by
    by_cases hl : 1024 < b.length
    · have e : partsB (n + 1) b = pieceB 1 (b.take 1024) ++ partsB n (b.drop 1024) := by show (if 1024 < b.length then _ else _) = _; rw [if_pos hl]
      have hx : (b.take 1024).length ≤ 4096 := by rw [List.length_take]; omega
      rw [e, List.append_assoc]
      rw [tellT_step (fits_piece (k := 1) (x := b.take 1024) (rest := partsB n (b.drop 1024) ++ rest) rfl hx (by decide) (by decide) rfl), step_piece (k := 1) (x := b.take 1024) (rest := partsB n (b.drop 1024) ++ rest) rfl hx (by decide), if_neg (by decide)]
      show tellT ⟨partsB n (b.drop 1024) ++ rest, acc ++ b.take 1024, [], false⟩ = _
      rw [tell_parts n (b.drop 1024) (by rw [List.length_drop]; omega) (acc ++ b.take 1024) rest, List.append_assoc, List.take_append_drop]
    · have e : partsB (n + 1) b = pieceB 2 b := by show (if 1024 < b.length then _ else _) = _; rw [if_neg hl]
      have hx : b.length ≤ 4096 := by omega
      rw [e, tellT_step (fits_piece (k := 2) (x := b) (rest := rest) rfl hx (by decide) (by decide) rfl), step_piece (k := 2) (x := b) (rest := rest) rfl hx (by decide), if_neg (by decide)]
      rfl
/-- What was put is told. -/
theorem told_put (st : List UInt8) (rs : List (List UInt8)) (h : ∀ x ∈ rs, x.length ≤ 4096) : toldB (stateB st ++ recsB rs) = (st, rs) := by
  have e : tellB (stateB st ++ recsB rs) = ⟨[], st, rs, true⟩ := by
    show tellT ⟨stateB st ++ recsB rs, [], [], false⟩ = _
    unfold stateB
    rw [tell_parts st.length st (by omega) [] (recsB rs), tell_recs rs h]
    rfl
  unfold toldB
  rw [e]
  rfl
theorem partsB_len : ∀ (n : Nat) (b : List UInt8), b.length ≤ n * 1024 + 1024 → (partsB n b).length = b.length + 5 * max ((b.length + 1023) / 1024) 1
  | 0, b, h => by
    show (pieceB 2 b).length = _
    rw [pieceB_len]
    omega
  | n + 1, b, h => by
    by_cases hl : 1024 < b.length
    · have e : partsB (n + 1) b = pieceB 1 (b.take 1024) ++ partsB n (b.drop 1024) := by show (if 1024 < b.length then _ else _) = _; rw [if_pos hl]
      rw [e, List.length_append, pieceB_len, partsB_len n (b.drop 1024) (by rw [List.length_drop]; omega), List.length_take, List.length_drop]
      omega
    · have e : partsB (n + 1) b = pieceB 2 b := by show (if 1024 < b.length then _ else _) = _; rw [if_neg hl]
      rw [e, pieceB_len]
      omega
theorem stateB_len (b : List UInt8) : (stateB b).length = b.length + 5 * max ((b.length + 1023) / 1024) 1 := partsB_len b.length b (by omega)
end Go.Proofs.YtbdhkkdombdnkaaDoor
