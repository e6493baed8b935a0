/-
  What is proved here: records and their fields as plain data; how many bytes fields ask for at most, and the bytes of a record, as plain functions. keys and values as a plain list in the order of the keys; changes, their bytes, and what they do. keys and values in a map of memory, and what is done to it.
  Conditions: none. those that each fact names.
-/
import Derived.Test.YtbegphfideopoaaGreatProg
import Derived.Test.YtbegphfideopoaaGreatJPWalCheck
import Derived.Test.YtbegphfideopoaaGreatJPDisk
import Derived.Test.YtbegphfideopoaaGreatJShaPure
import Derived.Maps.RangeWalk
import Derived.Maps.OwnSet
import Derived.Sort.KeysCollected
import Derived.Shelf.SlMaps.Clone
namespace Go.Proofs.YtbegphfideopoaaGreat

inductive Fld where
  | mk (kind : Int) (min max : Nat) (of : List Fld)
def Fld.kind : Fld → Int | .mk k _ _ _ => k
def Fld.min : Fld → Nat | .mk _ m _ _ => m
def Fld.max : Fld → Nat | .mk _ _ m _ => m
def Fld.of : Fld → List Fld | .mk _ _ _ o => o
inductive Val where
  | mk (n : Nat) (b : List UInt8) (l : List (List Val))
def Val.n : Val → Nat | .mk n _ _ => n
def Val.b : Val → List UInt8 | .mk _ b _ => b
def Val.l : Val → List (List Val) | .mk _ _ l => l
instance : Inhabited Fld := ⟨.mk 0 0 0 []⟩
instance : Inhabited Val := ⟨.mk 0 [] []⟩

/-- In how many bytes a number can be written. -/
def wid (n : Nat) : Nat := if n < 256 then 1 else if n < 65536 then 2 else if n < 16777216 then 3 else if n < 4294967296 then 4 else if n < 1099511627776 then 5 else if n < 281474976710656 then 6 else if n < 72057594037927936 then 7 else 8
theorem wid_pos (n : Nat) : 1 ≤ wid n := by unfold wid; repeat' split
                                            all_goals omega
theorem wid_le (n : Nat) : wid n ≤ 8 := by unfold wid; repeat' split
                                           all_goals omega
theorem wid_step (n : Nat) (h : 256 ≤ n) (hn : n < 18446744073709551616) : wid n = wid (n / 256) + 1 := by
  unfold wid
  repeat' split
  all_goals omega
theorem wid_small (n : Nat) (h : n < 256) : wid n = 1 := by unfold wid; rw [if_pos h]

/-- How many bytes a field asks for at most; none: it may not be. M: that of fields within. -/
def mostOne (M : List Fld → Option Nat) (f : Fld) : Option Nat :=
  if f.max < f.min then none
  else if f.kind ≠ 1 ∧ 65536 < f.max then none
  else if f.kind = 1 then (if f.of.length = 0 then some (wid (f.max - f.min)) else none)
  else if f.kind = 2 then (if f.of.length = 0 then some (wid (f.max - f.min) + f.max) else none)
  else if f.kind = 3 then (M f.of).map (fun k => wid (f.max - f.min) + f.max * k)
  else none
def mostSum (M : List Fld → Option Nat) : List Fld → Option Nat
  | [] => some 0
  | f :: r => match mostOne M f with
    | none => none
    | some a => (mostSum M r).map (a + ·)
/-- Of fields, so many lists deep at most. -/
def mostL : Nat → List Fld → Option Nat
  | 0, _ => none
  | r + 1, l => if l.length < 1 ∨ 16 < l.length then none else match mostSum (mostL r) l with
    | none => none
    | some n => if 1048576 < n then none else some n
theorem mostL_le {r : Nat} {l : List Fld} {m : Nat} (h : mostL r l = some m) : m ≤ 1048576 := by
  cases r with
  | zero => simp [mostL] at h
  | succ r =>
    unfold mostL at h
    split at h
    · cases h
    · split at h
      · cases h
      · split at h
        · cases h
        · cases h; omega
theorem mostOne_le {r : Nat} {f : Fld} {m : Nat} (h : mostOne (mostL r) f = some m) : m ≤ 68719476744 := by
  have hw := wid_le (f.max - f.min)
  unfold mostOne at h
  split at h
  · cases h
  split at h
  · cases h
  split at h
  · split at h
    · cases h; omega
    · cases h
  split at h
  · split at h
    · cases h; omega
    · cases h
  split at h
  · obtain ⟨k, hk, rfl⟩ := Option.map_eq_some_iff.1 h
    have h1 := mostL_le hk
    have h2 : f.max ≤ 65536 := by omega
    have h3 := Nat.mul_le_mul h2 h1
    omega
  · cases h

/-- The bytes of a number, the lowest first. -/
def leN : Nat → Nat → List UInt8
  | _, 0 => []
  | n, k + 1 => UInt8.ofNat (n % 256) :: leN (n / 256) k
theorem leN_len (n k : Nat) : (leN n k).length = k := by
  induction k generalizing n with
  | zero => rfl
  | succ k ih => simp [leN, ih]

/-- What a field's bounds speak of; none: there is what the kind has not. -/
def amountOf (f : Fld) (v : Val) : Option Nat :=
  if f.kind = 1 then (if v.b.length = 0 ∧ v.l.length = 0 then some v.n else none)
  else if f.kind = 2 then (if v.n = 0 ∧ v.l.length = 0 then some v.b.length else none)
  else (if v.n = 0 ∧ v.b.length = 0 then some v.l.length else none)
def catO : List (Option (List UInt8)) → Option (List UInt8)
  | [] => some []
  | none :: _ => none
  | some a :: r => (catO r).map (a ++ ·)
def encOne (E : List Fld → List Val → Option (List UInt8)) (f : Fld) (v : Val) : Option (List UInt8) :=
  match amountOf f v with
  | none => none
  | some n => if n < f.min ∨ f.max < n then none else (catO (v.l.map (E f.of))).map (fun r => leN (n - f.min) (wid (f.max - f.min)) ++ (v.b ++ r))
/-- The bytes of a record; none: it does not fit. -/
def encL : Nat → List Fld → List Val → Option (List UInt8)
  | 0, _, _ => none
  | r + 1, l, v => if l.length = v.length then catO (List.zipWith (encOne (encL r)) l v) else none

end Go.Proofs.YtbegphfideopoaaGreat
namespace Go.Proofs.YtbegphfideopoaaGreat

structure OpB where
  key : List UInt8
  del : Bool
  val : List UInt8
abbrev PM := List (List UInt8 × List UInt8)
def lookM : PM → List UInt8 → Option (List UInt8)
  | [], _ => none
  | p :: m, k => if p.1 = k then some p.2 else lookM m k
def delM (k : List UInt8) : PM → PM
  | [] => []
  | p :: m => if p.1 = k then delM k m else p :: delM k m
def putM (k v : List UInt8) : PM → PM
  | [] => [(k, v)]
  | p :: m => if k < p.1 then (k, v) :: p :: m else if p.1 = k then (k, v) :: m else p :: putM k v m
def doOp (m : PM) (o : OpB) : PM := if o.del then delM o.key m else putM o.key o.val m
def doM (m : PM) (ops : List OpB) : PM := ops.foldl doOp m
def doAll (m : PM) (cs : List (List OpB)) : PM := cs.foldl doM m
def RiseM (m : PM) : Prop := m.Pairwise (fun p q => p.1 < q.1)

theorem lt_irr (a : List UInt8) : ¬ a < a := List.lt_irrefl a
theorem lt_tr {a b c : List UInt8} (h1 : a < b) (h2 : b < c) : a < c := List.lt_trans h1 h2
theorem lt_three (a b : List UInt8) : a < b ∨ a = b ∨ b < a := by
  by_cases h : a < b
  · exact .inl h
  · by_cases h2 : b < a
    · exact .inr (.inr h2)
    · exact .inr (.inl (List.le_antisymm (List.not_lt.1 h2) (List.not_lt.1 h)))

theorem look_put (k v k' : List UInt8) : ∀ m : PM, lookM (putM k v m) k' = if k = k' then some v else lookM m k'
  | [] => rfl
  | p :: m => by
    unfold putM
    by_cases h1 : k < p.1
    · rw [if_pos h1]; rfl
    · rw [if_neg h1]
      by_cases h2 : p.1 = k
      · rw [if_pos h2]
        show (if k = k' then some v else lookM m k') = if k = k' then some v else if p.1 = k' then some p.2 else lookM m k'
        by_cases h3 : k = k'
        · rw [if_pos h3, if_pos h3]
        · rw [if_neg h3, if_neg h3, if_neg (by rw [h2]; exact h3)]
      · rw [if_neg h2]
        show (if p.1 = k' then some p.2 else lookM (putM k v m) k') = if k = k' then some v else if p.1 = k' then some p.2 else lookM m k'
        rw [look_put k v k' m]
        by_cases h3 : p.1 = k'
        · rw [if_pos h3, if_pos h3, if_neg (by intro e; exact h2 (h3.trans e.symm))]
        · rw [if_neg h3, if_neg h3]
theorem look_del (k k' : List UInt8) : ∀ m : PM, lookM (delM k m) k' = if k = k' then none else lookM m k'
  | [] => by show none = _; rw [show lookM [] k' = none from rfl, ite_self]
  | p :: m => by
    unfold delM
    by_cases h1 : p.1 = k
    · rw [if_pos h1, look_del k k' m]
      show _ = if k = k' then none else if p.1 = k' then some p.2 else lookM m k'
      by_cases h3 : k = k'
      · rw [if_pos h3, if_pos h3]
      · rw [if_neg h3, if_neg h3, if_neg (by rw [h1]; exact h3)]
    · rw [if_neg h1]
      show (if p.1 = k' then some p.2 else lookM (delM k m) k') = if k = k' then none else if p.1 = k' then some p.2 else lookM m k'
      rw [look_del k k' m]
      by_cases h3 : p.1 = k'
      · rw [if_pos h3, if_pos h3, if_neg (by intro e; exact h1 (h3.trans e.symm))]
      · rw [if_neg h3, if_neg h3]
theorem mem_put {k v : List UInt8} {q : List UInt8 × List UInt8} : ∀ {m : PM}, q ∈ putM k v m → q = (k, v) ∨ q ∈ m
  | [], h => .inl (by simpa [putM] using h)
  | p :: m, h => by
    unfold putM at h
    split at h
    · rcases List.mem_cons.1 h with h | h
      · exact .inl h
      · exact .inr h
    · split at h
      · rcases List.mem_cons.1 h with h | h
        · exact .inl h
        · exact .inr (List.mem_cons_of_mem _ h)
      · rcases List.mem_cons.1 h with h | h
        · exact .inr (h ▸ List.mem_cons_self)
        · rcases mem_put h with h | h
          · exact .inl h
          · exact .inr (List.mem_cons_of_mem _ h)
theorem mem_del {k : List UInt8} {q : List UInt8 × List UInt8} : ∀ {m : PM}, q ∈ delM k m → q ∈ m
  | [], h => h
  | p :: m, h => by
    unfold delM at h
    split at h
    · exact List.mem_cons_of_mem _ (mem_del h)
    · rcases List.mem_cons.1 h with h | h
      · exact h ▸ List.mem_cons_self
      · exact List.mem_cons_of_mem _ (mem_del h)
theorem rise_put (k v : List UInt8) : ∀ {m : PM}, RiseM m → RiseM (putM k v m)
  | [], _ => List.pairwise_singleton _ _
  | p :: m, h => by
    obtain ⟨h1, h2⟩ := List.pairwise_cons.1 h
    unfold putM
    by_cases hk : k < p.1
    · rw [if_pos hk]
      refine List.pairwise_cons.2 ⟨fun q hq => ?_, h⟩
      rcases List.mem_cons.1 hq with rfl | hq
      · exact hk
      · exact lt_tr hk (h1 q hq)
    · rw [if_neg hk]
      by_cases he : p.1 = k
      · rw [if_pos he]
        refine List.pairwise_cons.2 ⟨fun q hq => ?_, h2⟩
        have := h1 q hq
        rw [he] at this
        exact this
      · rw [if_neg he]
        refine List.pairwise_cons.2 ⟨fun q hq => ?_, rise_put k v h2⟩
        rcases mem_put hq with rfl | hq
        · rcases lt_three p.1 k with h | h | h
          · exact h
          · exact absurd h he
          · exact absurd h hk
        · exact h1 q hq
theorem rise_del (k : List UInt8) : ∀ {m : PM}, RiseM m → RiseM (delM k m)
  | [], h => h
  | p :: m, h => by
    obtain ⟨h1, h2⟩ := List.pairwise_cons.1 h
    unfold delM
    split
    · exact rise_del k h2
    · exact List.pairwise_cons.2 ⟨fun q hq => h1 q (mem_del hq), rise_del k h2⟩
theorem rise_op {m : PM} (h : RiseM m) (o : OpB) : RiseM (doOp m o) := by
  unfold doOp
  split
  · exact rise_del _ h
  · exact rise_put _ _ h
theorem rise_do : ∀ (ops : List OpB) {m : PM}, RiseM m → RiseM (doM m ops)
  | [], _, h => h
  | o :: ops, m, h => rise_do ops (m := doOp m o) (rise_op h o)
theorem rise_all : ∀ (cs : List (List OpB)) {m : PM}, RiseM m → RiseM (doAll m cs)
  | [], _, h => h
  | c :: cs, m, h => rise_all cs (m := doM m c) (rise_do c h)
theorem look_mem {k v : List UInt8} : ∀ {m : PM}, lookM m k = some v → (k, v) ∈ m
  | [], h => by cases h
  | p :: m, h => by
    unfold lookM at h
    split at h
    · rename_i e
      cases h
      rw [← e]
      exact List.mem_cons_self
    · exact List.mem_cons_of_mem _ (look_mem h)
theorem mem_look : ∀ {m : PM}, RiseM m → ∀ {k v : List UInt8}, (k, v) ∈ m → lookM m k = some v
  | [], _, _, _, h => by cases h
  | p :: m, hr, k, v, h => by
    obtain ⟨h1, h2⟩ := List.pairwise_cons.1 hr
    unfold lookM
    rcases List.mem_cons.1 h with e | h
    · rw [← e, if_pos rfl]
    · rw [if_neg (fun e => by have := h1 _ h; rw [e] at this; exact lt_irr _ this)]
      exact mem_look h2 h
theorem look_isSome {m : PM} {k : List UInt8} : (lookM m k).isSome = true ↔ k ∈ m.map (·.1) := by
  induction m with
  | nil => simp [lookM]
  | cons p m ih =>
    unfold lookM
    by_cases e : p.1 = k
    · rw [if_pos e]; simp [e]
    · rw [if_neg e, ih]; simp [Ne.symm e]
/-! ### bytes -/
def textB (b : List UInt8) : List UInt8 := UInt8.ofNat (b.length % 256) :: UInt8.ofNat (b.length / 256) :: b
theorem textB_len (b : List UInt8) : (textB b).length = b.length + 2 := rfl
def pairB (p : List UInt8 × List UInt8) : List UInt8 := textB p.1 ++ textB p.2
theorem pairB_len (p : List UInt8 × List UInt8) : (pairB p).length = 4 + p.1.length + p.2.length := by
  unfold pairB
  rw [List.length_append, textB_len, textB_len]
  omega
def stateM (m : PM) : List UInt8 := m.flatMap pairB
def sizeM (m : PM) : Nat := (m.map fun p => 4 + p.1.length + p.2.length).sum
theorem stateM_len : ∀ m : PM, (stateM m).length = sizeM m
  | [] => rfl
  | p :: m => by
    show (pairB p ++ stateM m).length = (4 + p.1.length + p.2.length) + sizeM m
    rw [List.length_append, pairB_len, stateM_len m]
def opB (o : OpB) : List UInt8 := (if o.del then 1 else 0) :: (textB o.key ++ textB o.val)
theorem opB_len (o : OpB) : (opB o).length = 5 + o.key.length + o.val.length := by
  show (textB o.key ++ textB o.val).length + 1 = _
  rw [List.length_append, textB_len, textB_len]
  omega
def chgB (ops : List OpB) : List UInt8 := UInt8.ofNat ops.length :: ops.flatMap opB
/-- May an op be; may a change? -/
def opR (o : OpB) : Bool := !(o.del && decide (0 < o.val.length)) && (decide (1 ≤ o.key.length) && decide (o.key.length ≤ 64) && decide (o.val.length ≤ 1024))
def chgR (ops : List OpB) : Bool := ops.all opR && decide (1 ≤ ops.length) && decide (ops.length ≤ 32)
/-- All keys and values of pairs may be. -/
def PairsR (m : PM) : Prop := ∀ p ∈ m, 1 ≤ p.1.length ∧ p.1.length ≤ 64 ∧ p.2.length ≤ 1024
theorem opR_facts {o : OpB} (h : opR o = true) : 1 ≤ o.key.length ∧ o.key.length ≤ 64 ∧ o.val.length ≤ 1024 ∧ (o.del = true → o.val = []) := by
  unfold opR at h
  simp only [Bool.and_eq_true, decide_eq_true_eq, Bool.not_eq_true', Bool.and_eq_false_imp, decide_eq_false_iff_not] at h
  refine ⟨h.2.1.1, h.2.1.2, h.2.2, fun e => List.eq_nil_of_length_eq_zero (by have := h.1 e; omega)⟩
theorem pairs_op {m : PM} (h : PairsR m) {o : OpB} (ho : opR o = true) : PairsR (doOp m o) := by
  obtain ⟨h1, h2, h3, _⟩ := opR_facts ho
  intro p hp
  unfold doOp at hp
  split at hp
  · exact h p (mem_del hp)
  · rcases mem_put hp with rfl | hp
    · exact ⟨h1, h2, h3⟩
    · exact h p hp
theorem pairs_do : ∀ (ops : List OpB) {m : PM}, PairsR m → ops.all opR = true → PairsR (doM m ops)
  | [], _, h, _ => h
  | o :: ops, m, h, ho => by
    simp only [List.all_cons, Bool.and_eq_true] at ho
    exact pairs_do ops (m := doOp m o) (pairs_op h ho.1) ho.2
theorem pairs_all : ∀ (cs : List (List OpB)) {m : PM}, PairsR m → cs.all chgR = true → PairsR (doAll m cs)
  | [], _, h, _ => h
  | c :: cs, m, h, hc => by
    simp only [List.all_cons, Bool.and_eq_true] at hc
    refine pairs_all cs (m := doM m c) (pairs_do c h ?_) hc.2
    have := hc.1
    unfold chgR at this
    simp only [Bool.and_eq_true] at this
    exact this.1.1
/-! ### the log -/
def reckonB (rs : List (List UInt8)) : Nat := (rs.map fun r => r.length + 24).sum
def appendsW (s : DS) : LS → List (List UInt8) → Int × LS
  | l, [] => (0, l)
  | l, r :: rs => if (appendW s l r).1 ≠ 0 then appendW s l r else appendsW s (appendW s l r).2 rs
def roomsW (s : DS) (l : LS) (m : PM) (rs : List (List UInt8)) : Int × DS × LS := if roomW s l < (reckonB rs : Int) then checkW s l (stateM m) else (0, s, l)
def writeA (s : DS) (l : LS) (m : PM) (rs : List (List UInt8)) : Int × DS × LS :=
  if (roomsW s l m rs).1 ≠ 0 then roomsW s l m rs
  else if (appendsW (roomsW s l m rs).2.1 (roomsW s l m rs).2.2 rs).1 ≠ 0 then ((appendsW (roomsW s l m rs).2.1 (roomsW s l m rs).2.2 rs).1, (roomsW s l m rs).2.1, (appendsW (roomsW s l m rs).2.1 (roomsW s l m rs).2.2 rs).2)
  else commitW (roomsW s l m rs).2.1 (appendsW (roomsW s l m rs).2.1 (roomsW s l m rs).2.2 rs).2
/-- Most: how many bytes a state may have. -/
def mostW (s : DS) : Nat := (sizeS s - 2048) / 2
/-- What All does: an error, the disk, the log, the pairs, whether it is broken. -/
structure SS where
  s : DS
  l : LS
  m : PM
  br : Bool
def fullA (s : DS) (next : PM) (rs : List (List UInt8)) : Bool := decide (mostW s < sizeM next) || decide (4000 < next.length) || rs.any (fun r => decide (4096 < r.length)) || decide (sizeS s / 4 < reckonB rs)
def allA (x : SS) (cs : List (List OpB)) : Int × SS :=
  if x.br then (10, x)
  else if decide (cs.length < 1) || decide (16 < cs.length) || cs.any (fun c => !chgR c) then (1, x)
  else if fullA x.s (doAll x.m cs) (cs.map chgB) then (3, x)
  else if (writeA x.s x.l x.m (cs.map chgB)).1 ≠ 0 then ((writeA x.s x.l x.m (cs.map chgB)).1, ⟨(writeA x.s x.l x.m (cs.map chgB)).2.1, (writeA x.s x.l x.m (cs.map chgB)).2.2, x.m, true⟩)
  else (0, ⟨(writeA x.s x.l x.m (cs.map chgB)).2.1, (writeA x.s x.l x.m (cs.map chgB)).2.2, doAll x.m cs, false⟩)
end Go.Proofs.YtbegphfideopoaaGreat
namespace Go.Proofs.YtbegphfideopoaaGreat
open Go.RowKit Go.Maps

/-- A slice in a map reads as itself. -/
def R8 : Value → Option (DataW Value × List MemPlace)
  | .slice a n c => some (.held (.slice a n c), [])
  | _ => none
theorem R8_inv {v : Value} {z : DataW Value × List MemPlace} (h : R8 v = some z) : (∃ t : Option Addr × Nat × Nat, v = .slice t.1 t.2.1 t.2.2) ∧ z = (.held v, []) := by
  cases v <;> simp [R8] at h
  exact ⟨⟨(_, _, _), rfl⟩, h.symm⟩
theorem keyS : Keyed Tryz.prog 9 := string_keyed Tryz.underlying9
theorem str_size (k : List UInt8) : (⟨k.toArray⟩ : ByteArray).size = k.length := by show k.toArray.size = _; simp
theorem key_str (k : List UInt8) (h : k.length ≤ maxLen) : keyOf Tryz.prog 9 (.string ⟨k.toArray⟩) = some (.string k) := by
  have := Go.WideMaps.keyOf_string_mk (P := Tryz.prog) (k := 9) Tryz.underlying9 (s := ⟨k.toArray⟩) (by rw [str_size]; exact h)
  simpa using this
theorem zeroB (w : World) : (zeroValue 34).run Tryz.prog w = .ok (.slice none 0 0) w := by kernel_rfl
/-- Bytes that lie in such blocks. -/
def SegC (w : World) (C : Nat → Prop) (v : Value) (bs : List UInt8) : Prop := Seg w v bs ∧ (0 < bs.length → ∀ q, v.ownBlock = some q → C q)
theorem SegC.chg {C S : Nat → Prop} {w w' : World} {v : Value} {bs : List UInt8} (h : SegC w C v bs) (hc : Chg S w w') (hS : ∀ q, C q → ¬ S q) : SegC w' C v bs := ⟨h.1.chg hc (fun h0 q hq => hS q (h.2 h0 q hq)), h.2⟩
theorem SegC.mono {C C' : Nat → Prop} {w : World} {v : Value} {bs : List UInt8} (h : SegC w C v bs) (hC : ∀ q, C q → C' q) : SegC w C' v bs := ⟨h.1, fun h0 q hq => hC q (h.2 h0 q hq)⟩
structure Holds8 (w : World) (C : Nat → Prop) (D : DataW Value) (m : PM) : Prop where
  has : ∀ k, Maps.has D (.string k) = (lookM m k).isSome
  is : ∀ k b, lookM m k = some b → ∃ v, (∀ z, D.atKey (.string k) z = .held v) ∧ SegC w C v b
/-- The pairs lie in the map of block b; the values in blocks of C. -/
structure MapP (w : World) (C : Nat → Prop) (b : Nat) (m : PM) : Prop where
  body : ∃ n D, w.ownsMap Tryz.prog 9 R8 b n D ∧ Holds8 w C D m
  rise : RiseM m
theorem Holds8.chg {C S : Nat → Prop} {w w' : World} {D : DataW Value} {m : PM} (h : Holds8 w C D m) (hc : Chg S w w') (hS : ∀ q, C q → ¬ S q) : Holds8 w' C D m :=
  ⟨h.has, fun k b hk => by obtain ⟨v, h1, h2⟩ := h.is k b hk; exact ⟨v, h1, h2.chg hc hS⟩⟩
theorem Holds8.mono {C C' : Nat → Prop} {w : World} {D : DataW Value} {m : PM} (h : Holds8 w C D m) (hC : ∀ q, C q → C' q) : Holds8 w C' D m :=
  ⟨h.has, fun k b hk => by obtain ⟨v, h1, h2⟩ := h.is k b hk; exact ⟨v, h1, h2.mono hC⟩⟩
theorem own8_chg {w w' : World} {b n : Nat} {D : DataW Value} {S : Nat → Prop} (h : w.ownsMap Tryz.prog 9 R8 b n D) (hc : Chg S w w') (hb : ¬ S b) : w'.ownsMap Tryz.prog 9 R8 b n D := by
  have hl := h.lt
  obtain ⟨es, clock, h1, h2⟩ := h
  exact ⟨es, clock, (hc.2 b hl hb).trans h1, h2⟩
theorem MapP.chg {C S : Nat → Prop} {w w' : World} {b : Nat} {m : PM} (h : MapP w C b m) (hc : Chg S w w') (hb : ¬ S b) (hS : ∀ q, C q → ¬ S q) : MapP w' C b m := by
  obtain ⟨n, D, h1, h2⟩ := h.body
  exact ⟨⟨n, D, own8_chg h1 hc hb, h2.chg hc hS⟩, h.rise⟩
theorem MapP.after {C : Nat → Prop} {w w' : World} {b : Nat} {m : PM} (h : MapP w C b m) (hb : Below w.heap.size w w') : MapP w' C b m :=
  h.chg (S := fun _ => False) (Chg.of_below hb (Nat.le_refl _)) id (fun _ _ => id)
theorem MapP.mono {C C' : Nat → Prop} {w : World} {b : Nat} {m : PM} (h : MapP w C b m) (hC : ∀ q, C q → C' q) : MapP w C' b m := by
  obtain ⟨n, D, h1, h2⟩ := h.body
  exact ⟨⟨n, D, h1, h2.mono hC⟩, h.rise⟩
theorem MapP.lt {C : Nat → Prop} {w : World} {b : Nat} {m : PM} (h : MapP w C b m) : b < w.heap.size := by
  obtain ⟨n, D, h1, _⟩ := h.body
  exact h1.lt
/-- The keys. -/
def keysM (m : PM) : List (List UInt8) := m.map (·.1)
theorem keys_nodup {m : PM} (h : RiseM m) : (keysM m).Nodup := List.pairwise_map.2 (h.imp fun hlt e => by rw [e] at hlt; exact lt_irr _ hlt)
theorem keys_rise {m : PM} (h : RiseM m) : (keysM m).Pairwise (· < ·) := List.pairwise_map.2 h
theorem Holds8.perm {C : Nat → Prop} {w w0 : World} {b n : Nat} {D : DataW Value} {m : PM} (h : Holds8 w C D m) (hown : w0.ownsMap Tryz.prog 9 R8 b n D) (hr : RiseM m) : (keysM m).Perm (strKeys D) := by
  obtain ⟨es, hD, hpw, _⟩ := hown.entries keyS
  obtain ⟨es', hD', hko⟩ := hown.keysOf
  obtain rfl : es = es' := by rw [hD] at hD'; simpa using hD'
  subst hD
  exact perm_strKeys hpw (fun p hp => by obtain ⟨v, hv⟩ := hko p hp; obtain ⟨x, _, hx, _⟩ := Maps.keyOf_str Tryz.underlying9 hv; exact ⟨x, hx⟩) (keys_nodup hr) (fun x => by rw [h.has x, look_isSome]; exact Iff.rfl)
theorem size_strKeys {D : DataW Value} (h : IsMap D) : Maps.size D = (strKeys D).length := by
  obtain ⟨es, rfl⟩ := h
  simp [Maps.size, strKeys]
theorem Holds8.size {C : Nat → Prop} {w w0 : World} {b n : Nat} {D : DataW Value} {m : PM} (h : Holds8 w C D m) (hown : w0.ownsMap Tryz.prog 9 R8 b n D) (hr : RiseM m) : Maps.size D = m.length := by
  rw [size_strKeys hown.isMap, ← (h.perm hown hr).length_eq]
  exact List.length_map ..
theorem own_size8 {w : World} {b n : Nat} {D : DataW Value} (hown : w.ownsMap Tryz.prog 9 R8 b n D) : w.ownsMap Tryz.prog 9 R8 b (Maps.size D) D := by
  obtain ⟨es, clock, hb, F, hs, rfl⟩ := hown
  exact ⟨es, clock, hb, F, by simp [Maps.size, length_sorted], rfl⟩
theorem MapP.made (w : World) (C : Nat → Prop) : MapP (w.alloc (.map #[] 0)) C w.heap.size [] :=
  ⟨⟨0, _, World.ownsMap_made w Tryz.prog 9 R8, ⟨fun _ => rfl, fun k b h => by cases h⟩⟩, List.Pairwise.nil⟩
theorem keyLitS (k : List UInt8) (h : k.length ≤ maxLen) : WideAt.IsKeyLit (.string k) := keyS.key (key_str k h)
theorem lit_ne {k k' : List UInt8} (h : ¬ k = k') : (Lit.string k' : Lit) ≠ .string k := fun e => h (by cases e; rfl)
theorem Holds8.put {C : Nat → Prop} {w : World} {D : DataW Value} {m : PM} (h : Holds8 w C D m) (hM : IsMap D) {k v : List UInt8} (hk : k.length ≤ maxLen) {x : Value} (hx : SegC w C x v) : Holds8 w C (D.put (.string k) (.held x)) (putM k v m) := by
  refine ⟨fun k' => ?_, fun k' b hb => ?_⟩
  · rw [look_put]
    by_cases e : k = k'
    · subst e
      rw [if_pos rfl, has_put_same hM (keyLitS k hk)]
      rfl
    · rw [if_neg e, has_put_other (lit_ne e), h.has]
  · rw [look_put] at hb
    by_cases e : k = k'
    · subst e
      rw [if_pos rfl] at hb
      cases hb
      exact ⟨x, fun z => atKey_put_same hM (keyLitS k hk) _ z, hx⟩
    · rw [if_neg e] at hb
      obtain ⟨y, h1, h2⟩ := h.is k' b hb
      exact ⟨y, fun z => by rw [atKey_put_other (lit_ne e), h1], h2⟩
theorem Holds8.del {C : Nat → Prop} {w : World} {D : DataW Value} {m : PM} (h : Holds8 w C D m) (k : List UInt8) : Holds8 w C (D.del (.string k)) (delM k m) := by
  refine ⟨fun k' => ?_, fun k' b hb => ?_⟩
  · rw [look_del]
    by_cases e : k = k'
    · subst e
      rw [if_pos rfl, has_del_same]
      rfl
    · rw [if_neg e, has_del_other (lit_ne e), h.has]
  · rw [look_del] at hb
    by_cases e : k = k'
    · rw [if_pos e] at hb
      cases hb
    · rw [if_neg e] at hb
      obtain ⟨y, h1, h2⟩ := h.is k' b hb
      exact ⟨y, fun z => by rw [atKey_del_other (lit_ne e), h1], h2⟩
/-- What a look-up tells. -/
theorem MapP.look {C : Nat → Prop} {w : World} {b : Nat} {m : PM} (h : MapP w C b m) (k : List UInt8) (hk : k.length ≤ maxLen) (ok : Bool) : ∃ v, (Instr.lookup 71 (.map (some b)) (.string ⟨k.toArray⟩) ok).run Tryz.prog w = .ok (if ok then .tuple #[v, .bool (lookM m k).isSome] else v) w ∧ SegC w C v ((lookM m k).getD []) := by
  obtain ⟨n, D, h1, h2⟩ := h.body
  have key : ∀ v ps, R8 v = some (D.atKey (.string k) (.held (.slice none 0 0)), ps) → SegC w C v ((lookM m k).getD []) := fun v ps hv => by
    obtain ⟨_, e⟩ := R8_inv hv
    simp only [Prod.mk.injEq] at e
    cases hl : lookM m k with
    | none =>
      have hh : Maps.has D (.string k) = false := by rw [h2.has, hl]; rfl
      have : D.atKey (.string k) (.held (.slice none 0 0)) = .held (.slice none 0 0) := atKey_of_not_has hh _
      rw [this] at e
      injection e.1 with e1
      rw [← e1]
      exact ⟨.inl ⟨rfl, none, 0, rfl, fun _ => rfl⟩, fun h0 => by simp at h0⟩
    | some x =>
      obtain ⟨y, hy, hs⟩ := h2.is k x hl
      rw [hy] at e
      injection e.1 with e1
      rw [← e1]
      exact hs
  cases ok with
  | true =>
    obtain ⟨v, ps, hr, hv⟩ := h1.look_ok keyS Tryz.underlying71 (zeroB w) (zd := .held (.slice none 0 0)) (zp := []) rfl (key_str k hk)
    rw [h2.has] at hr
    exact ⟨v, hr, key v ps hv⟩
  | false =>
    obtain ⟨v, ps, hr, hv⟩ := h1.lookup keyS Tryz.underlying71 (zeroB w) (zd := .held (.slice none 0 0)) (zp := []) rfl (key_str k hk)
    exact ⟨v, hr, key v ps hv⟩
/-- m[k] = v. -/
theorem MapP.store {C : Nat → Prop} {w : World} {b : Nat} {m : PM} (h : MapP w C b m) {k v : List UInt8} (hk : k.length ≤ maxLen) (hm : m.length ≤ 1000000000) {x : Value} (hx : SegC w C x v) (hC : ¬ C b) : ∃ w', (Instr.mapUpdate 71 (.map (some b)) (.string ⟨k.toArray⟩) x).run Tryz.prog w = .ok () w' ∧ MapP w' C b (putM k v m) ∧ w.grownBy w' (some b) := by
  obtain ⟨n, D, h1, h2⟩ := h.body
  have hsz := h2.size h1 h.rise
  obtain ⟨ao, c, rfl⟩ := hx.1.shapeD
  obtain ⟨w', hr, ho, hg⟩ := (own_size8 h1).update keyS Tryz.underlying71 (by rw [hsz]; unfold maxLen; omega) (key_str k hk) (val := .slice ao v.length c) (d := .held (.slice ao v.length c)) (ps := []) rfl
  have hc : Chg (fun q => q = b) w w' := Chg.of_grown hg (fun q e => (Option.some.inj e).symm)
  exact ⟨w', hr, ⟨⟨_, _, ho, (h2.put h1.isMap hk hx).chg hc (fun q hq e => hC (e ▸ hq))⟩, rise_put _ _ h.rise⟩, hg⟩
/-- delete(m, k). -/
theorem MapP.drop {C : Nat → Prop} {w : World} {b : Nat} {m : PM} (h : MapP w C b m) {k : List UInt8} (hk : k.length ≤ maxLen) (hC : ¬ C b) (ty : TypeId) : ∃ w', (Builtin.delete_ #[71, 9] ty #[.map (some b), .string ⟨k.toArray⟩]).run Tryz.prog w = .ok (.tuple #[]) w' ∧ MapP w' C b (delM k m) ∧ w.grownBy w' (some b) := by
  obtain ⟨n, D, h1, h2⟩ := h.body
  obtain ⟨w', hr, ho, hg⟩ := h1.drop keyS Tryz.underlying71 (key_str k hk) ty
  have hc : Chg (fun q => q = b) w w' := Chg.of_grown hg.grown (fun q e => (Option.some.inj e).symm)
  exact ⟨w', hr, ⟨⟨_, _, ho, (h2.del k).chg hc (fun q hq e => hC (e ▸ hq))⟩, rise_del _ h.rise⟩, hg.grown⟩
theorem MapP.len {C : Nat → Prop} {w : World} {b : Nat} {m : PM} (h : MapP w C b m) (ty : TypeId) : (Builtin.len_ #[71] ty #[.map (some b)]).run Tryz.prog w = .ok (.int .i64 (m.length : Int)) w := by
  obtain ⟨n, D, h1, h2⟩ := h.body
  rw [h1.len Tryz.underlying71 ty, h2.size h1 h.rise]
end Go.Proofs.YtbegphfideopoaaGreat
