/-
  What is proved here: nothing yet: what a disk does, plain: its sectors as they are and as they are synced, which are dirty, what comes, whether the power is off.
  Conditions: none.
-/
import Derived.Test.YtojgeahablphbaaJShaPure
namespace Go.Proofs.Ytojgeahablphbaa

structure DS where
  now : List (List UInt8)
  sure : List (List UInt8)
  dirt : List Bool
  next : List UInt8
  down : Bool
def noughts (n : Nat) : List UInt8 := List.replicate n 0
def newS (n : Nat) : DS := ⟨List.replicate n (noughts 128), List.replicate n (noughts 128), List.replicate n false, [], false⟩
/-- As many of each, each of 128 bytes. -/
structure DS.ok (s : DS) (n : Nat) : Prop where
  now : s.now.length = n
  sure : s.sure.length = n
  dirt : s.dirt.length = n
  nows : ∀ r ∈ s.now, r.length = 128
  sures : ∀ r ∈ s.sure, r.length = 128
def readS (s : DS) (k : Int) : List UInt8 × Int := if s.down then ([], 7) else if k < 0 ∨ (s.now.length : Int) ≤ k then ([], 1) else (s.now.getD k.toNat [], 0)
/-- What a change meets, and what is behind it. -/
def mayS (s : DS) : Int × DS := if s.down then (7, s) else match s.next with
  | [] => (0, s)
  | c :: t => if c = 1 then (6, { s with next := t }) else if c = 2 then (7, { s with next := t, down := true }) else (0, { s with next := t })
def padS (b : List UInt8) : List UInt8 := b ++ noughts (128 - b.length)
def putS (s : DS) (k : Nat) (b : List UInt8) : DS := { s with now := s.now.set k (padS b), dirt := s.dirt.set k true }
def writeS (s : DS) (k : Int) (b : List UInt8) : Int × DS := if k < 0 ∨ (s.now.length : Int) ≤ k ∨ 128 < b.length then (1, s) else if (mayS s).1 ≠ 0 then mayS s else (0, putS (mayS s).2 k.toNat b)
def syncedS (s : DS) : DS := { s with sure := s.now, dirt := List.replicate s.dirt.length false }
def syncS (s : DS) : Int × DS := if (mayS s).1 ≠ 0 then mayS s else (0, syncedS (mayS s).2)
def dirtyAt : Nat → List Bool → List Nat
  | _, [] => []
  | i, b :: l => if b then i :: dirtyAt (i + 1) l else dirtyAt (i + 1) l
def dirtyS (s : DS) : List Nat := dirtyAt 0 s.dirt
/-- How many bytes of the i-th dirty sector stay as they are. -/
def stayN (stay : List Bool) (torn cut : Int) (i : Nat) : Nat := if (i : Int) = torn then (max 0 (min cut 128)).toNat else if stay[i]? = some true then 128 else 0
def tornRow (s : DS) (k n : Nat) : List UInt8 := (s.now.getD k []).take n ++ (s.sure.getD k []).drop n
def crashOne (s : DS) (k n : Nat) : DS := { s with now := s.now.set k (tornRow s k n), sure := s.sure.set k (tornRow s k n), dirt := s.dirt.set k false }
def crashTo (N : Nat → Nat) : Nat → List Nat → DS → DS
  | _, [], s => s
  | i, k :: l, s => crashTo N (i + 1) l (crashOne s k (N i))
def crashS (s : DS) (stay : List Bool) (torn cut : Int) : DS := { crashTo (stayN stay torn cut) 0 (dirtyS s) s with next := [], down := false }

theorem noughts_length (n : Nat) : (noughts n).length = n := List.length_replicate ..
theorem newS_ok (n : Nat) : (newS n).ok n := ⟨List.length_replicate .., List.length_replicate .., List.length_replicate .., fun r h => by rw [List.eq_of_mem_replicate h]; exact noughts_length _, fun r h => by rw [List.eq_of_mem_replicate h]; exact noughts_length _⟩
theorem DS.ok.may {s : DS} {n : Nat} (h : s.ok n) : (mayS s).2.ok n := by
  unfold mayS
  split
  · exact h
  · split
    · exact h
    · split
      · exact ⟨h.now, h.sure, h.dirt, h.nows, h.sures⟩
      · split
        · exact ⟨h.now, h.sure, h.dirt, h.nows, h.sures⟩
        · exact ⟨h.now, h.sure, h.dirt, h.nows, h.sures⟩
theorem padS_length {b : List UInt8} (h : b.length ≤ 128) : (padS b).length = 128 := by
  unfold padS; rw [List.length_append, noughts_length]; omega
theorem mem_set' {α : Type} {l : List α} {k : Nat} {x y : α} (h : y ∈ l.set k x) : y = x ∨ y ∈ l := (List.mem_or_eq_of_mem_set h).symm
theorem DS.ok.put {s : DS} {n : Nat} (h : s.ok n) (k : Nat) (b : List UInt8) (hb : b.length ≤ 128) : (putS s k b).ok n :=
  ⟨by show (s.now.set _ _).length = n; rw [List.length_set]; exact h.now, h.sure, by show (s.dirt.set _ _).length = n; rw [List.length_set]; exact h.dirt, fun r hr => by rcases mem_set' hr with rfl | h2; exact padS_length hb; exact h.nows r h2, h.sures⟩
theorem DS.ok.synced {s : DS} {n : Nat} (h : s.ok n) : (syncedS s).ok n := ⟨h.now, h.now, by show (List.replicate _ _).length = n; rw [List.length_replicate]; exact h.dirt, h.nows, h.nows⟩
theorem DS.ok.sync {s : DS} {n : Nat} (h : s.ok n) : (syncS s).2.ok n := by
  unfold syncS
  split
  · exact h.may
  · exact h.may.synced
theorem DS.ok.write {s : DS} {n : Nat} (h : s.ok n) (k : Int) (b : List UInt8) : (writeS s k b).2.ok n := by
  unfold writeS
  split
  · exact h
  · split
    · exact h.may
    · exact h.may.put _ _ (by omega)
theorem getD_len {l : List (List UInt8)} (h : ∀ r ∈ l, r.length = 128) {k : Nat} (hk : k < l.length) : (l.getD k []).length = 128 := by
  rw [List.getD_eq_getElem?_getD, List.getElem?_eq_getElem hk]
  exact h _ (List.getElem_mem hk)
theorem tornRow_length {s : DS} {n k m : Nat} (h : s.ok n) (hk : k < n) (hm : m ≤ 128) : (tornRow s k m).length = 128 := by
  unfold tornRow
  have h1 := getD_len h.nows (k := k) (by rw [h.now]; exact hk)
  have h2 := getD_len h.sures (k := k) (by rw [h.sure]; exact hk)
  rw [List.length_append, List.length_take, List.length_drop]; omega
theorem DS.ok.one {s : DS} {n : Nat} (h : s.ok n) {k m : Nat} (hk : k < n) (hm : m ≤ 128) : (crashOne s k m).ok n :=
  ⟨by show (s.now.set _ _).length = n; rw [List.length_set]; exact h.now, by show (s.sure.set _ _).length = n; rw [List.length_set]; exact h.sure, by show (s.dirt.set _ _).length = n; rw [List.length_set]; exact h.dirt, fun r hr => by rcases mem_set' hr with rfl | h2; exact tornRow_length h hk hm; exact h.nows r h2, fun r hr => by rcases mem_set' hr with rfl | h2; exact tornRow_length h hk hm; exact h.sures r h2⟩
theorem stayN_le (stay : List Bool) (torn cut : Int) (i : Nat) : stayN stay torn cut i ≤ 128 := by
  unfold stayN
  split
  · omega
  · split <;> omega
theorem dirtyAt_lt : ∀ (l : List Bool) (i k : Nat), k ∈ dirtyAt i l → k < i + l.length
  | [], _, _, h => by cases h
  | b :: l, i, k, h => by
    unfold dirtyAt at h
    rw [List.length_cons]
    split at h
    · rcases List.mem_cons.1 h with rfl | h
      · omega
      · have := dirtyAt_lt l (i + 1) k h; omega
    · have := dirtyAt_lt l (i + 1) k h; omega
theorem DS.ok.crashTo {n : Nat} (N : Nat → Nat) (hN : ∀ i, N i ≤ 128) : ∀ (l : List Nat) (i : Nat) (s : DS), s.ok n → (∀ k ∈ l, k < n) → (crashTo N i l s).ok n
  | [], _, _, h, _ => h
  | k :: l, i, _, h, hl => DS.ok.crashTo N hN l (i + 1) _ (h.one (hl k List.mem_cons_self) (hN i)) (fun q hq => hl q (List.mem_cons_of_mem _ hq))
theorem DS.ok.crash {s : DS} {n : Nat} (h : s.ok n) (stay : List Bool) (torn cut : Int) : (crashS s stay torn cut).ok n := by
  have := DS.ok.crashTo (stayN stay torn cut) (stayN_le _ _ _) (dirtyS s) 0 s h (fun k hk => by have := dirtyAt_lt _ _ _ hk; have := h.dirt; omega)
  exact ⟨this.now, this.sure, this.dirt, this.nows, this.sures⟩
end Go.Proofs.Ytojgeahablphbaa
