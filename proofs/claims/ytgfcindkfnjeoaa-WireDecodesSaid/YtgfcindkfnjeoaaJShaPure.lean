/-
  What is proved here: plain facts on numbers of 32 bits, bytes and lists, and the hash function SHA-256 as a plain function on them; no program is spoken of. plain facts on blocks of memory: what a block holds behind a store, a new block, a draw; and on arrays that are filled one cell after another. what append does to a slice of bytes of the call's own, and to one that is full, in the words of the other texts. plain facts on slices of bytes: as a text, of how many bytes, their beginnings and their rests.
  Conditions: those that each fact names.
-/
import Derived.WalkKit
import Derived.WalkSpells
import Derived.WalkLawsBesides
import Derived.Laws.CopyOwn
import Derived.Deep.MidRow
import Derived.Deep.AppendLies
import Derived.ArgAppend
import Derived.Deep.Quiet
import Derived.Test.YtgfcindkfnjeoaaProg
import Derived.Maps.AppendAt
import Derived.Laws.AppendOwnNone
namespace Go.Proofs.Ytgfcindkfnjeoaa
open Go.RowKit

/-- A byte and a word of 32 bits as values of the program. -/
def n8 (b : UInt8) : Int := (b.toNat : Int)
def n32 (x : BitVec 32) : Int := (x.toNat : Int)
abbrev v8 (b : UInt8) : Value := .int .u8 (n8 b)
abbrev v32 (x : BitVec 32) : Value := .int .u32 (n32 x)

/-- Turned right by n bits. -/
def rotr (x : BitVec 32) (n : Nat) : BitVec 32 := (x >>> n) ||| (x <<< (32 - n))
def sg0 (x : BitVec 32) : BitVec 32 := rotr x 7 ^^^ rotr x 18 ^^^ (x >>> 3)
def sg1 (x : BitVec 32) : BitVec 32 := rotr x 17 ^^^ rotr x 19 ^^^ (x >>> 10)
def ep0 (x : BitVec 32) : BitVec 32 := rotr x 2 ^^^ rotr x 13 ^^^ rotr x 22
def ep1 (x : BitVec 32) : BitVec 32 := rotr x 6 ^^^ rotr x 11 ^^^ rotr x 25

/-- The number of some bytes, the highest first. -/
def beNat (l : List UInt8) : Nat := l.foldl (fun n b => n * 256 + b.toNat) 0

/-- The words of the rounds, and the first words. -/
def kWords : List (BitVec 32) := [
  0x428a2f98#32, 0x71374491#32, 0xb5c0fbcf#32, 0xe9b5dba5#32, 0x3956c25b#32, 0x59f111f1#32, 0x923f82a4#32, 0xab1c5ed5#32,
  0xd807aa98#32, 0x12835b01#32, 0x243185be#32, 0x550c7dc3#32, 0x72be5d74#32, 0x80deb1fe#32, 0x9bdc06a7#32, 0xc19bf174#32,
  0xe49b69c1#32, 0xefbe4786#32, 0x0fc19dc6#32, 0x240ca1cc#32, 0x2de92c6f#32, 0x4a7484aa#32, 0x5cb0a9dc#32, 0x76f988da#32,
  0x983e5152#32, 0xa831c66d#32, 0xb00327c8#32, 0xbf597fc7#32, 0xc6e00bf3#32, 0xd5a79147#32, 0x06ca6351#32, 0x14292967#32,
  0x27b70a85#32, 0x2e1b2138#32, 0x4d2c6dfc#32, 0x53380d13#32, 0x650a7354#32, 0x766a0abb#32, 0x81c2c92e#32, 0x92722c85#32,
  0xa2bfe8a1#32, 0xa81a664b#32, 0xc24b8b70#32, 0xc76c51a3#32, 0xd192e819#32, 0xd6990624#32, 0xf40e3585#32, 0x106aa070#32,
  0x19a4c116#32, 0x1e376c08#32, 0x2748774c#32, 0x34b0bcb5#32, 0x391c0cb3#32, 0x4ed8aa4a#32, 0x5b9cca4f#32, 0x682e6ff3#32,
  0x748f82ee#32, 0x78a5636f#32, 0x84c87814#32, 0x8cc70208#32, 0x90befffa#32, 0xa4506ceb#32, 0xbef9a3f7#32, 0xc67178f2#32]
def kAt (t : Nat) : BitVec 32 := kWords.getD t 0#32

/-- Eight words. -/
structure St where
  a : BitVec 32
  b : BitVec 32
  c : BitVec 32
  d : BitVec 32
  e : BitVec 32
  f : BitVec 32
  g : BitVec 32
  h : BitVec 32

def St.list (s : St) : List (BitVec 32) := [s.a, s.b, s.c, s.d, s.e, s.f, s.g, s.h]
def St.start : St := ⟨0x6a09e667#32, 0xbb67ae85#32, 0x3c6ef372#32, 0xa54ff53a#32, 0x510e527f#32, 0x9b05688c#32, 0x1f83d9ab#32, 0x5be0cd19#32⟩
def St.add (s r : St) : St := ⟨s.a + r.a, s.b + r.b, s.c + r.c, s.d + r.d, s.e + r.e, s.f + r.f, s.g + r.g, s.h + r.h⟩

def t1 (s : St) (k w : BitVec 32) : BitVec 32 := s.h + ep1 s.e + ((s.e &&& s.f) ^^^ (~~~s.e &&& s.g)) + k + w
def t2 (s : St) : BitVec 32 := ep0 s.a + ((s.a &&& s.b) ^^^ (s.a &&& s.c) ^^^ (s.b &&& s.c))
def St.round (s : St) (k w : BitVec 32) : St := ⟨t1 s k w + t2 s, s.a, s.b, s.c, s.d + t1 s k w, s.e, s.f, s.g⟩

/-- The first sixteen words of a block; all of them, up to t. -/
def wordAt (blk : List UInt8) (t : Nat) : BitVec 32 := BitVec.ofNat 32 (beNat ((blk.drop (4 * t)).take 4))
def schNext (l : List (BitVec 32)) (t : Nat) : BitVec 32 := sg1 (l.getD (t - 2) 0#32) + l.getD (t - 7) 0#32 + sg0 (l.getD (t - 15) 0#32) + l.getD (t - 16) 0#32
def sched (blk : List UInt8) : Nat → List (BitVec 32)
  | 0 => []
  | t + 1 => sched blk t ++ [if t < 16 then wordAt blk t else schNext (sched blk t) t]
def rounds (ws : List (BitVec 32)) (s : St) : Nat → St
  | 0 => s
  | t + 1 => (rounds ws s t).round (kAt t) (ws.getD t 0#32)
/-- What becomes of the words by a block. -/
def compress (s : St) (blk : List UInt8) : St := s.add (rounds (sched blk 64) s 64)

theorem sched_len (blk : List UInt8) (t : Nat) : (sched blk t).length = t := by
  induction t with
  | zero => rfl
  | succ t ih => simp [sched, ih]

theorem wrap_u32_nat (n : Nat) : IntKind.u32.wrap (n : Int) = ((n % 4294967296 : Nat) : Int) := by
  simp [IntKind.wrap, IntKind.bits, IntKind.signed]
theorem wrap_u64_nat (n : Nat) : IntKind.u64.wrap (n : Int) = ((n % 18446744073709551616 : Nat) : Int) := by
  simp [IntKind.wrap, IntKind.bits, IntKind.signed]
theorem wrap_u8_nat (n : Nat) : IntKind.u8.wrap (n : Int) = ((n % 256 : Nat) : Int) := by
  simp [IntKind.wrap, IntKind.bits, IntKind.signed]
theorem ofInt32 (x : BitVec 32) : BitVec.ofInt 32 (n32 x) = x := by
  unfold n32; rw [BitVec.ofInt_natCast]; simp
theorem wrap32_toNat (x : BitVec 32) : IntKind.u32.wrap (x.toNat : Int) = n32 x := by
  rw [wrap_u32_nat, Nat.mod_eq_of_lt x.isLt]; rfl
theorem bits_or32 (a b : BitVec 32) : bits .or .u32 (n32 a) (n32 b) = n32 (a ||| b) := by
  show IntKind.u32.wrap ((BitVec.ofInt 32 (n32 a) ||| BitVec.ofInt 32 (n32 b)).toNat : Int) = _
  rw [ofInt32, ofInt32, wrap32_toNat]
theorem bits_and32 (a b : BitVec 32) : bits .and .u32 (n32 a) (n32 b) = n32 (a &&& b) := by
  show IntKind.u32.wrap ((BitVec.ofInt 32 (n32 a) &&& BitVec.ofInt 32 (n32 b)).toNat : Int) = _
  rw [ofInt32, ofInt32, wrap32_toNat]
theorem bits_xor32 (a b : BitVec 32) : bits .xor .u32 (n32 a) (n32 b) = n32 (a ^^^ b) := by
  show IntKind.u32.wrap ((BitVec.ofInt 32 (n32 a) ^^^ BitVec.ofInt 32 (n32 b)).toNat : Int) = _
  rw [ofInt32, ofInt32, wrap32_toNat]
theorem not32 (x : BitVec 32) : bits .xor .u32 (if IntKind.u32.signed = true then -1 else IntKind.u32.max) (n32 x) = n32 (~~~x) := by
  show IntKind.u32.wrap ((BitVec.ofInt 32 4294967295 ^^^ BitVec.ofInt 32 (n32 x)).toNat : Int) = _
  rw [ofInt32, wrap32_toNat, show BitVec.ofInt 32 4294967295 = BitVec.allOnes 32 by decide, BitVec.allOnes_xor]
theorem add32 (a b : BitVec 32) : IntKind.u32.wrap (n32 a + n32 b) = n32 (a + b) := by
  unfold n32
  rw [show (a.toNat : Int) + (b.toNat : Int) = ((a.toNat + b.toNat : Nat) : Int) by simp, wrap_u32_nat, BitVec.toNat_add]
theorem shr32 (x : BitVec 32) (n : Nat) : n32 x / ((2 ^ n : Nat) : Int) = n32 (x >>> n) := by
  unfold n32; rw [BitVec.toNat_ushiftRight, Nat.shiftRight_eq_div_pow]; simp
theorem shl32 (x : BitVec 32) (n : Nat) : n32 x * ((2 ^ n : Nat) : Int) % 4294967296 = n32 (x <<< n) := by
  unfold n32; rw [BitVec.toNat_shiftLeft, Nat.shiftLeft_eq]; simp
theorem shr3 (x : BitVec 32) : n32 x / (8 : Int) = n32 (x >>> 3) := by rw [← shr32]; rfl
theorem shr10 (x : BitVec 32) : n32 x / (1024 : Int) = n32 (x >>> 10) := by rw [← shr32]; rfl
theorem lt32 (x : BitVec 32) : n32 x < 4294967296 := by have := x.isLt; unfold n32; omega
theorem ge32 (x : BitVec 32) : 0 ≤ n32 x := by unfold n32; omega
theorem lt8 (x : UInt8) : n8 x < 256 := by have := x.toNat_lt; unfold n8; omega
theorem ge8 (x : UInt8) : 0 ≤ n8 x := by unfold n8; omega
theorem natPow (n : Nat) : (2 : Int) ^ n = ((2 ^ n : Nat) : Int) := by simp

theorem rotr_form (x : BitVec 32) (k : Int) (h0 : 0 < k) (h1 : k < 32) :
    bits .or .u32 (n32 x / 2 ^ k.toNat) (n32 x * 2 ^ (32 - k).toNat % 4294967296) = n32 (rotr x k.toNat) := by
  rw [natPow, natPow, shr32, shl32, bits_or32, show (32 - k).toNat = 32 - k.toNat by omega]; rfl
theorem rotl_form (x : BitVec 32) (m : Nat) :
    bits .or .u32 (n32 x * 2 ^ (32 - m) % 4294967296) (n32 x / 2 ^ m) = n32 (rotr x m) := by
  rw [natPow, natPow, shr32, shl32, bits_or32, BitVec.or_comm]; rfl
theorem neg_and31 (n : Nat) (h0 : 0 < n) (h1 : n < 32) : bits .and .u64 (IntKind.u64.wrap (-(n : Int))) 31 = 32 - (n : Int) := by
  have h : ∀ m : Fin 32, 0 < m.val → bits .and .u64 (IntKind.u64.wrap (-(m.val : Int))) 31 = 32 - (m.val : Int) := by decide
  exact h ⟨n, h1⟩ h0

theorem beNat_snoc (l : List UInt8) (x : UInt8) : beNat (l ++ [x]) = beNat l * 256 + x.toNat := by simp [beNat]
theorem beNat_take_succ (l : List UInt8) (k : Nat) (h : k < l.length) : beNat (l.take (k + 1)) = beNat (l.take k) * 256 + l[k].toNat := by
  rw [List.take_succ_eq_append_getElem h, beNat_snoc]
theorem beNat_take_lt (l : List UInt8) (k : Nat) (h : k ≤ l.length) : beNat (l.take k) < 256 ^ k := by
  induction k with
  | zero => simp [beNat]
  | succ k ih =>
    rw [beNat_take_succ l k (by omega)]
    have := ih (by omega)
    have := (l[k]'(by omega)).toNat_lt
    simp only [Nat.pow_succ]; omega
theorem beNat_lt (l : List UInt8) : beNat l < 256 ^ l.length := by
  have := beNat_take_lt l l.length (Nat.le_refl _)
  rwa [List.take_length] at this
theorem bits_or64 (a b : Nat) (ha : a < 18446744073709551616) (hb : b < 18446744073709551616) : bits .or .u64 (a : Int) (b : Int) = ((a ||| b : Nat) : Int) := by
  show IntKind.u64.wrap ((BitVec.ofInt 64 (a : Int) ||| BitVec.ofInt 64 (b : Int)).toNat : Int) = _
  rw [BitVec.ofInt_natCast, BitVec.ofInt_natCast, BitVec.toNat_or, BitVec.toNat_ofNat, BitVec.toNat_ofNat, Nat.mod_eq_of_lt ha, Nat.mod_eq_of_lt hb, wrap_u64_nat, Nat.mod_eq_of_lt (Nat.or_lt_two_pow (n := 64) ha hb)]
theorem or_byte (n : Nat) (x : UInt8) (h : n < 72057594037927936) : bits .or .u64 ((n : Int) * 256) (n8 x) = ((n * 256 + x.toNat : Nat) : Int) := by
  have hx := x.toNat_lt
  rw [show ((n : Int) * 256) = ((n * 256 : Nat) : Int) by simp, n8, bits_or64 _ _ (by omega) (by omega)]
  have := Nat.shiftLeft_add_eq_or_of_lt (i := 8) (b := x.toNat) hx n
  rw [Nat.shiftLeft_eq] at this
  rw [← this]

end Go.Proofs.Ytgfcindkfnjeoaa
namespace Go.Proofs.Ytgfcindkfnjeoaa
open Go.RowKit

/-- Block g holds these cells, of element type t, none of them frozen. -/
def Blk (w : World) (g : Nat) (t : TypeId) (arr : Array Value) : Prop := w.heap[g]? = some (.cells arr t (0, 0))

theorem Blk.lt {w : World} {g : Nat} {t : TypeId} {arr : Array Value} (h : Blk w g t arr) : g < w.heap.size := (Array.getElem?_eq_some_iff.1 h).1
theorem Blk.cell {w : World} {g : Nat} {t : TypeId} {arr : Array Value} (h : Blk w g t arr) {j : Nat} {v : Value} (hv : arr[j]? = some v) : w.cell? ⟨g, j, none⟩ = some v := by
  rw [cell_of_row w g j arr t (0, 0) h, hv]
theorem Blk.frozen {w : World} {g : Nat} {t : TypeId} {arr : Array Value} (h : Blk w g t arr) (j : Nat) : w.frozen? ⟨g, j, none⟩ = false := frozen_of_row w g j arr t h
theorem Blk.set {w : World} {g : Nat} {t : TypeId} {arr : Array Value} (h : Blk w g t arr) (i : Nat) (v : Value) : Blk (w.setCell ⟨g, i, none⟩ v) g t (arr.setIfInBounds i v) := by
  unfold Blk; rw [setCell_eq_setRow w g i arr t (0, 0) v h]; exact setRow_heap w g arr _ t (0, 0) h
theorem Blk.setOther {w : World} {g : Nat} {t : TypeId} {arr : Array Value} (h : Blk w g t arr) (a : Addr) (v : Value) (hne : g ≠ a.block) : Blk (w.setCell a v) g t arr := by
  unfold Blk; rw [Below.heap_setCell w a v g hne]; exact h
theorem Blk.alloc {w : World} {g : Nat} {t : TypeId} {arr : Array Value} (h : Blk w g t arr) (o : Obj) : Blk (w.alloc o) g t arr := by
  unfold Blk; rw [Below.heap_alloc w o g h.lt]; exact h
theorem Blk.new (w : World) (t : TypeId) (arr : Array Value) : Blk (w.alloc (.cells arr t)) w.heap.size t arr := heap_alloc_new w _
theorem Blk.drew {w : World} {g : Nat} {t : TypeId} {arr : Array Value} (h : Blk w g t arr) : Blk w.drew g t arr := h
theorem Blk.drewN {w : World} {g : Nat} {t : TypeId} {arr : Array Value} (h : Blk w g t arr) (n : Nat) : Blk (w.drewN n) g t arr := h
theorem Below.drewN {B : Nat} {a w : World} (h : Below B a w) (n : Nat) : Below B a (w.drewN n) := ⟨h.os, h.tape, h.output, h.size, h.block⟩
theorem Blk.setRow {w : World} {g : Nat} {t : TypeId} {arr : Array Value} (h : Blk w g t arr) (arr' : Array Value) : Blk (w.setRow g arr') g t arr' := setRow_heap w g arr arr' t (0, 0) h
theorem Blk.setRowOther {w : World} {g : Nat} {t : TypeId} {arr : Array Value} (h : Blk w g t arr) (g' : Nat) (arr' : Array Value) (hne : g ≠ g') : Blk (w.setRow g' arr') g t arr := by
  unfold Blk; rw [setRow_other w g' g arr' hne]; exact h
theorem Blk.below {w w' : World} {g B : Nat} {t : TypeId} {arr : Array Value} (h : Blk w g t arr) (hb : Below B w w') (hg : g < B) : Blk w' g t arr := by
  unfold Blk; rw [hb.block g hg]; exact h
theorem Blk.grown {w w' : World} {g : Nat} {t : TypeId} {arr : Array Value} {row : Option Nat} (h : Blk w g t arr) (hb : w.grownBy w' row) (hg : some g ≠ row) : Blk w' g t arr := by
  unfold Blk; rw [hb.block g h.lt hg]; exact h

theorem Blk.newAt (w : World) (t : TypeId) (arr : Array Value) (n : Nat) (h : n = w.heap.size) : Blk (w.alloc (.cells arr t)) n t arr := by subst h; exact Blk.new w t arr
theorem Blk.of_eq {w : World} {g : Nat} {t : TypeId} {arr arr' : Array Value} (h : Blk w g t arr) (e : arr = arr') : Blk w g t arr' := e ▸ h
theorem at32 (ws : List (BitVec 32)) (j : Nat) (h : j < ws.length) : (ws.map v32).toArray[j]? = some (v32 (ws.getD j 0#32)) := by
  simp [h, List.getD]
theorem at8 (bs : List UInt8) (j : Nat) (h : j < bs.length) : (bs.map v8).toArray[j]? = some (v8 (bs.getD j 0)) := by
  simp [h, List.getD]

theorem Below.setRow {B : Nat} {a w : World} (h : Below B a w) (g : Nat) (cs : Array Value) (hg : B ≤ g) : Below B a (w.setRow g cs) := below_setRow h hg cs
theorem below_grown {B : Nat} {a w w' : World} {row : Option Nat} (h : Below B a w) (hg : w.grownBy w' row) (hB : B ≤ w.heap.size) (hr : ∀ k, row = some k → B ≤ k) : Below B a w' := h.grown hg hB hr
theorem bcell {W w1 : World} (hb : Below W.heap.size W w1) : (∀ b o, b < W.heap.size → w1.cell? ⟨b, o, none⟩ = W.cell? ⟨b, o, none⟩) ∧ (∀ b o, b < W.heap.size → w1.frozen? ⟨b, o, none⟩ = W.frozen? ⟨b, o, none⟩) :=
  ⟨fun b o h => hb.cell (p := ⟨b, o, none⟩) h, fun b o h => hb.frozen (p := ⟨b, o, none⟩) h⟩

/-- A whole array stored into a block: of the world behind it what is wanted, no more. -/
theorem store_blk {P : Program} {w : World} {ops : Array Oper} {rest : List Oper} {o : Oper} {a : Act} {Q : Exit → Act → World → Prop} (hgd : o.guard = none) (ty : TypeId) (x y : Operand) (ho : o.op = .store ty x y) (hd : o.dst = none)
    (g : Nat) (cells : Array Value) (hx : a.eval x = .pointer (some ⟨g, 0, none⟩)) (hy : a.eval y = .agg cells)
    (t : TypeId) (old : Array Value) (hg : Blk w g t old) (hi : (P.info? ty).map (·.size) = some cells.size)
    (hold : old.size = cells.size) (h1 : cells.all (·.oneCell') = true)
    (hK : ∀ w', Blk w' g t cells → w.grownBy w' (some g) → w'.heap.size = w.heap.size → wpList P ops Q rest a w') : wpList P ops Q (o :: rest) a w := by
  refine wpList_store_row hgd ty x y ho g cells hx hy t old hg hi hold h1 ?_
  rw [hd]
  exact hK _ (hg.setRow _) ⟨rfl, rfl, rfl, by simp, fun k _ hk => setRow_other w g k cells (fun e => hk (by rw [e]))⟩ (by simp)

/-- An array of n cells of which the first k are filled by f, the others hold z. -/
def upTo (n k : Nat) (f : Nat → Value) (z : Value) : Array Value := ((List.range n).map fun i => if i < k then f i else z).toArray
theorem upTo_size (n k : Nat) (f : Nat → Value) (z : Value) : (upTo n k f z).size = n := by simp [upTo]
theorem upTo_at (n k : Nat) (f : Nat → Value) (z : Value) (j : Nat) (h : j < n) : (upTo n k f z)[j]? = some (if j < k then f j else z) := by
  simp [upTo, h]
theorem upTo_set (n k : Nat) (f : Nat → Value) (z : Value) : (upTo n k f z).setIfInBounds k (f k) = upTo n (k + 1) f z := by
  apply Array.ext
  · simp [upTo]
  · intro i h1 h2
    simp only [Array.size_setIfInBounds, upTo_size] at h1
    rw [Array.getElem_setIfInBounds (by simpa [upTo_size] using h1)]
    simp only [upTo, List.getElem_toArray, List.getElem_map, List.getElem_range]
    by_cases he : k = i
    · subst he; simp
    · by_cases hl : i < k
      · simp [he, hl, show i < k + 1 by omega]
      · simp [he, hl, show ¬ i < k + 1 by omega]
theorem upTo_full (n : Nat) (f : Nat → Value) (z : Value) : upTo n n f z = ((List.range n).map f).toArray := by
  unfold upTo; congr 1; apply List.map_congr_left; intro i hi; simp at hi; simp [hi]
/-- An array of n cells of which the first k are filled by f, the others by z. -/
def mixTo (n k : Nat) (f z : Nat → Value) : Array Value := ((List.range n).map fun i => if i < k then f i else z i).toArray
theorem mixTo_size (n k : Nat) (f z : Nat → Value) : (mixTo n k f z).size = n := by simp [mixTo]
theorem mixTo_at (n k : Nat) (f z : Nat → Value) (j : Nat) (h : j < n) : (mixTo n k f z)[j]? = some (if j < k then f j else z j) := by
  simp [mixTo, h]
theorem mixTo_set (n k : Nat) (f z : Nat → Value) : (mixTo n k f z).setIfInBounds k (f k) = mixTo n (k + 1) f z := by
  apply Array.ext
  · simp [mixTo]
  · intro i h1 h2
    simp only [Array.size_setIfInBounds, mixTo_size] at h1
    rw [Array.getElem_setIfInBounds (by simpa [mixTo_size] using h1)]
    simp only [mixTo, List.getElem_toArray, List.getElem_map, List.getElem_range]
    by_cases he : k = i
    · subst he; simp
    · by_cases hl : i < k
      · simp [he, hl, show i < k + 1 by omega]
      · simp [he, hl, show ¬ i < k + 1 by omega]
theorem one8 (l : List UInt8) : (l.map v8).toArray.all (·.oneCell') = true := by
  simp [Value.oneCell']
theorem one32 (l : List (BitVec 32)) : (l.map v32).toArray.all (·.oneCell') = true := by
  simp [Value.oneCell']
theorem ret_agg {x y : Array Value} (h : x = y) : Ending.returned (.agg x) = .returned (.agg y) := by rw [h]
theorem ret_int {k : IntKind} {a b : Int} (h : a = b) : Ending.returned (.int k a) = .returned (.int k b) := by rw [h]

/-- The 32 bytes of eight words, of each the highest first. -/
def wb (ws : List (BitVec 32)) (i : Nat) : UInt8 := UInt8.ofNat ((ws.getD (i / 4) 0#32).toNat / 2 ^ (8 * (3 - i % 4)))
def wbytes (ws : List (BitVec 32)) : List UInt8 := (List.range 32).map (wb ws)
theorem wbytes_len (ws : List (BitVec 32)) : (wbytes ws).length = 32 := by simp [wbytes]
theorem wb_form (ws : List (BitVec 32)) (i : Nat) : IntKind.u8.wrap (n32 (ws.getD (i / 4) 0#32) / 2 ^ (8 * (3 - i % 4))) = n8 (wb ws i) := by
  unfold n32 n8 wb
  rw [natPow, ← Int.natCast_ediv, wrap_u8_nat]; simp

/-- The words of a block, one after another. -/
def schW (blk : List UInt8) (j : Nat) : BitVec 32 := (sched blk 64).getD j 0#32
theorem sched_prefix (blk : List UInt8) (t d : Nat) (j : Nat) (h : j < t) : (sched blk (t + d)).getD j 0#32 = (sched blk t).getD j 0#32 := by
  induction d with
  | zero => rfl
  | succ d ih =>
    rw [← ih, ← Nat.add_assoc, sched]
    simp only [List.getD_eq_getElem?_getD]
    rw [List.getElem?_append_left (by rw [sched_len]; omega)]
theorem schW_eq (blk : List UInt8) (t : Nat) (ht : t ≤ 64) (j : Nat) (h : j < t) : (sched blk t).getD j 0#32 = schW blk j := by
  unfold schW
  have := sched_prefix blk t (64 - t) j h
  rw [show t + (64 - t) = 64 by omega] at this
  exact this.symm
theorem schW_first (blk : List UInt8) (t : Nat) (h : t < 16) : schW blk t = wordAt blk t := by
  rw [← schW_eq blk (t + 1) (by omega) t (by omega), sched]
  simp [List.getD, sched_len, h]
theorem schW_next (blk : List UInt8) (t : Nat) (h : 16 ≤ t) (h2 : t < 64) : schW blk t = sg1 (schW blk (t - 2)) + schW blk (t - 7) + sg0 (schW blk (t - 15)) + schW blk (t - 16) := by
  rw [← schW_eq blk (t + 1) (by omega) t (by omega), sched]
  simp only [List.getD_eq_getElem?_getD]
  rw [List.getElem?_append_right (by rw [sched_len]; omega), sched_len]
  simp only [Nat.sub_self, List.getElem?_cons_zero, Option.getD_some, show ¬ t < 16 by omega, if_false, schNext]
  rw [schW_eq blk t (by omega) _ (by omega), schW_eq blk t (by omega) _ (by omega), schW_eq blk t (by omega) _ (by omega), schW_eq blk t (by omega) _ (by omega)]
theorem word_form (blk : List UInt8) (t : Nat) : IntKind.u32.wrap (beNat ((blk.drop (4 * t)).take 4) : Int) = n32 (wordAt blk t) := by
  rw [wrap_u32_nat]; simp [n32, wordAt]

/-- The eight bytes of a number, the highest first. -/
def be8at (n i : Nat) : UInt8 := UInt8.ofNat (n / 2 ^ (8 * (7 - i)))
def be8 (n : Nat) : List UInt8 := (List.range 8).map (be8at n)
theorem be8_len (n : Nat) : (be8 n).length = 8 := by simp [be8]
theorem be8_form (n i : Nat) : IntKind.u8.wrap ((n : Int) / 2 ^ (8 * (7 - i))) = n8 (be8at n i) := by
  unfold n8 be8at
  rw [natPow, ← Int.natCast_ediv, wrap_u8_nat]; simp
theorem be8_low (n k : Nat) (h : k < 8) : IntKind.u8.wrap ((n / 256 ^ k : Nat) % 256 : Int) = n8 (be8at n (7 - k)) := by
  unfold n8 be8at
  rw [show ((n / 256 ^ k : Nat) % 256 : Int) = ((n / 256 ^ k % 256 : Nat) : Int) by simp, wrap_u8_nat, show 8 * (7 - (7 - k)) = 8 * k by omega, Nat.pow_mul]; simp
theorem be8_take_succ (n k : Nat) (h : k < 8) : (be8 n).take (k + 1) = (be8 n).take k ++ [be8at n k] := by
  rw [List.take_succ_eq_append_getElem (by simpa [be8_len] using h)]; simp [be8]

/-- An array of n cells that is filled from its end: the last k hold f, the others z. -/
def dnTo (n k : Nat) (f : Nat → Value) (z : Value) : Array Value := ((List.range n).map fun i => if n - k ≤ i then f i else z).toArray
theorem dnTo_size (n k : Nat) (f : Nat → Value) (z : Value) : (dnTo n k f z).size = n := by simp [dnTo]
theorem dnTo_at (n k : Nat) (f : Nat → Value) (z : Value) (j : Nat) (h : j < n) : (dnTo n k f z)[j]? = some (if n - k ≤ j then f j else z) := by
  simp [dnTo, h]
theorem dnTo_set (n k : Nat) (f : Nat → Value) (z : Value) (hk : k < n) : (dnTo n k f z).setIfInBounds (n - 1 - k) (f (n - 1 - k)) = dnTo n (k + 1) f z := by
  apply Array.ext
  · simp [dnTo]
  · intro i h1 h2
    simp only [Array.size_setIfInBounds, dnTo_size] at h1
    rw [Array.getElem_setIfInBounds (by simpa [dnTo_size] using h1)]
    simp only [dnTo, List.getElem_toArray, List.getElem_map, List.getElem_range]
    by_cases he : n - 1 - k = i
    · subst he; simp [show n - (k + 1) ≤ n - 1 - k by omega]
    · by_cases hl : n - k ≤ i
      · simp [he, hl, show n - (k + 1) ≤ i by omega]
      · simp [he, hl, show ¬ n - (k + 1) ≤ i by omega]
theorem dnTo_full (n : Nat) (f : Nat → Value) (z : Value) : dnTo n n f z = ((List.range n).map f).toArray := by
  unfold dnTo; congr 1; apply List.map_congr_left; intro i hi; simp

/-- Cells that lie in a block from its beginning on. -/
def Tab (w : World) (g : Nat) (vs : List Value) : Prop := ∀ (j : Nat) v, vs[j]? = some v → w.cell? ⟨g, j, none⟩ = some v
theorem Tab.below {w w' : World} {g B : Nat} {vs : List Value} (h : Tab w g vs) (hb : Below B w w') (hg : g < B) : Tab w' g vs := fun j v hv => by
  rw [hb.cell (p := ⟨g, j, none⟩) hg]; exact h j v hv
/-- Bytes that lie in a block, from a place on. -/
def Row (w : World) (b off : Nat) (bs : List UInt8) : Prop := ∀ j (h : j < bs.length), w.cell? ⟨b, off + j, none⟩ = some (.int .u8 (n8 bs[j]))
theorem Row.below {w w' : World} {b off B : Nat} {bs : List UInt8} (h : Row w b off bs) (hb : Below B w w') (hg : b < B) : Row w' b off bs := fun j hj => by
  rw [hb.cell (p := ⟨b, off + j, none⟩) hg]; exact h j hj
theorem Row.grown {w w' : World} {b off : Nat} {bs : List UInt8} {row : Option Nat} (h : Row w b off bs) (hb : w.grownBy w' row) (hg : some b ≠ row) : Row w' b off bs := fun j hj =>
  hb.cell (h j hj) hg
theorem Row.at {w : World} {b off : Nat} {bs : List UInt8} (h : Row w b off bs) : ∀ (j : Nat) u, (bs.map v8)[j]? = some u → w.cell? ((⟨b, off, none⟩ : Addr).add j) = some u := fun j u hu => by
  have hj : j < bs.length := by
    rcases Nat.lt_or_ge j bs.length with h | h
    · exact h
    · rw [List.getElem?_eq_none (by simpa using h)] at hu; cases hu
  rw [Addr.add_mid, h j hj, ← hu]; simp [hj]
theorem Row.drop {w : World} {b off : Nat} {bs : List UInt8} (h : Row w b off bs) (k : Nat) : Row w b (off + k) (bs.drop k) := fun j hj => by
  have := h (k + j) (by simp at hj; omega)
  rw [Nat.add_assoc, this]; simp
theorem Row.take {w : World} {b off : Nat} {bs : List UInt8} (h : Row w b off bs) (k : Nat) : Row w b off (bs.take k) := fun j hj => by
  have := h j (by simp at hj; omega)
  rw [this]; simp
theorem Blk.row {w : World} {g : Nat} {t : TypeId} {bs : List UInt8} (h : Blk w g t (bs.map v8).toArray) : Row w g 0 bs := fun j hj => by
  rw [Nat.zero_add, h.cell (v := v8 bs[j]) (by simp [hj])]
theorem one8l (l : List UInt8) : ∀ u ∈ l.map v8, u.oneCell' = true := fun u hu => by
  obtain ⟨b, _, rfl⟩ := List.mem_map.1 hu; rfl

end Go.Proofs.Ytgfcindkfnjeoaa
namespace Go.Proofs.Ytgfcindkfnjeoaa
open Go.RowKit

theorem Try.info5 : (Try.prog.info? 5).map (fun i => (i.zero, i.size, i.bytes)) = some (some (.int .u8 0), 1, 1) := by kernel_rfl

/-- The value v is a slice of the call's own (its block is base or higher) that holds these bytes. -/
def Own (w : World) (base : Nat) (v : Value) (bs : List UInt8) : Prop := w.ownsRow base 5 1 v bs.length (bs.map v8)
/-- The value x is a slice that holds these bytes. -/
def Seg (w : World) (x : Value) (bs : List UInt8) : Prop := (bs = [] ∧ ∃ ao c, x = .slice ao 0 c ∧ (ao = none → c = 0)) ∨ ∃ b off c, x = .slice (some ⟨b, off, none⟩) bs.length c ∧ bs.length ≤ c ∧ Row w b off bs ∧ b < w.heap.size

theorem Own.alloc {w : World} {base : Nat} {v : Value} {bs : List UInt8} (h : Own w base v bs) (o : Obj) : Own (w.alloc o) base v bs := World.ownsRow.alloc h o
theorem Own.mono {w : World} {base base' : Nat} {v : Value} {bs : List UInt8} (h : Own w base v bs) (hb : base' ≤ base) : Own w base' v bs := by
  refine ⟨h.1, ?_⟩
  rcases h.2 with h2 | ⟨g, cap, cur, h1, h2, h3⟩
  · exact .inl h2
  · exact .inr ⟨g, cap, cur, h1, Nat.le_trans hb h2, h3⟩
theorem Own.form {w : World} {base : Nat} {v : Value} {bs : List UInt8} (h : Own w base v bs) (hn : 0 < bs.length) : ∃ g cap, v = .slice (some ⟨g, 0, none⟩) bs.length cap ∧ base ≤ g ∧ g < w.heap.size ∧ bs.length ≤ cap ∧ Row w g 0 bs := by
  obtain ⟨g, cap, hv, hb, hl⟩ := World.ownsRow.form h hn
  refine ⟨g, cap, hv, hb, hl, ?_, fun j hj => ?_⟩
  · subst hv
    rcases h.2 with ⟨h0, _⟩ | ⟨g', cap', cur, h1, _, _, h4, _⟩
    · cases h0
    · cases h1; exact h4
  · have := World.ownsRow.cells h (g := g) (by rw [hv]; rfl) j (v8 bs[j]) (by simp [hj])
    rwa [Addr.add_mid] at this
theorem Own.seg {w : World} {base : Nat} {v : Value} {bs : List UInt8} (h : Own w base v bs) : Seg w v bs := by
  rcases Nat.eq_zero_or_pos bs.length with h0 | h0
  · obtain rfl := List.eq_nil_of_length_eq_zero h0
    rcases h.2 with ⟨h1, _⟩ | ⟨g, cap, cur, h1, _⟩
    · exact .inl ⟨rfl, none, 0, h1, fun _ => rfl⟩
    · exact .inl ⟨rfl, _, cap, h1, fun h => by cases h⟩
  · obtain ⟨g, cap, hv, _, hl, hc, hr⟩ := h.form h0
    exact .inr ⟨g, 0, cap, hv, hc, hr, hl⟩
theorem Own.drew {w : World} {base : Nat} {v : Value} {bs : List UInt8} (h : Own w base v bs) : Own w.drew base v bs := h
theorem Own.below {w w' : World} {base B : Nat} {v : Value} {bs : List UInt8} (h : Own w base v bs) (hb : Below B w w') (hB : w.heap.size ≤ B) : Own w' base v bs := by
  refine ⟨h.1, ?_⟩
  rcases h.2 with h2 | ⟨g, cap, cur, h1, h2, h3, h4⟩
  · exact .inl h2
  · exact .inr ⟨g, cap, cur, h1, h2, by rw [hb.block g (Nat.lt_of_lt_of_le (Array.getElem?_eq_some_iff.1 h3).1 hB)]; exact h3, h4⟩
theorem Own.grown {w w' : World} {base : Nat} {v : Value} {bs : List UInt8} {row : Option Nat} (h : Own w base v bs) (hg : w.grownBy w' row) (hne : v.ownBlock = none ∨ v.ownBlock ≠ row) : Own w' base v bs := World.ownsRow.kept h hg hne
theorem Seg.below {w w' : World} {B : Nat} {x : Value} {bs : List UInt8} (h : Seg w x bs) (hb : Below B w w') (hB : w.heap.size ≤ B) : Seg w' x bs := by
  rcases h with h | ⟨b, off, c, h1, h2, h3, h4⟩
  · exact .inl h
  · exact .inr ⟨b, off, c, h1, h2, h3.below hb (Nat.lt_of_lt_of_le h4 hB), Nat.lt_of_lt_of_le h4 hb.size⟩
theorem Seg.alloc {w : World} {x : Value} {bs : List UInt8} (h : Seg w x bs) (o : Obj) : Seg (w.alloc o) x bs :=
  h.below ((Below.refl w.heap.size w).alloc (Nat.le_refl _) o) (Nat.le_refl _)
theorem Seg.drew {w : World} {x : Value} {bs : List UInt8} (h : Seg w x bs) : Seg w.drew x bs := h
theorem Seg.of_row {w : World} {b off c n : Nat} {bs : List UInt8} (hr : Row w b off bs) (hn : bs.length = n) (hc : n ≤ c) (hb : b < w.heap.size) : Seg w (.slice (some ⟨b, off, none⟩) n c) bs := by
  subst hn; exact .inr ⟨b, off, c, rfl, hc, hr, hb⟩

/-- append onto a slice of the call's own. -/
theorem app_own (w : World) {ops : Array Oper} {rest : List Oper} {o : Oper} {a : Act} {Q : Exit → Act → World → Prop} (hgd : o.guard = none) (s x : Operand)
    (ho : o.op = .call { callee := .builtin .append, args := #[s, x], argTypes := #[26, 26] })
    (base : Nat) (v : Value) (bs : List UInt8) (hs : a.eval s = v) (hown : Own w base v bs) (xv : Value) (nw : List UInt8) (hx : a.eval x = xv) (hseg : Seg w xv nw)
    (hlen : bs.length + nw.length ≤ 1000000000) (hbase : base ≤ w.heap.size)
    (hK : ∀ v' w', Own w' base v' (bs ++ nw) → w.grownBy w' v.ownBlock → (v'.ownBlock = v.ownBlock ∨ v'.ownBlock = some w.heap.size) → wpList Try.prog ops Q rest (a.put o.dst v') w') :
    wpList Try.prog ops Q (o :: rest) a w := by
  obtain ⟨i0, hi, hz0, hz1, hz2⟩ := info_parts Try.info5
  have key : ∀ ad c m, xv = .slice (some ad) m c → m = nw.length → (∀ j u, (nw.map v8)[j]? = some u → w.cell? (ad.add j) = some u) → wpList Try.prog ops Q (o :: rest) a w := by
    intro ad c m hxv hm hc
    subst hm
    refine wpList_append_own_at w hgd s x 26 ho base 5 i0 (.int .u8 0) 1 1 Try.underlying26 hi hz0 hz1 hz2 rfl (by decide) v bs.length (bs.map v8) hs hown ad nw.length c (nw.map v8) (hx.trans hxv) (by simp) hc (one8l nw) (by unfold maxLen; omega) (by omega) hbase ?_
    intro v' w' h1 h2 _ h4
    refine hK v' w' ?_ h2 h4
    unfold Own; rw [List.length_append, List.map_append]; exact h1
  rcases hseg with ⟨rfl, ao, c, rfl, hn⟩ | ⟨b, off, c, rfl, _, hr, _⟩
  · cases ao with
    | none =>
      obtain rfl := hn rfl
      refine wpList_append_own_none hgd s x 26 ho base 5 i0 1 Try.underlying26 hi v bs.length (bs.map v8) hs hown hx ?_
      exact hK v w (by rw [List.append_nil]; exact hown) ⟨rfl, rfl, rfl, Nat.le_refl _, fun _ _ _ => rfl⟩ (.inl rfl)
    | some ad => exact key ad c 0 rfl rfl (fun j u h => by simp at h)
  · exact key ⟨b, off, none⟩ c _ rfl rfl hr.at

/-- append onto a slice that is full. -/
theorem app_grow (w : World) {ops : Array Oper} {rest : List Oper} {o : Oper} {a : Act} {Q : Exit → Act → World → Prop} (hgd : o.guard = none) (s x : Operand)
    (ho : o.op = .call { callee := .builtin .append, args := #[s, x], argTypes := #[26, 26] })
    (b off : Nat) (bs : List UInt8) (hs : a.eval s = .slice (some ⟨b, off, none⟩) bs.length bs.length) (hr : Row w b off bs) (b' off' c : Nat) (nw : List UInt8) (hx : a.eval x = .slice (some ⟨b', off', none⟩) nw.length c) (hr' : Row w b' off' nw)
    (hm : 0 < nw.length) (hlen : bs.length + nw.length ≤ 1000000000)
    (hK : ∀ v' w', Own w' w.heap.size v' (bs ++ nw) → w.grownBy w' none → wpList Try.prog ops Q rest (a.put o.dst v') w') :
    wpList Try.prog ops Q (o :: rest) a w := by
  obtain ⟨i0, hi, hz0, hz1, hz2⟩ := info_parts Try.info5
  refine wpList_append_grows w hgd s x 26 ho 5 i0 (.int .u8 0) 1 1 Try.underlying26 hi hz0 hz1 hz2 rfl (by decide) (some ⟨b, off, none⟩) bs.length bs.length (bs.map v8) hs (fun h => by cases h) (by simp) (fun a h => by cases h; exact hr.at) ⟨b', off', none⟩ nw.length c (nw.map v8) hx (by simp) hr'.at (one8l nw) (by omega) (by unfold maxLen; omega) (by omega) ?_
  intro v' w' h1 h2
  refine hK v' w' ?_ h2
  unfold Own; rw [List.length_append, List.map_append]; exact h1

theorem Own.blocks {w : World} {base : Nat} {v : Value} {bs : List UInt8} (h : Own w base v bs) : ∀ k, v.ownBlock = some k → base ≤ k ∧ k < w.heap.size := World.ownsRow.lt h
theorem row_one (w : World) (x : UInt8) (t : TypeId) : Row (w.alloc (.cells #[v8 x] t)) w.heap.size 0 [x] := fun j hj => by
  obtain rfl : j = 0 := by simp at hj; omega
  simp

end Go.Proofs.Ytgfcindkfnjeoaa
namespace Go.Proofs.Ytgfcindkfnjeoaa
open Go.RowKit

theorem own_emptyD (w : World) (base n : Nat) (hn : n = w.heap.size) (hb : base ≤ w.heap.size) : Own (w.alloc (.cells #[] 5)) base (.slice (some ⟨n, 0, none⟩) 0 0) [] := by
  subst hn
  exact ⟨rfl, .inr ⟨w.heap.size, 0, #[], rfl, hb, heap_alloc_new w _, Nat.le_refl _, Nat.zero_le _, rfl, rfl⟩⟩
theorem seg_stringD {w : World} {v : Value} {bs : List UInt8} (h : Seg w v bs) (t : TypeId) (ht : Try.prog.underlying t = some .string) : (convert 26 t v).run Try.prog w = .ok (.string ⟨bs.toArray⟩) w := by
  rcases h with ⟨rfl, ao, c, rfl, _⟩ | ⟨b, off, c, rfl, _, hr, _⟩
  · rw [run_convert_bytes_string w 26 t 5 _ 0 c Try.underlying26 Try.underlying5 ht]
    cases ao <;> simp [Conv.bytesToString, loadCells]
    all_goals rfl
  · exact run_convert_bytes_back w 26 t 5 ⟨b, off, none⟩ c bs Try.underlying26 Try.underlying5 ht (fun j hj => by rw [Addr.add_mid]; exact hr j hj)
theorem Seg.shapeD {w : World} {v : Value} {bs : List UInt8} (h : Seg w v bs) : ∃ ao c, v = .slice ao bs.length c := by
  rcases h with ⟨rfl, ao', c', h, _⟩ | ⟨b, off, c', h, _⟩
  · exact ⟨_, _, h⟩
  · exact ⟨_, _, h⟩
theorem Seg.formD {w : World} {ao : Option Addr} {n c : Nat} {bs : List UInt8} (h : Seg w (.slice ao n c) bs) (hn : 0 < n) : ∃ b off, ao = some ⟨b, off, none⟩ ∧ n ≤ c ∧ Row w b off bs ∧ b < w.heap.size := by
  rcases h with ⟨rfl, ao', c', h, _⟩ | ⟨b, off, c', h, h2, h3, h4⟩
  · cases h; omega
  · cases h; exact ⟨b, off, rfl, h2, h3, h4⟩
theorem elem_bytesD : Try.prog.elem 26 = 5 := by kernel_rfl
theorem size_byteD (w : World) : (sizeOf 5).run Try.prog w = .ok 1 w := by kernel_rfl
theorem add_zero_addrD (ao : Option Addr) : ao.map (·.add 0) = ao := by
  cases ao with
  | none => rfl
  | some a => obtain ⟨b, o, s⟩ := a; simp [Addr.add]
theorem slice_toD (ao : Option Addr) (len c n : Nat) (h : n ≤ c) (w : World) : (Instr.slice 26 (.slice ao len c) none (some (.int .i64 (n : Int))) none).run Try.prog w = .ok (.slice ao n c) w := by
  rw [run_slice_h w 26 ao len c (by rw [elem_bytesD]; exact Try.underlying26) .i64 n (by omega) (by omega), elem_bytesD, size_byteD]
  simp only [Result.andThen_ok, sliced, Int.toNat_natCast, Nat.zero_mul, add_zero_addrD, Nat.sub_zero, ite_self]
/-- Where the rest of a slice begins. -/
def restD (ao : Option Addr) (c lo : Nat) : Option Addr := if c = lo then ao else ao.map (·.add (lo * 1))
theorem slice_restD (ao : Option Addr) (len c lo : Nat) (h : lo ≤ len) (w : World) : (Instr.slice 26 (.slice ao len c) (some (.int .i64 (lo : Int))) none none).run Try.prog w = .ok (.slice (restD ao c lo) (len - lo) (c - lo)) w := by
  rw [run_slice_l w 26 ao len c (by rw [elem_bytesD]; exact Try.underlying26) .i64 lo (by omega) (by omega), elem_bytesD, size_byteD]
  simp only [Result.andThen_ok, sliced, Int.toNat_natCast, restD]
theorem Seg.takesD {w : World} {ao : Option Addr} {len c : Nat} {bs : List UInt8} (h : Seg w (.slice ao len c) bs) (n : Nat) (hn : n ≤ len) : Seg w (.slice ao n c) (bs.take n) ∧ n ≤ c := by
  rcases h with ⟨rfl, ao', c', h, h2⟩ | ⟨b, off, c', h, h2, h3, h4⟩
  · cases h
    obtain rfl : n = 0 := by omega
    exact ⟨.inl ⟨rfl, _, _, rfl, h2⟩, Nat.zero_le _⟩
  · cases h
    exact ⟨Seg.of_row (h3.take n) (by simp; omega) (by omega) h4, by omega⟩
theorem Seg.dropsD {w : World} {ao : Option Addr} {len c : Nat} {bs : List UInt8} (h : Seg w (.slice ao len c) bs) (n : Nat) (hn : n ≤ len) : Seg w (.slice (restD ao c n) (len - n) (c - n)) (bs.drop n) := by
  rcases h with ⟨rfl, ao', c', h, h2⟩ | ⟨b, off, c', h, h2, h3, h4⟩
  · cases h
    obtain rfl : n = 0 := by omega
    refine .inl ⟨rfl, _, _, rfl, fun e => ?_⟩
    unfold restD at e
    split at e
    · omega
    · rw [Option.map_eq_none_iff] at e
      have := h2 e
      omega
  · cases h
    by_cases hc : c = n
    · have e : restD (some ⟨b, off, none⟩) c n = some ⟨b, off, none⟩ := by unfold restD; rw [if_pos hc]
      rw [e]
      have hb : bs.drop n = [] := List.drop_eq_nil_of_le (by omega)
      rw [hb]
      exact .inl ⟨rfl, _, c - n, by congr 1; omega, fun e => by cases e⟩
    · have e : restD (some ⟨b, off, none⟩) c n = some ⟨b, off + n, none⟩ := by unfold restD; rw [if_neg hc, Option.map_some, Addr.add_mid, Nat.mul_one]
      rw [e]
      exact Seg.of_row (h3.drop n) (by simp) (by omega) h4
theorem rest_block (ao : Option Addr) (c n l' c' len : Nat) (q : Nat) (h : (Value.slice (restD ao c n) l' c').ownBlock = some q) : (Value.slice ao len c).ownBlock = some q := by
  cases ao with
  | none =>
    unfold restD at h
    split at h
    · simp [Value.ownBlock] at h
    · simp [Value.ownBlock] at h
  | some a =>
    unfold restD at h
    split at h
    · simpa [Value.ownBlock] using h
    · by_cases h0 : n = 0 <;> simpa [Value.ownBlock, Addr.add, h0] using h
end Go.Proofs.Ytgfcindkfnjeoaa
