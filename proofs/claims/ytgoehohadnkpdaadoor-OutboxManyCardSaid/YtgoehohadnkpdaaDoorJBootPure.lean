/-
  What is proved here: plain facts on a device's record: whether it may be, what comes of it, its entry's bytes and what any bytes tell, what there is in two blocks of a flash, and what a Save does. plain facts on reports that wait: whether one may be, the bytes of its entry, and what Put and Ack do.
  Conditions: those that each fact names.
-/
import Derived.Test.YtgoehohadnkpdaaDoorJShaPure
import Derived.Test.YtgoehohadnkpdaaDoorJCrcSeal
import Derived.Test.YtgoehohadnkpdaaDoorJPackTakeV
import Derived.Test.YtgoehohadnkpdaaDoorJPackMost
namespace Go.Proofs.YtgoehohadnkpdaaDoor

/-- A record. -/
structure BR where
  active : Int
  trial : Int
  tries : Int
  v0 : Int
  v1 : Int
theorem BR.ext' {a b : BR} (h1 : a.active = b.active) (h2 : a.trial = b.trial) (h3 : a.tries = b.tries) (h4 : a.v0 = b.v0) (h5 : a.v1 = b.v1) : a = b := by
  cases a; cases b; simp only at h1 h2 h3 h4 h5; subst h1; subst h2; subst h3; subst h4; subst h5; rfl
def BR.zero : BR := ⟨0, -1, 0, 0, 0⟩
/-- May it be? -/
def BR.ok (b : BR) : Prop := (0 ≤ b.active ∧ b.active ≤ 1) ∧ (0 ≤ b.tries ∧ b.tries ≤ 15) ∧ (0 ≤ b.v0 ∧ b.v0 ≤ 1073741824) ∧ (0 ≤ b.v1 ∧ b.v1 ≤ 1073741824) ∧ (b.trial = -1 ∧ b.tries = 0 ∨ b.trial ≠ -1 ∧ b.trial = 1 - b.active)
instance (b : BR) : Decidable b.ok := by unfold BR.ok; infer_instance
def rightR (b : BR) : Bool := decide b.ok
/-- What comes of it when a device begins, and the slot. -/
def nextR (b : BR) (most : Int) : BR × Int := if rightR b = false ∨ b.trial = -1 then (b, b.active) else if most ≤ b.tries then (⟨b.active, -1, 0, b.v0, b.v1⟩, b.active) else (⟨b.active, b.trial, min (b.tries + 1) 15, b.v0, b.v1⟩, b.trial)

def numF (m : Nat) : Fld := .mk 1 0 m []
def bootF : List Fld := [numF 1073741824, numF 1, numF 2, numF 15, numF 1073741824, numF 1073741824]
def numV (n : Nat) : Val := .mk n [] []
def bootV (g : Nat) (b : BR) : List Val := [numV g, numV b.active.toNat, numV (b.trial + 1).toNat, numV b.tries.toNat, numV b.v0.toNat, numV b.v1.toNat]
def numsB (g : Nat) (b : BR) : List UInt8 := leN g 4 ++ (leN b.active.toNat 1 ++ (leN (b.trial + 1).toNat 1 ++ (leN b.tries.toNat 1 ++ (leN b.v0.toNat 4 ++ leN b.v1.toNat 4))))
def textB (g : Nat) (b : BR) : List UInt8 := numsB g b ++ List.replicate 14 0
def entB (g : Nat) (b : BR) : List UInt8 := textB g b ++ sumB (crcOf (textB g b))
def brOf (v : List Val) : BR := ⟨((v.getD 1 default).n : Int), ((v.getD 2 default).n : Int) - 1, ((v.getD 3 default).n : Int), ((v.getD 4 default).n : Int), ((v.getD 5 default).n : Int)⟩
def genOf (v : List Val) : Nat := (v.getD 0 default).n
/-- The entry that bytes are. -/
def decE (c : List UInt8) : Option (Nat × BR) := match openOf c with
  | none => none
  | some t => if (t.drop 15).all (· == 0) = false then none else match decTop bootF (t.take 15) with
    | .error _ => none
    | .ok v => if 1 ≤ genOf v ∧ (brOf v).ok then some (genOf v, brOf v) else none

theorem bootF_most : mostL 4 bootF = some 15 := by rfl
theorem numsB_len (g : Nat) (b : BR) : (numsB g b).length = 15 := by simp [numsB, leN_len]
theorem textB_len (g : Nat) (b : BR) : (textB g b).length = 29 := by simp [textB, numsB_len]
theorem entB_len (g : Nat) (b : BR) : (entB g b).length = 32 := by simp [entB, textB_len, sumB_len]
theorem BR.ok.trial {b : BR} (h : b.ok) : -1 ≤ b.trial ∧ b.trial ≤ 1 := by
  obtain ⟨⟨h1, h2⟩, _, _, _, h3⟩ := h
  omega
theorem oneD_num (r m n k : Nat) (s : List UInt8) (hk : wid m = k) (hn : n ≤ m) (hl : n < 256 ^ k) : oneD (decL r) (numF m) (leN n k ++ s) = some (numV n, s) := by
  have ha : amtD (numF m) (leN n k ++ s) = some (n, s) := by
    unfold amtD
    have e1 : (numF m).max - (numF m).min = m := rfl
    rw [e1, hk, List.length_append, leN_len, if_pos (by omega), List.take_left' (leN_len n k), List.drop_left' (leN_len n k), leVal_leN k n hl, if_neg (by omega)]
    show some (0 + n, s) = _
    rw [Nat.zero_add]
  unfold oneD
  rw [ha]
  rfl
theorem encOne_num (r m n k : Nat) (hk : wid m = k) (hn : n ≤ m) : encOne (encL r) (numF m) (numV n) = some (leN n k) := by
  have : encOne (encL r) (numF m) (numV n) = if n < 0 ∨ m < n then none else some (leN (n - 0) (wid (m - 0)) ++ ([] ++ [])) := rfl
  rw [this, if_neg (by omega), Nat.sub_zero, Nat.sub_zero, hk, List.append_nil, List.append_nil]
theorem boot_enc (g : Nat) (b : BR) (hg : g ≤ 1073741824) (h : b.ok) : encTop bootF (bootV g b) = some (numsB g b) := by
  have ht := h.trial
  obtain ⟨⟨a1, a2⟩, ⟨t1, t2⟩, ⟨v1, v2⟩, ⟨u1, u2⟩, _⟩ := h
  unfold encTop
  rw [bootF_most, if_pos (show (some 15).isSome = true from rfl)]
  show (if bootF.length = (bootV g b).length then catO (List.zipWith (encOne (encL 3)) bootF (bootV g b)) else none) = _
  rw [if_pos (show bootF.length = (bootV g b).length from rfl)]
  simp only [bootF, bootV, List.zipWith]
  rw [encOne_num 3 1073741824 g 4 rfl hg, encOne_num 3 1 _ 1 rfl (by omega), encOne_num 3 2 _ 1 rfl (by omega), encOne_num 3 15 _ 1 rfl (by omega), encOne_num 3 1073741824 _ 4 rfl (by omega), encOne_num 3 1073741824 b.v1.toNat 4 rfl (by omega)]
  simp [catO, numsB]
theorem boot_dec (g : Nat) (b : BR) (hg : g ≤ 1073741824) (h : b.ok) : decTop bootF (numsB g b) = .ok (bootV g b) := by
  have ht := h.trial
  obtain ⟨⟨a1, a2⟩, ⟨t1, t2⟩, ⟨v1, v2⟩, ⟨u1, u2⟩, _⟩ := h
  have hd : decL 4 bootF (numsB g b) = some (bootV g b, []) := by
    show seqD (oneD (decL 3)) bootF (numsB g b) = _
    have e : leN b.v1.toNat 4 = leN b.v1.toNat 4 ++ [] := (List.append_nil _).symm
    unfold numsB bootF bootV
    rw [e]
    simp only [seqD]
    rw [oneD_num 3 1073741824 g 4 _ rfl hg (by omega)]
    simp only [Option.bind_some]
    rw [oneD_num 3 1 _ 1 _ rfl (by omega) (by omega)]
    simp only [Option.bind_some]
    rw [oneD_num 3 2 _ 1 _ rfl (by omega) (by omega)]
    simp only [Option.bind_some]
    rw [oneD_num 3 15 _ 1 _ rfl (by omega) (by omega)]
    simp only [Option.bind_some]
    rw [oneD_num 3 1073741824 _ 4 _ rfl (by omega) (by omega)]
    simp only [Option.bind_some]
    rw [oneD_num 3 1073741824 _ 4 _ rfl (by omega) (by omega)]
    rfl
  unfold decTop
  rw [bootF_most, if_pos (show (some 15).isSome = true from rfl), hd]
theorem openOf_seal (t : List UInt8) : openOf (t ++ sumB (crcOf t)) = some t := by
  have hl : (t ++ sumB (crcOf t)).length = t.length + 3 := by rw [List.length_append, sumB_len]
  have ht : (t ++ sumB (crcOf t)).take ((t ++ sumB (crcOf t)).length - 3) = t := by rw [hl, Nat.add_sub_cancel, List.take_left' rfl]
  rw [openOf_yes _ (by omega) (by rw [ht, hl, Nat.add_sub_cancel, List.drop_left' rfl]), ht]
/-- What was put is told. -/
theorem decE_ent (g : Nat) (b : BR) (hg : 1 ≤ g) (hg2 : g ≤ 1073741824) (h : b.ok) : decE (entB g b) = some (g, b) := by
  unfold decE entB
  rw [openOf_seal]
  dsimp only
  have h1 : (textB g b).drop 15 = List.replicate 14 0 := List.drop_left' (numsB_len g b)
  have h2 : (textB g b).take 15 = numsB g b := List.take_left' (numsB_len g b)
  rw [h1, h2, boot_dec g b hg2 h]
  have ht := h.trial
  have hb : brOf (bootV g b) = b := by
    obtain ⟨⟨a1, a2⟩, ⟨t1, t2⟩, ⟨v1, v2⟩, ⟨u1, u2⟩, _⟩ := h
    refine BR.ext' ?_ ?_ ?_ ?_ ?_
    · show ((b.active.toNat : Nat) : Int) = _; omega
    · show (((b.trial + 1).toNat : Nat) : Int) - 1 = _; omega
    · show ((b.tries.toNat : Nat) : Int) = _; omega
    · show ((b.v0.toNat : Nat) : Int) = _; omega
    · show ((b.v1.toNat : Nat) : Int) = _; omega
  have hgn : genOf (bootV g b) = g := rfl
  rw [if_neg (by decide)]
  dsimp only
  rw [hb, hgn, if_pos ⟨hg, h⟩]
/-- Where nothing was put there is none. -/
theorem decE_ones : decE (List.replicate 32 255) = none := by
  unfold decE
  have : openOf (List.replicate 32 255) = none := openOf_no _ (by decide) (by decide +kernel)
  rw [this]

/-- A keeper: the last entry's generation, record, block and place, whether it is broken. -/
structure KS where
  gen : Nat
  r : BR
  wh : Nat
  la : Int
  br : Bool
def KS.first : KS := ⟨0, BR.zero, 0, -1, false⟩
/-- The bytes of a place. -/
def cellB (b : List UInt8) (i : Nat) : List UInt8 := (b.drop (32 * i)).take 32
/-- One more place is looked at. -/
def seeK (w : Nat) (b : List UInt8) (k : KS) (i : Nat) : KS := match decE (cellB b i) with
  | none => k
  | some p => if k.gen < p.1 then ⟨p.1, p.2, w, i, k.br⟩ else k
def seeB (w : Nat) (b : List UInt8) (k : KS) : KS := (List.range 32).foldl (seeK w b) k
def blkB (s : FS) (j : Nat) : List UInt8 := (s.b.drop (1024 * j)).take 1024
/-- What there is. -/
def findK (s : FS) (j : Nat) : KS := seeB 1 (blkB s (j + 1)) (seeB 0 (blkB s j) KS.first)
/-- The first free place behind one. -/
def roomI (b : List UInt8) (la : Int) : Option Nat := (List.range 32).find? fun i => decide (la < (i : Int)) && (cellB b i).all (· == 255)
def KS.put (k : KS) (r : BR) (wh : Nat) (i : Nat) : KS := ⟨k.gen + 1, r, wh, i, false⟩
def KS.broke (k : KS) : KS := ⟨k.gen, k.r, k.wh, k.la, true⟩
def progK (k : KS) (j : Nat) (s : FS) (r : BR) (wh i : Nat) : Int × KS × FS := if (programF s ((1024 * (j + wh) + 32 * i : Nat) : Int) (entB (k.gen + 1) r)).1 = 0 then (0, k.put r wh i, (programF s ((1024 * (j + wh) + 32 * i : Nat) : Int) (entB (k.gen + 1) r)).2) else ((programF s ((1024 * (j + wh) + 32 * i : Nat) : Int) (entB (k.gen + 1) r)).1, k.broke, (programF s ((1024 * (j + wh) + 32 * i : Nat) : Int) (entB (k.gen + 1) r)).2)
def putK (k : KS) (j : Nat) (s : FS) (r : BR) : Int × KS × FS := if s.down then (7, k.broke, s) else match roomI (blkB s (j + k.wh)) k.la with
  | some i => progK k j s r k.wh i
  | none => if (eraseF s ((j + (1 - k.wh) : Nat) : Int)).1 = 0 then progK k j (eraseF s ((j + (1 - k.wh) : Nat) : Int)).2 r (1 - k.wh) 0 else ((eraseF s ((j + (1 - k.wh) : Nat) : Int)).1, k.broke, (eraseF s ((j + (1 - k.wh) : Nat) : Int)).2)
def saveK (k : KS) (j : Nat) (s : FS) (r : BR) : Int × KS × FS := if k.br then (10, k, s) else if rightR r = false then (1, k, s) else if k.gen = 1073741824 then (3, k, s) else putK k j s r
end Go.Proofs.YtgoehohadnkpdaaDoor
namespace Go.Proofs.YtgoehohadnkpdaaDoor

/-- A report. -/
structure RP where
  c : Int
  l : Int
  v : Int
  o : Int
theorem RP.ext' {a b : RP} (h1 : a.c = b.c) (h2 : a.l = b.l) (h3 : a.v = b.v) (h4 : a.o = b.o) : a = b := by
  cases a; cases b; simp only at h1 h2 h3 h4; subst h1; subst h2; subst h3; subst h4; rfl
def RP.ok (b : RP) : Prop := (1 ≤ b.c ∧ b.c ≤ 1073741824) ∧ (1 ≤ b.l ∧ b.l ≤ 1073741824) ∧ (1 ≤ b.v ∧ b.v ≤ 1073741824) ∧ (1 ≤ b.o ∧ b.o ≤ 3)
instance (b : RP) : Decidable b.ok := by unfold RP.ok; infer_instance
def rightO (b : RP) : Bool := decide b.ok
def outM : List Nat := [1073741824, 1073741824, 1073741824, 1073741824, 3]
def outF : List Fld := [numF 1073741824, numF 1073741824, numF 1073741824, numF 1073741824, numF 3]
def outV (g : Nat) (b : RP) : List Val := [numV g, numV b.c.toNat, numV b.l.toNat, numV b.v.toNat, numV b.o.toNat]
def natsO (g : Nat) (b : RP) : List Nat := [g, b.c.toNat, b.l.toNat, b.v.toNat, b.o.toNat]
def numsO (g : Nat) (b : RP) : List UInt8 := leN g 4 ++ (leN b.c.toNat 4 ++ (leN b.l.toNat 4 ++ (leN b.v.toNat 4 ++ leN b.o.toNat 1)))
def textO (g : Nat) (b : RP) : List UInt8 := numsO g b ++ List.replicate 11 0
def entO (g : Nat) (b : RP) : List UInt8 := textO g b ++ sumB (crcOf (textO g b))
theorem outF_most : mostL 4 outF = some 17 := by rfl
theorem numsO_len (g : Nat) (b : RP) : (numsO g b).length = 17 := by simp [numsO, leN_len]
theorem textO_len (g : Nat) (b : RP) : (textO g b).length = 28 := by simp [textO, numsO_len]
theorem entO_len (g : Nat) (b : RP) : (entO g b).length = 31 := by simp [entO, textO_len, sumB_len]
theorem out_enc (g : Nat) (b : RP) (hg : g ≤ 1073741824) (h : b.ok) : encTop outF (outV g b) = some (numsO g b) := by
  obtain ⟨⟨a1, a2⟩, ⟨t1, t2⟩, ⟨v1, v2⟩, u1, u2⟩ := h
  unfold encTop
  rw [outF_most, if_pos (show (some 17).isSome = true from rfl)]
  show (if outF.length = (outV g b).length then catO (List.zipWith (encOne (encL 3)) outF (outV g b)) else none) = _
  rw [if_pos (show outF.length = (outV g b).length from rfl)]
  simp only [outF, outV, List.zipWith]
  rw [encOne_num 3 1073741824 g 4 rfl hg, encOne_num 3 1073741824 b.c.toNat 4 rfl (by omega), encOne_num 3 1073741824 b.l.toNat 4 rfl (by omega), encOne_num 3 1073741824 b.v.toNat 4 rfl (by omega), encOne_num 3 3 b.o.toNat 1 rfl (by omega)]
  simp [catO, numsO]
theorem open_ones31 : openOf (List.replicate 31 255) = none := openOf_no _ (by decide) (by decide +kernel)

/-- An entry: its number, its report, its block and place. -/
structure XE where
  seq : Nat
  r : RP
  wh : Nat
  la : Int
def XE.first : XE := ⟨0, ⟨0, 0, 0, 0⟩, 0, -1⟩
/-- A box: what waits, the last entry, whether it is broken. -/
structure XS where
  wt : List XE
  last : XE
  br : Bool
def XS.first : XS := ⟨[], XE.first, false⟩
/-- Where an entry is put, with the power on. -/
def roomX (x : XS) (j : Nat) (s : FS) : (Nat × Nat) × Int × XS × FS := match roomI (blkB s (j + x.last.wh)) x.last.la with
  | some i => ((x.last.wh, i), 0, x, s)
  | none => if x.wt.any (fun e => e.wh == 1 - x.last.wh) then ((0, 0), 3, x, s) else ((1 - x.last.wh, 0), (eraseF s ((j + (1 - x.last.wh) : Nat) : Int)).1, { x with br := (eraseF s ((j + (1 - x.last.wh) : Nat) : Int)).1 != 0 }, (eraseF s ((j + (1 - x.last.wh) : Nat) : Int)).2)
def progX (x : XS) (j : Nat) (s : FS) (r : RP) (wh i : Nat) : Nat × Int × XS × FS := if (programF s ((1024 * (j + wh) + 32 * i : Nat) : Int) (entO (x.last.seq + 1) r)).1 = 0 then (x.last.seq + 1, 0, ⟨x.wt ++ [⟨x.last.seq + 1, r, wh, (i : Int)⟩], ⟨x.last.seq + 1, r, wh, (i : Int)⟩, false⟩, (programF s ((1024 * (j + wh) + 32 * i : Nat) : Int) (entO (x.last.seq + 1) r)).2) else (0, (programF s ((1024 * (j + wh) + 32 * i : Nat) : Int) (entO (x.last.seq + 1) r)).1, { x with br := true }, (programF s ((1024 * (j + wh) + 32 * i : Nat) : Int) (entO (x.last.seq + 1) r)).2)
def putX (x : XS) (j : Nat) (s : FS) (r : RP) : Nat × Int × XS × FS := if x.br then (0, 10, x, s) else if rightO r = false then (0, 1, x, s) else if x.last.seq = 1073741824 then (0, 3, x, s) else if (roomX x j s).2.1 = 0 then progX (roomX x j s).2.2.1 j (roomX x j s).2.2.2 r (roomX x j s).1.1 (roomX x j s).1.2 else (0, (roomX x j s).2.1, (roomX x j s).2.2.1, (roomX x j s).2.2.2)
/-- The first that waits of a number. -/
def idxX (l : List XE) (n : Int) : Option Nat := l.findIdx? (fun e => ((e.seq : Nat) : Int) == n)
def startX (j : Nat) (e : XE) : Int := ((j : Int) + (e.wh : Int)) * 1024 + e.la * 32
def ackX (x : XS) (j : Nat) (s : FS) (n : Int) : Int × XS × FS := if x.br then (10, x, s) else match idxX x.wt n with
  | none => (4, x, s)
  | some i => if (programF s (startX j (x.wt.getD i XE.first) + 31) [0]).1 = 0 then (0, ⟨x.wt.eraseIdx i, x.last, false⟩, (programF s (startX j (x.wt.getD i XE.first) + 31) [0]).2) else ((programF s (startX j (x.wt.getD i XE.first) + 31) [0]).1, { x with br := true }, (programF s (startX j (x.wt.getD i XE.first) + 31) [0]).2)
end Go.Proofs.YtgoehohadnkpdaaDoor
