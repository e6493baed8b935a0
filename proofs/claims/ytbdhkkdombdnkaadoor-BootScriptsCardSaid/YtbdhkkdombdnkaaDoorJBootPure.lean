/-
  What is proved here: plain facts on a device's record: whether it may be, what comes of it, its entry's bytes and what any bytes tell, what there is in two blocks of a flash, and what a Save does. the bytes of a place tell an entry when they are, byte for byte, the entry of the numbers that lie in them.
  Conditions: those that each fact names.
-/
import Derived.Test.YtbdhkkdombdnkaaDoorJSegKit
import Derived.Test.YtbdhkkdombdnkaaDoorJCrcSeal
import Derived.Test.YtbdhkkdombdnkaaDoorJPackTakeV
import Derived.Test.YtbdhkkdombdnkaaDoorJPackMost
namespace Go.Proofs.YtbdhkkdombdnkaaDoor

/-- A record. -/
structure BR where
  active : Int
  trial : Int
  tries : Int
  v0 : Int
  v1 : Int
theorem BR.ext' {a b : BR} (h1 : a.active = b.active) (h2 : a.trial = b.trial) (h3 : a.tries = b.tries) (h4 : a.v0 = b.v0) (h5 : a.v1 = b.v1) : a = b := by
  cases a; cases b; simp only at h1 h2 h3 h4 h5; subst h1; subst h2; subst h3; subst h4; subst h5; rfl
def BR.zero : BR := ⟨0, -1, 0, 0, 0⟩
/-- May it be? -/
def BR.ok (b : BR) : Prop := (0 ≤ b.active ∧ b.active ≤ 1) ∧ (0 ≤ b.tries ∧ b.tries ≤ 15) ∧ (0 ≤ b.v0 ∧ b.v0 ≤ 1073741824) ∧ (0 ≤ b.v1 ∧ b.v1 ≤ 1073741824) ∧ (b.trial = -1 ∧ b.tries = 0 ∨ b.trial ≠ -1 ∧ b.trial = 1 - b.active)
instance (b : BR) : Decidable b.ok := by unfold BR.ok; infer_instance
def rightR (b : BR) : Bool := decide b.ok
/-- What comes of it when a device begins, and the slot. -/
def nextR (b : BR) (most : Int) : BR × Int := if rightR b = false ∨ b.trial = -1 then (b, b.active) else if most ≤ b.tries then (⟨b.active, -1, 0, b.v0, b.v1⟩, b.active) else (⟨b.active, b.trial, min (b.tries + 1) 15, b.v0, b.v1⟩, b.trial)

def numF (m : Nat) : Fld := .mk 1 0 m []
def bootF : List Fld := [numF 1073741824, numF 1, numF 2, numF 15, numF 1073741824, numF 1073741824]
def numV (n : Nat) : Val := .mk n [] []
def bootV (g : Nat) (b : BR) : List Val := [numV g, numV b.active.toNat, numV (b.trial + 1).toNat, numV b.tries.toNat, numV b.v0.toNat, numV b.v1.toNat]
def numsB (g : Nat) (b : BR) : List UInt8 := leN g 4 ++ (leN b.active.toNat 1 ++ (leN (b.trial + 1).toNat 1 ++ (leN b.tries.toNat 1 ++ (leN b.v0.toNat 4 ++ leN b.v1.toNat 4))))
def textB (g : Nat) (b : BR) : List UInt8 := numsB g b ++ List.replicate 14 0
def entB (g : Nat) (b : BR) : List UInt8 := textB g b ++ sumB (crcOf (textB g b))
def brOf (v : List Val) : BR := ⟨((v.getD 1 default).n : Int), ((v.getD 2 default).n : Int) - 1, ((v.getD 3 default).n : Int), ((v.getD 4 default).n : Int), ((v.getD 5 default).n : Int)⟩
def genOf (v : List Val) : Nat := (v.getD 0 default).n
/-- The entry that bytes are. -/
def decE (c : List UInt8) : Option (Nat × BR) := match openOf c with
  | none => none
  | some t => if (t.drop 15).all (· == 0) = false then none else match decTop bootF (t.take 15) with
    | .error _ => none
    | .ok v => if 1 ≤ genOf v ∧ (brOf v).ok then some (genOf v, brOf v) else none

theorem bootF_most : mostL 4 bootF = some 15 := by rfl
theorem numsB_len (g : Nat) (b : BR) : (numsB g b).length = 15 := by simp [numsB, leN_len]
theorem textB_len (g : Nat) (b : BR) : (textB g b).length = 29 := by simp [textB, numsB_len]
theorem entB_len (g : Nat) (b : BR) : (entB g b).length = 32 := by simp [entB, textB_len, sumB_len]
theorem BR.ok.trial {b : BR} (h : b.ok) : -1 ≤ b.trial ∧ b.trial ≤ 1 := by
  obtain ⟨⟨h1, h2⟩, _, _, _, h3⟩ := h
  omega
theorem oneD_num (r m n k : Nat) (s : List UInt8) (hk : wid m = k) (hn : n ≤ m) (hl : n < 256 ^ k) : oneD (decL r) (numF m) (leN n k ++ s) = some (numV n, s) := by
  have ha : amtD (numF m) (leN n k ++ s) = some (n, s) := by
    unfold amtD
    have e1 : (numF m).max - (numF m).min = m := rfl
    rw [e1, hk, List.length_append, leN_len, if_pos (by omega), List.take_left' (leN_len n k), List.drop_left' (leN_len n k), leVal_leN k n hl, if_neg (by omega)]
    show some (0 + n, s) = _
    rw [Nat.zero_add]
  unfold oneD
  rw [ha]
  rfl
theorem encOne_num (r m n k : Nat) (hk : wid m = k) (hn : n ≤ m) : encOne (encL r) (numF m) (numV n) = some (leN n k) := by
  have : encOne (encL r) (numF m) (numV n) = if n < 0 ∨ m < n then none else some (leN (n - 0) (wid (m - 0)) ++ ([] ++ [])) := rfl
  rw [this, if_neg (by omega), Nat.sub_zero, Nat.sub_zero, hk, List.append_nil, List.append_nil]
theorem boot_enc (g : Nat) (b : BR) (hg : g ≤ 1073741824) (h : b.ok) : encTop bootF (bootV g b) = some (numsB g b) := by
  have ht := h.trial
  obtain ⟨⟨a1, a2⟩, ⟨t1, t2⟩, ⟨v1, v2⟩, ⟨u1, u2⟩, _⟩ := h
  unfold encTop
  rw [bootF_most, if_pos (show (some 15).isSome = true from rfl)]
  show (if bootF.length = (bootV g b).length then catO (List.zipWith (encOne (encL 3)) bootF (bootV g b)) else none) = _
  rw [if_pos (show bootF.length = (bootV g b).length from rfl)]
  simp only [bootF, bootV, List.zipWith]
  rw [encOne_num 3 1073741824 g 4 rfl hg, encOne_num 3 1 _ 1 rfl (by omega), encOne_num 3 2 _ 1 rfl (by omega), encOne_num 3 15 _ 1 rfl (by omega), encOne_num 3 1073741824 _ 4 rfl (by omega), encOne_num 3 1073741824 b.v1.toNat 4 rfl (by omega)]
  simp [catO, numsB]
theorem boot_dec (g : Nat) (b : BR) (hg : g ≤ 1073741824) (h : b.ok) : decTop bootF (numsB g b) = .ok (bootV g b) := by
  have ht := h.trial
  obtain ⟨⟨a1, a2⟩, ⟨t1, t2⟩, ⟨v1, v2⟩, ⟨u1, u2⟩, _⟩ := h
  have hd : decL 4 bootF (numsB g b) = some (bootV g b, []) := by
    show seqD (oneD (decL 3)) bootF (numsB g b) = _
    have e : leN b.v1.toNat 4 = leN b.v1.toNat 4 ++ [] := (List.append_nil _).symm
    unfold numsB bootF bootV
    rw [e]
    simp only [seqD]
    rw [oneD_num 3 1073741824 g 4 _ rfl hg (by omega)]
    simp only [Option.bind_some]
    rw [oneD_num 3 1 _ 1 _ rfl (by omega) (by omega)]
    simp only [Option.bind_some]
    rw [oneD_num 3 2 _ 1 _ rfl (by omega) (by omega)]
    simp only [Option.bind_some]
    rw [oneD_num 3 15 _ 1 _ rfl (by omega) (by omega)]
    simp only [Option.bind_some]
    rw [oneD_num 3 1073741824 _ 4 _ rfl (by omega) (by omega)]
    simp only [Option.bind_some]
    rw [oneD_num 3 1073741824 _ 4 _ rfl (by omega) (by omega)]
    rfl
  unfold decTop
  rw [bootF_most, if_pos (show (some 15).isSome = true from rfl), hd]
theorem openOf_seal (t : List UInt8) : openOf (t ++ sumB (crcOf t)) = some t := by
  have hl : (t ++ sumB (crcOf t)).length = t.length + 3 := by rw [List.length_append, sumB_len]
  have ht : (t ++ sumB (crcOf t)).take ((t ++ sumB (crcOf t)).length - 3) = t := by rw [hl, Nat.add_sub_cancel, List.take_left' rfl]
  rw [openOf_yes _ (by omega) (by rw [ht, hl, Nat.add_sub_cancel, List.drop_left' rfl]), ht]
/-- What was put is told. -/
theorem decE_ent (g : Nat) (b : BR) (hg : 1 ≤ g) (hg2 : g ≤ 1073741824) (h : b.ok) : decE (entB g b) = some (g, b) := by
  unfold decE entB
  rw [openOf_seal]
  dsimp only
  have h1 : (textB g b).drop 15 = List.replicate 14 0 := List.drop_left' (numsB_len g b)
  have h2 : (textB g b).take 15 = numsB g b := List.take_left' (numsB_len g b)
  rw [h1, h2, boot_dec g b hg2 h]
  have ht := h.trial
  have hb : brOf (bootV g b) = b := by
    obtain ⟨⟨a1, a2⟩, ⟨t1, t2⟩, ⟨v1, v2⟩, ⟨u1, u2⟩, _⟩ := h
    refine BR.ext' ?_ ?_ ?_ ?_ ?_
    · show ((b.active.toNat : Nat) : Int) = _; omega
    · show (((b.trial + 1).toNat : Nat) : Int) - 1 = _; omega
    · show ((b.tries.toNat : Nat) : Int) = _; omega
    · show ((b.v0.toNat : Nat) : Int) = _; omega
    · show ((b.v1.toNat : Nat) : Int) = _; omega
  have hgn : genOf (bootV g b) = g := rfl
  rw [if_neg (by decide)]
  dsimp only
  rw [hb, hgn, if_pos ⟨hg, h⟩]
/-- Where nothing was put there is none. -/
theorem decE_ones : decE (List.replicate 32 255) = none := by
  unfold decE
  have : openOf (List.replicate 32 255) = none := openOf_no _ (by decide) (by decide +kernel)
  rw [this]

/-- A keeper: the last entry's generation, record, block and place, whether it is broken. -/
structure KS where
  gen : Nat
  r : BR
  wh : Nat
  la : Int
  br : Bool
def KS.first : KS := ⟨0, BR.zero, 0, -1, false⟩
/-- The bytes of a place. -/
def cellB (b : List UInt8) (i : Nat) : List UInt8 := (b.drop (32 * i)).take 32
/-- One more place is looked at. -/
def seeK (w : Nat) (b : List UInt8) (k : KS) (i : Nat) : KS := match decE (cellB b i) with
  | none => k
  | some p => if k.gen < p.1 then ⟨p.1, p.2, w, i, k.br⟩ else k
def seeB (w : Nat) (b : List UInt8) (k : KS) : KS := (List.range 32).foldl (seeK w b) k
def blkB (s : FS) (j : Nat) : List UInt8 := (s.b.drop (1024 * j)).take 1024
/-- What there is. -/
def findK (s : FS) (j : Nat) : KS := seeB 1 (blkB s (j + 1)) (seeB 0 (blkB s j) KS.first)
/-- The first free place behind one. -/
def roomI (b : List UInt8) (la : Int) : Option Nat := (List.range 32).find? fun i => decide (la < (i : Int)) && (cellB b i).all (· == 255)
def KS.put (k : KS) (r : BR) (wh : Nat) (i : Nat) : KS := ⟨k.gen + 1, r, wh, i, false⟩
def KS.broke (k : KS) : KS := ⟨k.gen, k.r, k.wh, k.la, true⟩
def progK (k : KS) (j : Nat) (s : FS) (r : BR) (wh i : Nat) : Int × KS × FS := if (programF s ((1024 * (j + wh) + 32 * i : Nat) : Int) (entB (k.gen + 1) r)).1 = 0 then (0, k.put r wh i, (programF s ((1024 * (j + wh) + 32 * i : Nat) : Int) (entB (k.gen + 1) r)).2) else ((programF s ((1024 * (j + wh) + 32 * i : Nat) : Int) (entB (k.gen + 1) r)).1, k.broke, (programF s ((1024 * (j + wh) + 32 * i : Nat) : Int) (entB (k.gen + 1) r)).2)
def putK (k : KS) (j : Nat) (s : FS) (r : BR) : Int × KS × FS := if s.down then (7, k.broke, s) else match roomI (blkB s (j + k.wh)) k.la with
  | some i => progK k j s r k.wh i
  | none => if (eraseF s ((j + (1 - k.wh) : Nat) : Int)).1 = 0 then progK k j (eraseF s ((j + (1 - k.wh) : Nat) : Int)).2 r (1 - k.wh) 0 else ((eraseF s ((j + (1 - k.wh) : Nat) : Int)).1, k.broke, (eraseF s ((j + (1 - k.wh) : Nat) : Int)).2)
def saveK (k : KS) (j : Nat) (s : FS) (r : BR) : Int × KS × FS := if k.br then (10, k, s) else if rightR r = false then (1, k, s) else if k.gen = 1073741824 then (3, k, s) else putK k j s r
end Go.Proofs.YtbdhkkdombdnkaaDoor
namespace Go.Proofs.YtbdhkkdombdnkaaDoor

theorem oneD_back {r m : Nat} {s t : List UInt8} {x : Val} (h : oneD (decL r) (numF m) s = some (x, t)) : ∃ n, x = numV n ∧ n ≤ m ∧ s = leN n (wid m) ++ t := by
  unfold oneD at h
  obtain ⟨p, h1, h2⟩ := Option.bind_eq_some_iff.1 h
  rw [if_pos (show (numF m).kind = 1 from rfl)] at h2
  obtain ⟨n, u⟩ := p
  obtain ⟨_, h4, h5⟩ := amtD_enc h1 (Nat.zero_le _)
  cases h2
  exact ⟨n, rfl, h4, h5⟩
theorem seqD_back {r m : Nat} {l : List Fld} {s t : List UInt8} {v : List Val} (h : seqD (oneD (decL r)) (numF m :: l) s = some (v, t)) : ∃ n u v', v = numV n :: v' ∧ n ≤ m ∧ s = leN n (wid m) ++ u ∧ seqD (oneD (decL r)) l u = some (v', t) := by
  unfold seqD at h
  obtain ⟨p, h1, h2⟩ := Option.bind_eq_some_iff.1 h
  obtain ⟨q, h3, h4⟩ := Option.map_eq_some_iff.1 h2
  obtain ⟨x, u⟩ := p
  obtain ⟨v', t'⟩ := q
  obtain ⟨n, rfl, h5, h6⟩ := oneD_back h1
  cases h4
  exact ⟨n, u, v', rfl, h5, h6, h3⟩
/-- What is told was put. -/
theorem decE_back {c : List UInt8} {g : Nat} {b : BR} (hc : c.length = 32) (h : decE c = some (g, b)) : 1 ≤ g ∧ g ≤ 1073741824 ∧ b.ok ∧ c = entB g b := by
  unfold decE at h
  cases ho : openOf c with
  | none => rw [ho] at h; cases h
  | some t =>
    rw [ho] at h
    simp only at h
    have ht : c = t ++ sumB (crcOf t) ∧ t.length = 29 := by
      unfold openOf at ho
      rw [if_neg (by omega)] at ho
      split at ho
      · rename_i h2
        cases ho
        exact ⟨h2.symm, by rw [List.length_take]; omega⟩
      · cases ho
    cases hz : (t.drop 15).all (· == 0) with
    | false => rw [hz, if_pos rfl] at h; cases h
    | true =>
      rw [hz, if_neg (by decide)] at h
      have hr : t.drop 15 = List.replicate 14 0 := by
        refine List.eq_replicate_iff.2 ⟨by rw [List.length_drop]; omega, fun x hx => ?_⟩
        have := List.all_eq_true.1 hz x hx
        simpa using this
      cases hd : decTop bootF (t.take 15) with
      | error e => rw [hd] at h; cases h
      | ok v =>
        rw [hd] at h
        simp only at h
        split at h
        case isFalse => cases h
        rename_i hok
        cases h
        unfold decTop at hd
        rw [bootF_most, if_pos (show (some 15).isSome = true from rfl)] at hd
        have hd2 : decL 4 bootF (t.take 15) = some (v, []) := by
          split at hd
          · rename_i v' he; cases hd; exact he
          · cases hd
        change seqD (oneD (decL 3)) bootF (t.take 15) = some (v, []) at hd2
        unfold bootF at hd2
        obtain ⟨n0, u0, v0, rfl, l0, e0, hd2⟩ := seqD_back hd2
        obtain ⟨n1, u1, v1, rfl, l1, e1, hd2⟩ := seqD_back hd2
        obtain ⟨n2, u2, v2, rfl, l2, e2, hd2⟩ := seqD_back hd2
        obtain ⟨n3, u3, v3, rfl, l3, e3, hd2⟩ := seqD_back hd2
        obtain ⟨n4, u4, v4, rfl, l4, e4, hd2⟩ := seqD_back hd2
        obtain ⟨n5, u5, v5, rfl, l5, e5, hd2⟩ := seqD_back hd2
        unfold seqD at hd2
        cases hd2
        have hb : brOf [numV n0, numV n1, numV n2, numV n3, numV n4, numV n5] = ⟨n1, (n2 : Int) - 1, n3, n4, n5⟩ := rfl
        have hg : genOf [numV n0, numV n1, numV n2, numV n3, numV n4, numV n5] = n0 := rfl
        rw [hb, hg] at hok ⊢
        refine ⟨hok.1, l0, hok.2, ?_⟩
        have hnum : t.take 15 = numsB n0 ⟨n1, (n2 : Int) - 1, n3, n4, n5⟩ := by
          have a1 : ((n1 : Nat) : Int).toNat = n1 := Int.toNat_natCast n1
          have a2 : ((n2 : Int) - 1 + 1).toNat = n2 := by omega
          have a3 : ((n3 : Nat) : Int).toNat = n3 := Int.toNat_natCast n3
          have a4 : ((n4 : Nat) : Int).toNat = n4 := Int.toNat_natCast n4
          have a5 : ((n5 : Nat) : Int).toNat = n5 := Int.toNat_natCast n5
          unfold numsB
          simp only
          rw [a1, a2, a3, a4, a5, e0, e1, e2, e3, e4, e5, List.append_nil]
          rfl
        have htt : t = textB n0 ⟨n1, (n2 : Int) - 1, n3, n4, n5⟩ := by
          unfold textB
          rw [← hnum, ← hr, List.take_append_drop]
        unfold entB
        rw [← htt]
        exact ht.1
/-- The numbers that lie in bytes. -/
def gen9 (c : List UInt8) : Nat := leVal (c.take 4)
def rec9 (c : List UInt8) : BR := ⟨((c.getD 4 0).toNat : Int), ((c.getD 5 0).toNat : Int) - 1, ((c.getD 6 0).toNat : Int), (leVal ((c.drop 7).take 4) : Int), (leVal ((c.drop 11).take 4) : Int)⟩
theorem ent_gen9 (g : Nat) (b : BR) (hg : g ≤ 1073741824) : gen9 (entB g b) = g := by
  unfold gen9 entB textB numsB
  simp only [List.append_assoc]
  rw [List.take_left' (leN_len g 4), leVal_leN 4 g (by omega)]
theorem ent_rec9 (g : Nat) (b : BR) (h : b.ok) : rec9 (entB g b) = b := by
  have ht := h.trial
  obtain ⟨⟨a1, a2⟩, ⟨t1, t2⟩, ⟨v1, v2⟩, ⟨u1, u2⟩, _⟩ := h
  have s0 : entB g b = leN g 4 ++ ([UInt8.ofNat b.active.toNat, UInt8.ofNat (b.trial + 1).toNat, UInt8.ofNat b.tries.toNat] ++ (leN b.v0.toNat 4 ++ (leN b.v1.toNat 4 ++ (List.replicate 14 0 ++ sumB (crcOf (textB g b)))))) := by
    have o : ∀ n, n < 256 → leN n 1 = [UInt8.ofNat n] := fun n hn => by simp [leN, Nat.mod_eq_of_lt hn]
    unfold entB
    have : textB g b = leN g 4 ++ ([UInt8.ofNat b.active.toNat, UInt8.ofNat (b.trial + 1).toNat, UInt8.ofNat b.tries.toNat] ++ (leN b.v0.toNat 4 ++ (leN b.v1.toNat 4 ++ List.replicate 14 0))) := by
      unfold textB numsB
      rw [o _ (by omega), o _ (by omega), o _ (by omega)]
      simp
    rw [this]
    simp only [List.append_assoc]
  have l4 := leN_len g 4
  have d4 : ∀ i, (entB g b).getD (4 + i) 0 = ([UInt8.ofNat b.active.toNat, UInt8.ofNat (b.trial + 1).toNat, UInt8.ofNat b.tries.toNat] ++ (leN b.v0.toNat 4 ++ (leN b.v1.toNat 4 ++ (List.replicate 14 0 ++ sumB (crcOf (textB g b)))))).getD i 0 := fun i => by
    rw [s0, List.getD_eq_getElem?_getD, List.getElem?_append_right (by omega), l4, Nat.add_sub_cancel_left, ← List.getD_eq_getElem?_getD]
  have n8 : ∀ n : Nat, n < 256 → (UInt8.ofNat n).toNat = n := fun n hn => by simp [Nat.mod_eq_of_lt hn]
  have d7 : (entB g b).drop 7 = leN b.v0.toNat 4 ++ (leN b.v1.toNat 4 ++ (List.replicate 14 0 ++ sumB (crcOf (textB g b)))) := by
    rw [s0, ← List.append_assoc, List.drop_left' (by simp [l4])]
  have d11 : (entB g b).drop 11 = leN b.v1.toNat 4 ++ (List.replicate 14 0 ++ sumB (crcOf (textB g b))) := by
    have : (entB g b).drop 11 = ((entB g b).drop 7).drop 4 := by rw [List.drop_drop]
    rw [this, d7, List.drop_left' (leN_len _ 4)]
  refine BR.ext' ?_ ?_ ?_ ?_ ?_
  · show (((entB g b).getD 4 0).toNat : Int) = _
    rw [d4 0]
    show ((UInt8.ofNat b.active.toNat).toNat : Int) = _
    rw [n8 _ (by omega)]; omega
  · show (((entB g b).getD 5 0).toNat : Int) - 1 = _
    rw [d4 1]
    show ((UInt8.ofNat (b.trial + 1).toNat).toNat : Int) - 1 = _
    rw [n8 _ (by omega)]; omega
  · show (((entB g b).getD 6 0).toNat : Int) = _
    rw [d4 2]
    show ((UInt8.ofNat b.tries.toNat).toNat : Int) = _
    rw [n8 _ (by omega)]; omega
  · show (leVal (((entB g b).drop 7).take 4) : Int) = _
    rw [d7, List.take_left' (leN_len _ 4), leVal_leN 4 _ (by omega)]; omega
  · show (leVal (((entB g b).drop 11).take 4) : Int) = _
    rw [d11, List.take_left' (leN_len _ 4), leVal_leN 4 _ (by omega)]; omega
/-- What bytes tell, as the document has it. -/
theorem decE_told (c : List UInt8) (hc : c.length = 32) : decE c = if 1 ≤ gen9 c ∧ gen9 c ≤ 1073741824 ∧ (rec9 c).ok ∧ entB (gen9 c) (rec9 c) = c then some (gen9 c, rec9 c) else none := by
  split
  · rename_i h
    obtain ⟨h1, h2, h3, h4⟩ := h
    have := decE_ent (gen9 c) (rec9 c) h1 h2 h3
    rw [h4] at this
    exact this
  · rename_i h
    cases hd : decE c with
    | none => rfl
    | some p =>
      obtain ⟨g, b⟩ := p
      obtain ⟨h1, h2, h3, h4⟩ := decE_back hc hd
      refine absurd ?_ h
      have e1 : gen9 c = g := by rw [h4]; exact ent_gen9 g b h2
      have e2 : rec9 c = b := by rw [h4]; exact ent_rec9 g b h3
      rw [e1, e2]
      exact ⟨h1, h2, h3, h4.symm⟩
end Go.Proofs.YtbdhkkdombdnkaaDoor
