/-
  What is proved here: plain facts on parts, on the lots of devices, on devices in the order of their lots, and on their waves; no program is spoken of.
  Conditions: those that each fact names.
-/
import Derived.Test.YtnagdgkkkkpekabDoorCrcPure
namespace Go.Proofs.YtnagdgkkkkpekabDoor
open Go.RowKit

/-- Each is greater than the one ahead, the last one 100. -/
def riseW : Int → List Int → Bool
  | a, [] => decide (a = 100)
  | a, p :: l => decide (a < p) && riseW p l
def partsW (l : List Int) : Bool := decide (l.length ≤ 8) && riseW 0 l
theorem riseW_le : ∀ (l : List Int) (a : Int), riseW a l = true → a ≤ 100
  | [], a, h => by simp [riseW] at h; omega
  | p :: l, a, h => by
    simp [riseW] at h
    have := riseW_le l p h.2
    omega
theorem riseW_cons {a p : Int} {l : List Int} (h : riseW a (p :: l) = true) : a < p ∧ riseW p l = true := by simpa [riseW] using h
theorem riseW_at : ∀ (l : List Int) (a : Int) (i : Nat) (p : Int), riseW a l = true → l[i]? = some p → a < p ∧ p ≤ 100
  | [], _, _, _, _, hp => by simp at hp
  | q :: l, a, 0, p, h, hp => by
    obtain rfl : q = p := by simpa using hp
    have h := riseW_cons h
    exact ⟨h.1, riseW_le _ _ h.2⟩
  | q :: l, a, i + 1, p, h, hp => by
    have h := riseW_cons h
    have := riseW_at l q i p h.2 (by simpa using hp)
    exact ⟨by omega, this.2⟩

/-- Four bytes of a number, the lowest first. -/
def b4W (n : Nat) : List UInt8 := [UInt8.ofNat n, UInt8.ofNat (n / 256), UInt8.ofNat (n / 65536), UInt8.ofNat (n / 16777216)]
def lotB (c d : Int) : List UInt8 := b4W c.toNat ++ b4W d.toNat
/-- A device's lot. -/
def lotW (c d : Int) : BitVec 32 := crcOf (lotB c d)
def lotN (c d : Int) : Nat := (lotW c d).toNat
/-- Does a device come ahead of another one? -/
def befW (c a b : Int) : Bool := decide (lotN c a < lotN c b ∨ lotN c a = lotN c b ∧ a < b)
def leW (c a b : Int) : Bool := !befW c b a
theorem befW_iff (c a b : Int) : befW c a b = true ↔ (lotN c a < lotN c b ∨ lotN c a = lotN c b ∧ a < b) := by simp [befW]
theorem leW_iff (c a b : Int) : leW c a b = true ↔ (lotN c a < lotN c b ∨ lotN c a = lotN c b ∧ a ≤ b) := by
  unfold leW befW
  simp
  omega
theorem leW_trans (c a b d : Int) (h1 : leW c a b = true) (h2 : leW c b d = true) : leW c a d = true := by
  rw [leW_iff] at *; omega
theorem leW_total (c a b : Int) : (leW c a b || leW c b a) = true := by
  rw [Bool.or_eq_true, leW_iff, leW_iff]; omega
theorem leW_anti (c a b : Int) (h1 : leW c a b = true) (h2 : leW c b a = true) : a = b := by
  rw [leW_iff] at *; omega
/-- The devices in the order of their lots. -/
def sortW (c : Int) (l : List Int) : List Int := l.mergeSort (leW c)
theorem sortW_perm (c : Int) (l : List Int) : (sortW c l).Perm l := List.mergeSort_perm l _
theorem sortW_len (c : Int) (l : List Int) : (sortW c l).length = l.length := (sortW_perm c l).length_eq
theorem sortW_pair (c : Int) (l : List Int) : (sortW c l).Pairwise (fun a b => leW c a b = true) := List.pairwise_mergeSort (leW_trans c) (leW_total c) l
theorem sortW_uniq (c : Int) {l m : List Int} (hp : m.Perm l) (hs : m.Pairwise (fun a b => leW c a b = true)) : m = sortW c l :=
  List.Perm.eq_of_pairwise (fun a b _ _ h1 h2 => leW_anti c a b h1 h2) hs (sortW_pair c l) (hp.trans (sortW_perm c l).symm)
theorem sortW_of_perm (c : Int) {l m : List Int} (hp : m.Perm l) : sortW c m = sortW c l := sortW_uniq c ((sortW_perm c m).trans hp) (sortW_pair c m)
/-- Without one of them the others come in the order in which they came. -/
theorem sortW_filter (c : Int) (l : List Int) (p : Int → Bool) : sortW c (l.filter p) = (sortW c l).filter p :=
  (sortW_uniq c ((sortW_perm c l).filter p) ((sortW_pair c l).filter p)).symm

/-- One more among those that are in order. -/
def insW (c : Int) (o : List Int) (d : Int) : List Int := o.takeWhile (fun x => befW c x d) ++ d :: o.dropWhile (fun x => befW c x d)
theorem insW_perm (c : Int) (o : List Int) (d : Int) : (insW c o d).Perm (d :: o) := by
  unfold insW
  refine List.perm_middle.trans ?_
  rw [List.takeWhile_append_dropWhile]
theorem bef_take (c : Int) (o : List Int) (d x : Int) (h : x ∈ o.takeWhile (fun x => befW c x d)) : befW c x d = true := by
  have := List.all_takeWhile (p := fun x => befW c x d) (l := o)
  rw [List.all_eq_true] at this
  exact this x h
theorem bef_drop (c : Int) : ∀ (o : List Int) (d x : Int), o.Pairwise (fun a b => leW c a b = true) → x ∈ o.dropWhile (fun x => befW c x d) → leW c d x = true
  | [], _, _, _, h => by simp at h
  | y :: o, d, x, hp, h => by
    rw [List.dropWhile_cons] at h
    rw [List.pairwise_cons] at hp
    split at h
    · exact bef_drop c o d x hp.2 h
    · next hb =>
      have hd : leW c d y = true := by unfold leW; simpa using hb
      rcases List.mem_cons.1 h with rfl | h
      · exact hd
      · exact leW_trans c _ _ _ hd (hp.1 x h)
theorem insW_pair (c : Int) (o : List Int) (d : Int) (hp : o.Pairwise (fun a b => leW c a b = true)) : (insW c o d).Pairwise (fun a b => leW c a b = true) := by
  unfold insW
  rw [List.pairwise_append, List.pairwise_cons]
  refine ⟨hp.sublist (List.takeWhile_sublist _), ⟨fun x hx => bef_drop c o d x hp hx, hp.sublist (List.dropWhile_sublist _)⟩, fun a ha b hb => ?_⟩
  have h1 := bef_take c o d a ha
  have h3 : leW c a d = true := by rw [leW_iff]; rw [befW_iff] at h1; omega
  rcases List.mem_cons.1 hb with rfl | hb
  · exact h3
  · exact leW_trans c _ _ _ h3 (bef_drop c o d b hp hb)
theorem insW_sort (c : Int) (l : List Int) (d : Int) : insW c (sortW c l) d = sortW c (l ++ [d]) :=
  sortW_uniq c ((insW_perm c _ d).trans (((sortW_perm c l).cons d).trans (List.perm_append_singleton d l).symm)) (insW_pair c _ d (sortW_pair c l))
/-- Where one stands that comes in again: at the first that does not come ahead of it. -/
theorem bef_again (c : Int) : ∀ (o : List Int) (d : Int), o.Pairwise (fun a b => leW c a b = true) → d ∈ o → o[(o.takeWhile (fun x => befW c x d)).length]? = some d
  | [], _, _, h => by simp at h
  | y :: o, d, hp, h => by
    rw [List.pairwise_cons] at hp
    rw [List.takeWhile_cons]
    split
    · next hb =>
      have hne : d ≠ y := fun e => by subst e; rw [befW_iff] at hb; omega
      have hm : d ∈ o := by simpa [hne] using h
      simpa using bef_again c o d hp.2 hm
    · next hb =>
      simp only [List.length_nil, List.getElem?_cons_zero, Option.some.injEq]
      have hd : leW c d y = true := by unfold leW; simpa using hb
      rcases List.mem_cons.1 h with e | hm
      · exact e.symm
      · exact leW_anti c _ _ (hp.1 d hm) hd
theorem bef_none (c : Int) (o : List Int) (d : Int) (h : o[(o.takeWhile (fun x => befW c x d)).length]? = some d) : d ∈ o := List.mem_of_getElem? h

/-- Where a part ends. -/
def upW (n : Nat) (p : Int) : Nat := ((p * n + 99) / 100).toNat
theorem upW_zero (n : Nat) : upW n 0 = 0 := by unfold upW; simp
theorem upW_all (n : Nat) : upW n 100 = n := by unfold upW; omega
theorem upW_mono (n : Nat) {p q : Int} (h : p ≤ q) : upW n p ≤ upW n q := by
  unfold upW
  have : p * (n : Int) ≤ q * n := Int.mul_le_mul_of_nonneg_right h (by omega)
  omega
theorem upW_le (n : Nat) {p : Int} (h : p ≤ 100) : upW n p ≤ n := by
  have := upW_mono n h
  rwa [upW_all] at this
theorem upW_int (n : Nat) {p : Int} (h : 0 ≤ p) : ((upW n p : Nat) : Int) = (p * n + 99) / 100 := by
  unfold upW
  have : 0 ≤ p * (n : Int) := Int.mul_nonneg h (by omega)
  omega
/-- The waves of devices that are in order. -/
def cutW (o : List Int) : Nat → List Int → List (List Int)
  | _, [] => []
  | f, p :: ps => (o.drop f).take (upW o.length p - f) :: cutW o (upW o.length p) ps
theorem cutW_len (o : List Int) : ∀ (ps : List Int) (f : Nat), (cutW o f ps).length = ps.length
  | [], _ => rfl
  | p :: ps, f => by unfold cutW; rw [List.length_cons, cutW_len o ps, List.length_cons]
theorem cutW_flat (o : List Int) : ∀ (ps : List Int) (a : Int), riseW a ps = true → (cutW o (upW o.length a) ps).flatten = o.drop (upW o.length a)
  | [], a, h => by
    have : a = 100 := by simpa [riseW] using h
    subst this
    rw [upW_all, List.drop_length]; rfl
  | p :: ps, a, h => by
    have h := riseW_cons h
    unfold cutW
    rw [List.flatten_cons, cutW_flat o ps p h.2]
    have hm := upW_mono o.length (Int.le_of_lt h.1)
    generalize upW o.length p = m at *
    generalize upW o.length a = f at *
    obtain ⟨k, rfl⟩ : ∃ k, m = f + k := ⟨m - f, by omega⟩
    rw [show f + k - f = k by omega, ← List.drop_drop, List.take_append_drop]
theorem cutW_all (o ps : List Int) (h : partsW ps = true) : (cutW o 0 ps).flatten = o := by
  have h1 : riseW 0 ps = true := by unfold partsW at h; rw [Bool.and_eq_true] at h; exact h.2
  have := cutW_flat o ps 0 h1
  rwa [upW_zero, List.drop_zero] at this
/-- How many devices the first waves hold. -/
theorem cutW_upto (o : List Int) : ∀ (ps : List Int) (a : Int) (k : Nat) (p : Int), riseW a ps = true → ps[k]? = some p → (((cutW o (upW o.length a) ps).take (k + 1)).map List.length).sum + upW o.length a = upW o.length p
  | [], _, _, _, _, hp => by simp at hp
  | q :: ps, a, 0, p, h, hp => by
    obtain rfl : q = p := by simpa using hp
    have h := riseW_cons h
    have h2 := upW_mono o.length (Int.le_of_lt h.1)
    have h3 := upW_le o.length (riseW_le _ _ h.2)
    unfold cutW
    simp only [Nat.zero_add, List.take_succ_cons, List.take_zero, List.map_cons, List.map_nil, List.sum_cons, List.sum_nil, List.length_take, List.length_drop]
    omega
  | q :: ps, a, k + 1, p, h, hp => by
    have h := riseW_cons h
    have ih := cutW_upto o ps q k p h.2 (by simpa using hp)
    have h2 := upW_mono o.length (Int.le_of_lt h.1)
    have h3 := upW_le o.length (riseW_le _ _ h.2)
    unfold cutW
    rw [List.take_succ_cons, List.map_cons, List.sum_cons, List.length_take, List.length_drop]
    omega

/-- May it not be? -/
def badW (c : Int) (ds ps : List Int) : Prop := ¬ (1 ≤ c ∧ c ≤ 1073741824) ∨ (∃ d ∈ ds, ¬ (1 ≤ d ∧ d ≤ 4096)) ∨ partsW ps = false
instance (c : Int) (ds ps : List Int) : Decidable (badW c ds ps) := by unfold badW; infer_instance
/-- A plan, and its code. -/
def planW (c : Int) (ds ps : List Int) : List (List Int) × Int :=
  if badW c ds ps then ([], 1) else if ¬ ds.Nodup then ([], 5) else (cutW (sortW c ds) 0 ps, 0)
theorem planW_perm (c : Int) {ds es : List Int} (ps : List Int) (h : es.Perm ds) : planW c es ps = planW c ds ps := by
  have hb : badW c es ps ↔ badW c ds ps := by
    unfold badW
    constructor
    · rintro (h1 | ⟨d, hd, h1⟩ | h1)
      · exact .inl h1
      · exact .inr (.inl ⟨d, h.mem_iff.1 hd, h1⟩)
      · exact .inr (.inr h1)
    · rintro (h1 | ⟨d, hd, h1⟩ | h1)
      · exact .inl h1
      · exact .inr (.inl ⟨d, h.mem_iff.2 hd, h1⟩)
      · exact .inr (.inr h1)
  unfold planW
  rw [sortW_of_perm c h]
  by_cases h1 : badW c ds ps
  · rw [if_pos h1, if_pos (hb.2 h1)]
  · rw [if_neg h1, if_neg (fun e => h1 (hb.1 e))]
    by_cases h2 : ds.Nodup
    · rw [if_neg (by simpa using h.nodup_iff.2 h2), if_neg (by simpa using h2)]
    · rw [if_pos h2, if_pos (fun e => h2 (h.nodup_iff.1 e))]
theorem planW_ok {c : Int} {ds ps : List Int} (h : (planW c ds ps).2 = 0) : ¬ badW c ds ps ∧ ds.Nodup ∧ planW c ds ps = (cutW (sortW c ds) 0 ps, 0) := by
  unfold planW at *
  by_cases h1 : badW c ds ps
  · rw [if_pos h1] at h; cases h
  · rw [if_neg h1] at *
    by_cases h2 : ds.Nodup
    · rw [if_neg (by simpa using h2)]; exact ⟨h1, h2, rfl⟩
    · rw [if_pos h2] at h; cases h
theorem planW_no {c : Int} {ds ps : List Int} (h : (planW c ds ps).2 ≠ 0) : (planW c ds ps).1 = [] ∧ ((planW c ds ps).2 = 1 ∨ (planW c ds ps).2 = 5) := by
  unfold planW at *
  by_cases h1 : badW c ds ps
  · rw [if_pos h1]; exact ⟨rfl, .inl rfl⟩
  · rw [if_neg h1] at *
    by_cases h2 : ds.Nodup
    · rw [if_neg (by simpa using h2)] at h; exact absurd rfl h
    · rw [if_pos h2]; exact ⟨rfl, .inr rfl⟩
theorem sortW_three : sortW 1 [1, 2, 3] = [1, 3, 2] := (sortW_uniq 1 (by decide) (by decide +kernel)).symm
theorem planW_three : planW 1 [1, 2, 3] [10, 100] = ([[1], [3, 2]], 0) := by
  unfold planW
  rw [if_neg (by unfold badW; decide +kernel), if_neg (by decide), sortW_three]
  rfl
end Go.Proofs.YtnagdgkkkkpekabDoor
