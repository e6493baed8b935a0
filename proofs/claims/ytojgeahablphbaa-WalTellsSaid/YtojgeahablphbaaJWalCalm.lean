/-
  What is proved here: plain facts on a log on a disk that does not fail: what a change leaves there, and what is found.
  Conditions: those that each fact names.
-/
import Derived.Test.YtojgeahablphbaaJWalTell
namespace Go.Proofs.Ytojgeahablphbaa

/-- Nothing fails to come, and the power is on. -/
def calmS (s : DS) : Prop := s.next = [] ∧ s.down = false
theorem mayS_calm {s : DS} (h : calmS s) : mayS s = (0, s) := by
  unfold mayS; rw [h.1, h.2]; rfl
theorem writeS_calm {s : DS} (h : calmS s) {k : Nat} {b : List UInt8} (hk : k < s.now.length) (hb : b.length ≤ 128) : writeS s (k : Int) b = (0, putS s k b) := by
  unfold writeS
  rw [if_neg (by omega), mayS_calm h, if_neg (fun h => h rfl), Int.toNat_natCast]
theorem syncS_calm {s : DS} (h : calmS s) : syncS s = (0, syncedS s) := by
  unfold syncS; rw [mayS_calm h, if_neg (fun h => h rfl)]
theorem getD_set_self {α : Type} (l : List α) (k : Nat) (x d : α) (h : k < l.length) : (l.set k x).getD k d = x := by
  rw [List.getD_eq_getElem?_getD, List.getElem?_set_self h]; rfl
theorem getD_set_ne {α : Type} (l : List α) (k q : Nat) (x d : α) (h : k ≠ q) : (l.set k x).getD q d = l.getD q d := by
  rw [List.getD_eq_getElem?_getD, List.getElem?_set_ne h, List.getD_eq_getElem?_getD]
theorem rowB_len (b : List UInt8) (i : Nat) : (rowB b i).length = min 128 (b.length - i * 128) := by
  unfold rowB; rw [List.length_take, List.length_drop]
theorem rowB_le (b : List UInt8) (i : Nat) : (rowB b i).length ≤ 128 := by rw [rowB_len]; omega
/-- What rows that were written leave. -/
structure RowsAt (s t : DS) (n0 first : Nat) (b : List UInt8) (i : Nat) : Prop where
  calm : calmS t
  ok : t.ok n0
  is : ∀ q, t.now.getD q [] = if first + i ≤ q ∧ (q - first) * 128 < b.length then padS (rowB b (q - first)) else s.now.getD q []
theorem rowsW_calm (n0 first : Nat) (b : List UInt8) : ∀ (n i : Nat) (s : DS), calmS s → s.ok n0 → b.length ≤ (i + n) * 128 → (∀ j, j * 128 < b.length → first + j < n0) → ∃ t, rowsW first b n i s = (0, t) ∧ RowsAt s t n0 first b i
  | 0, i, s, hc, ok, hb, _ => ⟨s, rfl, hc, ok, fun q => by rw [if_neg (by omega)]⟩
  | n + 1, i, s, hc, ok, hb, hr => by
    by_cases h : b.length ≤ i * 128
    · refine ⟨s, ?_, hc, ok, fun q => by rw [if_neg (by omega)]⟩
      show (if b.length ≤ i * 128 then _ else _) = _
      rw [if_pos h]
    · have hfi := hr i (by omega)
      have hw : writeS s ((first + i : Nat) : Int) (rowB b i) = (0, putS s (first + i) (rowB b i)) := writeS_calm hc (by rw [ok.now]; exact hfi) (rowB_le b i)
      obtain ⟨t, ht, h1, h2, h3⟩ := rowsW_calm n0 first b n (i + 1) (putS s (first + i) (rowB b i)) hc (ok.put _ _ (rowB_le b i)) (by omega) hr
      refine ⟨t, ?_, h1, h2, fun q => ?_⟩
      · show (if b.length ≤ i * 128 then _ else if (writeS s ((first + i : Nat) : Int) (rowB b i)).1 ≠ 0 then _ else _) = _
        rw [if_neg h, hw, if_neg (fun h => h rfl)]
        exact ht
      · rw [h3 q]
        by_cases hq : q = first + i
        · subst hq
          rw [if_neg (by omega), if_pos ⟨Nat.le_refl _, by omega⟩]
          show (s.now.set (first + i) (padS (rowB b i))).getD (first + i) [] = _
          rw [getD_set_self _ _ _ _ (by rw [ok.now]; exact hfi), show first + i - first = i by omega]
        · by_cases hq2 : first + i ≤ q ∧ (q - first) * 128 < b.length
          · rw [if_pos hq2, if_pos (by omega)]
          · rw [if_neg hq2, if_neg (by omega)]
            show (s.now.set (first + i) (padS (rowB b i))).getD q [] = _
            rw [getD_set_ne _ _ _ _ _ (fun e => hq e.symm)]
/-! ### banks -/
theorem half_in {s : DS} {n0 k i : Nat} (ok : s.ok n0) (hk : k < 2) (hi : i < halfS s) : 2 + k * halfS s + i < n0 := by
  have h := ok.now
  unfold halfS at hi ⊢
  rw [h] at hi ⊢
  rcases (show k = 0 ∨ k = 1 by omega) with rfl | rfl <;> omega
theorem bankTo_len {s : DS} {n0 k : Nat} (ok : s.ok n0) (hk : k < 2) : ∀ i, i ≤ halfS s → (bankTo s k i).length = i * 128
  | 0, _ => (Nat.zero_mul _).symm
  | i + 1, hi => by
    show (bankTo s k i ++ _).length = _
    rw [List.length_append, bankTo_len ok hk i (by omega), getD_len ok.nows (by rw [ok.now]; exact half_in ok hk (by omega)), Nat.succ_mul]
theorem padS_take (b : List UInt8) (j : Nat) (h : j * 128 < b.length) : (padS (rowB b j)).take (b.length - j * 128) = rowB b j := by
  have hl := rowB_len b j
  unfold padS
  by_cases h1 : 128 ≤ b.length - j * 128
  · have e : (rowB b j).length = 128 := by omega
    rw [e]
    show (rowB b j ++ []).take _ = _
    rw [List.append_nil, List.take_of_length_le (by omega)]
  · have e : (rowB b j).length = b.length - j * 128 := by omega
    rw [← e, List.take_left]
theorem bank_is {s : DS} {n0 k : Nat} {b : List UInt8} (ok : s.ok n0) (hk : k < 2) (h : ∀ j, j * 128 < b.length → s.now.getD (2 + k * halfS s + j) [] = padS (rowB b j)) (hb : b.length ≤ sizeS s) : (bankS s k).take b.length = b := by
  have key : ∀ j, j ≤ halfS s → (bankTo s k j).take b.length = b.take (j * 128) := fun j => by
    induction j with
    | zero => intro _; rw [Nat.zero_mul, List.take_zero]; exact List.take_nil
    | succ j ih =>
      intro hj
      show (bankTo s k j ++ s.now.getD (2 + k * halfS s + j) []).take b.length = _
      rw [List.take_append, ih (by omega), bankTo_len ok hk j (by omega)]
      by_cases hl : j * 128 < b.length
      · rw [h j hl, padS_take b j hl, Nat.succ_mul]
        unfold rowB
        rw [List.take_add]
      · rw [show b.length - j * 128 = 0 by omega, List.take_zero, List.append_nil, List.take_of_length_le (by omega), List.take_of_length_le (by omega)]
  unfold bankS
  rw [key _ (Nat.le_refl _), List.take_of_length_le (by unfold sizeS at hb; exact hb)]
/-! ### heads -/
theorem nextH_ge (s : DS) (k : Nat) (t : Nat × Nat × Nat) : t.1 ≤ (nextH s k t).1 := by
  unfold nextH
  split
  · rename_i h; exact Nat.le_of_lt h.1
  · exact Nat.le_refl _
theorem nextH_stand (s : DS) (k : Nat) (t : Nat × Nat × Nat) (h : standsB s k (s.now.getD k []) = true) : of4 (s.now.getD k []) ≤ (nextH s k t).1 := by
  unfold nextH
  split
  · exact Nat.le_refl _
  · rename_i h2
    exact Nat.le_of_not_lt (fun h3 => h2 ⟨h3, h⟩)
theorem stands_le {s : DS} {k : Nat} (hk : k < 2) (h : standsB s k (s.now.getD k []) = true) : of4 (s.now.getD k []) ≤ (thereS s).1 := by
  show _ ≤ (nextH s 1 (nextH s 0 (0, 0, 0))).1
  rcases (show k = 0 ∨ k = 1 by omega) with rfl | rfl
  · exact Nat.le_trans (nextH_stand s 0 _ h) (nextH_ge s 1 _)
  · exact nextH_stand s 1 _ h
theorem head_of (n g m : Nat) (hn : n < 4294967296) (hg : g < 4294967296) (hm : m < 4294967296) : of4 (padS (headB n g m)) = n ∧ of4 ((padS (headB n g m)).drop 4) = g ∧ of4 ((padS (headB n g m)).drop 8) = m ∧ (padS (headB n g m)).take 12 = ((padS (headB n g m)).drop 12).take 12 := by
  refine ⟨?_, ?_, ?_, rfl⟩
  · exact of4_num4 n hn (num4 g ++ num4 m ++ threeB n g m ++ noughts 104)
  · exact of4_num4 g hg (num4 m ++ threeB n g m ++ noughts 104)
  · exact of4_num4 m hm (threeB n g m ++ noughts 104)
theorem stands_head {s : DS} {k n g m : Nat} (hk : n % 2 = k) (hn : n ≤ 1073741824) (hg1 : 1 ≤ g) (hg2 : g ≤ 1048576) (hm : m ≤ sizeS s) (hm2 : m < 4294967296) : standsB s k (padS (headB n g m)) = true := by
  obtain ⟨h1, h2, h3, h4⟩ := head_of n g m (by omega) (by omega) hm2
  unfold standsB
  rw [h1, h2, h3, ← h4]
  simp only [Bool.and_eq_true, decide_eq_true_eq]
  exact ⟨⟨⟨⟨⟨hn, hk⟩, hg1⟩, hg2⟩, hm⟩, trivial⟩
theorem standsB_size {s t : DS} (h : sizeS t = sizeS s) (k : Nat) (b : List UInt8) : standsB t k b = standsB s k b := by unfold standsB; rw [h]
/-- A head behind the one that counts. -/
theorem there_new {s t : DS} {n g m : Nat} (hn : (thereS s).1 = n) (hh : t.now.getD ((n + 1) % 2) [] = padS (headB (n + 1) g m)) (ho : t.now.getD (n % 2) [] = s.now.getD (n % 2) []) (hz : sizeS t = sizeS s) (hn2 : n < 1073741824) (hg1 : 1 ≤ g) (hg2 : g ≤ 1048576) (hm : m ≤ sizeS s) (hm2 : m < 4294967296) : thereS t = (n + 1, g, m) := by
  obtain ⟨h1, h2, h3, -⟩ := head_of (n + 1) g m (by omega) (by omega) hm2
  have hst : standsB t ((n + 1) % 2) (padS (headB (n + 1) g m)) = true := stands_head rfl (by omega) hg1 hg2 (by rw [hz]; exact hm) hm2
  have hnew : ∀ u : Nat × Nat × Nat, u.1 ≤ n → nextH t ((n + 1) % 2) u = (n + 1, g, m) := fun u hu => by
    unfold nextH
    rw [hh, h1, h2, h3, if_pos ⟨by omega, hst⟩]
  have hold : ∀ u : Nat × Nat × Nat, (nextH t (n % 2) u).1 ≤ max n u.1 := fun u => by
    unfold nextH
    split
    · rename_i hc
      have : of4 (t.now.getD (n % 2) []) ≤ n := by
        rw [ho, ← hn]
        exact stands_le (Nat.mod_lt _ (by decide)) (by rw [hn, ← ho, ← standsB_size hz]; exact hc.2)
      exact Nat.le_trans this (Nat.le_max_left _ _)
    · exact Nat.le_max_right _ _
  have hkeep : nextH t (n % 2) (n + 1, g, m) = (n + 1, g, m) := by
    unfold nextH
    rw [if_neg]
    intro hc
    have : of4 (t.now.getD (n % 2) []) ≤ n := by
      rw [ho, ← hn]
      exact stands_le (Nat.mod_lt _ (by decide)) (by rw [hn, ← ho, ← standsB_size hz]; exact hc.2)
    have := hc.1
    dsimp only at this
    omega
  show nextH t 1 (nextH t 0 (0, 0, 0)) = _
  rcases (show (n % 2 = 0 ∧ (n + 1) % 2 = 1) ∨ (n % 2 = 1 ∧ (n + 1) % 2 = 0) by omega) with ⟨e0, e1⟩ | ⟨e0, e1⟩
  · rw [e1] at hnew; rw [e0] at hold
    exact hnew _ (by have := hold (0, 0, 0); dsimp only at this; omega)
  · rw [e1] at hnew; rw [e0] at hkeep
    rw [hnew _ (Nat.zero_le _)]
    exact hkeep
/-! ### a change on a calm disk -/
/-- All is synced. -/
def cleanD (s : DS) : Prop := ∀ b ∈ s.dirt, b = false
theorem dirtyAt_clean : ∀ (l : List Bool) (i : Nat), (∀ b ∈ l, b = false) → dirtyAt i l = []
  | [], _, _ => rfl
  | b :: l, i, h => by
    unfold dirtyAt
    rw [h b List.mem_cons_self, if_neg (by decide)]
    exact dirtyAt_clean l (i + 1) (fun x hx => h x (List.mem_cons_of_mem _ hx))
theorem crash_clean {s : DS} (hc : calmS s) (h : cleanD s) (stay : List Bool) (torn cut : Int) : crashS s stay torn cut = s := by
  unfold crashS dirtyS
  rw [dirtyAt_clean _ 0 h]
  obtain ⟨h1, h2⟩ := hc
  show ({ s with next := [], down := false } : DS) = s
  rw [← h1, ← h2]
/-- What a change leaves on a calm disk. -/
structure Left (s t : DS) (n0 n gen : Nat) (b : List UInt8) : Prop where
  calm : calmS t
  ok : t.ok n0
  clean : cleanD t
  there : thereS t = (n + 1, gen, b.length)
  rows : ∀ j, j * 128 < b.length → t.now.getD (2 + gen % 2 * halfS t + j) [] = padS (rowB b j)
  half : halfS t = halfS s
theorem halfS_of {s t : DS} {n0 : Nat} (h1 : s.ok n0) (h2 : t.ok n0) : halfS t = halfS s := by unfold halfS; rw [h1.now, h2.now]
theorem writeW_calm {s : DS} {n0 n gen frm : Nat} {b : List UInt8} (hc : calmS s) (ok : s.ok n0) (hn : (thereS s).1 = n) (hn2 : n < 1073741824) (hg1 : 1 ≤ gen) (hg2 : gen ≤ 1048576) (hb : b.length ≤ sizeS s) (hb2 : b.length < 4294967296) (h2 : 2 ≤ n0)
    (hold : ∀ j, (j + 1) * 128 ≤ frm → s.now.getD (2 + gen % 2 * halfS s + j) [] = padS (rowB b j)) : ∃ t, writeW s n gen frm b = (0, t) ∧ Left s t n0 n gen b := by
  have hr : ∀ j, j * 128 < b.length → 2 + gen % 2 * halfS s + j < n0 := fun j hj => half_in ok (Nat.mod_lt _ (by decide)) (by unfold sizeS at hb; omega)
  obtain ⟨t, ht, h3, h4, h5⟩ := rowsW_calm n0 (2 + gen % 2 * halfS s) b (b.length + 1) (frm / 128) s hc ok (by omega) hr
  have hs1 : syncS t = (0, syncedS t) := syncS_calm h3
  have hlt : (n + 1) % 2 < n0 := by omega
  have hw1 : writeS (syncedS t) (((n + 1) % 2 : Nat) : Int) (headB (n + 1) gen b.length) = (0, putS (syncedS t) ((n + 1) % 2) (headB (n + 1) gen b.length)) := writeS_calm (s := syncedS t) h3 (by show _ < t.now.length; rw [h4.now]; exact hlt) (by rw [headB_len]; decide)
  have hs2 : syncS (putS (syncedS t) ((n + 1) % 2) (headB (n + 1) gen b.length)) = (0, syncedS (putS (syncedS t) ((n + 1) % 2) (headB (n + 1) gen b.length))) := syncS_calm (s := putS (syncedS t) ((n + 1) % 2) (headB (n + 1) gen b.length)) h3
  have hok : (syncedS (putS (syncedS t) ((n + 1) % 2) (headB (n + 1) gen b.length))).ok n0 := (h4.synced.put _ _ (by rw [headB_len]; decide)).synced
  have hhf := halfS_of ok hok
  have hself : (syncedS (putS (syncedS t) ((n + 1) % 2) (headB (n + 1) gen b.length))).now.getD ((n + 1) % 2) [] = padS (headB (n + 1) gen b.length) := getD_set_self t.now ((n + 1) % 2) (padS (headB (n + 1) gen b.length)) [] (by rw [h4.now]; exact hlt)
  have hne : ∀ q, (n + 1) % 2 ≠ q → (syncedS (putS (syncedS t) ((n + 1) % 2) (headB (n + 1) gen b.length))).now.getD q [] = t.now.getD q [] := fun q hq => getD_set_ne t.now ((n + 1) % 2) q (padS (headB (n + 1) gen b.length)) [] hq
  have hcl : cleanD (syncedS (putS (syncedS t) ((n + 1) % 2) (headB (n + 1) gen b.length))) := fun x hx => List.eq_of_mem_replicate hx
  refine ⟨syncedS (putS (syncedS t) ((n + 1) % 2) (headB (n + 1) gen b.length)), ?_, h3, hok, hcl, ?_, ?_, hhf⟩
  · unfold writeW
    rw [ht, if_neg (fun h => h rfl)]
    unfold sealW
    rw [hs1, if_neg (fun h => h rfl)]
    dsimp only
    rw [hw1, if_neg (fun h => h rfl)]
    exact hs2
  · refine there_new hn hself ?_ (by unfold sizeS; rw [hhf]) hn2 hg1 hg2 hb hb2
    rw [hne _ (by omega), h5, if_neg (by omega)]
  · intro j hj
    rw [hhf, hne _ (by omega), h5]
    by_cases hf : frm / 128 ≤ j
    · rw [if_pos ⟨by omega, by rw [show 2 + gen % 2 * halfS s + j - (2 + gen % 2 * halfS s) = j by omega]; exact hj⟩, show 2 + gen % 2 * halfS s + j - (2 + gen % 2 * halfS s) = j by omega]
    · rw [if_neg (by omega)]
      exact hold j (by omega)
theorem Left.found {s t : DS} {n0 n gen : Nat} {b : List UInt8} (h : Left s t n0 n gen b) (hb : b.length ≤ sizeS s) : foundS t = toldB b := by
  unfold foundS
  rw [h.there]
  dsimp only
  rw [if_neg (by omega), bank_is h.ok (Nat.mod_lt _ (by decide)) h.rows (by unfold sizeS at hb ⊢; rw [h.half]; exact hb)]
theorem rowB_app (b c : List UInt8) (j : Nat) (h : (j + 1) * 128 ≤ b.length) : rowB (b ++ c) j = rowB b j := by
  unfold rowB
  rw [List.drop_append_of_le_length (by omega), List.take_append_of_le_length (by rw [List.length_drop]; omega)]
/-- A log whose state stands on a calm disk. -/
structure Stand (s : DS) (n0 : Nat) (l : LS) : Prop where
  calm : calmS s
  ok : s.ok n0
  clean : cleanD s
  there : thereS s = (l.n, l.gen, l.sure)
  rows : ∀ j, (j + 1) * 128 ≤ l.sure → s.now.getD (2 + l.gen % 2 * halfS s + j) [] = padS (rowB l.b j)
  found : foundS s = toldB (l.b.take l.sure)
  sure : l.sure ≤ l.b.length
  size : l.b.length ≤ sizeS s
  gen1 : 1 ≤ l.gen
  gen2 : l.gen ≤ 1048576
  n2 : l.n ≤ 1073741824
  begun : l.begun = true
  broke : l.broke = false
theorem size_lt {s : DS} {n0 : Nat} (ok : s.ok n0) (h : n0 ≤ 4096) : sizeS s ≤ 262016 := by
  unfold sizeS halfS; rw [ok.now]; omega
theorem size_two {s : DS} {n0 : Nat} (ok : s.ok n0) (h : 256 ≤ sizeS s) : 2 ≤ n0 := by
  unfold sizeS halfS at h; rw [ok.now] at h; omega
theorem check_calm {s : DS} {n0 : Nat} {l : LS} {st : List UInt8} (hc : calmS s) (ok : s.ok n0) (hm : n0 ≤ 4096) (h256 : 256 ≤ sizeS s) (hbr : l.broke = false) (hn : (thereS s).1 = l.n) (hn2 : l.n < 1073741824) (hg : l.gen < 1048576) (hf : (stateB st).length ≤ sizeS s) :
    ∃ t, checkW s l st = (0, t, ⟨l.n + 1, l.gen + 1, stateB st, (stateB st).length, true, false⟩) ∧ Stand t n0 ⟨l.n + 1, l.gen + 1, stateB st, (stateB st).length, true, false⟩ ∧ foundS t = (st, []) ∧ sizeS t = sizeS s := by
  have hsz := size_lt ok hm
  obtain ⟨t, ht, hL⟩ := writeW_calm (frm := 0) hc ok hn hn2 (show 1 ≤ l.gen + 1 by omega) (by omega) hf (by omega) (size_two ok h256) (fun j hj => by omega)
  have htd : toldB (stateB st) = (st, []) := by
    have := told_put st [] (fun x hx => by cases hx)
    rwa [show recsB [] = [] from rfl, List.append_nil] at this
  have hfo := hL.found hf
  have hst : sizeS t = sizeS s := by unfold sizeS; rw [hL.half]
  refine ⟨t, ?_, ⟨hL.calm, hL.ok, hL.clean, hL.there, fun j hj => hL.rows j (by dsimp only at hj; omega), ?_, Nat.le_refl _, by rw [hst]; exact hf, by show 1 ≤ l.gen + 1; omega, by show l.gen + 1 ≤ _; omega, by show l.n + 1 ≤ _; omega, rfl, rfl⟩, hfo.trans htd, hst⟩
  · unfold checkW
    rw [hbr, if_neg (by decide), if_neg (by omega), ht, if_neg (fun h => h rfl)]
  · show foundS t = toldB ((stateB st).take (stateB st).length)
    rw [List.take_length]; exact hfo
theorem commit_calm {s : DS} {n0 : Nat} {l : LS} (h : Stand s n0 l) (hm : n0 ≤ 4096) (h256 : 256 ≤ sizeS s) (hn2 : l.sure = l.b.length ∨ l.n < 1073741824) :
    ∃ t l', commitW s l = (0, t, l') ∧ Stand t n0 l' ∧ l'.b = l.b ∧ l'.sure = l.b.length ∧ foundS t = toldB l.b ∧ sizeS t = sizeS s ∧ l'.gen = l.gen ∧ l'.n ≤ l.n + 1 := by
  have hsz := size_lt h.ok hm
  by_cases he : l.sure = l.b.length
  · refine ⟨s, l, ?_, h, rfl, he, ?_, rfl, rfl, by omega⟩
    · unfold commitW
      rw [h.broke, if_neg (by decide), h.begun, if_neg (by decide), if_pos he]
    · rw [h.found, he, List.take_length]
  · have hn3 : l.n < 1073741824 := by rcases hn2 with h | h; exact absurd h he; exact h
    obtain ⟨t, ht, hL⟩ := writeW_calm (frm := l.sure) (b := l.b) h.calm h.ok (by rw [h.there]) hn3 h.gen1 h.gen2 h.size (by have := h.size; omega) (size_two h.ok h256) h.rows
    have hst : sizeS t = sizeS s := by unfold sizeS; rw [hL.half]
    have hfo := hL.found h.size
    refine ⟨t, { l with n := l.n + 1, sure := l.b.length }, ?_, ⟨hL.calm, hL.ok, hL.clean, hL.there, fun j hj => hL.rows j (by dsimp only at hj; omega), ?_, Nat.le_refl _, by rw [hst]; exact h.size, h.gen1, h.gen2, by show l.n + 1 ≤ _; omega, h.begun, h.broke⟩, rfl, rfl, hfo, hst, rfl, Nat.le_refl _⟩
    · unfold commitW
      rw [h.broke, if_neg (by decide), h.begun, if_neg (by decide), if_neg he, if_neg (by omega), ht, if_neg (fun h => h rfl)]
    · show foundS t = toldB (l.b.take l.b.length)
      rw [List.take_length]; exact hfo
/-- A record waits behind. -/
theorem append_stand {s : DS} {n0 : Nat} {l : LS} (h : Stand s n0 l) (x : List UInt8) (hf : l.b.length + x.length + 5 ≤ sizeS s) : Stand s n0 { l with b := l.b ++ pieceB 3 x } :=
  ⟨h.calm, h.ok, h.clean, h.there, fun j hj => by have := h.sure; dsimp only at hj ⊢; rw [rowB_app _ _ _ (by omega)]; exact h.rows j hj, by show foundS s = toldB ((l.b ++ pieceB 3 x).take l.sure); rw [List.take_append_of_le_length h.sure]; exact h.found, by show l.sure ≤ (l.b ++ pieceB 3 x).length; rw [List.length_append]; have := h.sure; omega, by show (l.b ++ pieceB 3 x).length ≤ _; rw [List.length_append, pieceB_len]; omega, h.gen1, h.gen2, h.n2, h.begun, h.broke⟩
theorem append_calm {s : DS} {n0 : Nat} {l : LS} (h : Stand s n0 l) (x : List UInt8) (hx : x.length ≤ 4096) (hf : l.b.length + x.length + 5 ≤ sizeS s) : appendW s l x = (0, { l with b := l.b ++ pieceB 3 x }) := by
  unfold appendW roomW
  rw [h.broke, h.begun]
  simp only [Bool.false_eq_true, if_false, Bool.or_false, Bool.not_true]
  rw [if_neg (by decide), if_neg (by omega), if_neg (by omega)]
theorem append_full {s : DS} {n0 : Nat} {l : LS} (h : Stand s n0 l) (x : List UInt8) (hx : x.length ≤ 4096) (hf : ¬ l.b.length + x.length + 5 ≤ sizeS s) : appendW s l x = (3, l) := by
  unfold appendW roomW
  rw [h.broke, h.begun]
  simp only [Bool.false_eq_true, if_false, Bool.or_false, Bool.not_true]
  rw [if_neg (by decide), if_neg (by omega), if_pos (by omega)]
theorem room_stand {s : DS} {n0 : Nat} {l : LS} (h : Stand s n0 l) : roomW s l = (sizeS s : Int) - (l.b.length : Int) := by
  unfold roomW; rw [h.broke, h.begun]; rfl
/-- Without a head there is no length. -/
theorem there_zero (s : DS) : (thereS s).1 = 0 → (thereS s).2.2 = 0 := by
  have key : ∀ k, (thereTo s k).1 = 0 → (thereTo s k).2.2 = 0 := fun k => by
    induction k with
    | zero => intro _; rfl
    | succ k ih =>
      intro h
      show (nextH s k (thereTo s k)).2.2 = 0
      have h' : (nextH s k (thereTo s k)).1 = 0 := h
      unfold nextH at h' ⊢
      split
      · rename_i hc
        rw [if_pos hc] at h'
        have := hc.1
        dsimp only at h'
        omega
      · rename_i hc
        rw [if_neg hc] at h'
        exact ih h'
  exact key 2
/-! ### a new disk -/
theorem newS_calm (n : Nat) : calmS (newS n) := ⟨rfl, rfl⟩
theorem newS_cleanD (n : Nat) : cleanD (newS n) := fun _ hb => List.eq_of_mem_replicate hb
theorem getD_rep {α : Type} (n k : Nat) (x : α) (d : α) : (List.replicate n x).getD k d = x ∨ (List.replicate n x).getD k d = d := by
  rw [List.getD_eq_getElem?_getD]
  rcases Nat.lt_or_ge k n with h | h
  · left; rw [List.getElem?_replicate, if_pos h]; rfl
  · right; rw [List.getElem?_replicate, if_neg (by omega)]; rfl
theorem of4_noughts : of4 (noughts 128) = 0 := by decide
theorem newS_there (n : Nat) : thereS (newS n) = (0, 0, 0) := by
  have key : ∀ k u, nextH (newS n) k u = u := fun k u => by
    unfold nextH
    rw [if_neg]
    rintro ⟨h, _⟩
    rcases getD_rep n k (noughts 128) [] with e | e
    · rw [show (newS n).now.getD k [] = noughts 128 from e, of4_noughts] at h; cases h
    · rw [show (newS n).now.getD k [] = [] from e] at h; cases h
  show nextH _ 1 (nextH _ 0 (0, 0, 0)) = _
  rw [key, key]
theorem newS_found (n : Nat) : foundS (newS n) = ([], []) := by unfold foundS; rw [newS_there]; rfl
theorem newS_size (n : Nat) : sizeS (newS n) = (n - 2) / 2 * 128 := by unfold sizeS halfS newS; rw [List.length_replicate]
theorem newS_open (n : Nat) (h : 256 ≤ sizeS (newS n)) : openE (newS n) = 0 ∧ openL (newS n) = ⟨0, 0, [], 0, false, false⟩ := by
  constructor
  · unfold openE; rw [if_neg (by omega)]; rfl
  · unfold openL; rw [newS_there]
end Go.Proofs.Ytojgeahablphbaa
