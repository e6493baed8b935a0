/-
  What is proved here: the document's own cutting of bytes: so many bytes, and a number of a field.
  Conditions: those that each fact names.
-/
import Derived.Test.YthophonofaaafaaDoorJRefPackTop
import Derived.Test.YthophonofaaafaaDoorJPackInj
namespace Go.Proofs.YthophonofaaafaaDoor
open Go.RowKit

/-- A cut lies here: what is left are bytes of the world ahead of it; am: something was amiss. -/
def Cuts (w0 w : World) (g : Nat) (s : List UInt8) (am : Bool) : Prop := w0.heap.size ≤ g ∧ Below w0.heap.size w0 w ∧ s.length ≤ maxLen ∧ ∃ lv, Blk w g 93 #[lv, .bool am] ∧ Seg w0 lv s
theorem Cuts.grown {w0 w w' : World} {g : Nat} {s : List UInt8} {am : Bool} {row : Option Nat} (h : Cuts w0 w g s am) (hg : w.grownBy w' row) (h1 : some g ≠ row) (h2 : ∀ k, row = some k → w0.heap.size ≤ k) : Cuts w0 w' g s am := by
  obtain ⟨a, b, c, lv, d, e⟩ := h
  exact ⟨a, below_grown b hg b.size h2, c, lv, d.grown hg h1, e⟩
theorem Cuts.below {w0 w w' : World} {g : Nat} {s : List UInt8} {am : Bool} (h : Cuts w0 w g s am) (hb : Below w.heap.size w w') : Cuts w0 w' g s am := h.grown (grows_below hb none) (fun e => by cases e) (fun _ e => by cases e)
theorem Cuts.lt {w0 w : World} {g : Nat} {s : List UInt8} {am : Bool} (h : Cuts w0 w g s am) : g < w.heap.size := by obtain ⟨_, _, _, _, hb, _⟩ := h; exact hb.lt
/-- What a cut answers: something and what is left, or whatever, and amiss. -/
def cutPost {α : Type} (w0 w : World) (g : Nat) (r : Option (α × List UInt8)) (R : α → Value → World → Prop) (A : Value → World → Prop) (e : Ending) (w' : World) : Prop := (match r with
  | some p => ∃ v, e = .returned v ∧ R p.1 v w' ∧ Cuts w0 w' g p.2 false
  | none => ∃ v s', e = .returned v ∧ A v w' ∧ Cuts w0 w' g s' true) ∧ w.grownBy w' (some g)

set_option maxRecDepth 100000 in
set_option maxHeartbeats 1000000 in
theorem refTake_any (n : Nat) (hn : n ≤ maxLen) (s : List UInt8) (g : Nat) (w0 w : World) (hR : Cuts w0 w g s false) :
    Calls Tryd.prog 81 #[.pointer (some ⟨g, 0, none⟩), .int .i64 (n : Int)] w fun e w' => cutPost w0 w g (if n ≤ s.length then some (s.take n, s.drop n) else none) (fun b v _ => Seg w0 v b) (fun v _ => v = .slice none 0 0) e w' := by
  obtain ⟨hg, hB, hm, lv, hb, hs⟩ := hR
  obtain ⟨ao, c, rfl⟩ := hs.shape
  unfold maxLen at hn hm
  have c0 := hb.cell (j := 0) rfl
  have c1 := hb.cell (j := 1) rfl
  have z0 := hb.frozen 0
  have z1 := hb.frozen 1
  obtain ⟨len, hlen⟩ : ∃ len, len = s.length := ⟨_, rfl⟩
  rw [← hlen] at hs hm hb c0 ⊢
  by_cases h : n ≤ len
  · have i1 : ¬ (len : Int) < (n : Int) := by omega
    obtain ⟨ht, hnc⟩ := hs.takes n h
    have hd := hs.drops n h
    have l1 := slice_to ao len c n hnc
    have l2 := slice_rest ao len c n h
    rw [if_pos h]
    generalize restAt ao c n = ra at *
    have HY : Hid (len = s.length) := hlen
    clear hlen
    go_enter Tryd.func81, Tryd.ntmps81
    go_wp2
    go_ret
    exact ⟨⟨_, rfl, ht, hg, hB.setCell hg _, by show (s.drop n).length ≤ maxLen; rw [List.length_drop]; unfold maxLen; have := HY.out; omega, _, hb.set 0 _, hd⟩, grown_set _ _ _ _⟩
  · have i1 : (len : Int) < (n : Int) := by omega
    rw [if_neg h]
    go_enter Tryd.func81, Tryd.ntmps81
    go_wp2
    go_ret
    exact ⟨⟨_, s, rfl, rfl, hg, hB.setCell hg _, by unfold maxLen; omega, _, hb.set 1 _, hs⟩, grown_set _ _ _ _⟩

set_option maxRecDepth 100000 in
set_option maxHeartbeats 1000000 in
theorem refTake_amiss (n : Int) (s : List UInt8) (g : Nat) (w0 w : World) (hR : Cuts w0 w g s true) :
    Calls Tryd.prog 81 #[.pointer (some ⟨g, 0, none⟩), .int .i64 n] w fun e w' => e = .returned (.slice none 0 0) ∧ Cuts w0 w' g s true ∧ w.grownBy w' (some g) := by
  obtain ⟨hg, hB, hm, lv, hb, hs⟩ := hR
  have c1 := hb.cell (j := 1) rfl
  have z1 := hb.frozen 1
  go_enter Tryd.func81, Tryd.ntmps81
  go_wp2
  go_ret
  exact ⟨rfl, ⟨hg, hB.setCell hg _, hm, _, hb.set 1 _, hs⟩, grown_set _ _ _ _⟩

set_option maxRecDepth 100000 in
set_option maxHeartbeats 1000000 in
theorem refNum_any (f : Fld) (o : Value) (hmm : f.min ≤ f.max) (hmx : f.max < 18446744073709551616) (s : List UInt8) (g : Nat) (w0 w : World) (hR : Cuts w0 w g s false) :
    Calls Tryd.prog 80 #[.pointer (some ⟨g, 0, none⟩), fldV f o] w fun e w' => cutPost w0 w g (amtD f s) (fun n v _ => v = .int .u64 (n : Int)) (fun v _ => ∃ n : Nat, n ≤ f.max ∧ v = .int .u64 (n : Int)) e w' := by
  have hwp := wid_pos (f.max - f.min)
  have hwl := wid_le (f.max - f.min)
  have hsub : (f.max : Int) - (f.min : Int) = ((f.max - f.min : Nat) : Int) := by omega
  have HW : Hid (∀ W, Calls Tryd.prog 75 #[.int .u64 ((f.max - f.min : Nat) : Int)] W fun e w' => e = .returned (.int .i64 (wid (f.max - f.min) : Int)) ∧ w' = W) := fun W => refWidth_any _ (by omega) W
  have HA : Hid (amtD f s = if wid (f.max - f.min) ≤ s.length then (if f.max - f.min < leVal (s.take (wid (f.max - f.min))) then none else some (f.min + leVal (s.take (wid (f.max - f.min))), s.drop (wid (f.max - f.min)))) else none) := by show _ = _; rfl
  rw [HA.out]
  clear HA
  generalize wid (f.max - f.min) = wd at *
  have HT : Hid (∀ W, Cuts w0 W g s false → Calls Tryd.prog 81 #[.pointer (some ⟨g, 0, none⟩), .int .i64 (wd : Int)] W fun e w' => cutPost w0 W g (if wd ≤ s.length then some (s.take wd, s.drop wd) else none) (fun b v _ => Seg w0 v b) (fun v _ => v = .slice none 0 0) e w') := fun W hW => refTake_any wd (by unfold maxLen; omega) s g w0 W hW
  unfold fldV
  have hgw := hR.lt
  have hb0 : Below w.heap.size w (w.alloc (.cells #[.int .i64 f.kind, .int .u64 (f.min : Int), .int .u64 (f.max : Int), o] 83)) := (Below.refl _ _).alloc (Nat.le_refl _) _
  have hf0 := Blk.new w 83 #[.int .i64 f.kind, .int .u64 (f.min : Int), .int .u64 (f.max : Int), o]
  by_cases hl : wd ≤ s.length
  · rw [if_pos hl]
    simp only [if_pos hl] at HT
    obtain ⟨res, hres⟩ : ∃ res, res = (if f.max - f.min < leVal (s.take wd) then none else some (f.min + leVal (s.take wd), s.drop wd)) := ⟨_, rfl⟩
    rw [← hres]
    have HR : Hid (res = (if f.max - f.min < leVal (s.take wd) then none else some (f.min + leVal (s.take wd), s.drop wd))) := hres
    clear hres
    go_enter Tryd.func80, Tryd.ntmps80
    go_wp2_with (first | (go_at_call 75; refine (HW.out _).mono ?_; rintro e w1 ⟨rfl, rfl⟩) | (go_at_call 81; refine (HT.out _ (by exact hR.below hb0)).mono ?_; rintro e w2 ⟨⟨bv, rfl, hbv, hR2⟩, hg2⟩; obtain ⟨ab, cb, rfl⟩ := hbv.shape; have hf2 := hf0.grown hg2 (fun e => by have := Option.some.inj e; omega); have d1 := hf2.cell (j := 1) rfl; have d2 := hf2.cell (j := 2) rfl) | fail)
    have hG := grown_transB (grows_below hb0 (some g)) hg2
    have hbl : (s.take wd).length = wd := by rw [List.length_take]; omega
    generalize hT : s.take wd = bs at *
    obtain ⟨b, off, rfl, hcb, hrow, _⟩ : ∃ b off, ab = some ⟨b, off, none⟩ ∧ wd ≤ cb ∧ Row w2 b off bs ∧ True := by
      rcases hbv with ⟨h1, _⟩ | ⟨b, off, c', h1, h2, h3, h4⟩
      · rw [h1] at hbl; simp at hbl; omega
      · cases h1
        exact ⟨b, off, rfl, by omega, h3.below hR2.2.1 h4, trivial⟩
    have HBL : Hid (bs.length = wd) := hbl
    try rw [hbl]
    clear hbl hT hf2
    go_loopw [6, 7] (fun n i wr => ∃ t : Nat, t ≤ wd ∧ i = .int .i64 ((t : Int) - 1) ∧ n = .int .u64 (leVal (bs.drop t) : Int) ∧ wr = w2) (fun _ i _ => (intOf i + 1).toNat)
    case atStart => exact ⟨wd, Nat.le_refl _, rfl, by rw [List.drop_eq_nil_of_le (by have := HBL.out; omega)]; rfl, rfl⟩
    case round =>
      obtain ⟨t, ht, rfl, rfl, hwr⟩ := hrel
      subst hwr
      by_cases hpos : 0 < t
      · obtain ⟨t', rfl⟩ : ∃ t', t = t' + 1 := ⟨t - 1, by omega⟩
        have hkl : t' < bs.length := by have := HBL.out; omega
        have hc := hrow t' hkl
        have hb := leVal_lt (bs.drop (t' + 1))
        rw [List.length_drop] at hb
        have hb7 : leVal (bs.drop (t' + 1)) < 72057594037927936 := Nat.lt_of_lt_of_le hb (Nat.pow_le_pow_right (n := 256) (by omega) (show _ ≤ 7 by have := HBL.out; omega))
        have HN : Hid (leVal (bs.drop t') = bs[t'].toNat + 256 * leVal (bs.drop (t' + 1))) := by show _ = _; rw [List.drop_eq_getElem_cons hkl]; rfl
        have hx := lt8 bs[t']
        have hx0 := ge8 bs[t']
        have hn8 : Hid (n8 bs[t'] = (bs[t'].toNat : Int)) := rfl
        clear hb hR2 hbv
        generalize leVal (bs.drop (t' + 1)) = N at *
        have e1 : ((t' + 1 : Nat) : Int) - 1 = (t' : Int) := by omega
        rw [e1]
        go_wp2
        go_roundw
        case rel => exact ⟨t', by omega, rfl, by rw [HN.out, hn8.out]; congr 1; omega, trivial⟩
        case measure => simp [intOf]
      · obtain rfl : t = 0 := by omega
        rw [List.drop_zero]
        by_cases hbig : f.max - f.min < leVal bs
        · have HE : Hid (res = none) := by show _ = _; rw [HR.out, if_pos hbig]
          have i2 : ((f.max - f.min : Nat) : Int) < (leVal bs : Int) := by omega
          obtain ⟨hg0, hB2, hm2, lv2, hk2, hs2⟩ := hR2
          have y1 := hk2.cell (j := 1) rfl
          have z1 := hk2.frozen 1
          generalize leVal bs = N at *
          go_wp2
          go_ret
          rw [HE.out]
          exact ⟨⟨_, _, rfl, ⟨0, by omega, rfl⟩, hg0, hB2.setCell hg0 _, hm2, _, hk2.set 1 _, hs2⟩, grown_transB hG (grown_set _ _ _ _)⟩
        · have HE : Hid (res = some (f.min + leVal bs, s.drop wd)) := by show _ = _; rw [HR.out, if_neg hbig]
          have i2 : ¬ ((f.max - f.min : Nat) : Int) < (leVal bs : Int) := by omega
          generalize leVal bs = N at *
          go_wp2
          go_ret
          rw [HE.out]
          exact ⟨⟨_, rfl, by simp [Int.add_comm], hR2⟩, hG⟩
  · rw [if_neg hl]
    simp only [if_neg hl] at HT
    go_enter Tryd.func80, Tryd.ntmps80
    go_wp2_with (first | (go_at_call 75; refine (HW.out _).mono ?_; rintro e w1 ⟨rfl, rfl⟩) | (go_at_call 81; refine (HT.out _ (by exact hR.below hb0)).mono ?_; rintro e w2 ⟨⟨bv, s', rfl, rfl, hR2⟩, hg2⟩; have hf2 := hf0.grown hg2 (fun e => by have := Option.some.inj e; omega); have d1 := hf2.cell (j := 1) rfl; have d2 := hf2.cell (j := 2) rfl) | fail)
    refine wp_loop_rounds 1 ?_
    rw [rounds_succ]
    go_wp2
    go_ret
    exact ⟨⟨_, s', rfl, ⟨f.min, by omega, rfl⟩, hR2⟩, grown_transB (grows_below hb0 (some g)) hg2⟩
end Go.Proofs.YthophonofaaafaaDoor
