/-
  What is proved here: the document's own cutting of bytes: so many bytes, and a number of a field. the document's fits tells whether there are bytes of a record, as the plain functions have it. the document's own cutting of a record. the document's own Decode answers the record that was read off all the bytes, or why there is none.
  Conditions: those that each fact names. the fields may be; fields and values lie in memory. fields and bytes lie in memory.
-/
import Derived.Test.YtgfcindkfnjeoaaJRefPackMost
import Derived.Test.YtgfcindkfnjeoaaJPackTake
import Derived.Test.YtgfcindkfnjeoaaJPackMost
import Derived.Test.YtgfcindkfnjeoaaJPackReader
import Derived.OrdersHeld
import Derived.Test.YtgfcindkfnjeoaaJHeldKit
namespace Go.Proofs.Ytgfcindkfnjeoaa
open Go.RowKit

/-- A cut lies here: what is left are bytes of the world ahead of it; am: something was amiss. -/
def Cuts (w0 w : World) (g : Nat) (s : List UInt8) (am : Bool) : Prop := w0.heap.size ≤ g ∧ Below w0.heap.size w0 w ∧ s.length ≤ maxLen ∧ ∃ lv, Blk w g 77 #[lv, .bool am] ∧ Seg w0 lv s
theorem Cuts.grown {w0 w w' : World} {g : Nat} {s : List UInt8} {am : Bool} {row : Option Nat} (h : Cuts w0 w g s am) (hg : w.grownBy w' row) (h1 : some g ≠ row) (h2 : ∀ k, row = some k → w0.heap.size ≤ k) : Cuts w0 w' g s am := by
  obtain ⟨a, b, c, lv, d, e⟩ := h
  exact ⟨a, below_grown b hg b.size h2, c, lv, d.grown hg h1, e⟩
theorem Cuts.below {w0 w w' : World} {g : Nat} {s : List UInt8} {am : Bool} (h : Cuts w0 w g s am) (hb : Below w.heap.size w w') : Cuts w0 w' g s am := h.grown (grows_below hb none) (fun e => by cases e) (fun _ e => by cases e)
theorem Cuts.lt {w0 w : World} {g : Nat} {s : List UInt8} {am : Bool} (h : Cuts w0 w g s am) : g < w.heap.size := by obtain ⟨_, _, _, _, hb, _⟩ := h; exact hb.lt
/-- What a cut answers: something and what is left, or whatever, and amiss. -/
def cutPost {α : Type} (w0 w : World) (g : Nat) (r : Option (α × List UInt8)) (R : α → Value → World → Prop) (A : Value → World → Prop) (e : Ending) (w' : World) : Prop := (match r with
  | some p => ∃ v, e = .returned v ∧ R p.1 v w' ∧ Cuts w0 w' g p.2 false
  | none => ∃ v s', e = .returned v ∧ A v w' ∧ Cuts w0 w' g s' true) ∧ w.grownBy w' (some g)

set_option maxRecDepth 100000 in
set_option maxHeartbeats 1000000 in
theorem refTake_any (n : Nat) (hn : n ≤ maxLen) (s : List UInt8) (g : Nat) (w0 w : World) (hR : Cuts w0 w g s false) :
    Calls Try.prog 62 #[.pointer (some ⟨g, 0, none⟩), .int .i64 (n : Int)] w fun e w' => cutPost w0 w g (if n ≤ s.length then some (s.take n, s.drop n) else none) (fun b v _ => Seg w0 v b) (fun v _ => v = .slice none 0 0) e w' := by
  obtain ⟨hg, hB, hm, lv, hb, hs⟩ := hR
  obtain ⟨ao, c, rfl⟩ := hs.shape
  unfold maxLen at hn hm
  have c0 := hb.cell (j := 0) rfl
  have c1 := hb.cell (j := 1) rfl
  have z0 := hb.frozen 0
  have z1 := hb.frozen 1
  obtain ⟨len, hlen⟩ : ∃ len, len = s.length := ⟨_, rfl⟩
  rw [← hlen] at hs hm hb c0 ⊢
  by_cases h : n ≤ len
  · have i1 : ¬ (len : Int) < (n : Int) := by omega
    obtain ⟨ht, hnc⟩ := hs.takes n h
    have hd := hs.drops n h
    have l1 := slice_to ao len c n hnc
    have l2 := slice_rest ao len c n h
    rw [if_pos h]
    generalize restAt ao c n = ra at *
    have HY : Hid (len = s.length) := hlen
    clear hlen
    go_enter Try.func62, Try.ntmps62
    go_wp2
    go_ret
    exact ⟨⟨_, rfl, ht, hg, hB.setCell hg _, by show (s.drop n).length ≤ maxLen; rw [List.length_drop]; unfold maxLen; have := HY.out; omega, _, hb.set 0 _, hd⟩, grown_set _ _ _ _⟩
  · have i1 : (len : Int) < (n : Int) := by omega
    rw [if_neg h]
    go_enter Try.func62, Try.ntmps62
    go_wp2
    go_ret
    exact ⟨⟨_, s, rfl, rfl, hg, hB.setCell hg _, by unfold maxLen; omega, _, hb.set 1 _, hs⟩, grown_set _ _ _ _⟩

set_option maxRecDepth 100000 in
set_option maxHeartbeats 1000000 in
theorem refTake_amiss (n : Int) (s : List UInt8) (g : Nat) (w0 w : World) (hR : Cuts w0 w g s true) :
    Calls Try.prog 62 #[.pointer (some ⟨g, 0, none⟩), .int .i64 n] w fun e w' => e = .returned (.slice none 0 0) ∧ Cuts w0 w' g s true ∧ w.grownBy w' (some g) := by
  obtain ⟨hg, hB, hm, lv, hb, hs⟩ := hR
  have c1 := hb.cell (j := 1) rfl
  have z1 := hb.frozen 1
  go_enter Try.func62, Try.ntmps62
  go_wp2
  go_ret
  exact ⟨rfl, ⟨hg, hB.setCell hg _, hm, _, hb.set 1 _, hs⟩, grown_set _ _ _ _⟩

set_option maxRecDepth 100000 in
set_option maxHeartbeats 1000000 in
theorem refNum_any (f : Fld) (o : Value) (hmm : f.min ≤ f.max) (hmx : f.max < 18446744073709551616) (s : List UInt8) (g : Nat) (w0 w : World) (hR : Cuts w0 w g s false) :
    Calls Try.prog 61 #[.pointer (some ⟨g, 0, none⟩), fldV f o] w fun e w' => cutPost w0 w g (amtD f s) (fun n v _ => v = .int .u64 (n : Int)) (fun v _ => ∃ n : Nat, n ≤ f.max ∧ v = .int .u64 (n : Int)) e w' := by
  have hwp := wid_pos (f.max - f.min)
  have hwl := wid_le (f.max - f.min)
  have hsub : (f.max : Int) - (f.min : Int) = ((f.max - f.min : Nat) : Int) := by omega
  have HW : Hid (∀ W, Calls Try.prog 54 #[.int .u64 ((f.max - f.min : Nat) : Int)] W fun e w' => e = .returned (.int .i64 (wid (f.max - f.min) : Int)) ∧ w' = W) := fun W => refWidth_any _ (by omega) W
  have HA : Hid (amtD f s = if wid (f.max - f.min) ≤ s.length then (if f.max - f.min < leVal (s.take (wid (f.max - f.min))) then none else some (f.min + leVal (s.take (wid (f.max - f.min))), s.drop (wid (f.max - f.min)))) else none) := by show _ = _; rfl
  rw [HA.out]
  clear HA
  generalize wid (f.max - f.min) = wd at *
  have HT : Hid (∀ W, Cuts w0 W g s false → Calls Try.prog 62 #[.pointer (some ⟨g, 0, none⟩), .int .i64 (wd : Int)] W fun e w' => cutPost w0 W g (if wd ≤ s.length then some (s.take wd, s.drop wd) else none) (fun b v _ => Seg w0 v b) (fun v _ => v = .slice none 0 0) e w') := fun W hW => refTake_any wd (by unfold maxLen; omega) s g w0 W hW
  unfold fldV
  have hgw := hR.lt
  have hb0 : Below w.heap.size w (w.alloc (.cells #[.int .i64 f.kind, .int .u64 (f.min : Int), .int .u64 (f.max : Int), o] 62)) := (Below.refl _ _).alloc (Nat.le_refl _) _
  have hf0 := Blk.new w 62 #[.int .i64 f.kind, .int .u64 (f.min : Int), .int .u64 (f.max : Int), o]
  by_cases hl : wd ≤ s.length
  · rw [if_pos hl]
    simp only [if_pos hl] at HT
    obtain ⟨res, hres⟩ : ∃ res, res = (if f.max - f.min < leVal (s.take wd) then none else some (f.min + leVal (s.take wd), s.drop wd)) := ⟨_, rfl⟩
    rw [← hres]
    have HR : Hid (res = (if f.max - f.min < leVal (s.take wd) then none else some (f.min + leVal (s.take wd), s.drop wd))) := hres
    clear hres
    go_enter Try.func61, Try.ntmps61
    go_wp2_with (first | (go_at_call 54; refine (HW.out _).mono ?_; rintro e w1 ⟨rfl, rfl⟩) | (go_at_call 62; refine (HT.out _ (by exact hR.below hb0)).mono ?_; rintro e w2 ⟨⟨bv, rfl, hbv, hR2⟩, hg2⟩; obtain ⟨ab, cb, rfl⟩ := hbv.shape; have hf2 := hf0.grown hg2 (fun e => by have := Option.some.inj e; omega); have d1 := hf2.cell (j := 1) rfl; have d2 := hf2.cell (j := 2) rfl) | fail)
    have hG := grown_transB (grows_below hb0 (some g)) hg2
    have hbl : (s.take wd).length = wd := by rw [List.length_take]; omega
    generalize hT : s.take wd = bs at *
    obtain ⟨b, off, rfl, hcb, hrow, _⟩ : ∃ b off, ab = some ⟨b, off, none⟩ ∧ wd ≤ cb ∧ Row w2 b off bs ∧ True := by
      rcases hbv with ⟨h1, _⟩ | ⟨b, off, c', h1, h2, h3, h4⟩
      · rw [h1] at hbl; simp at hbl; omega
      · cases h1
        exact ⟨b, off, rfl, by omega, h3.below hR2.2.1 h4, trivial⟩
    have HBL : Hid (bs.length = wd) := hbl
    try rw [hbl]
    clear hbl hT hf2
    go_loopw [6, 7] (fun n i wr => ∃ t : Nat, t ≤ wd ∧ i = .int .i64 ((t : Int) - 1) ∧ n = .int .u64 (leVal (bs.drop t) : Int) ∧ wr = w2) (fun _ i _ => (intOf i + 1).toNat)
    case atStart => exact ⟨wd, Nat.le_refl _, rfl, by rw [List.drop_eq_nil_of_le (by have := HBL.out; omega)]; rfl, rfl⟩
    case round =>
      obtain ⟨t, ht, rfl, rfl, hwr⟩ := hrel
      subst hwr
      by_cases hpos : 0 < t
      · obtain ⟨t', rfl⟩ : ∃ t', t = t' + 1 := ⟨t - 1, by omega⟩
        have hkl : t' < bs.length := by have := HBL.out; omega
        have hc := hrow t' hkl
        have hb := leVal_lt (bs.drop (t' + 1))
        rw [List.length_drop] at hb
        have hb7 : leVal (bs.drop (t' + 1)) < 72057594037927936 := Nat.lt_of_lt_of_le hb (Nat.pow_le_pow_right (n := 256) (by omega) (show _ ≤ 7 by have := HBL.out; omega))
        have HN : Hid (leVal (bs.drop t') = bs[t'].toNat + 256 * leVal (bs.drop (t' + 1))) := by show _ = _; rw [List.drop_eq_getElem_cons hkl]; rfl
        have hx := lt8 bs[t']
        have hx0 := ge8 bs[t']
        have hn8 : Hid (n8 bs[t'] = (bs[t'].toNat : Int)) := rfl
        clear hb hR2 hbv
        generalize leVal (bs.drop (t' + 1)) = N at *
        have e1 : ((t' + 1 : Nat) : Int) - 1 = (t' : Int) := by omega
        rw [e1]
        go_wp2
        go_roundw
        case rel => exact ⟨t', by omega, rfl, by rw [HN.out, hn8.out]; congr 1; omega, trivial⟩
        case measure => simp [intOf]
      · obtain rfl : t = 0 := by omega
        rw [List.drop_zero]
        by_cases hbig : f.max - f.min < leVal bs
        · have HE : Hid (res = none) := by show _ = _; rw [HR.out, if_pos hbig]
          have i2 : ((f.max - f.min : Nat) : Int) < (leVal bs : Int) := by omega
          obtain ⟨hg0, hB2, hm2, lv2, hk2, hs2⟩ := hR2
          have y1 := hk2.cell (j := 1) rfl
          have z1 := hk2.frozen 1
          generalize leVal bs = N at *
          go_wp2
          go_ret
          rw [HE.out]
          exact ⟨⟨_, _, rfl, ⟨0, by omega, rfl⟩, hg0, hB2.setCell hg0 _, hm2, _, hk2.set 1 _, hs2⟩, grown_transB hG (grown_set _ _ _ _)⟩
        · have HE : Hid (res = some (f.min + leVal bs, s.drop wd)) := by show _ = _; rw [HR.out, if_neg hbig]
          have i2 : ¬ ((f.max - f.min : Nat) : Int) < (leVal bs : Int) := by omega
          generalize leVal bs = N at *
          go_wp2
          go_ret
          rw [HE.out]
          exact ⟨⟨_, rfl, by simp [Int.add_comm], hR2⟩, hG⟩
  · rw [if_neg hl]
    simp only [if_neg hl] at HT
    go_enter Try.func61, Try.ntmps61
    go_wp2_with (first | (go_at_call 54; refine (HW.out _).mono ?_; rintro e w1 ⟨rfl, rfl⟩) | (go_at_call 62; refine (HT.out _ (by exact hR.below hb0)).mono ?_; rintro e w2 ⟨⟨bv, s', rfl, rfl, hR2⟩, hg2⟩; have hf2 := hf0.grown hg2 (fun e => by have := Option.some.inj e; omega); have d1 := hf2.cell (j := 1) rfl; have d2 := hf2.cell (j := 2) rfl) | fail)
    refine wp_loop_rounds 1 ?_
    rw [rounds_succ]
    go_wp2
    go_ret
    exact ⟨⟨_, s', rfl, ⟨f.min, by omega, rfl⟩, hR2⟩, grown_transB (grows_below hb0 (some g)) hg2⟩
end Go.Proofs.Ytgfcindkfnjeoaa
namespace Go.Proofs.Ytgfcindkfnjeoaa
open Go.RowKit

def refFitsSaid (r : Nat) : Prop := ∀ (n : Nat) (lv : Value) (l : List Fld) (m : Nat) (vv : Value) (v : List Val) (M : Nat) (w : World), mostL r l = some M → Flds w n lv l → Vals w m vv v →
    Calls Try.prog 38 #[lv, vv] w fun e w' => e = .returned (.bool (encL r l v).isSome) ∧ Below w.heap.size w w'
theorem index_records (b off len c I : Nat) (w : World) (h : I < len) : (Instr.indexAt 66 (.slice (some ⟨b, off, none⟩) len c) (.int .i64 (I : Int))).run Try.prog w = .ok (.pointer (some ⟨b, off + I, none⟩)) w := by
  have hs : ∀ w, (sizeOf 42).run Try.prog w = .ok 1 w := fun w => by kernel_rfl
  have hi : (0 : Int) ≤ (I : Int) ∧ (I : Int) < (len : Int) := by omega
  simp [Instr.indexAt, asIntOf, run_underlying Try.underlying66, hs, hi, Addr.add_mid]
  intro h2
  omega
theorem exec_two {a : Act} {o : Oper} {w : World} (f : FuncId) (x y : Operand) (ts : Array TypeId) (ho : o.op = .call { callee := .value (.func f), args := #[x, y], argTypes := ts }) (u v : Value) (hx : a.eval x = u) (hy : a.eval y = v) (hc : ∀ args w, (callFunc f args).run Try.prog w = .ok (.enter f args) w) : (execOp a.eval o).run Try.prog w = .ok (.enter f #[u, v]) w := by
  have he : a.eval (.func f) = .func (.func f) #[] #[] := rfl
  unfold execOp
  simp [ho, resolve, invoke, Deferred.ofValue, he, hx, hy, hc]
theorem encOne_no {E : List Fld → List Val → Option (List UInt8)} {f : Fld} {x : Val} (h : ¬ ∃ n, amountOf f x = some n ∧ f.min ≤ n ∧ n ≤ f.max) : encOne E f x = none := by
  unfold encOne
  cases ha : amountOf f x with
  | none => rfl
  | some n =>
    simp only
    rw [if_pos]
    by_cases h1 : n < f.min
    · exact .inl h1
    · exact .inr (by
        by_cases h2 : f.max < n
        · exact h2
        · exact absurd ⟨n, ha, by omega, by omega⟩ h)
theorem encOne_cat {E : List Fld → List Val → Option (List UInt8)} {f : Fld} {x : Val} {n : Nat} (h : amountOf f x = some n) (h1 : f.min ≤ n) (h2 : n ≤ f.max) : encOne E f x = (catO (x.l.map (E f.of))).map (fun r => leN (n - f.min) (wid (f.max - f.min)) ++ (x.b ++ r)) := by
  unfold encOne
  rw [h]
  exact if_neg (by omega)
theorem amount_1 {f : Fld} {x : Val} (h : f.kind = 1) (n : Nat) : amountOf f x = some n ↔ (x.b.length = 0 ∧ x.l.length = 0 ∧ n = x.n) := by
  unfold amountOf
  rw [if_pos h]
  by_cases hh : x.b.length = 0 ∧ x.l.length = 0
  · rw [if_pos hh]
    exact ⟨fun e => ⟨hh.1, hh.2, (Option.some.inj e).symm⟩, fun e => by rw [e.2.2]⟩
  · rw [if_neg hh]
    exact ⟨fun e => (by cases e), fun e => absurd ⟨e.1, e.2.1⟩ hh⟩
theorem amount_2 {f : Fld} {x : Val} (h : f.kind = 2) (n : Nat) : amountOf f x = some n ↔ (x.n = 0 ∧ x.l.length = 0 ∧ n = x.b.length) := by
  unfold amountOf
  rw [if_neg (by omega), if_pos h]
  by_cases hh : x.n = 0 ∧ x.l.length = 0
  · rw [if_pos hh]
    exact ⟨fun e => ⟨hh.1, hh.2, (Option.some.inj e).symm⟩, fun e => by rw [e.2.2]⟩
  · rw [if_neg hh]
    exact ⟨fun e => (by cases e), fun e => absurd ⟨e.1, e.2.1⟩ hh⟩
theorem amount_3 {f : Fld} {x : Val} (h : f.kind = 3) (n : Nat) : amountOf f x = some n ↔ (x.n = 0 ∧ x.b.length = 0 ∧ n = x.l.length) := by
  unfold amountOf
  rw [if_neg (by omega), if_neg (by omega)]
  by_cases hh : x.n = 0 ∧ x.b.length = 0
  · rw [if_pos hh]
    exact ⟨fun e => ⟨hh.1, hh.2, (Option.some.inj e).symm⟩, fun e => by rw [e.2.2]⟩
  · rw [if_neg hh]
    exact ⟨fun e => (by cases e), fun e => absurd ⟨e.1, e.2.1⟩ hh⟩

set_option maxRecDepth 100000 in
set_option maxHeartbeats 4000000 in
theorem refFits_any (r : Nat) : refFitsSaid r := by
  induction r with
  | zero =>
    intro n lv l m vv v M w h
    simp [mostL] at h
  | succ r ih =>
    intro n lv l m vv v M w hM hFl hVl
    obtain ⟨hSum, hl1, hl16, hMb⟩ := mostL_succ hM
    obtain ⟨ao, c, hlv, hlm, hFc⟩ := hFl.form
    obtain ⟨av, cv, hvv, hvm, hVc⟩ := hVl.form
    unfold maxLen at hlm hvm
    subst hlv
    subst hvv
    have HE : Hid (encL (r + 1) l v = if l.length = v.length then catO (List.zipWith (encOne (encL r)) l v) else none) := rfl
    have HSum : Hid (mostSum (mostL r) l = some M) := hSum
    clear hSum
    by_cases hlen : l.length = v.length
    · have HE' : Hid (encL (r + 1) l v = catO (List.zipWith (encOne (encL r)) l v)) := by show _ = _; rw [HE.out, if_pos hlen]
      obtain ⟨bF, offF, hao, hbF, hcF, hF⟩ := hFc (by omega)
      obtain ⟨bV, offV, hav, hbV, hcV, hV⟩ := hVc (by omega)
      subst hao
      subst hav
      obtain ⟨len, hle⟩ : ∃ len, l.length = len := ⟨_, rfl⟩
      have hle2 : v.length = len := by omega
      rw [hle] at hl1 hl16 hlm hcF ⊢
      rw [hle2] at hvm hcV ⊢
      have HLE : Hid (l.length = len ∧ v.length = len) := ⟨hle, hle2⟩
      clear hlen hle hle2
      go_enter Try.func38, Try.ntmps38
      go_wp2
      go_loopw [5] (fun i wr => ∃ (I : Nat) (q : List UInt8), I ≤ len ∧ i = .int .i64 (I : Int) ∧ catO ((List.zipWith (encOne (encL r)) l v).take I) = some q ∧ Below w.heap.size w wr) (fun i _ => len - (intOf i).toNat)
      case atStart => exact ⟨0, [], Nat.zero_le _, rfl, by simp [catO], Below.refl _ _⟩
      case round =>
        obtain ⟨I, q, hI, rfl, hcat, hB⟩ := hrel
        have HC : Hid (catO ((List.zipWith (encOne (encL r)) l v).take I) = some q) := hcat
        clear hcat
        have s1 := hB.size
        by_cases hlt : I < len
        · obtain ⟨f, hf1⟩ : ∃ f, l[I]? = some f := ⟨l[I]'(by have := HLE.out.1; omega), List.getElem?_eq_getElem (by have := HLE.out.1; omega)⟩
          obtain ⟨x, hx1⟩ : ∃ x, v[I]? = some x := ⟨v[I]'(by have := HLE.out.2; omega), List.getElem?_eq_getElem (by have := HLE.out.2; omega)⟩
          obtain ⟨a, S', hmo, hS', hSa⟩ := mostSum_part _ l M I f HSum.out hf1
          have K := Keeps.of_below hB (Nat.le_refl _)
          obtain ⟨f0, f1, f2, ⟨o, f3, hof⟩, hmn, hmx⟩ := (hF I f hf1)
          obtain ⟨x0, ⟨bv, x1, hbv, hbl⟩, ⟨al, cl, x2, hll, hrecs⟩, hxn⟩ := hV I x hx1
          obtain ⟨ab, cb, hbve⟩ : ∃ ab cb, bv = .slice ab x.b.length cb := by
            rcases hbv with ⟨h, ao, c, h2, _⟩ | ⟨b, off, c, h2, _, _, _⟩
            · rw [h]; exact ⟨ao, c, h2⟩
            · exact ⟨_, c, h2⟩
          subst hbve
          obtain ⟨ao2, cc2, ho2, hol2, _⟩ := hof.form
          subst ho2
          unfold maxLen at hbl hll hol2
          have c0 := K.cell f0
          have c1 := K.cell f1
          have c2 := K.cell f2
          have c3 := K.cell f3
          have d0 := K.cell x0
          have d1 := K.cell x1
          have d2 := K.cell x2
          have HZ : Hid ((List.zipWith (encOne (encL r)) l v)[I]? = some (encOne (encL r) f x)) := zip_at _ l v I f x hf1 hx1
          have HN : Hid (encOne (encL r) f x = none → encL (r + 1) l v = none) := fun h => by rw [HE'.out, catO_none _ I (by rw [HZ.out, h])]
          have HS : Hid (∀ nb, encOne (encL r) f x = some nb → catO ((List.zipWith (encOne (encL r)) l v).take (I + 1)) = some (q ++ nb)) := fun nb h => catO_snoc _ I q nb (by rw [HZ.out, h]) HC.out
          have HIH : Hid (∀ k, mostL r f.of = some k → ∀ (rv : Value) (rec : List Val) (W : World), Keeps w W → Vals w (m - 1) rv rec → Calls Try.prog 38 #[.slice ao2 f.of.length cc2, rv] W fun e w' => e = .returned (.bool (encL r f.of rec).isSome) ∧ Below W.heap.size W w') := fun k hk rv rec W hW hr => ih (n - 1) _ f.of (m - 1) rv rec k W hk (Flds.keeps hW _ _ _ hof) (Vals.keeps hW _ _ _ hr)
          have i1 : (I : Int) < (len : Int) := by omega
          have hmm := mostOne_le' hmo
          have hbVr : bV < wr.heap.size := by omega
          have hbVr' : bV ≠ wr.heap.size := by omega
          clear f0 f1 f2 f3 x0 x1 x2 hbv hof
          obtain ⟨BL, hBL⟩ : ∃ BL, x.b.length = BL := ⟨_, rfl⟩
          obtain ⟨LL, hLL⟩ : ∃ LL, x.l.length = LL := ⟨_, rfl⟩
          obtain ⟨XN, hXN⟩ : ∃ XN, x.n = XN := ⟨_, rfl⟩
          have A1 := fun h n => amount_1 (f := f) (x := x) h n
          have A2 := fun h n => amount_2 (f := f) (x := x) h n
          have A3 := fun h n => amount_3 (f := f) (x := x) h n
          rw [hBL, hLL, hXN] at A1 A2 A3
          rw [hBL] at hbl d1
          rw [hLL] at hll d2 hrecs
          rw [hXN] at hxn d0
          have HLL : Hid (x.l.length = LL) := hLL
          clear hBL hLL hXN
          have HBB : Hid (Below w.heap.size w ((wr.alloc (.cells #[.int .i64 f.kind, .int .u64 (f.min : Int), .int .u64 (f.max : Int), .slice ao2 f.of.length cc2] 62)).alloc (.cells #[.int .u64 (XN : Int), .slice ab BL cb, .slice al LL cl] 68))) := (hB.alloc s1 _).alloc (by simp; omega) _
          by_cases hk1 : f.kind = 1
          · have j1 : (f.kind == 1) = true := by simpa using hk1
            have HA : Hid (∀ n, amountOf f x = some n ↔ (BL = 0 ∧ LL = 0 ∧ n = XN)) := A1 hk1
            clear hk1 A1 A2 A3
            by_cases hz1 : BL = 0
            · subst hz1
              by_cases hz2 : LL = 0
              · subst hz2
                by_cases hlo : XN < f.min
                · have hno : Hid (encL (r + 1) l v = none) := HN.out (encOne_no (fun ⟨n, h, h1, h2⟩ => by have := ((HA.out n).1 h).2.2; omega))
                  have jl : (XN : Int) < (f.min : Int) := by omega
                  clear HA HN HS HIH HZ
                  go_wp2
                  go_ret
                  exact ⟨by rw [hno.out]; rfl, HBB.out⟩
                by_cases hhi : f.max < XN
                · have hno : Hid (encL (r + 1) l v = none) := HN.out (encOne_no (fun ⟨n, h, h1, h2⟩ => by have := ((HA.out n).1 h).2.2; omega))
                  have jl : ¬ (XN : Int) < (f.min : Int) := by omega
                  have jh : (f.max : Int) < (XN : Int) := by omega
                  clear HA HN HS HIH HZ
                  go_wp2
                  go_ret
                  exact ⟨by rw [hno.out]; rfl, HBB.out⟩
                have jl : ¬ (XN : Int) < (f.min : Int) := by omega
                have jh : ¬ (f.max : Int) < (XN : Int) := by omega
                have HEC : Hid (encOne (encL r) f x = (catO (x.l.map (encL r f.of))).map (fun r => leN (XN - f.min) (wid (f.max - f.min)) ++ (x.b ++ r))) := encOne_cat ((HA.out _).2 ⟨rfl, rfl, rfl⟩) (by omega) (by omega)
                clear HA
                go_wp2
                obtain ⟨w2, hw2⟩ : ∃ w2, w2 = (wr.alloc (.cells #[.int .i64 f.kind, .int .u64 (f.min : Int), .int .u64 (f.max : Int), .slice ao2 f.of.length cc2] 62)).alloc (.cells #[.int .u64 (XN : Int), .slice ab 0 cb, .slice al 0 cl] 68) := ⟨_, rfl⟩
                have hB2 : Below w.heap.size w w2 := by rw [hw2]; exact HBB.out
                rw [← hw2]
                have hF2 : Blk w2 wr.heap.size 62 #[.int .i64 f.kind, .int .u64 (f.min : Int), .int .u64 (f.max : Int), .slice ao2 f.of.length cc2] := by rw [hw2]; exact (Blk.new wr _ _).alloc _
                have hV2 : Blk w2 (wr.heap.size + 1) 68 #[.int .u64 (XN : Int), .slice ab 0 cb, .slice al 0 cl] := by rw [hw2]; exact Blk.newAt _ _ _ _ (by simp)
                clear hw2 HBB
                obtain ⟨wo, rfl⟩ : ∃ wo : World, wo = wr := ⟨_, rfl⟩
                go_loopw [9] (fun i wr => ∃ (k : Nat) (p : List UInt8), k ≤ 0 ∧ i = .int .i64 (k : Int) ∧ catO ((x.l.map (encL r f.of)).take k) = some p ∧ Below w2.heap.size w2 wr) (fun i _ => 0 - (intOf i).toNat)
                case atStart => exact ⟨0, [], Nat.zero_le _, rfl, by simp [catO], Below.refl _ _⟩
                case round =>
                  obtain ⟨k, p, hk, rfl, hcat, hBq⟩ := hrel
                  have HP : Hid (catO ((x.l.map (encL r f.of)).take k) = some p) := hcat
                  clear hcat
                  have hFq := hF2.below hBq hF2.lt
                  have hVq := hV2.below hBq hV2.lt
                  have e2 := hVq.cell (j := 2) rfl
                  have hBw : Below w.heap.size w wr := hB2.trans (hBq.mono hB2.size)
                  have HT : Hid (catO (x.l.map (encL r f.of)) = some p) := by show _ = _; rw [← HP.out, List.take_of_length_le (by have := HLL.out; simp; omega)]
                  obtain rfl : k = 0 := by omega
                  go_wp2
                  go_roundw
                  case rel => exact ⟨I + 1, _, hlt, by go_num, HS.out _ (by rw [HEC.out, HT.out]; rfl), hBw⟩
                  case measure => simp [intOf]; omega
              · have hno : Hid (encL (r + 1) l v = none) := HN.out (encOne_no (fun ⟨n, h, _, _⟩ => hz2 ((HA.out n).1 h).2.1))
                have jz2 : (0 : Int) < (LL : Int) := by omega
                clear HA HN HS HIH HZ hz2
                go_wp2
                go_ret
                exact ⟨by rw [hno.out]; rfl, HBB.out⟩
            · have hno : Hid (encL (r + 1) l v = none) := HN.out (encOne_no (fun ⟨n, h, _, _⟩ => hz1 ((HA.out n).1 h).1))
              have jz1 : (0 : Int) < (BL : Int) := by omega
              clear HA HN HS HIH HZ hz1
              go_wp2
              go_ret
              exact ⟨by rw [hno.out]; rfl, HBB.out⟩
          have j1 : (f.kind == 1) = false := by simpa using hk1
          by_cases hk2 : f.kind = 2
          · have j2 : (f.kind == 2) = true := by simpa using hk2
            have HA : Hid (∀ n, amountOf f x = some n ↔ (XN = 0 ∧ LL = 0 ∧ n = BL)) := A2 hk2
            clear hk1 hk2 A1 A2 A3
            by_cases hz1 : XN = 0
            · subst hz1
              by_cases hz2 : LL = 0
              · subst hz2
                by_cases hlo : BL < f.min
                · have hno : Hid (encL (r + 1) l v = none) := HN.out (encOne_no (fun ⟨n, h, h1, h2⟩ => by have := ((HA.out n).1 h).2.2; omega))
                  have jl : (BL : Int) < (f.min : Int) := by omega
                  clear HA HN HS HIH HZ
                  go_wp2
                  go_ret
                  exact ⟨by rw [hno.out]; rfl, HBB.out⟩
                by_cases hhi : f.max < BL
                · have hno : Hid (encL (r + 1) l v = none) := HN.out (encOne_no (fun ⟨n, h, h1, h2⟩ => by have := ((HA.out n).1 h).2.2; omega))
                  have jl : ¬ (BL : Int) < (f.min : Int) := by omega
                  have jh : (f.max : Int) < (BL : Int) := by omega
                  clear HA HN HS HIH HZ
                  go_wp2
                  go_ret
                  exact ⟨by rw [hno.out]; rfl, HBB.out⟩
                have jl : ¬ (BL : Int) < (f.min : Int) := by omega
                have jh : ¬ (f.max : Int) < (BL : Int) := by omega
                have HEC : Hid (encOne (encL r) f x = (catO (x.l.map (encL r f.of))).map (fun r => leN (BL - f.min) (wid (f.max - f.min)) ++ (x.b ++ r))) := encOne_cat ((HA.out _).2 ⟨rfl, rfl, rfl⟩) (by omega) (by omega)
                clear HA
                go_wp2
                obtain ⟨w2, hw2⟩ : ∃ w2, w2 = (wr.alloc (.cells #[.int .i64 f.kind, .int .u64 (f.min : Int), .int .u64 (f.max : Int), .slice ao2 f.of.length cc2] 62)).alloc (.cells #[.int .u64 0, .slice ab BL cb, .slice al 0 cl] 68) := ⟨_, rfl⟩
                have hB2 : Below w.heap.size w w2 := by rw [hw2]; exact HBB.out
                rw [← hw2]
                have hF2 : Blk w2 wr.heap.size 62 #[.int .i64 f.kind, .int .u64 (f.min : Int), .int .u64 (f.max : Int), .slice ao2 f.of.length cc2] := by rw [hw2]; exact (Blk.new wr _ _).alloc _
                have hV2 : Blk w2 (wr.heap.size + 1) 68 #[.int .u64 0, .slice ab BL cb, .slice al 0 cl] := by rw [hw2]; exact Blk.newAt _ _ _ _ (by simp)
                clear hw2 HBB
                obtain ⟨wo, rfl⟩ : ∃ wo : World, wo = wr := ⟨_, rfl⟩
                go_loopw [9] (fun i wr => ∃ (k : Nat) (p : List UInt8), k ≤ 0 ∧ i = .int .i64 (k : Int) ∧ catO ((x.l.map (encL r f.of)).take k) = some p ∧ Below w2.heap.size w2 wr) (fun i _ => 0 - (intOf i).toNat)
                case atStart => exact ⟨0, [], Nat.zero_le _, rfl, by simp [catO], Below.refl _ _⟩
                case round =>
                  obtain ⟨k, p, hk, rfl, hcat, hBq⟩ := hrel
                  have HP : Hid (catO ((x.l.map (encL r f.of)).take k) = some p) := hcat
                  clear hcat
                  have hFq := hF2.below hBq hF2.lt
                  have hVq := hV2.below hBq hV2.lt
                  have e2 := hVq.cell (j := 2) rfl
                  have hBw : Below w.heap.size w wr := hB2.trans (hBq.mono hB2.size)
                  have HT : Hid (catO (x.l.map (encL r f.of)) = some p) := by show _ = _; rw [← HP.out, List.take_of_length_le (by have := HLL.out; simp; omega)]
                  obtain rfl : k = 0 := by omega
                  go_wp2
                  go_roundw
                  case rel => exact ⟨I + 1, _, hlt, by go_num, HS.out _ (by rw [HEC.out, HT.out]; rfl), hBw⟩
                  case measure => simp [intOf]; omega
              · have hno : Hid (encL (r + 1) l v = none) := HN.out (encOne_no (fun ⟨n, h, _, _⟩ => hz2 ((HA.out n).1 h).2.1))
                have jz2 : (0 : Int) < (LL : Int) := by omega
                clear HA HN HS HIH HZ hz2
                go_wp2
                go_ret
                exact ⟨by rw [hno.out]; rfl, HBB.out⟩
            · have hno : Hid (encL (r + 1) l v = none) := HN.out (encOne_no (fun ⟨n, h, _, _⟩ => hz1 ((HA.out n).1 h).1))
              have jz1 : ((XN : Int) != 0) = true := by rw [bne_iff_ne]; omega
              clear HA HN HS HIH HZ hz1
              go_wp2
              go_ret
              exact ⟨by rw [hno.out]; rfl, HBB.out⟩
          have j2 : (f.kind == 2) = false := by simpa using hk2
          obtain ⟨hk3, kk, hkk, _⟩ := mostOne_of hmo hk1 hk2
          have j3 : (f.kind == 3) = true := by simpa using hk3
          have HA : Hid (∀ n, amountOf f x = some n ↔ (XN = 0 ∧ BL = 0 ∧ n = LL)) := A3 hk3
          clear hk1 hk2 hk3 A1 A2 A3
          by_cases hz1 : XN = 0
          · subst hz1
            by_cases hz2 : BL = 0
            · subst hz2
              by_cases hlo : LL < f.min
              · have hno : Hid (encL (r + 1) l v = none) := HN.out (encOne_no (fun ⟨n, h, h1, h2⟩ => by have := ((HA.out n).1 h).2.2; omega))
                have jl : (LL : Int) < (f.min : Int) := by omega
                clear HA HN HS HIH HZ
                go_wp2
                go_ret
                exact ⟨by rw [hno.out]; rfl, HBB.out⟩
              by_cases hhi : f.max < LL
              · have hno : Hid (encL (r + 1) l v = none) := HN.out (encOne_no (fun ⟨n, h, h1, h2⟩ => by have := ((HA.out n).1 h).2.2; omega))
                have jl : ¬ (LL : Int) < (f.min : Int) := by omega
                have jh : (f.max : Int) < (LL : Int) := by omega
                clear HA HN HS HIH HZ
                go_wp2
                go_ret
                exact ⟨by rw [hno.out]; rfl, HBB.out⟩
              have jl : ¬ (LL : Int) < (f.min : Int) := by omega
              have jh : ¬ (f.max : Int) < (LL : Int) := by omega
              have HEC : Hid (encOne (encL r) f x = (catO (x.l.map (encL r f.of))).map (fun r => leN (LL - f.min) (wid (f.max - f.min)) ++ (x.b ++ r))) := encOne_cat ((HA.out _).2 ⟨rfl, rfl, rfl⟩) (by omega) (by omega)
              clear HA
              go_wp2
              obtain ⟨w2, hw2⟩ : ∃ w2, w2 = (wr.alloc (.cells #[.int .i64 f.kind, .int .u64 (f.min : Int), .int .u64 (f.max : Int), .slice ao2 f.of.length cc2] 62)).alloc (.cells #[.int .u64 0, .slice ab 0 cb, .slice al LL cl] 68) := ⟨_, rfl⟩
              have hB2 : Below w.heap.size w w2 := by rw [hw2]; exact HBB.out
              rw [← hw2]
              have hF2 : Blk w2 wr.heap.size 62 #[.int .i64 f.kind, .int .u64 (f.min : Int), .int .u64 (f.max : Int), .slice ao2 f.of.length cc2] := by rw [hw2]; exact (Blk.new wr _ _).alloc _
              have hV2 : Blk w2 (wr.heap.size + 1) 68 #[.int .u64 0, .slice ab 0 cb, .slice al LL cl] := by rw [hw2]; exact Blk.newAt _ _ _ _ (by simp)
              clear hw2 HBB
              obtain ⟨wo, rfl⟩ : ∃ wo : World, wo = wr := ⟨_, rfl⟩
              go_loopw [9] (fun i wr => ∃ (k : Nat) (p : List UInt8), k ≤ LL ∧ i = .int .i64 (k : Int) ∧ catO ((x.l.map (encL r f.of)).take k) = some p ∧ Below w2.heap.size w2 wr) (fun i _ => LL - (intOf i).toNat)
              case atStart => exact ⟨0, [], Nat.zero_le _, rfl, by simp [catO], Below.refl _ _⟩
              case round =>
                obtain ⟨k, p, hk, rfl, hcat, hBq⟩ := hrel
                have HP : Hid (catO ((x.l.map (encL r f.of)).take k) = some p) := hcat
                clear hcat
                have hFq := hF2.below hBq hF2.lt
                have hVq := hV2.below hBq hV2.lt
                have e2 := hVq.cell (j := 2) rfl
                have hBw : Below w.heap.size w wr := hB2.trans (hBq.mono hB2.size)
                by_cases hlk : k < LL
                · obtain ⟨bL, offL, rfl, hbL, hcL, hrec⟩ := hrecs (by omega)
                  obtain ⟨rec, hrec1⟩ : ∃ rec, x.l[k]? = some rec := ⟨x.l[k]'(by have := HLL.out; omega), List.getElem?_eq_getElem (by have := HLL.out; omega)⟩
                  obtain ⟨rv, r1, r2⟩ := hrec k rec hrec1
                  have ik : (k : Int) < (LL : Int) := by omega
                  have HQ : Hid ((x.l.map (encL r f.of))[k]? = some (encL r f.of rec)) := by show _ = _; rw [List.getElem?_map, hrec1]; rfl
                  have HCc := HIH.out kk hkk rv rec
                  have hHC : Hid (∀ W, Keeps w W → Calls Try.prog 38 #[.slice ao2 f.of.length cc2, rv] W fun e w' => e = .returned (.bool (encL r f.of rec).isSome) ∧ Below W.heap.size W w') := fun W hW => HCc W hW r2
                  clear HCc
                  cases hen : encL r f.of rec with
                  | none =>
                    rw [hen] at hHC HQ
                    go_wp2_with fail
                    refine held_begin (fun W => Below wr.heap.size wr W) (by kernel_rfl) ?_
                    have hS1 : Below wr.heap.size wr wr.drew := (Below.refl _ _).drew
                    refine held_take 0 93 _ (.pointer (some ⟨wo.heap.size, 3, none⟩)) rfl rfl (by kernel_rfl) (by kernel_rfl) (by kernel_rfl) rfl hS1 (fun _ _ => rfl) ?_
                    simp only [Act.put, List.setIfInBounds_toArray, List.set_cons_succ, List.set_cons_zero]
                    refine held_take 1 94 _ (.slice ao2 f.of.length cc2) rfl rfl (by kernel_rfl) (by kernel_rfl) (by kernel_rfl) rfl hS1 (fun W hW => exec_load1 _ _ rfl (fun _ => by kernel_rfl) _ _ rfl _ ((hFq.below hW hFq.lt).cell (j := 3) rfl)) ?_
                    simp only [Act.put, List.setIfInBounds_toArray, List.set_cons_succ, List.set_cons_zero]
                    refine held_take 2 95 _ (.pointer (some ⟨wo.heap.size + 1, 2, none⟩)) rfl rfl (by kernel_rfl) (by kernel_rfl) (by kernel_rfl) rfl hS1 (fun _ _ => rfl) ?_
                    simp only [Act.put, List.setIfInBounds_toArray, List.set_cons_succ, List.set_cons_zero]
                    refine held_take 3 96 _ (.slice (some ⟨bL, offL, none⟩) LL cl) rfl rfl (by kernel_rfl) (by kernel_rfl) (by kernel_rfl) rfl hS1 (fun W hW => exec_load1 _ _ rfl (fun _ => by kernel_rfl) _ _ rfl _ ((hVq.below hW hVq.lt).cell (j := 2) rfl)) ?_
                    simp only [Act.put, List.setIfInBounds_toArray, List.set_cons_succ, List.set_cons_zero]
                    refine held_take 4 97 _ (.int .i64 (k : Int)) rfl rfl (by kernel_rfl) (by kernel_rfl) (by kernel_rfl) rfl hS1 (fun _ _ => rfl) ?_
                    simp only [Act.put, List.setIfInBounds_toArray, List.set_cons_succ, List.set_cons_zero]
                    refine held_take 5 98 _ (.pointer (some ⟨bL, offL + k, none⟩)) rfl rfl (by kernel_rfl) (by kernel_rfl) (by kernel_rfl) rfl hS1 (fun W _ => exec_index _ _ _ rfl _ _ _ rfl rfl (index_records bL offL LL cl k W hlk)) ?_
                    simp only [Act.put, List.setIfInBounds_toArray, List.set_cons_succ, List.set_cons_zero]
                    refine held_take 6 99 _ rv rfl rfl (by kernel_rfl) (by kernel_rfl) (by kernel_rfl) rfl hS1 (fun W hW => exec_load1 _ _ rfl (fun _ => by kernel_rfl) _ _ rfl _ ((Keeps.of_below (hBw.trans (hW.mono hBw.size)) (Nat.le_refl _)).cell r1)) ?_
                    simp only [Act.put, List.setIfInBounds_toArray, List.set_cons_succ, List.set_cons_zero]
                    refine held_call 7 100 _ 38 _ rfl rfl (by kernel_rfl) rfl (exec_two 38 _ _ _ rfl _ _ rfl rfl Try.call38) ?_
                    refine (hHC.out _ (Keeps.of_below (hBw.trans (hS1.mono hBw.size)) (Nat.le_refl _))).mono ?_
                    rintro e w5 ⟨rfl, hb5⟩
                    have hS5 : Below wr.heap.size wr w5 := hS1.trans (hb5.mono hS1.size)
                    refine ⟨_, rfl, hS5, ?_⟩
                    simp only [Act.put, List.setIfInBounds_toArray, List.set_cons_succ, List.set_cons_zero]
                    refine held_one 8 10 _ (.bool false) rfl rfl (by kernel_rfl) rfl hS5 rfl ?_
                    simp only [Act.put, List.setIfInBounds_toArray, List.set_cons_succ, List.set_cons_zero]
                    refine wpAnyH_done (by kernel_rfl) ?_ _
                    refine NoPanic.normal ?_
                    have hno : Hid (encL (r + 1) l v = none) := HN.out (by rw [HEC.out, catO_none _ k HQ.out]; rfl)
                    go_wp2
                    go_ret
                    exact ⟨by rw [hno.out]; rfl, hBw.trans (hS5.mono hBw.size)⟩
                  | some nb =>
                    rw [hen] at hHC HQ
                    go_wp2_with fail
                    refine held_begin (fun W => Below wr.heap.size wr W) (by kernel_rfl) ?_
                    have hS1 : Below wr.heap.size wr wr.drew := (Below.refl _ _).drew
                    refine held_take 0 93 _ (.pointer (some ⟨wo.heap.size, 3, none⟩)) rfl rfl (by kernel_rfl) (by kernel_rfl) (by kernel_rfl) rfl hS1 (fun _ _ => rfl) ?_
                    simp only [Act.put, List.setIfInBounds_toArray, List.set_cons_succ, List.set_cons_zero]
                    refine held_take 1 94 _ (.slice ao2 f.of.length cc2) rfl rfl (by kernel_rfl) (by kernel_rfl) (by kernel_rfl) rfl hS1 (fun W hW => exec_load1 _ _ rfl (fun _ => by kernel_rfl) _ _ rfl _ ((hFq.below hW hFq.lt).cell (j := 3) rfl)) ?_
                    simp only [Act.put, List.setIfInBounds_toArray, List.set_cons_succ, List.set_cons_zero]
                    refine held_take 2 95 _ (.pointer (some ⟨wo.heap.size + 1, 2, none⟩)) rfl rfl (by kernel_rfl) (by kernel_rfl) (by kernel_rfl) rfl hS1 (fun _ _ => rfl) ?_
                    simp only [Act.put, List.setIfInBounds_toArray, List.set_cons_succ, List.set_cons_zero]
                    refine held_take 3 96 _ (.slice (some ⟨bL, offL, none⟩) LL cl) rfl rfl (by kernel_rfl) (by kernel_rfl) (by kernel_rfl) rfl hS1 (fun W hW => exec_load1 _ _ rfl (fun _ => by kernel_rfl) _ _ rfl _ ((hVq.below hW hVq.lt).cell (j := 2) rfl)) ?_
                    simp only [Act.put, List.setIfInBounds_toArray, List.set_cons_succ, List.set_cons_zero]
                    refine held_take 4 97 _ (.int .i64 (k : Int)) rfl rfl (by kernel_rfl) (by kernel_rfl) (by kernel_rfl) rfl hS1 (fun _ _ => rfl) ?_
                    simp only [Act.put, List.setIfInBounds_toArray, List.set_cons_succ, List.set_cons_zero]
                    refine held_take 5 98 _ (.pointer (some ⟨bL, offL + k, none⟩)) rfl rfl (by kernel_rfl) (by kernel_rfl) (by kernel_rfl) rfl hS1 (fun W _ => exec_index _ _ _ rfl _ _ _ rfl rfl (index_records bL offL LL cl k W hlk)) ?_
                    simp only [Act.put, List.setIfInBounds_toArray, List.set_cons_succ, List.set_cons_zero]
                    refine held_take 6 99 _ rv rfl rfl (by kernel_rfl) (by kernel_rfl) (by kernel_rfl) rfl hS1 (fun W hW => exec_load1 _ _ rfl (fun _ => by kernel_rfl) _ _ rfl _ ((Keeps.of_below (hBw.trans (hW.mono hBw.size)) (Nat.le_refl _)).cell r1)) ?_
                    simp only [Act.put, List.setIfInBounds_toArray, List.set_cons_succ, List.set_cons_zero]
                    refine held_call 7 100 _ 38 _ rfl rfl (by kernel_rfl) rfl (exec_two 38 _ _ _ rfl _ _ rfl rfl Try.call38) ?_
                    refine (hHC.out _ (Keeps.of_below (hBw.trans (hS1.mono hBw.size)) (Nat.le_refl _))).mono ?_
                    rintro e w5 ⟨rfl, hb5⟩
                    have hS5 : Below wr.heap.size wr w5 := hS1.trans (hb5.mono hS1.size)
                    refine ⟨_, rfl, hS5, ?_⟩
                    simp only [Act.put, List.setIfInBounds_toArray, List.set_cons_succ, List.set_cons_zero]
                    refine held_one 8 10 _ (.bool true) rfl rfl (by kernel_rfl) rfl hS5 rfl ?_
                    simp only [Act.put, List.setIfInBounds_toArray, List.set_cons_succ, List.set_cons_zero]
                    refine wpAnyH_done (by kernel_rfl) ?_ _
                    refine NoPanic.normal ?_
                    go_wp2
                    go_roundw
                    case rel => exact ⟨k + 1, p ++ nb, hlk, by go_num, catO_snoc _ k p nb HQ.out HP.out, hBq.trans (hS5.mono hBq.size)⟩
                    case measure => simp [intOf]; omega
                · have HT : Hid (catO (x.l.map (encL r f.of)) = some p) := by show _ = _; rw [← HP.out, List.take_of_length_le (by have := HLL.out; simp; omega)]
                  have ik : ¬ (k : Int) < (LL : Int) := by omega
                  go_wp2
                  go_roundw
                  case rel => exact ⟨I + 1, _, hlt, by go_num, HS.out _ (by rw [HEC.out, HT.out]; rfl), hBw⟩
                  case measure => simp [intOf]; omega
            · have hno : Hid (encL (r + 1) l v = none) := HN.out (encOne_no (fun ⟨n, h, _, _⟩ => hz2 ((HA.out n).1 h).2.1))
              have jz2 : (0 : Int) < (BL : Int) := by omega
              clear HA HN HS HIH HZ hz2
              go_wp2
              go_ret
              exact ⟨by rw [hno.out]; rfl, HBB.out⟩
          · have hno : Hid (encL (r + 1) l v = none) := HN.out (encOne_no (fun ⟨n, h, _, _⟩ => hz1 ((HA.out n).1 h).1))
            have jz1 : ((XN : Int) != 0) = true := by rw [bne_iff_ne]; omega
            clear HA HN HS HIH HZ hz1
            go_wp2
            go_ret
            exact ⟨by rw [hno.out]; rfl, HBB.out⟩
        · have HQ : Hid (catO (List.zipWith (encOne (encL r)) l v) = some q) := by show _ = _; rw [← HC.out, List.take_of_length_le (by have := HLE.out; simp; omega)]
          have i1 : ¬ (I : Int) < (len : Int) := by omega
          go_wp2
          go_ret
          exact ⟨by rw [HE'.out, HQ.out]; rfl, hB⟩
    · have hres : Hid (encL (r + 1) l v = none) := by show _ = _; rw [HE.out, if_neg hlen]
      have i1 : ((l.length : Int) != (v.length : Int)) = true := by
        rw [bne_iff_ne]; omega
      go_enter Try.func38, Try.ntmps38
      go_wp2
      go_ret
      exact ⟨by rw [hres.out]; rfl, Below.refl _ _⟩
end Go.Proofs.Ytgfcindkfnjeoaa
namespace Go.Proofs.Ytgfcindkfnjeoaa
open Go.RowKit

def refRecSaid (r : Nat) : Prop := ∀ (n : Nat) (lv : Value) (l : List Fld) (M : Nat) (s : List UInt8) (g : Nat) (w0 w : World), mostL r l = some M → Flds w0 n lv l → Cuts w0 w g s false →
    Calls Try.prog 45 #[.pointer (some ⟨g, 0, none⟩), lv] w fun e w' => cutPost w0 w g (decL r l s) (fun v val w' => ValsK w' (fun b => w.heap.size ≤ b) r val v) (fun val w' => ∃ v, ValsK w' (fun b => w.heap.size ≤ b) r val v) e w'

/-- The same in one: what is answered, and whether all went well. -/
def cutU {α : Type} (w0 w : World) (g : Nat) (r : Option (α × List UInt8)) (R : α → Value → World → Prop) (e : Ending) (w' : World) : Prop := ∃ x v s3 am3, e = .returned v ∧ R x v w' ∧ Cuts w0 w' g s3 am3 ∧ Hid ((am3 = false → r = some (x, s3)) ∧ (am3 = true → r = none)) ∧ w.grownBy w' (some g)
theorem cut_uni {α : Type} {w0 w w' : World} {g : Nat} {r : Option (α × List UInt8)} {R R' : α → Value → World → Prop} {A : Value → World → Prop} {e : Ending} (h : cutPost w0 w g r R A e w') (h1 : ∀ p v, r = some p → R p.1 v w' → R' p.1 v w') (h2 : ∀ v, A v w' → ∃ x, R' x v w') : cutU w0 w g r R' e w' := by
  obtain ⟨h, hg⟩ := h
  cases r with
  | some p =>
    obtain ⟨v, he, hR, hC⟩ := h
    exact ⟨p.1, v, p.2, false, he, h1 p v rfl hR, hC, ⟨fun _ => rfl, fun h => (by cases h)⟩, hg⟩
  | none =>
    obtain ⟨v, s3, he, hA, hC⟩ := h
    obtain ⟨x, hx⟩ := h2 v hA
    exact ⟨x, v, s3, true, he, hx, hC, ⟨fun h => (by cases h), fun _ => rfl⟩, hg⟩
theorem refNum_uni (f : Fld) (o : Value) (hmm : f.min ≤ f.max) (hmx : f.max < 18446744073709551616) (s : List UInt8) (g : Nat) (w0 w : World) (hR : Cuts w0 w g s false) :
    Calls Try.prog 61 #[.pointer (some ⟨g, 0, none⟩), fldV f o] w fun e w' => cutU w0 w g (amtD f s) (fun n v _ => n ≤ f.max ∧ v = .int .u64 (n : Int)) e w' := by
  refine (refNum_any f o hmm hmx s g w0 w hR).mono fun e w' h => cut_uni h (fun p v hp hv => ⟨(amtD_enc (t := p.2) (n := p.1) hp hmm).2.1, hv⟩) (fun v hv => hv)
theorem refTake_uni (n : Nat) (hn : n ≤ maxLen) (s : List UInt8) (am : Bool) (g : Nat) (w0 w : World) (hR : Cuts w0 w g s am) :
    Calls Try.prog 62 #[.pointer (some ⟨g, 0, none⟩), .int .i64 (n : Int)] w fun e w' => cutU w0 w g (if am = false ∧ n ≤ s.length then some (s.take n, s.drop n) else none) (fun b v _ => b.length ≤ n ∧ Seg w0 v b) e w' := by
  cases am with
  | false =>
    refine (refTake_any n hn s g w0 w hR).mono fun e w' h => ?_
    have e1 : (if false = false ∧ n ≤ s.length then some (s.take n, s.drop n) else none) = (if n ≤ s.length then some (s.take n, s.drop n) else none) := by simp
    rw [e1]
    refine cut_uni h (fun p v hp hv => ⟨?_, hv⟩) (fun v hv => ⟨[], Nat.zero_le _, .inl ⟨rfl, none, 0, hv, fun _ => rfl⟩⟩)
    split at hp
    · cases hp
      exact List.length_take_le _ _
    · cases hp
  | true =>
    refine (refTake_amiss n s g w0 w hR).mono fun e w' h => ?_
    obtain ⟨he, hC, hg⟩ := h
    exact ⟨[], _, s, true, he, ⟨Nat.zero_le _, .inl ⟨rfl, none, 0, rfl, fun _ => rfl⟩⟩, hC, ⟨fun h => (by cases h), fun _ => (by simp)⟩, hg⟩
theorem refRec_uni {r : Nat} (h : refRecSaid r) (n : Nat) (lv : Value) (l : List Fld) (M : Nat) (s : List UInt8) (g : Nat) (w0 w : World) (hM : mostL r l = some M) (hF : Flds w0 n lv l) (hR : Cuts w0 w g s false) :
    Calls Try.prog 45 #[.pointer (some ⟨g, 0, none⟩), lv] w fun e w' => cutU w0 w g (decL r l s) (fun v val w' => ValsK w' (fun b => w.heap.size ≤ b) r val v) e w' :=
  (h n lv l M s g w0 w hM hF hR).mono fun _ _ h => cut_uni h (fun _ _ _ hv => hv) (fun _ hv => hv)

theorem kind2 {f : Fld} {s' s2 s3 bs : List UInt8} {m : Nat} {am2 am3 : Bool} {x : Option (Val × List UInt8)} (HO : x = (amtD f s').bind fun p => if p.1 ≤ p.2.length then some (.mk 0 (p.2.take p.1) [], p.2.drop p.1) else none) (H2 : (am2 = false → amtD f s' = some (m, s2)) ∧ (am2 = true → amtD f s' = none)) (H3 : (am3 = false → (if am2 = false ∧ m ≤ s2.length then some (s2.take m, s2.drop m) else none) = some (bs, s3)) ∧ (am3 = true → (if am2 = false ∧ m ≤ s2.length then some (s2.take m, s2.drop m) else none) = none)) : (am3 = false → x = some (.mk 0 bs [], s3)) ∧ (am3 = true → x = none) := by
  constructor
  · intro h
    have h3 := H3.1 h
    by_cases hc : am2 = false ∧ m ≤ s2.length
    · rw [if_pos hc] at h3
      cases h3
      rw [HO, H2.1 hc.1, Option.bind_some, if_pos hc.2]
    · rw [if_neg hc] at h3
      cases h3
  · intro h
    have h3 := H3.2 h
    by_cases hc : am2 = false ∧ m ≤ s2.length
    · rw [if_pos hc] at h3
      cases h3
    · cases am2 with
      | true => rw [HO, H2.2 rfl]; rfl
      | false => rw [HO, H2.1 rfl, Option.bind_some, if_neg (fun h => hc ⟨rfl, h⟩)]

theorem kind3_next {D : List UInt8 → Option (List Val × List UInt8)} {K m : Nat} {s2 s3 s4 : List UInt8} {L : List (List Val)} {x : List Val} {am2 am4 : Bool} (hK : K < m) (H3 : am2 = false ∧ manyD D K s2 = some (L, s3)) (H4 : (am4 = false → D s3 = some (x, s4)) ∧ (am4 = true → D s3 = none)) : (am4 = false → am2 = false ∧ manyD D (K + 1) s2 = some (L ++ [x], s4)) ∧ (am4 = true → am2 = true ∨ manyD D m s2 = none) :=
  ⟨fun h => ⟨H3.1, by rw [manyD_snoc, H3.2, Option.bind_some, H4.1 h]; rfl⟩, fun h => .inr (manyD_none D s2 (show K + 1 ≤ m from hK) (by rw [manyD_snoc, H3.2, Option.bind_some, H4.2 h]; rfl))⟩
theorem kind3 {D : List UInt8 → Option (List Val × List UInt8)} {f : Fld} {s' s2 s3 : List UInt8} {m : Nat} {L : List (List Val)} {am2 am3 : Bool} {x : Option (Val × List UInt8)} (HO : x = (amtD f s').bind fun p => (manyD D p.1 p.2).map fun q => (.mk 0 [] q.1, q.2)) (H2 : (am2 = false → amtD f s' = some (m, s2)) ∧ (am2 = true → amtD f s' = none)) (H3 : (am3 = false → am2 = false ∧ manyD D m s2 = some (L, s3)) ∧ (am3 = true → am2 = true ∨ manyD D m s2 = none)) : (am3 = false → x = some (.mk 0 [] L, s3)) ∧ (am3 = true → x = none) := by
  refine ⟨fun h => ?_, fun h => ?_⟩
  · obtain ⟨h1, h2⟩ := H3.1 h
    rw [HO, H2.1 h1, Option.bind_some, h2]
    rfl
  · cases am2 with
    | true => rw [HO, H2.2 rfl]; rfl
    | false =>
      rcases H3.2 h with h | h
      · cases h
      · rw [HO, H2.1 rfl, Option.bind_some, h]; rfl

theorem load_recs (w : World) (g i : Nat) (v : Value) (h : w.cell? ⟨g, i, none⟩ = some v) : (Instr.loadAt 66 (.pointer (some ⟨g, i, none⟩))).run Try.prog w = .ok v w := by
  simp [Instr.loadAt, Instr.sureAddr, go_sem, h]
theorem load_flds (w : World) (g i : Nat) (v : Value) (h : w.cell? ⟨g, i, none⟩ = some v) : (Instr.loadAt 40 (.pointer (some ⟨g, i, none⟩))).run Try.prog w = .ok v w := by
  simp [Instr.loadAt, Instr.sureAddr, go_sem, h]
theorem exec_build {a : Act} {o : Oper} {w : World} (x : Operand) (ho : o.op = .buildSlice 66 1 #[(0, x)]) (ao : Option Addr) (n c : Nat) (hx : a.eval x = .slice ao n c) : (execOp a.eval o).run Try.prog w = .ok (.value (.slice (some ⟨w.heap.size, 0, none⟩) 1 1)) (w.alloc (.cells #[.slice ao n c] 42)) := by
  unfold execOp
  have e : Array.map (fun y : Nat × Operand => (y.1, a.eval y.2)) #[(0, x)] = #[(0, .slice ao n c)] := by simp [hx]
  simp only [ho, e]
  simp [go_sem]
theorem exec_storec {a : Act} {o : Oper} {w : World} (x y : Operand) (ho : o.op = .store 66 x y) (g i : Nat) (ao : Option Addr) (n c : Nat) (u : Value) (hx : a.eval x = .pointer (some ⟨g, i, none⟩)) (hy : a.eval y = .slice ao n c) (hc : w.cell? ⟨g, i, none⟩ = some u) (hf : w.frozen? ⟨g, i, none⟩ = false) : (execOp a.eval o).run Try.prog w = .ok .skip (w.setCell ⟨g, i, none⟩ (.slice ao n c)) := by
  unfold execOp
  simp only [ho, hx, hy]
  simp [go_sem, hc, hf]
theorem exec_recs (w : World) (base : Nat) (v : Value) (n : Nat) (xs : List Value) (hown : w.ownsRow base 42 1 v n xs) (g : Nat) (u : Value) (hc : w.cell? ⟨g, 0, none⟩ = some u) (h1 : u.oneCell' = true) (hlen : n ≤ 1000000) (hbase : base ≤ w.heap.size) :
    ∃ v' w', (∀ (a : Act) (o : Oper) (s x : Operand), o.type = 66 → o.op = .call { callee := .builtin .append, args := #[s, x], argTypes := #[66, 66] } → a.eval s = v → a.eval x = .slice (some ⟨g, 0, none⟩) 1 1 → (execOp a.eval o).run Try.prog w = .ok (.value v') w') ∧ w'.ownsRow base 42 1 v' (n + 1) (xs ++ [u]) ∧ w.grownBy w' v.ownBlock ∧ (v'.ownBlock = v.ownBlock ∨ v'.ownBlock = some w.heap.size) := by
  obtain ⟨i0, hi, hz0, hz1, hz2⟩ := info_parts Try.info42p
  obtain ⟨v', w', hrun, h2, h3, h4, h5⟩ := run_append_own_at (P := Try.prog) w base 66 66 42 i0 (.slice none 0 0) 1 24 Try.under66p hi hz0 hz1 hz2 rfl (by decide) v n xs hown ⟨g, 0, none⟩ 1 1 [u] rfl (fun j y hy => by
    match j, hy with
    | 0, hy => cases hy; exact hc
    | (j + 1), hy => cases hy) (fun y hy => by rw [show y = u by simpa using hy]; exact h1) (by unfold maxLen; omega) (by omega) hbase
  refine ⟨v', w', fun a o s x e0 e1 e2 e3 => ?_, h2, h3, h5⟩
  unfold execOp
  simp [e0, e1, resolve, invoke, builtin, e2, e3, hrun, Result.andThen]

set_option maxRecDepth 100000 in
set_option maxHeartbeats 8000000 in
theorem refRec_any (r : Nat) (ih : refRecSaid r) : refRecSaid (r + 1) := by
  intro n lv l M s g w0 w hM hFl hR
  obtain ⟨hSum, hl1, hl16, hMb⟩ := mostL_succ hM
  obtain ⟨ao, c, hlv, hlm, hFc⟩ := hFl.form
  unfold maxLen at hlm
  subst hlv
  have HSum : Hid (mostSum (mostL r) l = some M) := hSum
  obtain ⟨bF, offF, hao, hbF, hcF, hF⟩ := hFc (by omega)
  subst hao
  obtain ⟨len, hle⟩ : ∃ len, l.length = len := ⟨_, rfl⟩
  rw [hle] at hl1 hl16 hlm hcF ⊢
  have HLE : Hid (l.length = len) := hle
  obtain ⟨res, hres⟩ : ∃ res, res = decL (r + 1) l s := ⟨_, rfl⟩
  rw [← hres]
  have HRES : Hid (res = seqD (oneD (decL r)) l s) := hres
  clear hle hSum hres hM
  have hgw := hR.lt
  go_enter Try.func45, Try.ntmps45
  go_wp2
  go_loopw [5, 6] (fun u i wr => ∃ (I : Nat) (ps : List Put) (s' : List UInt8) (am : Bool), I ≤ len ∧ i = .int .i64 (I : Int) ∧ OwnV wr w.heap.size r u ps ∧ ps.length = I ∧ (am = false → seqD (oneD (decL r)) (l.take I) s = some (ps.map Put.x, s')) ∧ (am = true → res = none) ∧ Cuts w0 wr g s' am ∧ w.grownBy wr (some g)) (fun _ i _ => len - (intOf i).toNat)
  case atStart => exact ⟨0, [], s, false, Nat.zero_le _, rfl, OwnV.nil _ _ _, rfl, fun _ => rfl, (fun h => by cases h), hR, grown_refl _ _⟩
  case round =>
    obtain ⟨I, ps, s', am, hI, rfl, hO, hpl, hps, hno, hR', hG⟩ := hrel
    have s1 := hG.size
    by_cases hlt : I < len
    · cases am with
      | true =>
        have i1 : (I : Int) < (len : Int) := by omega
        have HE : Hid (res = none) := hno rfl
        have hR2 := hR'
        obtain ⟨hg0, hB2, hm2, lv2, hk2, hs2⟩ := hR'
        have y1 := hk2.cell (j := 1) rfl
        clear hps hno
        go_wp2
        go_ret
        rw [HE.out]
        exact ⟨⟨_, s', rfl, ⟨_, hO.vals (by unfold maxLen; omega)⟩, hR2⟩, hG⟩
      | false =>
        have i1 : (I : Int) < (len : Int) := by omega
        obtain ⟨f, hf1⟩ : ∃ f, l[I]? = some f := ⟨l[I]'(by have := HLE.out; omega), List.getElem?_eq_getElem (by have := HLE.out; omega)⟩
        obtain ⟨a, S', hmo, _, _⟩ := mostSum_part _ l M I f HSum.out hf1
        have hmm := mostOne_le' hmo
        have HPS : Hid (seqD (oneD (decL r)) (l.take I) s = some (ps.map Put.x, s')) := hps rfl
        clear hps hno
        obtain ⟨f0, f1, f2, ⟨o, f3, hof⟩, hmn, hmx⟩ := hF I f hf1
        obtain ⟨oa, oc, hoe, _, _⟩ := hof.form
        subst hoe
        have K := Keeps.of_below hR'.2.1 (Nat.le_refl _)
        have d0 := K.cell f0
        have d1 := K.cell f1
        have d2 := K.cell f2
        have d3 := K.cell f3
        have y1 : wr.cell? ⟨g, 1, none⟩ = some (.bool false) := by obtain ⟨_, _, _, lv2, hk2, _⟩ := hR'; exact hk2.cell (j := 1) rfl
        have HNX : Hid (∀ (x : Val) (s3 : List UInt8), oneD (decL r) f s' = some (x, s3) → seqD (oneD (decL r)) (l.take (I + 1)) s = some (ps.map Put.x ++ [x], s3)) := fun x s3 h => by rw [seqD_snoc _ l I f hf1, HPS.out, Option.bind_some, h]; rfl
        have HNN : Hid (oneD (decL r) f s' = none → res = none) := fun h => by
          rw [HRES.out]
          exact seqD_none _ l (I + 1) s (by rw [seqD_snoc _ l I f hf1, HPS.out, Option.bind_some, h]; rfl)
        have hNm : Hid (∀ W, Cuts w0 W g s' false → Calls Try.prog 61 #[.pointer (some ⟨g, 0, none⟩), fldV f (.slice oa f.of.length oc)] W fun e w' => cutU w0 W g (amtD f s') (fun n v _ => n ≤ f.max ∧ v = .int .u64 (n : Int)) e w') := fun W hW => refNum_uni f _ hmm hmx s' g w0 W hW
        unfold fldV at hNm
        have hFB : Hid (∀ W, (wr.alloc (.cells #[.int .i64 f.kind, .int .u64 (f.min : Int), .int .u64 (f.max : Int), .slice oa f.of.length oc] 62)).grownBy W (some g) → Blk W wr.heap.size 62 #[.int .i64 f.kind, .int .u64 (f.min : Int), .int .u64 (f.max : Int), .slice oa f.of.length oc]) := fun W hW => (Blk.new _ _ _).grown hW (fun e => by have := Option.some.inj e; omega)
        have hb0 : Below wr.heap.size wr (wr.alloc (.cells #[.int .i64 f.kind, .int .u64 (f.min : Int), .int .u64 (f.max : Int), .slice oa f.of.length oc] 62)) := (Below.refl _ _).alloc (Nat.le_refl _) _
        have hsz : (wr.alloc (.cells #[.int .i64 f.kind, .int .u64 (f.min : Int), .int .u64 (f.max : Int), .slice oa f.of.length oc] 62)).heap.size ≥ wr.heap.size + 1 := by simp
        by_cases hk1 : f.kind = 1
        · have HO : Hid (oneD (decL r) f s' = (amtD f s').map fun p => (.mk p.1 [] [], p.2)) := by
            show _ = _
            unfold oneD
            cases amtD f s' with
            | none => rfl
            | some p => simp [hk1]
          have j1 : (f.kind == 1) = true := by simpa using hk1
          clear hk1
          go_wp2_with (first | (go_at_call 61; refine (hNm.out _ (by exact hR'.below hb0)).mono ?_; rintro e w2 ⟨m, v2, s2, am2, rfl, ⟨hm2, rfl⟩, hR2, HA2, hg2⟩; have hf2 := hFB.out w2 hg2; have t2 := Nat.le_trans hsz hg2.size; have hn3 : wr.heap.size < w2.heap.size := (by omega); have hn2 : wr.heap.size ≠ w2.heap.size := (by omega); have k0 := hf2.cell (j := 0) rfl; have hw2 : Below w2.heap.size w2 ((w2.alloc (.cells #[.int .u64 (m : Int), .slice none 0 0, .slice none 0 0] 68)).alloc (.cells #[.int .u64 (m : Int), .slice none 0 0, .slice none 0 0] 68)) := ((Below.refl _ _).alloc (Nat.le_refl _) _).alloc (by simp) _; have hO2 := (hO.after hb0 (Nat.le_refl _)).grown hg2 hgw) | (at_builtin; refine app_put _ rfl (.tmp 70) (.tmp 72) rfl w.heap.size r _ ps rfl (by exact hO2.after hw2 (Nat.le_refl _)) (w2.heap.size + 1) 1 ⟨.mk m [] [], .slice none 0 0, .slice none 0 0⟩ rfl (by exact put_cells (Blk.newAt _ _ _ _ (by simp))) (put_one rfl rfl) (vok_num _ _ _ _ (by omega)) (by omega) (by simp; omega) ?_; intro v3 w3 hO3 hg3 hv3))
          have hG3 := grown_own (grown_transB (grown_transB (grown_transB hG (grows_below hb0 _)) hg2) (grows_below hw2 _)) hg3 (fun q hq => (hO.blk_lt q hq).1)
          have hR3 := (hR2.below hw2).grown hg3 (fun e => by have := (hO.blk_lt _ e.symm).1; omega) (fun q hq => by have := (hO.blk_lt q hq).1; have := hR.1; omega)
          go_roundw
          case rel => exact ⟨I + 1, _, s2, am2, hlt, by go_num, hO3, by simp [hpl], fun h => by rw [List.map_append]; exact HNX.out _ _ (by rw [HO.out, HA2.out.1 h]; rfl), fun h => HNN.out (by rw [HO.out, HA2.out.2 h]; rfl), hR3, hG3⟩
          case measure => simp [intOf]; omega
        have hm6 : f.max ≤ 65536 := by
          rcases mostOne_min hmo with h | h
          · omega
          · exact absurd h.1 hk1
        have j1 : (f.kind == 1) = false := by simpa using hk1
        by_cases hk2 : f.kind = 2
        · have HO : Hid (oneD (decL r) f s' = (amtD f s').bind fun p => if p.1 ≤ p.2.length then some (.mk 0 (p.2.take p.1) [], p.2.drop p.1) else none) := by
            show _ = _
            unfold oneD
            simp only [hk2, if_true]
            rfl
          have HT : Hid (∀ (m : Nat) (s2 : List UInt8) (am2 : Bool) (W : World), m ≤ 65536 → Cuts w0 W g s2 am2 → Calls Try.prog 62 #[.pointer (some ⟨g, 0, none⟩), .int .i64 (m : Int)] W fun e w' => cutU w0 W g (if am2 = false ∧ m ≤ s2.length then some (s2.take m, s2.drop m) else none) (fun b v _ => b.length ≤ m ∧ Seg w0 v b) e w') := fun m s2 am2 W hm hW => refTake_uni m (by unfold maxLen; omega) s2 am2 g w0 W hW
          have j2 : (f.kind == 2) = true := by simpa using hk2
          clear hk1 hk2
          go_wp2_with (first | (go_at_call 61; refine (hNm.out _ (by exact hR'.below hb0)).mono ?_; rintro e w2 ⟨m, v2, s2, am2, rfl, ⟨hm2, rfl⟩, hR2, HA2, hg2⟩; have hf2 := hFB.out w2 hg2; have t2 := Nat.le_trans hsz hg2.size; have hn3 : wr.heap.size < w2.heap.size := (by omega); have hn2 : wr.heap.size ≠ w2.heap.size := (by omega); have k0 := hf2.cell (j := 0) rfl; have hO2 := (hO.after hb0 (Nat.le_refl _)).grown hg2 hgw; have hwv : Below w2.heap.size w2 ((w2.alloc (.cells #[.int .u64 0, .slice none 0 0, .slice none 0 0] 68)).alloc (.cells #[] 5)) := ((Below.refl _ _).alloc (Nat.le_refl _) _).alloc (by simp) _) | (go_at_call 62; refine (HT.out m s2 am2 _ (by omega) (by exact hR2.below hwv)).mono ?_; rintro e w3 ⟨bs, v3, s3, am3, rfl, ⟨hbl, hbv⟩, hR3, HA3, hg3⟩; obtain ⟨ab, cb, rfl⟩ := hbv.shape; have hv3b := ((Blk.new w2 68 #[.int .u64 0, .slice none 0 0, .slice none 0 0]).alloc (.cells #[] 5)).grown hg3 (fun e => by have := Option.some.inj e; omega); have ho3 := (own_empty (w2.alloc (.cells #[.int .u64 0, .slice none 0 0, .slice none 0 0] 68)) (w2.heap.size + 1) (w2.heap.size + 1) (by simp) (by simp)).grown hg3 (.inr (fun e => by have h1 : w2.heap.size + 1 = g := Option.some.inj e; omega)); have t3 : w2.heap.size + 2 ≤ w3.heap.size := (by have := hg3.size; simp at this; omega)) | (at_builtin; refine app_own _ rfl (.tmp 40) (.tmp 44) rfl (w2.heap.size + 1) _ [] rfl (by exact ho3) _ bs rfl (by exact hbv.below hR3.2.1 (Nat.le_refl _)) (by simp; omega) (by omega) ?_; intro v4 w4 ho4 hg4 hv4; rw [List.nil_append] at ho4; obtain ⟨a4, c4, rfl⟩ := own_sl ho4; have hb4 := hv3b.grown hg4 (fun e => by have h1 : w2.heap.size = w2.heap.size + 1 := Option.some.inj e; omega); have t4 := hg4.size; have x0 := hb4.cell (j := 0) rfl; have x1 := hb4.cell (j := 1) rfl; have x2 := hb4.cell (j := 2) rfl; have y4 := hb4.frozen 1; have hg46 : w4.grownBy ((w4.setCell ⟨w2.heap.size, 1, none⟩ (.slice a4 bs.length c4)).alloc (.cells #[.int .u64 0, .slice a4 bs.length c4, .slice none 0 0] 68)) (some w2.heap.size) := grown_transB (grown_set _ _ _ _) (grows_below ((Below.refl _ _).alloc (Nat.le_refl _) _) _); have hG26 := grown_own (grown_own (grown_transB (grows_below hwv (some g)) hg3) hg4 (fun q hq => by have h1 : w2.heap.size + 1 = q := Option.some.inj hq; omega)) hg46 (fun q hq => by have h1 := Option.some.inj hq; omega)) | (at_builtin; refine app_put _ rfl (.tmp 70) (.tmp 72) rfl w.heap.size r _ ps rfl (by exact hO2.grown hG26 hgw) w4.heap.size 1 ⟨.mk 0 bs [], .slice a4 bs.length c4, .slice none 0 0⟩ rfl (by exact put_cells (Blk.newAt _ _ _ _ (by simp))) (put_one rfl rfl) (by exact (vok_bytes (S := fun b => w2.heap.size + 1 ≤ b) ho4 (fun _ h => h) (by omega)).step ⟨hg46.size, fun b o hS hl => World.cell?_of_block (w := w4) (a := ⟨b, o, none⟩) (hg46.block b hl (fun e => by have := Option.some.inj e; omega))⟩ (fun b _ hb => ⟨by omega, fun e => by have := (hO.blk_lt _ e).2; omega⟩)) (by omega) (by simp; omega) ?_; intro v7 w7 hO7 hg7 hv7))
          have hG7 := grown_own (grown_transB (grown_transB (grown_transB hG (grows_below hb0 _)) hg2) hG26) hg7 (fun q hq => (hO.blk_lt q hq).1)
          have hR7 := ((hR3.grown hg4 (fun e => by have h1 : g = w2.heap.size + 1 := Option.some.inj e; omega) (fun q hq => by have h1 : w2.heap.size + 1 = q := Option.some.inj hq; have := hR.1; omega)).grown hg46 (fun e => by have h1 := Option.some.inj e; omega) (fun q hq => by have h1 := Option.some.inj hq; have := hR.1; omega)).grown hg7 (fun e => by have := (hO.blk_lt _ e.symm).1; omega) (fun q hq => by have := (hO.blk_lt q hq).1; have := hR.1; omega)
          have HK := kind2 HO.out HA2.out HA3.out
          go_roundw
          case rel => exact ⟨I + 1, _, s3, am3, hlt, by go_num, hO7, by simp [hpl], fun h => by rw [List.map_append]; exact HNX.out _ _ (HK.1 h), fun h => HNN.out (HK.2 h), hR7, hG7⟩
          case measure => simp [intOf]; omega
        have j2 : (f.kind == 2) = false := by simpa using hk2
        obtain ⟨hk3, k, hk, _⟩ := mostOne_of hmo hk1 hk2
        have j3 : (f.kind == 3) = true := by simpa using hk3
        have HO : Hid (oneD (decL r) f s' = (amtD f s').bind fun p => (manyD (decL r f.of) p.1 p.2).map fun q => (.mk 0 [] q.1, q.2)) := by
          show _ = _
          unfold oneD
          simp only [hk3]
          rfl
        clear hk1 hk2 hk3
        have HC : Hid (∀ (W : World) (s3 : List UInt8), Cuts w0 W g s3 false → Calls Try.prog 45 #[.pointer (some ⟨g, 0, none⟩), .slice oa f.of.length oc] W fun e w' => cutU w0 W g (decL r f.of s3) (fun v val w' => ValsK w' (fun b => W.heap.size ≤ b) r val v) e w') := fun W s3 hW => refRec_uni ih (n - 1) _ f.of k s3 g w0 W hk hof hW
        obtain ⟨wo, rfl⟩ : ∃ wo : World, wo = wr := ⟨_, rfl⟩
        go_wp2_with (first | (go_at_call 61; refine (hNm.out _ (by exact hR'.below hb0)).mono ?_; rintro e w2 ⟨m, v2, s2, am2, rfl, ⟨hm2, rfl⟩, hR2, HA2, hg2⟩; have hf2 := hFB.out w2 hg2; have t2 := Nat.le_trans hsz hg2.size; have hn3 : wo.heap.size < w2.heap.size := (by omega); have hn2 : wo.heap.size ≠ w2.heap.size := (by omega); have k0 := hf2.cell (j := 0) rfl) | fail)
        have hO2 := (hO.after hb0 (Nat.le_refl _)).grown hg2 hgw
        have hG2 := grown_transB (grown_transB hG (grows_below hb0 _)) hg2
        have hwv : Below w2.heap.size w2 (w2.alloc (.cells #[.int .u64 0, .slice none 0 0, .slice none 0 0] 68)) := (Below.refl _ _).alloc (Nat.le_refl _) _
        go_loopw [10] (fun k wq => ∃ (K : Nat) (lv : Value) (qs : List (Value × List Val)) (s3 : List UInt8) (am3 : Bool), K ≤ m ∧ k = .int .u64 (K : Int) ∧ Blk wq w2.heap.size 68 #[.int .u64 0, .slice none 0 0, lv] ∧ OwnR wq (w2.heap.size + 1) r lv qs ∧ qs.length = K ∧ Hid ((am3 = false → am2 = false ∧ manyD (decL r f.of) K s2 = some (qs.map Prod.snd, s3)) ∧ (am3 = true → am2 = true ∨ manyD (decL r f.of) m s2 = none)) ∧ Cuts w0 wq g s3 am3 ∧ w2.grownBy wq (some g) ∧ w2.heap.size + 1 ≤ wq.heap.size) (fun k _ => m - (intOf k).toNat)
        case atStart => exact ⟨0, .slice none 0 0, [], s2, am2, Nat.zero_le _, rfl, Blk.new _ _ _, OwnR.nil _ _ _, rfl, ⟨fun h => ⟨h, rfl⟩, fun h => .inl h⟩, hR2.below hwv, grows_below hwv _, by simp⟩
        case round =>
          obtain ⟨K', lv, qs, s3, am3, hK', rfl, hvq, hOq, hql, HA3, hRq, hGq, hsq⟩ := hrel
          obtain ⟨al, nl, cl, rfl⟩ := hOq.sl
          have hfq := hf2.grown hGq (fun e => by have := Option.some.inj e; omega)
          have e3 := hfq.cell (j := 3) rfl
          have x0 := hvq.cell (j := 0) rfl
          have x1 := hvq.cell (j := 1) rfl
          have x2 := hvq.cell (j := 2) rfl
          have yg : wr.cell? ⟨g, 1, none⟩ = some (.bool am3) := by obtain ⟨_, _, _, lv2, hk2, _⟩ := hRq; exact hk2.cell (j := 1) rfl
          by_cases hlk : K' < m
          · have i2 : (K' : Int) < (m : Int) := by omega
            cases am3 with
            | false =>
              go_wp2_with fail
              have hcd : wr.drew.cell? ⟨wo.heap.size, 3, none⟩ = some (.slice oa f.of.length oc) := e3
              have lcd : wr.drew.cell? ⟨w2.heap.size, 2, none⟩ = some (.slice al nl cl) := x2
              have hRd : Cuts w0 wr.drew g s3 false := hRq.below ((Below.refl _ _).drew)
              refine held_begin (fun W => W.cell? ⟨wo.heap.size, 3, none⟩ = some (.slice oa f.of.length oc)) (by kernel_rfl) ?_
              refine held_take 0 61 _ (.pointer (some ⟨w2.heap.size, 2, none⟩)) rfl rfl (by kernel_rfl) (by kernel_rfl) (by kernel_rfl) rfl hcd (fun _ _ => rfl) ?_
              simp only [Act.put, List.setIfInBounds_toArray, List.set_cons_succ, List.set_cons_zero]
              refine held_take 2 63 _ (.pointer (some ⟨g, 0, none⟩)) rfl rfl (by kernel_rfl) (by kernel_rfl) (by kernel_rfl) rfl hcd (fun _ _ => rfl) ?_
              simp only [Act.put, List.setIfInBounds_toArray, List.set_cons_succ, List.set_cons_zero]
              refine held_take 3 64 _ (.pointer (some ⟨wo.heap.size, 3, none⟩)) rfl rfl (by kernel_rfl) (by kernel_rfl) (by kernel_rfl) rfl hcd (fun _ _ => rfl) ?_
              simp only [Act.put, List.setIfInBounds_toArray, List.set_cons_succ, List.set_cons_zero]
              refine held_take 4 65 _ (.slice oa f.of.length oc) rfl rfl (by kernel_rfl) (by kernel_rfl) (by kernel_rfl) rfl hcd (fun W hW => exec_loadc 40 _ rfl _ _ rfl (load_flds W _ _ _ hW)) ?_
              simp only [Act.put, List.setIfInBounds_toArray, List.set_cons_succ, List.set_cons_zero]
              refine held_all2 1 5 (by kernel_rfl) (op_value 1 62 _ (.slice al nl cl) _ rfl rfl rfl (exec_loadc 66 _ rfl _ _ rfl (load_recs _ _ _ _ lcd)) ⟨hcd, ?_⟩) (op_call 5 66 _ 45 _ rfl rfl rfl (exec_two 45 _ _ _ rfl _ _ rfl rfl Try.call45) ?_)
              · simp only [Act.put, List.setIfInBounds_toArray, List.set_cons_succ, List.set_cons_zero]
                refine held_all1 5 (by kernel_rfl) (op_call 5 66 _ 45 _ rfl rfl rfl (exec_two 45 _ _ _ rfl _ _ rfl rfl Try.call45) ?_)
                refine (HC.out _ s3 hRd).mono ?_
                rintro e w3 ⟨x3, v3, s4, am4, rfl, hV3, hR3, HA4, hg3⟩
                have hfq3 := hfq.drew.grown hg3 (fun e => by have := Option.some.inj e; omega)
                have hv3 := hvq.drew.grown hg3 (fun e => by have := Option.some.inj e; omega)
                have hcd3 := hfq3.cell (j := 3) rfl
                have l3 := hv3.cell (j := 2) rfl
                have t3 : wr.heap.size ≤ w3.heap.size := hg3.size
                have hO3 := (hOq.after ((Below.refl _ _).drew)).grown hg3 (by omega)
                obtain ⟨a3, n3, c3, rfl⟩ := vals_form (hV3 _ (Agree.refl _ _))
                have hW1 : Below w3.heap.size w3 (w3.alloc (.cells #[.slice a3 n3 c3] 42)) := (Below.refl _ _).alloc (Nat.le_refl _) _
                have hO4 := hO3.after hW1
                have hfq4 := hfq3.alloc (.cells #[.slice a3 n3 c3] 42)
                have hv4 := hv3.alloc (.cells #[.slice a3 n3 c3] 42)
                have hcd4 := hfq4.cell (j := 3) rfl
                have l4 := hv4.cell (j := 2) rfl
                obtain ⟨v5, w5, hr5, ho5, hg5, hb5⟩ := exec_recs _ (w2.heap.size + 1) _ _ _ hO4.row w3.heap.size (.slice a3 n3 c3) ((Blk.new _ _ _).cell rfl) rfl (by omega) (by simp; omega)
                have hlt5 := hOq.blk_lt
                have hO5 := hO4.more (p := (.slice a3 n3 c3, x3)) ho5 hg5 hb5 (hV3.step (Agree.of_keeps (Keeps.of_below hW1 (Nat.le_refl _)) _) (fun b _ (hb : wr.heap.size ≤ b) => ⟨by omega, fun e => by have := (hlt5 _ e).2; omega⟩))
                have hfq5 := hfq4.grown hg5 (fun e => by have := (hlt5 _ e.symm).1; omega)
                have hv5 := hv4.grown hg5 (fun e => by have := (hlt5 _ e.symm).1; omega)
                have hcd5 := hfq5.cell (j := 3) rfl
                have l5 := hv5.cell (j := 2) rfl
                have f5 := hv5.frozen 2
                obtain ⟨a5, n5, c5, rfl⟩ := hO5.sl
                have hcd6 := (hfq5.setOther ⟨w2.heap.size, 2, none⟩ (.slice a5 n5 c5) (by show wo.heap.size ≠ w2.heap.size; omega)).cell (j := 3) rfl
                have t5 : w3.heap.size + 1 ≤ w5.heap.size := by have := hg5.size; simp at this; omega
                have hg6 := grown_set w5 w2.heap.size 2 (.slice a5 n5 c5)
                have hR6 := ((hR3.below hW1).grown hg5 (fun e => by have := (hlt5 _ e.symm).1; omega) (fun q hq => by have := (hlt5 q hq).1; have := hR.1; omega)).grown hg6 (fun e => by have := Option.some.inj e; omega) (fun q hq => by have := Option.some.inj hq; have := hR.1; omega)
                have hG6 := grown_own (grown_own (grown_transB hGq (grown_transB (grows_below ((Below.refl _ _).drew) _) (grown_transB hg3 (grows_below hW1 _)))) hg5 (fun q hq => by have := (hlt5 q hq).1; omega)) hg6 (fun q hq => by have := Option.some.inj hq; omega)
                have HRL : ∃ (K : Nat) (lv : Value) (qs : List (Value × List Val)) (s3 : List UInt8) (am3 : Bool), K ≤ m ∧ Value.int .u64 ((K' : Int) + 1) = .int .u64 (K : Int) ∧ Blk (w5.setCell ⟨w2.heap.size, 2, none⟩ (.slice a5 n5 c5)) w2.heap.size 68 #[.int .u64 0, .slice none 0 0, lv] ∧ OwnR (w5.setCell ⟨w2.heap.size, 2, none⟩ (.slice a5 n5 c5)) (w2.heap.size + 1) r lv qs ∧ qs.length = K ∧ Hid ((am3 = false → am2 = false ∧ manyD (decL r f.of) K s2 = some (qs.map Prod.snd, s3)) ∧ (am3 = true → am2 = true ∨ manyD (decL r f.of) m s2 = none)) ∧ Cuts w0 (w5.setCell ⟨w2.heap.size, 2, none⟩ (.slice a5 n5 c5)) g s3 am3 ∧ w2.grownBy (w5.setCell ⟨w2.heap.size, 2, none⟩ (.slice a5 n5 c5)) (some g) ∧ w2.heap.size + 1 ≤ (w5.setCell ⟨w2.heap.size, 2, none⟩ (.slice a5 n5 c5)).heap.size :=
                  ⟨K' + 1, .slice a5 n5 c5, qs ++ [(.slice a3 n3 c3, x3)], s4, am4, hlk, rfl, hv5.set 2 _, hO5.grown hg6 (by omega), by simp [hql], by rw [List.map_append]; exact kind3_next hlk (HA3.out.1 (by trivial)) HA4.out, hR6, hG6, by simp; omega⟩
                refine ⟨_, rfl, hcd3, ?_⟩
                simp only [Act.put, List.setIfInBounds_toArray, List.set_cons_succ, List.set_cons_zero]
                refine held_all1 6 (by kernel_rfl) (op_value 6 67 _ _ _ rfl rfl rfl (exec_build _ rfl a3 n3 c3 rfl) ⟨hcd4, ?_⟩)
                simp only [Act.put, List.setIfInBounds_toArray, List.set_cons_succ, List.set_cons_zero]
                refine held_all1 7 (by kernel_rfl) (op_value 7 68 _ _ w5 rfl rfl rfl (hr5 _ _ _ _ rfl rfl rfl rfl) ⟨hcd5, ?_⟩)
                simp only [Act.put, List.setIfInBounds_toArray, List.set_cons_succ, List.set_cons_zero]
                refine held_all1 8 (by kernel_rfl) (op_value 8 69 _ (.pointer (some ⟨w2.heap.size, 2, none⟩)) _ rfl rfl rfl rfl ⟨hcd5, ?_⟩)
                simp only [Act.put, List.setIfInBounds_toArray, List.set_cons_succ, List.set_cons_zero]
                refine held_all1 9 (by kernel_rfl) (op_skip 9 _ _ rfl rfl rfl (exec_storec _ _ rfl w2.heap.size 2 _ _ _ _ rfl rfl l5 f5) ⟨hcd6, ?_⟩)
                refine wpAnyH_done (by kernel_rfl) ?_ _
                refine NoPanic.normal ?_
                go_wp2
                go_roundw
                case rel => exact HRL
                case measure => simp [intOf]; omega
              · refine (HC.out _ s3 hRd).mono ?_
                rintro e w3 ⟨x3, v3, s4, am4, rfl, hV3, hR3, HA4, hg3⟩
                have hfq3 := hfq.drew.grown hg3 (fun e => by have := Option.some.inj e; omega)
                have hv3 := hvq.drew.grown hg3 (fun e => by have := Option.some.inj e; omega)
                have hcd3 := hfq3.cell (j := 3) rfl
                have l3 := hv3.cell (j := 2) rfl
                have t3 : wr.heap.size ≤ w3.heap.size := hg3.size
                have hO3 := (hOq.after ((Below.refl _ _).drew)).grown hg3 (by omega)
                obtain ⟨a3, n3, c3, rfl⟩ := vals_form (hV3 _ (Agree.refl _ _))
                have hW1 : Below w3.heap.size w3 (w3.alloc (.cells #[.slice a3 n3 c3] 42)) := (Below.refl _ _).alloc (Nat.le_refl _) _
                have hO4 := hO3.after hW1
                have hfq4 := hfq3.alloc (.cells #[.slice a3 n3 c3] 42)
                have hv4 := hv3.alloc (.cells #[.slice a3 n3 c3] 42)
                have hcd4 := hfq4.cell (j := 3) rfl
                have l4 := hv4.cell (j := 2) rfl
                obtain ⟨v5, w5, hr5, ho5, hg5, hb5⟩ := exec_recs _ (w2.heap.size + 1) _ _ _ hO4.row w3.heap.size (.slice a3 n3 c3) ((Blk.new _ _ _).cell rfl) rfl (by omega) (by simp; omega)
                have hlt5 := hOq.blk_lt
                have hO5 := hO4.more (p := (.slice a3 n3 c3, x3)) ho5 hg5 hb5 (hV3.step (Agree.of_keeps (Keeps.of_below hW1 (Nat.le_refl _)) _) (fun b _ (hb : wr.heap.size ≤ b) => ⟨by omega, fun e => by have := (hlt5 _ e).2; omega⟩))
                have hfq5 := hfq4.grown hg5 (fun e => by have := (hlt5 _ e.symm).1; omega)
                have hv5 := hv4.grown hg5 (fun e => by have := (hlt5 _ e.symm).1; omega)
                have hcd5 := hfq5.cell (j := 3) rfl
                have l5 := hv5.cell (j := 2) rfl
                have f5 := hv5.frozen 2
                obtain ⟨a5, n5, c5, rfl⟩ := hO5.sl
                have hcd6 := (hfq5.setOther ⟨w2.heap.size, 2, none⟩ (.slice a5 n5 c5) (by show wo.heap.size ≠ w2.heap.size; omega)).cell (j := 3) rfl
                have t5 : w3.heap.size + 1 ≤ w5.heap.size := by have := hg5.size; simp at this; omega
                have hg6 := grown_set w5 w2.heap.size 2 (.slice a5 n5 c5)
                have hR6 := ((hR3.below hW1).grown hg5 (fun e => by have := (hlt5 _ e.symm).1; omega) (fun q hq => by have := (hlt5 q hq).1; have := hR.1; omega)).grown hg6 (fun e => by have := Option.some.inj e; omega) (fun q hq => by have := Option.some.inj hq; have := hR.1; omega)
                have hG6 := grown_own (grown_own (grown_transB hGq (grown_transB (grows_below ((Below.refl _ _).drew) _) (grown_transB hg3 (grows_below hW1 _)))) hg5 (fun q hq => by have := (hlt5 q hq).1; omega)) hg6 (fun q hq => by have := Option.some.inj hq; omega)
                have HRL : ∃ (K : Nat) (lv : Value) (qs : List (Value × List Val)) (s3 : List UInt8) (am3 : Bool), K ≤ m ∧ Value.int .u64 ((K' : Int) + 1) = .int .u64 (K : Int) ∧ Blk (w5.setCell ⟨w2.heap.size, 2, none⟩ (.slice a5 n5 c5)) w2.heap.size 68 #[.int .u64 0, .slice none 0 0, lv] ∧ OwnR (w5.setCell ⟨w2.heap.size, 2, none⟩ (.slice a5 n5 c5)) (w2.heap.size + 1) r lv qs ∧ qs.length = K ∧ Hid ((am3 = false → am2 = false ∧ manyD (decL r f.of) K s2 = some (qs.map Prod.snd, s3)) ∧ (am3 = true → am2 = true ∨ manyD (decL r f.of) m s2 = none)) ∧ Cuts w0 (w5.setCell ⟨w2.heap.size, 2, none⟩ (.slice a5 n5 c5)) g s3 am3 ∧ w2.grownBy (w5.setCell ⟨w2.heap.size, 2, none⟩ (.slice a5 n5 c5)) (some g) ∧ w2.heap.size + 1 ≤ (w5.setCell ⟨w2.heap.size, 2, none⟩ (.slice a5 n5 c5)).heap.size :=
                  ⟨K' + 1, .slice a5 n5 c5, qs ++ [(.slice a3 n3 c3, x3)], s4, am4, hlk, rfl, hv5.set 2 _, hO5.grown hg6 (by omega), by simp [hql], by rw [List.map_append]; exact kind3_next hlk (HA3.out.1 (by trivial)) HA4.out, hR6, hG6, by simp; omega⟩
                refine ⟨_, rfl, hcd3, ?_⟩
                simp only [Act.put, List.setIfInBounds_toArray, List.set_cons_succ, List.set_cons_zero]
                refine held_all2 1 6 (by kernel_rfl) (op_value 1 62 _ (.slice al nl cl) _ rfl rfl rfl (exec_loadc 66 _ rfl _ _ rfl (load_recs _ _ _ _ l3)) ⟨hcd3, ?_⟩) (op_value 6 67 _ _ _ rfl rfl rfl (exec_build _ rfl a3 n3 c3 rfl) ⟨hcd4, ?_⟩)
                · simp only [Act.put, List.setIfInBounds_toArray, List.set_cons_succ, List.set_cons_zero]
                  refine held_all1 6 (by kernel_rfl) (op_value 6 67 _ _ _ rfl rfl rfl (exec_build _ rfl a3 n3 c3 rfl) ⟨hcd4, ?_⟩)
                  simp only [Act.put, List.setIfInBounds_toArray, List.set_cons_succ, List.set_cons_zero]
                  refine held_all1 7 (by kernel_rfl) (op_value 7 68 _ _ w5 rfl rfl rfl (hr5 _ _ _ _ rfl rfl rfl rfl) ⟨hcd5, ?_⟩)
                  simp only [Act.put, List.setIfInBounds_toArray, List.set_cons_succ, List.set_cons_zero]
                  refine held_all1 8 (by kernel_rfl) (op_value 8 69 _ (.pointer (some ⟨w2.heap.size, 2, none⟩)) _ rfl rfl rfl rfl ⟨hcd5, ?_⟩)
                  simp only [Act.put, List.setIfInBounds_toArray, List.set_cons_succ, List.set_cons_zero]
                  refine held_all1 9 (by kernel_rfl) (op_skip 9 _ _ rfl rfl rfl (exec_storec _ _ rfl w2.heap.size 2 _ _ _ _ rfl rfl l5 f5) ⟨hcd6, ?_⟩)
                  refine wpAnyH_done (by kernel_rfl) ?_ _
                  refine NoPanic.normal ?_
                  go_wp2
                  go_roundw
                  case rel => exact HRL
                  case measure => simp [intOf]; omega
                · simp only [Act.put, List.setIfInBounds_toArray, List.set_cons_succ, List.set_cons_zero]
                  refine held_all1 1 (by kernel_rfl) (op_value 1 62 _ (.slice al nl cl) _ rfl rfl rfl (exec_loadc 66 _ rfl _ _ rfl (load_recs _ _ _ _ l4)) ⟨hcd4, ?_⟩)
                  simp only [Act.put, List.setIfInBounds_toArray, List.set_cons_succ, List.set_cons_zero]
                  refine held_all1 7 (by kernel_rfl) (op_value 7 68 _ _ w5 rfl rfl rfl (hr5 _ _ _ _ rfl rfl rfl rfl) ⟨hcd5, ?_⟩)
                  simp only [Act.put, List.setIfInBounds_toArray, List.set_cons_succ, List.set_cons_zero]
                  refine held_all1 8 (by kernel_rfl) (op_value 8 69 _ (.pointer (some ⟨w2.heap.size, 2, none⟩)) _ rfl rfl rfl rfl ⟨hcd5, ?_⟩)
                  simp only [Act.put, List.setIfInBounds_toArray, List.set_cons_succ, List.set_cons_zero]
                  refine held_all1 9 (by kernel_rfl) (op_skip 9 _ _ rfl rfl rfl (exec_storec _ _ rfl w2.heap.size 2 _ _ _ _ rfl rfl l5 f5) ⟨hcd6, ?_⟩)
                  refine wpAnyH_done (by kernel_rfl) ?_ _
                  refine NoPanic.normal ?_
                  go_wp2
                  go_roundw
                  case rel => exact HRL
                  case measure => simp [intOf]; omega
            | true =>
              have HK : Hid ((true = false → oneD (decL r) f s' = some (.mk 0 [] (qs.map Prod.snd), s3)) ∧ (true = true → oneD (decL r) f s' = none)) := kind3 HO.out HA2.out ⟨fun h => (by cases h), HA3.out.2⟩
              have hlv1 : (Value.slice al nl cl).oneCell' = true := rfl
              have hwa : Below wr.heap.size wr (wr.alloc (.cells #[.int .u64 0, .slice none 0 0, .slice al nl cl] 68)) := (Below.refl _ _).alloc (Nat.le_refl _) _
              have hGa := grown_transB hGq (grows_below hwa (some g))
              have hva : VOkK (wr.alloc (.cells #[.int .u64 0, .slice none 0 0, .slice al nl cl] 68)) (Apart w.heap.size u5) r (.mk 0 [] (qs.map Prod.snd)) (.slice none 0 0) (.slice al nl cl) := (hOq.vok (by omega)).step (Agree.of_keeps (Keeps.of_below hwa (Nat.le_refl _)) _) (fun b _ (hb : w2.heap.size + 1 ≤ b) => ⟨by omega, fun e => by have := (hO.blk_lt _ e).2; omega⟩)
              have hOa := hO2.grown hGa hgw
              have hwz : w.heap.size ≤ (wr.alloc (.cells #[.int .u64 0, .slice none 0 0, .slice al nl cl] 68)).heap.size := by simp; omega
              go_wp2_with (at_builtin; refine app_put _ rfl (.tmp 70) (.tmp 72) rfl w.heap.size r _ ps rfl (by exact hOa) wr.heap.size 1 ⟨.mk 0 [] (qs.map Prod.snd), .slice none 0 0, .slice al nl cl⟩ rfl (by exact put_cells (Blk.new _ _ _)) (put_one rfl hlv1) (by exact hva) (by omega) (by exact hwz) ?_; intro v7 w7 hO7 hg7 hv7)
              have hG7 := grown_own (grown_transB hG2 hGa) hg7 (fun q hq => (hO.blk_lt q hq).1)
              have hR7 := (hRq.below hwa).grown hg7 (fun e => by have := (hO.blk_lt _ e.symm).1; omega) (fun q hq => by have := (hO.blk_lt q hq).1; have := hR.1; omega)
              go_roundw
              case rel => exact ⟨I + 1, _, s3, true, hlt, by go_num, hO7, by simp [hpl], fun h => by rw [List.map_append]; exact HNX.out _ _ (HK.out.1 h), fun h => HNN.out (HK.out.2 h), hR7, hG7⟩
              case measure => simp [intOf]; omega
          · have i2 : ¬ (K' : Int) < (m : Int) := by omega
            have HK : Hid ((am3 = false → oneD (decL r) f s' = some (.mk 0 [] (qs.map Prod.snd), s3)) ∧ (am3 = true → oneD (decL r) f s' = none)) := kind3 HO.out HA2.out ((show K' = m by omega) ▸ HA3.out)
            have hlv1 : (Value.slice al nl cl).oneCell' = true := rfl
            have hwa : Below wr.heap.size wr (wr.alloc (.cells #[.int .u64 0, .slice none 0 0, .slice al nl cl] 68)) := (Below.refl _ _).alloc (Nat.le_refl _) _
            have hGa := grown_transB hGq (grows_below hwa (some g))
            have hva : VOkK (wr.alloc (.cells #[.int .u64 0, .slice none 0 0, .slice al nl cl] 68)) (Apart w.heap.size u5) r (.mk 0 [] (qs.map Prod.snd)) (.slice none 0 0) (.slice al nl cl) := (hOq.vok (by omega)).step (Agree.of_keeps (Keeps.of_below hwa (Nat.le_refl _)) _) (fun b _ (hb : w2.heap.size + 1 ≤ b) => ⟨by omega, fun e => by have := (hO.blk_lt _ e).2; omega⟩)
            have hOa := hO2.grown hGa hgw
            have hwz : w.heap.size ≤ (wr.alloc (.cells #[.int .u64 0, .slice none 0 0, .slice al nl cl] 68)).heap.size := by simp; omega
            go_wp2_with (at_builtin; refine app_put _ rfl (.tmp 70) (.tmp 72) rfl w.heap.size r _ ps rfl (by exact hOa) wr.heap.size 1 ⟨.mk 0 [] (qs.map Prod.snd), .slice none 0 0, .slice al nl cl⟩ rfl (by exact put_cells (Blk.new _ _ _)) (put_one rfl hlv1) (by exact hva) (by omega) (by exact hwz) ?_; intro v7 w7 hO7 hg7 hv7)
            have hG7 := grown_own (grown_transB hG2 hGa) hg7 (fun q hq => (hO.blk_lt q hq).1)
            have hR7 := (hRq.below hwa).grown hg7 (fun e => by have := (hO.blk_lt _ e.symm).1; omega) (fun q hq => by have := (hO.blk_lt q hq).1; have := hR.1; omega)
            go_roundw
            case rel => exact ⟨I + 1, _, s3, am3, hlt, by go_num, hO7, by simp [hpl], fun h => by rw [List.map_append]; exact HNX.out _ _ (HK.out.1 h), fun h => HNN.out (HK.out.2 h), hR7, hG7⟩
            case measure => simp [intOf]; omega
    · have i1 : ¬ (I : Int) < (len : Int) := by omega
      cases am with
      | true =>
        have HE : Hid (res = none) := hno rfl
        clear hps hno
        go_wp2
        go_ret
        rw [HE.out]
        exact ⟨⟨_, s', rfl, ⟨_, hO.vals (by unfold maxLen; omega)⟩, hR'⟩, hG⟩
      | false =>
        have HE : Hid (res = some (ps.map Put.x, s')) := by
          show _ = _
          rw [HRES.out, ← hps rfl, List.take_of_length_le (by have := HLE.out; omega)]
        clear hps hno
        go_wp2
        go_ret
        rw [HE.out]
        exact ⟨⟨_, rfl, hO.vals (by unfold maxLen; omega), hR'⟩, hG⟩
end Go.Proofs.Ytgfcindkfnjeoaa
namespace Go.Proofs.Ytgfcindkfnjeoaa
open Go.RowKit

theorem refRec_all : ∀ r, refRecSaid r
  | 0 => fun n lv l M s g w0 w hM => by simp [mostL] at hM
  | r + 1 => refRec_any r (refRec_all r)

set_option maxRecDepth 100000 in
set_option maxHeartbeats 1000000 in
theorem refDecode_any (n : Nat) (lv : Value) (l : List Fld) (bv : Value) (s : List UInt8) (w : World) (hF : Flds w n lv l) (hS : Seg w bv s) (hm : s.length ≤ maxLen) :
    Calls Try.prog 25 #[lv, bv] w fun e w' => decodePost w (decTop l s) e w' := by
  obtain ⟨ao, c, hlv, _, _⟩ := hF.form
  obtain ⟨ab, cb, hbv⟩ := hS.shape
  have HR : Hid (Calls Try.prog 37 #[lv] w fun e w' => e = .returned (.bool (mostL 4 l).isSome) ∧ Below w.heap.size w w') := refRight_any n lv l w hF
  cases hmo : mostL 4 l with
  | none =>
    have hres : Hid (decTop l s = .error 1) := by show _ = _; unfold decTop; rw [hmo]; rfl
    rw [hmo] at HR
    subst hlv
    subst hbv
    go_enter Try.func25, Try.ntmps25
    go_wp2_with (go_at_call 37; refine HR.out.mono ?_; rintro e w1 ⟨rfl, hb1⟩)
    go_ret2
    show decodePost w (decTop l s) _ _
    rw [hres.out]
    exact ⟨rfl, hb1⟩
  | some M =>
    have hres : Hid (decTop l s = match decL 4 l s with
      | some (v, []) => .ok v
      | _ => .error 2) := by show _ = _; unfold decTop; rw [hmo]; rfl
    rw [hmo] at HR
    have HT : Hid (∀ w1, Below w.heap.size w w1 → Calls Try.prog 45 #[.pointer (some ⟨w1.heap.size, 0, none⟩), lv] (w1.alloc (.cells #[bv, .bool false] 77)) fun e w' => cutPost w1 (w1.alloc (.cells #[bv, .bool false] 77)) w1.heap.size (decL 4 l s) (fun v val w' => ValsK w' (fun b => (w1.alloc (.cells #[bv, .bool false] 77)).heap.size ≤ b) 4 val v) (fun val w' => ∃ v, ValsK w' (fun b => (w1.alloc (.cells #[bv, .bool false] 77)).heap.size ≤ b) 4 val v) e w') := fun w1 hb => refRec_all 4 n lv l M s w1.heap.size w1 _ hmo (Flds.keeps (Keeps.of_below hb (Nat.le_refl _)) _ _ _ hF) ⟨Nat.le_refl _, (Below.refl _ _).alloc (Nat.le_refl _) _, hm, bv, Blk.new _ _ _, hS.below hb (Nat.le_refl _)⟩
    subst hlv
    subst hbv
    cases hd : decL 4 l s with
    | none =>
      rw [hd] at HT hres
      go_enter Try.func25, Try.ntmps25
      go_wp2_with (first | (go_at_call 37; refine HR.out.mono ?_; rintro e w1 ⟨rfl, hb1⟩) | (go_at_call 45; refine (HT.out _ (by exact hb1)).mono ?_; rintro e w2 ⟨⟨v2, s2, rfl, ⟨x2, hv2⟩, hR2⟩, hg2⟩; obtain ⟨a2, n2, c2, rfl⟩ := vals_form (hv2 _ (Agree.refl _ _)); obtain ⟨_, hB2, _, lv2, hk2, hs2⟩ := hR2; obtain ⟨a3, c3, rfl⟩ := hs2.shape; have d1 := hk2.cell (j := 1) rfl) | fail)
      go_ret2
      show decodePost w (decTop l s) _ _
      rw [hres.out]
      exact ⟨rfl, hb1.trans (hB2.mono hb1.size)⟩
    | some q =>
      obtain ⟨v, s'⟩ := q
      rw [hd] at HT hres
      have hs' : Hid (s'.length = 0 → decTop l s = .ok v) := fun h => by rw [hres.out, nil_of h]
      have hs'' : Hid (0 < s'.length → decTop l s = .error 2) := fun h => by
        rw [hres.out]
        cases s' with
        | nil => cases h
        | cons _ _ => rfl
      clear hres hd
      by_cases h0 : 0 < s'.length
      · have i0 : (0 : Int) < (s'.length : Int) := by omega
        go_enter Try.func25, Try.ntmps25
        go_wp2_with (first | (go_at_call 37; refine HR.out.mono ?_; rintro e w1 ⟨rfl, hb1⟩) | (go_at_call 45; refine (HT.out _ (by exact hb1)).mono ?_; rintro e w2 ⟨⟨v2, rfl, hv2, hR2⟩, hg2⟩; obtain ⟨a2, n2, c2, rfl⟩ := vals_form (hv2 _ (Agree.refl _ _)); obtain ⟨_, hB2, _, lv2, hk2, hs2⟩ := hR2; obtain ⟨a3, c3, rfl⟩ := hs2.shape; have d0 := hk2.cell (j := 0) rfl; have d1 := hk2.cell (j := 1) rfl) | fail)
        go_ret2
        show decodePost w (decTop l s) _ _
        rw [hs''.out h0]
        exact ⟨rfl, hb1.trans (hB2.mono hb1.size)⟩
      · have HZ : Hid (s'.length = 0) := by show _ = _; omega
        have i0 : ¬ (0 : Int) < (s'.length : Int) := by omega
        go_enter Try.func25, Try.ntmps25
        go_wp2_with (first | (go_at_call 37; refine HR.out.mono ?_; rintro e w1 ⟨rfl, hb1⟩) | (go_at_call 45; refine (HT.out _ (by exact hb1)).mono ?_; rintro e w2 ⟨⟨v2, rfl, hv2, hR2⟩, hg2⟩; obtain ⟨a2, n2, c2, rfl⟩ := vals_form (hv2 _ (Agree.refl _ _)); obtain ⟨_, hB2, _, lv2, hk2, hs2⟩ := hR2; obtain ⟨a3, c3, rfl⟩ := hs2.shape; have d0 := hk2.cell (j := 0) rfl; have d1 := hk2.cell (j := 1) rfl) | fail)
        go_ret2
        show decodePost w (decTop l s) _ _
        rw [hs'.out HZ.out]
        have hsz : (w1.alloc (.cells #[.slice ab s.length cb, .bool false] 77)).heap.size = w1.heap.size + 1 := by simp
        have := hb1.size
        exact ⟨⟨_, rfl, hv2.mono (fun b hb => by rw [hsz] at hb; omega)⟩, hb1.trans (hB2.mono hb1.size)⟩
end Go.Proofs.Ytgfcindkfnjeoaa
