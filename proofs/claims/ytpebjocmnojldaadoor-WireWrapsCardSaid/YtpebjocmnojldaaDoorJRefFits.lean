/-
  What is proved here: the document's fits tells whether there are bytes of a record, as the plain functions have it. the document's number and put lay down the bytes of a record, as the plain functions have them.
  Conditions: the fields may be; fields and values lie in memory. the fields may be, and the record fits them; fields and values lie in memory.
-/
import Derived.Test.YtpebjocmnojldaaDoorJPackMost
namespace Go.Proofs.YtpebjocmnojldaaDoor
open Go.RowKit

def refFitsSaid (r : Nat) : Prop := ∀ (n : Nat) (lv : Value) (l : List Fld) (m : Nat) (vv : Value) (v : List Val) (M : Nat) (w : World), mostL r l = some M → Flds w n lv l → Vals w m vv v →
    Calls Tryd.prog 41 #[lv, vv] w fun e w' => e = .returned (.bool (encL r l v).isSome) ∧ Below w.heap.size w w'
theorem index_records (b off len c I : Nat) (w : World) (h : I < len) : (Instr.indexAt 57 (.slice (some ⟨b, off, none⟩) len c) (.int .i64 (I : Int))).run Tryd.prog w = .ok (.pointer (some ⟨b, off + I, none⟩)) w := by
  have hs : ∀ w, (sizeOf 52).run Tryd.prog w = .ok 1 w := fun w => by kernel_rfl
  have hi : (0 : Int) ≤ (I : Int) ∧ (I : Int) < (len : Int) := by omega
  simp [Instr.indexAt, asIntOf, run_underlying Tryd.underlying57, hs, hi, Addr.add_mid]
  intro h2
  omega
theorem exec_two {a : Act} {o : Oper} {w : World} (f : FuncId) (x y : Operand) (ts : Array TypeId) (ho : o.op = .call { callee := .value (.func f), args := #[x, y], argTypes := ts }) (u v : Value) (hx : a.eval x = u) (hy : a.eval y = v) (hc : ∀ args w, (callFunc f args).run Tryd.prog w = .ok (.enter f args) w) : (execOp a.eval o).run Tryd.prog w = .ok (.enter f #[u, v]) w := by
  have he : a.eval (.func f) = .func (.func f) #[] #[] := rfl
  unfold execOp
  simp [ho, resolve, invoke, Deferred.ofValue, he, hx, hy, hc]
theorem encOne_no {E : List Fld → List Val → Option (List UInt8)} {f : Fld} {x : Val} (h : ¬ ∃ n, amountOf f x = some n ∧ f.min ≤ n ∧ n ≤ f.max) : encOne E f x = none := by
  unfold encOne
  cases ha : amountOf f x with
  | none => rfl
  | some n =>
    simp only
    rw [if_pos]
    by_cases h1 : n < f.min
    · exact .inl h1
    · exact .inr (by
        by_cases h2 : f.max < n
        · exact h2
        · exact absurd ⟨n, ha, by omega, by omega⟩ h)
theorem encOne_cat {E : List Fld → List Val → Option (List UInt8)} {f : Fld} {x : Val} {n : Nat} (h : amountOf f x = some n) (h1 : f.min ≤ n) (h2 : n ≤ f.max) : encOne E f x = (catO (x.l.map (E f.of))).map (fun r => leN (n - f.min) (wid (f.max - f.min)) ++ (x.b ++ r)) := by
  unfold encOne
  rw [h]
  exact if_neg (by omega)
theorem amount_1 {f : Fld} {x : Val} (h : f.kind = 1) (n : Nat) : amountOf f x = some n ↔ (x.b.length = 0 ∧ x.l.length = 0 ∧ n = x.n) := by
  unfold amountOf
  rw [if_pos h]
  by_cases hh : x.b.length = 0 ∧ x.l.length = 0
  · rw [if_pos hh]
    exact ⟨fun e => ⟨hh.1, hh.2, (Option.some.inj e).symm⟩, fun e => by rw [e.2.2]⟩
  · rw [if_neg hh]
    exact ⟨fun e => (by cases e), fun e => absurd ⟨e.1, e.2.1⟩ hh⟩
theorem amount_2 {f : Fld} {x : Val} (h : f.kind = 2) (n : Nat) : amountOf f x = some n ↔ (x.n = 0 ∧ x.l.length = 0 ∧ n = x.b.length) := by
  unfold amountOf
  rw [if_neg (by omega), if_pos h]
  by_cases hh : x.n = 0 ∧ x.l.length = 0
  · rw [if_pos hh]
    exact ⟨fun e => ⟨hh.1, hh.2, (Option.some.inj e).symm⟩, fun e => by rw [e.2.2]⟩
  · rw [if_neg hh]
    exact ⟨fun e => (by cases e), fun e => absurd ⟨e.1, e.2.1⟩ hh⟩
theorem amount_3 {f : Fld} {x : Val} (h : f.kind = 3) (n : Nat) : amountOf f x = some n ↔ (x.n = 0 ∧ x.b.length = 0 ∧ n = x.l.length) := by
  unfold amountOf
  rw [if_neg (by omega), if_neg (by omega)]
  by_cases hh : x.n = 0 ∧ x.b.length = 0
  · rw [if_pos hh]
    exact ⟨fun e => ⟨hh.1, hh.2, (Option.some.inj e).symm⟩, fun e => by rw [e.2.2]⟩
  · rw [if_neg hh]
    exact ⟨fun e => (by cases e), fun e => absurd ⟨e.1, e.2.1⟩ hh⟩

set_option maxRecDepth 100000 in
set_option maxHeartbeats 4000000 in
theorem refFits_any (r : Nat) : refFitsSaid r := by
  induction r with
  | zero =>
    intro n lv l m vv v M w h
    simp [mostL] at h
  | succ r ih =>
    intro n lv l m vv v M w hM hFl hVl
    obtain ⟨hSum, hl1, hl16, hMb⟩ := mostL_succ hM
    obtain ⟨ao, c, hlv, hlm, hFc⟩ := hFl.form
    obtain ⟨av, cv, hvv, hvm, hVc⟩ := hVl.form
    unfold maxLen at hlm hvm
    subst hlv
    subst hvv
    have HE : Hid (encL (r + 1) l v = if l.length = v.length then catO (List.zipWith (encOne (encL r)) l v) else none) := rfl
    have HSum : Hid (mostSum (mostL r) l = some M) := hSum
    clear hSum
    by_cases hlen : l.length = v.length
    · have HE' : Hid (encL (r + 1) l v = catO (List.zipWith (encOne (encL r)) l v)) := by show _ = _; rw [HE.out, if_pos hlen]
      obtain ⟨bF, offF, hao, hbF, hcF, hF⟩ := hFc (by omega)
      obtain ⟨bV, offV, hav, hbV, hcV, hV⟩ := hVc (by omega)
      subst hao
      subst hav
      obtain ⟨len, hle⟩ : ∃ len, l.length = len := ⟨_, rfl⟩
      have hle2 : v.length = len := by omega
      rw [hle] at hl1 hl16 hlm hcF ⊢
      rw [hle2] at hvm hcV ⊢
      have HLE : Hid (l.length = len ∧ v.length = len) := ⟨hle, hle2⟩
      clear hlen hle hle2
      go_enter Tryd.func41, Tryd.ntmps41
      go_wp2
      go_loopw [5] (fun i wr => ∃ (I : Nat) (q : List UInt8), I ≤ len ∧ i = .int .i64 (I : Int) ∧ catO ((List.zipWith (encOne (encL r)) l v).take I) = some q ∧ Below w.heap.size w wr) (fun i _ => len - (intOf i).toNat)
      case atStart => exact ⟨0, [], Nat.zero_le _, rfl, by simp [catO], Below.refl _ _⟩
      case round =>
        obtain ⟨I, q, hI, rfl, hcat, hB⟩ := hrel
        have HC : Hid (catO ((List.zipWith (encOne (encL r)) l v).take I) = some q) := hcat
        clear hcat
        have s1 := hB.size
        by_cases hlt : I < len
        · obtain ⟨f, hf1⟩ : ∃ f, l[I]? = some f := ⟨l[I]'(by have := HLE.out.1; omega), List.getElem?_eq_getElem (by have := HLE.out.1; omega)⟩
          obtain ⟨x, hx1⟩ : ∃ x, v[I]? = some x := ⟨v[I]'(by have := HLE.out.2; omega), List.getElem?_eq_getElem (by have := HLE.out.2; omega)⟩
          obtain ⟨a, S', hmo, hS', hSa⟩ := mostSum_part _ l M I f HSum.out hf1
          have K := Keeps.of_below hB (Nat.le_refl _)
          obtain ⟨f0, f1, f2, ⟨o, f3, hof⟩, hmn, hmx⟩ := (hF I f hf1)
          obtain ⟨x0, ⟨bv, x1, hbv, hbl⟩, ⟨al, cl, x2, hll, hrecs⟩, hxn⟩ := hV I x hx1
          obtain ⟨ab, cb, hbve⟩ : ∃ ab cb, bv = .slice ab x.b.length cb := by
            rcases hbv with ⟨h, ao, c, h2, _⟩ | ⟨b, off, c, h2, _, _, _⟩
            · rw [h]; exact ⟨ao, c, h2⟩
            · exact ⟨_, c, h2⟩
          subst hbve
          obtain ⟨ao2, cc2, ho2, hol2, _⟩ := hof.form
          subst ho2
          unfold maxLen at hbl hll hol2
          have c0 := K.cell f0
          have c1 := K.cell f1
          have c2 := K.cell f2
          have c3 := K.cell f3
          have d0 := K.cell x0
          have d1 := K.cell x1
          have d2 := K.cell x2
          have HZ : Hid ((List.zipWith (encOne (encL r)) l v)[I]? = some (encOne (encL r) f x)) := zip_at _ l v I f x hf1 hx1
          have HN : Hid (encOne (encL r) f x = none → encL (r + 1) l v = none) := fun h => by rw [HE'.out, catO_none _ I (by rw [HZ.out, h])]
          have HS : Hid (∀ nb, encOne (encL r) f x = some nb → catO ((List.zipWith (encOne (encL r)) l v).take (I + 1)) = some (q ++ nb)) := fun nb h => catO_snoc _ I q nb (by rw [HZ.out, h]) HC.out
          have HIH : Hid (∀ k, mostL r f.of = some k → ∀ (rv : Value) (rec : List Val) (W : World), Keeps w W → Vals w (m - 1) rv rec → Calls Tryd.prog 41 #[.slice ao2 f.of.length cc2, rv] W fun e w' => e = .returned (.bool (encL r f.of rec).isSome) ∧ Below W.heap.size W w') := fun k hk rv rec W hW hr => ih (n - 1) _ f.of (m - 1) rv rec k W hk (Flds.keeps hW _ _ _ hof) (Vals.keeps hW _ _ _ hr)
          have i1 : (I : Int) < (len : Int) := by omega
          have hmm := mostOne_le' hmo
          have hbVr : bV < wr.heap.size := by omega
          have hbVr' : bV ≠ wr.heap.size := by omega
          clear f0 f1 f2 f3 x0 x1 x2 hbv hof
          obtain ⟨BL, hBL⟩ : ∃ BL, x.b.length = BL := ⟨_, rfl⟩
          obtain ⟨LL, hLL⟩ : ∃ LL, x.l.length = LL := ⟨_, rfl⟩
          obtain ⟨XN, hXN⟩ : ∃ XN, x.n = XN := ⟨_, rfl⟩
          have A1 := fun h n => amount_1 (f := f) (x := x) h n
          have A2 := fun h n => amount_2 (f := f) (x := x) h n
          have A3 := fun h n => amount_3 (f := f) (x := x) h n
          rw [hBL, hLL, hXN] at A1 A2 A3
          rw [hBL] at hbl d1
          rw [hLL] at hll d2 hrecs
          rw [hXN] at hxn d0
          have HLL : Hid (x.l.length = LL) := hLL
          clear hBL hLL hXN
          have HBB : Hid (Below w.heap.size w ((wr.alloc (.cells #[.int .i64 f.kind, .int .u64 (f.min : Int), .int .u64 (f.max : Int), .slice ao2 f.of.length cc2] 72)).alloc (.cells #[.int .u64 (XN : Int), .slice ab BL cb, .slice al LL cl] 59))) := (hB.alloc s1 _).alloc (by simp; omega) _
          by_cases hk1 : f.kind = 1
          · have j1 : (f.kind == 1) = true := by simpa using hk1
            have HA : Hid (∀ n, amountOf f x = some n ↔ (BL = 0 ∧ LL = 0 ∧ n = XN)) := A1 hk1
            clear hk1 A1 A2 A3
            by_cases hz1 : BL = 0
            · subst hz1
              by_cases hz2 : LL = 0
              · subst hz2
                by_cases hlo : XN < f.min
                · have hno : Hid (encL (r + 1) l v = none) := HN.out (encOne_no (fun ⟨n, h, h1, h2⟩ => by have := ((HA.out n).1 h).2.2; omega))
                  have jl : (XN : Int) < (f.min : Int) := by omega
                  clear HA HN HS HIH HZ
                  go_wp2
                  go_ret
                  exact ⟨by rw [hno.out]; rfl, HBB.out⟩
                by_cases hhi : f.max < XN
                · have hno : Hid (encL (r + 1) l v = none) := HN.out (encOne_no (fun ⟨n, h, h1, h2⟩ => by have := ((HA.out n).1 h).2.2; omega))
                  have jl : ¬ (XN : Int) < (f.min : Int) := by omega
                  have jh : (f.max : Int) < (XN : Int) := by omega
                  clear HA HN HS HIH HZ
                  go_wp2
                  go_ret
                  exact ⟨by rw [hno.out]; rfl, HBB.out⟩
                have jl : ¬ (XN : Int) < (f.min : Int) := by omega
                have jh : ¬ (f.max : Int) < (XN : Int) := by omega
                have HEC : Hid (encOne (encL r) f x = (catO (x.l.map (encL r f.of))).map (fun r => leN (XN - f.min) (wid (f.max - f.min)) ++ (x.b ++ r))) := encOne_cat ((HA.out _).2 ⟨rfl, rfl, rfl⟩) (by omega) (by omega)
                clear HA
                go_wp2
                obtain ⟨w2, hw2⟩ : ∃ w2, w2 = (wr.alloc (.cells #[.int .i64 f.kind, .int .u64 (f.min : Int), .int .u64 (f.max : Int), .slice ao2 f.of.length cc2] 72)).alloc (.cells #[.int .u64 (XN : Int), .slice ab 0 cb, .slice al 0 cl] 59) := ⟨_, rfl⟩
                have hB2 : Below w.heap.size w w2 := by rw [hw2]; exact HBB.out
                rw [← hw2]
                have hF2 : Blk w2 wr.heap.size 72 #[.int .i64 f.kind, .int .u64 (f.min : Int), .int .u64 (f.max : Int), .slice ao2 f.of.length cc2] := by rw [hw2]; exact (Blk.new wr _ _).alloc _
                have hV2 : Blk w2 (wr.heap.size + 1) 59 #[.int .u64 (XN : Int), .slice ab 0 cb, .slice al 0 cl] := by rw [hw2]; exact Blk.newAt _ _ _ _ (by simp)
                clear hw2 HBB
                obtain ⟨wo, rfl⟩ : ∃ wo : World, wo = wr := ⟨_, rfl⟩
                go_loopw [9] (fun i wr => ∃ (k : Nat) (p : List UInt8), k ≤ 0 ∧ i = .int .i64 (k : Int) ∧ catO ((x.l.map (encL r f.of)).take k) = some p ∧ Below w2.heap.size w2 wr) (fun i _ => 0 - (intOf i).toNat)
                case atStart => exact ⟨0, [], Nat.zero_le _, rfl, by simp [catO], Below.refl _ _⟩
                case round =>
                  obtain ⟨k, p, hk, rfl, hcat, hBq⟩ := hrel
                  have HP : Hid (catO ((x.l.map (encL r f.of)).take k) = some p) := hcat
                  clear hcat
                  have hFq := hF2.below hBq hF2.lt
                  have hVq := hV2.below hBq hV2.lt
                  have e2 := hVq.cell (j := 2) rfl
                  have hBw : Below w.heap.size w wr := hB2.trans (hBq.mono hB2.size)
                  have HT : Hid (catO (x.l.map (encL r f.of)) = some p) := by show _ = _; rw [← HP.out, List.take_of_length_le (by have := HLL.out; simp; omega)]
                  obtain rfl : k = 0 := by omega
                  go_wp2
                  go_roundw
                  case rel => exact ⟨I + 1, _, hlt, by go_num, HS.out _ (by rw [HEC.out, HT.out]; rfl), hBw⟩
                  case measure => simp [intOf]; omega
              · have hno : Hid (encL (r + 1) l v = none) := HN.out (encOne_no (fun ⟨n, h, _, _⟩ => hz2 ((HA.out n).1 h).2.1))
                have jz2 : (0 : Int) < (LL : Int) := by omega
                clear HA HN HS HIH HZ hz2
                go_wp2
                go_ret
                exact ⟨by rw [hno.out]; rfl, HBB.out⟩
            · have hno : Hid (encL (r + 1) l v = none) := HN.out (encOne_no (fun ⟨n, h, _, _⟩ => hz1 ((HA.out n).1 h).1))
              have jz1 : (0 : Int) < (BL : Int) := by omega
              clear HA HN HS HIH HZ hz1
              go_wp2
              go_ret
              exact ⟨by rw [hno.out]; rfl, HBB.out⟩
          have j1 : (f.kind == 1) = false := by simpa using hk1
          by_cases hk2 : f.kind = 2
          · have j2 : (f.kind == 2) = true := by simpa using hk2
            have HA : Hid (∀ n, amountOf f x = some n ↔ (XN = 0 ∧ LL = 0 ∧ n = BL)) := A2 hk2
            clear hk1 hk2 A1 A2 A3
            by_cases hz1 : XN = 0
            · subst hz1
              by_cases hz2 : LL = 0
              · subst hz2
                by_cases hlo : BL < f.min
                · have hno : Hid (encL (r + 1) l v = none) := HN.out (encOne_no (fun ⟨n, h, h1, h2⟩ => by have := ((HA.out n).1 h).2.2; omega))
                  have jl : (BL : Int) < (f.min : Int) := by omega
                  clear HA HN HS HIH HZ
                  go_wp2
                  go_ret
                  exact ⟨by rw [hno.out]; rfl, HBB.out⟩
                by_cases hhi : f.max < BL
                · have hno : Hid (encL (r + 1) l v = none) := HN.out (encOne_no (fun ⟨n, h, h1, h2⟩ => by have := ((HA.out n).1 h).2.2; omega))
                  have jl : ¬ (BL : Int) < (f.min : Int) := by omega
                  have jh : (f.max : Int) < (BL : Int) := by omega
                  clear HA HN HS HIH HZ
                  go_wp2
                  go_ret
                  exact ⟨by rw [hno.out]; rfl, HBB.out⟩
                have jl : ¬ (BL : Int) < (f.min : Int) := by omega
                have jh : ¬ (f.max : Int) < (BL : Int) := by omega
                have HEC : Hid (encOne (encL r) f x = (catO (x.l.map (encL r f.of))).map (fun r => leN (BL - f.min) (wid (f.max - f.min)) ++ (x.b ++ r))) := encOne_cat ((HA.out _).2 ⟨rfl, rfl, rfl⟩) (by omega) (by omega)
                clear HA
                go_wp2
                obtain ⟨w2, hw2⟩ : ∃ w2, w2 = (wr.alloc (.cells #[.int .i64 f.kind, .int .u64 (f.min : Int), .int .u64 (f.max : Int), .slice ao2 f.of.length cc2] 72)).alloc (.cells #[.int .u64 0, .slice ab BL cb, .slice al 0 cl] 59) := ⟨_, rfl⟩
                have hB2 : Below w.heap.size w w2 := by rw [hw2]; exact HBB.out
                rw [← hw2]
                have hF2 : Blk w2 wr.heap.size 72 #[.int .i64 f.kind, .int .u64 (f.min : Int), .int .u64 (f.max : Int), .slice ao2 f.of.length cc2] := by rw [hw2]; exact (Blk.new wr _ _).alloc _
                have hV2 : Blk w2 (wr.heap.size + 1) 59 #[.int .u64 0, .slice ab BL cb, .slice al 0 cl] := by rw [hw2]; exact Blk.newAt _ _ _ _ (by simp)
                clear hw2 HBB
                obtain ⟨wo, rfl⟩ : ∃ wo : World, wo = wr := ⟨_, rfl⟩
                go_loopw [9] (fun i wr => ∃ (k : Nat) (p : List UInt8), k ≤ 0 ∧ i = .int .i64 (k : Int) ∧ catO ((x.l.map (encL r f.of)).take k) = some p ∧ Below w2.heap.size w2 wr) (fun i _ => 0 - (intOf i).toNat)
                case atStart => exact ⟨0, [], Nat.zero_le _, rfl, by simp [catO], Below.refl _ _⟩
                case round =>
                  obtain ⟨k, p, hk, rfl, hcat, hBq⟩ := hrel
                  have HP : Hid (catO ((x.l.map (encL r f.of)).take k) = some p) := hcat
                  clear hcat
                  have hFq := hF2.below hBq hF2.lt
                  have hVq := hV2.below hBq hV2.lt
                  have e2 := hVq.cell (j := 2) rfl
                  have hBw : Below w.heap.size w wr := hB2.trans (hBq.mono hB2.size)
                  have HT : Hid (catO (x.l.map (encL r f.of)) = some p) := by show _ = _; rw [← HP.out, List.take_of_length_le (by have := HLL.out; simp; omega)]
                  obtain rfl : k = 0 := by omega
                  go_wp2
                  go_roundw
                  case rel => exact ⟨I + 1, _, hlt, by go_num, HS.out _ (by rw [HEC.out, HT.out]; rfl), hBw⟩
                  case measure => simp [intOf]; omega
              · have hno : Hid (encL (r + 1) l v = none) := HN.out (encOne_no (fun ⟨n, h, _, _⟩ => hz2 ((HA.out n).1 h).2.1))
                have jz2 : (0 : Int) < (LL : Int) := by omega
                clear HA HN HS HIH HZ hz2
                go_wp2
                go_ret
                exact ⟨by rw [hno.out]; rfl, HBB.out⟩
            · have hno : Hid (encL (r + 1) l v = none) := HN.out (encOne_no (fun ⟨n, h, _, _⟩ => hz1 ((HA.out n).1 h).1))
              have jz1 : ((XN : Int) != 0) = true := by rw [bne_iff_ne]; omega
              clear HA HN HS HIH HZ hz1
              go_wp2
              go_ret
              exact ⟨by rw [hno.out]; rfl, HBB.out⟩
          have j2 : (f.kind == 2) = false := by simpa using hk2
          obtain ⟨hk3, kk, hkk, _⟩ := mostOne_of hmo hk1 hk2
          have j3 : (f.kind == 3) = true := by simpa using hk3
          have HA : Hid (∀ n, amountOf f x = some n ↔ (XN = 0 ∧ BL = 0 ∧ n = LL)) := A3 hk3
          clear hk1 hk2 hk3 A1 A2 A3
          by_cases hz1 : XN = 0
          · subst hz1
            by_cases hz2 : BL = 0
            · subst hz2
              by_cases hlo : LL < f.min
              · have hno : Hid (encL (r + 1) l v = none) := HN.out (encOne_no (fun ⟨n, h, h1, h2⟩ => by have := ((HA.out n).1 h).2.2; omega))
                have jl : (LL : Int) < (f.min : Int) := by omega
                clear HA HN HS HIH HZ
                go_wp2
                go_ret
                exact ⟨by rw [hno.out]; rfl, HBB.out⟩
              by_cases hhi : f.max < LL
              · have hno : Hid (encL (r + 1) l v = none) := HN.out (encOne_no (fun ⟨n, h, h1, h2⟩ => by have := ((HA.out n).1 h).2.2; omega))
                have jl : ¬ (LL : Int) < (f.min : Int) := by omega
                have jh : (f.max : Int) < (LL : Int) := by omega
                clear HA HN HS HIH HZ
                go_wp2
                go_ret
                exact ⟨by rw [hno.out]; rfl, HBB.out⟩
              have jl : ¬ (LL : Int) < (f.min : Int) := by omega
              have jh : ¬ (f.max : Int) < (LL : Int) := by omega
              have HEC : Hid (encOne (encL r) f x = (catO (x.l.map (encL r f.of))).map (fun r => leN (LL - f.min) (wid (f.max - f.min)) ++ (x.b ++ r))) := encOne_cat ((HA.out _).2 ⟨rfl, rfl, rfl⟩) (by omega) (by omega)
              clear HA
              go_wp2
              obtain ⟨w2, hw2⟩ : ∃ w2, w2 = (wr.alloc (.cells #[.int .i64 f.kind, .int .u64 (f.min : Int), .int .u64 (f.max : Int), .slice ao2 f.of.length cc2] 72)).alloc (.cells #[.int .u64 0, .slice ab 0 cb, .slice al LL cl] 59) := ⟨_, rfl⟩
              have hB2 : Below w.heap.size w w2 := by rw [hw2]; exact HBB.out
              rw [← hw2]
              have hF2 : Blk w2 wr.heap.size 72 #[.int .i64 f.kind, .int .u64 (f.min : Int), .int .u64 (f.max : Int), .slice ao2 f.of.length cc2] := by rw [hw2]; exact (Blk.new wr _ _).alloc _
              have hV2 : Blk w2 (wr.heap.size + 1) 59 #[.int .u64 0, .slice ab 0 cb, .slice al LL cl] := by rw [hw2]; exact Blk.newAt _ _ _ _ (by simp)
              clear hw2 HBB
              obtain ⟨wo, rfl⟩ : ∃ wo : World, wo = wr := ⟨_, rfl⟩
              go_loopw [9] (fun i wr => ∃ (k : Nat) (p : List UInt8), k ≤ LL ∧ i = .int .i64 (k : Int) ∧ catO ((x.l.map (encL r f.of)).take k) = some p ∧ Below w2.heap.size w2 wr) (fun i _ => LL - (intOf i).toNat)
              case atStart => exact ⟨0, [], Nat.zero_le _, rfl, by simp [catO], Below.refl _ _⟩
              case round =>
                obtain ⟨k, p, hk, rfl, hcat, hBq⟩ := hrel
                have HP : Hid (catO ((x.l.map (encL r f.of)).take k) = some p) := hcat
                clear hcat
                have hFq := hF2.below hBq hF2.lt
                have hVq := hV2.below hBq hV2.lt
                have e2 := hVq.cell (j := 2) rfl
                have hBw : Below w.heap.size w wr := hB2.trans (hBq.mono hB2.size)
                by_cases hlk : k < LL
                · obtain ⟨bL, offL, rfl, hbL, hcL, hrec⟩ := hrecs (by omega)
                  obtain ⟨rec, hrec1⟩ : ∃ rec, x.l[k]? = some rec := ⟨x.l[k]'(by have := HLL.out; omega), List.getElem?_eq_getElem (by have := HLL.out; omega)⟩
                  obtain ⟨rv, r1, r2⟩ := hrec k rec hrec1
                  have ik : (k : Int) < (LL : Int) := by omega
                  have HQ : Hid ((x.l.map (encL r f.of))[k]? = some (encL r f.of rec)) := by show _ = _; rw [List.getElem?_map, hrec1]; rfl
                  have HCc := HIH.out kk hkk rv rec
                  have hHC : Hid (∀ W, Keeps w W → Calls Tryd.prog 41 #[.slice ao2 f.of.length cc2, rv] W fun e w' => e = .returned (.bool (encL r f.of rec).isSome) ∧ Below W.heap.size W w') := fun W hW => HCc W hW r2
                  clear HCc
                  cases hen : encL r f.of rec with
                  | none =>
                    rw [hen] at hHC HQ
                    go_wp2_with fail
                    refine held_begin (fun W => Below wr.heap.size wr W) (by kernel_rfl) ?_
                    have hS1 : Below wr.heap.size wr wr.drew := (Below.refl _ _).drew
                    refine held_take 0 93 _ (.pointer (some ⟨wo.heap.size, 3, none⟩)) rfl rfl (by kernel_rfl) (by kernel_rfl) (by kernel_rfl) rfl hS1 (fun _ _ => rfl) ?_
                    simp only [Act.put, List.setIfInBounds_toArray, List.set_cons_succ, List.set_cons_zero]
                    refine held_take 1 94 _ (.slice ao2 f.of.length cc2) rfl rfl (by kernel_rfl) (by kernel_rfl) (by kernel_rfl) rfl hS1 (fun W hW => exec_load1 _ _ rfl (fun _ => by kernel_rfl) _ _ rfl _ ((hFq.below hW hFq.lt).cell (j := 3) rfl)) ?_
                    simp only [Act.put, List.setIfInBounds_toArray, List.set_cons_succ, List.set_cons_zero]
                    refine held_take 2 95 _ (.pointer (some ⟨wo.heap.size + 1, 2, none⟩)) rfl rfl (by kernel_rfl) (by kernel_rfl) (by kernel_rfl) rfl hS1 (fun _ _ => rfl) ?_
                    simp only [Act.put, List.setIfInBounds_toArray, List.set_cons_succ, List.set_cons_zero]
                    refine held_take 3 96 _ (.slice (some ⟨bL, offL, none⟩) LL cl) rfl rfl (by kernel_rfl) (by kernel_rfl) (by kernel_rfl) rfl hS1 (fun W hW => exec_load1 _ _ rfl (fun _ => by kernel_rfl) _ _ rfl _ ((hVq.below hW hVq.lt).cell (j := 2) rfl)) ?_
                    simp only [Act.put, List.setIfInBounds_toArray, List.set_cons_succ, List.set_cons_zero]
                    refine held_take 4 97 _ (.int .i64 (k : Int)) rfl rfl (by kernel_rfl) (by kernel_rfl) (by kernel_rfl) rfl hS1 (fun _ _ => rfl) ?_
                    simp only [Act.put, List.setIfInBounds_toArray, List.set_cons_succ, List.set_cons_zero]
                    refine held_take 5 98 _ (.pointer (some ⟨bL, offL + k, none⟩)) rfl rfl (by kernel_rfl) (by kernel_rfl) (by kernel_rfl) rfl hS1 (fun W _ => exec_index _ _ _ rfl _ _ _ rfl rfl (index_records bL offL LL cl k W hlk)) ?_
                    simp only [Act.put, List.setIfInBounds_toArray, List.set_cons_succ, List.set_cons_zero]
                    refine held_take 6 99 _ rv rfl rfl (by kernel_rfl) (by kernel_rfl) (by kernel_rfl) rfl hS1 (fun W hW => exec_load1 _ _ rfl (fun _ => by kernel_rfl) _ _ rfl _ ((Keeps.of_below (hBw.trans (hW.mono hBw.size)) (Nat.le_refl _)).cell r1)) ?_
                    simp only [Act.put, List.setIfInBounds_toArray, List.set_cons_succ, List.set_cons_zero]
                    refine held_call 7 100 _ 41 _ rfl rfl (by kernel_rfl) rfl (exec_two 41 _ _ _ rfl _ _ rfl rfl Tryd.call41) ?_
                    refine (hHC.out _ (Keeps.of_below (hBw.trans (hS1.mono hBw.size)) (Nat.le_refl _))).mono ?_
                    rintro e w5 ⟨rfl, hb5⟩
                    have hS5 : Below wr.heap.size wr w5 := hS1.trans (hb5.mono hS1.size)
                    refine ⟨_, rfl, hS5, ?_⟩
                    simp only [Act.put, List.setIfInBounds_toArray, List.set_cons_succ, List.set_cons_zero]
                    refine held_one 8 10 _ (.bool false) rfl rfl (by kernel_rfl) rfl hS5 rfl ?_
                    simp only [Act.put, List.setIfInBounds_toArray, List.set_cons_succ, List.set_cons_zero]
                    refine wpAnyH_done (by kernel_rfl) ?_ _
                    refine NoPanic.normal ?_
                    have hno : Hid (encL (r + 1) l v = none) := HN.out (by rw [HEC.out, catO_none _ k HQ.out]; rfl)
                    go_wp2
                    go_ret
                    exact ⟨by rw [hno.out]; rfl, hBw.trans (hS5.mono hBw.size)⟩
                  | some nb =>
                    rw [hen] at hHC HQ
                    go_wp2_with fail
                    refine held_begin (fun W => Below wr.heap.size wr W) (by kernel_rfl) ?_
                    have hS1 : Below wr.heap.size wr wr.drew := (Below.refl _ _).drew
                    refine held_take 0 93 _ (.pointer (some ⟨wo.heap.size, 3, none⟩)) rfl rfl (by kernel_rfl) (by kernel_rfl) (by kernel_rfl) rfl hS1 (fun _ _ => rfl) ?_
                    simp only [Act.put, List.setIfInBounds_toArray, List.set_cons_succ, List.set_cons_zero]
                    refine held_take 1 94 _ (.slice ao2 f.of.length cc2) rfl rfl (by kernel_rfl) (by kernel_rfl) (by kernel_rfl) rfl hS1 (fun W hW => exec_load1 _ _ rfl (fun _ => by kernel_rfl) _ _ rfl _ ((hFq.below hW hFq.lt).cell (j := 3) rfl)) ?_
                    simp only [Act.put, List.setIfInBounds_toArray, List.set_cons_succ, List.set_cons_zero]
                    refine held_take 2 95 _ (.pointer (some ⟨wo.heap.size + 1, 2, none⟩)) rfl rfl (by kernel_rfl) (by kernel_rfl) (by kernel_rfl) rfl hS1 (fun _ _ => rfl) ?_
                    simp only [Act.put, List.setIfInBounds_toArray, List.set_cons_succ, List.set_cons_zero]
                    refine held_take 3 96 _ (.slice (some ⟨bL, offL, none⟩) LL cl) rfl rfl (by kernel_rfl) (by kernel_rfl) (by kernel_rfl) rfl hS1 (fun W hW => exec_load1 _ _ rfl (fun _ => by kernel_rfl) _ _ rfl _ ((hVq.below hW hVq.lt).cell (j := 2) rfl)) ?_
                    simp only [Act.put, List.setIfInBounds_toArray, List.set_cons_succ, List.set_cons_zero]
                    refine held_take 4 97 _ (.int .i64 (k : Int)) rfl rfl (by kernel_rfl) (by kernel_rfl) (by kernel_rfl) rfl hS1 (fun _ _ => rfl) ?_
                    simp only [Act.put, List.setIfInBounds_toArray, List.set_cons_succ, List.set_cons_zero]
                    refine held_take 5 98 _ (.pointer (some ⟨bL, offL + k, none⟩)) rfl rfl (by kernel_rfl) (by kernel_rfl) (by kernel_rfl) rfl hS1 (fun W _ => exec_index _ _ _ rfl _ _ _ rfl rfl (index_records bL offL LL cl k W hlk)) ?_
                    simp only [Act.put, List.setIfInBounds_toArray, List.set_cons_succ, List.set_cons_zero]
                    refine held_take 6 99 _ rv rfl rfl (by kernel_rfl) (by kernel_rfl) (by kernel_rfl) rfl hS1 (fun W hW => exec_load1 _ _ rfl (fun _ => by kernel_rfl) _ _ rfl _ ((Keeps.of_below (hBw.trans (hW.mono hBw.size)) (Nat.le_refl _)).cell r1)) ?_
                    simp only [Act.put, List.setIfInBounds_toArray, List.set_cons_succ, List.set_cons_zero]
                    refine held_call 7 100 _ 41 _ rfl rfl (by kernel_rfl) rfl (exec_two 41 _ _ _ rfl _ _ rfl rfl Tryd.call41) ?_
                    refine (hHC.out _ (Keeps.of_below (hBw.trans (hS1.mono hBw.size)) (Nat.le_refl _))).mono ?_
                    rintro e w5 ⟨rfl, hb5⟩
                    have hS5 : Below wr.heap.size wr w5 := hS1.trans (hb5.mono hS1.size)
                    refine ⟨_, rfl, hS5, ?_⟩
                    simp only [Act.put, List.setIfInBounds_toArray, List.set_cons_succ, List.set_cons_zero]
                    refine held_one 8 10 _ (.bool true) rfl rfl (by kernel_rfl) rfl hS5 rfl ?_
                    simp only [Act.put, List.setIfInBounds_toArray, List.set_cons_succ, List.set_cons_zero]
                    refine wpAnyH_done (by kernel_rfl) ?_ _
                    refine NoPanic.normal ?_
                    go_wp2
                    go_roundw
                    case rel => exact ⟨k + 1, p ++ nb, hlk, by go_num, catO_snoc _ k p nb HQ.out HP.out, hBq.trans (hS5.mono hBq.size)⟩
                    case measure => simp [intOf]; omega
                · have HT : Hid (catO (x.l.map (encL r f.of)) = some p) := by show _ = _; rw [← HP.out, List.take_of_length_le (by have := HLL.out; simp; omega)]
                  have ik : ¬ (k : Int) < (LL : Int) := by omega
                  go_wp2
                  go_roundw
                  case rel => exact ⟨I + 1, _, hlt, by go_num, HS.out _ (by rw [HEC.out, HT.out]; rfl), hBw⟩
                  case measure => simp [intOf]; omega
            · have hno : Hid (encL (r + 1) l v = none) := HN.out (encOne_no (fun ⟨n, h, _, _⟩ => hz2 ((HA.out n).1 h).2.1))
              have jz2 : (0 : Int) < (BL : Int) := by omega
              clear HA HN HS HIH HZ hz2
              go_wp2
              go_ret
              exact ⟨by rw [hno.out]; rfl, HBB.out⟩
          · have hno : Hid (encL (r + 1) l v = none) := HN.out (encOne_no (fun ⟨n, h, _, _⟩ => hz1 ((HA.out n).1 h).1))
            have jz1 : ((XN : Int) != 0) = true := by rw [bne_iff_ne]; omega
            clear HA HN HS HIH HZ hz1
            go_wp2
            go_ret
            exact ⟨by rw [hno.out]; rfl, HBB.out⟩
        · have HQ : Hid (catO (List.zipWith (encOne (encL r)) l v) = some q) := by show _ = _; rw [← HC.out, List.take_of_length_le (by have := HLE.out; simp; omega)]
          have i1 : ¬ (I : Int) < (len : Int) := by omega
          go_wp2
          go_ret
          exact ⟨by rw [HE'.out, HQ.out]; rfl, hB⟩
    · have hres : Hid (encL (r + 1) l v = none) := by show _ = _; rw [HE.out, if_neg hlen]
      have i1 : ((l.length : Int) != (v.length : Int)) = true := by
        rw [bne_iff_ne]; omega
      go_enter Tryd.func41, Tryd.ntmps41
      go_wp2
      go_ret
      exact ⟨by rw [hres.out]; rfl, Below.refl _ _⟩
end Go.Proofs.YtpebjocmnojldaaDoor
namespace Go.Proofs.YtpebjocmnojldaaDoor
open Go.RowKit

theorem app_run (w : World) (ty : TypeId) (base : Nat) (v : Value) (bs : List UInt8) (hown : Own w base v bs) (xv : Value) (nw : List UInt8) (hseg : Seg w xv nw) (hlen : bs.length + nw.length ≤ 1000000000) (hbase : base ≤ w.heap.size) :
    ∃ v' w', (Builtin.append_ #[23, 23] ty #[v, xv]).run Tryd.prog w = .ok v' w' ∧ Grew w base v w' v' (bs ++ nw) := by
  obtain ⟨i0, hi, hz0, hz1, hz2⟩ := info_parts Tryd.info5
  have key : ∀ ad c m, xv = .slice (some ad) m c → m = nw.length → (∀ j u, (nw.map v8)[j]? = some u → w.cell? (ad.add j) = some u) → ∃ v' w', (Builtin.append_ #[23, 23] ty #[v, xv]).run Tryd.prog w = .ok v' w' ∧ Grew w base v w' v' (bs ++ nw) := by
    intro ad c m hxv hm hc
    subst hm
    obtain ⟨v', w', hr, h2, h3, h4, h5⟩ := run_append_own_at (P := Tryd.prog) w base 23 ty 5 i0 (.int .u8 0) 1 1 Tryd.underlying23 hi hz0 hz1 hz2 rfl (by decide) v bs.length (bs.map v8) hown ad nw.length c (nw.map v8) (by simp) hc (one8l nw) (by unfold maxLen; omega) (by omega) hbase
    exact ⟨v', w', by rw [hxv]; exact hr, Grew.app (by unfold Own; rw [List.length_append, List.map_append]; exact h2) h3 h5⟩
  rcases hseg with ⟨rfl, ao, c, rfl, hn⟩ | ⟨b, off, c, rfl, _, hr, _⟩
  · cases ao with
    | none =>
      obtain rfl := hn rfl
      exact ⟨v, w, run_append_owned_none (P := Tryd.prog) (w := w) base 23 ty 5 i0 1 Tryd.underlying23 hi v bs.length (bs.map v8) hown, by rw [List.append_nil]; exact Grew.refl hown⟩
    | some ad => exact key ad c 0 rfl rfl (fun j u h => by simp at h)
  · exact key ⟨b, off, none⟩ c _ rfl rfl hr.at
theorem exec_appb {a : Act} {o : Oper} {w w' : World} (s x : Operand) (ho : o.op = .call { callee := .builtin .append, args := #[s, x], argTypes := #[23, 23] }) (v xv v' : Value) (hs : a.eval s = v) (hx : a.eval x = xv) (h : (Builtin.append_ #[23, 23] o.type #[v, xv]).run Tryd.prog w = .ok v' w') : (execOp a.eval o).run Tryd.prog w = .ok (.value v') w' := by
  unfold execOp
  simp only [ho, resolve, invoke, builtin, Sem.run_bind, Sem.run_pure, Result.andThen_ok, List.map_toArray, List.map_cons, List.map_nil, hs, hx, h]
/-- The one operation that may come up yields a value and leaves another world. -/
theorem held_run {ops : Array Oper} {Q : Exit → Act → World → Prop} {S : World → Prop} {fuel : Nat} {listed : Array Bool} {a : Act} {w : World} (i d : Nat) (o : Oper) (v : Value) (w' : World) (hi : ops[i]? = some o) (hd : o.dst = some d)
    (hr : Region.ready .any ops listed = [i]) (hw : Region.wanted o (yielded ops a.tmps) = true) (hS : S w') (hrun : (execOp a.eval o).run Tryd.prog w = .ok (.value v) w')
    (h : wpAnyH Tryd.prog .any ops Q S fuel (listed.setIfInBounds i true) (a.put (some d) v) w') : wpAnyH Tryd.prog .any ops Q S (fuel + 1) listed a w := by
  refine wpAnyH_all hr (by simp) fun k hk => ?_
  obtain rfl : k = i := by simpa using hk
  unfold wpOp
  simp only [hi, hw, if_true]
  refine .inl ?_
  unfold Oper.wp
  rw [hrun]
  show _ ∧ _
  rw [hd]; exact ⟨hS, h⟩
theorem exec_lens {a : Act} {o : Oper} {w : World} (t e : TypeId) (ht : Tryd.prog.underlying t = some (.slice e)) (x : Operand) (ho : o.op = .call { callee := .builtin .len, args := #[x], argTypes := #[t] }) (ao : Option Addr) (n c : Nat) (hx : a.eval x = .slice ao n c) : (execOp a.eval o).run Tryd.prog w = .ok (.value (.int .i64 (n : Int))) w := by
  unfold execOp
  have hl : ∀ cs, builtin .len #[t] o.type cs #[.slice ao n c] = (do pure (.value (← Builtin.len_ #[t] o.type #[.slice ao n c]))) := fun _ => rfl
  simp [ho, resolve, invoke, hx, hl, Builtin.len_, run_underlying ht]
  rfl
set_option maxRecDepth 100000 in
theorem conv_u64 (n : Nat) (h : n < 18446744073709551616) (w : World) : (convert 3 56 (.int .i64 (n : Int))).run Tryd.prog w = .ok (.int .u64 (n : Int)) w := by
  have h1 : (convert 3 56 (.int .i64 (n : Int))).run Tryd.prog w = .ok (.int .u64 (IntKind.u64.wrap (n : Int))) w := by kernel_rfl
  rw [h1, IntKind.wrap_u64]
  congr 2
  omega
theorem mod_form (n j : Nat) : IntKind.u8.wrap (((n / 256 ^ j : Nat) : Int) % 256) = n8 (UInt8.ofNat (n / 256 ^ j % 256)) := by
  have h := byte_form n j
  have e : (((n / 256 ^ j : Nat) : Int) % 256) = ((n / 256 ^ j % 256 : Nat) : Int) := by omega
  rw [e, wrap_u8_nat]
  show _ = ((UInt8.ofNat (n / 256 ^ j % 256)).toNat : Int)
  have : (UInt8.ofNat (n / 256 ^ j % 256)).toNat = n / 256 ^ j % 256 % 256 := by simp
  rw [this]

set_option maxRecDepth 100000 in
set_option maxHeartbeats 1000000 in
theorem refNumber_any (n k : Nat) (w : World) (hk : k ≤ 8) (hn : n < 18446744073709551616) :
    Calls Tryd.prog 61 #[.int .u64 (n : Int), .int .i64 (k : Int)] w fun e w' => ∃ v', e = .returned v' ∧ Own w' w.heap.size v' (leN n k) ∧ Below w.heap.size w w' := by
  have HN : Hid (n < 18446744073709551616) := hn
  clear hn
  go_enter Tryd.func61, Tryd.ntmps61
  go_wp2
  go_loopw [0, 5, 6] (fun x u i wr => ∃ j m : Nat, j ≤ k ∧ i = .int .i64 (j : Int) ∧ x = .int .u64 (m : Int) ∧ m = n / 256 ^ j ∧ Grew w w.heap.size (.slice none 0 0) wr u ((leN n k).take j)) (fun _ _ i _ => k - (intOf i).toNat)
  case atStart => exact ⟨0, n, Nat.zero_le _, rfl, rfl, by simp, by simpa using Grew.refl (own_nil w w.heap.size)⟩
  case round =>
    obtain ⟨j, m, hj, rfl, rfl, hm, hG⟩ := hrel
    have s1 := hG.size
    by_cases hlt : j < k
    · have HT : Hid ((leN n k).take (j + 1) = (leN n k).take j ++ [UInt8.ofNat (n / 256 ^ j % 256)]) := leN_take n k j hlt
      have hbf := mod_form n j
      rw [← hm] at hbf HT
      have HM : Hid (m / 256 = n / 256 ^ (j + 1)) := by show _ = _; rw [hm, Nat.div_div_eq_div_mul, Nat.pow_succ]
      have hl2 : ((leN n k).take j).length ≤ 8 := by simp [leN_len]; omega
      have hmb : m < 18446744073709551616 := by have := HN.out; rw [hm]; exact Nat.lt_of_le_of_lt (Nat.div_le_self _ _) this
      clear hm
      obtain ⟨y, hy⟩ : ∃ y, y = UInt8.ofNat (m % 256) := ⟨_, rfl⟩
      rw [← hy] at hbf HT
      clear hy
      generalize (leN n k).take j = BJ at *
      have i1 : (j : Int) < (k : Int) := by omega
      go_wp2_with (at_builtin; refine app_own _ rfl (.tmp 12) (.tmp 16) rfl w.heap.size _ BJ rfl (hG.own.alloc _) _ [y] rfl (by exact Seg.of_row (row_one _ y _) rfl (by simp) (by simp)) (by simp only [List.length_singleton]; omega) (by simp; omega) ?_; intro v2 w2 ho2 hg2 hv2)
      go_roundw
      case rel =>
        refine ⟨j + 1, m / 256, hlt, by go_num, by go_num, HM.out, ?_⟩
        rw [HT.out]
        exact (hG.after ((Below.refl wr.heap.size wr).alloc (Nat.le_refl _) _) (Nat.le_refl _)).trans (Grew.app ho2 hg2 hv2)
      case measure => simp [intOf]; omega
    · have HJ : Hid ((leN n k).take j = leN n k) := by show _ = _; rw [show j = k by omega]; exact leN_all n k
      have i1 : ¬ (j : Int) < (k : Int) := by omega
      go_wp2
      go_ret
      exact ⟨_, rfl, by rw [← HJ.out]; exact hG.own, hG.below (own_nil _ _) (Nat.le_refl _)⟩

def refPutSaid (r : Nat) : Prop := ∀ (n : Nat) (lv : Value) (l : List Fld) (m : Nat) (vv : Value) (v : List Val) (M : Nat) (nb : List UInt8) (w : World), mostL r l = some M → encL r l v = some nb → Flds w n lv l → Vals w m vv v →
    Calls Tryd.prog 42 #[lv, vv] w fun e w' => ∃ b, e = .returned b ∧ Own w' w.heap.size b nb ∧ Below w.heap.size w w'
theorem catO_part (l : List (Option (List UInt8))) (p : List UInt8) (I : Nat) (q : Option (List UInt8)) (h : catO l = some p) (hq : l[I]? = some q) : ∃ a b, q = some a ∧ catO (l.take I) = some b := by
  have hs : l = l.take I ++ (q :: l.drop (I + 1)) := by
    obtain ⟨h1, h2⟩ := List.getElem?_eq_some_iff.1 hq
    rw [← h2, List.getElem_cons_drop, List.take_append_drop]
  rw [hs, catO_append] at h
  cases h1 : catO (l.take I) with
  | none => rw [h1] at h; cases h
  | some b =>
    rw [h1] at h
    cases q with
    | none => simp [catO] at h
    | some a => exact ⟨a, b, rfl, rfl⟩

set_option maxRecDepth 100000 in
set_option maxHeartbeats 4000000 in
theorem refPut_any (r : Nat) : refPutSaid r := by
  induction r with
  | zero =>
    intro n lv l m vv v M nb w h
    simp [mostL] at h
  | succ r ih =>
    intro n lv l m vv v M nb w hM hen hFl hVl
    have hnl := encL_len (r + 1) l M v nb hM hen
    obtain ⟨hSum, hl1, hl16, hMb⟩ := mostL_succ hM
    have hlen : l.length = v.length := by
      unfold encL at hen
      split at hen
      · assumption
      · cases hen
    have HE : Hid (catO (List.zipWith (encOne (encL r)) l v) = some nb) := by
      show _ = _
      unfold encL at hen
      rw [if_pos hlen] at hen
      exact hen
    obtain ⟨ao, c, hlv, hlm, hFc⟩ := hFl.form
    obtain ⟨av, cv, hvv, hvm, hVc⟩ := hVl.form
    unfold maxLen at hlm hvm
    subst hlv
    subst hvv
    have HSum : Hid (mostSum (mostL r) l = some M) := hSum
    clear hSum hen
    obtain ⟨bF, offF, hao, hbF, hcF, hF⟩ := hFc (by omega)
    obtain ⟨bV, offV, hav, hbV, hcV, hV⟩ := hVc (by omega)
    subst hao
    subst hav
    obtain ⟨len, hle⟩ : ∃ len, l.length = len := ⟨_, rfl⟩
    have hle2 : v.length = len := by omega
    rw [hle] at hl1 hl16 hlm hcF ⊢
    rw [hle2] at hvm hcV ⊢
    have HLE : Hid (l.length = len ∧ v.length = len) := ⟨hle, hle2⟩
    clear hlen hle hle2
    go_enter Tryd.func42, Tryd.ntmps42
    go_wp2
    go_loopw [5, 6] (fun u i wr => ∃ (I : Nat) (q : List UInt8), I ≤ len ∧ i = .int .i64 (I : Int) ∧ catO ((List.zipWith (encOne (encL r)) l v).take I) = some q ∧ (∀ S, mostSum (mostL r) (l.take I) = some S → q.length ≤ S) ∧ Grew w w.heap.size (.slice none 0 0) wr u q) (fun _ i _ => len - (intOf i).toNat)
    case atStart => exact ⟨0, [], Nat.zero_le _, rfl, by simp [catO], fun _ _ => Nat.zero_le _, Grew.refl (own_nil _ _)⟩
    case round =>
      obtain ⟨I, q, hI, rfl, hcat, hql, hG⟩ := hrel
      have HC : Hid (catO ((List.zipWith (encOne (encL r)) l v).take I) = some q) := hcat
      clear hcat
      have s1 := hG.size
      have hB := hG.below (own_nil _ _) (Nat.le_refl _)
      by_cases hlt : I < len
      · obtain ⟨f, hf1⟩ : ∃ f, l[I]? = some f := ⟨l[I]'(by have := HLE.out.1; omega), List.getElem?_eq_getElem (by have := HLE.out.1; omega)⟩
        obtain ⟨x, hx1⟩ : ∃ x, v[I]? = some x := ⟨v[I]'(by have := HLE.out.2; omega), List.getElem?_eq_getElem (by have := HLE.out.2; omega)⟩
        obtain ⟨a, S', hmo, hS', hSa⟩ := mostSum_part _ l M I f HSum.out hf1
        have hqS := hql S' hS'
        obtain ⟨xb, _, hxe, _⟩ := catO_part _ nb I _ HE.out (zip_at (encL r) l v I f x hf1 hx1)
        have HZ : Hid (catO ((List.zipWith (encOne (encL r)) l v).take (I + 1)) = some (q ++ xb)) := catO_snoc _ I q xb (by rw [zip_at (encL r) l v I f x hf1 hx1, hxe]) HC.out
        have hxl := encOne_len hmo (fun l m v q h1 h2 => encL_len r l m v q h1 h2) hxe
        have HQL : Hid (∀ S, mostSum (mostL r) (l.take (I + 1)) = some S → (q ++ xb).length ≤ S) := fun S h2 => by
          rw [mostSum_snoc _ l I f S' a hf1 hS' hmo] at h2
          cases h2
          rw [List.length_append]; omega
        have K := Keeps.of_below hB (Nat.le_refl _)
        obtain ⟨f0, f1, f2, ⟨o, f3, hof⟩, hmn, hmx⟩ := hF I f hf1
        obtain ⟨x0, ⟨bv, x1, hbv, hbl⟩, ⟨al, cl, x2, hll, hrecs⟩, hxn⟩ := hV I x hx1
        obtain ⟨ab, cb, hbve⟩ : ∃ ab cb, bv = .slice ab x.b.length cb := by
          rcases hbv with ⟨h, ao, c, h2, _⟩ | ⟨b, off, c, h2, _, _, _⟩
          · rw [h]; exact ⟨ao, c, h2⟩
          · exact ⟨_, c, h2⟩
        subst hbve
        obtain ⟨ao2, cc2, ho2, hol2, _⟩ := hof.form
        subst ho2
        unfold maxLen at hbl hll hol2
        have c0 := K.cell f0
        have c1 := K.cell f1
        have c2 := K.cell f2
        have c3 := K.cell f3
        have hmm := mostOne_le' hmo
        have i1 : (I : Int) < (len : Int) := by omega
        have hbVr : bV < wr.heap.size := by omega
        have hsub : (f.max : Int) - (f.min : Int) = ((f.max - f.min : Nat) : Int) := by omega
        have hw : ∀ W, Calls Tryd.prog 60 #[.int .u64 ((f.max - f.min : Nat) : Int)] W fun e w' => e = .returned (.int .i64 (wid (f.max - f.min) : Int)) ∧ w' = W := fun W => refWidth_any _ (by omega) W
        have hlt64 : f.max - f.min < 18446744073709551616 := by omega
        have hwl := wid_le (f.max - f.min)
        obtain ⟨n, han, hrg⟩ : ∃ n, amountOf f x = some n ∧ ¬ (n < f.min ∨ f.max < n) := by
          unfold encOne at hxe
          split at hxe
          · cases hxe
          · rename_i n hn
            split at hxe
            · cases hxe
            · exact ⟨n, hn, by assumption⟩
        have HXB : Hid ((catO (x.l.map (encL r f.of))).map (fun r => leN (n - f.min) (wid (f.max - f.min)) ++ (x.b ++ r)) = some xb) := by
          show _ = _
          unfold encOne at hxe
          rw [han] at hxe
          simp only at hxe
          rw [if_neg hrg] at hxe
          exact hxe
        obtain ⟨BL, hBL⟩ : ∃ BL, x.b.length = BL := ⟨_, rfl⟩
        obtain ⟨LL, hLL⟩ : ∃ LL, x.l.length = LL := ⟨_, rfl⟩
        obtain ⟨XN, hXN⟩ : ∃ XN, x.n = XN := ⟨_, rfl⟩
        have hbvW : Hid (∀ W, Below w.heap.size w W → Seg W (.slice ab BL cb) x.b) := fun W hW => by rw [← hBL]; exact hbv.below hW (Nat.le_refl _)
        have hBm : BL ≤ 9223372036854775807 := by omega
        have hLm : LL ≤ 9223372036854775807 := by omega
        have RV : Hid (∀ ob, ((wr.alloc ob).drew).rangeAt bV (offV + I * 3) [.int .u64 (XN : Int), .slice ab BL cb, .slice al LL cl]) := fun ob j u hu => by
          have kk : Keeps w (wr.alloc ob).drew := K.trans (Keeps.of_below ((Below.refl wr.heap.size wr).alloc (Nat.le_refl _) _).drew (Nat.le_refl _))
          match j, hu with
          | 0, hu => cases hu; rw [← hXN]; exact kk.cell x0
          | 1, hu => cases hu; rw [← hBL]; exact kk.cell x1
          | 2, hu => cases hu; rw [← hLL]; exact kk.cell x2
          | (j + 3), hu => cases hu
        have HG1 : Hid (∀ ob, Grew w w.heap.size (.slice none 0 0) (wr.alloc ob).drew u5 q) := fun ob => hG.after ((Below.refl wr.heap.size wr).alloc (Nat.le_refl _) _).drew (Nat.le_refl _)
        have hnew : u5.ownBlock ≠ some wr.heap.size := fun h => by have := (hG.own.blocks _ h).2; omega
        have hold : u5.ownBlock ≠ some bV := fun h => by have := (hG.own.blocks _ h).1; omega
        obtain ⟨A1, A2, A3⟩ := amountOf_facts han
        rw [hBL, hLL, hXN] at A1 A2 A3
        by_cases hk1 : f.kind = 1
        · have j1 : (f.kind == 1) = true := by simpa using hk1
          obtain ⟨z1, z2, z3⟩ := A1 hk1
          have hsub2 : (XN : Int) - (f.min : Int) = ((XN - f.min : Nat) : Int) := by omega
          have HX1 : Hid (xb = leN (XN - f.min) (wid (f.max - f.min))) := by
            have h1 := HXB.out
            have e1 : x.l = [] := List.length_eq_zero_iff.1 (by omega)
            have e2 : x.b = [] := List.length_eq_zero_iff.1 (by omega)
            rw [e1, e2, z3] at h1
            simp [catO] at h1
            exact h1.symm
          clear hk1 A1 A2 A3 z1 z2
          go_wp2_with (go_at_call 60; refine (hw _).mono ?_; rintro e w1 ⟨rfl, rfl⟩)
          refine held_begin (fun W => Blk W wr.heap.size 72 #[.int .i64 f.kind, .int .u64 (f.min : Int), .int .u64 (f.max : Int), .slice ao2 f.of.length cc2] ∧ W.rangeAt bV (offV + I * 3) [.int .u64 (XN : Int), .slice ab BL cb, .slice al LL cl]) (by kernel_rfl) ?_
          have hS1 := And.intro (Blk.new wr 72 #[.int .i64 f.kind, .int .u64 (f.min : Int), .int .u64 (f.max : Int), .slice ao2 f.of.length cc2]).drew (RV.out (.cells #[.int .i64 f.kind, .int .u64 (f.min : Int), .int .u64 (f.max : Int), .slice ao2 f.of.length cc2] 72))
          refine held_take 0 30 _ u5 rfl rfl (by kernel_rfl) (by kernel_rfl) (by kernel_rfl) rfl hS1 (fun _ _ => rfl) ?_
          simp only [Act.put, List.setIfInBounds_toArray, List.set_cons_succ, List.set_cons_zero]
          refine held_take 1 31 _ (.slice (some ⟨bV, offV, none⟩) len cv) rfl rfl (by kernel_rfl) (by kernel_rfl) (by kernel_rfl) rfl hS1 (fun _ _ => rfl) ?_
          simp only [Act.put, List.setIfInBounds_toArray, List.set_cons_succ, List.set_cons_zero]
          refine held_take 2 32 _ (.int .i64 (I : Int)) rfl rfl (by kernel_rfl) (by kernel_rfl) (by kernel_rfl) rfl hS1 (fun _ _ => rfl) ?_
          simp only [Act.put, List.setIfInBounds_toArray, List.set_cons_succ, List.set_cons_zero]
          refine held_take 3 33 _ (.pointer (some ⟨bV, offV + I * 3, none⟩)) rfl rfl (by kernel_rfl) (by kernel_rfl) (by kernel_rfl) rfl hS1 (fun W _ => exec_index _ _ _ rfl _ _ _ rfl rfl (index_values bV offV len cv I W hlt)) ?_
          simp only [Act.put, List.setIfInBounds_toArray, List.set_cons_succ, List.set_cons_zero]
          refine held_take 4 34 _ (.pointer (some ⟨bV, offV + I * 3, none⟩)) rfl rfl (by kernel_rfl) (by kernel_rfl) (by kernel_rfl) rfl hS1 (fun _ _ => rfl) ?_
          simp only [Act.put, List.setIfInBounds_toArray, List.set_cons_succ, List.set_cons_zero]
          refine held_take 5 35 _ (.int .u64 (XN : Int)) rfl rfl (by kernel_rfl) (by kernel_rfl) (by kernel_rfl) rfl hS1 (fun W hW => exec_load1 _ _ rfl (fun _ => by kernel_rfl) _ _ rfl _ (by have := hW.2 0 _ rfl; simpa using this)) ?_
          simp only [Act.put, List.setIfInBounds_toArray, List.set_cons_succ, List.set_cons_zero]
          refine held_take 6 36 _ (.pointer (some ⟨wr.heap.size, 1, none⟩)) rfl rfl (by kernel_rfl) (by kernel_rfl) (by kernel_rfl) rfl hS1 (fun _ _ => rfl) ?_
          simp only [Act.put, List.setIfInBounds_toArray, List.set_cons_succ, List.set_cons_zero]
          refine held_take 7 37 _ (.int .u64 (f.min : Int)) rfl rfl (by kernel_rfl) (by kernel_rfl) (by kernel_rfl) rfl hS1 (fun W hW => exec_load1 _ _ rfl (fun _ => by kernel_rfl) _ _ rfl _ (hW.1.cell (j := 1) rfl)) ?_
          simp only [Act.put, List.setIfInBounds_toArray, List.set_cons_succ, List.set_cons_zero]
          refine held_take 8 38 _ (.int .u64 ((XN - f.min : Nat) : Int)) rfl rfl (by kernel_rfl) (by kernel_rfl) (by kernel_rfl) rfl hS1 (fun W _ => by rw [← hsub2]; exact exec_sub _ _ _ rfl _ _ rfl rfl (by omega) (by omega)) ?_
          simp only [Act.put, List.setIfInBounds_toArray, List.set_cons_succ, List.set_cons_zero]
          refine held_take 9 39 _ (.int .i64 (wid (f.max - f.min) : Int)) rfl rfl (by kernel_rfl) (by kernel_rfl) (by kernel_rfl) rfl hS1 (fun _ _ => rfl) ?_
          simp only [Act.put, List.setIfInBounds_toArray, List.set_cons_succ, List.set_cons_zero]
          refine held_call 10 40 _ 61 _ rfl rfl (by kernel_rfl) rfl (exec_two 61 _ _ _ rfl _ _ rfl rfl Tryd.call61) ?_
          refine (refNumber_any (XN - f.min) (wid (f.max - f.min)) _ hwl (by omega)).mono ?_
          rintro e w3 ⟨v3, rfl, ho3, hb3⟩
          have hS3 : Blk w3 wr.heap.size 72 #[.int .i64 f.kind, .int .u64 (f.min : Int), .int .u64 (f.max : Int), .slice ao2 f.of.length cc2] ∧ w3.rangeAt bV (offV + I * 3) [.int .u64 (XN : Int), .slice ab BL cb, .slice al LL cl] := ⟨hS1.1.below hb3 hS1.1.lt, fun j u hu => (Keeps.of_below hb3 (Nat.le_refl _)).cell (hS1.2 j u hu)⟩
          refine ⟨_, rfl, hS3, ?_⟩
          simp only [Act.put, List.setIfInBounds_toArray, List.set_cons_succ, List.set_cons_zero]
          have hG3 : Grew w w.heap.size (.slice none 0 0) w3 u5 q := (HG1.out (.cells #[.int .i64 f.kind, .int .u64 (f.min : Int), .int .u64 (f.max : Int), .slice ao2 f.of.length cc2] 72)).after hb3 (Nat.le_refl _)
          obtain ⟨v4, w4, hr4, hG4⟩ := app_run w3 23 w.heap.size u5 q hG3.own v3 _ ho3.seg (by rw [leN_len]; omega) hG3.size
          have hS4 : Blk w4 wr.heap.size 72 #[.int .i64 f.kind, .int .u64 (f.min : Int), .int .u64 (f.max : Int), .slice ao2 f.of.length cc2] ∧ w4.rangeAt bV (offV + I * 3) [.int .u64 (XN : Int), .slice ab BL cb, .slice al LL cl] := ⟨hS3.1.grown hG4.grown (fun h => hnew h.symm), fun j u hu => hG4.grown.cell (hS3.2 j u hu) (fun h => hold h.symm)⟩
          refine held_run 11 41 _ v4 w4 rfl rfl (by kernel_rfl) rfl hS4 (exec_appb _ _ rfl u5 v3 v4 rfl rfl hr4) ?_
          simp only [Act.put, List.setIfInBounds_toArray, List.set_cons_succ, List.set_cons_zero]
          refine held_one 12 5 _ v4 rfl rfl (by kernel_rfl) rfl hS4 rfl ?_
          simp only [Act.put, List.setIfInBounds_toArray, List.set_cons_succ, List.set_cons_zero]
          refine wpAnyH_done (by kernel_rfl) ?_ _
          refine NoPanic.normal ?_
          go_wp2
          go_roundw
          case rel => exact ⟨I + 1, q ++ xb, hlt, by go_num, HZ.out, HQL.out, by rw [HX1.out]; exact hG3.trans hG4⟩
          case measure => simp [intOf]; omega
        have j1 : (f.kind == 1) = false := by simpa using hk1
        by_cases hk2 : f.kind = 2
        · have j2 : (f.kind == 2) = true := by simpa using hk2
          obtain ⟨z1, z2, z3⟩ := A2 hk2
          have hsub2 : (BL : Int) - (f.min : Int) = ((BL - f.min : Nat) : Int) := by omega
          have HX1 : Hid (xb = leN (BL - f.min) (wid (f.max - f.min)) ++ x.b) := by
            have h1 := HXB.out
            have e1 : x.l = [] := List.length_eq_zero_iff.1 (by omega)
            rw [e1, z3] at h1
            simp [catO] at h1
            exact h1.symm
          clear hk1 hk2 A1 A2 A3 z1 z2
          go_wp2_with (go_at_call 60; refine (hw _).mono ?_; rintro e w1 ⟨rfl, rfl⟩)
          refine held_begin (fun W => Blk W wr.heap.size 72 #[.int .i64 f.kind, .int .u64 (f.min : Int), .int .u64 (f.max : Int), .slice ao2 f.of.length cc2] ∧ W.rangeAt bV (offV + I * 3) [.int .u64 (XN : Int), .slice ab BL cb, .slice al LL cl]) (by kernel_rfl) ?_
          have hS1 := And.intro (Blk.new wr 72 #[.int .i64 f.kind, .int .u64 (f.min : Int), .int .u64 (f.max : Int), .slice ao2 f.of.length cc2]).drew (RV.out (.cells #[.int .i64 f.kind, .int .u64 (f.min : Int), .int .u64 (f.max : Int), .slice ao2 f.of.length cc2] 72))
          refine held_take 0 44 _ u5 rfl rfl (by kernel_rfl) (by kernel_rfl) (by kernel_rfl) rfl hS1 (fun _ _ => rfl) ?_
          simp only [Act.put, List.setIfInBounds_toArray, List.set_cons_succ, List.set_cons_zero]
          refine held_take 1 45 _ (.slice (some ⟨bV, offV, none⟩) len cv) rfl rfl (by kernel_rfl) (by kernel_rfl) (by kernel_rfl) rfl hS1 (fun _ _ => rfl) ?_
          simp only [Act.put, List.setIfInBounds_toArray, List.set_cons_succ, List.set_cons_zero]
          refine held_take 2 46 _ (.int .i64 (I : Int)) rfl rfl (by kernel_rfl) (by kernel_rfl) (by kernel_rfl) rfl hS1 (fun _ _ => rfl) ?_
          simp only [Act.put, List.setIfInBounds_toArray, List.set_cons_succ, List.set_cons_zero]
          refine held_take 3 47 _ (.pointer (some ⟨bV, offV + I * 3, none⟩)) rfl rfl (by kernel_rfl) (by kernel_rfl) (by kernel_rfl) rfl hS1 (fun W _ => exec_index _ _ _ rfl _ _ _ rfl rfl (index_values bV offV len cv I W hlt)) ?_
          simp only [Act.put, List.setIfInBounds_toArray, List.set_cons_succ, List.set_cons_zero]
          refine held_take 4 48 _ (.pointer (some ⟨bV, offV + I * 3 + 1, none⟩)) rfl rfl (by kernel_rfl) (by kernel_rfl) (by kernel_rfl) rfl hS1 (fun _ _ => rfl) ?_
          simp only [Act.put, List.setIfInBounds_toArray, List.set_cons_succ, List.set_cons_zero]
          refine held_take 5 49 _ (.slice ab BL cb) rfl rfl (by kernel_rfl) (by kernel_rfl) (by kernel_rfl) rfl hS1 (fun W hW => exec_load1 _ _ rfl (fun _ => by kernel_rfl) _ _ rfl _ (by have := hW.2 1 _ rfl; simpa using this)) ?_
          simp only [Act.put, List.setIfInBounds_toArray, List.set_cons_succ, List.set_cons_zero]
          refine held_take 6 50 _ (.int .i64 (BL : Int)) rfl rfl (by kernel_rfl) (by kernel_rfl) (by kernel_rfl) rfl hS1 (fun W _ => exec_lens 23 5 Tryd.underlying23 _ rfl _ _ _ rfl) ?_
          simp only [Act.put, List.setIfInBounds_toArray, List.set_cons_succ, List.set_cons_zero]
          refine held_take 7 51 _ (.int .u64 (BL : Int)) rfl rfl (by kernel_rfl) (by kernel_rfl) (by kernel_rfl) rfl hS1 (fun W _ => exec_conv _ _ _ rfl _ _ rfl (conv_u64 BL (by omega) W)) ?_
          simp only [Act.put, List.setIfInBounds_toArray, List.set_cons_succ, List.set_cons_zero]
          refine held_take 8 52 _ (.pointer (some ⟨wr.heap.size, 1, none⟩)) rfl rfl (by kernel_rfl) (by kernel_rfl) (by kernel_rfl) rfl hS1 (fun _ _ => rfl) ?_
          simp only [Act.put, List.setIfInBounds_toArray, List.set_cons_succ, List.set_cons_zero]
          refine held_take 9 53 _ (.int .u64 (f.min : Int)) rfl rfl (by kernel_rfl) (by kernel_rfl) (by kernel_rfl) rfl hS1 (fun W hW => exec_load1 _ _ rfl (fun _ => by kernel_rfl) _ _ rfl _ (hW.1.cell (j := 1) rfl)) ?_
          simp only [Act.put, List.setIfInBounds_toArray, List.set_cons_succ, List.set_cons_zero]
          refine held_take 10 54 _ (.int .u64 ((BL - f.min : Nat) : Int)) rfl rfl (by kernel_rfl) (by kernel_rfl) (by kernel_rfl) rfl hS1 (fun W _ => by rw [← hsub2]; exact exec_sub _ _ _ rfl _ _ rfl rfl (by omega) (by omega)) ?_
          simp only [Act.put, List.setIfInBounds_toArray, List.set_cons_succ, List.set_cons_zero]
          refine held_take 11 55 _ (.int .i64 (wid (f.max - f.min) : Int)) rfl rfl (by kernel_rfl) (by kernel_rfl) (by kernel_rfl) rfl hS1 (fun _ _ => rfl) ?_
          simp only [Act.put, List.setIfInBounds_toArray, List.set_cons_succ, List.set_cons_zero]
          refine held_call 12 56 _ 61 _ rfl rfl (by kernel_rfl) rfl (exec_two 61 _ _ _ rfl _ _ rfl rfl Tryd.call61) ?_
          refine (refNumber_any (BL - f.min) (wid (f.max - f.min)) _ hwl (by omega)).mono ?_
          rintro e w3 ⟨v3, rfl, ho3, hb3⟩
          have hS3 : Blk w3 wr.heap.size 72 #[.int .i64 f.kind, .int .u64 (f.min : Int), .int .u64 (f.max : Int), .slice ao2 f.of.length cc2] ∧ w3.rangeAt bV (offV + I * 3) [.int .u64 (XN : Int), .slice ab BL cb, .slice al LL cl] := ⟨hS1.1.below hb3 hS1.1.lt, fun j u hu => (Keeps.of_below hb3 (Nat.le_refl _)).cell (hS1.2 j u hu)⟩
          refine ⟨_, rfl, hS3, ?_⟩
          simp only [Act.put, List.setIfInBounds_toArray, List.set_cons_succ, List.set_cons_zero]
          have hG3 : Grew w w.heap.size (.slice none 0 0) w3 u5 q := (HG1.out (.cells #[.int .i64 f.kind, .int .u64 (f.min : Int), .int .u64 (f.max : Int), .slice ao2 f.of.length cc2] 72)).after hb3 (Nat.le_refl _)
          obtain ⟨v4, w4, hr4, hG4⟩ := app_run w3 23 w.heap.size u5 q hG3.own v3 _ ho3.seg (by rw [leN_len]; omega) hG3.size
          have hS4 : Blk w4 wr.heap.size 72 #[.int .i64 f.kind, .int .u64 (f.min : Int), .int .u64 (f.max : Int), .slice ao2 f.of.length cc2] ∧ w4.rangeAt bV (offV + I * 3) [.int .u64 (XN : Int), .slice ab BL cb, .slice al LL cl] := ⟨hS3.1.grown hG4.grown (fun h => hnew h.symm), fun j u hu => hG4.grown.cell (hS3.2 j u hu) (fun h => hold h.symm)⟩
          refine held_run 13 57 _ v4 w4 rfl rfl (by kernel_rfl) rfl hS4 (exec_appb _ _ rfl u5 v3 v4 rfl rfl hr4) ?_
          simp only [Act.put, List.setIfInBounds_toArray, List.set_cons_succ, List.set_cons_zero]
          refine held_one 14 5 _ v4 rfl rfl (by kernel_rfl) rfl hS4 rfl ?_
          simp only [Act.put, List.setIfInBounds_toArray, List.set_cons_succ, List.set_cons_zero]
          refine wpAnyH_done (by kernel_rfl) ?_ _
          refine NoPanic.normal ?_
          have hG5 := hG3.trans hG4
          have e1 := hS4.2 1 _ rfl
          have sbB := hbvW.out w4 (hG5.below (own_nil _ _) (Nat.le_refl _))
          have hlb : (q ++ leN (BL - f.min) (wid (f.max - f.min))).length + x.b.length ≤ 1000000000 := by
            have h1 := HX1.out
            rw [h1, List.length_append, leN_len] at hxl
            rw [List.length_append, leN_len]; omega
          have s4 := hG5.size
          clear hBL hLL hXN
          go_wp2_with (at_builtin; refine app_own _ rfl (.tmp 58) (.tmp 63) rfl w.heap.size _ _ rfl hG5.own _ x.b rfl (by exact sbB) hlb s4 ?_; intro v6 w6 ho6 hg6 hv6)
          go_roundw
          case rel => exact ⟨I + 1, q ++ xb, hlt, by go_num, HZ.out, HQL.out, by rw [HX1.out, ← List.append_assoc]; exact hG5.trans (Grew.app ho6 hg6 hv6)⟩
          case measure => simp [intOf]; omega
        have j2 : (f.kind == 2) = false := by simpa using hk2
        obtain ⟨hk3, kk, hkk, hka⟩ := mostOne_of hmo hk1 hk2
        have j3 : (f.kind == 3) = true := by simpa using hk3
        obtain ⟨z1, z2, z3⟩ := A3 hk1 hk2
        have hsub2 : (LL : Int) - (f.min : Int) = ((LL - f.min : Nat) : Int) := by omega
        clear hk1 hk2 hk3 A1 A2 A3 z1
        go_wp2_with (go_at_call 60; refine (hw _).mono ?_; rintro e w1 ⟨rfl, rfl⟩)
        refine held_begin (fun W => Blk W wr.heap.size 72 #[.int .i64 f.kind, .int .u64 (f.min : Int), .int .u64 (f.max : Int), .slice ao2 f.of.length cc2] ∧ W.rangeAt bV (offV + I * 3) [.int .u64 (XN : Int), .slice ab BL cb, .slice al LL cl]) (by kernel_rfl) ?_
        have hS1 := And.intro (Blk.new wr 72 #[.int .i64 f.kind, .int .u64 (f.min : Int), .int .u64 (f.max : Int), .slice ao2 f.of.length cc2]).drew (RV.out (.cells #[.int .i64 f.kind, .int .u64 (f.min : Int), .int .u64 (f.max : Int), .slice ao2 f.of.length cc2] 72))
        refine held_take 0 67 _ u5 rfl rfl (by kernel_rfl) (by kernel_rfl) (by kernel_rfl) rfl hS1 (fun _ _ => rfl) ?_
        simp only [Act.put, List.setIfInBounds_toArray, List.set_cons_succ, List.set_cons_zero]
        refine held_take 1 68 _ (.slice (some ⟨bV, offV, none⟩) len cv) rfl rfl (by kernel_rfl) (by kernel_rfl) (by kernel_rfl) rfl hS1 (fun _ _ => rfl) ?_
        simp only [Act.put, List.setIfInBounds_toArray, List.set_cons_succ, List.set_cons_zero]
        refine held_take 2 69 _ (.int .i64 (I : Int)) rfl rfl (by kernel_rfl) (by kernel_rfl) (by kernel_rfl) rfl hS1 (fun _ _ => rfl) ?_
        simp only [Act.put, List.setIfInBounds_toArray, List.set_cons_succ, List.set_cons_zero]
        refine held_take 3 70 _ (.pointer (some ⟨bV, offV + I * 3, none⟩)) rfl rfl (by kernel_rfl) (by kernel_rfl) (by kernel_rfl) rfl hS1 (fun W _ => exec_index _ _ _ rfl _ _ _ rfl rfl (index_values bV offV len cv I W hlt)) ?_
        simp only [Act.put, List.setIfInBounds_toArray, List.set_cons_succ, List.set_cons_zero]
        refine held_take 4 71 _ (.pointer (some ⟨bV, offV + I * 3 + 2, none⟩)) rfl rfl (by kernel_rfl) (by kernel_rfl) (by kernel_rfl) rfl hS1 (fun _ _ => rfl) ?_
        simp only [Act.put, List.setIfInBounds_toArray, List.set_cons_succ, List.set_cons_zero]
        refine held_take 5 72 _ (.slice al LL cl) rfl rfl (by kernel_rfl) (by kernel_rfl) (by kernel_rfl) rfl hS1 (fun W hW => exec_load1 _ _ rfl (fun _ => by kernel_rfl) _ _ rfl _ (by have := hW.2 2 _ rfl; simpa using this)) ?_
        simp only [Act.put, List.setIfInBounds_toArray, List.set_cons_succ, List.set_cons_zero]
        refine held_take 6 73 _ (.int .i64 (LL : Int)) rfl rfl (by kernel_rfl) (by kernel_rfl) (by kernel_rfl) rfl hS1 (fun W _ => exec_lens 57 52 Tryd.underlying57 _ rfl _ _ _ rfl) ?_
        simp only [Act.put, List.setIfInBounds_toArray, List.set_cons_succ, List.set_cons_zero]
        refine held_take 7 74 _ (.int .u64 (LL : Int)) rfl rfl (by kernel_rfl) (by kernel_rfl) (by kernel_rfl) rfl hS1 (fun W _ => exec_conv _ _ _ rfl _ _ rfl (conv_u64 LL (by omega) W)) ?_
        simp only [Act.put, List.setIfInBounds_toArray, List.set_cons_succ, List.set_cons_zero]
        refine held_take 8 75 _ (.pointer (some ⟨wr.heap.size, 1, none⟩)) rfl rfl (by kernel_rfl) (by kernel_rfl) (by kernel_rfl) rfl hS1 (fun _ _ => rfl) ?_
        simp only [Act.put, List.setIfInBounds_toArray, List.set_cons_succ, List.set_cons_zero]
        refine held_take 9 76 _ (.int .u64 (f.min : Int)) rfl rfl (by kernel_rfl) (by kernel_rfl) (by kernel_rfl) rfl hS1 (fun W hW => exec_load1 _ _ rfl (fun _ => by kernel_rfl) _ _ rfl _ (hW.1.cell (j := 1) rfl)) ?_
        simp only [Act.put, List.setIfInBounds_toArray, List.set_cons_succ, List.set_cons_zero]
        refine held_take 10 77 _ (.int .u64 ((LL - f.min : Nat) : Int)) rfl rfl (by kernel_rfl) (by kernel_rfl) (by kernel_rfl) rfl hS1 (fun W _ => by rw [← hsub2]; exact exec_sub _ _ _ rfl _ _ rfl rfl (by omega) (by omega)) ?_
        simp only [Act.put, List.setIfInBounds_toArray, List.set_cons_succ, List.set_cons_zero]
        refine held_take 11 78 _ (.int .i64 (wid (f.max - f.min) : Int)) rfl rfl (by kernel_rfl) (by kernel_rfl) (by kernel_rfl) rfl hS1 (fun _ _ => rfl) ?_
        simp only [Act.put, List.setIfInBounds_toArray, List.set_cons_succ, List.set_cons_zero]
        refine held_call 12 79 _ 61 _ rfl rfl (by kernel_rfl) rfl (exec_two 61 _ _ _ rfl _ _ rfl rfl Tryd.call61) ?_
        refine (refNumber_any (LL - f.min) (wid (f.max - f.min)) _ hwl (by omega)).mono ?_
        rintro e w3 ⟨v3, rfl, ho3, hb3⟩
        have hS3 : Blk w3 wr.heap.size 72 #[.int .i64 f.kind, .int .u64 (f.min : Int), .int .u64 (f.max : Int), .slice ao2 f.of.length cc2] ∧ w3.rangeAt bV (offV + I * 3) [.int .u64 (XN : Int), .slice ab BL cb, .slice al LL cl] := ⟨hS1.1.below hb3 hS1.1.lt, fun j u hu => (Keeps.of_below hb3 (Nat.le_refl _)).cell (hS1.2 j u hu)⟩
        refine ⟨_, rfl, hS3, ?_⟩
        simp only [Act.put, List.setIfInBounds_toArray, List.set_cons_succ, List.set_cons_zero]
        have hG3 : Grew w w.heap.size (.slice none 0 0) w3 u5 q := (HG1.out (.cells #[.int .i64 f.kind, .int .u64 (f.min : Int), .int .u64 (f.max : Int), .slice ao2 f.of.length cc2] 72)).after hb3 (Nat.le_refl _)
        obtain ⟨v4, w4, hr4, hG4⟩ := app_run w3 23 w.heap.size u5 q hG3.own v3 _ ho3.seg (by rw [leN_len]; omega) hG3.size
        have hS4 : Blk w4 wr.heap.size 72 #[.int .i64 f.kind, .int .u64 (f.min : Int), .int .u64 (f.max : Int), .slice ao2 f.of.length cc2] ∧ w4.rangeAt bV (offV + I * 3) [.int .u64 (XN : Int), .slice ab BL cb, .slice al LL cl] := ⟨hS3.1.grown hG4.grown (fun h => hnew h.symm), fun j u hu => hG4.grown.cell (hS3.2 j u hu) (fun h => hold h.symm)⟩
        refine held_run 13 80 _ v4 w4 rfl rfl (by kernel_rfl) rfl hS4 (exec_appb _ _ rfl u5 v3 v4 rfl rfl hr4) ?_
        simp only [Act.put, List.setIfInBounds_toArray, List.set_cons_succ, List.set_cons_zero]
        refine held_one 14 5 _ v4 rfl rfl (by kernel_rfl) rfl hS4 rfl ?_
        simp only [Act.put, List.setIfInBounds_toArray, List.set_cons_succ, List.set_cons_zero]
        refine wpAnyH_done (by kernel_rfl) ?_ _
        refine NoPanic.normal ?_
        have hG5 := hG3.trans hG4
        go_wp2_with fail
        obtain ⟨pr, hpr⟩ : ∃ pr, catO (x.l.map (encL r f.of)) = some pr := by
          have h1 := HXB.out
          cases hc : catO (x.l.map (encL r f.of)) with
          | none => rw [hc] at h1; cases h1
          | some pr => exact ⟨pr, rfl⟩
        have HX1 : Hid (xb = leN (LL - f.min) (wid (f.max - f.min)) ++ pr) := by
          have h1 := HXB.out
          have e2 : x.b = [] := List.length_eq_zero_iff.1 (by omega)
          rw [hpr, e2, z3] at h1
          simp at h1
          exact h1.symm
        have HPR : Hid (catO (x.l.map (encL r f.of)) = some pr) := hpr
        have HLL : Hid (x.l.length = LL) := hLL
        have hLx : LL * kk ≤ f.max * kk := Nat.mul_le_mul_right kk (by omega)
        obtain ⟨P0, hP0⟩ : ∃ P0, P0 = q ++ leN (LL - f.min) (wid (f.max - f.min)) := ⟨_, rfl⟩
        have hP0l : P0.length + LL * kk ≤ 10000000 := by rw [hP0, List.length_append, leN_len]; omega
        have HP0 : Hid (P0 = q ++ leN (LL - f.min) (wid (f.max - f.min))) := hP0
        rw [← hP0] at hG5
        have hrecs' : 0 < LL → ∃ b off, al = some ⟨b, off, none⟩ ∧ b < w.heap.size ∧ LL ≤ cl ∧ ∀ k r, x.l[k]? = some r → ∃ rv, w.cell? ⟨b, off + k, none⟩ = some rv ∧ Vals w (m - 1) rv r := by rw [← hLL]; exact hrecs
        have HIH : Hid (∀ (rv : Value) (rec : List Val) (nb : List UInt8) (W : World), encL r f.of rec = some nb → Keeps w W → Vals w (m - 1) rv rec → Calls Tryd.prog 42 #[.slice ao2 f.of.length cc2, rv] W fun e w' => ∃ b, e = .returned b ∧ Own w' W.heap.size b nb ∧ Below W.heap.size W w') := fun rv rec nb W he hW hr => ih _ _ f.of (m - 1) rv rec kk nb W hkk he (Flds.keeps hW _ _ _ hof) (Vals.keeps hW _ _ _ hr)
        have hne4 := (hG4.blk hS3.1 hnew).2
        have hol4 : v4.ownBlock ≠ some bV := fun h => by have := (hG5.own.blocks _ h).1; omega
        clear hpr hBL hLL hXN hP0 hrecs hr4 z2 z3 HXB han hrg hka hw
        obtain ⟨wo, rfl⟩ : ∃ wo : World, wo = wr := ⟨_, rfl⟩
        go_loopw [5, 9] (fun u i wr => ∃ (k : Nat) (p : List UInt8), k ≤ LL ∧ i = .int .i64 (k : Int) ∧ catO ((x.l.map (encL r f.of)).take k) = some p ∧ p.length ≤ k * kk ∧ Grew w w.heap.size (.slice none 0 0) wr u (P0 ++ p) ∧ Blk wr wo.heap.size 72 #[.int .i64 f.kind, .int .u64 (f.min : Int), .int .u64 (f.max : Int), .slice ao2 f.of.length cc2] ∧ wr.rangeAt bV (offV + I * 3) [.int .u64 (XN : Int), .slice ab BL cb, .slice al LL cl] ∧ u.ownBlock ≠ some wo.heap.size) (fun _ i _ => LL - (intOf i).toNat)
        case atStart => exact ⟨0, [], Nat.zero_le _, rfl, by simp [catO], by simp, by simpa using hG5, hS4.1, hS4.2, hne4⟩
        case round =>
          clear hG5 hS4 hne4 hol4
          obtain ⟨k, p, hk, rfl, hcat, hpl, hGq, hFq, hVq, hneq⟩ := hrel
          have HP : Hid (catO ((x.l.map (encL r f.of)).take k) = some p) := hcat
          clear hcat
          have hBq := hGq.below (own_nil _ _) (Nat.le_refl _)
          have e2 : wr.cell? ⟨bV, offV + I * 3 + 2, none⟩ = some (.slice al LL cl) := hVq 2 _ rfl
          have s5 := hGq.size
          by_cases hlk : k < LL
          · obtain ⟨bL, offL, rfl, hbL, hcL, hrec⟩ := hrecs' (by omega)
            obtain ⟨rec, hrec1⟩ : ∃ rec, x.l[k]? = some rec := ⟨x.l[k]'(by have := HLL.out; omega), List.getElem?_eq_getElem (by have := HLL.out; omega)⟩
            obtain ⟨rv, r1, r2⟩ := hrec k rec hrec1
            have hQ : (x.l.map (encL r f.of))[k]? = some (encL r f.of rec) := by rw [List.getElem?_map, hrec1]; rfl
            obtain ⟨nbk, _, hnk, _⟩ := catO_part _ pr k _ HPR.out hQ
            have hnl2 := encL_len r f.of kk rec nbk hkk hnk
            have HQ : Hid (catO ((x.l.map (encL r f.of)).take (k + 1)) = some (p ++ nbk)) := catO_snoc _ k p nbk (by rw [hQ, hnk]) HP.out
            have hkm : (k + 1) * kk ≤ LL * kk := Nat.mul_le_mul_right kk hlk
            rw [Nat.add_mul] at hkm
            have HC2 := fun W hW => HIH.out rv rec nbk W hnk hW r2
            have HC3 : Hid (∀ W, Keeps w W → Calls Tryd.prog 42 #[.slice ao2 f.of.length cc2, rv] W fun e w' => ∃ b, e = .returned b ∧ Own w' W.heap.size b nbk ∧ Below W.heap.size W w') := HC2
            have hneV : u5.ownBlock ≠ some bV := fun h => by have := (hGq.own.blocks _ h).1; omega
            have hneL : u5.ownBlock ≠ some bL := fun h => by have := (hGq.own.blocks _ h).1; omega
            have r1q := (Keeps.of_below hBq (Nat.le_refl _)).cell r1
            clear HC2 hQ hnk
            have ik : (k : Int) < (LL : Int) := by omega
            go_wp2_with fail
            refine held_begin (fun W => Blk W wo.heap.size 72 #[.int .i64 f.kind, .int .u64 (f.min : Int), .int .u64 (f.max : Int), .slice ao2 f.of.length cc2] ∧ W.rangeAt bV (offV + I * 3) [.int .u64 (XN : Int), .slice ab BL cb, .slice (some ⟨bL, offL, none⟩) LL cl] ∧ W.cell? ⟨bL, offL + k, none⟩ = some rv) (by kernel_rfl) ?_
            have hT1 : Blk wr.drew wo.heap.size 72 #[.int .i64 f.kind, .int .u64 (f.min : Int), .int .u64 (f.max : Int), .slice ao2 f.of.length cc2] ∧ wr.drew.rangeAt bV (offV + I * 3) [.int .u64 (XN : Int), .slice ab BL cb, .slice (some ⟨bL, offL, none⟩) LL cl] ∧ wr.drew.cell? ⟨bL, offL + k, none⟩ = some rv := ⟨hFq.drew, hVq, r1q⟩
            refine held_take 0 91 _ u5 rfl rfl (by kernel_rfl) (by kernel_rfl) (by kernel_rfl) rfl hT1 (fun _ _ => rfl) ?_
            simp only [Act.put, List.setIfInBounds_toArray, List.set_cons_succ, List.set_cons_zero]
            refine held_take 1 92 _ (.pointer (some ⟨wo.heap.size, 3, none⟩)) rfl rfl (by kernel_rfl) (by kernel_rfl) (by kernel_rfl) rfl hT1 (fun _ _ => rfl) ?_
            simp only [Act.put, List.setIfInBounds_toArray, List.set_cons_succ, List.set_cons_zero]
            refine held_take 2 93 _ (.slice ao2 f.of.length cc2) rfl rfl (by kernel_rfl) (by kernel_rfl) (by kernel_rfl) rfl hT1 (fun W hW => exec_load1 _ _ rfl (fun _ => by kernel_rfl) _ _ rfl _ (hW.1.cell (j := 3) rfl)) ?_
            simp only [Act.put, List.setIfInBounds_toArray, List.set_cons_succ, List.set_cons_zero]
            refine held_take 3 94 _ (.slice (some ⟨bV, offV, none⟩) len cv) rfl rfl (by kernel_rfl) (by kernel_rfl) (by kernel_rfl) rfl hT1 (fun _ _ => rfl) ?_
            simp only [Act.put, List.setIfInBounds_toArray, List.set_cons_succ, List.set_cons_zero]
            refine held_take 4 95 _ (.int .i64 (I : Int)) rfl rfl (by kernel_rfl) (by kernel_rfl) (by kernel_rfl) rfl hT1 (fun _ _ => rfl) ?_
            simp only [Act.put, List.setIfInBounds_toArray, List.set_cons_succ, List.set_cons_zero]
            refine held_take 5 96 _ (.pointer (some ⟨bV, offV + I * 3, none⟩)) rfl rfl (by kernel_rfl) (by kernel_rfl) (by kernel_rfl) rfl hT1 (fun W _ => exec_index _ _ _ rfl _ _ _ rfl rfl (index_values bV offV len cv I W hlt)) ?_
            simp only [Act.put, List.setIfInBounds_toArray, List.set_cons_succ, List.set_cons_zero]
            refine held_take 6 97 _ (.pointer (some ⟨bV, offV + I * 3 + 2, none⟩)) rfl rfl (by kernel_rfl) (by kernel_rfl) (by kernel_rfl) rfl hT1 (fun _ _ => rfl) ?_
            simp only [Act.put, List.setIfInBounds_toArray, List.set_cons_succ, List.set_cons_zero]
            refine held_take 7 98 _ (.slice (some ⟨bL, offL, none⟩) LL cl) rfl rfl (by kernel_rfl) (by kernel_rfl) (by kernel_rfl) rfl hT1 (fun W hW => exec_load1 _ _ rfl (fun _ => by kernel_rfl) _ _ rfl _ (by have := hW.2.1 2 _ rfl; simpa using this)) ?_
            simp only [Act.put, List.setIfInBounds_toArray, List.set_cons_succ, List.set_cons_zero]
            refine held_take 8 99 _ (.int .i64 (k : Int)) rfl rfl (by kernel_rfl) (by kernel_rfl) (by kernel_rfl) rfl hT1 (fun _ _ => rfl) ?_
            simp only [Act.put, List.setIfInBounds_toArray, List.set_cons_succ, List.set_cons_zero]
            refine held_take 9 100 _ (.pointer (some ⟨bL, offL + k, none⟩)) rfl rfl (by kernel_rfl) (by kernel_rfl) (by kernel_rfl) rfl hT1 (fun W _ => exec_index _ _ _ rfl _ _ _ rfl rfl (index_records bL offL LL cl k W hlk)) ?_
            simp only [Act.put, List.setIfInBounds_toArray, List.set_cons_succ, List.set_cons_zero]
            refine held_take 10 101 _ rv rfl rfl (by kernel_rfl) (by kernel_rfl) (by kernel_rfl) rfl hT1 (fun W hW => exec_load1 _ _ rfl (fun _ => by kernel_rfl) _ _ rfl _ hW.2.2) ?_
            simp only [Act.put, List.setIfInBounds_toArray, List.set_cons_succ, List.set_cons_zero]
            refine held_call 11 102 _ 42 _ rfl rfl (by kernel_rfl) rfl (exec_two 42 _ _ _ rfl _ _ rfl rfl Tryd.call42) ?_
            refine (HC3.out _ (Keeps.of_below hBq.drew (Nat.le_refl _))).mono ?_
            rintro e w6 ⟨v6, rfl, ho6, hb6⟩
            have hT6 : Blk w6 wo.heap.size 72 #[.int .i64 f.kind, .int .u64 (f.min : Int), .int .u64 (f.max : Int), .slice ao2 f.of.length cc2] ∧ w6.rangeAt bV (offV + I * 3) [.int .u64 (XN : Int), .slice ab BL cb, .slice (some ⟨bL, offL, none⟩) LL cl] ∧ w6.cell? ⟨bL, offL + k, none⟩ = some rv := ⟨hT1.1.below hb6 hT1.1.lt, fun j u hu => (Keeps.of_below hb6 (Nat.le_refl _)).cell (hT1.2.1 j u hu), (Keeps.of_below hb6 (Nat.le_refl _)).cell hT1.2.2⟩
            refine ⟨_, rfl, hT6, ?_⟩
            simp only [Act.put, List.setIfInBounds_toArray, List.set_cons_succ, List.set_cons_zero]
            have hG6 : Grew w w.heap.size (.slice none 0 0) w6 u5 (P0 ++ p) := (hGq.after (Below.refl _ _).drew (Nat.le_refl _)).after hb6 (Nat.le_refl _)
            obtain ⟨v7, w7, hr7, hG7⟩ := app_run w6 23 w.heap.size u5 (P0 ++ p) hG6.own v6 nbk ho6.seg (by rw [List.length_append]; omega) hG6.size
            have hT7 : Blk w7 wo.heap.size 72 #[.int .i64 f.kind, .int .u64 (f.min : Int), .int .u64 (f.max : Int), .slice ao2 f.of.length cc2] ∧ w7.rangeAt bV (offV + I * 3) [.int .u64 (XN : Int), .slice ab BL cb, .slice (some ⟨bL, offL, none⟩) LL cl] ∧ w7.cell? ⟨bL, offL + k, none⟩ = some rv := ⟨hT6.1.grown hG7.grown (fun h => hneq h.symm), fun j u hu => hG7.grown.cell (hT6.2.1 j u hu) (fun h => hneV h.symm), hG7.grown.cell hT6.2.2 (fun h => hneL h.symm)⟩
            refine held_run 12 103 _ v7 w7 rfl rfl (by kernel_rfl) rfl hT7 (exec_appb _ _ rfl u5 v6 v7 rfl rfl hr7) ?_
            simp only [Act.put, List.setIfInBounds_toArray, List.set_cons_succ, List.set_cons_zero]
            refine held_one 13 5 _ v7 rfl rfl (by kernel_rfl) rfl hT7 rfl ?_
            simp only [Act.put, List.setIfInBounds_toArray, List.set_cons_succ, List.set_cons_zero]
            refine wpAnyH_done (by kernel_rfl) ?_ _
            refine NoPanic.normal ?_
            go_wp2
            go_roundw
            case rel =>
              refine ⟨k + 1, p ++ nbk, hlk, by go_num, HQ.out, by rw [List.length_append, Nat.add_mul]; omega, ?_, hT7.1, hT7.2.1, (hG7.blk hT6.1 hneq).2⟩
              rw [← List.append_assoc]
              exact hG6.trans hG7
            case measure => simp [intOf]; omega
          · have HT : Hid (p = pr) := by
              show _ = _
              have h1 := HP.out
              rw [List.take_of_length_le (by have := HLL.out; simp; omega), HPR.out] at h1
              exact (Option.some.inj h1).symm
            have ik : ¬ (k : Int) < (LL : Int) := by omega
            go_wp2
            go_roundw
            case rel => exact ⟨I + 1, q ++ xb, hlt, by go_num, HZ.out, HQL.out, by rw [HX1.out, ← HT.out, ← List.append_assoc, ← HP0.out]; exact hGq⟩
            case measure => simp [intOf]; omega
      · have HQ : Hid (nb = q) := by
          show _ = _
          have h1 := HC.out
          rw [List.take_of_length_le (by have := HLE.out; simp; omega), HE.out] at h1
          exact Option.some.inj h1
        have i1 : ¬ (I : Int) < (len : Int) := by omega
        go_wp2
        go_ret
        exact ⟨_, rfl, by rw [HQ.out]; exact hG.own, hB⟩
end Go.Proofs.YtpebjocmnojldaaDoor
