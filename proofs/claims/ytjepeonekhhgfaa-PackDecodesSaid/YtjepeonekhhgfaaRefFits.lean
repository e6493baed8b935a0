/-
  What is proved here: the document's fits tells whether there are bytes of a record, as the plain functions have it.
  Conditions: the fields may be; fields and values lie in memory.
-/
import Derived.Test.YtjepeonekhhgfaaPackRec
namespace Go.Proofs.Ytjepeonekhhgfaa
open Go.RowKit

def refFitsSaid (r : Nat) : Prop := ∀ (n : Nat) (lv : Value) (l : List Fld) (m : Nat) (vv : Value) (v : List Val) (M : Nat) (w : World), mostL r l = some M → Flds w n lv l → Vals w m vv v →
    Calls Try.prog 26 #[lv, vv] w fun e w' => e = .returned (.bool (encL r l v).isSome) ∧ Below w.heap.size w w'
theorem index_records (b off len c I : Nat) (w : World) (h : I < len) : (Instr.indexAt 40 (.slice (some ⟨b, off, none⟩) len c) (.int .i64 (I : Int))).run Try.prog w = .ok (.pointer (some ⟨b, off + I, none⟩)) w := by
  have hs : ∀ w, (sizeOf 27).run Try.prog w = .ok 1 w := fun w => by kernel_rfl
  have hi : (0 : Int) ≤ (I : Int) ∧ (I : Int) < (len : Int) := by omega
  simp [Instr.indexAt, asIntOf, run_underlying Try.underlying40, hs, hi, Addr.add_mid]
  intro h2
  omega
theorem exec_two {a : Act} {o : Oper} {w : World} (f : FuncId) (x y : Operand) (ts : Array TypeId) (ho : o.op = .call { callee := .value (.func f), args := #[x, y], argTypes := ts }) (u v : Value) (hx : a.eval x = u) (hy : a.eval y = v) (hc : ∀ args w, (callFunc f args).run Try.prog w = .ok (.enter f args) w) : (execOp a.eval o).run Try.prog w = .ok (.enter f #[u, v]) w := by
  have he : a.eval (.func f) = .func (.func f) #[] #[] := rfl
  unfold execOp
  simp [ho, resolve, invoke, Deferred.ofValue, he, hx, hy, hc]
theorem encOne_no {E : List Fld → List Val → Option (List UInt8)} {f : Fld} {x : Val} (h : ¬ ∃ n, amountOf f x = some n ∧ f.min ≤ n ∧ n ≤ f.max) : encOne E f x = none := by
  unfold encOne
  cases ha : amountOf f x with
  | none => rfl
  | some n =>
    simp only
    rw [if_pos]
    by_cases h1 : n < f.min
    · exact .inl h1
    · exact .inr (by
        by_cases h2 : f.max < n
        · exact h2
        · exact absurd ⟨n, ha, by omega, by omega⟩ h)
theorem encOne_cat {E : List Fld → List Val → Option (List UInt8)} {f : Fld} {x : Val} {n : Nat} (h : amountOf f x = some n) (h1 : f.min ≤ n) (h2 : n ≤ f.max) : encOne E f x = (catO (x.l.map (E f.of))).map (fun r => leN (n - f.min) (wid (f.max - f.min)) ++ (x.b ++ r)) := by
  unfold encOne
  rw [h]
  exact if_neg (by omega)
theorem amount_1 {f : Fld} {x : Val} (h : f.kind = 1) (n : Nat) : amountOf f x = some n ↔ (x.b.length = 0 ∧ x.l.length = 0 ∧ n = x.n) := by
  unfold amountOf
  rw [if_pos h]
  by_cases hh : x.b.length = 0 ∧ x.l.length = 0
  · rw [if_pos hh]
    exact ⟨fun e => ⟨hh.1, hh.2, (Option.some.inj e).symm⟩, fun e => by rw [e.2.2]⟩
  · rw [if_neg hh]
    exact ⟨fun e => (by cases e), fun e => absurd ⟨e.1, e.2.1⟩ hh⟩
theorem amount_2 {f : Fld} {x : Val} (h : f.kind = 2) (n : Nat) : amountOf f x = some n ↔ (x.n = 0 ∧ x.l.length = 0 ∧ n = x.b.length) := by
  unfold amountOf
  rw [if_neg (by omega), if_pos h]
  by_cases hh : x.n = 0 ∧ x.l.length = 0
  · rw [if_pos hh]
    exact ⟨fun e => ⟨hh.1, hh.2, (Option.some.inj e).symm⟩, fun e => by rw [e.2.2]⟩
  · rw [if_neg hh]
    exact ⟨fun e => (by cases e), fun e => absurd ⟨e.1, e.2.1⟩ hh⟩
theorem amount_3 {f : Fld} {x : Val} (h : f.kind = 3) (n : Nat) : amountOf f x = some n ↔ (x.n = 0 ∧ x.b.length = 0 ∧ n = x.l.length) := by
  unfold amountOf
  rw [if_neg (by omega), if_neg (by omega)]
  by_cases hh : x.n = 0 ∧ x.b.length = 0
  · rw [if_pos hh]
    exact ⟨fun e => ⟨hh.1, hh.2, (Option.some.inj e).symm⟩, fun e => by rw [e.2.2]⟩
  · rw [if_neg hh]
    exact ⟨fun e => (by cases e), fun e => absurd ⟨e.1, e.2.1⟩ hh⟩

set_option maxRecDepth 100000 in
set_option maxHeartbeats 4000000 in
theorem refFits_any (r : Nat) : refFitsSaid r := by
  induction r with
  | zero =>
    intro n lv l m vv v M w h
    simp [mostL] at h
  | succ r ih =>
    intro n lv l m vv v M w hM hFl hVl
    obtain ⟨hSum, hl1, hl16, hMb⟩ := mostL_succ hM
    obtain ⟨ao, c, hlv, hlm, hFc⟩ := hFl.form
    obtain ⟨av, cv, hvv, hvm, hVc⟩ := hVl.form
    unfold maxLen at hlm hvm
    subst hlv
    subst hvv
    have HE : Hid (encL (r + 1) l v = if l.length = v.length then catO (List.zipWith (encOne (encL r)) l v) else none) := rfl
    have HSum : Hid (mostSum (mostL r) l = some M) := hSum
    clear hSum
    by_cases hlen : l.length = v.length
    · have HE' : Hid (encL (r + 1) l v = catO (List.zipWith (encOne (encL r)) l v)) := by show _ = _; rw [HE.out, if_pos hlen]
      obtain ⟨bF, offF, hao, hbF, hcF, hF⟩ := hFc (by omega)
      obtain ⟨bV, offV, hav, hbV, hcV, hV⟩ := hVc (by omega)
      subst hao
      subst hav
      obtain ⟨len, hle⟩ : ∃ len, l.length = len := ⟨_, rfl⟩
      have hle2 : v.length = len := by omega
      rw [hle] at hl1 hl16 hlm hcF ⊢
      rw [hle2] at hvm hcV ⊢
      have HLE : Hid (l.length = len ∧ v.length = len) := ⟨hle, hle2⟩
      clear hlen hle hle2
      go_enter Try.func26, Try.ntmps26
      go_wp2
      go_loopw [5] (fun i wr => ∃ (I : Nat) (q : List UInt8), I ≤ len ∧ i = .int .i64 (I : Int) ∧ catO ((List.zipWith (encOne (encL r)) l v).take I) = some q ∧ Below w.heap.size w wr) (fun i _ => len - (intOf i).toNat)
      case atStart => exact ⟨0, [], Nat.zero_le _, rfl, by simp [catO], Below.refl _ _⟩
      case round =>
        obtain ⟨I, q, hI, rfl, hcat, hB⟩ := hrel
        have HC : Hid (catO ((List.zipWith (encOne (encL r)) l v).take I) = some q) := hcat
        clear hcat
        have s1 := hB.size
        by_cases hlt : I < len
        · obtain ⟨f, hf1⟩ : ∃ f, l[I]? = some f := ⟨l[I]'(by have := HLE.out.1; omega), List.getElem?_eq_getElem (by have := HLE.out.1; omega)⟩
          obtain ⟨x, hx1⟩ : ∃ x, v[I]? = some x := ⟨v[I]'(by have := HLE.out.2; omega), List.getElem?_eq_getElem (by have := HLE.out.2; omega)⟩
          obtain ⟨a, S', hmo, hS', hSa⟩ := mostSum_part _ l M I f HSum.out hf1
          have K := Keeps.of_below hB (Nat.le_refl _)
          obtain ⟨f0, f1, f2, ⟨o, f3, hof⟩, hmn, hmx⟩ := (hF I f hf1)
          obtain ⟨x0, ⟨bv, x1, hbv, hbl⟩, ⟨al, cl, x2, hll, hrecs⟩, hxn⟩ := hV I x hx1
          obtain ⟨ab, cb, hbve⟩ : ∃ ab cb, bv = .slice ab x.b.length cb := by
            rcases hbv with ⟨h, ao, c, h2, _⟩ | ⟨b, off, c, h2, _, _, _⟩
            · rw [h]; exact ⟨ao, c, h2⟩
            · exact ⟨_, c, h2⟩
          subst hbve
          obtain ⟨ao2, cc2, ho2, hol2, _⟩ := hof.form
          subst ho2
          unfold maxLen at hbl hll hol2
          have c0 := K.cell f0
          have c1 := K.cell f1
          have c2 := K.cell f2
          have c3 := K.cell f3
          have d0 := K.cell x0
          have d1 := K.cell x1
          have d2 := K.cell x2
          have HZ : Hid ((List.zipWith (encOne (encL r)) l v)[I]? = some (encOne (encL r) f x)) := zip_at _ l v I f x hf1 hx1
          have HN : Hid (encOne (encL r) f x = none → encL (r + 1) l v = none) := fun h => by rw [HE'.out, catO_none _ I (by rw [HZ.out, h])]
          have HS : Hid (∀ nb, encOne (encL r) f x = some nb → catO ((List.zipWith (encOne (encL r)) l v).take (I + 1)) = some (q ++ nb)) := fun nb h => catO_snoc _ I q nb (by rw [HZ.out, h]) HC.out
          have HIH : Hid (∀ k, mostL r f.of = some k → ∀ (rv : Value) (rec : List Val) (W : World), Keeps w W → Vals w (m - 1) rv rec → Calls Try.prog 26 #[.slice ao2 f.of.length cc2, rv] W fun e w' => e = .returned (.bool (encL r f.of rec).isSome) ∧ Below W.heap.size W w') := fun k hk rv rec W hW hr => ih (n - 1) _ f.of (m - 1) rv rec k W hk (Flds.keeps hW _ _ _ hof) (Vals.keeps hW _ _ _ hr)
          have i1 : (I : Int) < (len : Int) := by omega
          have hmm := mostOne_le' hmo
          have hbVr : bV < wr.heap.size := by omega
          have hbVr' : bV ≠ wr.heap.size := by omega
          clear f0 f1 f2 f3 x0 x1 x2 hbv hof
          obtain ⟨BL, hBL⟩ : ∃ BL, x.b.length = BL := ⟨_, rfl⟩
          obtain ⟨LL, hLL⟩ : ∃ LL, x.l.length = LL := ⟨_, rfl⟩
          obtain ⟨XN, hXN⟩ : ∃ XN, x.n = XN := ⟨_, rfl⟩
          have A1 := fun h n => amount_1 (f := f) (x := x) h n
          have A2 := fun h n => amount_2 (f := f) (x := x) h n
          have A3 := fun h n => amount_3 (f := f) (x := x) h n
          rw [hBL, hLL, hXN] at A1 A2 A3
          rw [hBL] at hbl d1
          rw [hLL] at hll d2 hrecs
          rw [hXN] at hxn d0
          have HLL : Hid (x.l.length = LL) := hLL
          clear hBL hLL hXN
          have HBB : Hid (Below w.heap.size w ((wr.alloc (.cells #[.int .i64 f.kind, .int .u64 (f.min : Int), .int .u64 (f.max : Int), .slice ao2 f.of.length cc2] 44)).alloc (.cells #[.int .u64 (XN : Int), .slice ab BL cb, .slice al LL cl] 42))) := (hB.alloc s1 _).alloc (by simp; omega) _
          by_cases hk1 : f.kind = 1
          · have j1 : (f.kind == 1) = true := by simpa using hk1
            have HA : Hid (∀ n, amountOf f x = some n ↔ (BL = 0 ∧ LL = 0 ∧ n = XN)) := A1 hk1
            clear hk1 A1 A2 A3
            by_cases hz1 : BL = 0
            · subst hz1
              by_cases hz2 : LL = 0
              · subst hz2
                by_cases hlo : XN < f.min
                · have hno : Hid (encL (r + 1) l v = none) := HN.out (encOne_no (fun ⟨n, h, h1, h2⟩ => by have := ((HA.out n).1 h).2.2; omega))
                  have jl : (XN : Int) < (f.min : Int) := by omega
                  clear HA HN HS HIH HZ
                  go_wp2
                  go_ret
                  exact ⟨by rw [hno.out]; rfl, HBB.out⟩
                by_cases hhi : f.max < XN
                · have hno : Hid (encL (r + 1) l v = none) := HN.out (encOne_no (fun ⟨n, h, h1, h2⟩ => by have := ((HA.out n).1 h).2.2; omega))
                  have jl : ¬ (XN : Int) < (f.min : Int) := by omega
                  have jh : (f.max : Int) < (XN : Int) := by omega
                  clear HA HN HS HIH HZ
                  go_wp2
                  go_ret
                  exact ⟨by rw [hno.out]; rfl, HBB.out⟩
                have jl : ¬ (XN : Int) < (f.min : Int) := by omega
                have jh : ¬ (f.max : Int) < (XN : Int) := by omega
                have HEC : Hid (encOne (encL r) f x = (catO (x.l.map (encL r f.of))).map (fun r => leN (XN - f.min) (wid (f.max - f.min)) ++ (x.b ++ r))) := encOne_cat ((HA.out _).2 ⟨rfl, rfl, rfl⟩) (by omega) (by omega)
                clear HA
                go_wp2
                obtain ⟨w2, hw2⟩ : ∃ w2, w2 = (wr.alloc (.cells #[.int .i64 f.kind, .int .u64 (f.min : Int), .int .u64 (f.max : Int), .slice ao2 f.of.length cc2] 44)).alloc (.cells #[.int .u64 (XN : Int), .slice ab 0 cb, .slice al 0 cl] 42) := ⟨_, rfl⟩
                have hB2 : Below w.heap.size w w2 := by rw [hw2]; exact HBB.out
                rw [← hw2]
                have hF2 : Blk w2 wr.heap.size 44 #[.int .i64 f.kind, .int .u64 (f.min : Int), .int .u64 (f.max : Int), .slice ao2 f.of.length cc2] := by rw [hw2]; exact (Blk.new wr _ _).alloc _
                have hV2 : Blk w2 (wr.heap.size + 1) 42 #[.int .u64 (XN : Int), .slice ab 0 cb, .slice al 0 cl] := by rw [hw2]; exact Blk.newAt _ _ _ _ (by simp)
                clear hw2 HBB
                obtain ⟨wo, rfl⟩ : ∃ wo : World, wo = wr := ⟨_, rfl⟩
                go_loopw [9] (fun i wr => ∃ (k : Nat) (p : List UInt8), k ≤ 0 ∧ i = .int .i64 (k : Int) ∧ catO ((x.l.map (encL r f.of)).take k) = some p ∧ Below w2.heap.size w2 wr) (fun i _ => 0 - (intOf i).toNat)
                case atStart => exact ⟨0, [], Nat.zero_le _, rfl, by simp [catO], Below.refl _ _⟩
                case round =>
                  obtain ⟨k, p, hk, rfl, hcat, hBq⟩ := hrel
                  have HP : Hid (catO ((x.l.map (encL r f.of)).take k) = some p) := hcat
                  clear hcat
                  have hFq := hF2.below hBq hF2.lt
                  have hVq := hV2.below hBq hV2.lt
                  have e2 := hVq.cell (j := 2) rfl
                  have hBw : Below w.heap.size w wr := hB2.trans (hBq.mono hB2.size)
                  have HT : Hid (catO (x.l.map (encL r f.of)) = some p) := by show _ = _; rw [← HP.out, List.take_of_length_le (by have := HLL.out; simp; omega)]
                  obtain rfl : k = 0 := by omega
                  go_wp2
                  go_roundw
                  case rel => exact ⟨I + 1, _, hlt, by go_num, HS.out _ (by rw [HEC.out, HT.out]; rfl), hBw⟩
                  case measure => simp [intOf]; omega
              · have hno : Hid (encL (r + 1) l v = none) := HN.out (encOne_no (fun ⟨n, h, _, _⟩ => hz2 ((HA.out n).1 h).2.1))
                have jz2 : (0 : Int) < (LL : Int) := by omega
                clear HA HN HS HIH HZ hz2
                go_wp2
                go_ret
                exact ⟨by rw [hno.out]; rfl, HBB.out⟩
            · have hno : Hid (encL (r + 1) l v = none) := HN.out (encOne_no (fun ⟨n, h, _, _⟩ => hz1 ((HA.out n).1 h).1))
              have jz1 : (0 : Int) < (BL : Int) := by omega
              clear HA HN HS HIH HZ hz1
              go_wp2
              go_ret
              exact ⟨by rw [hno.out]; rfl, HBB.out⟩
          have j1 : (f.kind == 1) = false := by simpa using hk1
          by_cases hk2 : f.kind = 2
          · have j2 : (f.kind == 2) = true := by simpa using hk2
            have HA : Hid (∀ n, amountOf f x = some n ↔ (XN = 0 ∧ LL = 0 ∧ n = BL)) := A2 hk2
            clear hk1 hk2 A1 A2 A3
            by_cases hz1 : XN = 0
            · subst hz1
              by_cases hz2 : LL = 0
              · subst hz2
                by_cases hlo : BL < f.min
                · have hno : Hid (encL (r + 1) l v = none) := HN.out (encOne_no (fun ⟨n, h, h1, h2⟩ => by have := ((HA.out n).1 h).2.2; omega))
                  have jl : (BL : Int) < (f.min : Int) := by omega
                  clear HA HN HS HIH HZ
                  go_wp2
                  go_ret
                  exact ⟨by rw [hno.out]; rfl, HBB.out⟩
                by_cases hhi : f.max < BL
                · have hno : Hid (encL (r + 1) l v = none) := HN.out (encOne_no (fun ⟨n, h, h1, h2⟩ => by have := ((HA.out n).1 h).2.2; omega))
                  have jl : ¬ (BL : Int) < (f.min : Int) := by omega
                  have jh : (f.max : Int) < (BL : Int) := by omega
                  clear HA HN HS HIH HZ
                  go_wp2
                  go_ret
                  exact ⟨by rw [hno.out]; rfl, HBB.out⟩
                have jl : ¬ (BL : Int) < (f.min : Int) := by omega
                have jh : ¬ (f.max : Int) < (BL : Int) := by omega
                have HEC : Hid (encOne (encL r) f x = (catO (x.l.map (encL r f.of))).map (fun r => leN (BL - f.min) (wid (f.max - f.min)) ++ (x.b ++ r))) := encOne_cat ((HA.out _).2 ⟨rfl, rfl, rfl⟩) (by omega) (by omega)
                clear HA
                go_wp2
                obtain ⟨w2, hw2⟩ : ∃ w2, w2 = (wr.alloc (.cells #[.int .i64 f.kind, .int .u64 (f.min : Int), .int .u64 (f.max : Int), .slice ao2 f.of.length cc2] 44)).alloc (.cells #[.int .u64 0, .slice ab BL cb, .slice al 0 cl] 42) := ⟨_, rfl⟩
                have hB2 : Below w.heap.size w w2 := by rw [hw2]; exact HBB.out
                rw [← hw2]
                have hF2 : Blk w2 wr.heap.size 44 #[.int .i64 f.kind, .int .u64 (f.min : Int), .int .u64 (f.max : Int), .slice ao2 f.of.length cc2] := by rw [hw2]; exact (Blk.new wr _ _).alloc _
                have hV2 : Blk w2 (wr.heap.size + 1) 42 #[.int .u64 0, .slice ab BL cb, .slice al 0 cl] := by rw [hw2]; exact Blk.newAt _ _ _ _ (by simp)
                clear hw2 HBB
                obtain ⟨wo, rfl⟩ : ∃ wo : World, wo = wr := ⟨_, rfl⟩
                go_loopw [9] (fun i wr => ∃ (k : Nat) (p : List UInt8), k ≤ 0 ∧ i = .int .i64 (k : Int) ∧ catO ((x.l.map (encL r f.of)).take k) = some p ∧ Below w2.heap.size w2 wr) (fun i _ => 0 - (intOf i).toNat)
                case atStart => exact ⟨0, [], Nat.zero_le _, rfl, by simp [catO], Below.refl _ _⟩
                case round =>
                  obtain ⟨k, p, hk, rfl, hcat, hBq⟩ := hrel
                  have HP : Hid (catO ((x.l.map (encL r f.of)).take k) = some p) := hcat
                  clear hcat
                  have hFq := hF2.below hBq hF2.lt
                  have hVq := hV2.below hBq hV2.lt
                  have e2 := hVq.cell (j := 2) rfl
                  have hBw : Below w.heap.size w wr := hB2.trans (hBq.mono hB2.size)
                  have HT : Hid (catO (x.l.map (encL r f.of)) = some p) := by show _ = _; rw [← HP.out, List.take_of_length_le (by have := HLL.out; simp; omega)]
                  obtain rfl : k = 0 := by omega
                  go_wp2
                  go_roundw
                  case rel => exact ⟨I + 1, _, hlt, by go_num, HS.out _ (by rw [HEC.out, HT.out]; rfl), hBw⟩
                  case measure => simp [intOf]; omega
              · have hno : Hid (encL (r + 1) l v = none) := HN.out (encOne_no (fun ⟨n, h, _, _⟩ => hz2 ((HA.out n).1 h).2.1))
                have jz2 : (0 : Int) < (LL : Int) := by omega
                clear HA HN HS HIH HZ hz2
                go_wp2
                go_ret
                exact ⟨by rw [hno.out]; rfl, HBB.out⟩
            · have hno : Hid (encL (r + 1) l v = none) := HN.out (encOne_no (fun ⟨n, h, _, _⟩ => hz1 ((HA.out n).1 h).1))
              have jz1 : ((XN : Int) != 0) = true := by rw [bne_iff_ne]; omega
              clear HA HN HS HIH HZ hz1
              go_wp2
              go_ret
              exact ⟨by rw [hno.out]; rfl, HBB.out⟩
          have j2 : (f.kind == 2) = false := by simpa using hk2
          obtain ⟨hk3, kk, hkk, _⟩ := mostOne_of hmo hk1 hk2
          have j3 : (f.kind == 3) = true := by simpa using hk3
          have HA : Hid (∀ n, amountOf f x = some n ↔ (XN = 0 ∧ BL = 0 ∧ n = LL)) := A3 hk3
          clear hk1 hk2 hk3 A1 A2 A3
          by_cases hz1 : XN = 0
          · subst hz1
            by_cases hz2 : BL = 0
            · subst hz2
              by_cases hlo : LL < f.min
              · have hno : Hid (encL (r + 1) l v = none) := HN.out (encOne_no (fun ⟨n, h, h1, h2⟩ => by have := ((HA.out n).1 h).2.2; omega))
                have jl : (LL : Int) < (f.min : Int) := by omega
                clear HA HN HS HIH HZ
                go_wp2
                go_ret
                exact ⟨by rw [hno.out]; rfl, HBB.out⟩
              by_cases hhi : f.max < LL
              · have hno : Hid (encL (r + 1) l v = none) := HN.out (encOne_no (fun ⟨n, h, h1, h2⟩ => by have := ((HA.out n).1 h).2.2; omega))
                have jl : ¬ (LL : Int) < (f.min : Int) := by omega
                have jh : (f.max : Int) < (LL : Int) := by omega
                clear HA HN HS HIH HZ
                go_wp2
                go_ret
                exact ⟨by rw [hno.out]; rfl, HBB.out⟩
              have jl : ¬ (LL : Int) < (f.min : Int) := by omega
              have jh : ¬ (f.max : Int) < (LL : Int) := by omega
              have HEC : Hid (encOne (encL r) f x = (catO (x.l.map (encL r f.of))).map (fun r => leN (LL - f.min) (wid (f.max - f.min)) ++ (x.b ++ r))) := encOne_cat ((HA.out _).2 ⟨rfl, rfl, rfl⟩) (by omega) (by omega)
              clear HA
              go_wp2
              obtain ⟨w2, hw2⟩ : ∃ w2, w2 = (wr.alloc (.cells #[.int .i64 f.kind, .int .u64 (f.min : Int), .int .u64 (f.max : Int), .slice ao2 f.of.length cc2] 44)).alloc (.cells #[.int .u64 0, .slice ab 0 cb, .slice al LL cl] 42) := ⟨_, rfl⟩
              have hB2 : Below w.heap.size w w2 := by rw [hw2]; exact HBB.out
              rw [← hw2]
              have hF2 : Blk w2 wr.heap.size 44 #[.int .i64 f.kind, .int .u64 (f.min : Int), .int .u64 (f.max : Int), .slice ao2 f.of.length cc2] := by rw [hw2]; exact (Blk.new wr _ _).alloc _
              have hV2 : Blk w2 (wr.heap.size + 1) 42 #[.int .u64 0, .slice ab 0 cb, .slice al LL cl] := by rw [hw2]; exact Blk.newAt _ _ _ _ (by simp)
              clear hw2 HBB
              obtain ⟨wo, rfl⟩ : ∃ wo : World, wo = wr := ⟨_, rfl⟩
              go_loopw [9] (fun i wr => ∃ (k : Nat) (p : List UInt8), k ≤ LL ∧ i = .int .i64 (k : Int) ∧ catO ((x.l.map (encL r f.of)).take k) = some p ∧ Below w2.heap.size w2 wr) (fun i _ => LL - (intOf i).toNat)
              case atStart => exact ⟨0, [], Nat.zero_le _, rfl, by simp [catO], Below.refl _ _⟩
              case round =>
                obtain ⟨k, p, hk, rfl, hcat, hBq⟩ := hrel
                have HP : Hid (catO ((x.l.map (encL r f.of)).take k) = some p) := hcat
                clear hcat
                have hFq := hF2.below hBq hF2.lt
                have hVq := hV2.below hBq hV2.lt
                have e2 := hVq.cell (j := 2) rfl
                have hBw : Below w.heap.size w wr := hB2.trans (hBq.mono hB2.size)
                by_cases hlk : k < LL
                · obtain ⟨bL, offL, rfl, hbL, hcL, hrec⟩ := hrecs (by omega)
                  obtain ⟨rec, hrec1⟩ : ∃ rec, x.l[k]? = some rec := ⟨x.l[k]'(by have := HLL.out; omega), List.getElem?_eq_getElem (by have := HLL.out; omega)⟩
                  obtain ⟨rv, r1, r2⟩ := hrec k rec hrec1
                  have ik : (k : Int) < (LL : Int) := by omega
                  have HQ : Hid ((x.l.map (encL r f.of))[k]? = some (encL r f.of rec)) := by show _ = _; rw [List.getElem?_map, hrec1]; rfl
                  have HCc := HIH.out kk hkk rv rec
                  have hHC : Hid (∀ W, Keeps w W → Calls Try.prog 26 #[.slice ao2 f.of.length cc2, rv] W fun e w' => e = .returned (.bool (encL r f.of rec).isSome) ∧ Below W.heap.size W w') := fun W hW => HCc W hW r2
                  clear HCc
                  cases hen : encL r f.of rec with
                  | none =>
                    rw [hen] at hHC HQ
                    go_wp2_with fail
                    refine held_begin (fun W => Below wr.heap.size wr W) (by kernel_rfl) ?_
                    have hS1 : Below wr.heap.size wr wr.drew := (Below.refl _ _).drew
                    refine held_take 0 93 _ (.pointer (some ⟨wo.heap.size, 3, none⟩)) rfl rfl (by kernel_rfl) (by kernel_rfl) (by kernel_rfl) rfl hS1 (fun _ _ => rfl) ?_
                    simp only [Act.put, List.setIfInBounds_toArray, List.set_cons_succ, List.set_cons_zero]
                    refine held_take 1 94 _ (.slice ao2 f.of.length cc2) rfl rfl (by kernel_rfl) (by kernel_rfl) (by kernel_rfl) rfl hS1 (fun W hW => exec_load1 _ _ rfl (fun _ => by kernel_rfl) _ _ rfl _ ((hFq.below hW hFq.lt).cell (j := 3) rfl)) ?_
                    simp only [Act.put, List.setIfInBounds_toArray, List.set_cons_succ, List.set_cons_zero]
                    refine held_take 2 95 _ (.pointer (some ⟨wo.heap.size + 1, 2, none⟩)) rfl rfl (by kernel_rfl) (by kernel_rfl) (by kernel_rfl) rfl hS1 (fun _ _ => rfl) ?_
                    simp only [Act.put, List.setIfInBounds_toArray, List.set_cons_succ, List.set_cons_zero]
                    refine held_take 3 96 _ (.slice (some ⟨bL, offL, none⟩) LL cl) rfl rfl (by kernel_rfl) (by kernel_rfl) (by kernel_rfl) rfl hS1 (fun W hW => exec_load1 _ _ rfl (fun _ => by kernel_rfl) _ _ rfl _ ((hVq.below hW hVq.lt).cell (j := 2) rfl)) ?_
                    simp only [Act.put, List.setIfInBounds_toArray, List.set_cons_succ, List.set_cons_zero]
                    refine held_take 4 97 _ (.int .i64 (k : Int)) rfl rfl (by kernel_rfl) (by kernel_rfl) (by kernel_rfl) rfl hS1 (fun _ _ => rfl) ?_
                    simp only [Act.put, List.setIfInBounds_toArray, List.set_cons_succ, List.set_cons_zero]
                    refine held_take 5 98 _ (.pointer (some ⟨bL, offL + k, none⟩)) rfl rfl (by kernel_rfl) (by kernel_rfl) (by kernel_rfl) rfl hS1 (fun W _ => exec_index _ _ _ rfl _ _ _ rfl rfl (index_records bL offL LL cl k W hlk)) ?_
                    simp only [Act.put, List.setIfInBounds_toArray, List.set_cons_succ, List.set_cons_zero]
                    refine held_take 6 99 _ rv rfl rfl (by kernel_rfl) (by kernel_rfl) (by kernel_rfl) rfl hS1 (fun W hW => exec_load1 _ _ rfl (fun _ => by kernel_rfl) _ _ rfl _ ((Keeps.of_below (hBw.trans (hW.mono hBw.size)) (Nat.le_refl _)).cell r1)) ?_
                    simp only [Act.put, List.setIfInBounds_toArray, List.set_cons_succ, List.set_cons_zero]
                    refine held_call 7 100 _ 26 _ rfl rfl (by kernel_rfl) rfl (exec_two 26 _ _ _ rfl _ _ rfl rfl Try.call26) ?_
                    refine (hHC.out _ (Keeps.of_below (hBw.trans (hS1.mono hBw.size)) (Nat.le_refl _))).mono ?_
                    rintro e w5 ⟨rfl, hb5⟩
                    have hS5 : Below wr.heap.size wr w5 := hS1.trans (hb5.mono hS1.size)
                    refine ⟨_, rfl, hS5, ?_⟩
                    simp only [Act.put, List.setIfInBounds_toArray, List.set_cons_succ, List.set_cons_zero]
                    refine held_one 8 10 _ (.bool false) rfl rfl (by kernel_rfl) rfl hS5 rfl ?_
                    simp only [Act.put, List.setIfInBounds_toArray, List.set_cons_succ, List.set_cons_zero]
                    refine wpAnyH_done (by kernel_rfl) ?_ _
                    refine NoPanic.normal ?_
                    have hno : Hid (encL (r + 1) l v = none) := HN.out (by rw [HEC.out, catO_none _ k HQ.out]; rfl)
                    go_wp2
                    go_ret
                    exact ⟨by rw [hno.out]; rfl, hBw.trans (hS5.mono hBw.size)⟩
                  | some nb =>
                    rw [hen] at hHC HQ
                    go_wp2_with fail
                    refine held_begin (fun W => Below wr.heap.size wr W) (by kernel_rfl) ?_
                    have hS1 : Below wr.heap.size wr wr.drew := (Below.refl _ _).drew
                    refine held_take 0 93 _ (.pointer (some ⟨wo.heap.size, 3, none⟩)) rfl rfl (by kernel_rfl) (by kernel_rfl) (by kernel_rfl) rfl hS1 (fun _ _ => rfl) ?_
                    simp only [Act.put, List.setIfInBounds_toArray, List.set_cons_succ, List.set_cons_zero]
                    refine held_take 1 94 _ (.slice ao2 f.of.length cc2) rfl rfl (by kernel_rfl) (by kernel_rfl) (by kernel_rfl) rfl hS1 (fun W hW => exec_load1 _ _ rfl (fun _ => by kernel_rfl) _ _ rfl _ ((hFq.below hW hFq.lt).cell (j := 3) rfl)) ?_
                    simp only [Act.put, List.setIfInBounds_toArray, List.set_cons_succ, List.set_cons_zero]
                    refine held_take 2 95 _ (.pointer (some ⟨wo.heap.size + 1, 2, none⟩)) rfl rfl (by kernel_rfl) (by kernel_rfl) (by kernel_rfl) rfl hS1 (fun _ _ => rfl) ?_
                    simp only [Act.put, List.setIfInBounds_toArray, List.set_cons_succ, List.set_cons_zero]
                    refine held_take 3 96 _ (.slice (some ⟨bL, offL, none⟩) LL cl) rfl rfl (by kernel_rfl) (by kernel_rfl) (by kernel_rfl) rfl hS1 (fun W hW => exec_load1 _ _ rfl (fun _ => by kernel_rfl) _ _ rfl _ ((hVq.below hW hVq.lt).cell (j := 2) rfl)) ?_
                    simp only [Act.put, List.setIfInBounds_toArray, List.set_cons_succ, List.set_cons_zero]
                    refine held_take 4 97 _ (.int .i64 (k : Int)) rfl rfl (by kernel_rfl) (by kernel_rfl) (by kernel_rfl) rfl hS1 (fun _ _ => rfl) ?_
                    simp only [Act.put, List.setIfInBounds_toArray, List.set_cons_succ, List.set_cons_zero]
                    refine held_take 5 98 _ (.pointer (some ⟨bL, offL + k, none⟩)) rfl rfl (by kernel_rfl) (by kernel_rfl) (by kernel_rfl) rfl hS1 (fun W _ => exec_index _ _ _ rfl _ _ _ rfl rfl (index_records bL offL LL cl k W hlk)) ?_
                    simp only [Act.put, List.setIfInBounds_toArray, List.set_cons_succ, List.set_cons_zero]
                    refine held_take 6 99 _ rv rfl rfl (by kernel_rfl) (by kernel_rfl) (by kernel_rfl) rfl hS1 (fun W hW => exec_load1 _ _ rfl (fun _ => by kernel_rfl) _ _ rfl _ ((Keeps.of_below (hBw.trans (hW.mono hBw.size)) (Nat.le_refl _)).cell r1)) ?_
                    simp only [Act.put, List.setIfInBounds_toArray, List.set_cons_succ, List.set_cons_zero]
                    refine held_call 7 100 _ 26 _ rfl rfl (by kernel_rfl) rfl (exec_two 26 _ _ _ rfl _ _ rfl rfl Try.call26) ?_
                    refine (hHC.out _ (Keeps.of_below (hBw.trans (hS1.mono hBw.size)) (Nat.le_refl _))).mono ?_
                    rintro e w5 ⟨rfl, hb5⟩
                    have hS5 : Below wr.heap.size wr w5 := hS1.trans (hb5.mono hS1.size)
                    refine ⟨_, rfl, hS5, ?_⟩
                    simp only [Act.put, List.setIfInBounds_toArray, List.set_cons_succ, List.set_cons_zero]
                    refine held_one 8 10 _ (.bool true) rfl rfl (by kernel_rfl) rfl hS5 rfl ?_
                    simp only [Act.put, List.setIfInBounds_toArray, List.set_cons_succ, List.set_cons_zero]
                    refine wpAnyH_done (by kernel_rfl) ?_ _
                    refine NoPanic.normal ?_
                    go_wp2
                    go_roundw
                    case rel => exact ⟨k + 1, p ++ nb, hlk, by go_num, catO_snoc _ k p nb HQ.out HP.out, hBq.trans (hS5.mono hBq.size)⟩
                    case measure => simp [intOf]; omega
                · have HT : Hid (catO (x.l.map (encL r f.of)) = some p) := by show _ = _; rw [← HP.out, List.take_of_length_le (by have := HLL.out; simp; omega)]
                  have ik : ¬ (k : Int) < (LL : Int) := by omega
                  go_wp2
                  go_roundw
                  case rel => exact ⟨I + 1, _, hlt, by go_num, HS.out _ (by rw [HEC.out, HT.out]; rfl), hBw⟩
                  case measure => simp [intOf]; omega
            · have hno : Hid (encL (r + 1) l v = none) := HN.out (encOne_no (fun ⟨n, h, _, _⟩ => hz2 ((HA.out n).1 h).2.1))
              have jz2 : (0 : Int) < (BL : Int) := by omega
              clear HA HN HS HIH HZ hz2
              go_wp2
              go_ret
              exact ⟨by rw [hno.out]; rfl, HBB.out⟩
          · have hno : Hid (encL (r + 1) l v = none) := HN.out (encOne_no (fun ⟨n, h, _, _⟩ => hz1 ((HA.out n).1 h).1))
            have jz1 : ((XN : Int) != 0) = true := by rw [bne_iff_ne]; omega
            clear HA HN HS HIH HZ hz1
            go_wp2
            go_ret
            exact ⟨by rw [hno.out]; rfl, HBB.out⟩
        · have HQ : Hid (catO (List.zipWith (encOne (encL r)) l v) = some q) := by show _ = _; rw [← HC.out, List.take_of_length_le (by have := HLE.out; simp; omega)]
          have i1 : ¬ (I : Int) < (len : Int) := by omega
          go_wp2
          go_ret
          exact ⟨by rw [HE'.out, HQ.out]; rfl, hB⟩
    · have hres : Hid (encL (r + 1) l v = none) := by show _ = _; rw [HE.out, if_neg hlen]
      have i1 : ((l.length : Int) != (v.length : Int)) = true := by
        rw [bne_iff_ne]; omega
      go_enter Try.func26, Try.ntmps26
      go_wp2
      go_ret
      exact ⟨by rw [hres.out]; rfl, Below.refl _ _⟩
end Go.Proofs.Ytjepeonekhhgfaa
