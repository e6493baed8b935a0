/-
  What is proved here: pack.appendValue and pack.appendRecord put behind bytes what the plain functions tell, or answer that it does not fit.
  Conditions: the fields may be; fields and values lie in memory below the bytes.
-/
import Derived.Test.YtgfcindkfnjeoaaJPackWidth
import Derived.Test.YtgfcindkfnjeoaaJPackPure
import Derived.Test.YtgfcindkfnjeoaaJAnyHeld
namespace Go.Proofs.Ytgfcindkfnjeoaa
open Go.RowKit

theorem Blk.range' {w : World} {g : Nat} {t : TypeId} {arr : Array Value} (h : Blk w g t arr) : w.rangeAt g 0 arr.toList := fun j v hv => by rw [Nat.zero_add]; exact h.cell (by simpa using hv)
theorem exec_load1 {a : Act} {o : Oper} {w : World} (ty : TypeId) (x : Operand) (ho : o.op = .load ty x) (hag : ∀ w, (isAgg ty).run Try.prog w = .ok false w)
    (b off : Nat) (hx : a.eval x = .pointer (some ⟨b, off, none⟩)) (v : Value) (hc : w.cell? ⟨b, off, none⟩ = some v) : (execOp a.eval o).run Try.prog w = .ok (.value v) w := by
  unfold execOp
  simp [ho, hx, Instr.loadAt, Instr.sureAddr, loadVar, hag, hc]
theorem exec_three {a : Act} {o : Oper} {w : World} (f : FuncId) (x y z : Operand) (ts : Array TypeId) (ho : o.op = .call { callee := .value (.func f), args := #[x, y, z], argTypes := ts }) (u v t : Value) (hx : a.eval x = u) (hy : a.eval y = v) (hz : a.eval z = t) (hc : ∀ args w, (callFunc f args).run Try.prog w = .ok (.enter f args) w) : (execOp a.eval o).run Try.prog w = .ok (.enter f #[u, v, t]) w := by
  have he : a.eval (.func f) = .func (.func f) #[] #[] := rfl
  unfold execOp
  simp [ho, resolve, invoke, Deferred.ofValue, he, hx, hy, hz, hc]
theorem exec_sub {a : Act} {o : Oper} {w : World} (t : TypeId) (x y : Operand) (ho : o.op = .binOp .sub t x y t) (m n : Int) (hx : a.eval x = .int .u64 m) (hy : a.eval y = .int .u64 n) (h0 : 0 ≤ m - n) (h1 : m - n < 18446744073709551616) : (execOp a.eval o).run Try.prog w = .ok (.value (.int .u64 (m - n))) w := by
  have hw : IntKind.u64.wrap (m - n) = m - n := by rw [IntKind.wrap_u64]; omega
  unfold execOp
  simp [ho, hx, hy]
  rw [← hw]
  rfl
theorem exec_loads {a : Act} {o : Oper} {w : World} (ty : TypeId) (x : Operand) (ho : o.op = .load ty x)
    (b off : Nat) (hx : a.eval x = .pointer (some ⟨b, off, none⟩)) (cs : List Value) (d : TypeDesc) (hc : w.rangeAt b off cs)
    (hu : Try.prog.underlying ty = some d) (hd : d.isRow = true) (hi : (Try.prog.info? ty).map (·.size) = some cs.length) : (execOp a.eval o).run Try.prog w = .ok (.value (.agg cs.toArray)) w := by
  unfold execOp
  simp only [ho, hx, Instr.loadAt, Instr.sureAddr, Sem.run_bind, Sem.run_pure, Result.andThen_ok, run_loadVar_mid w b off ty cs d hc hu hd hi]
theorem grown_of_below {w w' : World} {B : Nat} (k : Below B w w') (hB : w.heap.size ≤ B) (row : Option Nat) : w.grownBy w' row := ⟨k.os, k.tape, k.output, k.size, fun i hi _ => k.block i (Nat.lt_of_lt_of_le hi hB)⟩
theorem Grew.then {w w1 w2 : World} {base : Nat} {v v1 : Value} {b1 : List UInt8} (h : Grew w base v w1 v1 b1) (k : w1.grownBy w2 v1.ownBlock) : w.grownBy w2 v.ownBlock := by
  refine ⟨k.os.trans h.grown.os, k.tape.trans h.grown.tape, k.output.trans h.grown.output, Nat.le_trans h.grown.size k.size, fun i hi hne => ?_⟩
  have h1 := h.grown.block i hi hne
  refine (k.block i (Nat.lt_of_lt_of_le hi h.grown.size) ?_).trans h1
  rcases h.row with e | ⟨q, e, hq⟩
  · rw [e]; exact hne
  · rw [e]; intro h2; have := Option.some.inj h2; omega
/-- What a call that puts a record, or a value, behind bytes answers. -/
def encPost (w : World) (base : Nat) (b : Value) (bs : List UInt8) (r : Option (List UInt8)) (e : Ending) (w' : World) : Prop :=
  match r with
  | some nb => ∃ b', e = .returned (.tuple #[b', .bool true]) ∧ Grew w base b w' b' (bs ++ nb)
  | none => e = .returned (.tuple #[.slice none 0 0, .bool false]) ∧ w.grownBy w' b.ownBlock
def appRecSaid (r : Nat) : Prop := ∀ (n : Nat) (lv : Value) (l : List Fld) (m : Nat) (vv : Value) (v : List Val) (M : Nat) (w0 w : World) (base : Nat) (b : Value) (bs : List UInt8), mostL r l = some M → Flds w0 n lv l → Vals w0 m vv v → w0.heap.size ≤ base → Below base w0 w → base ≤ w.heap.size → Own w base b bs → bs.length + M ≤ 10000000 →
    Calls Try.prog 31 #[b, lv, vv] w fun e w' => encPost w base b bs (encL r l v) e w'

set_option maxRecDepth 100000 in
set_option maxHeartbeats 2000000 in
theorem appVal_any (r : Nat) (ih : appRecSaid r) (f : Fld) (n : Nat) (o : Value) (x : Val) (m : Nat) (bv : Value) (al : Option Addr) (cl : Nat) (a : Nat) (w0 w : World) (base : Nat) (b : Value) (bs : List UInt8) (hmo : mostOne (mostL r) f = some a) (hmx : f.max < 18446744073709551616) (ho : Flds w0 n o f.of) (hxn : x.n < 18446744073709551616) (hbv : Seg w0 bv x.b) (hbl : x.b.length ≤ maxLen)
    (hll : x.l.length ≤ maxLen) (hL : 0 < x.l.length → ∃ b off, al = some ⟨b, off, none⟩ ∧ b < w0.heap.size ∧ x.l.length ≤ cl ∧ ∀ k r, x.l[k]? = some r → ∃ rv, w0.cell? ⟨b, off + k, none⟩ = some rv ∧ Vals w0 m rv r)
    (hs0 : w0.heap.size ≤ base) (hB0 : Below base w0 w) (hbase : base ≤ w.heap.size) (hO : Own w base b bs) (hsz : bs.length + a ≤ 10000000) :
    Calls Try.prog 50 #[b, fldV f o, valV x bv (.slice al x.l.length cl)] w fun e w' => encPost w base b bs (encOne (encL r) f x) e w' := by
  obtain ⟨ab, cb, hbve⟩ : ∃ ab cb, bv = .slice ab x.b.length cb := by
    rcases hbv with ⟨h, ao, c, h2, _⟩ | ⟨b, off, c, h2, _, _, _⟩
    · rw [h]; exact ⟨ao, c, h2⟩
    · exact ⟨_, c, h2⟩
  obtain ⟨ao, oc, hoe, hol, _⟩ := ho.form
  have HAm : Hid (∀ W, Calls Try.prog 68 #[fldV f o, valV x bv (.slice al x.l.length cl)] W fun e w' => ∃ y : Nat, e = .returned (.tuple #[.int .u64 (y : Int), .bool (amountOf f x).isSome]) ∧ (∀ m, amountOf f x = some m → y = m) ∧ Below W.heap.size W w') := fun W => by
    rw [hbve]; exact amount_any f o x ab cb al cl W ⟨_, _, _, hoe⟩ hbl hll
  have hmm := mostOne_le' hmo
  have HWd : Hid (∀ W, Calls Try.prog 70 #[fldV f o] W fun e w' => e = .returned (.int .i64 (wid (f.max - f.min) : Int)) ∧ Below W.heap.size W w') := fun W => width_any f o hmm hmx W
  have HE : Hid (encOne (encL r) f x = match amountOf f x with
    | none => none
    | some n => if n < f.min ∨ f.max < n then none else (catO (x.l.map (encL r f.of))).map (fun r => leN (n - f.min) (wid (f.max - f.min)) ++ (x.b ++ r))) := rfl
  subst hoe
  have hAl : ∀ ob, Below w.heap.size w (w.alloc ob) := fun ob => (Below.refl _ _).alloc (Nat.le_refl _) _
  unfold maxLen at hbl hll hol
  cases ham : amountOf f x with
  | none =>
    have hres : Hid (encOne (encL r) f x = none) := by show _ = _; rw [HE.out, ham]
    rw [ham] at HAm
    subst hbve
    unfold fldV valV at HAm ⊢
    go_enter Try.func50, Try.ntmps50
    go_wp2_with (go_at_call 68; refine (HAm.out _).mono ?_; rintro e w1 ⟨y, rfl, _, hb1⟩)
    go_ret2
    have hd : Below w.heap.size w w1 := ((hAl _).alloc (by simp) _).trans (hb1.mono (by simp; omega))
    show encPost w base b bs (encOne (encL r) f x) _ w1
    rw [hres.out]
    exact ⟨rfl, grown_of_below hd (Nat.le_refl _) _⟩
  | some n =>
    rw [ham] at HAm HE
    have HE' : Hid (encOne (encL r) f x = if n < f.min ∨ f.max < n then none else (catO (x.l.map (encL r f.of))).map (fun r => leN (n - f.min) (wid (f.max - f.min)) ++ (x.b ++ r))) := HE.out
    have hnb : n < 18446744073709551616 := by
      obtain ⟨a1, a2, a3⟩ := amountOf_facts ham
      by_cases h1 : f.kind = 1
      · have := (a1 h1).2.2; omega
      by_cases h2 : f.kind = 2
      · have := (a2 h2).2.2; omega
      have := (a3 h1 h2).2.2; omega
    have HX : Hid (∀ W1, Below (w.heap.size + 1 + 1) ((w.alloc (.cells #[.int .i64 f.kind, .int .u64 (f.min : Int), .int .u64 (f.max : Int), .slice ao f.of.length oc] 62)).alloc (.cells #[.int .u64 (x.n : Int), bv, .slice al x.l.length cl] 68)) W1 → Grew w base b W1 b bs ∧ Blk W1 w.heap.size 62 #[.int .i64 f.kind, .int .u64 (f.min : Int), .int .u64 (f.max : Int), .slice ao f.of.length oc] ∧ Blk W1 (w.heap.size + 1) 68 #[.int .u64 (x.n : Int), bv, .slice al x.l.length cl] ∧ w.heap.size + 2 ≤ W1.heap.size) := fun W1 h => by
      have h' := h
      refine ⟨((((Grew.refl hO).after (hAl _) (Nat.le_refl _)).after ((Below.refl (w.heap.size + 1) _).alloc (by simp) _) (by simp))).after h (by simp), ((Blk.new w _ _).alloc _).below h (by omega), (Blk.newAt _ _ _ _ (by simp)).below h (by omega), ?_⟩
      have := h.size
      simpa using this
    have hob : b.ownBlock ≠ some w.heap.size := fun h => by have := (hO.blocks _ h).2; omega
    have hob' : b.ownBlock ≠ some (w.heap.size + 1) := fun h => by have := (hO.blocks _ h).2; omega
    by_cases hrange : n < f.min ∨ f.max < n
    · have hres : Hid (encOne (encL r) f x = none) := by show _ = _; rw [HE'.out, if_pos hrange]
      subst hbve
      unfold fldV valV at HAm ⊢
      by_cases hlo : n < f.min
      · have i1 : (n : Int) < (f.min : Int) := by omega
        go_enter Try.func50, Try.ntmps50
        go_wp2_with (go_at_call 68; refine (HAm.out _).mono ?_; rintro e w1 ⟨y, rfl, hy, hb1⟩; obtain rfl := hy n rfl; obtain ⟨hG1, hF1, hV1, hs1⟩ := HX.out w1 (by simpa using hb1); have c1 := hF1.cell (j := 1) rfl; have c2 := hF1.cell (j := 2) rfl)
        go_ret2
        show encPost w base b bs (encOne (encL r) f x) _ w1
        rw [hres.out]
        exact ⟨rfl, hG1.grown⟩
      · have i1 : ¬ (n : Int) < (f.min : Int) := by omega
        have i2 : (f.max : Int) < (n : Int) := by omega
        go_enter Try.func50, Try.ntmps50
        go_wp2_with (go_at_call 68; refine (HAm.out _).mono ?_; rintro e w1 ⟨y, rfl, hy, hb1⟩; obtain rfl := hy n rfl; obtain ⟨hG1, hF1, hV1, hs1⟩ := HX.out w1 (by simpa using hb1); have c1 := hF1.cell (j := 1) rfl; have c2 := hF1.cell (j := 2) rfl)
        go_ret2
        show encPost w base b bs (encOne (encL r) f x) _ w1
        rw [hres.out]
        exact ⟨rfl, hG1.grown⟩
    · obtain ⟨rm1, rm2⟩ := room_one hmo ham (by omega)
      have i1 : ¬ (n : Int) < (f.min : Int) := by omega
      have i2 : ¬ (f.max : Int) < (n : Int) := by omega
      have hres : Hid (encOne (encL r) f x = (catO (x.l.map (encL r f.of))).map (fun r => leN (n - f.min) (wid (f.max - f.min)) ++ (x.b ++ r))) := by show _ = _; rw [HE'.out, if_neg hrange]
      have hsub : (n : Int) - (f.min : Int) = ((n - f.min : Nat) : Int) := by omega
      have hsb : n - f.min < 18446744073709551616 := by omega
      have hwl := wid_le (f.max - f.min)
      have RM : Hid (wid (f.max - f.min) + x.b.length ≤ a ∧ (0 < x.l.length → ∃ k, mostL r f.of = some k ∧ wid (f.max - f.min) + x.b.length + x.l.length * k ≤ a)) := ⟨rm1, rm2⟩
      have hbv' := hbv
      subst hbve
      unfold fldV at HWd
      unfold fldV valV at HAm ⊢
      clear rm1 rm2 hrange HE HE'
      go_enter Try.func50, Try.ntmps50
      go_wp2_with (first | (go_at_call 68; refine (HAm.out _).mono ?_; rintro e w1 ⟨y, rfl, hy, hb1⟩; obtain rfl := hy n rfl; obtain ⟨hG1, hF1, hV1, hs1⟩ := HX.out w1 (by simpa using hb1); have c0 := hF1.cell (j := 0) rfl; have c1 := hF1.cell (j := 1) rfl; have c2 := hF1.cell (j := 2) rfl; have c3 := hF1.cell (j := 3) rfl) | fail)
      have hS1 : Blk w1.drew w.heap.size 62 #[.int .i64 f.kind, .int .u64 (f.min : Int), .int .u64 (f.max : Int), .slice ao f.of.length oc] := hF1.drew
      refine held_begin (fun W => Blk W w.heap.size 62 #[.int .i64 f.kind, .int .u64 (f.min : Int), .int .u64 (f.max : Int), .slice ao f.of.length oc]) (by kernel_rfl) ?_
      refine held_take 0 32 _ b rfl rfl (by kernel_rfl) (by kernel_rfl) (by kernel_rfl) rfl hS1 (fun _ _ => rfl) ?_
      simp only [Act.put, List.setIfInBounds_toArray, List.set_cons_succ, List.set_cons_zero]
      refine held_take 1 33 _ (.int .u64 (y : Int)) rfl rfl (by kernel_rfl) (by kernel_rfl) (by kernel_rfl) rfl hS1 (fun _ _ => rfl) ?_
      simp only [Act.put, List.setIfInBounds_toArray, List.set_cons_succ, List.set_cons_zero]
      refine held_take 2 34 _ (.pointer (some ⟨w.heap.size, 1, none⟩)) rfl rfl (by kernel_rfl) (by kernel_rfl) (by kernel_rfl) rfl hS1 (fun _ _ => rfl) ?_
      simp only [Act.put, List.setIfInBounds_toArray, List.set_cons_succ, List.set_cons_zero]
      refine held_take 3 35 _ (.int .u64 (f.min : Int)) rfl rfl (by kernel_rfl) (by kernel_rfl) (by kernel_rfl) rfl hS1 (fun W hW => exec_load1 _ _ rfl (fun _ => by kernel_rfl) _ _ rfl _ (hW.cell (j := 1) rfl)) ?_
      simp only [Act.put, List.setIfInBounds_toArray, List.set_cons_succ, List.set_cons_zero]
      refine held_take 4 36 _ (.int .u64 ((y - f.min : Nat) : Int)) rfl rfl (by kernel_rfl) (by kernel_rfl) (by kernel_rfl) rfl hS1 (fun W hW => by rw [← hsub]; exact exec_sub _ _ _ rfl _ _ rfl rfl (by omega) (by omega)) ?_
      simp only [Act.put, List.setIfInBounds_toArray, List.set_cons_succ, List.set_cons_zero]
      refine held_take 5 37 _ (.agg #[.int .i64 f.kind, .int .u64 (f.min : Int), .int .u64 (f.max : Int), .slice ao f.of.length oc]) rfl rfl (by kernel_rfl) (by kernel_rfl) (by kernel_rfl) rfl hS1 (fun W hW => exec_loads _ _ rfl _ _ rfl [.int .i64 f.kind, .int .u64 (f.min : Int), .int .u64 (f.max : Int), .slice ao f.of.length oc] _ (Blk.range' hW) Try.underlying62 rfl (by kernel_rfl)) ?_
      simp only [Act.put, List.setIfInBounds_toArray, List.set_cons_succ, List.set_cons_zero]
      refine held_call 6 38 _ 70 _ rfl rfl (by kernel_rfl) rfl (exec_one 70 _ _ rfl _ rfl Try.call70) ?_
      refine (HWd.out _).mono ?_
      rintro e w2 ⟨rfl, hb2⟩
      have hG2 : Grew w base b w2 b bs := (hG1.after ((Below.refl _ _).drew) (Nat.le_refl _)).after hb2 (Nat.le_refl _)
      refine ⟨_, rfl, hS1.below hb2 hS1.lt, ?_⟩
      simp only [Act.put, List.setIfInBounds_toArray, List.set_cons_succ, List.set_cons_zero]
      refine held_call 7 39 _ 69 _ rfl rfl (by kernel_rfl) rfl (exec_three 69 _ _ _ _ rfl _ _ _ rfl rfl rfl Try.call69) ?_
      refine (appNum_any b bs base (y - f.min) (wid (f.max - f.min)) w2 hG2.own (Nat.le_trans hbase hG2.size) hwl hsb (by omega)).mono ?_
      rintro e w3 ⟨v3, rfl, hG3'⟩
      have hG3 := hG2.trans hG3'
      have h2F := hG3'.blk (hS1.below hb2 hS1.lt) hob
      have h2V := hG3'.blk ((hV1.drew).below hb2 hV1.lt) hob'
      refine ⟨_, rfl, h2F.1, ?_⟩
      simp only [Act.put, List.setIfInBounds_toArray, List.set_cons_succ, List.set_cons_zero]
      refine held_one 8 0 _ v3 rfl rfl (by kernel_rfl) rfl h2F.1 rfl ?_
      simp only [Act.put, List.setIfInBounds_toArray, List.set_cons_zero]
      refine wpAnyH_done (by kernel_rfl) ?_ _
      refine NoPanic.normal ?_
      have s3 := hG3.size
      have hB3 := hB0.trans (hG3.below hO hbase)
      have sb3 := hbv.below hB3 hs0
      have cV1 := h2V.1.cell (j := 1) rfl
      have cV2 := h2V.1.cell (j := 2) rfl
      have cF3 := h2F.1.cell (j := 3) rfl
      have hbl3 : (bs ++ leN (y - f.min) (wid (f.max - f.min))).length = bs.length + wid (f.max - f.min) := by simp [leN_len]
      have hbb : base ≤ w3.heap.size := Nat.le_trans hbase s3
      go_wp2_with (at_builtin; refine app_own _ rfl (.tmp 40) (.tmp 42) rfl base _ _ rfl hG3.own _ x.b rfl (by exact sb3) (by rw [hbl3]; have := RM.out.1; omega) hbb ?_; intro v4 w4 ho4 hg4 hv4; have hG4' := Grew.app ho4 hg4 hv4; have hG4 := hG3.trans hG4'; have h4F := hG4'.blk h2F.1 h2F.2; have h4V := hG4'.blk h2V.1 h2V.2; have dV2 := h4V.1.cell (j := 2) rfl; have dF3 := h4F.1.cell (j := 3) rfl)
      clear cV1 cV2 cF3 hG3 hG3' hG2 hG1 ho4 hg4 hv4 h2F h2V sb3 hbl3 hbb hS1 hb2 hF1 hV1 c0 c1 c2 c3 HAm HWd hG4'
      obtain ⟨P0, hP0⟩ : ∃ P0, P0 = bs ++ leN (y - f.min) (wid (f.max - f.min)) ++ x.b := ⟨_, rfl⟩
      have hP0l : P0.length = bs.length + wid (f.max - f.min) + x.b.length := by rw [hP0]; simp [leN_len]; omega
      have HP : Hid (∀ q, bs ++ (leN (y - f.min) (wid (f.max - f.min)) ++ (x.b ++ q)) = P0 ++ q) := fun q => by rw [hP0]; simp
      rw [← hP0] at hG4
      clear hP0
      obtain ⟨LL, hLL⟩ : ∃ LL, x.l.length = LL := ⟨_, rfl⟩
      rw [hLL] at hL RM hll dV2 h4V ⊢
      have HLL : Hid (x.l.length = LL) := hLL
      have RM2 : Hid (0 < LL → ∃ k, mostL r f.of = some k ∧ P0.length + LL * k ≤ 10000000) := fun h => by
        obtain ⟨k, h1, h2⟩ := RM.out.2 h
        exact ⟨k, h1, by omega⟩
      clear hP0l hLL RM
      go_loopw [0, 47] (fun u i wr => ∃ (j : Nat) (q : List UInt8), j ≤ LL ∧ i = .int .i64 (j : Int) ∧ catO ((x.l.map (encL r f.of)).take j) = some q ∧ (∀ k, mostL r f.of = some k → q.length ≤ j * k) ∧ Grew w base b wr u (P0 ++ q) ∧ Blk wr w.heap.size 62 #[.int .i64 f.kind, .int .u64 (f.min : Int), .int .u64 (f.max : Int), .slice ao f.of.length oc] ∧ u.ownBlock ≠ some w.heap.size) (fun _ i _ => LL - (intOf i).toNat)
      case atStart => exact ⟨0, [], Nat.zero_le _, rfl, by simp [catO], fun _ _ => Nat.zero_le _, by simpa using hG4, h4F.1, h4F.2⟩
      case round =>
        clear hG4 h4F h4V dV2 dF3
        obtain ⟨j, q, hj, rfl, hcat, hql, hG, hF, hne⟩ := hrel
        have HC : Hid (catO ((x.l.map (encL r f.of)).take j) = some q) := hcat
        have hBw := hB0.trans (hG.below hO hbase)
        clear hcat
        by_cases hlt : j < LL
        · obtain ⟨bL, offL, rfl, hbLl, hcl, hrec⟩ := hL (by omega)
          obtain ⟨rec, hrec1⟩ : ∃ rec, x.l[j]? = some rec := ⟨x.l[j]'(by have := HLL.out; omega), List.getElem?_eq_getElem (by have := HLL.out; omega)⟩
          obtain ⟨rv, hrc, hrv⟩ := hrec j rec hrec1
          have K := Keeps.of_below hBw hs0
          have hrc' := K.cell hrc
          obtain ⟨k, hk1, hk2⟩ := RM2.out (by omega)
          have hql' := hql k hk1
          have hjk : (j + 1) * k ≤ LL * k := Nat.mul_le_mul_right k hlt
          have cF := hF.cell (j := 3) rfl
          have i3 : (j : Int) < (LL : Int) := by omega
          have HIH : Hid (Calls Try.prog 31 #[u0, .slice ao f.of.length oc, rv] wr fun e w' => encPost wr base u0 (P0 ++ q) (encL r f.of rec) e w') := ih _ _ f.of m rv rec k w0 wr base u0 (P0 ++ q) hk1 ho hrv hs0 hBw (Nat.le_trans hbase hG.size) hG.own (by rw [List.length_append]; rw [Nat.add_mul] at hjk; omega)
          have HS : Hid ((x.l.map (encL r f.of))[j]? = some (encL r f.of rec)) := by show _ = _; rw [List.getElem?_map, hrec1]; rfl
          cases hen : encL r f.of rec with
          | none =>
            rw [hen] at HIH HS
            have hres2 : Hid (encOne (encL r) f x = none) := by show _ = _; rw [hres.out, catO_none _ j HS.out]; rfl
            go_wp2_with (go_at_call 31; refine HIH.out.mono ?_; rintro e w5 ⟨rfl, hb5⟩)
            go_ret2
            show encPost w base b bs (encOne (encL r) f x) _ w5
            rw [hres2.out]
            exact ⟨rfl, hG.then hb5⟩
          | some nb =>
            rw [hen] at HIH HS
            have hnl := encL_len r f.of k rec nb hk1 hen
            go_wp2_with (go_at_call 31; refine HIH.out.mono ?_; rintro e w5 ⟨b5, rfl, hG5⟩)
            go_roundw
            case rel =>
              have hbk := hG5.blk hF hne
              refine ⟨j + 1, q ++ nb, hlt, by go_num, catO_snoc _ j q nb HS.out HC.out, fun k' hk' => ?_, ?_, hbk.1, hbk.2⟩
              · rw [hk1] at hk'
                cases hk'
                rw [List.length_append, Nat.add_mul]; omega
              · rw [← List.append_assoc]; exact hG.trans hG5
            case measure => simp [intOf]; omega
        · have HQ : Hid (catO (x.l.map (encL r f.of)) = some q) := by show _ = _; rw [← HC.out, List.take_of_length_le (by have := HLL.out; simp; omega)]
          have i3 : ¬ (j : Int) < (LL : Int) := by omega
          go_wp2
          go_ret2
          show encPost w base b bs (encOne (encL r) f x) _ wr
          rw [hres.out, HQ.out]
          refine ⟨_, rfl, ?_⟩
          rw [HP.out q]
          exact hG
end Go.Proofs.Ytgfcindkfnjeoaa
