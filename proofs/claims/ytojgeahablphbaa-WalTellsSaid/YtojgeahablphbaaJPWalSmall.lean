/-
  What is proved here: the program's log: its small functions: numbers in four bytes, pieces, heads.
  Conditions: those that each fact names.
-/
import Derived.Test.YtojgeahablphbaaJBytesClone
import Derived.Test.YtojgeahablphbaaJWalCells
import Derived.Test.YtojgeahablphbaaJChgWorld
import Derived.Test.YtojgeahablphbaaJAnyHeld
import Derived.Test.YtojgeahablphbaaJHeldOps
import Derived.Lib.MinMax
namespace Go.Proofs.Ytojgeahablphbaa
open Go.RowKit

set_option maxRecDepth 100000 in
theorem bclone_any (x : Value) (bs : List UInt8) (w : World) (hm : bs.length ≤ 1000000000) (hseg : Seg w x bs) :
    Calls Try.prog 38 #[x] w fun e w' => ∃ v, e = .returned v ∧ Own w' w.heap.size v bs ∧ Below w.heap.size w w' := by
  obtain ⟨ao, c, rfl⟩ := hseg.shapeD
  cases ao with
  | none =>
    obtain ⟨hc, hn⟩ : bs = [] ∧ c = 0 := by
      rcases hseg with ⟨h, ao', c', h2, h3⟩ | ⟨b, off, c', h2, _⟩
      · simp only [Value.slice.injEq] at h2
        exact ⟨h, h2.2.2.trans (h3 h2.1.symm)⟩
      · simp at h2
    subst hc; subst hn
    have hne := run_eql_nil_nilD w 0 0
    go_enter Try.func38, Try.ntmps38
    go_wp2
    go_ret
    exact ⟨_, rfl, ⟨rfl, .inl ⟨rfl, rfl⟩⟩, Below.refl _ _⟩
  | some ad =>
    have hne := run_eql_bytes_nilD w ad bs.length c
    go_enter Try.func38, Try.ntmps38
    go_wp2_with (at_builtin; refine app_own _ rfl (.tmp 5) (.tmp 6) rfl w.heap.size _ [] rfl (by exact own_emptyD _ _ _ rfl (Nat.le_refl _)) _ bs rfl (by exact hseg.alloc _) (by simp; omega) (by simp) ?_; intro v2 w2 ho2 hg2 hv2; rw [List.nil_append] at ho2; have hB2 := below_grown ((Below.refl w.heap.size w).alloc (Nat.le_refl _) _) hg2 (by simp) (fun q hq => by have h2 : w.heap.size = q := Option.some.inj hq; omega))
    go_ret
    exact ⟨_, rfl, ho2, hB2⟩

set_option maxRecDepth 100000 in
theorem bequal_any (x y : Value) (a b : List UInt8) (w : World) (ha : Seg w x a) (hb : Seg w y b) :
    Calls Try.prog 53 #[x, y] w fun e w' => e = .returned (.bool (decide (a = b))) ∧ w' = w := by
  have k1 := seg_stringD ha 9 Try.underlying9
  have k2 := seg_stringD hb 9 Try.underlying9
  have k3 : Hid (((⟨a.toArray⟩ : ByteArray).toList == (⟨b.toArray⟩ : ByteArray).toList) = decide (a = b)) := str_beq a b
  obtain ⟨ax, cx, rfl⟩ := ha.shapeD
  obtain ⟨ay, cy, rfl⟩ := hb.shapeD
  clear ha hb
  generalize decide (a = b) = D at *
  generalize (⟨a.toArray⟩ : ByteArray) = A at *
  generalize (⟨b.toArray⟩ : ByteArray) = B at *
  go_enter Try.func53, Try.ntmps53
  go_wp2
  go_ret
  rw [← k3.out]
  exact ⟨rfl, rfl⟩



set_option maxRecDepth 100000 in
theorem stateSz_any (x : Value) (bs : List UInt8) (w : World) (hS : Seg w x bs) (hm : bs.length ≤ 1000000000) :
    Calls Try.prog 28 #[x] w fun e w' => e = .returned (.int .i64 ((stateB bs).length : Int)) ∧ w' = w := by
  obtain ⟨ax, cx, rfl⟩ := hS.shapeD
  have hl := stateB_len bs
  generalize (stateB bs).length = SL at *
  have k3 : Hid ((bs.length : Int) + (max (1 : Int) (((bs.length : Int) + 1024 - 1) / 1024)) * 5 = (SL : Int)) := by show _ = _; omega
  clear hl hS
  go_enter Try.func28, Try.ntmps28
  go_wp2
  go_ret
  rw [← k3.out]
  exact ⟨rfl, rfl⟩

/-- Where a slice lies behind an append: where it lay, or in a fresh block. -/
def Moved (w : World) (v v' : Value) : Prop := v'.ownBlock = v.ownBlock ∨ ∃ q, v'.ownBlock = some q ∧ w.heap.size ≤ q
theorem Moved.of {w : World} {v v' : Value} (h : v'.ownBlock = v.ownBlock ∨ v'.ownBlock = some w.heap.size) : Moved w v v' := h.imp_right fun h => ⟨_, h, Nat.le_refl _⟩
theorem Moved.trans {w w1 : World} {v v1 v2 : Value} (h1 : Moved w v v1) (h2 : Moved w1 v1 v2) (hs : w.heap.size ≤ w1.heap.size) : Moved w v v2 := by
  rcases h2 with h2 | ⟨q, h2, h3⟩
  · rcases h1 with h1 | ⟨q, h1, h4⟩
    · exact .inl (h2.trans h1)
    · exact .inr ⟨q, h2.trans h1, h4⟩
  · exact .inr ⟨q, h2, by omega⟩
/-- Of the blocks that were there one has changed at most. -/
theorem grown_alloc {w w' : World} {o : Obj} {row : Option Nat} (h : (w.alloc o).grownBy w' row) : w.grownBy w' row :=
  ⟨h.os, h.tape, h.output, Nat.le_trans (by simp) h.size, fun k hk hr => (h.block k (by simp; omega) hr).trans (Below.heap_alloc w o k hk)⟩
theorem grown_trans {w w1 w2 : World} {v v1 : Value} (h1 : w.grownBy w1 v.ownBlock) (h2 : w1.grownBy w2 v1.ownBlock) (hm : Moved w v v1) : w.grownBy w2 v.ownBlock :=
  ⟨h2.os.trans h1.os, h2.tape.trans h1.tape, h2.output.trans h1.output, Nat.le_trans h1.size h2.size, fun k hk hr => by
    rw [h2.block k (Nat.lt_of_lt_of_le hk h1.size) (fun e => by
      rcases hm with hm | ⟨q, hm, hq⟩
      · rw [hm] at e; exact hr e
      · rw [hm] at e; have := Option.some.inj e; omega)]
    exact h1.block k hk hr⟩
set_option maxRecDepth 100000 in
theorem appN_any (base : Nat) (v : Value) (bs : List UInt8) (n : Nat) (w : World) (hn : n < 4294967296) (ho : Own w base v bs) (hb : base ≤ w.heap.size) (hm : bs.length ≤ 100000000) :
    Calls Try.prog 55 #[v, .int .i64 (n : Int)] w fun e w' => ∃ v', e = .returned v' ∧ Own w' base v' (bs ++ num4 n) ∧ w.grownBy w' v.ownBlock ∧ Moved w v v' := by
  obtain ⟨ax, cx, rfl⟩ := ho.seg.shapeD
  have h4 := own_new7 w (num4 n) (by unfold maxLen; show 4 ≤ _; decide)
  have ho2 := ho.alloc (.cells ((num4 n).map v8).toArray 5)
  rw [num4_cells n hn] at h4 ho2
  have h4l : (num4 n).length = 4 := rfl
  rw [h4l] at h4
  go_enter Try.func55, Try.ntmps55
  go_wp2_with (at_builtin; refine app_own _ rfl (.tmp 5) (.tmp 17) rfl base _ bs rfl (by exact ho2) _ (num4 n) rfl (by exact h4.seg) (by rw [h4l]; omega) (by simp; omega) ?_; intro v2 w2 ho3 hg3 hv3)
  go_ret
  refine ⟨_, rfl, ho3, grown_alloc hg3, ?_⟩
  rcases hv3 with h | h
  · exact .inl h
  · exact .inr ⟨_, h, by simp⟩

set_option maxRecDepth 100000 in
set_option maxHeartbeats 1000000 in
theorem appP_any (base : Nat) (v : Value) (bs : List UInt8) (k : Nat) (x : Value) (b : List UInt8) (w : World) (hk : k < 256) (ho : Own w base v bs) (hb : base ≤ w.heap.size) (hm : bs.length ≤ 10000000) (hS : Seg w x b) (hl : b.length ≤ 10000000) (hx : 0 < b.length → ∀ q, x.ownBlock = some q → v.ownBlock ≠ some q) :
    Calls Try.prog 49 #[v, .int .u8 (k : Int), x] w fun e w' => ∃ v', e = .returned v' ∧ Own w' base v' (bs ++ pieceB k b) ∧ w.grownBy w' v.ownBlock ∧ Moved w v v' := by
  obtain ⟨ab, cb, rfl⟩ := Seg.shapeD hS
  obtain ⟨av, cv, rfl⟩ := ho.seg.shapeD
  have h1 := own_new7 w [UInt8.ofNat k] (by unfold maxLen; show 1 ≤ _; decide)
  have ho1 := ho.alloc (.cells (([UInt8.ofNat k] : List UInt8).map v8).toArray 5)
  have ek : (([UInt8.ofNat k] : List UInt8).map v8).toArray = #[.int .u8 (k : Int)] := by show #[v8 (UInt8.ofNat k)] = _; rw [v8_ofNat k hk]
  rw [ek] at h1 ho1
  have h1l : ([UInt8.ofNat k] : List UInt8).length = 1 := rfl
  rw [h1l] at h1
  have hseg : ∀ (w' : World) (v' : Value), w.grownBy w' (Value.slice av bs.length cv).ownBlock → Seg w' (.slice ab b.length cb) b := fun w' _ hg =>
    hS.chg (Chg.of_grown (S := fun q => (Value.slice av bs.length cv).ownBlock = some q) hg (fun q hq => hq)) (fun h0 q hq => hx h0 q hq)
  go_enter Try.func49, Try.ntmps49
  go_wp2_with (at_builtin; refine app_own _ rfl (.tmp 7) (.tmp 9) rfl base _ bs rfl (by exact ho1) _ [UInt8.ofNat k] rfl (by exact h1.seg) (by rw [h1l]; omega) (by simp; omega) ?_; intro v2 w2 ho2 hg2 hv2)
  have hg2' := grown_alloc hg2
  have hm2 : Moved w (.slice av bs.length cv) v2 := by
    rcases hv2 with h | h
    · exact .inl h
    · exact .inr ⟨_, h, by simp⟩
  clear hg2 hv2 h1 ho1
  refine (appN_any base v2 (bs ++ [UInt8.ofNat k]) b.length w2 (by omega) ho2 (Nat.le_trans hb hg2'.size) (by rw [List.length_append, h1l]; omega)).mono ?_
  rintro e w3 ⟨v3, rfl, ho3, hg3, hm3⟩
  have hg3' := grown_trans hg2' hg3 hm2
  have hm3' := hm2.trans hm3 hg2'.size
  have hs3 := hseg w3 v3 hg3'
  go_wp2_with (at_builtin; refine app_own w3 rfl (.tmp 13) (.tmp 14) rfl base v3 (bs ++ [UInt8.ofNat k] ++ num4 b.length) rfl ho3 _ b rfl hs3 (by rw [List.length_append, List.length_append, h1l, num4_len]; omega) (Nat.le_trans hb hg3'.size) ?_; intro v4 w4 ho4 hg4 hv4)
  go_ret
  refine ⟨_, rfl, ?_, grown_trans hg3' hg4 hm3', hm3'.trans (Moved.of hv4) hg3'.size⟩
  have e : bs ++ pieceB k b = bs ++ [UInt8.ofNat k] ++ num4 b.length ++ b := by unfold pieceB; simp
  rw [e]
  exact ho4

/-! ### a number that stands in bytes -/
theorem or_i64 (a b : Nat) (ha : a < 9223372036854775808) (hb : b < 9223372036854775808) : bits .or .i64 (a : Int) (b : Int) = ((a ||| b : Nat) : Int) := by
  show IntKind.i64.wrap ((BitVec.ofInt 64 (a : Int) ||| BitVec.ofInt 64 (b : Int)).toNat : Int) = _
  rw [BitVec.ofInt_natCast, BitVec.ofInt_natCast, BitVec.toNat_or, BitVec.toNat_ofNat, BitVec.toNat_ofNat, Nat.mod_eq_of_lt (by omega), Nat.mod_eq_of_lt (by omega), IntKind.wrap_i64]
  have := Nat.or_lt_two_pow (n := 63) ha hb
  omega
theorem wrap_small (x : Int) (h0 : -9223372036854775808 ≤ x) (h1 : x < 9223372036854775808) : IntKind.i64.wrap x = x := by rw [IntKind.wrap_i64]; omega
theorem or_high (a b k : Nat) (ha : a < 2 ^ k) : a ||| (b * 2 ^ k) = a + b * 2 ^ k := by
  rw [Nat.or_comm, ← Nat.shiftLeft_eq, ← Nat.shiftLeft_add_eq_or_of_lt ha, Nat.add_comm]
theorem or_four (c0 c1 c2 c3 : Nat) (h0 : c0 < 256) (h1 : c1 < 256) (h2 : c2 < 256) (h3 : c3 < 256) :
    bits .or .i64 (bits .or .i64 (bits .or .i64 (c0 : Int) ((c1 * 256 : Nat) : Int)) ((c2 * 65536 : Nat) : Int)) ((c3 * 16777216 : Nat) : Int) = ((c0 + c1 * 256 + c2 * 65536 + c3 * 16777216 : Nat) : Int) := by
  rw [or_i64 _ _ (by omega) (by omega), show c0 ||| c1 * 256 = c0 + c1 * 256 from or_high c0 c1 8 h0, or_i64 _ _ (by omega) (by omega), show (c0 + c1 * 256) ||| c2 * 65536 = _ from or_high (c0 + c1 * 256) c2 16 (by omega), or_i64 _ _ (by omega) (by omega), show (c0 + c1 * 256 + c2 * 65536) ||| c3 * 16777216 = _ from or_high (c0 + c1 * 256 + c2 * 65536) c3 24 (by omega)]
set_option maxRecDepth 100000 in
set_option maxHeartbeats 1000000 in
theorem numAt_any (x : Value) (bs : List UInt8) (at_ : Nat) (w : World) (hS : Seg w x bs) (h4 : at_ + 4 ≤ bs.length) (hm : bs.length ≤ 1000000000) :
    Calls Try.prog 52 #[x, .int .i64 (at_ : Int)] w fun e w' => e = .returned (.int .i64 (of4 (bs.drop at_) : Int)) ∧ w' = w.drew := by
  obtain ⟨ab, cb, rfl⟩ := Seg.shapeD hS
  obtain ⟨b, off, rfl, hbc, hrow, hbl⟩ := hS.formD (by omega)
  have d : ∀ j, j < 4 → ∃ c : Nat, w.cell? ⟨b, off + (at_ + j), none⟩ = some (.int .u8 (c : Int)) ∧ c < 256 ∧ ((bs.drop at_).getD j 0).toNat = c := fun j hj => by
    have hl := ((bs.drop at_).getD j 0).toNat_lt
    refine ⟨((bs.drop at_).getD j 0).toNat, ?_, hl, rfl⟩
    rw [hrow (at_ + j) (by omega)]
    simp [n8, show at_ + j < bs.length by omega]
  obtain ⟨c0, d0, b0, e0⟩ := d 0 (by decide)
  obtain ⟨c1, d1, b1, e1⟩ := d 1 (by decide)
  obtain ⟨c2, d2, b2, e2⟩ := d 2 (by decide)
  obtain ⟨c3, d3, b3, e3⟩ := d 3 (by decide)
  rw [Nat.add_zero] at d0
  have i0 := index7 b off bs.length cb (at_ : Int) at_ rfl (by omega)
  have i1 := index7 b off bs.length cb ((at_ : Int) + 1) (at_ + 1) (by omega) (by omega)
  have i2 := index7 b off bs.length cb ((at_ : Int) + 2) (at_ + 2) (by omega) (by omega)
  have i3 := index7 b off bs.length cb ((at_ : Int) + 3) (at_ + 3) (by omega) (by omega)
  have HO : Hid ((of4 (bs.drop at_) : Int) = ((c0 + c1 * 256 + c2 * 65536 + c3 * 16777216 : Nat) : Int)) := by
    show _ = _
    unfold of4
    rw [e0, e1, e2, e3]
  have HF := or_four c0 c1 c2 c3 b0 b1 b2 b3
  have a1 : IntKind.i64.wrap ((at_ : Int) + 1) = (at_ : Int) + 1 := by rw [IntKind.wrap_i64]; omega
  have a2 : IntKind.i64.wrap ((at_ : Int) + 2) = (at_ : Int) + 2 := by rw [IntKind.wrap_i64]; omega
  have a3 : IntKind.i64.wrap ((at_ : Int) + 3) = (at_ : Int) + 3 := by rw [IntKind.wrap_i64]; omega
  have w0 : IntKind.i64.wrap (c0 : Int) = (c0 : Int) := wrap_small _ (by omega) (by omega)
  have w1 : IntKind.i64.wrap (IntKind.i64.wrap (c1 : Int) * 256) = ((c1 * 256 : Nat) : Int) := by rw [wrap_small (c1 : Int) (by omega) (by omega), wrap_small _ (by omega) (by omega)]; rfl
  have w2 : IntKind.i64.wrap (IntKind.i64.wrap (c2 : Int) * 65536) = ((c2 * 65536 : Nat) : Int) := by rw [wrap_small (c2 : Int) (by omega) (by omega), wrap_small _ (by omega) (by omega)]; rfl
  have w3 : IntKind.i64.wrap (IntKind.i64.wrap (c3 : Int) * 16777216) = ((c3 * 16777216 : Nat) : Int) := by rw [wrap_small (c3 : Int) (by omega) (by omega), wrap_small _ (by omega) (by omega)]; rfl
  have HW : Hid (bits .or .i64 (bits .or .i64 (bits .or .i64 (c0 : Int) ((c1 * 256 : Nat) : Int)) ((c2 * 65536 : Nat) : Int)) ((c3 * 16777216 : Nat) : Int) = bits .or .i64 (bits .or .i64 (bits .or .i64 (IntKind.i64.wrap (c0 : Int)) (IntKind.i64.wrap (IntKind.i64.wrap (c1 : Int) * 256))) (IntKind.i64.wrap (IntKind.i64.wrap (c2 : Int) * 65536))) (IntKind.i64.wrap (IntKind.i64.wrap (c3 : Int) * 16777216))) := by show _ = _; rw [w0, w1, w2, w3]
  clear d e0 e1 e2 e3 hrow w0 w1 w2 w3
  go_enter Try.func52, Try.ntmps52
  go_wp2_with fail
  go_still (by kernel_rfl)
  go_wp2
  go_ret
  rw [HO.out, ← HF, HW.out]
  exact ⟨rfl, rfl⟩

/-! ### heads -/
def headV (n g m : Nat) : Value := .agg #[.int .i64 (n : Int), .int .i64 (g : Int), .int .i64 (m : Int)]
theorem results_one {P : Program} {fn : Func} {p : Tmp} {ty : TypeId} (h : fn.results = #[.cell p ty]) (tmps : Array Value) (w : World) (g : Nat) (t : TypeId) (cs : Array Value) (fr : Nat × Nat) (d : TypeDesc)
    (hp : tmps.getD p undef = .pointer (some ⟨g, 0, none⟩)) (hg : w.heap[g]? = some (.cells cs t fr))
    (hu : P.underlying ty = some d) (hd : (match d with | .struct _ | .array _ _ => true | _ => false) = true) (hi : (P.info? ty).map (·.size) = some cs.size) :
    (results fn tmps).run P w = .ok (.agg cs) w := by
  have hp' : tmps[p]?.getD undef = .pointer (some ⟨g, 0, none⟩) := by simpa using hp
  simp [results, h, hp', asAddr, run_loadVar_row w g t ty cs fr d hg hu hd hi]
theorem results_pair {P : Program} {fn : Func} {p u : Tmp} {ty : TypeId} (h : fn.results = #[.cell p ty, .tmp u]) (tmps : Array Value) (w : World) (g : Nat) (t : TypeId) (cs : Array Value) (fr : Nat × Nat) (d : TypeDesc) (v : Value)
    (hp : tmps.getD p undef = .pointer (some ⟨g, 0, none⟩)) (hv : tmps.getD u undef = v) (hg : w.heap[g]? = some (.cells cs t fr))
    (hu : P.underlying ty = some d) (hd : (match d with | .struct _ | .array _ _ => true | _ => false) = true) (hi : (P.info? ty).map (·.size) = some cs.size) :
    (results fn tmps).run P w = .ok (.tuple #[.agg cs, v]) w := by
  have hp' : tmps[p]?.getD undef = .pointer (some ⟨g, 0, none⟩) := by simpa using hp
  have hv' : tmps[u]?.getD undef = v := by simpa using hv
  simp [results, h, hp', hv', asAddr, run_loadVar_row w g t ty cs fr d hg hu hd hi]
theorem Try.info62s : (Try.prog.info? 62).map (·.size) = some 3 := by kernel_rfl
set_option maxRecDepth 100000 in
theorem follow_any (n g m g2 m2 : Nat) (w : World) (hn : n ≤ 4294967296) :
    Calls Try.prog 27 #[headV n g m, .int .i64 (g2 : Int), .int .i64 (m2 : Int)] w fun e w' => e = .returned (headV (n + 1) g2 m2) ∧ Below w.heap.size w w' := by
  unfold headV
  go_enter Try.func27, Try.ntmps27
  go_wp2
  (try simp only [Exit.inBlock, Exit.then])
  refine bodyPost_ret (results_one rfl _ _ (w.heap.size + 1) 62 #[.int .i64 ((n : Int) + 1), .int .i64 (g2 : Int), .int .i64 (m2 : Int)] (0, 0) _ rfl ?_ Try.underlying62 rfl Try.info62s) rfl ?_
  · exact Blk.newAt _ _ _ _ (by simp)
  · exact ⟨rfl, ((Below.refl _ w).alloc (Nat.le_refl _) _).alloc (by simp) _⟩
/-- May a head's number and generation be? -/
def inB (n g : Nat) : Bool := decide (1 ≤ n) && decide (n ≤ 1073741824) && decide (1 ≤ g) && decide (g ≤ 1048576)
set_option maxRecDepth 100000 in
theorem inB_any (n g m : Nat) (w : World) :
    Calls Try.prog 29 #[headV n g m] w fun e w' => e = .returned (.bool (inB n g)) ∧ Below w.heap.size w w' := by
  unfold headV
  obtain ⟨B, hB⟩ : ∃ B, B = inB n g := ⟨_, rfl⟩
  rw [← hB]
  unfold inB at hB
  have hb := (Below.refl w.heap.size w).alloc (Nat.le_refl _) (.cells #[.int .i64 (n : Int), .int .i64 (g : Int), .int .i64 (m : Int)] 62)
  by_cases h1 : 1 ≤ n
  case neg =>
    have HB : Hid (B = false) := by show _ = _; rw [hB]; simp [h1]
    have j1 : ¬ (1 : Int) ≤ (n : Int) := by omega
    clear hB
    go_enter Try.func29, Try.ntmps29
    go_wp2
    go_ret
    rw [HB.out]
    exact ⟨rfl, hb⟩
  have j1 : (1 : Int) ≤ (n : Int) := by omega
  by_cases h2 : n ≤ 1073741824
  case neg =>
    have HB : Hid (B = false) := by show _ = _; rw [hB]; simp [h2]
    have k2 : decide ((n : Int) ≤ 1073741824) = false := decide_eq_false (by omega)
    clear hB h1 h2
    generalize (n : Int) = NN at *
    go_enter Try.func29, Try.ntmps29
    go_wp2
    go_ret
    rw [HB.out]
    exact ⟨rfl, hb⟩
  have k2 : decide ((n : Int) ≤ 1073741824) = true := decide_eq_true (by omega)
  by_cases h3 : 1 ≤ g
  case neg =>
    have HB : Hid (B = false) := by show _ = _; rw [hB]; simp [h3]
    have j3 : ¬ (1 : Int) ≤ (g : Int) := by omega
    clear hB h1 h2 h3
    generalize (n : Int) = NN at *
    go_enter Try.func29, Try.ntmps29
    go_wp2
    go_ret
    rw [HB.out]
    exact ⟨rfl, hb⟩
  have j3 : (1 : Int) ≤ (g : Int) := by omega
  have HB : Hid (B = decide (g ≤ 1048576)) := by show _ = _; rw [hB]; simp [h1, h2, h3]
  have k4 : Hid (decide (g ≤ 1048576) = decide ((g : Int) ≤ 1048576)) := by
    show _ = _
    by_cases h4 : g ≤ 1048576
    · rw [decide_eq_true h4, decide_eq_true (by omega)]
    · rw [decide_eq_false h4, decide_eq_false (by omega)]
  clear hB h1 h2 h3
  generalize (n : Int) = NN at *
  go_enter Try.func29, Try.ntmps29
  go_wp2
  go_ret
  rw [HB.out, k4.out]
  exact ⟨rfl, hb⟩
set_option maxRecDepth 100000 in
theorem hsec_any (n g m : Nat) (w : World) :
    Calls Try.prog 45 #[headV n g m] w fun e w' => e = .returned (.int .i64 ((n % 2 : Nat) : Int)) ∧ Below w.heap.size w w' := by
  unfold headV
  have HE : Hid (((n % 2 : Nat) : Int) = (n : Int) % 2) := by show _ = _; omega
  go_enter Try.func45, Try.ntmps45
  go_wp2
  go_ret
  rw [HE.out]
  exact ⟨rfl, (Below.refl _ w).alloc (Nat.le_refl _) _⟩
end Go.Proofs.Ytojgeahablphbaa
