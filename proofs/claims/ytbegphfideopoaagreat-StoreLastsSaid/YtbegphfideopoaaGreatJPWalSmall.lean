/-
  What is proved here: the program's log: its small functions: numbers in four bytes, pieces, heads. bytes.Repeat of one byte. bytes.Repeat of twelve bytes, twice. plain facts on a log on a disk that does not fail: what a change leaves there, and what is found.
  Conditions: those that each fact names. so many that they have room. none.
-/
import Derived.Test.YtbegphfideopoaaGreatJPDisk
import Derived.Test.YtbegphfideopoaaGreatJWalPure
import Derived.Test.YtbegphfideopoaaGreatJShaPure
import Derived.Lib.MinMax
import Derived.Test.YtbegphfideopoaaGreatJDiskPure
import Derived.Lib.MakeNoZero
import Derived.Deep.Cut
import Derived.Deep.DeepCutAuto
import Derived.Laws.Bits64b
namespace Go.Proofs.YtbegphfideopoaaGreat
open Go.RowKit

set_option maxRecDepth 100000 in
theorem bclone_any (x : Value) (bs : List UInt8) (w : World) (hm : bs.length ≤ 1000000000) (hseg : Seg w x bs) :
    Calls Tryz.prog 42 #[x] w fun e w' => ∃ v, e = .returned v ∧ Own w' w.heap.size v bs ∧ Below w.heap.size w w' := by
  obtain ⟨ao, c, rfl⟩ := hseg.shapeD
  cases ao with
  | none =>
    obtain ⟨hc, hn⟩ : bs = [] ∧ c = 0 := by
      rcases hseg with ⟨h, ao', c', h2, h3⟩ | ⟨b, off, c', h2, _⟩
      · simp only [Value.slice.injEq] at h2
        exact ⟨h, h2.2.2.trans (h3 h2.1.symm)⟩
      · simp at h2
    subst hc; subst hn
    have hne := run_eql_nil_nilD w 0 0
    go_enter Tryz.func42, Tryz.ntmps42
    go_wp2
    go_ret
    exact ⟨_, rfl, ⟨rfl, .inl ⟨rfl, rfl⟩⟩, Below.refl _ _⟩
  | some ad =>
    have hne := run_eql_bytes_nilD w ad bs.length c
    go_enter Tryz.func42, Tryz.ntmps42
    go_wp2_with (at_builtin; refine app_own _ rfl (.tmp 5) (.tmp 6) rfl w.heap.size _ [] rfl (by exact own_emptyD _ _ _ rfl (Nat.le_refl _)) _ bs rfl (by exact hseg.alloc _) (by simp; omega) (by simp) ?_; intro v2 w2 ho2 hg2 hv2; rw [List.nil_append] at ho2; have hB2 := below_grown ((Below.refl w.heap.size w).alloc (Nat.le_refl _) _) hg2 (by simp) (fun q hq => by have h2 : w.heap.size = q := Option.some.inj hq; omega))
    go_ret
    exact ⟨_, rfl, ho2, hB2⟩

set_option maxRecDepth 100000 in
theorem bequal_any (x y : Value) (a b : List UInt8) (w : World) (ha : Seg w x a) (hb : Seg w y b) :
    Calls Tryz.prog 106 #[x, y] w fun e w' => e = .returned (.bool (decide (a = b))) ∧ w' = w := by
  have k1 := seg_stringD ha 9 Tryz.underlying9
  have k2 := seg_stringD hb 9 Tryz.underlying9
  have k3 : Hid (((⟨a.toArray⟩ : ByteArray).toList == (⟨b.toArray⟩ : ByteArray).toList) = decide (a = b)) := str_beq a b
  obtain ⟨ax, cx, rfl⟩ := ha.shapeD
  obtain ⟨ay, cy, rfl⟩ := hb.shapeD
  clear ha hb
  generalize decide (a = b) = D at *
  generalize (⟨a.toArray⟩ : ByteArray) = A at *
  generalize (⟨b.toArray⟩ : ByteArray) = B at *
  go_enter Tryz.func106, Tryz.ntmps106
  go_wp2
  go_ret
  rw [← k3.out]
  exact ⟨rfl, rfl⟩

set_option maxRecDepth 100000 in
theorem pieceSz_any (x : Value) (bs : List UInt8) (w : World) (hS : Seg w x bs) (hm : bs.length ≤ 1000000000) :
    Calls Tryz.prog 96 #[x] w fun e w' => e = .returned (.int .i64 ((bs.length : Int) + 5)) ∧ w' = w := by
  obtain ⟨ax, cx, rfl⟩ := hS.shapeD
  have HE : Hid ((bs.length : Int) + 5 = 5 + (bs.length : Int)) := Int.add_comm _ _
  go_enter Tryz.func96, Tryz.ntmps96
  go_wp2
  go_ret
  rw [HE.out]
  exact ⟨rfl, rfl⟩

set_option maxRecDepth 100000 in
theorem stateSz_any (x : Value) (bs : List UInt8) (w : World) (hS : Seg w x bs) (hm : bs.length ≤ 1000000000) :
    Calls Tryz.prog 53 #[x] w fun e w' => e = .returned (.int .i64 ((stateB bs).length : Int)) ∧ w' = w := by
  obtain ⟨ax, cx, rfl⟩ := hS.shapeD
  have hl := stateB_len bs
  generalize (stateB bs).length = SL at *
  have k3 : Hid ((bs.length : Int) + (max (1 : Int) (((bs.length : Int) + 1024 - 1) / 1024)) * 5 = (SL : Int)) := by show _ = _; omega
  clear hl hS
  go_enter Tryz.func53, Tryz.ntmps53
  go_wp2
  go_ret
  rw [← k3.out]
  exact ⟨rfl, rfl⟩

/-- Where a slice lies behind an append: where it lay, or in a fresh block. -/
def Moved (w : World) (v v' : Value) : Prop := v'.ownBlock = v.ownBlock ∨ ∃ q, v'.ownBlock = some q ∧ w.heap.size ≤ q
theorem Moved.of {w : World} {v v' : Value} (h : v'.ownBlock = v.ownBlock ∨ v'.ownBlock = some w.heap.size) : Moved w v v' := h.imp_right fun h => ⟨_, h, Nat.le_refl _⟩
theorem Moved.trans {w w1 : World} {v v1 v2 : Value} (h1 : Moved w v v1) (h2 : Moved w1 v1 v2) (hs : w.heap.size ≤ w1.heap.size) : Moved w v v2 := by
  rcases h2 with h2 | ⟨q, h2, h3⟩
  · rcases h1 with h1 | ⟨q, h1, h4⟩
    · exact .inl (h2.trans h1)
    · exact .inr ⟨q, h2.trans h1, h4⟩
  · exact .inr ⟨q, h2, by omega⟩
/-- Of the blocks that were there one has changed at most. -/
theorem grown_alloc {w w' : World} {o : Obj} {row : Option Nat} (h : (w.alloc o).grownBy w' row) : w.grownBy w' row :=
  ⟨h.os, h.tape, h.output, Nat.le_trans (by simp) h.size, fun k hk hr => (h.block k (by simp; omega) hr).trans (Below.heap_alloc w o k hk)⟩
theorem grown_trans {w w1 w2 : World} {v v1 : Value} (h1 : w.grownBy w1 v.ownBlock) (h2 : w1.grownBy w2 v1.ownBlock) (hm : Moved w v v1) : w.grownBy w2 v.ownBlock :=
  ⟨h2.os.trans h1.os, h2.tape.trans h1.tape, h2.output.trans h1.output, Nat.le_trans h1.size h2.size, fun k hk hr => by
    rw [h2.block k (Nat.lt_of_lt_of_le hk h1.size) (fun e => by
      rcases hm with hm | ⟨q, hm, hq⟩
      · rw [hm] at e; exact hr e
      · rw [hm] at e; have := Option.some.inj e; omega)]
    exact h1.block k hk hr⟩
set_option maxRecDepth 100000 in
theorem appN_any (base : Nat) (v : Value) (bs : List UInt8) (n : Nat) (w : World) (hn : n < 4294967296) (ho : Own w base v bs) (hb : base ≤ w.heap.size) (hm : bs.length ≤ 100000000) :
    Calls Tryz.prog 111 #[v, .int .i64 (n : Int)] w fun e w' => ∃ v', e = .returned v' ∧ Own w' base v' (bs ++ num4 n) ∧ w.grownBy w' v.ownBlock ∧ Moved w v v' := by
  obtain ⟨ax, cx, rfl⟩ := ho.seg.shapeD
  have h4 := own_new7 w (num4 n) (by unfold maxLen; show 4 ≤ _; decide)
  have ho2 := ho.alloc (.cells ((num4 n).map v8).toArray 5)
  rw [num4_cells n hn] at h4 ho2
  have h4l : (num4 n).length = 4 := rfl
  rw [h4l] at h4
  go_enter Tryz.func111, Tryz.ntmps111
  go_wp2_with (at_builtin; refine app_own _ rfl (.tmp 5) (.tmp 17) rfl base _ bs rfl (by exact ho2) _ (num4 n) rfl (by exact h4.seg) (by rw [h4l]; omega) (by simp; omega) ?_; intro v2 w2 ho3 hg3 hv3)
  go_ret
  refine ⟨_, rfl, ho3, grown_alloc hg3, ?_⟩
  rcases hv3 with h | h
  · exact .inl h
  · exact .inr ⟨_, h, by simp⟩

set_option maxRecDepth 100000 in
set_option maxHeartbeats 1000000 in
theorem appP_any (base : Nat) (v : Value) (bs : List UInt8) (k : Nat) (x : Value) (b : List UInt8) (w : World) (hk : k < 256) (ho : Own w base v bs) (hb : base ≤ w.heap.size) (hm : bs.length ≤ 10000000) (hS : Seg w x b) (hl : b.length ≤ 10000000) (hx : 0 < b.length → ∀ q, x.ownBlock = some q → v.ownBlock ≠ some q) :
    Calls Tryz.prog 89 #[v, .int .u8 (k : Int), x] w fun e w' => ∃ v', e = .returned v' ∧ Own w' base v' (bs ++ pieceB k b) ∧ w.grownBy w' v.ownBlock ∧ Moved w v v' := by
  obtain ⟨ab, cb, rfl⟩ := Seg.shapeD hS
  obtain ⟨av, cv, rfl⟩ := ho.seg.shapeD
  have h1 := own_new7 w [UInt8.ofNat k] (by unfold maxLen; show 1 ≤ _; decide)
  have ho1 := ho.alloc (.cells (([UInt8.ofNat k] : List UInt8).map v8).toArray 5)
  have ek : (([UInt8.ofNat k] : List UInt8).map v8).toArray = #[.int .u8 (k : Int)] := by show #[v8 (UInt8.ofNat k)] = _; rw [v8_ofNat k hk]
  rw [ek] at h1 ho1
  have h1l : ([UInt8.ofNat k] : List UInt8).length = 1 := rfl
  rw [h1l] at h1
  have hseg : ∀ (w' : World) (v' : Value), w.grownBy w' (Value.slice av bs.length cv).ownBlock → Seg w' (.slice ab b.length cb) b := fun w' _ hg =>
    hS.chg (Chg.of_grown (S := fun q => (Value.slice av bs.length cv).ownBlock = some q) hg (fun q hq => hq)) (fun h0 q hq => hx h0 q hq)
  go_enter Tryz.func89, Tryz.ntmps89
  go_wp2_with (at_builtin; refine app_own _ rfl (.tmp 7) (.tmp 9) rfl base _ bs rfl (by exact ho1) _ [UInt8.ofNat k] rfl (by exact h1.seg) (by rw [h1l]; omega) (by simp; omega) ?_; intro v2 w2 ho2 hg2 hv2)
  have hg2' := grown_alloc hg2
  have hm2 : Moved w (.slice av bs.length cv) v2 := by
    rcases hv2 with h | h
    · exact .inl h
    · exact .inr ⟨_, h, by simp⟩
  clear hg2 hv2 h1 ho1
  refine (appN_any base v2 (bs ++ [UInt8.ofNat k]) b.length w2 (by omega) ho2 (Nat.le_trans hb hg2'.size) (by rw [List.length_append, h1l]; omega)).mono ?_
  rintro e w3 ⟨v3, rfl, ho3, hg3, hm3⟩
  have hg3' := grown_trans hg2' hg3 hm2
  have hm3' := hm2.trans hm3 hg2'.size
  have hs3 := hseg w3 v3 hg3'
  go_wp2_with (at_builtin; refine app_own w3 rfl (.tmp 13) (.tmp 14) rfl base v3 (bs ++ [UInt8.ofNat k] ++ num4 b.length) rfl ho3 _ b rfl hs3 (by rw [List.length_append, List.length_append, h1l, num4_len]; omega) (Nat.le_trans hb hg3'.size) ?_; intro v4 w4 ho4 hg4 hv4)
  go_ret
  refine ⟨_, rfl, ?_, grown_trans hg3' hg4 hm3', hm3'.trans (Moved.of hv4) hg3'.size⟩
  have e : bs ++ pieceB k b = bs ++ [UInt8.ofNat k] ++ num4 b.length ++ b := by unfold pieceB; simp
  rw [e]
  exact ho4

/-! ### a number that stands in bytes -/
theorem or_i64 (a b : Nat) (ha : a < 9223372036854775808) (hb : b < 9223372036854775808) : bits .or .i64 (a : Int) (b : Int) = ((a ||| b : Nat) : Int) := by
  show IntKind.i64.wrap ((BitVec.ofInt 64 (a : Int) ||| BitVec.ofInt 64 (b : Int)).toNat : Int) = _
  rw [BitVec.ofInt_natCast, BitVec.ofInt_natCast, BitVec.toNat_or, BitVec.toNat_ofNat, BitVec.toNat_ofNat, Nat.mod_eq_of_lt (by omega), Nat.mod_eq_of_lt (by omega), IntKind.wrap_i64]
  have := Nat.or_lt_two_pow (n := 63) ha hb
  omega
theorem wrap_small (x : Int) (h0 : -9223372036854775808 ≤ x) (h1 : x < 9223372036854775808) : IntKind.i64.wrap x = x := by rw [IntKind.wrap_i64]; omega
theorem or_high (a b k : Nat) (ha : a < 2 ^ k) : a ||| (b * 2 ^ k) = a + b * 2 ^ k := by
  rw [Nat.or_comm, ← Nat.shiftLeft_eq, ← Nat.shiftLeft_add_eq_or_of_lt ha, Nat.add_comm]
theorem or_four (c0 c1 c2 c3 : Nat) (h0 : c0 < 256) (h1 : c1 < 256) (h2 : c2 < 256) (h3 : c3 < 256) :
    bits .or .i64 (bits .or .i64 (bits .or .i64 (c0 : Int) ((c1 * 256 : Nat) : Int)) ((c2 * 65536 : Nat) : Int)) ((c3 * 16777216 : Nat) : Int) = ((c0 + c1 * 256 + c2 * 65536 + c3 * 16777216 : Nat) : Int) := by
  rw [or_i64 _ _ (by omega) (by omega), show c0 ||| c1 * 256 = c0 + c1 * 256 from or_high c0 c1 8 h0, or_i64 _ _ (by omega) (by omega), show (c0 + c1 * 256) ||| c2 * 65536 = _ from or_high (c0 + c1 * 256) c2 16 (by omega), or_i64 _ _ (by omega) (by omega), show (c0 + c1 * 256 + c2 * 65536) ||| c3 * 16777216 = _ from or_high (c0 + c1 * 256 + c2 * 65536) c3 24 (by omega)]
set_option maxRecDepth 100000 in
set_option maxHeartbeats 1000000 in
theorem numAt_any (x : Value) (bs : List UInt8) (at_ : Nat) (w : World) (hS : Seg w x bs) (h4 : at_ + 4 ≤ bs.length) (hm : bs.length ≤ 1000000000) :
    Calls Tryz.prog 105 #[x, .int .i64 (at_ : Int)] w fun e w' => e = .returned (.int .i64 (of4 (bs.drop at_) : Int)) ∧ w' = w.drew := by
  obtain ⟨ab, cb, rfl⟩ := Seg.shapeD hS
  obtain ⟨b, off, rfl, hbc, hrow, hbl⟩ := hS.formD (by omega)
  have d : ∀ j, j < 4 → ∃ c : Nat, w.cell? ⟨b, off + (at_ + j), none⟩ = some (.int .u8 (c : Int)) ∧ c < 256 ∧ ((bs.drop at_).getD j 0).toNat = c := fun j hj => by
    have hl := ((bs.drop at_).getD j 0).toNat_lt
    refine ⟨((bs.drop at_).getD j 0).toNat, ?_, hl, rfl⟩
    rw [hrow (at_ + j) (by omega)]
    simp [n8, show at_ + j < bs.length by omega]
  obtain ⟨c0, d0, b0, e0⟩ := d 0 (by decide)
  obtain ⟨c1, d1, b1, e1⟩ := d 1 (by decide)
  obtain ⟨c2, d2, b2, e2⟩ := d 2 (by decide)
  obtain ⟨c3, d3, b3, e3⟩ := d 3 (by decide)
  rw [Nat.add_zero] at d0
  have i0 := index7 b off bs.length cb (at_ : Int) at_ rfl (by omega)
  have i1 := index7 b off bs.length cb ((at_ : Int) + 1) (at_ + 1) (by omega) (by omega)
  have i2 := index7 b off bs.length cb ((at_ : Int) + 2) (at_ + 2) (by omega) (by omega)
  have i3 := index7 b off bs.length cb ((at_ : Int) + 3) (at_ + 3) (by omega) (by omega)
  have HO : Hid ((of4 (bs.drop at_) : Int) = ((c0 + c1 * 256 + c2 * 65536 + c3 * 16777216 : Nat) : Int)) := by
    show _ = _
    unfold of4
    rw [e0, e1, e2, e3]
  have HF := or_four c0 c1 c2 c3 b0 b1 b2 b3
  have a1 : IntKind.i64.wrap ((at_ : Int) + 1) = (at_ : Int) + 1 := by rw [IntKind.wrap_i64]; omega
  have a2 : IntKind.i64.wrap ((at_ : Int) + 2) = (at_ : Int) + 2 := by rw [IntKind.wrap_i64]; omega
  have a3 : IntKind.i64.wrap ((at_ : Int) + 3) = (at_ : Int) + 3 := by rw [IntKind.wrap_i64]; omega
  have w0 : IntKind.i64.wrap (c0 : Int) = (c0 : Int) := wrap_small _ (by omega) (by omega)
  have w1 : IntKind.i64.wrap (IntKind.i64.wrap (c1 : Int) * 256) = ((c1 * 256 : Nat) : Int) := by rw [wrap_small (c1 : Int) (by omega) (by omega), wrap_small _ (by omega) (by omega)]; rfl
  have w2 : IntKind.i64.wrap (IntKind.i64.wrap (c2 : Int) * 65536) = ((c2 * 65536 : Nat) : Int) := by rw [wrap_small (c2 : Int) (by omega) (by omega), wrap_small _ (by omega) (by omega)]; rfl
  have w3 : IntKind.i64.wrap (IntKind.i64.wrap (c3 : Int) * 16777216) = ((c3 * 16777216 : Nat) : Int) := by rw [wrap_small (c3 : Int) (by omega) (by omega), wrap_small _ (by omega) (by omega)]; rfl
  have HW : Hid (bits .or .i64 (bits .or .i64 (bits .or .i64 (c0 : Int) ((c1 * 256 : Nat) : Int)) ((c2 * 65536 : Nat) : Int)) ((c3 * 16777216 : Nat) : Int) = bits .or .i64 (bits .or .i64 (bits .or .i64 (IntKind.i64.wrap (c0 : Int)) (IntKind.i64.wrap (IntKind.i64.wrap (c1 : Int) * 256))) (IntKind.i64.wrap (IntKind.i64.wrap (c2 : Int) * 65536))) (IntKind.i64.wrap (IntKind.i64.wrap (c3 : Int) * 16777216))) := by show _ = _; rw [w0, w1, w2, w3]
  clear d e0 e1 e2 e3 hrow w0 w1 w2 w3
  go_enter Tryz.func105, Tryz.ntmps105
  go_wp2_with fail
  go_still (by kernel_rfl)
  go_wp2
  go_ret
  rw [HO.out, ← HF, HW.out]
  exact ⟨rfl, rfl⟩

/-! ### heads -/
def headV (n g m : Nat) : Value := .agg #[.int .i64 (n : Int), .int .i64 (g : Int), .int .i64 (m : Int)]
theorem results_one {P : Program} {fn : Func} {p : Tmp} {ty : TypeId} (h : fn.results = #[.cell p ty]) (tmps : Array Value) (w : World) (g : Nat) (t : TypeId) (cs : Array Value) (fr : Nat × Nat) (d : TypeDesc)
    (hp : tmps.getD p undef = .pointer (some ⟨g, 0, none⟩)) (hg : w.heap[g]? = some (.cells cs t fr))
    (hu : P.underlying ty = some d) (hd : (match d with | .struct _ | .array _ _ => true | _ => false) = true) (hi : (P.info? ty).map (·.size) = some cs.size) :
    (results fn tmps).run P w = .ok (.agg cs) w := by
  have hp' : tmps[p]?.getD undef = .pointer (some ⟨g, 0, none⟩) := by simpa using hp
  simp [results, h, hp', asAddr, run_loadVar_row w g t ty cs fr d hg hu hd hi]
theorem results_pair {P : Program} {fn : Func} {p u : Tmp} {ty : TypeId} (h : fn.results = #[.cell p ty, .tmp u]) (tmps : Array Value) (w : World) (g : Nat) (t : TypeId) (cs : Array Value) (fr : Nat × Nat) (d : TypeDesc) (v : Value)
    (hp : tmps.getD p undef = .pointer (some ⟨g, 0, none⟩)) (hv : tmps.getD u undef = v) (hg : w.heap[g]? = some (.cells cs t fr))
    (hu : P.underlying ty = some d) (hd : (match d with | .struct _ | .array _ _ => true | _ => false) = true) (hi : (P.info? ty).map (·.size) = some cs.size) :
    (results fn tmps).run P w = .ok (.tuple #[.agg cs, v]) w := by
  have hp' : tmps[p]?.getD undef = .pointer (some ⟨g, 0, none⟩) := by simpa using hp
  have hv' : tmps[u]?.getD undef = v := by simpa using hv
  simp [results, h, hp', hv', asAddr, run_loadVar_row w g t ty cs fr d hg hu hd hi]
theorem Tryz.info93s : (Tryz.prog.info? 93).map (·.size) = some 3 := by kernel_rfl
set_option maxRecDepth 100000 in
theorem follow_any (n g m g2 m2 : Nat) (w : World) (hn : n ≤ 4294967296) :
    Calls Tryz.prog 52 #[headV n g m, .int .i64 (g2 : Int), .int .i64 (m2 : Int)] w fun e w' => e = .returned (headV (n + 1) g2 m2) ∧ Below w.heap.size w w' := by
  unfold headV
  go_enter Tryz.func52, Tryz.ntmps52
  go_wp2
  (try simp only [Exit.inBlock, Exit.then])
  refine bodyPost_ret (results_one rfl _ _ (w.heap.size + 1) 93 #[.int .i64 ((n : Int) + 1), .int .i64 (g2 : Int), .int .i64 (m2 : Int)] (0, 0) _ rfl ?_ Tryz.underlying93 rfl Tryz.info93s) rfl ?_
  · exact Blk.newAt _ _ _ _ (by simp)
  · exact ⟨rfl, ((Below.refl _ w).alloc (Nat.le_refl _) _).alloc (by simp) _⟩
/-- May a head's number and generation be? -/
def inB (n g : Nat) : Bool := decide (1 ≤ n) && decide (n ≤ 1073741824) && decide (1 ≤ g) && decide (g ≤ 1048576)
set_option maxRecDepth 100000 in
theorem inB_any (n g m : Nat) (w : World) :
    Calls Tryz.prog 54 #[headV n g m] w fun e w' => e = .returned (.bool (inB n g)) ∧ Below w.heap.size w w' := by
  unfold headV
  obtain ⟨B, hB⟩ : ∃ B, B = inB n g := ⟨_, rfl⟩
  rw [← hB]
  unfold inB at hB
  have hb := (Below.refl w.heap.size w).alloc (Nat.le_refl _) (.cells #[.int .i64 (n : Int), .int .i64 (g : Int), .int .i64 (m : Int)] 93)
  by_cases h1 : 1 ≤ n
  case neg =>
    have HB : Hid (B = false) := by show _ = _; rw [hB]; simp [h1]
    have j1 : ¬ (1 : Int) ≤ (n : Int) := by omega
    clear hB
    go_enter Tryz.func54, Tryz.ntmps54
    go_wp2
    go_ret
    rw [HB.out]
    exact ⟨rfl, hb⟩
  have j1 : (1 : Int) ≤ (n : Int) := by omega
  by_cases h2 : n ≤ 1073741824
  case neg =>
    have HB : Hid (B = false) := by show _ = _; rw [hB]; simp [h2]
    have k2 : decide ((n : Int) ≤ 1073741824) = false := decide_eq_false (by omega)
    clear hB h1 h2
    generalize (n : Int) = NN at *
    go_enter Tryz.func54, Tryz.ntmps54
    go_wp2
    go_ret
    rw [HB.out]
    exact ⟨rfl, hb⟩
  have k2 : decide ((n : Int) ≤ 1073741824) = true := decide_eq_true (by omega)
  by_cases h3 : 1 ≤ g
  case neg =>
    have HB : Hid (B = false) := by show _ = _; rw [hB]; simp [h3]
    have j3 : ¬ (1 : Int) ≤ (g : Int) := by omega
    clear hB h1 h2 h3
    generalize (n : Int) = NN at *
    go_enter Tryz.func54, Tryz.ntmps54
    go_wp2
    go_ret
    rw [HB.out]
    exact ⟨rfl, hb⟩
  have j3 : (1 : Int) ≤ (g : Int) := by omega
  have HB : Hid (B = decide (g ≤ 1048576)) := by show _ = _; rw [hB]; simp [h1, h2, h3]
  have k4 : Hid (decide (g ≤ 1048576) = decide ((g : Int) ≤ 1048576)) := by
    show _ = _
    by_cases h4 : g ≤ 1048576
    · rw [decide_eq_true h4, decide_eq_true (by omega)]
    · rw [decide_eq_false h4, decide_eq_false (by omega)]
  clear hB h1 h2 h3
  generalize (n : Int) = NN at *
  go_enter Tryz.func54, Tryz.ntmps54
  go_wp2
  go_ret
  rw [HB.out, k4.out]
  exact ⟨rfl, hb⟩
set_option maxRecDepth 100000 in
theorem hsec_any (n g m : Nat) (w : World) :
    Calls Tryz.prog 85 #[headV n g m] w fun e w' => e = .returned (.int .i64 ((n % 2 : Nat) : Int)) ∧ Below w.heap.size w w' := by
  unfold headV
  have HE : Hid (((n % 2 : Nat) : Int) = (n : Int) % 2) := by show _ = _; omega
  go_enter Tryz.func85, Tryz.ntmps85
  go_wp2
  go_ret
  rw [HE.out]
  exact ⟨rfl, (Below.refl _ w).alloc (Nat.le_refl _) _⟩
end Go.Proofs.YtbegphfideopoaaGreat
namespace Go.Proofs.YtbegphfideopoaaGreat
open Go.RowKit

set_option maxRecDepth 100000 in
set_option maxHeartbeats 1000000 in
theorem mul64_any (N : Nat) (hN : N < 4294967296) (w : World) :
    Calls Tryz.prog 159 #[.int .u64 1, .int .u64 (N : Int)] w fun e w' => e = .returned (.tuple #[.int .u64 0, .int .u64 (N : Int)]) ∧ w = w' := by
  have m1 : bits .and .u64 1 4294967295 = 1 := by have := bits_and_u64_nat 1 4294967295 (by omega) (by omega); exact this
  have m2 : bits .and .u64 (N : Int) 4294967295 = (N : Int) := by
    have h := bits_and_u64_nat N 4294967295 (by omega) (by omega)
    have e : N &&& 4294967295 = N % 4294967296 := Nat.and_two_pow_sub_one_eq_mod N 32
    rw [e, Nat.mod_eq_of_lt hN] at h
    exact h
  have m3 : (N : Int) / 4294967296 = 0 := by omega
  have m4 : bits .and .u64 0 4294967295 = 0 := by have := bits_and_u64_nat 0 4294967295 (by omega) (by omega); exact this
  have m5 : IntKind.u64.wrap (N : Int) = (N : Int) := by rw [IntKind.wrap_u64]; omega
  go_enter Tryz.func159, Tryz.ntmps159
  go_wp2
  go_ret2
  exact ⟨rfl, rfl⟩

set_option maxRecDepth 100000 in
theorem mul_any6 (N : Nat) (hN : N < 4294967296) (w : World) :
    Calls Tryz.prog 133 #[.int .u64 1, .int .u64 (N : Int)] w fun e w' => e = .returned (.tuple #[.int .u64 0, .int .u64 (N : Int)]) ∧ w = w' := by
  have HM : Hid (Calls Tryz.prog 159 #[.int .u64 1, .int .u64 (N : Int)] w fun e w' => e = .returned (.tuple #[.int .u64 0, .int .u64 (N : Int)]) ∧ w = w') := mul64_any N hN w
  go_enter Tryz.func133, Tryz.ntmps133
  go_wp2_with (go_at_call 159; refine HM.out.mono ?_; rintro e w1 ⟨rfl, rfl⟩)
  go_ret2
  exact ⟨rfl, rfl⟩
theorem exec_copy {a : Act} {o : Oper} {w w' : World} (d s : Operand) (ho : o.op = .call { callee := .builtin .copy, args := #[d, s], argTypes := #[34, 34] }) (vd vs v : Value) (hd : a.eval d = vd) (hs : a.eval s = vs) (hr : ∀ ty, (Builtin.copy_ #[34, 34] ty #[vd, vs]).run Tryz.prog w = .ok v w') : (execOp a.eval o).run Tryz.prog w = .ok (.value v) w' := by
  unfold execOp
  simp [ho, resolve, invoke, builtin, hd, hs, hr, Result.andThen]
theorem exec_addi {a : Act} {o : Oper} {w : World} (t : TypeId) (x y : Operand) (ho : o.op = .binOp .add t x y t) (m n r : Int) (hx : a.eval x = .int .i64 m) (hy : a.eval y = .int .i64 n) (h : IntKind.i64.wrap (m + n) = r) : (execOp a.eval o).run Tryz.prog w = .ok (.value (.int .i64 r)) w := by
  unfold execOp
  simp [ho, hx, hy]
  rw [← h]
  rfl
theorem exec_slice {a : Act} {o : Oper} {w : World} (x : Operand) (l h m : Option Operand) (ho : o.op = .slice 34 x l h m) (u r : Value) (lv hv mv : Option Value) (hx : a.eval x = u) (hl : l.map a.eval = lv) (hh : h.map a.eval = hv) (hm : m.map a.eval = mv) (hr : (Instr.slice 34 u lv hv mv).run Tryz.prog w = .ok r w) : (execOp a.eval o).run Tryz.prog w = .ok (.value r) w := by
  subst hl; subst hh; subst hm
  unfold execOp
  simp [ho, hx, hr, Instr.sliceAt, run_underlying Tryz.underlying34]
/-- A block whose first cells are such a byte. -/
def Ones (w : World) (g q : Nat) (c : UInt8) (size : Nat) : Prop := ∃ arr, Blk w g 5 arr ∧ arr.size = size ∧ ∀ j, j < q → arr[j]? = some (v8 c)
theorem ones_more {w : World} {g q K size : Nat} {c : UInt8} {arr : Array Value} (h : w.heap[g]? = some (.cells (splice arr.toList q (List.replicate K (v8 c))).toArray 5 (0, 0))) (hs : arr.size = size) (ha : ∀ j, j < q → arr[j]? = some (v8 c)) (hK : q + K ≤ size) : Ones w g (q + K) c size := by
  refine ⟨_, h, ?_, fun j hj => ?_⟩
  · unfold splice
    simp
    omega
  · unfold splice
    rw [List.getElem?_toArray]
    by_cases h1 : j < q
    · rw [List.getElem?_append_left (by simp; omega), List.getElem?_take_of_lt h1, Array.getElem?_toList]
      exact ha j h1
    · rw [List.getElem?_append_right (by simp; omega), List.getElem?_append_left (by simp; omega), List.getElem?_replicate, if_pos (by simp; omega)]
theorem slice_roomD (ao : Option Addr) (len c n : Nat) (h : n ≤ c) (w : World) : (Instr.slice 34 (.slice ao len c) none (some (.int .i64 (n : Int))) (some (.int .i64 (n : Int)))).run Tryz.prog w = .ok (.slice ao n n) w := by
  rw [run_slice_hm w 34 ao len c (by rw [elem_bytesD]; exact Tryz.underlying34) .i64 .i64 n n (by omega) (by omega) (by omega), elem_bytesD, size_byteD]
  simp only [Result.andThen_ok, sliced, Int.toNat_natCast, Nat.zero_mul, add_zero_addrD, Nat.sub_zero, ite_self]
set_option maxRecDepth 100000 in
set_option maxHeartbeats 4000000 in
theorem repeat_any (N : Nat) (h1 : 1 ≤ N) (h2 : N ≤ 1000000) (b cb : Nat) (c : UInt8) (w : World) (hb : Blk w b 5 #[v8 c]) :
    Calls Tryz.prog 112 #[.slice (some ⟨b, 0, none⟩) 1 cb, .int .i64 (N : Int)] w fun e w' => ∃ size, e = .returned (.slice (some ⟨w.heap.size, 0, none⟩) N N) ∧ N ≤ size ∧ Ones w' w.heap.size N c size ∧ Below w.heap.size w w' := by
  have HM : Hid (Calls Tryz.prog 133 #[.int .u64 1, .int .u64 (N : Int)] w fun e w' => e = .returned (.tuple #[.int .u64 0, .int .u64 (N : Int)]) ∧ w = w') := mul_any6 N (by omega) w
  have a1 : ((N : Int) == 0) = false := by simp; omega
  have a2 : ¬ (N : Int) < 0 := by omega
  have a3 : ¬ (9223372036854775807 : Int) < (N : Int) := by omega
  obtain ⟨cs, hrunM, hle, -⟩ := Lib.run_makeNoZero (P := Tryz.prog) w #[3] 34 5 Tryz.underlying34 N (by omega)
  have hcall : (callFunc 134 #[.int .i64 (N : Int)]).run Tryz.prog w = .ok (.value (.slice (some ⟨w.heap.size, 0, none⟩) N cs.size)) ((w.alloc (.cells cs 5)).drewN 2) := by
    rw [run_callFunc_extern Tryz.func134 (by kernel_rfl) (by kernel_rfl) (by kernel_rfl) (e := Extern.BytealgMakeNoZero.makeNoZero #[3] #[34]) (by kernel_rfl), hrunM]
    rfl
  clear hrunM
  have hsl := slice_roomD (some ⟨w.heap.size, 0, none⟩) N cs.size N hle
  go_enter Tryz.func112, Tryz.ntmps112
  go_upto_if 42 with (go_at_call 133; refine HM.out.mono ?_; rintro e w1 ⟨rfl, rfl⟩)
  go_cut [8] (fun s8 wx => w = wx ∧ ∃ CM : Nat, 1 ≤ CM ∧ CM ≤ 1000000 ∧ s8 = .int .i64 (CM : Int))
  case first =>
    go_wp2
    · go_meet
      exact ⟨rfl, 8192, by omega, by omega, rfl⟩
    · go_meet
      exact ⟨rfl, N, h1, h2, rfl⟩
  case rest =>
    obtain ⟨rfl, CM, hCM1, hCM2, rfl⟩ := hcut
    have hg0 : Blk ((w.alloc (.cells cs 5)).drewN 2) w.heap.size 5 cs := (Blk.new w 5 cs).drewN 2
    have hB0 : Below w.heap.size w ((w.alloc (.cells cs 5)).drewN 2) := Below.drewN ((Below.refl _ w).alloc (Nat.le_refl _) _) 2
    have hb0 := hb.below hB0 hb.lt
    have H1 : ∀ j v, [v8 c][j]? = some v → ((w.alloc (.cells cs 5)).drewN 2).cell? ((⟨b, 0, none⟩ : Addr).add j) = some v := fun j v hv => by rw [Addr.add_mid, Nat.zero_add]; exact hb0.cell (by simpa using hv)
    have hsz1 : (Tryz.prog.info? 5).map (·.size) = some 1 := by kernel_rfl
    go_wp2_with (refine wpList_copy_splice rfl (.tmp 58) (.tmp 59) 34 34 rfl 5 Tryz.underlying34 hsz1 (some ⟨w.heap.size, 0, none⟩) (some ⟨b, 0, none⟩) N N 1 cb rfl rfl w.heap.size 0 cs.toList 5 hg0 [v8 c] (by show 1 = Nat.min 1 N; exact (Nat.min_eq_left h1).symm) (fun _ => ⟨rfl, _, rfl, H1⟩) (by simp; omega) (one8l [c]) w.heap.size w hB0 (Nat.le_refl _) ?_; intro w2 hb2 hB2)
    have hO2 : Ones w2 w.heap.size (0 + 1) c cs.size := ones_more (K := 1) hb2.out rfl (fun j hj => by omega) (by omega)
    clear hb2 hg0 hB0 hb0
    go_loopw [10] (fun i wr => ∃ q : Nat, i = .int .i64 (q : Int) ∧ 1 ≤ q ∧ q ≤ N ∧ Ones wr w.heap.size q c cs.size ∧ Below w.heap.size w wr) (fun i _ => N - (intOf i).toNat)
    case atStart => exact ⟨1, rfl, by omega, h1, hO2, hB2⟩
    case round =>
      obtain ⟨q, rfl, hq1, hq2, hO, hB⟩ := hrel
      clear hO2 hB2
      by_cases hlt : q < N
      · have i1 : (q : Int) < (N : Int) := by omega
        obtain ⟨CH, hCH⟩ : ∃ CH, CH = min q CM := ⟨_, rfl⟩
        have hmin : min (q : Int) (CM : Int) = (CH : Int) := by omega
        have hc1 : 1 ≤ CH := by omega
        have hc2 : CH ≤ q := by omega
        clear hCH
        have l1 := slice_restD (some ⟨w.heap.size, 0, none⟩) N N q hq2
        rw [show restD (some ⟨w.heap.size, 0, none⟩) N q = some ⟨w.heap.size, q, none⟩ by unfold restD; rw [if_neg (by omega), Option.map_some, Addr.add_mid, Nat.mul_one, Nat.zero_add]] at l1
        have l2 := slice_toD (some ⟨w.heap.size, 0, none⟩) N N CH (by omega)
        obtain ⟨arr, hg, hsz, hall⟩ := hO
        obtain ⟨K, hK⟩ : ∃ K, K = Nat.min CH (N - q) := ⟨_, rfl⟩
        have hK1 : 1 ≤ K := by rw [hK]; exact Nat.le_min.2 ⟨hc1, by omega⟩
        have hK2 : K ≤ CH := by rw [hK]; exact Nat.min_le_left _ _
        have hK3 : q + K ≤ N := by have : K ≤ N - q := by rw [hK]; exact Nat.min_le_right _ _
                                   omega
        obtain ⟨w2, hr2, hb2, hB2⟩ : ∃ w2, (∀ ty, (Builtin.copy_ #[34, 34] ty #[.slice (some ⟨w.heap.size, q, none⟩) (N - q) (N - q), .slice (some ⟨w.heap.size, 0, none⟩) CH N]).run Tryz.prog wr.drew = .ok (.int .i64 (K : Int)) w2) ∧ w2.heap[w.heap.size]? = some (.cells (splice arr.toList q (List.replicate K (v8 c))).toArray 5 (0, 0)) ∧ Below w.heap.size w w2 := by
          have H2 : ∀ j v, (List.replicate K (v8 c))[j]? = some v → wr.drew.cell? ((⟨w.heap.size, 0, none⟩ : Addr).add j) = some v := fun j v hv => by
            rw [Addr.add_mid, Nat.zero_add]
            rw [List.getElem?_replicate] at hv
            split at hv
            · cases hv
              exact hg.drew.cell (hall j (by omega))
            · cases hv
          have hr := fun ty => run_copy_row (P := Tryz.prog) wr.drew 34 34 ty 5 w.heap.size q (N - q) (N - q) ⟨w.heap.size, 0, none⟩ CH N arr 5 (List.replicate K (v8 c)) Tryz.underlying34 hsz1 hg.drew (by rw [List.length_replicate, hK]) H2 (by rw [List.length_replicate, hsz]; omega) (fun v hv => by rw [List.eq_of_mem_replicate hv]; rfl)
          rw [List.length_replicate] at hr
          refine ⟨_, hr, ?_, Below.setRow hB.drew _ _ (Nat.le_refl _)⟩
          exact (hg.drew.setRow _).of_eq (by simp [splice])
        have hwr : IntKind.i64.wrap ((q : Int) + (K : Int)) = ((q + K : Nat) : Int) := by rw [IntKind.wrap_i64]; omega
        go_wp2_with fail
        refine held_begin (fun _ => True) (by kernel_rfl) ?_
        refine held_take 0 67 _ (.int .i64 (q : Int)) rfl rfl (by kernel_rfl) (by kernel_rfl) (by kernel_rfl) rfl trivial (fun _ _ => rfl) ?_
        simp only [Act.put, List.setIfInBounds_toArray, List.set_cons_succ, List.set_cons_zero]
        refine held_take 1 68 _ (.slice (some ⟨w.heap.size, 0, none⟩) N N) rfl rfl (by kernel_rfl) (by kernel_rfl) (by kernel_rfl) rfl trivial (fun _ _ => rfl) ?_
        simp only [Act.put, List.setIfInBounds_toArray, List.set_cons_succ, List.set_cons_zero]
        refine held_take 2 69 _ (.int .i64 (q : Int)) rfl rfl (by kernel_rfl) (by kernel_rfl) (by kernel_rfl) rfl trivial (fun _ _ => rfl) ?_
        simp only [Act.put, List.setIfInBounds_toArray, List.set_cons_succ, List.set_cons_zero]
        refine held_take 3 70 _ (.slice (some ⟨w.heap.size, q, none⟩) (N - q) (N - q)) rfl rfl (by kernel_rfl) (by kernel_rfl) (by kernel_rfl) rfl trivial (fun W _ => exec_slice _ _ _ _ rfl (.slice (some ⟨w.heap.size, 0, none⟩) N N) _ (some (.int .i64 (q : Int))) none none rfl rfl rfl rfl (l1 W)) ?_
        simp only [Act.put, List.setIfInBounds_toArray, List.set_cons_succ, List.set_cons_zero]
        refine held_take 4 71 _ (.slice (some ⟨w.heap.size, 0, none⟩) N N) rfl rfl (by kernel_rfl) (by kernel_rfl) (by kernel_rfl) rfl trivial (fun _ _ => rfl) ?_
        simp only [Act.put, List.setIfInBounds_toArray, List.set_cons_succ, List.set_cons_zero]
        refine held_take 5 72 _ (.int .i64 (CH : Int)) rfl rfl (by kernel_rfl) (by kernel_rfl) (by kernel_rfl) rfl trivial (fun _ _ => rfl) ?_
        simp only [Act.put, List.setIfInBounds_toArray, List.set_cons_succ, List.set_cons_zero]
        refine held_take 6 73 _ (.slice (some ⟨w.heap.size, 0, none⟩) CH N) rfl rfl (by kernel_rfl) (by kernel_rfl) (by kernel_rfl) rfl trivial (fun W _ => exec_slice _ _ _ _ rfl (.slice (some ⟨w.heap.size, 0, none⟩) N N) _ none (some (.int .i64 (CH : Int))) none rfl rfl rfl rfl (l2 W)) ?_
        simp only [Act.put, List.setIfInBounds_toArray, List.set_cons_succ, List.set_cons_zero]
        refine held_all1 7 (by kernel_rfl) (op_value 7 74 _ (.int .i64 (K : Int)) w2 rfl rfl rfl (exec_copy _ _ rfl (.slice (some ⟨w.heap.size, q, none⟩) (N - q) (N - q)) (.slice (some ⟨w.heap.size, 0, none⟩) CH N) _ rfl rfl hr2) ⟨trivial, ?_⟩)
        simp only [Act.put, List.setIfInBounds_toArray, List.set_cons_succ, List.set_cons_zero]
        refine held_all1 8 (by kernel_rfl) (op_value 8 75 _ (.int .i64 ((q + K : Nat) : Int)) w2 rfl rfl rfl (exec_addi _ _ _ rfl _ _ _ rfl rfl hwr) ⟨trivial, ?_⟩)
        simp only [Act.put, List.setIfInBounds_toArray, List.set_cons_succ, List.set_cons_zero]
        refine held_all1 9 (by kernel_rfl) (op_value 9 10 _ (.int .i64 ((q + K : Nat) : Int)) w2 rfl rfl rfl rfl ⟨trivial, ?_⟩)
        simp only [Act.put, List.setIfInBounds_toArray, List.set_cons_succ, List.set_cons_zero]
        refine wpAnyH_done (by kernel_rfl) ?_ _
        refine NoPanic.normal ?_
        go_wp2
        go_roundw
        case rel => exact ⟨q + K, rfl, by omega, hK3, ones_more hb2 hsz hall (by omega), hB2⟩
        case measure => simp [intOf]; omega
      · have i1 : ¬ (q : Int) < (N : Int) := by omega
        obtain rfl : q = N := by omega
        go_wp2
        go_ret
        exact ⟨rfl, cs.size, hle, hO, hB⟩
end Go.Proofs.YtbegphfideopoaaGreat
namespace Go.Proofs.YtbegphfideopoaaGreat
open Go.RowKit

set_option maxRecDepth 100000 in
set_option maxHeartbeats 1000000 in
theorem mul64_12 (w : World) : Calls Tryz.prog 159 #[.int .u64 12, .int .u64 2] w fun e w' => e = .returned (.tuple #[.int .u64 0, .int .u64 24]) ∧ w = w' := by
  have m1 : bits .and .u64 12 4294967295 = 12 := by have := bits_and_u64_nat 12 4294967295 (by omega) (by omega); exact this
  have m2 : bits .and .u64 2 4294967295 = 2 := by have := bits_and_u64_nat 2 4294967295 (by omega) (by omega); exact this
  have m4 : bits .and .u64 0 4294967295 = 0 := by have := bits_and_u64_nat 0 4294967295 (by omega) (by omega); exact this
  go_enter Tryz.func159, Tryz.ntmps159
  go_wp2
  go_ret2
  exact ⟨rfl, rfl⟩
set_option maxRecDepth 100000 in
theorem mul_12 (w : World) : Calls Tryz.prog 133 #[.int .u64 12, .int .u64 2] w fun e w' => e = .returned (.tuple #[.int .u64 0, .int .u64 24]) ∧ w = w' := by
  have HM : Hid (Calls Tryz.prog 159 #[.int .u64 12, .int .u64 2] w fun e w' => e = .returned (.tuple #[.int .u64 0, .int .u64 24]) ∧ w = w') := mul64_12 w
  go_enter Tryz.func133, Tryz.ntmps133
  go_wp2_with (go_at_call 159; refine HM.out.mono ?_; rintro e w1 ⟨rfl, rfl⟩)
  go_ret2
  exact ⟨rfl, rfl⟩
/-- A block whose first cells are such bytes. -/
def Firsts (w : World) (g : Nat) (bs : List UInt8) (size : Nat) : Prop := ∃ arr, Blk w g 5 arr ∧ arr.size = size ∧ ∀ (j : Nat) v, (bs.map v8)[j]? = some v → arr[j]? = some v
theorem firsts_more {w : World} {g size : Nat} {a b : List UInt8} {arr : Array Value} (h : w.heap[g]? = some (.cells (splice arr.toList a.length (b.map v8)).toArray 5 (0, 0))) (hs : arr.size = size) (ha : ∀ (j : Nat) v, (a.map v8)[j]? = some v → arr[j]? = some v) (hK : a.length + b.length ≤ size) : Firsts w g (a ++ b) size := by
  refine ⟨_, h, ?_, fun j v hv => ?_⟩
  · unfold splice
    simp
    omega
  · unfold splice
    rw [List.getElem?_toArray]
    rw [List.map_append] at hv
    by_cases h1 : j < a.length
    · rw [List.getElem?_append_left (by simpa using h1)] at hv
      rw [List.getElem?_append_left (by simp; omega), List.getElem?_take_of_lt h1, Array.getElem?_toList]
      exact ha j v hv
    · rw [List.getElem?_append_right (by simpa using h1), List.length_map] at hv
      have hj : j - a.length < b.length := by
        have := (List.getElem?_eq_some_iff.1 hv).1
        simpa using this
      rw [List.getElem?_append_right (by simp; omega), List.getElem?_append_left (by simp; omega)]
      simp only [List.length_take, Array.length_toList]
      rw [show min a.length arr.size = a.length by omega]
      exact hv
set_option maxRecDepth 100000 in
set_option maxHeartbeats 4000000 in
theorem rep2_any (b off cb : Nat) (bs : List UInt8) (w : World) (hl : bs.length = 12) (hr : Row w b off bs) (hb : b < w.heap.size) :
    Calls Tryz.prog 112 #[.slice (some ⟨b, off, none⟩) 12 cb, .int .i64 2] w fun e w' => e = .returned (.slice (some ⟨w.heap.size, 0, none⟩) 24 24) ∧ Row w' w.heap.size 0 (bs ++ bs) ∧ w.heap.size < w'.heap.size ∧ Below w.heap.size w w' := by
  have HM : Hid (Calls Tryz.prog 133 #[.int .u64 12, .int .u64 2] w fun e w' => e = .returned (.tuple #[.int .u64 0, .int .u64 24]) ∧ w = w') := mul_12 w
  obtain ⟨cs, hrunM, hle, -⟩ := Lib.run_makeNoZero (P := Tryz.prog) w #[3] 34 5 Tryz.underlying34 24 (by omega)
  have hcall : (callFunc 134 #[.int .i64 24]).run Tryz.prog w = .ok (.value (.slice (some ⟨w.heap.size, 0, none⟩) 24 cs.size)) ((w.alloc (.cells cs 5)).drewN 2) := by
    rw [run_callFunc_extern Tryz.func134 (by kernel_rfl) (by kernel_rfl) (by kernel_rfl) (e := Extern.BytealgMakeNoZero.makeNoZero #[3] #[34]) (by kernel_rfl)]
    have := hrunM
    simp only [Int.cast_ofNat_Int] at this
    rw [this]
    rfl
  clear hrunM
  have hsl : ∀ w, (Instr.slice 34 (.slice (some ⟨w.heap.size, 0, none⟩) 24 cs.size) none (some (.int .i64 24)) (some (.int .i64 24))).run Tryz.prog w = .ok (.slice (some ⟨w.heap.size, 0, none⟩) 24 24) w := fun w => slice_roomD (some ⟨w.heap.size, 0, none⟩) 24 cs.size 24 hle w
  have hsl2 : ∀ W, (Instr.slice 34 (.slice (some ⟨w.heap.size, 0, none⟩) 24 cs.size) none (some (.int .i64 24)) (some (.int .i64 24))).run Tryz.prog W = .ok (.slice (some ⟨w.heap.size, 0, none⟩) 24 24) W := fun W => slice_roomD (some ⟨w.heap.size, 0, none⟩) 24 cs.size 24 hle W
  have hg0 : Blk ((w.alloc (.cells cs 5)).drewN 2) w.heap.size 5 cs := (Blk.new w 5 cs).drewN 2
  have hB0 : Below w.heap.size w ((w.alloc (.cells cs 5)).drewN 2) := Below.drewN ((Below.refl _ w).alloc (Nat.le_refl _) _) 2
  have hr0 := hr.below hB0 hb
  have H1 : ∀ j v, (bs.map v8)[j]? = some v → ((w.alloc (.cells cs 5)).drewN 2).cell? ((⟨b, off, none⟩ : Addr).add j) = some v := hr0.at
  have hsz1 : (Tryz.prog.info? 5).map (·.size) = some 1 := by kernel_rfl
  clear hsl
  go_enter Tryz.func112, Tryz.ntmps112
  go_wp2_with (first | (go_at_call 133; refine HM.out.mono ?_; rintro e w1 ⟨rfl, rfl⟩) | (refine wpList_copy_splice rfl (.tmp 58) (.tmp 59) 34 34 rfl 5 Tryz.underlying34 hsz1 (some ⟨w.heap.size, 0, none⟩) (some ⟨b, off, none⟩) 24 24 12 cb rfl rfl w.heap.size 0 cs.toList 5 hg0 (bs.map v8) (by rw [List.length_map, hl]; rfl) (fun _ => ⟨rfl, _, rfl, H1⟩) (by simp; omega) (one8l bs) w.heap.size w hB0 (Nat.le_refl _) ?_; intro w2 hb2 hB2))
  have hF2 : Firsts w2 w.heap.size bs cs.size := by
    have := firsts_more (a := []) (b := bs) (arr := cs) (size := cs.size) hb2.out rfl (fun j v h => by simp at h) (by simp; omega)
    exact this
  clear hb2 hg0 hB0 hr0 H1
  go_loopw [10] (fun i wr => ((i = .int .i64 12 ∧ Firsts wr w.heap.size bs cs.size) ∨ (i = .int .i64 24 ∧ Firsts wr w.heap.size (bs ++ bs) cs.size)) ∧ Below w.heap.size w wr) (fun i _ => 24 - (intOf i).toNat)
  case atStart => exact ⟨.inl ⟨rfl, hF2⟩, hB2⟩
  case round =>
    obtain ⟨⟨rfl, hF⟩ | ⟨rfl, hF⟩, hB⟩ := hrel
    · clear hF2 hB2
      obtain ⟨arr, hg, hsz, hall⟩ := hF
      have l1 : ∀ W, (Instr.slice 34 (.slice (some ⟨w.heap.size, 0, none⟩) 24 24) (some (.int .i64 12)) none none).run Tryz.prog W = .ok (.slice (some ⟨w.heap.size, 12, none⟩) 12 12) W := fun W => slice_restD (some ⟨w.heap.size, 0, none⟩) 24 24 12 (by omega) W
      have l2 : ∀ W, (Instr.slice 34 (.slice (some ⟨w.heap.size, 0, none⟩) 24 24) none (some (.int .i64 12)) none).run Tryz.prog W = .ok (.slice (some ⟨w.heap.size, 0, none⟩) 12 24) W := fun W => slice_toD (some ⟨w.heap.size, 0, none⟩) 24 24 12 (by omega) W
      obtain ⟨w2, hr2, hb2, hB2⟩ : ∃ w2, (∀ ty, (Builtin.copy_ #[34, 34] ty #[.slice (some ⟨w.heap.size, 12, none⟩) 12 12, .slice (some ⟨w.heap.size, 0, none⟩) 12 24]).run Tryz.prog wr.drew = .ok (.int .i64 12) w2) ∧ w2.heap[w.heap.size]? = some (.cells (splice arr.toList bs.length (bs.map v8)).toArray 5 (0, 0)) ∧ Below w.heap.size w w2 := by
        have H2 : ∀ j v, (bs.map v8)[j]? = some v → wr.drew.cell? ((⟨w.heap.size, 0, none⟩ : Addr).add j) = some v := fun j v hv => by
          rw [Addr.add_mid, Nat.zero_add]
          exact hg.drew.cell (hall j v hv)
        have hr := fun ty => run_copy_row (P := Tryz.prog) wr.drew 34 34 ty 5 w.heap.size 12 12 12 ⟨w.heap.size, 0, none⟩ 12 24 arr 5 (bs.map v8) Tryz.underlying34 hsz1 hg.drew (by rw [List.length_map, hl]; rfl) H2 (by rw [List.length_map, hl, hsz]; omega) (one8l bs)
        rw [List.length_map, hl] at hr
        refine ⟨_, hr, ?_, Below.setRow hB.drew _ _ (Nat.le_refl _)⟩
        exact (hg.drew.setRow _).of_eq (by simp [splice, hl])
      have hwr : IntKind.i64.wrap (12 + 12) = 24 := by rw [IntKind.wrap_i64]; omega
      go_wp2_with fail
      refine held_begin (fun _ => True) (by kernel_rfl) ?_
      refine held_take 0 67 _ (.int .i64 12) rfl rfl (by kernel_rfl) (by kernel_rfl) (by kernel_rfl) rfl trivial (fun _ _ => rfl) ?_
      simp only [Act.put, List.setIfInBounds_toArray, List.set_cons_succ, List.set_cons_zero]
      refine held_take 1 68 _ (.slice (some ⟨w.heap.size, 0, none⟩) 24 24) rfl rfl (by kernel_rfl) (by kernel_rfl) (by kernel_rfl) rfl trivial (fun _ _ => rfl) ?_
      simp only [Act.put, List.setIfInBounds_toArray, List.set_cons_succ, List.set_cons_zero]
      refine held_take 2 69 _ (.int .i64 12) rfl rfl (by kernel_rfl) (by kernel_rfl) (by kernel_rfl) rfl trivial (fun _ _ => rfl) ?_
      simp only [Act.put, List.setIfInBounds_toArray, List.set_cons_succ, List.set_cons_zero]
      refine held_take 3 70 _ (.slice (some ⟨w.heap.size, 12, none⟩) 12 12) rfl rfl (by kernel_rfl) (by kernel_rfl) (by kernel_rfl) rfl trivial (fun W _ => exec_slice _ _ _ _ rfl (.slice (some ⟨w.heap.size, 0, none⟩) 24 24) _ (some (.int .i64 12)) none none rfl rfl rfl rfl (l1 W)) ?_
      simp only [Act.put, List.setIfInBounds_toArray, List.set_cons_succ, List.set_cons_zero]
      refine held_take 4 71 _ (.slice (some ⟨w.heap.size, 0, none⟩) 24 24) rfl rfl (by kernel_rfl) (by kernel_rfl) (by kernel_rfl) rfl trivial (fun _ _ => rfl) ?_
      simp only [Act.put, List.setIfInBounds_toArray, List.set_cons_succ, List.set_cons_zero]
      refine held_take 5 72 _ (.int .i64 12) rfl rfl (by kernel_rfl) (by kernel_rfl) (by kernel_rfl) rfl trivial (fun _ _ => rfl) ?_
      simp only [Act.put, List.setIfInBounds_toArray, List.set_cons_succ, List.set_cons_zero]
      refine held_take 6 73 _ (.slice (some ⟨w.heap.size, 0, none⟩) 12 24) rfl rfl (by kernel_rfl) (by kernel_rfl) (by kernel_rfl) rfl trivial (fun W _ => exec_slice _ _ _ _ rfl (.slice (some ⟨w.heap.size, 0, none⟩) 24 24) _ none (some (.int .i64 12)) none rfl rfl rfl rfl (l2 W)) ?_
      simp only [Act.put, List.setIfInBounds_toArray, List.set_cons_succ, List.set_cons_zero]
      refine held_all1 7 (by kernel_rfl) (op_value 7 74 _ (.int .i64 12) w2 rfl rfl rfl (exec_copy _ _ rfl (.slice (some ⟨w.heap.size, 12, none⟩) 12 12) (.slice (some ⟨w.heap.size, 0, none⟩) 12 24) _ rfl rfl hr2) ⟨trivial, ?_⟩)
      simp only [Act.put, List.setIfInBounds_toArray, List.set_cons_succ, List.set_cons_zero]
      refine held_all1 8 (by kernel_rfl) (op_value 8 75 _ (.int .i64 24) w2 rfl rfl rfl (exec_addi _ _ _ rfl _ _ _ rfl rfl hwr) ⟨trivial, ?_⟩)
      simp only [Act.put, List.setIfInBounds_toArray, List.set_cons_succ, List.set_cons_zero]
      refine held_all1 9 (by kernel_rfl) (op_value 9 10 _ (.int .i64 24) w2 rfl rfl rfl rfl ⟨trivial, ?_⟩)
      simp only [Act.put, List.setIfInBounds_toArray, List.set_cons_succ, List.set_cons_zero]
      refine wpAnyH_done (by kernel_rfl) ?_ _
      refine NoPanic.normal ?_
      go_wp2
      go_roundw
      case rel => exact ⟨.inr ⟨rfl, firsts_more hb2 hsz hall (by omega)⟩, hB2⟩
      case measure => simp [intOf]
    · clear hF2 hB2
      go_wp2
      go_ret
      obtain ⟨arr, hg, hsz, hall⟩ := hF
      refine ⟨rfl, fun j hj => ?_, hg.lt, hB⟩
      rw [Nat.zero_add]
      exact hg.cell (hall j _ (by rw [List.getElem?_map, List.getElem?_eq_getElem hj]; rfl))

theorem own_none (w : World) (base : Nat) : Own w base (.slice none 0 0) [] := ⟨rfl, .inl ⟨rfl, rfl⟩⟩
set_option maxRecDepth 100000 in
set_option maxHeartbeats 2000000 in
theorem code_any (n g m : Nat) (w : World) (hn : n < 4294967296) (hg : g < 4294967296) (hm : m < 4294967296) :
    Calls Tryz.prog 86 #[headV n g m] w fun e w' => ∃ v, e = .returned v ∧ Seg w' v (headB n g m) ∧ (∀ q, v.ownBlock = some q → w.heap.size ≤ q) ∧ Below w.heap.size w w' := by
  unfold headV
  have hb0 := (Below.refl w.heap.size w).alloc (Nat.le_refl _) (.cells #[.int .i64 (n : Int), .int .i64 (g : Int), .int .i64 (m : Int)] 93)
  go_enter Tryz.func86, Tryz.ntmps86
  go_wp2_with fail
  go_loopw [3, 13] (fun t i wr => ∃ I : Nat, i = .int .i64 (I : Int) ∧ I ≤ 3 ∧ Own wr w.heap.size t ((threeB n g m).take (4 * I)) ∧ Below w.heap.size w wr) (fun _ i _ => 3 - (intOf i).toNat)
  case atStart => exact ⟨0, rfl, by omega, own_none _ _, hb0⟩
  case round =>
    obtain ⟨I, rfl, hI, hO, hB⟩ := hrel
    by_cases h3 : I = 3
    · subst h3
      obtain ⟨q, c, rfl, hq1, hq2, hqc, hrow⟩ := hO.form (by simp [threeB_len])
      have hT : (threeB n g m).take (4 * 3) = threeB n g m := List.take_of_length_le (by rw [threeB_len]; decide)
      rw [hT] at hrow
      have hln : ((threeB n g m).take (4 * 3)).length = 12 := by rw [hT, threeB_len]
      rw [hln]
      go_wp2_with (go_at_call 112; refine (rep2_any q 0 c (threeB n g m) _ (threeB_len _ _ _) hrow hq2).mono ?_; rintro e w2 ⟨rfl, hrw, hlt, hb2⟩)
      go_ret
      exact ⟨_, rfl, Seg.of_row hrw (by show 24 = 24; rfl) (Nat.le_refl _) hlt, fun q2 hq2 => by have e : wr.heap.size = q2 := Option.some.inj hq2; have := hB.size; omega, hB.trans (hb2.mono hB.size)⟩
    · rcases (show I = 0 ∨ I = 1 ∨ I = 2 by omega) with rfl | rfl | rfl
      · obtain ⟨at_, ct, hshape⟩ := hO.seg.shapeD
        have HO : Hid (Own wr w.heap.size u3 ((threeB n g m).take (4 * 0))) := hO
        have hlen : ((threeB n g m).take (4 * 0)).length ≤ 100000000 := by rw [List.length_take, threeB_len]; omega
        clear hshape hO
        have hix : ∀ w, (Instr.index 159 (.agg #[.int .i64 (n : Int), .int .i64 (g : Int), .int .i64 (m : Int)]) (.int .i64 0)).run Tryz.prog w = .ok (.int .i64 (n : Int)) w := fun w => by kernel_rfl
        go_wp2_with (go_at_call 111; refine (appN_any w.heap.size _ _ n _ hn HO.out hB.size hlen).mono ?_; rintro e w2 ⟨v2, rfl, ho2, hg2, hm2⟩)
        go_roundw
        case rel => exact ⟨1, rfl, by omega, ho2, below_grown hB hg2 hB.size (fun q hq => (HO.out.blocks q hq).1)⟩
        case measure => simp [intOf]
      · obtain ⟨at_, ct, hshape⟩ := hO.seg.shapeD
        have HO : Hid (Own wr w.heap.size u3 ((threeB n g m).take (4 * 1))) := hO
        have hlen : ((threeB n g m).take (4 * 1)).length ≤ 100000000 := by rw [List.length_take, threeB_len]; omega
        clear hshape hO
        have hix : ∀ w, (Instr.index 159 (.agg #[.int .i64 (n : Int), .int .i64 (g : Int), .int .i64 (m : Int)]) (.int .i64 1)).run Tryz.prog w = .ok (.int .i64 (g : Int)) w := fun w => by kernel_rfl
        go_wp2_with (go_at_call 111; refine (appN_any w.heap.size _ _ g _ hg HO.out hB.size hlen).mono ?_; rintro e w2 ⟨v2, rfl, ho2, hg2, hm2⟩)
        go_roundw
        case rel => exact ⟨2, rfl, by omega, ho2, below_grown hB hg2 hB.size (fun q hq => (HO.out.blocks q hq).1)⟩
        case measure => simp [intOf]
      · obtain ⟨at_, ct, hshape⟩ := hO.seg.shapeD
        have HO : Hid (Own wr w.heap.size u3 ((threeB n g m).take (4 * 2))) := hO
        have hlen : ((threeB n g m).take (4 * 2)).length ≤ 100000000 := by rw [List.length_take, threeB_len]; omega
        clear hshape hO
        have hix : ∀ w, (Instr.index 159 (.agg #[.int .i64 (n : Int), .int .i64 (g : Int), .int .i64 (m : Int)]) (.int .i64 2)).run Tryz.prog w = .ok (.int .i64 (m : Int)) w := fun w => by kernel_rfl
        go_wp2_with (go_at_call 111; refine (appN_any w.heap.size _ _ m _ hm HO.out hB.size hlen).mono ?_; rintro e w2 ⟨v2, rfl, ho2, hg2, hm2⟩)
        go_roundw
        case rel => exact ⟨3, rfl, by omega, ho2, below_grown hB hg2 hB.size (fun q hq => (HO.out.blocks q hq).1)⟩
        case measure => simp [intOf]
end Go.Proofs.YtbegphfideopoaaGreat
namespace Go.Proofs.YtbegphfideopoaaGreat

/-- Nothing fails to come, and the power is on. -/
def calmS (s : DS) : Prop := s.next = [] ∧ s.down = false
theorem mayS_calm {s : DS} (h : calmS s) : mayS s = (0, s) := by
  unfold mayS; rw [h.1, h.2]; rfl
theorem writeS_calm {s : DS} (h : calmS s) {k : Nat} {b : List UInt8} (hk : k < s.now.length) (hb : b.length ≤ 128) : writeS s (k : Int) b = (0, putS s k b) := by
  unfold writeS
  rw [if_neg (by omega), mayS_calm h, if_neg (fun h => h rfl), Int.toNat_natCast]
theorem syncS_calm {s : DS} (h : calmS s) : syncS s = (0, syncedS s) := by
  unfold syncS; rw [mayS_calm h, if_neg (fun h => h rfl)]
theorem getD_set_self {α : Type} (l : List α) (k : Nat) (x d : α) (h : k < l.length) : (l.set k x).getD k d = x := by
  rw [List.getD_eq_getElem?_getD, List.getElem?_set_self h]; rfl
theorem getD_set_ne {α : Type} (l : List α) (k q : Nat) (x d : α) (h : k ≠ q) : (l.set k x).getD q d = l.getD q d := by
  rw [List.getD_eq_getElem?_getD, List.getElem?_set_ne h, List.getD_eq_getElem?_getD]
theorem rowB_len (b : List UInt8) (i : Nat) : (rowB b i).length = min 128 (b.length - i * 128) := by
  unfold rowB; rw [List.length_take, List.length_drop]
theorem rowB_le (b : List UInt8) (i : Nat) : (rowB b i).length ≤ 128 := by rw [rowB_len]; omega
/-- What rows that were written leave. -/
structure RowsAt (s t : DS) (n0 first : Nat) (b : List UInt8) (i : Nat) : Prop where
  calm : calmS t
  ok : t.ok n0
  is : ∀ q, t.now.getD q [] = if first + i ≤ q ∧ (q - first) * 128 < b.length then padS (rowB b (q - first)) else s.now.getD q []
theorem rowsW_calm (n0 first : Nat) (b : List UInt8) : ∀ (n i : Nat) (s : DS), calmS s → s.ok n0 → b.length ≤ (i + n) * 128 → (∀ j, j * 128 < b.length → first + j < n0) → ∃ t, rowsW first b n i s = (0, t) ∧ RowsAt s t n0 first b i
  | 0, i, s, hc, ok, hb, _ => ⟨s, rfl, hc, ok, fun q => by rw [if_neg (by omega)]⟩
  | n + 1, i, s, hc, ok, hb, hr => by
    by_cases h : b.length ≤ i * 128
    · refine ⟨s, ?_, hc, ok, fun q => by rw [if_neg (by omega)]⟩
      show (if b.length ≤ i * 128 then _ else _) = _
      rw [if_pos h]
    · have hfi := hr i (by omega)
      have hw : writeS s ((first + i : Nat) : Int) (rowB b i) = (0, putS s (first + i) (rowB b i)) := writeS_calm hc (by rw [ok.now]; exact hfi) (rowB_le b i)
      obtain ⟨t, ht, h1, h2, h3⟩ := rowsW_calm n0 first b n (i + 1) (putS s (first + i) (rowB b i)) hc (ok.put _ _ (rowB_le b i)) (by omega) hr
      refine ⟨t, ?_, h1, h2, fun q => ?_⟩
      · show (if b.length ≤ i * 128 then _ else if (writeS s ((first + i : Nat) : Int) (rowB b i)).1 ≠ 0 then _ else _) = _
        rw [if_neg h, hw, if_neg (fun h => h rfl)]
        exact ht
      · rw [h3 q]
        by_cases hq : q = first + i
        · subst hq
          rw [if_neg (by omega), if_pos ⟨Nat.le_refl _, by omega⟩]
          show (s.now.set (first + i) (padS (rowB b i))).getD (first + i) [] = _
          rw [getD_set_self _ _ _ _ (by rw [ok.now]; exact hfi), show first + i - first = i by omega]
        · by_cases hq2 : first + i ≤ q ∧ (q - first) * 128 < b.length
          · rw [if_pos hq2, if_pos (by omega)]
          · rw [if_neg hq2, if_neg (by omega)]
            show (s.now.set (first + i) (padS (rowB b i))).getD q [] = _
            rw [getD_set_ne _ _ _ _ _ (fun e => hq e.symm)]
/-! ### banks -/
theorem half_in {s : DS} {n0 k i : Nat} (ok : s.ok n0) (hk : k < 2) (hi : i < halfS s) : 2 + k * halfS s + i < n0 := by
  have h := ok.now
  unfold halfS at hi ⊢
  rw [h] at hi ⊢
  rcases (show k = 0 ∨ k = 1 by omega) with rfl | rfl <;> omega
theorem bankTo_len {s : DS} {n0 k : Nat} (ok : s.ok n0) (hk : k < 2) : ∀ i, i ≤ halfS s → (bankTo s k i).length = i * 128
  | 0, _ => (Nat.zero_mul _).symm
  | i + 1, hi => by
    show (bankTo s k i ++ _).length = _
    rw [List.length_append, bankTo_len ok hk i (by omega), getD_len ok.nows (by rw [ok.now]; exact half_in ok hk (by omega)), Nat.succ_mul]
theorem padS_take (b : List UInt8) (j : Nat) (h : j * 128 < b.length) : (padS (rowB b j)).take (b.length - j * 128) = rowB b j := by
  have hl := rowB_len b j
  unfold padS
  by_cases h1 : 128 ≤ b.length - j * 128
  · have e : (rowB b j).length = 128 := by omega
    rw [e]
    show (rowB b j ++ []).take _ = _
    rw [List.append_nil, List.take_of_length_le (by omega)]
  · have e : (rowB b j).length = b.length - j * 128 := by omega
    rw [← e, List.take_left]
theorem bank_is {s : DS} {n0 k : Nat} {b : List UInt8} (ok : s.ok n0) (hk : k < 2) (h : ∀ j, j * 128 < b.length → s.now.getD (2 + k * halfS s + j) [] = padS (rowB b j)) (hb : b.length ≤ sizeS s) : (bankS s k).take b.length = b := by
  have key : ∀ j, j ≤ halfS s → (bankTo s k j).take b.length = b.take (j * 128) := fun j => by
    induction j with
    | zero => intro _; rw [Nat.zero_mul, List.take_zero]; exact List.take_nil
    | succ j ih =>
      intro hj
      show (bankTo s k j ++ s.now.getD (2 + k * halfS s + j) []).take b.length = _
      rw [List.take_append, ih (by omega), bankTo_len ok hk j (by omega)]
      by_cases hl : j * 128 < b.length
      · rw [h j hl, padS_take b j hl, Nat.succ_mul]
        unfold rowB
        rw [List.take_add]
      · rw [show b.length - j * 128 = 0 by omega, List.take_zero, List.append_nil, List.take_of_length_le (by omega), List.take_of_length_le (by omega)]
  unfold bankS
  rw [key _ (Nat.le_refl _), List.take_of_length_le (by unfold sizeS at hb; exact hb)]
/-! ### heads -/
theorem nextH_ge (s : DS) (k : Nat) (t : Nat × Nat × Nat) : t.1 ≤ (nextH s k t).1 := by
  unfold nextH
  split
  · rename_i h; exact Nat.le_of_lt h.1
  · exact Nat.le_refl _
theorem nextH_stand (s : DS) (k : Nat) (t : Nat × Nat × Nat) (h : standsB s k (s.now.getD k []) = true) : of4 (s.now.getD k []) ≤ (nextH s k t).1 := by
  unfold nextH
  split
  · exact Nat.le_refl _
  · rename_i h2
    exact Nat.le_of_not_lt (fun h3 => h2 ⟨h3, h⟩)
theorem stands_le {s : DS} {k : Nat} (hk : k < 2) (h : standsB s k (s.now.getD k []) = true) : of4 (s.now.getD k []) ≤ (thereS s).1 := by
  show _ ≤ (nextH s 1 (nextH s 0 (0, 0, 0))).1
  rcases (show k = 0 ∨ k = 1 by omega) with rfl | rfl
  · exact Nat.le_trans (nextH_stand s 0 _ h) (nextH_ge s 1 _)
  · exact nextH_stand s 1 _ h
theorem head_of (n g m : Nat) (hn : n < 4294967296) (hg : g < 4294967296) (hm : m < 4294967296) : of4 (padS (headB n g m)) = n ∧ of4 ((padS (headB n g m)).drop 4) = g ∧ of4 ((padS (headB n g m)).drop 8) = m ∧ (padS (headB n g m)).take 12 = ((padS (headB n g m)).drop 12).take 12 := by
  refine ⟨?_, ?_, ?_, rfl⟩
  · exact of4_num4 n hn (num4 g ++ num4 m ++ threeB n g m ++ noughts 104)
  · exact of4_num4 g hg (num4 m ++ threeB n g m ++ noughts 104)
  · exact of4_num4 m hm (threeB n g m ++ noughts 104)
theorem stands_head {s : DS} {k n g m : Nat} (hk : n % 2 = k) (hn : n ≤ 1073741824) (hg1 : 1 ≤ g) (hg2 : g ≤ 1048576) (hm : m ≤ sizeS s) (hm2 : m < 4294967296) : standsB s k (padS (headB n g m)) = true := by
  obtain ⟨h1, h2, h3, h4⟩ := head_of n g m (by omega) (by omega) hm2
  unfold standsB
  rw [h1, h2, h3, ← h4]
  simp only [Bool.and_eq_true, decide_eq_true_eq]
  exact ⟨⟨⟨⟨⟨hn, hk⟩, hg1⟩, hg2⟩, hm⟩, trivial⟩
theorem standsB_size {s t : DS} (h : sizeS t = sizeS s) (k : Nat) (b : List UInt8) : standsB t k b = standsB s k b := by unfold standsB; rw [h]
/-- A head behind the one that counts. -/
theorem there_new {s t : DS} {n g m : Nat} (hn : (thereS s).1 = n) (hh : t.now.getD ((n + 1) % 2) [] = padS (headB (n + 1) g m)) (ho : t.now.getD (n % 2) [] = s.now.getD (n % 2) []) (hz : sizeS t = sizeS s) (hn2 : n < 1073741824) (hg1 : 1 ≤ g) (hg2 : g ≤ 1048576) (hm : m ≤ sizeS s) (hm2 : m < 4294967296) : thereS t = (n + 1, g, m) := by
  obtain ⟨h1, h2, h3, -⟩ := head_of (n + 1) g m (by omega) (by omega) hm2
  have hst : standsB t ((n + 1) % 2) (padS (headB (n + 1) g m)) = true := stands_head rfl (by omega) hg1 hg2 (by rw [hz]; exact hm) hm2
  have hnew : ∀ u : Nat × Nat × Nat, u.1 ≤ n → nextH t ((n + 1) % 2) u = (n + 1, g, m) := fun u hu => by
    unfold nextH
    rw [hh, h1, h2, h3, if_pos ⟨by omega, hst⟩]
  have hold : ∀ u : Nat × Nat × Nat, (nextH t (n % 2) u).1 ≤ max n u.1 := fun u => by
    unfold nextH
    split
    · rename_i hc
      have : of4 (t.now.getD (n % 2) []) ≤ n := by
        rw [ho, ← hn]
        exact stands_le (Nat.mod_lt _ (by decide)) (by rw [hn, ← ho, ← standsB_size hz]; exact hc.2)
      exact Nat.le_trans this (Nat.le_max_left _ _)
    · exact Nat.le_max_right _ _
  have hkeep : nextH t (n % 2) (n + 1, g, m) = (n + 1, g, m) := by
    unfold nextH
    rw [if_neg]
    intro hc
    have : of4 (t.now.getD (n % 2) []) ≤ n := by
      rw [ho, ← hn]
      exact stands_le (Nat.mod_lt _ (by decide)) (by rw [hn, ← ho, ← standsB_size hz]; exact hc.2)
    have := hc.1
    dsimp only at this
    omega
  show nextH t 1 (nextH t 0 (0, 0, 0)) = _
  rcases (show (n % 2 = 0 ∧ (n + 1) % 2 = 1) ∨ (n % 2 = 1 ∧ (n + 1) % 2 = 0) by omega) with ⟨e0, e1⟩ | ⟨e0, e1⟩
  · rw [e1] at hnew; rw [e0] at hold
    exact hnew _ (by have := hold (0, 0, 0); dsimp only at this; omega)
  · rw [e1] at hnew; rw [e0] at hkeep
    rw [hnew _ (Nat.zero_le _)]
    exact hkeep
/-! ### a change on a calm disk -/
/-- All is synced. -/
def cleanD (s : DS) : Prop := ∀ b ∈ s.dirt, b = false
theorem dirtyAt_clean : ∀ (l : List Bool) (i : Nat), (∀ b ∈ l, b = false) → dirtyAt i l = []
  | [], _, _ => rfl
  | b :: l, i, h => by
    unfold dirtyAt
    rw [h b List.mem_cons_self, if_neg (by decide)]
    exact dirtyAt_clean l (i + 1) (fun x hx => h x (List.mem_cons_of_mem _ hx))
theorem crash_clean {s : DS} (hc : calmS s) (h : cleanD s) (stay : List Bool) (torn cut : Int) : crashS s stay torn cut = s := by
  unfold crashS dirtyS
  rw [dirtyAt_clean _ 0 h]
  obtain ⟨h1, h2⟩ := hc
  show ({ s with next := [], down := false } : DS) = s
  rw [← h1, ← h2]
/-- What a change leaves on a calm disk. -/
structure Left (s t : DS) (n0 n gen : Nat) (b : List UInt8) : Prop where
  calm : calmS t
  ok : t.ok n0
  clean : cleanD t
  there : thereS t = (n + 1, gen, b.length)
  rows : ∀ j, j * 128 < b.length → t.now.getD (2 + gen % 2 * halfS t + j) [] = padS (rowB b j)
  half : halfS t = halfS s
theorem halfS_of {s t : DS} {n0 : Nat} (h1 : s.ok n0) (h2 : t.ok n0) : halfS t = halfS s := by unfold halfS; rw [h1.now, h2.now]
theorem writeW_calm {s : DS} {n0 n gen frm : Nat} {b : List UInt8} (hc : calmS s) (ok : s.ok n0) (hn : (thereS s).1 = n) (hn2 : n < 1073741824) (hg1 : 1 ≤ gen) (hg2 : gen ≤ 1048576) (hb : b.length ≤ sizeS s) (hb2 : b.length < 4294967296) (h2 : 2 ≤ n0)
    (hold : ∀ j, (j + 1) * 128 ≤ frm → s.now.getD (2 + gen % 2 * halfS s + j) [] = padS (rowB b j)) : ∃ t, writeW s n gen frm b = (0, t) ∧ Left s t n0 n gen b := by
  have hr : ∀ j, j * 128 < b.length → 2 + gen % 2 * halfS s + j < n0 := fun j hj => half_in ok (Nat.mod_lt _ (by decide)) (by unfold sizeS at hb; omega)
  obtain ⟨t, ht, h3, h4, h5⟩ := rowsW_calm n0 (2 + gen % 2 * halfS s) b (b.length + 1) (frm / 128) s hc ok (by omega) hr
  have hs1 : syncS t = (0, syncedS t) := syncS_calm h3
  have hlt : (n + 1) % 2 < n0 := by omega
  have hw1 : writeS (syncedS t) (((n + 1) % 2 : Nat) : Int) (headB (n + 1) gen b.length) = (0, putS (syncedS t) ((n + 1) % 2) (headB (n + 1) gen b.length)) := writeS_calm (s := syncedS t) h3 (by show _ < t.now.length; rw [h4.now]; exact hlt) (by rw [headB_len]; decide)
  have hs2 : syncS (putS (syncedS t) ((n + 1) % 2) (headB (n + 1) gen b.length)) = (0, syncedS (putS (syncedS t) ((n + 1) % 2) (headB (n + 1) gen b.length))) := syncS_calm (s := putS (syncedS t) ((n + 1) % 2) (headB (n + 1) gen b.length)) h3
  have hok : (syncedS (putS (syncedS t) ((n + 1) % 2) (headB (n + 1) gen b.length))).ok n0 := (h4.synced.put _ _ (by rw [headB_len]; decide)).synced
  have hhf := halfS_of ok hok
  have hself : (syncedS (putS (syncedS t) ((n + 1) % 2) (headB (n + 1) gen b.length))).now.getD ((n + 1) % 2) [] = padS (headB (n + 1) gen b.length) := getD_set_self t.now ((n + 1) % 2) (padS (headB (n + 1) gen b.length)) [] (by rw [h4.now]; exact hlt)
  have hne : ∀ q, (n + 1) % 2 ≠ q → (syncedS (putS (syncedS t) ((n + 1) % 2) (headB (n + 1) gen b.length))).now.getD q [] = t.now.getD q [] := fun q hq => getD_set_ne t.now ((n + 1) % 2) q (padS (headB (n + 1) gen b.length)) [] hq
  have hcl : cleanD (syncedS (putS (syncedS t) ((n + 1) % 2) (headB (n + 1) gen b.length))) := fun x hx => List.eq_of_mem_replicate hx
  refine ⟨syncedS (putS (syncedS t) ((n + 1) % 2) (headB (n + 1) gen b.length)), ?_, h3, hok, hcl, ?_, ?_, hhf⟩
  · unfold writeW
    rw [ht, if_neg (fun h => h rfl)]
    unfold sealW
    rw [hs1, if_neg (fun h => h rfl)]
    dsimp only
    rw [hw1, if_neg (fun h => h rfl)]
    exact hs2
  · refine there_new hn hself ?_ (by unfold sizeS; rw [hhf]) hn2 hg1 hg2 hb hb2
    rw [hne _ (by omega), h5, if_neg (by omega)]
  · intro j hj
    rw [hhf, hne _ (by omega), h5]
    by_cases hf : frm / 128 ≤ j
    · rw [if_pos ⟨by omega, by rw [show 2 + gen % 2 * halfS s + j - (2 + gen % 2 * halfS s) = j by omega]; exact hj⟩, show 2 + gen % 2 * halfS s + j - (2 + gen % 2 * halfS s) = j by omega]
    · rw [if_neg (by omega)]
      exact hold j (by omega)
theorem Left.found {s t : DS} {n0 n gen : Nat} {b : List UInt8} (h : Left s t n0 n gen b) (hb : b.length ≤ sizeS s) : foundS t = toldB b := by
  unfold foundS
  rw [h.there]
  dsimp only
  rw [if_neg (by omega), bank_is h.ok (Nat.mod_lt _ (by decide)) h.rows (by unfold sizeS at hb ⊢; rw [h.half]; exact hb)]
theorem rowB_app (b c : List UInt8) (j : Nat) (h : (j + 1) * 128 ≤ b.length) : rowB (b ++ c) j = rowB b j := by
  unfold rowB
  rw [List.drop_append_of_le_length (by omega), List.take_append_of_le_length (by rw [List.length_drop]; omega)]
/-- A log whose state stands on a calm disk. -/
structure Stand (s : DS) (n0 : Nat) (l : LS) : Prop where
  calm : calmS s
  ok : s.ok n0
  clean : cleanD s
  there : thereS s = (l.n, l.gen, l.sure)
  rows : ∀ j, (j + 1) * 128 ≤ l.sure → s.now.getD (2 + l.gen % 2 * halfS s + j) [] = padS (rowB l.b j)
  found : foundS s = toldB (l.b.take l.sure)
  sure : l.sure ≤ l.b.length
  size : l.b.length ≤ sizeS s
  gen1 : 1 ≤ l.gen
  gen2 : l.gen ≤ 1048576
  n2 : l.n ≤ 1073741824
  begun : l.begun = true
  broke : l.broke = false
theorem size_lt {s : DS} {n0 : Nat} (ok : s.ok n0) (h : n0 ≤ 4096) : sizeS s ≤ 262016 := by
  unfold sizeS halfS; rw [ok.now]; omega
theorem size_two {s : DS} {n0 : Nat} (ok : s.ok n0) (h : 256 ≤ sizeS s) : 2 ≤ n0 := by
  unfold sizeS halfS at h; rw [ok.now] at h; omega
theorem check_calm {s : DS} {n0 : Nat} {l : LS} {st : List UInt8} (hc : calmS s) (ok : s.ok n0) (hm : n0 ≤ 4096) (h256 : 256 ≤ sizeS s) (hbr : l.broke = false) (hn : (thereS s).1 = l.n) (hn2 : l.n < 1073741824) (hg : l.gen < 1048576) (hf : (stateB st).length ≤ sizeS s) :
    ∃ t, checkW s l st = (0, t, ⟨l.n + 1, l.gen + 1, stateB st, (stateB st).length, true, false⟩) ∧ Stand t n0 ⟨l.n + 1, l.gen + 1, stateB st, (stateB st).length, true, false⟩ ∧ foundS t = (st, []) ∧ sizeS t = sizeS s := by
  have hsz := size_lt ok hm
  obtain ⟨t, ht, hL⟩ := writeW_calm (frm := 0) hc ok hn hn2 (show 1 ≤ l.gen + 1 by omega) (by omega) hf (by omega) (size_two ok h256) (fun j hj => by omega)
  have htd : toldB (stateB st) = (st, []) := by
    have := told_put st [] (fun x hx => by cases hx)
    rwa [show recsB [] = [] from rfl, List.append_nil] at this
  have hfo := hL.found hf
  have hst : sizeS t = sizeS s := by unfold sizeS; rw [hL.half]
  refine ⟨t, ?_, ⟨hL.calm, hL.ok, hL.clean, hL.there, fun j hj => hL.rows j (by dsimp only at hj; omega), ?_, Nat.le_refl _, by rw [hst]; exact hf, by show 1 ≤ l.gen + 1; omega, by show l.gen + 1 ≤ _; omega, by show l.n + 1 ≤ _; omega, rfl, rfl⟩, hfo.trans htd, hst⟩
  · unfold checkW
    rw [hbr, if_neg (by decide), if_neg (by omega), ht, if_neg (fun h => h rfl)]
  · show foundS t = toldB ((stateB st).take (stateB st).length)
    rw [List.take_length]; exact hfo
theorem commit_calm {s : DS} {n0 : Nat} {l : LS} (h : Stand s n0 l) (hm : n0 ≤ 4096) (h256 : 256 ≤ sizeS s) (hn2 : l.sure = l.b.length ∨ l.n < 1073741824) :
    ∃ t l', commitW s l = (0, t, l') ∧ Stand t n0 l' ∧ l'.b = l.b ∧ l'.sure = l.b.length ∧ foundS t = toldB l.b ∧ sizeS t = sizeS s ∧ l'.gen = l.gen ∧ l'.n ≤ l.n + 1 := by
  have hsz := size_lt h.ok hm
  by_cases he : l.sure = l.b.length
  · refine ⟨s, l, ?_, h, rfl, he, ?_, rfl, rfl, by omega⟩
    · unfold commitW
      rw [h.broke, if_neg (by decide), h.begun, if_neg (by decide), if_pos he]
    · rw [h.found, he, List.take_length]
  · have hn3 : l.n < 1073741824 := by rcases hn2 with h | h; exact absurd h he; exact h
    obtain ⟨t, ht, hL⟩ := writeW_calm (frm := l.sure) (b := l.b) h.calm h.ok (by rw [h.there]) hn3 h.gen1 h.gen2 h.size (by have := h.size; omega) (size_two h.ok h256) h.rows
    have hst : sizeS t = sizeS s := by unfold sizeS; rw [hL.half]
    have hfo := hL.found h.size
    refine ⟨t, { l with n := l.n + 1, sure := l.b.length }, ?_, ⟨hL.calm, hL.ok, hL.clean, hL.there, fun j hj => hL.rows j (by dsimp only at hj; omega), ?_, Nat.le_refl _, by rw [hst]; exact h.size, h.gen1, h.gen2, by show l.n + 1 ≤ _; omega, h.begun, h.broke⟩, rfl, rfl, hfo, hst, rfl, Nat.le_refl _⟩
    · unfold commitW
      rw [h.broke, if_neg (by decide), h.begun, if_neg (by decide), if_neg he, if_neg (by omega), ht, if_neg (fun h => h rfl)]
    · show foundS t = toldB (l.b.take l.b.length)
      rw [List.take_length]; exact hfo
/-- A record waits behind. -/
theorem append_stand {s : DS} {n0 : Nat} {l : LS} (h : Stand s n0 l) (x : List UInt8) (hf : l.b.length + x.length + 5 ≤ sizeS s) : Stand s n0 { l with b := l.b ++ pieceB 3 x } :=
  ⟨h.calm, h.ok, h.clean, h.there, fun j hj => by have := h.sure; dsimp only at hj ⊢; rw [rowB_app _ _ _ (by omega)]; exact h.rows j hj, by show foundS s = toldB ((l.b ++ pieceB 3 x).take l.sure); rw [List.take_append_of_le_length h.sure]; exact h.found, by show l.sure ≤ (l.b ++ pieceB 3 x).length; rw [List.length_append]; have := h.sure; omega, by show (l.b ++ pieceB 3 x).length ≤ _; rw [List.length_append, pieceB_len]; omega, h.gen1, h.gen2, h.n2, h.begun, h.broke⟩
theorem append_calm {s : DS} {n0 : Nat} {l : LS} (h : Stand s n0 l) (x : List UInt8) (hx : x.length ≤ 4096) (hf : l.b.length + x.length + 5 ≤ sizeS s) : appendW s l x = (0, { l with b := l.b ++ pieceB 3 x }) := by
  unfold appendW roomW
  rw [h.broke, h.begun]
  simp only [Bool.false_eq_true, if_false, Bool.or_false, Bool.not_true]
  rw [if_neg (by decide), if_neg (by omega), if_neg (by omega)]
theorem append_full {s : DS} {n0 : Nat} {l : LS} (h : Stand s n0 l) (x : List UInt8) (hx : x.length ≤ 4096) (hf : ¬ l.b.length + x.length + 5 ≤ sizeS s) : appendW s l x = (3, l) := by
  unfold appendW roomW
  rw [h.broke, h.begun]
  simp only [Bool.false_eq_true, if_false, Bool.or_false, Bool.not_true]
  rw [if_neg (by decide), if_neg (by omega), if_pos (by omega)]
theorem room_stand {s : DS} {n0 : Nat} {l : LS} (h : Stand s n0 l) : roomW s l = (sizeS s : Int) - (l.b.length : Int) := by
  unfold roomW; rw [h.broke, h.begun]; rfl
/-- Without a head there is no length. -/
theorem there_zero (s : DS) : (thereS s).1 = 0 → (thereS s).2.2 = 0 := by
  have key : ∀ k, (thereTo s k).1 = 0 → (thereTo s k).2.2 = 0 := fun k => by
    induction k with
    | zero => intro _; rfl
    | succ k ih =>
      intro h
      show (nextH s k (thereTo s k)).2.2 = 0
      have h' : (nextH s k (thereTo s k)).1 = 0 := h
      unfold nextH at h' ⊢
      split
      · rename_i hc
        rw [if_pos hc] at h'
        have := hc.1
        dsimp only at h'
        omega
      · rename_i hc
        rw [if_neg hc] at h'
        exact ih h'
  exact key 2
/-! ### a new disk -/
theorem newS_calm (n : Nat) : calmS (newS n) := ⟨rfl, rfl⟩
theorem newS_cleanD (n : Nat) : cleanD (newS n) := fun _ hb => List.eq_of_mem_replicate hb
theorem getD_rep {α : Type} (n k : Nat) (x : α) (d : α) : (List.replicate n x).getD k d = x ∨ (List.replicate n x).getD k d = d := by
  rw [List.getD_eq_getElem?_getD]
  rcases Nat.lt_or_ge k n with h | h
  · left; rw [List.getElem?_replicate, if_pos h]; rfl
  · right; rw [List.getElem?_replicate, if_neg (by omega)]; rfl
theorem of4_noughts : of4 (noughts 128) = 0 := by decide
theorem newS_there (n : Nat) : thereS (newS n) = (0, 0, 0) := by
  have key : ∀ k u, nextH (newS n) k u = u := fun k u => by
    unfold nextH
    rw [if_neg]
    rintro ⟨h, _⟩
    rcases getD_rep n k (noughts 128) [] with e | e
    · rw [show (newS n).now.getD k [] = noughts 128 from e, of4_noughts] at h; cases h
    · rw [show (newS n).now.getD k [] = [] from e] at h; cases h
  show nextH _ 1 (nextH _ 0 (0, 0, 0)) = _
  rw [key, key]
theorem newS_found (n : Nat) : foundS (newS n) = ([], []) := by unfold foundS; rw [newS_there]; rfl
theorem newS_size (n : Nat) : sizeS (newS n) = (n - 2) / 2 * 128 := by unfold sizeS halfS newS; rw [List.length_replicate]
theorem newS_open (n : Nat) (h : 256 ≤ sizeS (newS n)) : openE (newS n) = 0 ∧ openL (newS n) = ⟨0, 0, [], 0, false, false⟩ := by
  constructor
  · unfold openE; rw [if_neg (by omega)]; rfl
  · unfold openL; rw [newS_there]
end Go.Proofs.YtbegphfideopoaaGreat
