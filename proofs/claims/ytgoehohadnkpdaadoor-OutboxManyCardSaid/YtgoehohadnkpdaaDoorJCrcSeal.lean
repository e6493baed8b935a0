/-
  What is proved here: crc.sumBytes answers a sum's three bytes; slices.Grow, slices.Concat (of two) and slices.Clone on slices of bytes; crc.Seal answers the bytes with those of their sum behind. crc.Open answers the bytes ahead of the last three, and true, if the three are those of their sum; else none and false.
  Conditions: at most a thousand million bytes; the variable fourBits holds the sixteen words. at most a hundred million bytes; the variable fourBits holds the sixteen words.
-/
import Derived.Test.YtgoehohadnkpdaaDoorJCrcAdd
import Derived.Stop.BytesEq
import Derived.BigQuiet
import Derived.Deep.QuietTactic
import Derived.Lib.QuietBelow
namespace Go.Proofs.YtgoehohadnkpdaaDoor
open Go.RowKit

theorem sumB_cells (s : BitVec 32) : #[Value.int .u8 (n32 s / 65536 % 256), .int .u8 (n32 s / 256 % 256), .int .u8 (n32 s % 256)] = ((sumB s).map v8).toArray := by
  have h : ∀ a : Nat, ((a : Int) % 256) = n8 (UInt8.ofNat a) := fun a => by unfold n8; simp
  unfold sumB
  simp only [List.map_cons, List.map_nil]
  unfold v8
  rw [← h, ← h, ← h]
  simp [n32]
theorem Tryd.info128s : (Tryd.prog.info? 128).map (·.size) = some 3 := by kernel_rfl

set_option maxRecDepth 100000 in
theorem sumBytes_any (s : BitVec 32) (w : World) :
    Calls Tryd.prog 71 #[v32 s] w fun e w' => e = .returned (.agg ((sumB s).map v8).toArray) ∧ Below w.heap.size w w' := by
  have HS : Hid (_ = _) := sumB_cells s
  have hinfo : (Tryd.prog.info? 128).map (·.size) = some ((sumB s).map v8).toArray.size := Tryd.info128s
  go_enter Tryd.func71, Tryd.ntmps71
  go_wp2
  rw [HS.out]
  generalize hz : ((sumB s).map v8).toArray = bytes at *
  refine bodyPost_ret (v := .agg bytes) (results_cell_row Tryd.results71 _ _ w.heap.size 128 bytes (0, 0) _ rfl (Blk.new _ _ _) Tryd.underlying128 rfl hinfo) rfl ⟨rfl, ?_⟩
  exact (Below.refl _ _).alloc (Nat.le_refl _) _

set_option maxRecDepth 100000 in
theorem grow_any (n : Nat) (w : World) (hn : n ≤ 1000000000) :
    Calls Tryd.prog 82 #[.slice none 0 0, .int .i64 (n : Int)] w fun e w' => ∃ v, e = .returned v ∧ Own w' w.heap.size v [] ∧ Below w.heap.size w w' := by
  by_cases h0 : n = 0
  · subst h0
    go_enter Tryd.func82, Tryd.ntmps82
    go_wp2
    go_ret
    exact ⟨_, rfl, ⟨rfl, .inl ⟨rfl, rfl⟩⟩, Below.refl _ _⟩
  · have hby : Tryd.t5.bytes = 1 := rfl
    have hnc : Builtin.nextslicecap n 0 = n := nextslicecap_zero (by omega)
    have hge := grownCap_ge w n 0 5
    have hle := grownCap_le_maxLen w n 0 5 (by unfold maxLen; omega)
    unfold grownCap at hge hle
    go_enter Tryd.func82, Tryd.ntmps82
    go_wp2
    go_ret
    refine ⟨_, rfl, ⟨rfl, .inr ⟨w.heap.size, _, _, rfl, Nat.le_refl _, heap_alloc_new w _, Nat.zero_le _, hle, ?_, by simp⟩⟩, ?_⟩
    · simp [Builtin.zeroCells]; omega
    · exact ((Below.refl _ _).alloc (Nat.le_refl _) _).drew

theorem run_eql_nil_nil (w : World) (l c : Nat) : (binOp .eql 35 (.slice none l c) (.slice none 0 0)).run Tryd.prog w = .ok (.bool true) w := by
  have := run_equal_slice_nil (P := Tryd.prog) w 35 5 none l c Tryd.underlying35
  simp [binOp, this]
theorem run_eql_bytes_nil (w : World) (a : Addr) (l c : Nat) : (binOp .eql 35 (.slice (some a) l c) (.slice none 0 0)).run Tryd.prog w = .ok (.bool false) w := by
  have := run_equal_slice_nil (P := Tryd.prog) w 35 5 (some a) l c Tryd.underlying35
  simp [binOp, this]

set_option maxRecDepth 100000 in
theorem clone_any (x : Value) (bs : List UInt8) (w : World) (hm : bs.length ≤ 1000000000) (hseg : Seg w x bs) :
    Calls Tryd.prog 74 #[x] w fun e w' => ∃ v, e = .returned v ∧ Own w' w.heap.size v bs ∧ Below w.heap.size w w' := by
  obtain ⟨ao, c, rfl⟩ := hseg.shape
  cases ao with
  | none =>
    obtain ⟨hc, hn⟩ : bs = [] ∧ c = 0 := by
      rcases hseg with ⟨h, ao', c', h2, h3⟩ | ⟨b, off, c', h2, _⟩
      · simp only [Value.slice.injEq] at h2
        exact ⟨h, h2.2.2.trans (h3 h2.1.symm)⟩
      · simp at h2
    subst hc; subst hn
    have hne := run_eql_nil_nil w 0 0
    go_enter Tryd.func74, Tryd.ntmps74
    go_wp2
    go_ret
    exact ⟨_, rfl, ⟨rfl, .inl ⟨rfl, rfl⟩⟩, Below.refl _ _⟩
  | some ad =>
    have hne := run_eql_bytes_nil w ad bs.length c
    go_enter Tryd.func74, Tryd.ntmps74
    go_wp2_with (at_builtin; refine app_own _ rfl (.tmp 5) (.tmp 6) rfl w.heap.size _ [] rfl (by exact own_empty _ _ _ rfl (Nat.le_refl _)) _ bs rfl (by exact hseg.alloc _) (by simp; omega) (by simp) ?_; intro v2 w2 ho2 hg2 hv2; rw [List.nil_append] at ho2; have hB2 := below_grown ((Below.refl w.heap.size w).alloc (Nat.le_refl _) _) hg2 (by simp) (fun q hq => by have h2 : w.heap.size = q := Option.some.inj hq; omega))
    go_ret
    exact ⟨_, rfl, ho2, hB2⟩

set_option maxRecDepth 100000 in
set_option maxHeartbeats 1000000 in
theorem concat_any (g off : Nat) (v0 v1 : Value) (b0 b1 : List UInt8) (w : World) (hm : b0.length + b1.length ≤ 1000000000) (hg : g < w.heap.size) (hc0 : w.cell? ⟨g, off, none⟩ = some v0) (hc1 : w.cell? ⟨g, off + 1, none⟩ = some v1) (hs0 : Seg w v0 b0) (hs1 : Seg w v1 b1) :
    Calls Tryd.prog 73 #[.slice (some ⟨g, off, none⟩) 2 2] w fun e w' => ∃ v, e = .returned v ∧ Own w' w.heap.size v (b0 ++ b1) ∧ Below w.heap.size w w' := by
  obtain ⟨a0, c0, rfl⟩ := hs0.shape
  obtain ⟨a1, c1, rfl⟩ := hs1.shape
  go_enter Tryd.func73, Tryd.ntmps73
  have HG : Hid (∀ W : World, Calls Tryd.prog 82 #[.slice none 0 0, .int .i64 ((b0.length : Int) + (b1.length : Int))] W fun e w' => ∃ v, e = .returned v ∧ Own w' W.heap.size v [] ∧ Below W.heap.size W w') := fun W => by
    have := grow_any (b0.length + b1.length) W hm
    simpa using this
  go_wp2_with fail
  go_loop [3, 11] (fun n i => (i = .int .i64 0 ∧ n = .int .i64 0) ∨ (i = .int .i64 1 ∧ n = .int .i64 (b0.length : Int)) ∨ (i = .int .i64 2 ∧ n = .int .i64 ((b0.length : Int) + (b1.length : Int)))) (fun _ i => 2 - (intOf i).toNat)
  case atStart => exact .inl ⟨rfl, rfl⟩
  case round =>
    rcases hrel with ⟨rfl, rfl⟩ | ⟨rfl, rfl⟩ | ⟨rfl, rfl⟩
    · go_wp2
      go_round
      case rel => exact .inr (.inl ⟨rfl, rfl⟩)
      case measure => simp [intOf]
    · go_wp2
      go_round
      case rel => exact .inr (.inr ⟨rfl, rfl⟩)
      case measure => simp [intOf]
    · go_wp2_with fail
      refine (HG.out w).mono ?_
      rintro e w1 ⟨v1, rfl, ho1, hb1⟩
      clear HG
      go_wp2_with fail
      go_loopw [6, 27] (fun v i wr => Below w.heap.size w wr ∧ ((i = .int .i64 0 ∧ Own wr w.heap.size v []) ∨ (i = .int .i64 1 ∧ Own wr w.heap.size v b0) ∨ (i = .int .i64 2 ∧ Own wr w.heap.size v (b0 ++ b1)))) (fun _ i _ => 2 - (intOf i).toNat)
      case atStart => exact ⟨hb1, .inl ⟨rfl, ho1⟩⟩
      case round =>
        obtain ⟨hb, hr⟩ := hrel
        have hsz := hb.size
        have hc0' : wr.cell? ⟨g, off, none⟩ = some (Value.slice a0 b0.length c0) := by rw [hb.cell (p := ⟨g, off, none⟩) hg]; exact hc0
        have hc1' : wr.cell? ⟨g, off + 1, none⟩ = some (Value.slice a1 b1.length c1) := by rw [hb.cell (p := ⟨g, off + 1, none⟩) hg]; exact hc1
        have hs0' := hs0.below hb (Nat.le_refl _)
        have hs1' := hs1.below hb (Nat.le_refl _)
        rcases hr with ⟨rfl, ho⟩ | ⟨rfl, ho⟩ | ⟨rfl, ho⟩
        · go_wp2_with (at_builtin; refine app_own _ rfl (.tmp 31) (.tmp 32) rfl w.heap.size _ [] rfl ho _ b0 rfl hs0' (by simp; omega) hsz ?_; intro v2 w2 ho2 hg2 hv2; rw [List.nil_append] at ho2; have hB2 := below_grown hb hg2 hsz (fun q hq => (ho.blocks q hq).1); clear hg2 hv2)
          go_roundw
          case rel => exact ⟨hB2, .inr (.inl ⟨rfl, ho2⟩)⟩
          case measure => simp [intOf]
        · go_wp2_with (at_builtin; refine app_own _ rfl (.tmp 31) (.tmp 32) rfl w.heap.size _ b0 rfl ho _ b1 rfl hs1' (by omega) hsz ?_; intro v2 w2 ho2 hg2 hv2; have hB2 := below_grown hb hg2 hsz (fun q hq => (ho.blocks q hq).1); clear hg2 hv2)
          go_roundw
          case rel => exact ⟨hB2, .inr (.inr ⟨rfl, ho2⟩)⟩
          case measure => simp [intOf]
        · go_wp2
          go_ret
          exact ⟨_, rfl, ho, hb⟩

set_option maxRecDepth 100000 in
set_option maxHeartbeats 1000000 in
theorem seal_any (x : Value) (bs : List UInt8) (w : World) (hm : bs.length ≤ 100000000) (hseg : Seg w x bs) (hgf : 1 < w.heap.size) (hf : Tab w 1 (fours.map v32)) :
    Calls Tryd.prog 53 #[x] w fun e w' => ∃ v, e = .returned v ∧ Own w' w.heap.size v (bs ++ sumB (crcOf bs)) ∧ Below w.heap.size w w' := by
  obtain ⟨ao, c, rfl⟩ := hseg.shape
  go_enter Tryd.func53, Tryd.ntmps53
  go_wp2_with fail
  refine (csum_any _ bs _ (by omega) hseg hf).mono ?_
  rintro e w1 ⟨rfl, rfl⟩
  go_wp2_with fail
  refine (sumBytes_any _ _).mono ?_
  rintro e w2 ⟨rfl, hb2⟩
  have hl3 : (sumB (crcOf bs)).length = 3 := rfl
  have hi3 : (Tryd.prog.info? 128).map (·.size) = some ((sumB (crcOf bs)).map v8).toArray.size := Tryd.info128s
  have hone := one8 (sumB (crcOf bs))
  have HST : Hid ((#[Value.int .u8 0, .int .u8 0, .int .u8 0] : Array Value).size = ((sumB (crcOf bs)).map v8).toArray.size) := rfl
  obtain ⟨SB, hSB⟩ : ∃ SB, SB = sumB (crcOf bs) := ⟨_, rfl⟩
  have HSB : Hid (SB = sumB (crcOf bs)) := hSB
  rw [← hSB] at hl3 hi3 hone HST ⊢
  clear hSB
  go_wp2_with (refine store_blk rfl 128 _ _ rfl rfl _ (SB.map v8).toArray rfl rfl 128 _ (by exact Blk.new _ _ _) hi3 (by exact HST.out) hone ?_; intro w3 hb3 hg3 hs3)
  have s2 := hb2.size
  simp only [World.size_alloc] at hs3
  have hB3 := below_grown (hb2.alloc s2 _) hg3 (by simp; omega) (fun q hq => by cases hq; exact s2)
  have hb4 : Blk (w3.alloc (Obj.cells #[Value.slice ao bs.length c, Value.slice (some ⟨w2.heap.size, 0, none⟩) 3 3] 35)) (w2.heap.size + 1) 35 #[Value.slice ao bs.length c, Value.slice (some ⟨w2.heap.size, 0, none⟩) 3 3] := Blk.newAt _ _ _ _ hs3.symm
  refine (concat_any (w2.heap.size + 1) 0 _ _ bs SB _ (by omega) hb4.lt (hb4.cell rfl) (hb4.cell rfl) ((hseg.below hB3 (Nat.le_refl _)).alloc _) ((Seg.of_row hb3.row hl3 (Nat.le_refl _) hb3.lt).alloc _)).mono ?_
  rintro e w5 ⟨v5, rfl, ho5, hb5⟩
  go_wp2
  go_ret
  refine ⟨_, rfl, ?_, ?_⟩
  · rw [← HSB.out]
    exact ho5.mono (by simp; omega)
  · exact (hB3.alloc (by omega) _).trans (hb5.mono (by simp; omega))
end Go.Proofs.YtgoehohadnkpdaaDoor
namespace Go.Proofs.YtgoehohadnkpdaaDoor
open Go.RowKit

/-- The bytes that bs is the Seal of. -/
def openOf (bs : List UInt8) : Option (List UInt8) := if bs.length < 3 then none else if bs.take (bs.length - 3) ++ sumB (crcOf (bs.take (bs.length - 3))) = bs then some (bs.take (bs.length - 3)) else none

theorem openOf_yes (bs : List UInt8) (h : ¬ bs.length < 3) (he : sumB (crcOf (bs.take (bs.length - 3))) = bs.drop (bs.length - 3)) : openOf bs = some (bs.take (bs.length - 3)) := by
  unfold openOf; rw [if_neg h, he, List.take_append_drop, if_pos rfl]
theorem openOf_no (bs : List UInt8) (h : ¬ bs.length < 3) (he : ¬ sumB (crcOf (bs.take (bs.length - 3))) = bs.drop (bs.length - 3)) : openOf bs = none := by
  unfold openOf; rw [if_neg h, if_neg]
  intro h2
  apply he
  have := congrArg (List.drop (bs.length - 3)) h2
  rwa [List.drop_left' (by simp)] at this
theorem array_at (ad : Addr) (c : Nat) (w : World) : (Instr.arrayAt 128 (.slice (some ad) 3 c)).run Tryd.prog w = .ok (.pointer (some ad)) w := by
  simp [Instr.arrayAt, run_underlying Tryd.underlying128]
/-- A whole array is read in every world of the class. -/
theorem quiet_load {P : Program} {ops : Array Oper} {C : World → Prop} {Q : Act → Prop} {a : Act} {o : Oper} {rest : List Oper} (hgd : o.guard = none) (ty : TypeId) (x : Operand) (ho : o.op = .load ty x)
    (b off : Nat) (hx : a.eval x = .pointer (some ⟨b, off, none⟩)) (cs : List Value) (d : TypeDesc) (hc : ∀ w, C w → w.rangeAt b off cs)
    (hu : P.underlying ty = some d) (hd : d.isRow = true) (hi : (P.info? ty).map (·.size) = some cs.length)
    (h : wpQuiet P ops C Q rest (a.put o.dst (.agg cs.toArray))) : wpQuiet P ops C Q (o :: rest) a := by
  refine wpQuiet_step fun K hK => ?_
  rw [if_pos (by simp [Region.wanted, hgd])]
  refine ⟨.agg cs.toArray, fun w hw => ?_, hK _ h⟩
  unfold Oper.quietAt execOp
  simp only [ho, hx, Instr.loadAt, Instr.sureAddr, Sem.run_bind, Sem.run_pure, Result.andThen_ok, run_loadVar_mid w b off ty cs d (hc w hw) hu hd hi, Oper.quietUpon]
  exact ⟨trivial, trivial⟩
theorem three_of {l : List UInt8} (h : l.length = 3) : ∃ a b c, l = [a, b, c] := by
  match l, h with
  | [a, b, c], _ => exact ⟨a, b, c, rfl⟩

set_option maxRecDepth 100000 in
set_option maxHeartbeats 1000000 in
theorem open_any (x : Value) (bs : List UInt8) (w : World) (hm : bs.length ≤ 100000000) (hseg : Seg w x bs) (hgf : 1 < w.heap.size) (hf : Tab w 1 (fours.map v32)) :
    Calls Tryd.prog 58 #[x] w fun e w' => ∃ v, e = .returned (.tuple #[v, .bool (openOf bs).isSome]) ∧ Own w' w.heap.size v ((openOf bs).getD []) ∧ Below w.heap.size w w' := by
  obtain ⟨ao, c, rfl⟩ := hseg.shape
  by_cases h3 : bs.length < 3
  · have hO : openOf bs = none := by unfold openOf; rw [if_pos h3]
    rw [hO]
    go_enter Tryd.func58, Tryd.ntmps58
    go_wp2
    go_ret2
    exact ⟨_, rfl, ⟨rfl, .inl ⟨rfl, rfl⟩⟩, Below.refl _ _⟩
  obtain ⟨b, off, rfl, hc, hr, hb⟩ := hseg.form (by omega)
  have hsub : IntKind.i64.wrap ((bs.length : Int) - 3) = ((bs.length - 3 : Nat) : Int) := by rw [IntKind.wrap_i64]; omega
  have l1 := slice_to (some ⟨b, off, none⟩) bs.length c (bs.length - 3) (by omega)
  have l2 := slice_from b off bs.length c (bs.length - 3) (by omega) (by omega)
  rw [show bs.length - (bs.length - 3) = 3 by omega] at l2
  go_enter Tryd.func58, Tryd.ntmps58
  go_wp2_with fail
  go_quiet (fail)
  go_wp2_with fail
  obtain ⟨W, hW⟩ : ∃ W, W = w.drewN nq := ⟨_, rfl⟩
  rw [← hW]
  have hBW : Below w.heap.size w W := by rw [hW]; exact Below.drewN (Below.refl _ _) _
  clear hW l1 l2 hsub
  have hsT := ((hseg.below hBW (Nat.le_refl _)).takes (bs.length - 3) (by omega)).1
  have hfW := hf.below hBW hgf
  obtain ⟨t0, t1, t2, hT3⟩ := three_of (l := bs.drop (bs.length - 3)) (by simp; omega)
  have hrd := (hr.below hBW hb).drop (bs.length - 3)
  rw [hT3] at hrd
  have hrg : Hid (∀ w, (∃ p : Regrown, w = Sort.grow (redrawn W p.d) p.os) → w.rangeAt b (off + (bs.length - 3)) [v8 t0, v8 t1, v8 t2]) := by
    rintro w2 ⟨p, rfl⟩ j u hu
    have hj : j < [t0, t1, t2].length := by
      have := (List.getElem?_eq_some_iff.1 hu).1
      simpa using this
    have := (hrd.below (below_regrown W p.d p.os) (Nat.lt_of_lt_of_le hb hBW.size)) j hj
    rw [this, ← hu]
    obtain rfl | rfl | rfl : j = 0 ∨ j = 1 ∨ j = 2 := by simp at hj; omega
    all_goals rfl
  have HO : Hid ((sumB (crcOf (bs.take (bs.length - 3))) = [t0, t1, t2] → openOf bs = some (bs.take (bs.length - 3))) ∧ (¬ sumB (crcOf (bs.take (bs.length - 3))) = [t0, t1, t2] → openOf bs = none)) := ⟨fun h => openOf_yes bs h3 (h.trans hT3.symm), fun h => openOf_no bs h3 (fun h2 => h (h2.trans hT3))⟩
  have hlT : (bs.take (bs.length - 3)).length ≤ 1000000000 := by simp; omega
  clear hrd hT3
  generalize bs.take (bs.length - 3) = T at hsT HO hlT
  have cS : ∀ d os, Calls Tryd.prog 72 #[.slice (some ⟨b, off, none⟩) (bs.length - 3) c] (Sort.grow (redrawn W d) os) fun e w'' => e = .returned (v32 (crcOf T)) ∧ ∃ p : Regrown, w'' = Sort.grow (redrawn W p.d) p.os := fun d os => Calls.regrown_of ((csum_any _ T _ hlT (hsT.below (below_regrown W d os) (Nat.le_refl _)) (hfW.below (below_regrown W d os) (Nat.lt_of_lt_of_le hgf hBW.size))).mono fun _ _ ⟨h1, h2⟩ => ⟨h1, h2 ▸ Below.refl _ _⟩)
  have cB : ∀ d os, Calls Tryd.prog 71 #[v32 (crcOf T)] (Sort.grow (redrawn W d) os) fun e w'' => e = .returned (.agg ((sumB (crcOf T)).map v8).toArray) ∧ ∃ p : Regrown, w'' = Sort.grow (redrawn W p.d) p.os := fun d os => Calls.regrown_of (sumBytes_any _ _)
  have heq : ∀ w : World, (Op.equalIn 10000 128 (.agg ((sumB (crcOf T)).map v8).toArray) (.agg #[v8 t0, v8 t1, v8 t2])).run Tryd.prog w = .ok (sumB (crcOf T) == [t0, t1, t2]) w := fun w =>
    run_equalIn_bytes (P := Tryd.prog) w 9998 128 5 3 Tryd.underlying128 Tryd.underlying5 (fun w => by kernel_rfl) (sumB (crcOf T)) [t0, t1, t2] rfl rfl
  have hat := array_at ⟨b, off + (bs.length - 3), none⟩ (c - (bs.length - 3))
  generalize crcOf T = S at *
  generalize hAG : ((sumB S).map v8).toArray = AG at *
  refine wp_region_quiet_below (by kernel_rfl) (by kernel_rfl) ?_
  quiet_step (fail)
  quiet_step (exact cS _ _)
  quiet_step (exact cB _ _)
  quiet_step (fail)
  quiet_step (fail)
  refine quiet_load rfl 128 _ rfl b (off + (bs.length - 3)) rfl [v8 t0, v8 t1, v8 t2] _ hrg.out Tryd.underlying128 rfl Tryd.info128s ?_
  quiet_step (fail)
  refine wpQuiet_nil ?_
  intro WQ hw'
  have hBQ : Below w.heap.size w WQ := by
    obtain ⟨p, rfl⟩ := hw'
    exact hBW.trans ((below_regrown W p.d p.os).mono hBW.size)
  clear hw' cS cB heq hat hrg hfW hsT
  obtain ⟨EQ, hEQ⟩ : ∃ EQ, EQ = (sumB S == [t0, t1, t2]) := ⟨_, rfl⟩
  rw [← hEQ]
  by_cases hE : sumB S = [t0, t1, t2]
  · have hO := HO.out.1 hE
    obtain rfl : EQ = true := by rw [hEQ]; simp [hE]
    have hsT : Seg WQ (.slice (some ⟨b, off, none⟩) (bs.length - 3) c) T := by
      have h := ((hseg.below hBQ (Nat.le_refl _)).takes (bs.length - 3) (by omega)).1
      have hT : openOf bs = some (bs.take (bs.length - 3)) := by
        unfold openOf at hO ⊢
        rw [if_neg h3] at hO ⊢
        split at hO
        · rename_i h5; rw [if_pos h5]
        · cases hO
      rw [Option.some.inj (hO.symm.trans hT)]; exact h
    have HC : Hid (Calls Tryd.prog 74 #[.slice (some ⟨b, off, none⟩) (bs.length - 3) c] WQ fun e w' => ∃ v, e = .returned v ∧ Own w' WQ.heap.size v T ∧ Below WQ.heap.size WQ w') := clone_any _ T WQ hlT hsT
    clear HO hE hEQ
    go_wp2_with fail
    refine HC.out.mono ?_
    rintro e w4 ⟨v4, rfl, ho4, hb4⟩
    go_wp2
    go_ret2
    rw [hO]
    exact ⟨_, rfl, ho4.mono hBQ.size, hBQ.trans (hb4.mono hBQ.size)⟩
  · have hO := HO.out.2 hE
    obtain rfl : EQ = false := by rw [hEQ]; simp [hE]
    clear HO hEQ
    go_wp2
    go_ret2
    rw [hO]
    exact ⟨_, rfl, ⟨rfl, .inl ⟨rfl, rfl⟩⟩, hBQ⟩
end Go.Proofs.YtgoehohadnkpdaaDoor
