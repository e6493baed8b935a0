/-
  What is proved here: the document's start and k answer the words that SHA-256 begins with and those of its rounds; sha.New is a hash of nothing; Len tells how many bytes were written. plain facts on a hash that goes on: its cells, what a text leaves in it, how it is written, put down and taken up; and laws of copy and of stores into the middle of a block. of every word of 32 bits, sha.turn, sha.turns, bits.RotateLeft32 and the document's rotr turn it right by so many bits. sha.number answers the number of at most eight bytes, the highest first.
  Conditions: of sha.New, that the variable firstWords holds the first words. those that each fact names. the number of bits lies between 1 and 31. the slice is not nil and has at most eight bytes.
-/
import Derived.Test.YthophonofaaafaaDoorProg
import Derived.Test.YthophonofaaafaaDoorJShaPure
import Derived.Laws.CopyOwn
import Derived.StillTailTactics
import Derived.Deep.RegionHeld3
import Derived.WalkKit
import Derived.WalkSpells
import Derived.WalkLawsBesides
namespace Go.Proofs.YthophonofaaafaaDoor
open Go.RowKit

theorem Tryd.info68s : (Tryd.prog.info? 68).map (·.size) = some 8 := by kernel_rfl
theorem Tryd.info95s : (Tryd.prog.info? 95).map (·.size) = some 64 := by kernel_rfl

/-- The cells of a hash that goes on: its words, what is no whole block yet with noughts behind, how many bytes were written. -/
def hashCells (s : St) (part : List UInt8) (len : Nat) : Array Value := ((s.list.map v32) ++ ((part.map v8) ++ [Value.int .u64 (len : Int)])).toArray

set_option maxRecDepth 100000 in
set_option maxHeartbeats 400000 in
theorem start_any (w : World) :
    Calls Tryd.prog 47 #[] w fun e w' => e = .returned (.agg (St.start.list.map v32).toArray) ∧ Below w.heap.size w w' := by
  go_enter Tryd.func47, Tryd.ntmps47
  go_wp2
  exact bodyPost_ret (v := .agg (St.start.list.map v32).toArray) (results_cell_row Tryd.results47 _ _ w.heap.size 68 _ (0, 0) _ rfl (Blk.new _ _ _) Tryd.underlying68 rfl Tryd.info68s) rfl ⟨rfl, (Below.refl _ _).alloc (Nat.le_refl _) _⟩
set_option maxRecDepth 100000 in
set_option maxHeartbeats 400000 in
theorem k_any (w : World) :
    Calls Tryd.prog 67 #[] w fun e w' => e = .returned (.agg (kWords.map v32).toArray) ∧ Below w.heap.size w w' := by
  go_enter Tryd.func67, Tryd.ntmps67
  go_wp2_with (first | (refine wpList_build rfl 95 _ rfl (by kernel_rfl) ?_) | (refine wpList_store_row rfl 95 _ _ rfl w.heap.size (kWords.map v32).toArray rfl (by kernel_rfl) 95 _ (Blk.new _ _ _) Tryd.info95s (by rfl) (one32 _) ?_))
  exact bodyPost_ret (v := .agg (kWords.map v32).toArray) (results_cell_row Tryd.results67 _ _ w.heap.size 95 _ (0, 0) _ rfl ((Blk.new _ _ _).setRow _) Tryd.underlying95 rfl Tryd.info95s) rfl ⟨rfl, Below.setRow ((Below.refl _ _).alloc (Nat.le_refl _) _) _ _ (Nat.le_refl _)⟩

theorem build_as {w : World} {ops : Array Oper} {rest : List Oper} {o : Oper} {a : Act} {Q : Exit → Act → World → Prop} (hg : o.guard = none) (t : TypeId) (parts : Array (Nat × Operand)) (ho : o.op = .build t parts) (arr : Array Value)
    (hb0 : Tryd.prog.built t (parts.toList.map fun p => (p.1, a.eval p.2)) = some arr) (h : wpList Tryd.prog ops Q rest (a.put o.dst (.agg arr)) w) : wpList Tryd.prog ops Q (o :: rest) a w := by
  have hb : Tryd.prog.built t (parts.map fun (i, x) => (i, a.eval x)).toList = some arr := by rw [Array.toList_map]; exact hb0
  exact wpList_build hg t parts ho (by rw [hb]; rfl) (by rw [hb]; exact h)
theorem built_start : Tryd.prog.built 101 [(0, .agg (St.start.list.map v32).toArray)] = some (hashCells St.start (List.replicate 64 0) 0) := by kernel_rfl
theorem built_len (n : Int) : Tryd.prog.built 101 [(2, .int .u64 n)] = some ((((List.replicate 8 0#32).map v32) ++ (((List.replicate 64 (0 : UInt8)).map v8) ++ [Value.int .u64 n])).toArray) := by kernel_rfl

set_option maxRecDepth 100000 in
set_option maxHeartbeats 400000 in
theorem new_any (w : World) (ht : Tab w 0 (St.start.list.map v32)) :
    Calls Tryd.prog 51 #[] w fun e w' => e = .returned (.pointer (some ⟨w.heap.size, 0, none⟩)) ∧ w' = w.alloc (.cells (hashCells St.start (List.replicate 64 0) 0) 101) := by
  go_enter Tryd.func51, Tryd.ntmps51
  go_wp2_with (first | (refine wpList_load_mid rfl 68 _ rfl 0 0 rfl (St.start.list.map v32) _ (fun j v h => by simpa using ht j v h) Tryd.underlying68 rfl Tryd.info68s ?_) | (refine build_as rfl 101 _ rfl (hashCells St.start (List.replicate 64 0) 0) (by exact built_start) ?_))
  go_ret
  exact ⟨rfl, rfl⟩
end Go.Proofs.YthophonofaaafaaDoor
namespace Go.Proofs.YthophonofaaafaaDoor
open Go.RowKit

/-- The words behind k whole blocks of a text. -/
def blocks (s : St) (d : List UInt8) : Nat → St
  | 0 => s
  | k + 1 => compress (blocks s d k) ((d.drop (64 * k)).take 64)
/-- The words behind all whole blocks; what is left; what is left with noughts behind. -/
def wordsOf (s : St) (d : List UInt8) : St := blocks s d (d.length / 64)
def restOf (d : List UInt8) : List UInt8 := d.drop (64 * (d.length / 64))
def pad64 (p : List UInt8) : List UInt8 := p ++ List.replicate (64 - p.length) 0
/-- The hash at block g to which the text d was written, from the words s on; len is what it tells of its length. -/
def HashAt (w : World) (g : Nat) (s : St) (d : List UInt8) (len : Nat) : Prop := Blk w g 101 (hashCells (wordsOf s d) (pad64 (restOf d)) len)

theorem blocks_congr (s : St) (d e : List UInt8) (k : Nat) (h : d.take (64 * k) = e.take (64 * k)) : blocks s d k = blocks s e k := by
  induction k with
  | zero => rfl
  | succ k ih =>
    have hk : d.take (64 * k) = e.take (64 * k) := by
      have := congrArg (List.take (64 * k)) h
      simpa [List.take_take, show min (64 * k) (64 * (k + 1)) = 64 * k by omega] using this
    have hb : (d.drop (64 * k)).take 64 = (e.drop (64 * k)).take 64 := by
      have := congrArg (List.drop (64 * k)) h
      rw [List.drop_take, List.drop_take, show 64 * (k + 1) - 64 * k = 64 by omega] at this
      exact this
    rw [blocks, blocks, ih hk, hb]
theorem restOf_len (d : List UInt8) : (restOf d).length = d.length % 64 := by simp [restOf]; omega
theorem pad64_len (p : List UInt8) (h : p.length ≤ 64) : (pad64 p).length = 64 := by simp [pad64]; omega

/-- A text grows by less than the rest of a block. -/
theorem write_less (s : St) (d c : List UInt8) (h : d.length % 64 + c.length < 64) : wordsOf s (d ++ c) = wordsOf s d ∧ restOf (d ++ c) = restOf d ++ c := by
  have hq : (d ++ c).length / 64 = d.length / 64 := by simp; omega
  refine ⟨?_, ?_⟩
  · unfold wordsOf; rw [hq]
    exact blocks_congr s _ _ _ (List.take_append_of_le_length (by omega))
  · unfold restOf; rw [hq, List.drop_append_of_le_length (by omega)]
/-- A text grows by just the rest of a block. -/
theorem write_full (s : St) (d c : List UInt8) (h : d.length % 64 + c.length = 64) : wordsOf s (d ++ c) = compress (wordsOf s d) (restOf d ++ c) ∧ restOf (d ++ c) = [] := by
  have hq : (d ++ c).length / 64 = d.length / 64 + 1 := by simp; omega
  refine ⟨?_, ?_⟩
  · unfold wordsOf restOf; rw [hq, blocks, blocks_congr s (d ++ c) d _ (List.take_append_of_le_length (by omega)), List.drop_append_of_le_length (by omega), List.take_of_length_le (by simp; omega)]
  · unfold restOf; rw [hq]; exact List.drop_eq_nil_of_le (by simp; omega)

theorem hash_size (s : St) (p : List UInt8) (n : Nat) (h : p.length = 64) : (hashCells s p n).size = 73 := by simp [hashCells, St.list, h]
theorem hash_copy (s : St) (p c : List UInt8) (n q : Nat) (hp : p.length = 64) (hq : q + c.length ≤ 64) :
    (splice (hashCells s p n).toList (8 + q) (c.map v8)).toArray = hashCells s (splice p q c) n := by
  unfold hashCells splice
  congr 1
  have h8 : (s.list.map v32).length = 8 := rfl
  rw [List.toList_toArray, List.take_append, h8, List.take_of_length_le (by rw [h8]; omega), show 8 + q - 8 = q by omega]
  rw [List.drop_append, h8, List.drop_eq_nil_of_le (by rw [h8]; omega), List.nil_append, List.length_map, show 8 + q + c.length - 8 = q + c.length by omega]
  rw [List.take_append_of_le_length (by simp; omega), List.drop_append_of_le_length (by simp; omega)]
  simp [List.append_assoc]
theorem hash_len (s : St) (p : List UInt8) (n m : Nat) (hp : p.length = 64) : (hashCells s p n).setIfInBounds 72 (.int .u64 (m : Int)) = hashCells s p m := by
  unfold hashCells
  rw [List.setIfInBounds_toArray, List.set_append_right _ _ (by simp [St.list])]
  rw [List.set_append_right _ _ (by simp [St.list, hp])]
  simp [St.list, hp]
theorem hash_part (s : St) (p p' : List UInt8) (n : Nat) (hp : p.length = 64) (hp' : p'.length = 64) : (splice (hashCells s p n).toList 8 (p'.map v8)).toArray = hashCells s p' n := by
  have := hash_copy s p p' n 0 hp (by omega)
  rw [Nat.add_zero] at this
  rw [this]; unfold splice
  rw [List.take_zero, List.nil_append, List.drop_eq_nil_of_le (by omega), List.append_nil]
theorem hash_words (s s' : St) (p : List UInt8) (n : Nat) :
    ((((((((hashCells s p n).setIfInBounds 0 (v32 s'.a)).setIfInBounds 1 (v32 s'.b)).setIfInBounds 2 (v32 s'.c)).setIfInBounds 3 (v32 s'.d)).setIfInBounds 4 (v32 s'.e)).setIfInBounds 5 (v32 s'.f)).setIfInBounds 6 (v32 s'.g)).setIfInBounds 7 (v32 s'.h) = hashCells s' p n := by
  unfold hashCells St.list; simp
theorem hash_words_splice (s s' : St) (p : List UInt8) (n : Nat) : (splice (hashCells s p n).toList 0 (s'.list.map v32).toArray.toList).toArray = hashCells s' p n := by
  unfold hashCells splice
  have h8 : (s.list.map v32).length = 8 := rfl
  have h8' : (s'.list.map v32).length = 8 := rfl
  rw [List.toList_toArray, List.toList_toArray, List.take_zero, List.nil_append, h8', Nat.zero_add, List.drop_append, h8, List.drop_eq_nil_of_le (by rw [h8]; omega), List.nil_append]
  rfl
theorem pad_splice (p c : List UInt8) (h : p.length + c.length ≤ 64) : splice (pad64 p) p.length c = pad64 (p ++ c) := by
  unfold splice pad64
  rw [List.take_append_of_le_length (by omega), List.take_length, List.drop_append, List.drop_eq_nil_of_le (by omega), List.nil_append, List.drop_replicate]
  rw [List.append_assoc, List.length_append, show 64 - p.length - (p.length + c.length - p.length) = 64 - (p.length + c.length) by omega]
theorem pad_full (p : List UInt8) (h : p.length = 64) : pad64 p = p := by simp [pad64, h]

/-- Cells stored into a block. -/
theorem Blk.setCells {g : Nat} {t : TypeId} : ∀ (vs : List Value) (o : Nat) (w : World) (arr : Array Value), Blk w g t arr → o + vs.length ≤ arr.size → Blk (w.setCells g o vs) g t (splice arr.toList o vs).toArray
  | [], o, w, arr, h, _ => h.of_eq (by simp [splice])
  | v :: vs, o, w, arr, h, hl => by
    rw [World.setCells]
    refine (Blk.setCells vs (o + 1) _ _ (h.set o v) (by simp at hl ⊢; omega)).of_eq ?_
    congr 1
    unfold splice
    simp only [List.length_cons] at hl ⊢
    rw [Array.toList_setIfInBounds, List.take_set, List.drop_set_of_lt (by omega), List.take_succ_eq_append_getElem (by simpa using (show o < arr.size by omega))]
    rw [List.set_append_right _ _ (by simp; omega), show o + 1 + vs.length = o + (vs.length + 1) by omega]
    simp [show min o arr.size = o by omega]
theorem grown_setCells (g : Nat) : ∀ (vs : List Value) (o : Nat) (w : World), w.grownBy (w.setCells g o vs) (some g) ∧ (w.setCells g o vs).heap.size = w.heap.size
  | [], _, w => ⟨⟨rfl, rfl, rfl, Nat.le_refl _, fun _ _ _ => rfl⟩, rfl⟩
  | v :: vs, o, w => by
    rw [World.setCells]
    obtain ⟨h1, h2⟩ := grown_setCells g vs (o + 1) (w.setCell ⟨g, o, none⟩ v)
    have hs : (w.setCell ⟨g, o, none⟩ v).heap.size = w.heap.size := by simp
    refine ⟨⟨h1.os, h1.tape, h1.output, by rw [h2, hs]; exact Nat.le_refl _, fun k hk hne => ?_⟩, h2.trans hs⟩
    rw [h1.block k (by rw [hs]; exact hk) hne]
    exact Below.heap_setCell w ⟨g, o, none⟩ v k (fun e => hne (by rw [e]))

/-- A region that draws its order, whose first n operations only read: they are walked in the text's order, the others behind them. -/
theorem region_tail {id : Nat} {Q : Exit → Act → World → Prop} {a : Act} {w : World} {l : List Oper} (n : Nat) (hm : Tryd.prog.follows .mixedOrders = true) (hB : Region.lexTailB .any l.toArray n = true)
    (h : wpStill Tryd.prog l.toArray w.drew (fun a' => wpList Tryd.prog l.toArray Q (l.drop n) a' w.drew) (l.take n) a) : (Code.region id l.toArray true).wp Tryd.prog Q a w := wp_region_still_tail n hm hB h
/-- An operation that yields its value in whatever world is taken first. -/
theorem any_take {ops : Array Oper} {Q : Exit → Act → World → Prop} {fuel : Nat} {listed : Array Bool} {a : Act} {w : World} (i d : Nat) (o : Oper) (v : Value) (hi : ops[i]? = some o) (hd : o.dst = some d)
    (hs : Region.noSelect ops = true) (hf : Region.free .any ops listed i = true) (hr : (Region.ready .any ops listed).contains i = true) (hg : o.guard = none) (hrun : ∀ w, (execOp a.eval o).run Tryd.prog w = .ok (.value v) w)
    (h : wpAny Tryd.prog .any ops (NoPanic Q) fuel (listed.setIfInBounds i true) (a.put (some d) v) w) : wpAny Tryd.prog .any ops (NoPanic Q) (fuel + 1) listed a w :=
  wpAny_take hi hs hf hr (fun _ _ _ h => h) (.inl ⟨by simp [Region.wanted, hg], hrun⟩) (by rw [hd]; exact h)
theorem wpOp_value {ops : Array Oper} {Q : Exit → Act → World → Prop} {i : Nat} {o : Oper} {v : Value} {K : Act → World → Prop} {a : Act} {w : World} (hi : ops[i]? = some o) (hg : o.guard = none) (hrun : (execOp a.eval o).run Tryd.prog w = .ok (.value v) w) (h : K (a.put o.dst v) w) : wpOp Tryd.prog ops Q i K a w := by
  have hw : Region.wanted o (yielded ops a.tmps) = true := by simp [Region.wanted, hg]
  unfold wpOp
  simp only [hi, hw, if_true]
  unfold Oper.wp
  rw [hrun]
  exact .inl h
/-- Two operations that read the world at hand come up in either order. -/
theorem any_two {ops : Array Oper} {Q : Exit → Act → World → Prop} {fuel : Nat} {listed : Array Bool} {a : Act} {w : World} (i j di dj : Nat) (oi oj : Oper) (vi vj : Value) (hi : ops[i]? = some oi) (hj : ops[j]? = some oj) (hdi : oi.dst = some di) (hdj : oj.dst = some dj) (hgi : oi.guard = none) (hgj : oj.guard = none)
    (hr : Region.ready .any ops listed = [i, j]) (hri : Region.ready .any ops (listed.setIfInBounds i true) = [j]) (hrj : Region.ready .any ops (listed.setIfInBounds j true) = [i])
    (r1 : (execOp a.eval oi).run Tryd.prog w = .ok (.value vi) w) (r2 : (execOp (a.put (some di) vi).eval oj).run Tryd.prog w = .ok (.value vj) w) (r3 : (execOp a.eval oj).run Tryd.prog w = .ok (.value vj) w) (r4 : (execOp (a.put (some dj) vj).eval oi).run Tryd.prog w = .ok (.value vi) w)
    (hl : (listed.setIfInBounds j true).setIfInBounds i true = (listed.setIfInBounds i true).setIfInBounds j true) (hp : (a.put (some dj) vj).put (some di) vi = (a.put (some di) vi).put (some dj) vj)
    (h : wpAny Tryd.prog .any ops Q fuel ((listed.setIfInBounds i true).setIfInBounds j true) ((a.put (some di) vi).put (some dj) vj) w) : wpAny Tryd.prog .any ops Q (fuel + 1 + 1) listed a w := by
  refine wpAny_all hr (by simp) fun k hk => ?_
  simp only [List.mem_cons, List.not_mem_nil, or_false] at hk
  rcases hk with rfl | rfl
  · refine wpOp_value hi hgi r1 ?_
    rw [hdi]
    refine wpAny_all hri (by simp) fun k hk => ?_
    obtain rfl : k = j := by simpa using hk
    exact wpOp_value hj hgj r2 (by rw [hdj]; exact h)
  · refine wpOp_value hj hgj r3 ?_
    rw [hdj]
    refine wpAny_all hrj (by simp) fun k hk => ?_
    obtain rfl : k = i := by simpa using hk
    exact wpOp_value hi hgi r4 (by rw [hdi, hl, hp]; exact h)
/-- The operations from number k on come up one behind the other. -/
theorem any_tail {Q : Exit → Act → World → Prop} {listed : Array Bool} {a : Act} {w : World} {l : List Oper} {fuel : Nat} (k : Nat) (hf : (l.drop k).length = fuel) (hB : Region.seqB .any l.toArray fuel k listed = true)
    (h : wpList Tryd.prog l.toArray Q (l.drop k) a w) : wpAny Tryd.prog .any l.toArray Q fuel listed a w := by
  subst hf
  exact wpAny_of_seq (l.drop k) k listed a w (fun j => by simp [List.getElem?_drop]) hB h
theorem exec_load {a : Act} {o : Oper} {w : World} (ty : TypeId) (x : Operand) (ho : o.op = .load ty x)
    (b off : Nat) (hx : a.eval x = .pointer (some ⟨b, off, none⟩)) (cs : List Value) (d : TypeDesc) (hc : w.rangeAt b off cs)
    (hu : Tryd.prog.underlying ty = some d) (hd : d.isRow = true) (hi : (Tryd.prog.info? ty).map (·.size) = some cs.length) : (execOp a.eval o).run Tryd.prog w = .ok (.value (.agg cs.toArray)) w := by
  unfold execOp
  simp only [ho, hx, Instr.loadAt, Instr.sureAddr, Sem.run_bind, Sem.run_pure, Result.andThen_ok, run_loadVar_mid w b off ty cs d hc hu hd hi]
theorem still_load {P : Program} {ops : Array Oper} {w : World} {Q : Act → Prop} {a : Act} {o : Oper} {rest : List Oper} (hgd : o.guard = none) (ty : TypeId) (x : Operand) (ho : o.op = .load ty x)
    (b off : Nat) (hx : a.eval x = .pointer (some ⟨b, off, none⟩)) (cs : List Value) (d : TypeDesc) (hc : w.rangeAt b off cs)
    (hu : P.underlying ty = some d) (hd : d.isRow = true) (hi : (P.info? ty).map (·.size) = some cs.length)
    (h : wpStill P ops w Q rest (a.put o.dst (.agg cs.toArray))) : wpStill P ops w Q (o :: rest) a := by
  refine wpStill_step fun K hK => ?_
  rw [if_pos (by simp [Region.wanted, hgd])]
  unfold Oper.still execOp
  simp only [ho, hx, Instr.loadAt, Instr.sureAddr, Sem.run_bind, Sem.run_pure, Result.andThen_ok, run_loadVar_mid w b off ty cs d hc hu hd hi, Oper.stillUpon]
  exact ⟨trivial, hK _ h⟩
theorem Blk.range {w : World} {g : Nat} {t : TypeId} {arr : Array Value} (h : Blk w g t arr) (o : Nat) (cs : List Value) (hc : ∀ j v, cs[j]? = some v → arr[o + j]? = some v) : w.rangeAt g o cs := fun j v hv => h.cell (hc j v hv)
theorem hash_words_at (s : St) (p : List UInt8) (n : Nat) : ∀ (j : Nat) v, (s.list.map v32)[j]? = some v → (hashCells s p n)[0 + j]? = some v := fun j v hv => by
  have hj : j < (s.list.map v32).length := by
    rcases Nat.lt_or_ge j (s.list.map v32).length with h | h
    · exact h
    · rw [List.getElem?_eq_none h] at hv; cases hv
  unfold hashCells
  rw [Nat.zero_add, List.getElem?_toArray, List.getElem?_append_left hj, hv]
theorem hash_part_at (s : St) (p : List UInt8) (n : Nat) : ∀ (j : Nat) v, (p.map v8)[j]? = some v → (hashCells s p n)[8 + j]? = some v := fun j v hv => by
  have hj : j < (p.map v8).length := by
    rcases Nat.lt_or_ge j (p.map v8).length with h | h
    · exact h
    · rw [List.getElem?_eq_none h] at hv; cases hv
  unfold hashCells
  rw [List.getElem?_toArray, List.getElem?_append_right (by simp [St.list]), show 8 + j - (s.list.map v32).length = j from by simp [St.list], List.getElem?_append_left hj, hv]

/-- copy as one step of a region that draws its order. -/
theorem step_copy {ops : Array Oper} {o : Oper} {a : Act} {w : World} {K : Act → World → Prop} {Q : Exit → Act → World → Prop} {E : Prop} (hgd : o.guard = none) (d s : Operand)
    (ho : o.op = .call { callee := .builtin .copy, args := #[d, s], argTypes := #[22, 22] })
    (g off dLen dCap bb so sLen sCap : Nat) (hd : a.eval d = .slice (some ⟨g, off, none⟩) dLen dCap) (hs : a.eval s = .slice (some ⟨bb, so, none⟩) sLen sCap)
    (cur : Array Value) (t : TypeId) (hg : Blk w g t cur) (c : List UInt8) (hn : c.length = Nat.min sLen dLen) (hr : Row w bb so c) (hfit : off + c.length ≤ cur.size)
    (h : ∀ w', Blk w' g t (splice cur.toList off (c.map v8)).toArray → w.grownBy w' (some g) → w'.heap.size = w.heap.size → K (a.put o.dst (.int .i64 (c.length : Int))) w') :
    if Region.wanted o (yielded ops a.tmps) = true then Oper.wp Tryd.prog o a w K Q else E := by
  have hw : Region.wanted o (yielded ops a.tmps) = true := by simp [Region.wanted, hgd]
  rw [if_pos hw]
  have hsz : (Tryd.prog.info? 5).map (·.size) = some 1 := by kernel_rfl
  have hrun := run_copy_row (P := Tryd.prog) w 22 22 o.type 5 g off dLen dCap ⟨bb, so, none⟩ sLen sCap cur t (c.map v8) Tryd.underlying22 hsz hg (by rw [List.length_map]; exact hn) hr.at (by simpa using hfit) (one8l c)
  rw [List.length_map] at hrun
  unfold Oper.wp
  simp [execOp, ho, resolve, invoke, builtin, hd, hs, hrun, Result.andThen]
  refine h _ ?_ ⟨rfl, rfl, rfl, by simp, fun k _ hk => setRow_other w g k _ (fun e => hk (by rw [e]))⟩ (by simp)
  exact (hg.setRow _).of_eq (by simp [splice])
/-- A whole array stored into the middle of a block. -/
theorem store_mid {w : World} {ops : Array Oper} {rest : List Oper} {o : Oper} {a : Act} {Q : Exit → Act → World → Prop} (hgd : o.guard = none) (ty : TypeId) (x y : Operand) (ho : o.op = .store ty x y) (hd : o.dst = none)
    (g off : Nat) (cells : Array Value) (hx : a.eval x = .pointer (some ⟨g, off, none⟩)) (hy : a.eval y = .agg cells)
    (t : TypeId) (old : Array Value) (hg : Blk w g t old) (hi : (Tryd.prog.info? ty).map (·.size) = some cells.size)
    (hfit : off + cells.size ≤ old.size) (h1 : cells.all (·.oneCell') = true)
    (hK : ∀ w', Blk w' g t (splice old.toList off cells.toList).toArray → w.grownBy w' (some g) → w'.heap.size = w.heap.size → wpList Tryd.prog ops Q rest a w') : wpList Tryd.prog ops Q (o :: rest) a w := by
  have hth : w.there g off cells.size := fun j hj => ⟨by rw [hg.cell (v := old[off + j]'(by omega)) (by simp [show off + j < old.size by omega])]; rfl, hg.frozen _⟩
  refine wpList_store_mid hgd ty x y ho g off cells hx hy hth hi h1 ?_
  rw [hd]
  obtain ⟨h2, h3⟩ := grown_setCells g cells.toList off w
  exact hK _ (Blk.setCells cells.toList off w old hg (by simpa using hfit)) h2 h3

end Go.Proofs.YthophonofaaafaaDoor
namespace Go.Proofs.YthophonofaaafaaDoor
open Go.RowKit
attribute [local go_sem] bits_or32 bits_and32 bits_xor32 add32

set_option maxHeartbeats 400000 in
theorem rot_any (x : BitVec 32) (n : Int) (w : World) (hn0 : 0 < n) (hn : n < 32) :
    Calls Tryd.prog 97 #[.int .u32 (n32 x), .int .i64 (-n)] w fun e w' => e = .returned (.int .u32 (n32 (rotr x n.toNat))) ∧ w' = w := by
  obtain ⟨m, rfl⟩ := Int.eq_ofNat_of_zero_le (Int.le_of_lt hn0)
  have h31 := neg_and31 m (by omega) (by omega)
  have hx := lt32 x
  have hx0 := ge32 x
  have hf := rotl_form x m
  have hs : 32 - (32 - m) = m := by omega
  go_enter Tryd.func97, Tryd.ntmps97
  go_wp2
  go_ret
  exact ⟨by simp, rfl⟩
set_option maxHeartbeats 400000 in
theorem turn_any (x : BitVec 32) (n : Int) (w : World) (hn0 : 0 < n) (hn : n < 32) :
    Calls Tryd.prog 95 #[.int .u32 (n32 x), .int .i64 n] w fun e w' => e = .returned (.int .u32 (n32 (rotr x n.toNat))) ∧ w' = w := by
  go_enter Tryd.func95, Tryd.ntmps95
  go_wp2_with (go_at_call 97; refine (rot_any _ _ _ hn0 hn).mono ?_; rintro e w' ⟨rfl, rfl⟩)
  go_ret
  exact ⟨rfl, rfl⟩
set_option maxHeartbeats 400000 in
theorem rotr_any (x : BitVec 32) (n : Int) (w : World) (hn0 : 0 < n) (hn : n < 32) :
    Calls Tryd.prog 66 #[.int .u32 (n32 x), .int .u64 n] w fun e w' => e = .returned (.int .u32 (n32 (rotr x n.toNat))) ∧ w' = w := by
  have hx := lt32 x
  have hx0 := ge32 x
  have hf := rotr_form x n hn0 hn
  go_enter Tryd.func66, Tryd.ntmps66
  go_wp2
  go_ret
  exact ⟨rfl, rfl⟩
set_option maxHeartbeats 400000 in
theorem turns_any (x : BitVec 32) (i j k : Int) (w : World) (hi0 : 0 < i) (hi : i < 32) (hj0 : 0 < j) (hj : j < 32) (hk0 : 0 < k) (hk : k < 32) :
    Calls Tryd.prog 83 #[.int .u32 (n32 x), .int .i64 i, .int .i64 j, .int .i64 k] w fun e w' => e = .returned (.int .u32 (n32 (rotr x i.toNat ^^^ rotr x j.toNat ^^^ rotr x k.toNat))) ∧ w' = w := by
  go_enter Tryd.func83, Tryd.ntmps83
  go_wp2_with (go_at_call 95; refine (turn_any _ _ _ (by assumption) (by assumption)).mono ?_; rintro e w' ⟨rfl, rfl⟩)
  go_ret
  exact ⟨rfl, rfl⟩
end Go.Proofs.YthophonofaaafaaDoor
namespace Go.Proofs.YthophonofaaafaaDoor
open Go.RowKit

set_option maxHeartbeats 400000 in
theorem number_any (b off len cap : Nat) (bs : List UInt8) (w : World) (hr : Row w b off bs) (hlen : bs.length = len) (h8 : len ≤ 8) :
    Calls Tryd.prog 94 #[.slice (some ⟨b, off, none⟩) len cap] w fun e w' => e = .returned (.int .u64 (beNat bs : Int)) ∧ w' = w := by
  subst hlen
  go_enter Tryd.func94, Tryd.ntmps94
  go_wp2
  go_loop [3, 8] (fun n i => ∃ k : Nat, k ≤ bs.length ∧ i = .int .i64 k ∧ n = .int .u64 (beNat (bs.take k) : Int)) (fun _ i => bs.length - (intOf i).toNat)
  case atStart => exact ⟨0, Nat.zero_le _, rfl, rfl⟩
  case round =>
    obtain ⟨k, hk, rfl, rfl⟩ := hrel
    by_cases hlt : k < bs.length
    · have hc := hr k hlt
      have hb := beNat_take_lt bs k hk
      have hb2 : beNat (bs.take k) < 72057594037927936 := Nat.lt_of_lt_of_le hb (Nat.pow_le_pow_right (n := 256) (by omega) (show k ≤ 7 by omega))
      clear hb
      have ho := or_byte (beNat (bs.take k)) bs[k] hb2
      have hx := lt8 bs[k]
      have hx0 := ge8 bs[k]
      have ht := beNat_take_succ bs k hlt
      go_wp2
      go_round
      case rel => exact ⟨k + 1, by omega, by go_num, by rw [ht]; simp⟩
      case measure => simp [intOf]; omega
    · go_wp2
      go_ret
      exact ⟨by rw [List.take_of_length_le (by omega)]; rfl, rfl⟩
end Go.Proofs.YthophonofaaafaaDoor
