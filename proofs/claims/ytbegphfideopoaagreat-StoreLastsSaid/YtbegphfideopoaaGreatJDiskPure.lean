/-
  What is proved here: nothing yet: what a disk does, plain: its sectors as they are and as they are synced, which are dirty, what comes, whether the power is off. plain facts on slices of numbers and of booleans in memory, and on a crash that goes sector by sector. plain facts on stores into the middle of a block, on copy into it, and on loads of several cells.
  Conditions: none. those that each fact names.
-/
import Derived.Test.YtbegphfideopoaaGreatJShaPure
import Derived.Test.YtbegphfideopoaaGreatProg
import Derived.Laws.CopyOwn
import Derived.StillTailTactics
import Derived.Deep.RegionHeld3
namespace Go.Proofs.YtbegphfideopoaaGreat

structure DS where
  now : List (List UInt8)
  sure : List (List UInt8)
  dirt : List Bool
  next : List UInt8
  down : Bool
def noughts (n : Nat) : List UInt8 := List.replicate n 0
def newS (n : Nat) : DS := ⟨List.replicate n (noughts 128), List.replicate n (noughts 128), List.replicate n false, [], false⟩
/-- As many of each, each of 128 bytes. -/
structure DS.ok (s : DS) (n : Nat) : Prop where
  now : s.now.length = n
  sure : s.sure.length = n
  dirt : s.dirt.length = n
  nows : ∀ r ∈ s.now, r.length = 128
  sures : ∀ r ∈ s.sure, r.length = 128
def readS (s : DS) (k : Int) : List UInt8 × Int := if s.down then ([], 7) else if k < 0 ∨ (s.now.length : Int) ≤ k then ([], 1) else (s.now.getD k.toNat [], 0)
/-- What a change meets, and what is behind it. -/
def mayS (s : DS) : Int × DS := if s.down then (7, s) else match s.next with
  | [] => (0, s)
  | c :: t => if c = 1 then (6, { s with next := t }) else if c = 2 then (7, { s with next := t, down := true }) else (0, { s with next := t })
def padS (b : List UInt8) : List UInt8 := b ++ noughts (128 - b.length)
def putS (s : DS) (k : Nat) (b : List UInt8) : DS := { s with now := s.now.set k (padS b), dirt := s.dirt.set k true }
def writeS (s : DS) (k : Int) (b : List UInt8) : Int × DS := if k < 0 ∨ (s.now.length : Int) ≤ k ∨ 128 < b.length then (1, s) else if (mayS s).1 ≠ 0 then mayS s else (0, putS (mayS s).2 k.toNat b)
def syncedS (s : DS) : DS := { s with sure := s.now, dirt := List.replicate s.dirt.length false }
def syncS (s : DS) : Int × DS := if (mayS s).1 ≠ 0 then mayS s else (0, syncedS (mayS s).2)
def dirtyAt : Nat → List Bool → List Nat
  | _, [] => []
  | i, b :: l => if b then i :: dirtyAt (i + 1) l else dirtyAt (i + 1) l
def dirtyS (s : DS) : List Nat := dirtyAt 0 s.dirt
/-- How many bytes of the i-th dirty sector stay as they are. -/
def stayN (stay : List Bool) (torn cut : Int) (i : Nat) : Nat := if (i : Int) = torn then (max 0 (min cut 128)).toNat else if stay[i]? = some true then 128 else 0
def tornRow (s : DS) (k n : Nat) : List UInt8 := (s.now.getD k []).take n ++ (s.sure.getD k []).drop n
def crashOne (s : DS) (k n : Nat) : DS := { s with now := s.now.set k (tornRow s k n), sure := s.sure.set k (tornRow s k n), dirt := s.dirt.set k false }
def crashTo (N : Nat → Nat) : Nat → List Nat → DS → DS
  | _, [], s => s
  | i, k :: l, s => crashTo N (i + 1) l (crashOne s k (N i))
def crashS (s : DS) (stay : List Bool) (torn cut : Int) : DS := { crashTo (stayN stay torn cut) 0 (dirtyS s) s with next := [], down := false }

theorem noughts_length (n : Nat) : (noughts n).length = n := List.length_replicate ..
theorem newS_ok (n : Nat) : (newS n).ok n := ⟨List.length_replicate .., List.length_replicate .., List.length_replicate .., fun r h => by rw [List.eq_of_mem_replicate h]; exact noughts_length _, fun r h => by rw [List.eq_of_mem_replicate h]; exact noughts_length _⟩
theorem DS.ok.may {s : DS} {n : Nat} (h : s.ok n) : (mayS s).2.ok n := by
  unfold mayS
  split
  · exact h
  · split
    · exact h
    · split
      · exact ⟨h.now, h.sure, h.dirt, h.nows, h.sures⟩
      · split
        · exact ⟨h.now, h.sure, h.dirt, h.nows, h.sures⟩
        · exact ⟨h.now, h.sure, h.dirt, h.nows, h.sures⟩
theorem padS_length {b : List UInt8} (h : b.length ≤ 128) : (padS b).length = 128 := by
  unfold padS; rw [List.length_append, noughts_length]; omega
theorem mem_set' {α : Type} {l : List α} {k : Nat} {x y : α} (h : y ∈ l.set k x) : y = x ∨ y ∈ l := (List.mem_or_eq_of_mem_set h).symm
theorem DS.ok.put {s : DS} {n : Nat} (h : s.ok n) (k : Nat) (b : List UInt8) (hb : b.length ≤ 128) : (putS s k b).ok n :=
  ⟨by show (s.now.set _ _).length = n; rw [List.length_set]; exact h.now, h.sure, by show (s.dirt.set _ _).length = n; rw [List.length_set]; exact h.dirt, fun r hr => by rcases mem_set' hr with rfl | h2; exact padS_length hb; exact h.nows r h2, h.sures⟩
theorem DS.ok.synced {s : DS} {n : Nat} (h : s.ok n) : (syncedS s).ok n := ⟨h.now, h.now, by show (List.replicate _ _).length = n; rw [List.length_replicate]; exact h.dirt, h.nows, h.nows⟩
theorem DS.ok.sync {s : DS} {n : Nat} (h : s.ok n) : (syncS s).2.ok n := by
  unfold syncS
  split
  · exact h.may
  · exact h.may.synced
theorem DS.ok.write {s : DS} {n : Nat} (h : s.ok n) (k : Int) (b : List UInt8) : (writeS s k b).2.ok n := by
  unfold writeS
  split
  · exact h
  · split
    · exact h.may
    · exact h.may.put _ _ (by omega)
theorem getD_len {l : List (List UInt8)} (h : ∀ r ∈ l, r.length = 128) {k : Nat} (hk : k < l.length) : (l.getD k []).length = 128 := by
  rw [List.getD_eq_getElem?_getD, List.getElem?_eq_getElem hk]
  exact h _ (List.getElem_mem hk)
theorem tornRow_length {s : DS} {n k m : Nat} (h : s.ok n) (hk : k < n) (hm : m ≤ 128) : (tornRow s k m).length = 128 := by
  unfold tornRow
  have h1 := getD_len h.nows (k := k) (by rw [h.now]; exact hk)
  have h2 := getD_len h.sures (k := k) (by rw [h.sure]; exact hk)
  rw [List.length_append, List.length_take, List.length_drop]; omega
theorem DS.ok.one {s : DS} {n : Nat} (h : s.ok n) {k m : Nat} (hk : k < n) (hm : m ≤ 128) : (crashOne s k m).ok n :=
  ⟨by show (s.now.set _ _).length = n; rw [List.length_set]; exact h.now, by show (s.sure.set _ _).length = n; rw [List.length_set]; exact h.sure, by show (s.dirt.set _ _).length = n; rw [List.length_set]; exact h.dirt, fun r hr => by rcases mem_set' hr with rfl | h2; exact tornRow_length h hk hm; exact h.nows r h2, fun r hr => by rcases mem_set' hr with rfl | h2; exact tornRow_length h hk hm; exact h.sures r h2⟩
theorem stayN_le (stay : List Bool) (torn cut : Int) (i : Nat) : stayN stay torn cut i ≤ 128 := by
  unfold stayN
  split
  · omega
  · split <;> omega
theorem dirtyAt_lt : ∀ (l : List Bool) (i k : Nat), k ∈ dirtyAt i l → k < i + l.length
  | [], _, _, h => by cases h
  | b :: l, i, k, h => by
    unfold dirtyAt at h
    rw [List.length_cons]
    split at h
    · rcases List.mem_cons.1 h with rfl | h
      · omega
      · have := dirtyAt_lt l (i + 1) k h; omega
    · have := dirtyAt_lt l (i + 1) k h; omega
theorem DS.ok.crashTo {n : Nat} (N : Nat → Nat) (hN : ∀ i, N i ≤ 128) : ∀ (l : List Nat) (i : Nat) (s : DS), s.ok n → (∀ k ∈ l, k < n) → (crashTo N i l s).ok n
  | [], _, _, h, _ => h
  | k :: l, i, _, h, hl => DS.ok.crashTo N hN l (i + 1) _ (h.one (hl k List.mem_cons_self) (hN i)) (fun q hq => hl q (List.mem_cons_of_mem _ hq))
theorem DS.ok.crash {s : DS} {n : Nat} (h : s.ok n) (stay : List Bool) (torn cut : Int) : (crashS s stay torn cut).ok n := by
  have := DS.ok.crashTo (stayN stay torn cut) (stayN_le _ _ _) (dirtyS s) 0 s h (fun k hk => by have := dirtyAt_lt _ _ _ hk; have := h.dirt; omega)
  exact ⟨this.now, this.sure, this.dirt, this.nows, this.sures⟩
end Go.Proofs.YtbegphfideopoaaGreat
namespace Go.Proofs.YtbegphfideopoaaGreat
open Go.RowKit

def ints (l : List Nat) : List Value := l.map fun (k : Nat) => Value.int .i64 (k : Int)
/-- A slice of numbers of the call's own. -/
def OwnI (w : World) (base : Nat) (v : Value) (l : List Nat) : Prop := w.ownsRow base 3 1 v l.length (ints l)
theorem OwnI.blocks {w : World} {base : Nat} {v : Value} {l : List Nat} (h : OwnI w base v l) : ∀ k, v.ownBlock = some k → base ≤ k ∧ k < w.heap.size := World.ownsRow.lt h
theorem OwnI.sl {w : World} {base : Nat} {v : Value} {l : List Nat} (h : OwnI w base v l) : ∃ ao c, v = .slice ao l.length c := by
  rcases h.2 with ⟨h1, h2⟩ | ⟨g, cap, cur, h1, _⟩
  · rw [h2]; exact ⟨_, _, h1⟩
  · exact ⟨_, _, h1⟩
theorem OwnI.nil (w : World) (base : Nat) : OwnI w base (.slice none 0 0) [] := ⟨rfl, .inl ⟨rfl, rfl⟩⟩
theorem OwnI.after {w w' : World} {base B : Nat} {v : Value} {l : List Nat} (h : OwnI w base v l) (hb : Below B w w') (hB : w.heap.size ≤ B) : OwnI w' base v l := by
  refine ⟨h.1, ?_⟩
  rcases h.2 with h2 | ⟨g, cap, cur, h1, h2, h3, h4⟩
  · exact .inl h2
  · exact .inr ⟨g, cap, cur, h1, h2, by rw [hb.block g (Nat.lt_of_lt_of_le (Array.getElem?_eq_some_iff.1 h3).1 hB)]; exact h3, h4⟩
theorem dirtyAt_len : ∀ (l : List Bool) (i : Nat), (dirtyAt i l).length ≤ l.length
  | [], _ => Nat.le_refl _
  | b :: l, i => by
    have := dirtyAt_len l (i + 1)
    cases b
    · simp [dirtyAt]; omega
    · simp [dirtyAt]; omega
/-- Numbers lie here. -/
def IntsAt (w : World) (v : Value) (l : List Nat) : Prop := ∃ ao c, v = .slice ao l.length c ∧ ∀ (j k : Nat), l[j]? = some k → ∃ b off, ao = some ⟨b, off, none⟩ ∧ w.cell? ⟨b, off + j, none⟩ = some (.int .i64 (k : Int))
theorem OwnI.at {w : World} {base : Nat} {v : Value} {l : List Nat} (h : OwnI w base v l) : IntsAt w v l := by
  rcases h.2 with ⟨h1, h2⟩ | ⟨g, cap, cur, h1, h2, h3, h4⟩
  · obtain rfl := List.eq_nil_of_length_eq_zero h2
    exact ⟨none, 0, h1, fun j k hk => by simp at hk⟩
  · refine ⟨_, cap, h1, fun j k hk => ⟨g, 0, rfl, ?_⟩⟩
    have := World.ownsRow.cells h (g := g) (by rw [h1]; rfl) j (.int .i64 (k : Int)) (by unfold ints; rw [List.getElem?_map, hk]; rfl)
    rw [Addr.add_mid] at this
    exact this
theorem OwnI.chg {S : Nat → Prop} {w w' : World} {base : Nat} {v : Value} {l : List Nat} (h : OwnI w base v l) (hc : Chg S w w') (hv : ∀ k, v.ownBlock = some k → ¬ S k) : OwnI w' base v l := by
  refine ⟨h.1, ?_⟩
  rcases h.2 with h2 | ⟨g, cap, cur, h1, h2, h3, h4⟩
  · exact .inl h2
  · exact .inr ⟨g, cap, cur, h1, h2, by rw [hc.2 g (Array.getElem?_eq_some_iff.1 h3).1 (hv g (by rw [h1]; rfl))]; exact h3, h4⟩
/-- Booleans lie here, apart from such blocks. -/
def BoolsA (w : World) (T : Nat → Prop) (v : Value) (l : List Bool) : Prop := ∃ ao c, v = .slice ao l.length c ∧ ∀ (j : Nat) b, l[j]? = some b → ∃ q off, ao = some ⟨q, off, none⟩ ∧ q < w.heap.size ∧ ¬ T q ∧ w.cell? ⟨q, off + j, none⟩ = some (.bool b)
theorem BoolsA.chg {T : Nat → Prop} {w w' : World} {v : Value} {l : List Bool} (h : BoolsA w T v l) (hc : Chg T w w') : BoolsA w' T v l := by
  obtain ⟨ao, c, h1, h2⟩ := h
  refine ⟨ao, c, h1, fun j b hb => ?_⟩
  obtain ⟨q, off, e, hq, hT, hcell⟩ := h2 j b hb
  exact ⟨q, off, e, Nat.lt_of_lt_of_le hq hc.size, hT, by rw [World.cell?_of_block (w := w) (a := ⟨q, off + j, none⟩) (hc.2 q hq hT)]; exact hcell⟩
theorem crashTo_snoc (N : Nat → Nat) : ∀ (l : List Nat) (i k : Nat) (s : DS), crashTo N i (l ++ [k]) s = crashOne (crashTo N i l s) k (N (i + l.length))
  | [], _, _, _ => rfl
  | a :: l, i, k, s => by
    have := crashTo_snoc N l (i + 1) k (crashOne s a (N i))
    rw [List.length_cons, show i + (l.length + 1) = i + 1 + l.length by omega]
    exact this
theorem crash_step (N : Nat → Nat) (l : List Nat) (I k : Nat) (s : DS) (h : l[I]? = some k) : crashTo N 0 (l.take (I + 1)) s = crashOne (crashTo N 0 (l.take I) s) k (N I) := by
  have hI : I < l.length := (List.getElem?_eq_some_iff.1 h).1
  rw [List.take_add_one, h]
  show crashTo N 0 (l.take I ++ [k]) s = _
  rw [crashTo_snoc, List.length_take, Nat.min_eq_left (by omega), Nat.zero_add]
end Go.Proofs.YtbegphfideopoaaGreat
namespace Go.Proofs.YtbegphfideopoaaGreat
open Go.RowKit

/-- Cells stored into a block. -/
theorem Blk.setCells {g : Nat} {t : TypeId} : ∀ (vs : List Value) (o : Nat) (w : World) (arr : Array Value), Blk w g t arr → o + vs.length ≤ arr.size → Blk (w.setCells g o vs) g t (splice arr.toList o vs).toArray
  | [], o, w, arr, h, _ => h.of_eq (by simp [splice])
  | v :: vs, o, w, arr, h, hl => by
    rw [World.setCells]
    refine (Blk.setCells vs (o + 1) _ _ (h.set o v) (by simp at hl ⊢; omega)).of_eq ?_
    congr 1
    unfold splice
    simp only [List.length_cons] at hl ⊢
    rw [Array.toList_setIfInBounds, List.take_set, List.drop_set_of_lt (by omega), List.take_succ_eq_append_getElem (by simpa using (show o < arr.size by omega))]
    rw [List.set_append_right _ _ (by simp; omega), show o + 1 + vs.length = o + (vs.length + 1) by omega]
    simp [show min o arr.size = o by omega]
theorem grown_setCells (g : Nat) : ∀ (vs : List Value) (o : Nat) (w : World), w.grownBy (w.setCells g o vs) (some g) ∧ (w.setCells g o vs).heap.size = w.heap.size
  | [], _, w => ⟨⟨rfl, rfl, rfl, Nat.le_refl _, fun _ _ _ => rfl⟩, rfl⟩
  | v :: vs, o, w => by
    rw [World.setCells]
    obtain ⟨h1, h2⟩ := grown_setCells g vs (o + 1) (w.setCell ⟨g, o, none⟩ v)
    have hs : (w.setCell ⟨g, o, none⟩ v).heap.size = w.heap.size := by simp
    refine ⟨⟨h1.os, h1.tape, h1.output, by rw [h2, hs]; exact Nat.le_refl _, fun k hk hne => ?_⟩, h2.trans hs⟩
    rw [h1.block k (by rw [hs]; exact hk) hne]
    exact Below.heap_setCell w ⟨g, o, none⟩ v k (fun e => hne (by rw [e]))

/-- A region that draws its order, whose first n operations only read: they are walked in the text's order, the others behind them. -/
theorem region_tail {id : Nat} {Q : Exit → Act → World → Prop} {a : Act} {w : World} {l : List Oper} (n : Nat) (hm : Tryz.prog.follows .mixedOrders = true) (hB : Region.lexTailB .any l.toArray n = true)
    (h : wpStill Tryz.prog l.toArray w.drew (fun a' => wpList Tryz.prog l.toArray Q (l.drop n) a' w.drew) (l.take n) a) : (Code.region id l.toArray true).wp Tryz.prog Q a w := wp_region_still_tail n hm hB h
theorem exec_load {a : Act} {o : Oper} {w : World} (ty : TypeId) (x : Operand) (ho : o.op = .load ty x)
    (b off : Nat) (hx : a.eval x = .pointer (some ⟨b, off, none⟩)) (cs : List Value) (d : TypeDesc) (hc : w.rangeAt b off cs)
    (hu : Tryz.prog.underlying ty = some d) (hd : d.isRow = true) (hi : (Tryz.prog.info? ty).map (·.size) = some cs.length) : (execOp a.eval o).run Tryz.prog w = .ok (.value (.agg cs.toArray)) w := by
  unfold execOp
  simp only [ho, hx, Instr.loadAt, Instr.sureAddr, Sem.run_bind, Sem.run_pure, Result.andThen_ok, run_loadVar_mid w b off ty cs d hc hu hd hi]
theorem still_load {P : Program} {ops : Array Oper} {w : World} {Q : Act → Prop} {a : Act} {o : Oper} {rest : List Oper} (hgd : o.guard = none) (ty : TypeId) (x : Operand) (ho : o.op = .load ty x)
    (b off : Nat) (hx : a.eval x = .pointer (some ⟨b, off, none⟩)) (cs : List Value) (d : TypeDesc) (hc : w.rangeAt b off cs)
    (hu : P.underlying ty = some d) (hd : d.isRow = true) (hi : (P.info? ty).map (·.size) = some cs.length)
    (h : wpStill P ops w Q rest (a.put o.dst (.agg cs.toArray))) : wpStill P ops w Q (o :: rest) a := by
  refine wpStill_step fun K hK => ?_
  rw [if_pos (by simp [Region.wanted, hgd])]
  unfold Oper.still execOp
  simp only [ho, hx, Instr.loadAt, Instr.sureAddr, Sem.run_bind, Sem.run_pure, Result.andThen_ok, run_loadVar_mid w b off ty cs d hc hu hd hi, Oper.stillUpon]
  exact ⟨trivial, hK _ h⟩
theorem Blk.range {w : World} {g : Nat} {t : TypeId} {arr : Array Value} (h : Blk w g t arr) (o : Nat) (cs : List Value) (hc : ∀ j v, cs[j]? = some v → arr[o + j]? = some v) : w.rangeAt g o cs := fun j v hv => h.cell (hc j v hv)
/-- copy as one step of a region that draws its order. -/
theorem step_copy {ops : Array Oper} {o : Oper} {a : Act} {w : World} {K : Act → World → Prop} {Q : Exit → Act → World → Prop} {E : Prop} (hgd : o.guard = none) (d s : Operand)
    (ho : o.op = .call { callee := .builtin .copy, args := #[d, s], argTypes := #[34, 34] })
    (g off dLen dCap bb so sLen sCap : Nat) (hd : a.eval d = .slice (some ⟨g, off, none⟩) dLen dCap) (hs : a.eval s = .slice (some ⟨bb, so, none⟩) sLen sCap)
    (cur : Array Value) (t : TypeId) (hg : Blk w g t cur) (c : List UInt8) (hn : c.length = Nat.min sLen dLen) (hr : Row w bb so c) (hfit : off + c.length ≤ cur.size)
    (h : ∀ w', Blk w' g t (splice cur.toList off (c.map v8)).toArray → w.grownBy w' (some g) → w'.heap.size = w.heap.size → K (a.put o.dst (.int .i64 (c.length : Int))) w') :
    if Region.wanted o (yielded ops a.tmps) = true then Oper.wp Tryz.prog o a w K Q else E := by
  have hw : Region.wanted o (yielded ops a.tmps) = true := by simp [Region.wanted, hgd]
  rw [if_pos hw]
  have hsz : (Tryz.prog.info? 5).map (·.size) = some 1 := by kernel_rfl
  have hrun := run_copy_row (P := Tryz.prog) w 34 34 o.type 5 g off dLen dCap ⟨bb, so, none⟩ sLen sCap cur t (c.map v8) Tryz.underlying34 hsz hg (by rw [List.length_map]; exact hn) hr.at (by simpa using hfit) (one8l c)
  rw [List.length_map] at hrun
  unfold Oper.wp
  simp [execOp, ho, resolve, invoke, builtin, hd, hs, hrun, Result.andThen]
  refine h _ ?_ ⟨rfl, rfl, rfl, by simp, fun k _ hk => setRow_other w g k _ (fun e => hk (by rw [e]))⟩ (by simp)
  exact (hg.setRow _).of_eq (by simp [splice])
/-- A whole array stored into the middle of a block. -/
theorem store_mid {w : World} {ops : Array Oper} {rest : List Oper} {o : Oper} {a : Act} {Q : Exit → Act → World → Prop} (hgd : o.guard = none) (ty : TypeId) (x y : Operand) (ho : o.op = .store ty x y) (hd : o.dst = none)
    (g off : Nat) (cells : Array Value) (hx : a.eval x = .pointer (some ⟨g, off, none⟩)) (hy : a.eval y = .agg cells)
    (t : TypeId) (old : Array Value) (hg : Blk w g t old) (hi : (Tryz.prog.info? ty).map (·.size) = some cells.size)
    (hfit : off + cells.size ≤ old.size) (h1 : cells.all (·.oneCell') = true)
    (hK : ∀ w', Blk w' g t (splice old.toList off cells.toList).toArray → w.grownBy w' (some g) → w'.heap.size = w.heap.size → wpList Tryz.prog ops Q rest a w') : wpList Tryz.prog ops Q (o :: rest) a w := by
  have hth : w.there g off cells.size := fun j hj => ⟨by rw [hg.cell (v := old[off + j]'(by omega)) (by simp [show off + j < old.size by omega])]; rfl, hg.frozen _⟩
  refine wpList_store_mid hgd ty x y ho g off cells hx hy hth hi h1 ?_
  rw [hd]
  obtain ⟨h2, h3⟩ := grown_setCells g cells.toList off w
  exact hK _ (Blk.setCells cells.toList off w old hg (by simpa using hfit)) h2 h3

end Go.Proofs.YtbegphfideopoaaGreat
