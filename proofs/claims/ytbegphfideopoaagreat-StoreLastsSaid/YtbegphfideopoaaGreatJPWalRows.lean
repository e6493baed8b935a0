/-
  What is proved here: steps of a statement that draws its order within a loop over a function; append of bytes, and of one more row, there. the program's log: the state, and the records, that the head lets count. the program's log on its disk, with the blocks that are its own; Open.
  Conditions: those that each law names. the disk and the log lie in memory, the power is on. the disk lies in memory.
-/
import Derived.Test.YtbegphfideopoaaGreatJWalSeq
import Derived.Test.YtbegphfideopoaaGreatJPWalLog
namespace Go.Proofs.YtbegphfideopoaaGreat
open Go.RowKit

/-- append onto a slice of the call's own, within a loop over a function. -/
theorem app_own_in7 {F : Fence} {nF : Nat} (w : World) {ops : Array Oper} {rest : List Oper} {o : Oper} {a : Act} {Q : Exit → Act → World → Prop} (hgd : o.guard = none) (s x : Operand)
    (ho : o.op = .call { callee := .builtin .append, args := #[s, x], argTypes := #[34, 34] })
    (base : Nat) (v : Value) (bs : List UInt8) (hs : a.eval s = v) (hown : Own w base v bs) (xv : Value) (nw : List UInt8) (hx : a.eval x = xv) (hseg : Seg w xv nw)
    (hlen : bs.length + nw.length ≤ 1000000000) (hbase : base ≤ w.heap.size)
    (hK : ∀ v' w', Own w' base v' (bs ++ nw) → w.grownBy w' v.ownBlock → (v'.ownBlock = v.ownBlock ∨ v'.ownBlock = some w.heap.size) → wpListIn F nF Tryz.prog ops Q rest (a.put o.dst v') w') :
    wpListIn F nF Tryz.prog ops Q (o :: rest) a w := by
  obtain ⟨v', w', hr, h1, h2, h3⟩ := app_bytes w base v bs hown xv nw hseg hlen hbase
  refine wpListIn_plain hgd fun K hK' => ?_
  unfold Oper.wpIn
  refine ⟨by simp [Oper.about, ho, resolve, Target.leads, Sem.run_pure], ?_⟩
  rw [Oper.semAt_plain F _ _ (by rw [ho]; intro c hc'; cases hc'), exec_app s x 34 34 ho v xv v' hs hx hr, Oper.uponIn_value]
  exact hK' _ _ (hK v' w' h1 h2 h3)
theorem anyin_all2 {F : Fence} {nF : Nat} {ops : Array Oper} {Q : Exit → Act → World → Prop} {fuel : Nat} {listed : Array Bool} {a : Act} {w : World} (i j : Nat) (hr : Region.ready .any ops listed = [i, j])
    (h1 : wpOpIn F nF Tryz.prog ops Q i (wpAnyIn F nF Tryz.prog .any ops Q fuel (listed.setIfInBounds i true)) a w) (h2 : wpOpIn F nF Tryz.prog ops Q j (wpAnyIn F nF Tryz.prog .any ops Q fuel (listed.setIfInBounds j true)) a w) : wpAnyIn F nF Tryz.prog .any ops Q (fuel + 1) listed a w := by
  refine wpAnyIn_all hr (by simp) fun k hk => ?_
  simp only [List.mem_cons, List.not_mem_nil, or_false] at hk
  rcases hk with rfl | rfl
  · exact h1
  · exact h2
theorem anyin_all1 {F : Fence} {nF : Nat} {ops : Array Oper} {Q : Exit → Act → World → Prop} {fuel : Nat} {listed : Array Bool} {a : Act} {w : World} (i : Nat) (hr : Region.ready .any ops listed = [i])
    (h1 : wpOpIn F nF Tryz.prog ops Q i (wpAnyIn F nF Tryz.prog .any ops Q fuel (listed.setIfInBounds i true)) a w) : wpAnyIn F nF Tryz.prog .any ops Q (fuel + 1) listed a w := by
  refine wpAnyIn_all hr (by simp) fun k hk => ?_
  obtain rfl : k = i := by simpa using hk
  exact h1
theorem opin_value {F : Fence} {nF : Nat} {ops : Array Oper} {Q : Exit → Act → World → Prop} {K : Act → World → Prop} {a : Act} {w : World} (hF : ∀ f, F.fn f) (i d : Nat) (o : Oper) (v : Value) (w' : World) (hi : ops[i]? = some o) (hd : o.dst = some d) (hw : Region.wanted o (yielded ops a.tmps) = true) (hp : ∀ c, o.op ≠ .defer c) (hrun : (execOp a.eval o).run Tryz.prog w = .ok (.value v) w') (h : K (a.put (some d) v) w') : wpOpIn F nF Tryz.prog ops Q i K a w := by
  unfold wpOpIn
  simp only [hi, hw, if_true]
  unfold Oper.wpIn
  refine ⟨fun f _ => hF f, ?_⟩
  rw [Oper.semAt_plain F _ _ hp, hrun, Oper.uponIn_value, hd]
  exact h
theorem opin_skip {F : Fence} {nF : Nat} {ops : Array Oper} {Q : Exit → Act → World → Prop} {K : Act → World → Prop} {a : Act} {w : World} (hF : ∀ f, F.fn f) (i : Nat) (o : Oper) (w' : World) (hi : ops[i]? = some o) (hd : o.dst = none) (hw : Region.wanted o (yielded ops a.tmps) = true) (hp : ∀ c, o.op ≠ .defer c) (hrun : (execOp a.eval o).run Tryz.prog w = .ok .skip w') (h : K a w') : wpOpIn F nF Tryz.prog ops Q i K a w := by
  unfold wpOpIn
  simp only [hi, hw, if_true]
  unfold Oper.wpIn
  refine ⟨fun f _ => hF f, ?_⟩
  rw [Oper.semAt_plain F _ _ hp, hrun, Oper.uponIn_skip, hd]
  exact h
theorem opin_call {F : Fence} {nF : Nat} {ops : Array Oper} {Q : Exit → Act → World → Prop} {K : Act → World → Prop} {a : Act} {w : World} (hF : ∀ f, F.fn f) (hn : F.depth.isSome = true → 1 ≤ nF) (i d : Nat) (o : Oper) (f : FuncId) (args : Array Value) (hi : ops[i]? = some o) (hd : o.dst = some d) (hw : Region.wanted o (yielded ops a.tmps) = true) (hp : ∀ c, o.op ≠ .defer c) (hrun : (execOp a.eval o).run Tryz.prog w = .ok (.enter f args) w)
    (h : CallsIn F (nF - 1) Tryz.prog f args w fun e w' => ∃ v, e = .returned v ∧ K (a.put (some d) v) w') : wpOpIn F nF Tryz.prog ops Q i K a w := by
  unfold wpOpIn
  simp only [hi, hw, if_true]
  unfold Oper.wpIn
  refine ⟨fun f _ => hF f, ?_⟩
  rw [Oper.semAt_plain F _ _ hp, hrun, Oper.uponIn_enter]
  refine ⟨hn, h.mono ?_⟩
  rintro e w' ⟨v, rfl, h1⟩
  show K _ _
  rw [hd]; exact h1
/-- One more row. -/
theorem app_rows (w : World) (base : Nat) (v : Value) (vs : List Value) (rs : List (List UInt8)) (hown : Gat w base v vs rs) (g c : Nat) (u : Value) (r : List UInt8) (hc : w.cell? ⟨g, 0, none⟩ = some u) (hu : Own w base u r) (hlen : rs.length ≤ 1000000) (hbase : base ≤ w.heap.size) :
    ∃ v' w', (∀ ty, (Builtin.append_ #[67, 67] ty #[v, .slice (some ⟨g, 0, none⟩) 1 c]).run Tryz.prog w = .ok v' w') ∧ Gat w' base v' (vs ++ [u]) (rs ++ [r]) ∧ w.grownBy w' v.ownBlock ∧ (v'.ownBlock = v.ownBlock ∨ v'.ownBlock = some w.heap.size) := by
  obtain ⟨i0, hi, hz0, hz1, hz2⟩ := info_parts Tryz.info34p
  have hu1 : u.oneCell' = true := by
    obtain ⟨ao, c', rfl⟩ := Seg.shapeD hu.seg
    rfl
  obtain ⟨v', w', h0, h2, h3, _, h4⟩ := run_append_own_at (P := Tryz.prog) w base 67 67 34 i0 (.slice none 0 0) 1 24 Tryz.underlying67 hi hz0 hz1 hz2 rfl (by decide) v rs.length vs hown.own ⟨g, 0, none⟩ 1 c [u] rfl (fun j y hy => by
    match j, hy with
    | 0, hy => cases hy; exact hc
    | (j + 1), hy => cases hy) (fun y hy => by rw [show y = u by simpa using hy]; exact hu1) (by unfold maxLen; omega) (by omega) hbase
  refine ⟨v', w', fun ty => h0, ⟨by rw [List.length_append]; exact h2, fun i u' r' hu' hr' => ?_⟩, h3, h4⟩
  have hl := hown.len
  rcases Nat.lt_or_ge i vs.length with hi' | hi'
  · rw [List.getElem?_append_left hi'] at hu'
    rw [List.getElem?_append_left (by omega)] at hr'
    exact gat_keep hown h3 (hown.rows i u' r' hu' hr')
  · rw [List.getElem?_append_right hi'] at hu'
    rw [List.getElem?_append_right (by omega), ← hl] at hr'
    match hd : i - vs.length, hu', hr' with
    | 0, hu', hr' =>
      cases hu'; cases hr'
      exact gat_keep hown h3 hu
    | (j + 1), hu', hr' => simp at hu'
theorem exec_rows {a : Act} {o : Oper} {w : World} (x : Operand) (ho : o.op = .buildSlice 67 1 #[(0, x)]) (ao : Option Addr) (n c : Nat) (hx : a.eval x = .slice ao n c) : (execOp a.eval o).run Tryz.prog w = .ok (.value (.slice (some ⟨w.heap.size, 0, none⟩) 1 1)) (w.alloc (.cells #[.slice ao n c] 34)) := by
  unfold execOp
  simp only [ho, List.map_toArray, List.map_cons, List.map_nil, hx]
  generalize a.eval = ev
  simp [go_sem]
theorem exec_storer {a : Act} {o : Oper} {w : World} (x y : Operand) (ho : o.op = .store 67 x y) (g i : Nat) (ao : Option Addr) (n c : Nat) (u : Value) (hx : a.eval x = .pointer (some ⟨g, i, none⟩)) (hy : a.eval y = .slice ao n c) (hc : w.cell? ⟨g, i, none⟩ = some u) (hf : w.frozen? ⟨g, i, none⟩ = false) : (execOp a.eval o).run Tryz.prog w = .ok .skip (w.setCell ⟨g, i, none⟩ (.slice ao n c)) := by
  unfold execOp
  simp only [ho, hx, hy]
  simp [go_sem, hc, hf]
end Go.Proofs.YtbegphfideopoaaGreat
namespace Go.Proofs.YtbegphfideopoaaGreat
open Go.RowKit
attribute [local go_sem] Oper.semAt_some

/-- The boxes, and what is laid since the loop began. -/
def Sb (b B q : Nat) : Prop := (q = b ∨ q = b + 1 ∨ q = b + 1 + 1) ∨ B ≤ q
/-- What has been told so far, in three boxes. -/
structure Acc (w W2 W : World) (B b : Nat) (t : T3) : Prop where
  st : ∃ v, Blk W b 34 #[v] ∧ Own W B v t.state
  rc : ∃ v vs, Blk W (b + 1) 67 #[v] ∧ Gat W B v vs t.recs
  wh : Blk W (b + 1 + 1) 4 #[.bool t.whole]
  bel : Below w.heap.size w W
  chg : Chg (Sb b B) W2 W
  none : t.whole = false → t.recs = []
  lo : w.heap.size ≤ b
  hi : b + 1 + 1 < B
  B : B ≤ W.heap.size
theorem own_cells {w : World} {base : Nat} {e : TypeId} {v : Value} {n : Nat} {xs : List Value} (h : w.ownsRow base e 1 v n xs) {k : Nat} (hk : v.ownBlock = some k) : ∃ c f, w.heap[k]? = some (.cells c e f) := by
  rcases h.2 with ⟨h1, _⟩ | ⟨g, cap, cur, h1, _, h3, _⟩
  · rw [h1] at hk; cases hk
  · rw [h1] at hk
    obtain rfl : g = k := Option.some.inj hk
    exact ⟨_, _, h3⟩
theorem own_unlike {w : World} {b1 b2 : Nat} {e1 e2 : TypeId} {v1 v2 : Value} {n1 n2 : Nat} {x1 x2 : List Value} (h1 : w.ownsRow b1 e1 1 v1 n1 x1) (h2 : w.ownsRow b2 e2 1 v2 n2 x2) (he : e1 ≠ e2) {k : Nat} (hk : v1.ownBlock = some k) : ¬ v2.ownBlock = some k := fun hk2 => by
  obtain ⟨c1, f1, g1⟩ := own_cells h1 hk
  obtain ⟨c2, f2, g2⟩ := own_cells h2 hk2
  rw [g1] at g2
  cases g2
  exact he rfl
/-- What is no cells may change. -/
theorem Acc.others {w W2 W W' : World} {B b : Nat} {t : T3} {row : Option Nat} (h : Acc w W2 W B b t) (hg : W.grownBy W' row) (hr : ∀ r, row = some r → B ≤ r ∧ ∃ o : Obj, W.heap[r]? = some o ∧ o.isCells = false) : Acc w W2 W' B b t := by
  obtain ⟨v, h1, h2⟩ := h.st
  obtain ⟨u, us, h3, h4⟩ := h.rc
  have hlo := h.lo
  have hhi := h.hi
  have hc : Chg (fun q => row = some q) W W' := Chg.of_grown hg (fun q hq => hq)
  have hn : ∀ {k : Nat} {c : Array Value} {e : TypeId} {f : Nat × Nat}, W.heap[k]? = some (.cells c e f) → ¬ row = some k := fun hk e => by
    obtain ⟨_, o, ho, hi⟩ := hr _ e
    rw [hk] at ho
    cases ho
    cases hi
  have hO : ∀ {base : Nat} {e : TypeId} {v : Value} {n : Nat} {xs : List Value}, W.ownsRow base e 1 v n xs → ∀ k, v.ownBlock = some k → ¬ row = some k := fun h k hk => by
    obtain ⟨c, f, hcf⟩ := own_cells h hk
    exact hn hcf
  exact ⟨⟨v, h1.chg hc (hn h1), h2.chg hc (hO h2)⟩, ⟨u, us, h3.chg hc (hn h3), ⟨ownsRow_chg h4.own hc (hO h4.own), fun i x r hx hr => (h4.rows i x r hx hr).chg hc (hO (h4.rows i x r hx hr))⟩⟩, h.wh.chg hc (hn h.wh), h.bel.grown hg h.bel.size (fun k hk => by have := (hr k hk).1; omega), h.chg.trans (S' := fun q => row = some q) hc (fun k _ hk => .inr (hr k hk).1), h.none, h.lo, h.hi, Nat.le_trans h.B hg.size⟩
/-- Cells alone have changed. -/
theorem keeps_chg {S : Nat → Prop} {W W' : World} (B : Nat) (hc : Chg S W W') (hS : ∀ k, S k → ∀ o, W.heap[k]? = some o → o.isCells = true) : KeepsFrom B W W' :=
  ⟨hc.size, fun k o _ hk ho => by
    rw [hc.2 k (Array.getElem?_eq_some_iff.1 hk).1 (fun e => by have := hS k e o hk; rw [this] at ho; cases ho)]
    exact hk⟩
theorem own_isCells {w : World} {base : Nat} {e : TypeId} {v : Value} {n : Nat} {xs : List Value} (h : w.ownsRow base e 1 v n xs) (k : Nat) (hk : v.ownBlock = some k) (o : Obj) (ho : w.heap[k]? = some o) : o.isCells = true := by
  obtain ⟨c, f, hcf⟩ := own_cells h hk
  rw [hcf] at ho
  cases ho
  rfl
theorem blk_isCells {w : World} {g : Nat} {t : TypeId} {arr : Array Value} (h : Blk w g t arr) (o : Obj) (ho : w.heap[g]? = some o) : o.isCells = true := by
  rw [show w.heap[g]? = _ from h] at ho
  cases ho
  rfl
/-- The state grows. -/
theorem acc_state {w W2 W w2 : World} {B b : Nat} {t : T3} {v v' : Value} {xb : List UInt8} (hA : Acc w W2 W B b t) (hwh : t.whole = false) (hv : Blk W b 34 #[v]) (hO : Own W B v t.state) (ho2 : Own w2 B v' (t.state ++ xb)) (hg : W.grownBy w2 v.ownBlock) :
    Blk w2 b 34 #[v] ∧ Acc w W2 (w2.setCell ⟨b, 0, none⟩ v') B b ⟨t.state ++ xb, t.recs, false⟩ ∧ Chg (fun q => q = b ∨ v.ownBlock = some q) W (w2.setCell ⟨b, 0, none⟩ v') := by
  have hlo := hA.lo
  have hhi := hA.hi
  obtain ⟨u, us, h3, h4⟩ := hA.rc
  have hge : ∀ k, v.ownBlock = some k → B ≤ k := fun k hk => (hO.blocks k hk).1
  have hc : Chg (fun q => q = b ∨ v.ownBlock = some q) W (w2.setCell ⟨b, 0, none⟩ v') := (Chg.of_grown (S := fun q => q = b ∨ v.ownBlock = some q) hg (fun k hk => .inr hk)).setCell b 0 v' (fun _ => .inl rfl)
  have hb2 : Blk w2 b 34 #[v] := hv.grown hg (fun e => by have := hge b e.symm; omega)
  have hcb : Chg (fun q => q = b) w2 (w2.setCell ⟨b, 0, none⟩ v') := (Chg.refl _ w2).setCell b 0 v' (fun _ => rfl)
  have hr0 : t.recs = [] := hA.none hwh
  refine ⟨hb2, ⟨⟨v', hb2.set 0 v', ho2.chg hcb (fun k hk e => by have := (ho2.blocks k hk).1; omega)⟩, ⟨u, us, h3.chg hc (fun e => by rcases e with e | e; omega; have := hge _ e; omega), ?_⟩, ?_, ?_, ?_, fun _ => hr0, hlo, hhi, Nat.le_trans hA.B hc.size⟩, hc⟩
  · refine ⟨ownsRow_chg h4.own hc (fun k hk e => ?_), fun i x r hx hr => ?_⟩
    · rcases e with e | e
      · have := (World.ownsRow.lt h4.own k hk).1; omega
      · exact own_unlike hO h4.own (by decide) e hk
    · dsimp only at hr
      rw [hr0] at hr
      simp at hr
  · have := hA.wh
    rw [hwh] at this
    exact this.chg hc (fun e => by rcases e with e | e; omega; have := hge _ e; omega)
  · exact ((hA.bel.grown hg hA.bel.size (fun k hk => by have := hge k hk; omega))).setCell (p := ⟨b, 0, none⟩) hlo v'
  · exact hA.chg.trans hc (fun k _ e => by rcases e with e | e; exact .inl (.inl e); exact .inr (hge k e))
/-- It is whole. -/
theorem acc_whole {w W2 W : World} {B b : Nat} {st : List UInt8} (hA : Acc w W2 W B b ⟨st, [], false⟩) : Acc w W2 (W.setCell ⟨b + 1 + 1, 0, none⟩ (.bool true)) B b ⟨st, [], true⟩ ∧ Chg (fun q => q = b + 1 + 1) W (W.setCell ⟨b + 1 + 1, 0, none⟩ (.bool true)) := by
  have hlo := hA.lo
  have hhi := hA.hi
  obtain ⟨v, h1, h2⟩ := hA.st
  obtain ⟨u, us, h3, h4⟩ := hA.rc
  have hc : Chg (fun q => q = b + 1 + 1) W (W.setCell ⟨b + 1 + 1, 0, none⟩ (.bool true)) := (Chg.refl _ W).setCell (b + 1 + 1) 0 _ (fun _ => rfl)
  refine ⟨⟨⟨v, h1.chg hc (by omega), h2.chg hc (fun k hk e => by have := (h2.blocks k hk).1; omega)⟩, ⟨u, us, h3.chg hc (by omega), h4.chg hc (fun q hq => by omega)⟩, hA.wh.set 0 _, hA.bel.setCell (p := ⟨b + 1 + 1, 0, none⟩) (by show _ ≤ b + 1 + 1; omega) _, hA.chg.trans hc (fun k _ e => .inl (.inr (.inr e))), fun h => (by cases h), hlo, hhi, Nat.le_trans hA.B hc.size⟩, hc⟩
/-- One more record. -/
theorem acc_row {w W2 W V w2 : World} {B b : Nat} {t : T3} {v v' : Value} {vs vs' : List Value} {xb : List UInt8} (hA : Acc w W2 W B b t) (hwh : t.whole = true) (hbV : Below W.heap.size W V) (hv : Blk W (b + 1) 67 #[v]) (hO : Gat W B v vs t.recs) (ho2 : Gat w2 B v' vs' (t.recs ++ [xb])) (hg : V.grownBy w2 v.ownBlock) :
    Blk w2 (b + 1) 67 #[v] ∧ Acc w W2 (w2.setCell ⟨b + 1, 0, none⟩ v') B b ⟨t.state, t.recs ++ [xb], true⟩ ∧ Chg (fun q => q = b + 1 ∨ v.ownBlock = some q) W (w2.setCell ⟨b + 1, 0, none⟩ v') := by
  have hlo := hA.lo
  have hhi := hA.hi
  obtain ⟨s, h1, h2⟩ := hA.st
  have hge : ∀ k, v.ownBlock = some k → B ≤ k := fun k hk => (World.ownsRow.lt hO.own k hk).1
  have hcV : Chg (fun q => v.ownBlock = some q) W w2 := (Chg.of_below (S := fun q => v.ownBlock = some q) hbV (Nat.le_refl _)).trans (Chg.of_grown (S := fun q => v.ownBlock = some q) hg (fun k hk => hk)) (fun _ _ h => h)
  have hc : Chg (fun q => q = b + 1 ∨ v.ownBlock = some q) W (w2.setCell ⟨b + 1, 0, none⟩ v') := (hcV.weaken (fun _ h => .inr h)).setCell (b + 1) 0 v' (fun _ => .inl rfl)
  have hb2 : Blk w2 (b + 1) 67 #[v] := hv.chg hcV (fun e => by have := hge _ e; omega)
  have hcb : Chg (fun q => q = b + 1) w2 (w2.setCell ⟨b + 1, 0, none⟩ v') := (Chg.refl _ w2).setCell (b + 1) 0 v' (fun _ => rfl)
  refine ⟨hb2, ⟨⟨s, h1.chg hc (fun e => by rcases e with e | e; omega; have := hge _ e; omega), h2.chg hc (fun k hk e => ?_)⟩, ⟨v', vs', hb2.set 0 v', ho2.chg hcb (fun q hq => by omega)⟩, ?_, ?_, ?_, fun h => (by cases h), hlo, hhi, Nat.le_trans hA.B hc.size⟩, hc⟩
  · rcases e with e | e
    · have := (h2.blocks k hk).1; omega
    · exact own_unlike hO.own h2 (by decide) e hk
  · have := hA.wh
    rw [hwh] at this
    exact this.chg hc (fun e => by rcases e with e | e; omega; have := hge _ e; omega)
  · exact ((hA.bel.trans (hbV.mono hA.bel.size)).grown hg (Nat.le_trans hA.bel.size hbV.size) (fun k hk => by have := hge k hk; omega)).setCell (p := ⟨b + 1, 0, none⟩) (by show _ ≤ b + 1; omega) v'
  · exact hA.chg.trans hc (fun k _ e => by rcases e with e | e; exact .inl (.inr (.inl e)); exact .inr (hge k e))
theorem gat_mono7 {w : World} {base base' n : Nat} {v : Value} {xs : List Value} (h : w.ownsRow base 34 1 v n xs) (hb : base' ≤ base) : w.ownsRow base' 34 1 v n xs := by
  refine ⟨h.1, ?_⟩
  rcases h.2 with h2 | ⟨g, cap, cur, h1, h2, h3⟩
  · exact .inl h2
  · exact .inr ⟨g, cap, cur, h1, Nat.le_trans hb h2, h3⟩
theorem readp_results (tmps : Array Value) (W : World) (p q : Nat) (v u : Value) (hp : tmps.getD 2 undef = .pointer (some ⟨p, 0, none⟩)) (hq : tmps.getD 3 undef = .pointer (some ⟨q, 0, none⟩)) (h0 : W.cell? ⟨p, 0, none⟩ = some v) (h1 : W.cell? ⟨q, 0, none⟩ = some u) :
    (results Tryz.f48 tmps).run Tryz.prog W = .ok (.tuple #[v, u]) W := by
  have hp' : tmps[2]?.getD undef = .pointer (some ⟨p, 0, none⟩) := by simpa using hp
  have hq' : tmps[3]?.getD undef = .pointer (some ⟨q, 0, none⟩) := by simpa using hq
  simp [results, Tryz.results48, go_sem, hp', hq', h0, h1]
set_option maxRecDepth 100000 in
set_option maxHeartbeats 4000000 in
theorem readP_any {w : World} {G n gen len : Nat} {bg bk : Bool} {tv : Value} {L : PLay} {C : Nat → Prop} {s : DS} (h : LogB w G L.g (sizeS s) n gen len bg bk tv) (hD : OD w L C s) (hdn : s.down = false) (hl : len ≤ sizeS s) :
    Calls Tryz.prog 48 #[.pointer (some ⟨G, 0, none⟩)] w fun e w' => ∃ sv rv vs, e = .returned (.tuple #[sv, rv]) ∧ Own w' w.heap.size sv (toldB ((bankS s (gen % 2)).take len)).1 ∧ Gat w' w.heap.size rv vs (toldB ((bankS s (gen % 2)).take len)).2 ∧ Below w.heap.size w w' := by
  have hsz := size_lt hD.d.ok hD.d.lay.max
  have hB0 := (((Below.refl w.heap.size w).alloc (Nat.le_refl _) (.cells #[.slice none 0 0] 34)).alloc (by simp) (.cells #[.slice none 0 0] 67)).alloc (by simp; omega) (.cells #[.bool false] 4)
  have k2 : Blk (((w.alloc (.cells #[.slice none 0 0] 34)).alloc (.cells #[.slice none 0 0] 67)).alloc (.cells #[.bool false] 4)) w.heap.size 34 #[.slice none 0 0] := ((Blk.new w _ _).alloc _).alloc _
  have k3 : Blk (((w.alloc (.cells #[.slice none 0 0] 34)).alloc (.cells #[.slice none 0 0] 67)).alloc (.cells #[.bool false] 4)) (w.heap.size + 1) 67 #[.slice none 0 0] := (Blk.newAt _ _ _ _ (by simp)).alloc _
  have k4 : Blk (((w.alloc (.cells #[.slice none 0 0] 34)).alloc (.cells #[.slice none 0 0] 67)).alloc (.cells #[.bool false] 4)) (w.heap.size + 1 + 1) 4 #[.bool false] := Blk.newAt _ _ _ _ (by simp)
  have HRB := readBank_any (Blk.below h hB0 (Blk.lt h)) (hD.after hB0) hdn hl
  have hbl : ((bankS s (gen % 2)).take len).length ≤ 262016 := by rw [List.length_take]; omega
  generalize (bankS s (gen % 2)).take len = bs at *
  have hfn : Fence.wide.fn 77 := trivial
  have hfn2 : Fence.wide.fn 76 := trivial
  clear h hD hdn hl
  refine (callsIn_wide (n := 6)).1 ?_
  refine callsIn_of_wp_marks Tryz.func48 rfl trivial ?_ rfl
  simp only [Tryz.ntmps48, List.size_toArray, List.length_cons, List.length_nil, Nat.reduceAdd, Nat.reduceSub, Array.replicate_succ, Array.replicate_zero, List.push_toArray, List.append_toArray, List.nil_append, List.cons_append]
  gi_wp2_with fail
  refine wpIn_wide.2 (wp_scope_straight ((wpIn_wide (n := 6)).1 ?_))
  gi_wp2_with fail
  refine wpIn_label ?_
  gi_wp2_with fail
  have hW1s : (((w.alloc (.cells #[.slice none 0 0] 34)).alloc (.cells #[.slice none 0 0] 67)).alloc (.cells #[.bool false] 4)).heap.size = w.heap.size + 3 := by simp
  generalize ((w.alloc (.cells #[.slice none 0 0] 34)).alloc (.cells #[.slice none 0 0] 67)).alloc (.cells #[.bool false] 4) = W1 at *
  refine (callsIn_wide.2 HRB).mono ?_
  clear HRB
  rintro e W2 ⟨v2, rfl, hs2, hq2, hb2⟩
  have hB2 : Below w.heap.size w W2 := hB0.trans (hb2.mono hB0.size)
  have m2 := k2.below hb2 k2.lt
  have m3 := k3.below hb2 k3.lt
  have m4 := k4.below hb2 k4.lt
  obtain ⟨ao, c, rfl⟩ := Seg.shapeD hs2
  clear k2 k3 k4 hB0 hb2
  gi_wp2_with fail
  refine (callsIn_wide.2 (pieces_any ao bs.length c W2)).mono ?_
  rintro e W3 ⟨rfl, rfl⟩
  gi_wp2_with fail
  have hlt2 := m2.lt
  have hlt3 := m3.lt
  have hlt4 := m4.lt
  have hW3s : (W2.alloc (.cells #[.slice ao bs.length c] 34)).heap.size = W2.heap.size + 1 := by simp
  have hsA : SegA W2 (Sb w.heap.size (W2.heap.size + 1)) (.slice ao bs.length c) bs := ⟨hs2, fun h0 q hq e => by
    have h1 := hq2 q hq
    have h2 : q < W2.heap.size := by
      rcases hs2 with ⟨e, _⟩ | ⟨b, off, c', e, _, _, hb⟩
      · rw [e] at h0; cases h0
      · rw [e] at hq
        obtain rfl : b = q := Option.some.inj hq
        exact hb
    unfold Sb at e
    omega⟩
  have hc3 : Chg (Sb w.heap.size (W2.heap.size + 1)) W2 (W2.alloc (.cells #[.slice ao bs.length c] 34)) := (Chg.refl _ _).alloc _
  have hcell : (W2.alloc (.cells #[.slice ao bs.length c] 34)).cell? ⟨W2.heap.size, 0, none⟩ = some (.slice ao bs.length c) := (Blk.new W2 _ _).cell rfl
  have hB3 : Below w.heap.size w (W2.alloc (.cells #[.slice ao bs.length c] 34)) := hB2.alloc hB2.size _
  refine wpIn_rangeFunc_ownG rfl (by decide) (gf := 107) (lb := #[.pointer (some ⟨W2.heap.size, 0, none⟩)]) rfl trivial (enters_of Tryz.func107 (by kernel_rfl) rfl)
    (pieces_stops 5 (by decide) W2.heap.size W2 (Sb w.heap.size (W2.heap.size + 1)) ao c bs (by omega) hsA _ hc3 (by simp) hcell) (fun h k => h.trans k (fun _ _ h => h)) (fun W l o o' hl _ _ _ => Chg.of_grown (grownBy_putObj' W l o') (fun k e => by cases e; exact .inr (by rw [← hW3s]; exact hl))) (Below.refl _ _) (fun _ => rfl)
    (fun pre W => ∃ t, foldW zeroT (imgs pre) = some t ∧ Acc w W2 W (W2.heap.size + 1) w.heap.size t)
    (fun c pre W => c = .exit 0 ∧ ∃ p y t, imgs pre = p ++ [y] ∧ foldW zeroT p = some t ∧ stepW t y = none ∧ Acc w W2 W (W2.heap.size + 1) w.heap.size t)
    (fun pre W W' row ⟨t, h1, h2⟩ hg hr => ⟨t, h1, h2.others hg (fun r e => ⟨by have := (hr r e).1; rw [hW3s] at this; exact this, (hr r e).2⟩)⟩)
    (fun c pre W W' row ⟨h0, p, y, t, h1, h2, h3, h4⟩ hg hr => ⟨h0, p, y, t, h1, h2, h3, h4.others hg (fun r e => ⟨by have := (hr r e).1; rw [hW3s] at this; exact this, (hr r e).2⟩)⟩)
    ⟨zeroT, rfl, ⟨_, m2.alloc _, own_none _ _⟩, ⟨_, [], m3.alloc _, Gat.nil _ _⟩, m4.alloc _, hB3, hc3, fun _ => rfl, Nat.le_refl _, by omega, by rw [hW3s]; exact Nat.le_refl _⟩
    (fun x => { tmps := #[.pointer (some ⟨G, 0, none⟩), undef, .pointer (some ⟨w.heap.size, 0, none⟩), .pointer (some ⟨w.heap.size + 1, 0, none⟩), .pointer (some ⟨w.heap.size + 1 + 1, 0, none⟩), .int .u8 (n8 x.1.2.1), x.1.1, .pointer (some ⟨G, 0, none⟩), .slice ao bs.length c, .func (.func 107) #[] #[.pointer (some ⟨W2.heap.size, 0, none⟩)], .int .u8 (n8 x.1.2.1), x.1.1, undef, undef, undef, undef, undef, undef, undef, undef, undef, undef, undef, undef, undef, undef, undef, undef, undef, undef, undef, undef, undef, undef, undef, undef, undef, undef, undef, undef, undef, undef, undef, undef, undef, undef, undef], defers := [] }) ?assign ?body ?done ?stop
  case assign =>
    intro l x W K hK
    gi_wp2
    exact hK
  case body =>
    rintro l pre x W ⟨t, ht, hA⟩ hlt
    have hF : ∀ f, (Fence.wide.inRound l).fn f := fun _ => trivial
    have hsn := imgs_snoc pre x
    obtain ⟨⟨xv, kb, xb⟩, hxs, hxl⟩ := x
    dsimp only at hxs hxl hsn ⊢
    obtain ⟨ax, cx, rfl⟩ := Seg.shapeD hxs.1
    obtain ⟨sv, hb2, hO⟩ := hA.st
    obtain ⟨rv, vs, hb3, hGt⟩ := hA.rc
    have hb4 := hA.wh
    have hxW : Seg W (.slice ax xb.length cx) xb := hxs.1.chg hA.chg hxs.2
    have hfold := foldW_snoc (imgs pre) zeroT (kb, xb)
    rw [ht] at hfold
    have hf2 : foldW zeroT (imgs (pre ++ [(⟨(.slice ax xb.length cx, kb, xb), hxs, hxl⟩ : ItemT W2 (Sb w.heap.size (W2.heap.size + 1)))])) = stepW t (kb, xb) := by rw [hsn]; exact hfold
    clear hfold
    have hfl := foldW_len (imgs pre) zeroT t ht (fun x hx => by obtain ⟨y, _, rfl⟩ := List.mem_map.1 hx; exact y.2.2)
    have hil : (imgs pre).length = pre.length := by unfold imgs; rw [List.length_map]
    rw [hil] at hfl
    have hstl : t.state.length ≤ 500000000 := by have := hfl.1; have e : zeroT.state.length = 0 := rfl; omega
    have hrl : t.recs.length ≤ 1000000 := by have := hfl.2; have e : zeroT.recs.length = 0 := rfl; omega
    clear hfl hil
    have hn1 : (kb = 1) ↔ kb.toNat = 1 := u8_eq kb 1 (by decide)
    have hn2 : (kb = 2) ↔ kb.toNat = 2 := u8_eq kb 2 (by decide)
    have hn3 : (kb = 3) ↔ kb.toNat = 3 := u8_eq kb 3 (by decide)
    have k4 := hb4.cell (j := 0) rfl
    have k4f := hb4.frozen 0
    have k2 := hb2.cell (j := 0) rfl
    have k2f := hb2.frozen 0
    cases hwh : t.whole with
    | false =>
      rw [hwh] at k4
      by_cases h1 : kb = 1
      · have HF : Hid (foldW zeroT (imgs (pre ++ [(⟨(.slice ax xb.length cx, kb, xb), hxs, hxl⟩ : ItemT W2 (Sb w.heap.size (W2.heap.size + 1)))])) = some ⟨t.state ++ xb, t.recs, false⟩) := by show _ = _; rw [hf2]; unfold stepW; rw [if_pos ⟨h1, hwh⟩, hwh]
        have e1 : (n8 kb == 1) = true := by unfold n8; rw [hn1.1 h1]; rfl
        clear hf2
        gi_wp2_with (gi_at_builtin; refine app_own_in7 _ rfl (.tmp 19) (.tmp 20) rfl (W2.heap.size + 1) _ t.state rfl hO _ xb rfl hxW (by omega) hA.B ?_; intro v2 w2 ho2 hg2 _; obtain ⟨hbx, hAx, hcx⟩ := acc_state (v' := v2) hA hwh hb2 hO ho2 hg2; have kx := hbx.cell (j := 0) rfl; have kxf := hbx.frozen 0; obtain ⟨a2, c2, rfl⟩ := Seg.shapeD ho2.seg)
        rw [List.length_append] at hAx hcx
        exact ⟨keeps_chg (S := fun q => q = w.heap.size ∨ sv.ownBlock = some q) _ hcx (fun k hk o ho => by rcases hk with rfl | hk; exact blk_isCells hb2 o ho; exact own_isCells hO k hk o ho), Chg.weaken (S := fun q => q = w.heap.size ∨ sv.ownBlock = some q) hcx (fun q hq => by rcases hq with rfl | hq; exact .inl (.inl rfl); exact .inr ((hO.blocks q hq).1)), ⟨_, HF.out, hAx⟩⟩
      by_cases h2 : kb = 2
      · have hr0 := hA.none hwh
        have HF : Hid (foldW zeroT (imgs (pre ++ [(⟨(.slice ax xb.length cx, kb, xb), hxs, hxl⟩ : ItemT W2 (Sb w.heap.size (W2.heap.size + 1)))])) = some ⟨t.state ++ xb, [], true⟩) := by show _ = _; rw [hf2]; unfold stepW; rw [if_neg (fun h => h1 h.1), if_pos ⟨h2, hwh⟩, hr0]
        have e1 : (n8 kb == 1) = false := by unfold n8; rw [hn2.1 h2]; rfl
        have e2 : (n8 kb == 2) = true := by unfold n8; rw [hn2.1 h2]; rfl
        clear hf2 h1 h2 hn1 hn2 hn3
        gi_wp2_with (gi_at_builtin; refine app_own_in7 _ rfl (.tmp 29) (.tmp 30) rfl (W2.heap.size + 1) _ t.state rfl hO _ xb rfl hxW (by omega) hA.B ?_; intro v2 w2 ho2 hg2 _; obtain ⟨hbx, hAx, hcx⟩ := acc_state (v' := v2) hA hwh hb2 hO ho2 hg2; rw [hr0] at hAx; have kx := hbx.cell (j := 0) rfl; have kxf := hbx.frozen 0; have ky := hAx.wh.cell (j := 0) rfl; have kyf := hAx.wh.frozen 0; obtain ⟨hAy, hcy⟩ := acc_whole hAx; obtain ⟨a2, c2, rfl⟩ := Seg.shapeD ho2.seg; rw [List.length_append] at hAx hcx ky kyf hAy hcy)
        exact ⟨KeepsFrom.trans (keeps_chg (S := fun q => q = w.heap.size ∨ sv.ownBlock = some q) _ hcx (fun k hk o ho => by rcases hk with rfl | hk; exact blk_isCells hb2 o ho; exact own_isCells hO k hk o ho)) (keeps_chg (S := fun q => q = w.heap.size + 1 + 1) _ hcy (fun k hk o ho => by subst hk; exact blk_isCells hAx.wh o ho)), (Chg.weaken (S := fun q => q = w.heap.size ∨ sv.ownBlock = some q) hcx (fun q hq => by rcases hq with rfl | hq; exact .inl (.inl rfl); exact .inr ((hO.blocks q hq).1))).trans (Chg.weaken (S := fun q => q = w.heap.size + 1 + 1) hcy (fun q hq => .inl (.inr (.inr hq)))) (fun _ _ h => h), ⟨_, HF.out, hAy⟩⟩
      by_cases h3 : kb = 3
      · have HF : Hid (stepW t (kb, xb) = none) := by show _ = _; unfold stepW; rw [if_neg (fun h => h1 h.1), if_neg (fun h => h2 h.1), if_neg (fun h => by rw [hwh] at h; cases h.2)]
        have e1 : (n8 kb == 1) = false := by unfold n8; rw [hn3.1 h3]; rfl
        have e2 : (n8 kb == 2) = false := by unfold n8; rw [hn3.1 h3]; rfl
        have e3 : (n8 kb == 3) = true := by unfold n8; rw [hn3.1 h3]; rfl
        clear hf2
        gi_wp2
        exact ⟨KeepsFrom.refl _ _, rfl, imgs pre, (kb, xb), t, hsn, ht, HF.out, hA⟩
      · have HF : Hid (stepW t (kb, xb) = none) := by show _ = _; unfold stepW; rw [if_neg (fun h => h1 h.1), if_neg (fun h => h2 h.1), if_neg (fun h => h3 h.1)]
        have e1 : (n8 kb == 1) = false := by unfold n8; rw [beq_eq_false_iff_ne]; intro e; exact h1 (hn1.2 (by omega))
        have e2 : (n8 kb == 2) = false := by unfold n8; rw [beq_eq_false_iff_ne]; intro e; exact h2 (hn2.2 (by omega))
        have e3 : (n8 kb == 3) = false := by unfold n8; rw [beq_eq_false_iff_ne]; intro e; exact h3 (hn3.2 (by omega))
        clear hf2
        gi_wp2
        exact ⟨KeepsFrom.refl _ _, rfl, imgs pre, (kb, xb), t, hsn, ht, HF.out, hA⟩
    | true =>
      rw [hwh] at k4
      by_cases h3 : kb = 3
      · have HF : Hid (foldW zeroT (imgs (pre ++ [(⟨(.slice ax xb.length cx, kb, xb), hxs, hxl⟩ : ItemT W2 (Sb w.heap.size (W2.heap.size + 1)))])) = some ⟨t.state, t.recs ++ [xb], true⟩) := by show _ = _; rw [hf2]; unfold stepW; rw [if_neg (fun h => by rw [hwh] at h; cases h.2), if_neg (fun h => by rw [hwh] at h; cases h.2), if_pos ⟨h3, hwh⟩, hwh]
        have e1 : (n8 kb == 1) = false := by unfold n8; rw [hn3.1 h3]; rfl
        have e2 : (n8 kb == 2) = false := by unfold n8; rw [hn3.1 h3]; rfl
        have e3 : (n8 kb == 3) = true := by unfold n8; rw [hn3.1 h3]; rfl
        clear hf2
        obtain ⟨ar, cr, rfl⟩ := hGt.sl
        have HRL : Hid (t.recs.length ≤ 1000000) := hrl
        clear hrl
        obtain ⟨nr, hnr⟩ : ∃ nr, nr = t.recs.length := ⟨_, rfl⟩
        rw [← hnr] at hGt hb3
        clear hnr h3 hn1 hn2 hn3
        gi_wp2_with fail
        refine wpIn_region_any (by kernel_rfl) ?_
        have hbD : Below W.heap.size W W.drew := (Below.refl _ W).drew
        have hxD : Seg W.drew (.slice ax xb.length cx) xb := hxW
        show wpAnyIn _ _ _ _ _ _ _ _ _ W.drew
        have c0 : W.drew.cell? ⟨w.heap.size + 1, 0, none⟩ = some (.slice ar nr cr) := hb3.drew.cell rfl
        refine anyin_all2 0 1 (by kernel_rfl) ?_ ?_
        · refine opin_value hF 0 38 _ (.slice ar nr cr) _ rfl rfl rfl (by intro c hc; cases hc) (exec_loadc 67 _ rfl _ _ rfl (load_one 67 (fun _ => by kernel_rfl) _ _ _ _ (c0))) ?_
          simp only [Act.put, List.setIfInBounds_toArray, List.set_cons_succ, List.set_cons_zero]
          refine anyin_all1 1 (by kernel_rfl) (opin_value hF 1 39 _ (.slice ax xb.length cx) _ rfl rfl rfl (by intro c hc; cases hc) rfl ?_)
          simp only [Act.put, List.setIfInBounds_toArray, List.set_cons_succ, List.set_cons_zero]
          refine anyin_all1 2 (by kernel_rfl) (opin_call hF (fun _ => by decide) 2 40 _ 42 #[.slice ax xb.length cx] rfl rfl rfl (by intro c hc; cases hc) (exec_one 42 _ _ rfl _ rfl Tryz.call42) (CallsIn.inRound l (callsIn_wide.2 ((bclone_any _ xb _ (by omega) (by exact hxD)).mono ?_))))
          rintro e V2 ⟨v40, rfl, ho40, hb40⟩
          obtain ⟨a40, c40, rfl⟩ := Seg.shapeD ho40.seg
          refine ⟨_, rfl, ?_⟩
          simp only [Act.put, List.setIfInBounds_toArray, List.set_cons_succ, List.set_cons_zero]
          refine anyin_all1 3 (by kernel_rfl) (opin_value hF 3 41 _ (.slice (some ⟨V2.heap.size, 0, none⟩) 1 1) _ rfl rfl rfl (by intro c hc; cases hc) (exec_rows _ rfl a40 xb.length c40 rfl) ?_)
          simp only [Act.put, List.setIfInBounds_toArray, List.set_cons_succ, List.set_cons_zero]
          have hbV : Below W.heap.size W (V2.alloc (.cells #[.slice a40 xb.length c40] 34)) := (hbD.trans (hb40.mono hbD.size)).alloc (Nat.le_trans hbD.size hb40.size) _
          have hgV : Gat (V2.alloc (.cells #[.slice a40 xb.length c40] 34)) (W2.heap.size + 1) (.slice ar nr cr) vs t.recs := hGt.below hbV (Nat.le_refl _)
          have hcV : (V2.alloc (.cells #[.slice a40 xb.length c40] 34)).cell? ⟨V2.heap.size, 0, none⟩ = some (.slice a40 xb.length c40) := (Blk.new V2 _ _).cell rfl
          have hoV : Own (V2.alloc (.cells #[.slice a40 xb.length c40] 34)) (W2.heap.size + 1) (.slice a40 xb.length c40) xb := (ho40.alloc _).mono (Nat.le_trans hA.B hbD.size)
          obtain ⟨v42, w42, hr42, hg42, hgr42, -⟩ := app_rows _ (W2.heap.size + 1) _ vs t.recs hgV V2.heap.size 1 _ xb hcV hoV HRL.out (Nat.le_trans hA.B hbV.size)
          obtain ⟨hbx, hAx, hcx⟩ := acc_row (v' := v42) hA hwh hbV hb3 hGt hg42 hgr42
          obtain ⟨a42, c42, rfl⟩ := hg42.sl
          refine anyin_all1 4 (by kernel_rfl) (opin_value hF 4 42 _ _ w42 rfl rfl rfl (by intro c hc; cases hc) (exec_app _ _ 67 67 rfl (.slice ar nr cr) (.slice (some ⟨V2.heap.size, 0, none⟩) 1 1) _ rfl rfl hr42) ?_)
          simp only [Act.put, List.setIfInBounds_toArray, List.set_cons_succ, List.set_cons_zero]
          refine anyin_all1 5 (by kernel_rfl) (opin_skip hF 5 _ _ rfl rfl rfl (by intro c hc; cases hc) (exec_storer _ _ rfl (w.heap.size + 1) 0 a42 (t.recs ++ [xb]).length c42 _ rfl rfl (hbx.cell rfl) (hbx.frozen 0)) ?_)
          refine wpAnyIn_done (by kernel_rfl) ?_ _
          gi_wp2
          exact ⟨keeps_chg _ hcx (fun k hk o ho => by rcases hk with rfl | hk; exact blk_isCells hb3 o ho; exact own_isCells hGt.own k hk o ho), hcx.weaken (fun q hq => by rcases hq with rfl | hq; exact .inl (.inr (.inl rfl)); exact .inr ((World.ownsRow.lt hGt.own q hq).1)), ⟨_, HF.out, hAx⟩⟩
        · refine opin_value hF 1 39 _ (.slice ax xb.length cx) _ rfl rfl rfl (by intro c hc; cases hc) rfl ?_
          simp only [Act.put, List.setIfInBounds_toArray, List.set_cons_succ, List.set_cons_zero]
          refine anyin_all2 0 2 (by kernel_rfl) ?_ ?_
          · refine opin_value hF 0 38 _ (.slice ar nr cr) _ rfl rfl rfl (by intro c hc; cases hc) (exec_loadc 67 _ rfl _ _ rfl (load_one 67 (fun _ => by kernel_rfl) _ _ _ _ (c0))) ?_
            simp only [Act.put, List.setIfInBounds_toArray, List.set_cons_succ, List.set_cons_zero]
            refine anyin_all1 2 (by kernel_rfl) (opin_call hF (fun _ => by decide) 2 40 _ 42 #[.slice ax xb.length cx] rfl rfl rfl (by intro c hc; cases hc) (exec_one 42 _ _ rfl _ rfl Tryz.call42) (CallsIn.inRound l (callsIn_wide.2 ((bclone_any _ xb _ (by omega) (by exact hxD)).mono ?_))))
            rintro e V2 ⟨v40, rfl, ho40, hb40⟩
            obtain ⟨a40, c40, rfl⟩ := Seg.shapeD ho40.seg
            refine ⟨_, rfl, ?_⟩
            simp only [Act.put, List.setIfInBounds_toArray, List.set_cons_succ, List.set_cons_zero]
            refine anyin_all1 3 (by kernel_rfl) (opin_value hF 3 41 _ (.slice (some ⟨V2.heap.size, 0, none⟩) 1 1) _ rfl rfl rfl (by intro c hc; cases hc) (exec_rows _ rfl a40 xb.length c40 rfl) ?_)
            simp only [Act.put, List.setIfInBounds_toArray, List.set_cons_succ, List.set_cons_zero]
            have hbV : Below W.heap.size W (V2.alloc (.cells #[.slice a40 xb.length c40] 34)) := (hbD.trans (hb40.mono hbD.size)).alloc (Nat.le_trans hbD.size hb40.size) _
            have hgV : Gat (V2.alloc (.cells #[.slice a40 xb.length c40] 34)) (W2.heap.size + 1) (.slice ar nr cr) vs t.recs := hGt.below hbV (Nat.le_refl _)
            have hcV : (V2.alloc (.cells #[.slice a40 xb.length c40] 34)).cell? ⟨V2.heap.size, 0, none⟩ = some (.slice a40 xb.length c40) := (Blk.new V2 _ _).cell rfl
            have hoV : Own (V2.alloc (.cells #[.slice a40 xb.length c40] 34)) (W2.heap.size + 1) (.slice a40 xb.length c40) xb := (ho40.alloc _).mono (Nat.le_trans hA.B hbD.size)
            obtain ⟨v42, w42, hr42, hg42, hgr42, -⟩ := app_rows _ (W2.heap.size + 1) _ vs t.recs hgV V2.heap.size 1 _ xb hcV hoV HRL.out (Nat.le_trans hA.B hbV.size)
            obtain ⟨hbx, hAx, hcx⟩ := acc_row (v' := v42) hA hwh hbV hb3 hGt hg42 hgr42
            obtain ⟨a42, c42, rfl⟩ := hg42.sl
            refine anyin_all1 4 (by kernel_rfl) (opin_value hF 4 42 _ _ w42 rfl rfl rfl (by intro c hc; cases hc) (exec_app _ _ 67 67 rfl (.slice ar nr cr) (.slice (some ⟨V2.heap.size, 0, none⟩) 1 1) _ rfl rfl hr42) ?_)
            simp only [Act.put, List.setIfInBounds_toArray, List.set_cons_succ, List.set_cons_zero]
            refine anyin_all1 5 (by kernel_rfl) (opin_skip hF 5 _ _ rfl rfl rfl (by intro c hc; cases hc) (exec_storer _ _ rfl (w.heap.size + 1) 0 a42 (t.recs ++ [xb]).length c42 _ rfl rfl (hbx.cell rfl) (hbx.frozen 0)) ?_)
            refine wpAnyIn_done (by kernel_rfl) ?_ _
            gi_wp2
            exact ⟨keeps_chg _ hcx (fun k hk o ho => by rcases hk with rfl | hk; exact blk_isCells hb3 o ho; exact own_isCells hGt.own k hk o ho), hcx.weaken (fun q hq => by rcases hq with rfl | hq; exact .inl (.inr (.inl rfl)); exact .inr ((World.ownsRow.lt hGt.own q hq).1)), ⟨_, HF.out, hAx⟩⟩
          · refine opin_call hF (fun _ => by decide) 2 40 _ 42 #[.slice ax xb.length cx] rfl rfl rfl (by intro c hc; cases hc) (exec_one 42 _ _ rfl _ rfl Tryz.call42) (CallsIn.inRound l (callsIn_wide.2 ((bclone_any _ xb _ (by omega) (by exact hxD)).mono ?_)))
            rintro e V2 ⟨v40, rfl, ho40, hb40⟩
            obtain ⟨a40, c40, rfl⟩ := Seg.shapeD ho40.seg
            refine ⟨_, rfl, ?_⟩
            simp only [Act.put, List.setIfInBounds_toArray, List.set_cons_succ, List.set_cons_zero]
            refine anyin_all2 0 3 (by kernel_rfl) ?_ ?_
            · refine opin_value hF 0 38 _ (.slice ar nr cr) _ rfl rfl rfl (by intro c hc; cases hc) (exec_loadc 67 _ rfl _ _ rfl (load_one 67 (fun _ => by kernel_rfl) _ _ _ _ ((hb3.drew.below hb40 hb3.lt).cell rfl))) ?_
              simp only [Act.put, List.setIfInBounds_toArray, List.set_cons_succ, List.set_cons_zero]
              refine anyin_all1 3 (by kernel_rfl) (opin_value hF 3 41 _ (.slice (some ⟨V2.heap.size, 0, none⟩) 1 1) _ rfl rfl rfl (by intro c hc; cases hc) (exec_rows _ rfl a40 xb.length c40 rfl) ?_)
              simp only [Act.put, List.setIfInBounds_toArray, List.set_cons_succ, List.set_cons_zero]
              have hbV : Below W.heap.size W (V2.alloc (.cells #[.slice a40 xb.length c40] 34)) := (hbD.trans (hb40.mono hbD.size)).alloc (Nat.le_trans hbD.size hb40.size) _
              have hgV : Gat (V2.alloc (.cells #[.slice a40 xb.length c40] 34)) (W2.heap.size + 1) (.slice ar nr cr) vs t.recs := hGt.below hbV (Nat.le_refl _)
              have hcV : (V2.alloc (.cells #[.slice a40 xb.length c40] 34)).cell? ⟨V2.heap.size, 0, none⟩ = some (.slice a40 xb.length c40) := (Blk.new V2 _ _).cell rfl
              have hoV : Own (V2.alloc (.cells #[.slice a40 xb.length c40] 34)) (W2.heap.size + 1) (.slice a40 xb.length c40) xb := (ho40.alloc _).mono (Nat.le_trans hA.B hbD.size)
              obtain ⟨v42, w42, hr42, hg42, hgr42, -⟩ := app_rows _ (W2.heap.size + 1) _ vs t.recs hgV V2.heap.size 1 _ xb hcV hoV HRL.out (Nat.le_trans hA.B hbV.size)
              obtain ⟨hbx, hAx, hcx⟩ := acc_row (v' := v42) hA hwh hbV hb3 hGt hg42 hgr42
              obtain ⟨a42, c42, rfl⟩ := hg42.sl
              refine anyin_all1 4 (by kernel_rfl) (opin_value hF 4 42 _ _ w42 rfl rfl rfl (by intro c hc; cases hc) (exec_app _ _ 67 67 rfl (.slice ar nr cr) (.slice (some ⟨V2.heap.size, 0, none⟩) 1 1) _ rfl rfl hr42) ?_)
              simp only [Act.put, List.setIfInBounds_toArray, List.set_cons_succ, List.set_cons_zero]
              refine anyin_all1 5 (by kernel_rfl) (opin_skip hF 5 _ _ rfl rfl rfl (by intro c hc; cases hc) (exec_storer _ _ rfl (w.heap.size + 1) 0 a42 (t.recs ++ [xb]).length c42 _ rfl rfl (hbx.cell rfl) (hbx.frozen 0)) ?_)
              refine wpAnyIn_done (by kernel_rfl) ?_ _
              gi_wp2
              exact ⟨keeps_chg _ hcx (fun k hk o ho => by rcases hk with rfl | hk; exact blk_isCells hb3 o ho; exact own_isCells hGt.own k hk o ho), hcx.weaken (fun q hq => by rcases hq with rfl | hq; exact .inl (.inr (.inl rfl)); exact .inr ((World.ownsRow.lt hGt.own q hq).1)), ⟨_, HF.out, hAx⟩⟩
            · refine opin_value hF 3 41 _ (.slice (some ⟨V2.heap.size, 0, none⟩) 1 1) _ rfl rfl rfl (by intro c hc; cases hc) (exec_rows _ rfl a40 xb.length c40 rfl) ?_
              simp only [Act.put, List.setIfInBounds_toArray, List.set_cons_succ, List.set_cons_zero]
              refine anyin_all1 0 (by kernel_rfl) (opin_value hF 0 38 _ (.slice ar nr cr) _ rfl rfl rfl (by intro c hc; cases hc) (exec_loadc 67 _ rfl _ _ rfl (load_one 67 (fun _ => by kernel_rfl) _ _ _ _ (((hb3.drew.below hb40 hb3.lt).alloc _).cell rfl))) ?_)
              simp only [Act.put, List.setIfInBounds_toArray, List.set_cons_succ, List.set_cons_zero]
              have hbV : Below W.heap.size W (V2.alloc (.cells #[.slice a40 xb.length c40] 34)) := (hbD.trans (hb40.mono hbD.size)).alloc (Nat.le_trans hbD.size hb40.size) _
              have hgV : Gat (V2.alloc (.cells #[.slice a40 xb.length c40] 34)) (W2.heap.size + 1) (.slice ar nr cr) vs t.recs := hGt.below hbV (Nat.le_refl _)
              have hcV : (V2.alloc (.cells #[.slice a40 xb.length c40] 34)).cell? ⟨V2.heap.size, 0, none⟩ = some (.slice a40 xb.length c40) := (Blk.new V2 _ _).cell rfl
              have hoV : Own (V2.alloc (.cells #[.slice a40 xb.length c40] 34)) (W2.heap.size + 1) (.slice a40 xb.length c40) xb := (ho40.alloc _).mono (Nat.le_trans hA.B hbD.size)
              obtain ⟨v42, w42, hr42, hg42, hgr42, -⟩ := app_rows _ (W2.heap.size + 1) _ vs t.recs hgV V2.heap.size 1 _ xb hcV hoV HRL.out (Nat.le_trans hA.B hbV.size)
              obtain ⟨hbx, hAx, hcx⟩ := acc_row (v' := v42) hA hwh hbV hb3 hGt hg42 hgr42
              obtain ⟨a42, c42, rfl⟩ := hg42.sl
              refine anyin_all1 4 (by kernel_rfl) (opin_value hF 4 42 _ _ w42 rfl rfl rfl (by intro c hc; cases hc) (exec_app _ _ 67 67 rfl (.slice ar nr cr) (.slice (some ⟨V2.heap.size, 0, none⟩) 1 1) _ rfl rfl hr42) ?_)
              simp only [Act.put, List.setIfInBounds_toArray, List.set_cons_succ, List.set_cons_zero]
              refine anyin_all1 5 (by kernel_rfl) (opin_skip hF 5 _ _ rfl rfl rfl (by intro c hc; cases hc) (exec_storer _ _ rfl (w.heap.size + 1) 0 a42 (t.recs ++ [xb]).length c42 _ rfl rfl (hbx.cell rfl) (hbx.frozen 0)) ?_)
              refine wpAnyIn_done (by kernel_rfl) ?_ _
              gi_wp2
              exact ⟨keeps_chg _ hcx (fun k hk o ho => by rcases hk with rfl | hk; exact blk_isCells hb3 o ho; exact own_isCells hGt.own k hk o ho), hcx.weaken (fun q hq => by rcases hq with rfl | hq; exact .inl (.inr (.inl rfl)); exact .inr ((World.ownsRow.lt hGt.own q hq).1)), ⟨_, HF.out, hAx⟩⟩
      by_cases h1 : kb = 1
      · have HF : Hid (stepW t (kb, xb) = none) := by show _ = _; unfold stepW; rw [if_neg (fun h => by rw [hwh] at h; cases h.2), if_neg (fun h => by rw [hwh] at h; cases h.2), if_neg (fun h => h3 h.1)]
        have e1 : (n8 kb == 1) = true := by unfold n8; rw [hn1.1 h1]; rfl
        have e2 : (n8 kb == 2) = false := by unfold n8; rw [hn1.1 h1]; rfl
        have e3 : (n8 kb == 3) = false := by unfold n8; rw [hn1.1 h1]; rfl
        clear hf2
        gi_wp2
        exact ⟨KeepsFrom.refl _ _, rfl, imgs pre, (kb, xb), t, hsn, ht, HF.out, hA⟩
      by_cases h2 : kb = 2
      · have HF : Hid (stepW t (kb, xb) = none) := by show _ = _; unfold stepW; rw [if_neg (fun h => by rw [hwh] at h; cases h.2), if_neg (fun h => by rw [hwh] at h; cases h.2), if_neg (fun h => h3 h.1)]
        have e1 : (n8 kb == 1) = false := by unfold n8; rw [hn2.1 h2]; rfl
        have e2 : (n8 kb == 2) = true := by unfold n8; rw [hn2.1 h2]; rfl
        have e3 : (n8 kb == 3) = false := by unfold n8; rw [hn2.1 h2]; rfl
        clear hf2
        gi_wp2
        exact ⟨KeepsFrom.refl _ _, rfl, imgs pre, (kb, xb), t, hsn, ht, HF.out, hA⟩
      · have HF : Hid (stepW t (kb, xb) = none) := by show _ = _; unfold stepW; rw [if_neg (fun h => by rw [hwh] at h; cases h.2), if_neg (fun h => by rw [hwh] at h; cases h.2), if_neg (fun h => h3 h.1)]
        have e1 : (n8 kb == 1) = false := by unfold n8; rw [beq_eq_false_iff_ne]; intro e; exact h1 (hn1.2 (by omega))
        have e2 : (n8 kb == 2) = false := by unfold n8; rw [beq_eq_false_iff_ne]; intro e; exact h2 (hn2.2 (by omega))
        have e3 : (n8 kb == 3) = false := by unfold n8; rw [beq_eq_false_iff_ne]; intro e; exact h3 (hn3.2 (by omega))
        clear hf2
        gi_wp2
        exact ⟨KeepsFrom.refl _ _, rfl, imgs pre, (kb, xb), t, hsn, ht, HF.out, hA⟩
  case done =>
    rintro D ys W hD hS ⟨t, ht, hA⟩ hK
    rw [hS] at ht
    have htell : goW zeroT (seqOf bs) = t := by
      have := goW_append (seqOf bs) [] zeroT t ht
      rwa [List.append_nil] at this
    have HTD := told_seq bs
    rw [htell] at HTD
    obtain ⟨sv, hb2, hO⟩ := hA.st
    obtain ⟨rv, vs, hb3, hGt⟩ := hA.rc
    have hb4 := hA.wh
    have hB := hA.bel
    have hBb := hA.B
    have hlo := hA.lo
    have hhi := hA.hi
    obtain ⟨a2, c2, rfl⟩ := Seg.shapeD hO.seg
    obtain ⟨a3, c3, rfl⟩ := hGt.sl
    have x2 := hb2.cell (j := 0) rfl
    have f2 := hb2.frozen 0
    have x3 := hb3.cell (j := 0) rfl
    have f3 := hb3.frozen 0
    have x4 := hb4.cell (j := 0) rfl
    simp only [World.size_alloc] at hD
    have hDB : W2.heap.size + 1 ≤ D := hD
    cases hwh : t.whole with
    | false =>
      rw [hwh] at x4
      rw [hwh] at HTD
      have HT0 : Hid (toldB bs = ([], [])) := HTD
      clear htell HTD hA ht
      have hcW : Chg (fun q => q = w.heap.size ∨ q = w.heap.size + 1) W ((W.setCell ⟨w.heap.size, 0, none⟩ (.slice none 0 0)).setCell ⟨w.heap.size + 1, 0, none⟩ (.slice none 0 0)) := ((Chg.refl (fun q => q = w.heap.size ∨ q = w.heap.size + 1) W).setCell w.heap.size 0 _ (fun _ => .inl rfl)).setCell (w.heap.size + 1) 0 _ (fun _ => .inr rfl)
      have y2 : Blk ((W.setCell ⟨w.heap.size, 0, none⟩ (.slice none 0 0)).setCell ⟨w.heap.size + 1, 0, none⟩ (.slice none 0 0)) w.heap.size 34 #[.slice none 0 0] := (hb2.set 0 (.slice none 0 0)).setOther _ _ (by show w.heap.size ≠ w.heap.size + 1; omega)
      have y3 : Blk ((W.setCell ⟨w.heap.size, 0, none⟩ (.slice none 0 0)).setCell ⟨w.heap.size + 1, 0, none⟩ (.slice none 0 0)) (w.heap.size + 1) 67 #[.slice none 0 0] := (hb3.setOther _ _ (by show w.heap.size + 1 ≠ w.heap.size; omega)).set 0 (.slice none 0 0)
      gi_wp2
      have hDl : D < W.heap.size := (Array.getElem?_eq_some_iff.1 hK).1
      have hK' : ((W.setCell ⟨w.heap.size, 0, none⟩ (.slice none 0 0)).setCell ⟨w.heap.size + 1, 0, none⟩ (.slice none 0 0)).heap[D]? = some (.deferred (some [])) := by rw [hcW.2 D hDl (fun e => by omega)]; exact hK
      (try simp only [Exit.noGoto])
      refine ⟨by simp, .inl ⟨_, _, rfl, run_takeDeferred hK', ?_⟩⟩
      have hc5 : Chg (fun q => q = D) ((W.setCell ⟨w.heap.size, 0, none⟩ (.slice none 0 0)).setCell ⟨w.heap.size + 1, 0, none⟩ (.slice none 0 0)) ((((W.setCell ⟨w.heap.size, 0, none⟩ (.slice none 0 0)).setCell ⟨w.heap.size + 1, 0, none⟩ (.slice none 0 0))).putObj D (.deferred none)) := Chg.of_grown (grownBy_putObj' _ D (.deferred none)) (fun k e => by cases e; rfl)
      have hno : ∀ {base : Nat} {e : TypeId} {v : Value} {n : Nat} {xs : List Value}, (((W.setCell ⟨w.heap.size, 0, none⟩ (.slice none 0 0)).setCell ⟨w.heap.size + 1, 0, none⟩ (.slice none 0 0))).ownsRow base e 1 v n xs → ∀ k, v.ownBlock = some k → ¬ k = D := fun h k hk e => by
        obtain ⟨c', f', hcf⟩ := own_cells h hk
        rw [e, hK'] at hcf
        cases hcf
      refine ⟨.tuple #[.slice none 0 0, .slice none 0 0], readp_results _ _ _ _ _ _ rfl rfl ((y2.chg hc5 (by omega)).cell rfl) ((y3.chg hc5 (by omega)).cell rfl), .slice none 0 0, .slice none 0 0, [], rfl, ?_, ?_, ?_⟩
      · rw [HT0.out]; exact own_none _ _
      · rw [HT0.out]; exact Gat.nil _ _
      · exact ((hB.trans (hcW.below (B := w.heap.size) (fun k hk => by omega) hB.size))).trans (hc5.below (B := w.heap.size) (fun k hk => by omega) (Nat.le_trans hB.size hcW.size))
    | true =>
      rw [hwh] at x4
      rw [hwh] at HTD
      have HT1 : Hid (toldB bs = (t.state, t.recs)) := HTD
      clear htell HTD hA ht
      have hcW : Chg (fun q => q = w.heap.size ∨ q = w.heap.size + 1) W ((W.drew.setCell ⟨w.heap.size, 0, none⟩ (.slice a2 t.state.length c2)).setCell ⟨w.heap.size + 1, 0, none⟩ (.slice a3 t.recs.length c3)) := (((Chg.refl (fun q => q = w.heap.size ∨ q = w.heap.size + 1) W).drew).setCell w.heap.size 0 _ (fun _ => .inl rfl)).setCell (w.heap.size + 1) 0 _ (fun _ => .inr rfl)
      have y1 : Blk (W.drew.setCell ⟨w.heap.size, 0, none⟩ (.slice a2 t.state.length c2)) (w.heap.size + 1) 67 #[.slice a3 t.recs.length c3] := hb3.drew.setOther _ _ (by show w.heap.size + 1 ≠ w.heap.size; omega)
      have y0 : Blk (W.drew.setCell ⟨w.heap.size, 0, none⟩ (.slice a2 t.state.length c2)) w.heap.size 34 #[.slice a2 t.state.length c2] := hb2.drew.set 0 _
      have y2 : Blk ((W.drew.setCell ⟨w.heap.size, 0, none⟩ (.slice a2 t.state.length c2)).setCell ⟨w.heap.size + 1, 0, none⟩ (.slice a3 t.recs.length c3)) w.heap.size 34 #[.slice a2 t.state.length c2] := y0.setOther _ _ (by show w.heap.size ≠ w.heap.size + 1; omega)
      have y3 : Blk ((W.drew.setCell ⟨w.heap.size, 0, none⟩ (.slice a2 t.state.length c2)).setCell ⟨w.heap.size + 1, 0, none⟩ (.slice a3 t.recs.length c3)) (w.heap.size + 1) 67 #[.slice a3 t.recs.length c3] := y1.set 0 _
      gi_wp2_with fail
      refine wpIn_wide.2 ?_
      have hS0 : W.drew.cell? ⟨w.heap.size, 0, none⟩ = some (.slice a2 t.state.length c2) ∧ W.drew.cell? ⟨w.heap.size + 1, 0, none⟩ = some (.slice a3 t.recs.length c3) := ⟨x2, x3⟩
      have hS1 : (W.drew.setCell ⟨w.heap.size, 0, none⟩ (.slice a2 t.state.length c2)).cell? ⟨w.heap.size, 0, none⟩ = some (.slice a2 t.state.length c2) ∧ (W.drew.setCell ⟨w.heap.size, 0, none⟩ (.slice a2 t.state.length c2)).cell? ⟨w.heap.size + 1, 0, none⟩ = some (.slice a3 t.recs.length c3) := ⟨y0.cell rfl, y1.cell rfl⟩
      have hS2 : ((W.drew.setCell ⟨w.heap.size, 0, none⟩ (.slice a2 t.state.length c2)).setCell ⟨w.heap.size + 1, 0, none⟩ (.slice a3 t.recs.length c3)).cell? ⟨w.heap.size, 0, none⟩ = some (.slice a2 t.state.length c2) ∧ ((W.drew.setCell ⟨w.heap.size, 0, none⟩ (.slice a2 t.state.length c2)).setCell ⟨w.heap.size + 1, 0, none⟩ (.slice a3 t.recs.length c3)).cell? ⟨w.heap.size + 1, 0, none⟩ = some (.slice a3 t.recs.length c3) := ⟨y2.cell rfl, y3.cell rfl⟩
      refine held_begin (fun V => V.cell? ⟨w.heap.size, 0, none⟩ = some (.slice a2 t.state.length c2) ∧ V.cell? ⟨w.heap.size + 1, 0, none⟩ = some (.slice a3 t.recs.length c3)) (by kernel_rfl) ?_
      refine held_take 0 45 _ (.slice a2 t.state.length c2) rfl rfl (by kernel_rfl) (by kernel_rfl) (by kernel_rfl) rfl hS0 (fun V hV => exec_loadc 34 _ rfl _ _ rfl (load_one 34 (fun _ => by kernel_rfl) V _ _ _ hV.1)) ?_
      simp only [Act.put, List.setIfInBounds_toArray, List.set_cons_succ, List.set_cons_zero]
      refine held_take 1 46 _ (.slice a3 t.recs.length c3) rfl rfl (by kernel_rfl) (by kernel_rfl) (by kernel_rfl) rfl hS0 (fun V hV => exec_loadc 67 _ rfl _ _ rfl (load_one 67 (fun _ => by kernel_rfl) V _ _ _ hV.2)) ?_
      simp only [Act.put, List.setIfInBounds_toArray, List.set_cons_succ, List.set_cons_zero]
      refine held_all1 2 (by kernel_rfl) (op_skip 2 _ _ rfl rfl rfl (exec_stores _ _ rfl w.heap.size 0 a2 t.state.length c2 _ rfl rfl hS0.1 (hb2.drew.frozen 0)) ⟨hS1, ?_⟩)
      refine held_all1 3 (by kernel_rfl) (op_skip 3 _ _ rfl rfl rfl (exec_storer _ _ rfl (w.heap.size + 1) 0 a3 t.recs.length c3 _ rfl rfl hS1.2 (y1.frozen 0)) ⟨hS2, ?_⟩)
      refine wpAnyH_done (by kernel_rfl) ?_ _
      refine NoPanic.normal ?_
      gi_wp2
      have hDl : D < W.heap.size := (Array.getElem?_eq_some_iff.1 hK).1
      have hK' : ((W.drew.setCell ⟨w.heap.size, 0, none⟩ (.slice a2 t.state.length c2)).setCell ⟨w.heap.size + 1, 0, none⟩ (.slice a3 t.recs.length c3)).heap[D]? = some (.deferred (some [])) := by rw [hcW.2 D hDl (fun e => by omega)]; exact hK
      (try simp only [Exit.noGoto])
      refine ⟨by simp, .inl ⟨_, _, rfl, run_takeDeferred hK', ?_⟩⟩
      have hc5 : Chg (fun q => q = D) ((W.drew.setCell ⟨w.heap.size, 0, none⟩ (.slice a2 t.state.length c2)).setCell ⟨w.heap.size + 1, 0, none⟩ (.slice a3 t.recs.length c3)) ((((W.drew.setCell ⟨w.heap.size, 0, none⟩ (.slice a2 t.state.length c2)).setCell ⟨w.heap.size + 1, 0, none⟩ (.slice a3 t.recs.length c3))).putObj D (.deferred none)) := Chg.of_grown (grownBy_putObj' _ D (.deferred none)) (fun k e => by cases e; rfl)
      have hno : ∀ {base : Nat} {e : TypeId} {v : Value} {n : Nat} {xs : List Value}, (((W.drew.setCell ⟨w.heap.size, 0, none⟩ (.slice a2 t.state.length c2)).setCell ⟨w.heap.size + 1, 0, none⟩ (.slice a3 t.recs.length c3))).ownsRow base e 1 v n xs → ∀ k, v.ownBlock = some k → ¬ k = D := fun h k hk e => by
        obtain ⟨c', f', hcf⟩ := own_cells h hk
        rw [e, hK'] at hcf
        cases hcf
      refine ⟨.tuple #[.slice a2 t.state.length c2, .slice a3 t.recs.length c3], readp_results _ _ _ _ _ _ rfl rfl ((y2.chg hc5 (by omega)).cell rfl) ((y3.chg hc5 (by omega)).cell rfl), .slice a2 t.state.length c2, .slice a3 t.recs.length c3, vs, rfl, ?_, ?_, ?_⟩
      · rw [HT1.out]
        have hO5 : Own ((W.drew.setCell ⟨w.heap.size, 0, none⟩ (.slice a2 t.state.length c2)).setCell ⟨w.heap.size + 1, 0, none⟩ (.slice a3 t.recs.length c3)) (W2.heap.size + 1) (.slice a2 t.state.length c2) t.state := hO.chg hcW (fun k hk e => by have := (hO.blocks k hk).1; omega)
        exact (hO5.chg hc5 (hno hO5)).mono (by omega)
      · rw [HT1.out]
        have hG5 : Gat ((W.drew.setCell ⟨w.heap.size, 0, none⟩ (.slice a2 t.state.length c2)).setCell ⟨w.heap.size + 1, 0, none⟩ (.slice a3 t.recs.length c3)) (W2.heap.size + 1) (.slice a3 t.recs.length c3) vs t.recs := hGt.chg hcW (fun q hq => by omega)
        exact ⟨gat_mono7 (ownsRow_chg hG5.own hc5 (hno hG5.own)) (by omega), fun i u r hu hr => ((hG5.rows i u r hu hr).chg hc5 (hno (hG5.rows i u r hu hr))).mono (by omega)⟩
      · exact ((hB.trans (hcW.below (B := w.heap.size) (fun k hk => by omega) hB.size))).trans (hc5.below (B := w.heap.size) (fun k hk => by omega) (Nat.le_trans hB.size hcW.size))
  case stop =>
    rintro D c pre W hD ⟨rest, hrest⟩ ⟨rfl, p, y, t, hp, ht, hst, hA⟩ hK
    have htell : goW zeroT (seqOf bs) = t := by
      rw [← hrest, hp, List.append_assoc, goW_append p _ zeroT t ht]
      show (match stepW t y with | none => t | some t' => goW t' rest) = t
      rw [hst]
    have HTD := told_seq bs
    clear hrest hp hst
    rw [htell] at HTD
    obtain ⟨sv, hb2, hO⟩ := hA.st
    obtain ⟨rv, vs, hb3, hGt⟩ := hA.rc
    have hb4 := hA.wh
    have hB := hA.bel
    have hBb := hA.B
    have hlo := hA.lo
    have hhi := hA.hi
    obtain ⟨a2, c2, rfl⟩ := Seg.shapeD hO.seg
    obtain ⟨a3, c3, rfl⟩ := hGt.sl
    have x2 := hb2.cell (j := 0) rfl
    have f2 := hb2.frozen 0
    have x3 := hb3.cell (j := 0) rfl
    have f3 := hb3.frozen 0
    have x4 := hb4.cell (j := 0) rfl
    simp only [World.size_alloc] at hD
    have hDB : W2.heap.size + 1 ≤ D := hD
    cases hwh : t.whole with
    | false =>
      rw [hwh] at x4
      rw [hwh] at HTD
      have HT0 : Hid (toldB bs = ([], [])) := HTD
      clear htell HTD hA ht
      have hcW : Chg (fun q => q = w.heap.size ∨ q = w.heap.size + 1) W ((W.setCell ⟨w.heap.size, 0, none⟩ (.slice none 0 0)).setCell ⟨w.heap.size + 1, 0, none⟩ (.slice none 0 0)) := ((Chg.refl (fun q => q = w.heap.size ∨ q = w.heap.size + 1) W).setCell w.heap.size 0 _ (fun _ => .inl rfl)).setCell (w.heap.size + 1) 0 _ (fun _ => .inr rfl)
      have y2 : Blk ((W.setCell ⟨w.heap.size, 0, none⟩ (.slice none 0 0)).setCell ⟨w.heap.size + 1, 0, none⟩ (.slice none 0 0)) w.heap.size 34 #[.slice none 0 0] := (hb2.set 0 (.slice none 0 0)).setOther _ _ (by show w.heap.size ≠ w.heap.size + 1; omega)
      have y3 : Blk ((W.setCell ⟨w.heap.size, 0, none⟩ (.slice none 0 0)).setCell ⟨w.heap.size + 1, 0, none⟩ (.slice none 0 0)) (w.heap.size + 1) 67 #[.slice none 0 0] := (hb3.setOther _ _ (by show w.heap.size + 1 ≠ w.heap.size; omega)).set 0 (.slice none 0 0)
      gi_wp2
      have hDl : D < W.heap.size := (Array.getElem?_eq_some_iff.1 hK).1
      have hK' : ((W.setCell ⟨w.heap.size, 0, none⟩ (.slice none 0 0)).setCell ⟨w.heap.size + 1, 0, none⟩ (.slice none 0 0)).heap[D]? = some (.deferred (some [])) := by rw [hcW.2 D hDl (fun e => by omega)]; exact hK
      (try simp only [Exit.noGoto])
      refine ⟨by simp, .inl ⟨_, _, rfl, run_takeDeferred hK', ?_⟩⟩
      have hc5 : Chg (fun q => q = D) ((W.setCell ⟨w.heap.size, 0, none⟩ (.slice none 0 0)).setCell ⟨w.heap.size + 1, 0, none⟩ (.slice none 0 0)) ((((W.setCell ⟨w.heap.size, 0, none⟩ (.slice none 0 0)).setCell ⟨w.heap.size + 1, 0, none⟩ (.slice none 0 0))).putObj D (.deferred none)) := Chg.of_grown (grownBy_putObj' _ D (.deferred none)) (fun k e => by cases e; rfl)
      have hno : ∀ {base : Nat} {e : TypeId} {v : Value} {n : Nat} {xs : List Value}, (((W.setCell ⟨w.heap.size, 0, none⟩ (.slice none 0 0)).setCell ⟨w.heap.size + 1, 0, none⟩ (.slice none 0 0))).ownsRow base e 1 v n xs → ∀ k, v.ownBlock = some k → ¬ k = D := fun h k hk e => by
        obtain ⟨c', f', hcf⟩ := own_cells h hk
        rw [e, hK'] at hcf
        cases hcf
      refine ⟨.tuple #[.slice none 0 0, .slice none 0 0], readp_results _ _ _ _ _ _ rfl rfl ((y2.chg hc5 (by omega)).cell rfl) ((y3.chg hc5 (by omega)).cell rfl), .slice none 0 0, .slice none 0 0, [], rfl, ?_, ?_, ?_⟩
      · rw [HT0.out]; exact own_none _ _
      · rw [HT0.out]; exact Gat.nil _ _
      · exact ((hB.trans (hcW.below (B := w.heap.size) (fun k hk => by omega) hB.size))).trans (hc5.below (B := w.heap.size) (fun k hk => by omega) (Nat.le_trans hB.size hcW.size))
    | true =>
      rw [hwh] at x4
      rw [hwh] at HTD
      have HT1 : Hid (toldB bs = (t.state, t.recs)) := HTD
      clear htell HTD hA ht
      have hcW : Chg (fun q => q = w.heap.size ∨ q = w.heap.size + 1) W ((W.drew.setCell ⟨w.heap.size, 0, none⟩ (.slice a2 t.state.length c2)).setCell ⟨w.heap.size + 1, 0, none⟩ (.slice a3 t.recs.length c3)) := (((Chg.refl (fun q => q = w.heap.size ∨ q = w.heap.size + 1) W).drew).setCell w.heap.size 0 _ (fun _ => .inl rfl)).setCell (w.heap.size + 1) 0 _ (fun _ => .inr rfl)
      have y1 : Blk (W.drew.setCell ⟨w.heap.size, 0, none⟩ (.slice a2 t.state.length c2)) (w.heap.size + 1) 67 #[.slice a3 t.recs.length c3] := hb3.drew.setOther _ _ (by show w.heap.size + 1 ≠ w.heap.size; omega)
      have y0 : Blk (W.drew.setCell ⟨w.heap.size, 0, none⟩ (.slice a2 t.state.length c2)) w.heap.size 34 #[.slice a2 t.state.length c2] := hb2.drew.set 0 _
      have y2 : Blk ((W.drew.setCell ⟨w.heap.size, 0, none⟩ (.slice a2 t.state.length c2)).setCell ⟨w.heap.size + 1, 0, none⟩ (.slice a3 t.recs.length c3)) w.heap.size 34 #[.slice a2 t.state.length c2] := y0.setOther _ _ (by show w.heap.size ≠ w.heap.size + 1; omega)
      have y3 : Blk ((W.drew.setCell ⟨w.heap.size, 0, none⟩ (.slice a2 t.state.length c2)).setCell ⟨w.heap.size + 1, 0, none⟩ (.slice a3 t.recs.length c3)) (w.heap.size + 1) 67 #[.slice a3 t.recs.length c3] := y1.set 0 _
      gi_wp2_with fail
      refine wpIn_wide.2 ?_
      have hS0 : W.drew.cell? ⟨w.heap.size, 0, none⟩ = some (.slice a2 t.state.length c2) ∧ W.drew.cell? ⟨w.heap.size + 1, 0, none⟩ = some (.slice a3 t.recs.length c3) := ⟨x2, x3⟩
      have hS1 : (W.drew.setCell ⟨w.heap.size, 0, none⟩ (.slice a2 t.state.length c2)).cell? ⟨w.heap.size, 0, none⟩ = some (.slice a2 t.state.length c2) ∧ (W.drew.setCell ⟨w.heap.size, 0, none⟩ (.slice a2 t.state.length c2)).cell? ⟨w.heap.size + 1, 0, none⟩ = some (.slice a3 t.recs.length c3) := ⟨y0.cell rfl, y1.cell rfl⟩
      have hS2 : ((W.drew.setCell ⟨w.heap.size, 0, none⟩ (.slice a2 t.state.length c2)).setCell ⟨w.heap.size + 1, 0, none⟩ (.slice a3 t.recs.length c3)).cell? ⟨w.heap.size, 0, none⟩ = some (.slice a2 t.state.length c2) ∧ ((W.drew.setCell ⟨w.heap.size, 0, none⟩ (.slice a2 t.state.length c2)).setCell ⟨w.heap.size + 1, 0, none⟩ (.slice a3 t.recs.length c3)).cell? ⟨w.heap.size + 1, 0, none⟩ = some (.slice a3 t.recs.length c3) := ⟨y2.cell rfl, y3.cell rfl⟩
      refine held_begin (fun V => V.cell? ⟨w.heap.size, 0, none⟩ = some (.slice a2 t.state.length c2) ∧ V.cell? ⟨w.heap.size + 1, 0, none⟩ = some (.slice a3 t.recs.length c3)) (by kernel_rfl) ?_
      refine held_take 0 45 _ (.slice a2 t.state.length c2) rfl rfl (by kernel_rfl) (by kernel_rfl) (by kernel_rfl) rfl hS0 (fun V hV => exec_loadc 34 _ rfl _ _ rfl (load_one 34 (fun _ => by kernel_rfl) V _ _ _ hV.1)) ?_
      simp only [Act.put, List.setIfInBounds_toArray, List.set_cons_succ, List.set_cons_zero]
      refine held_take 1 46 _ (.slice a3 t.recs.length c3) rfl rfl (by kernel_rfl) (by kernel_rfl) (by kernel_rfl) rfl hS0 (fun V hV => exec_loadc 67 _ rfl _ _ rfl (load_one 67 (fun _ => by kernel_rfl) V _ _ _ hV.2)) ?_
      simp only [Act.put, List.setIfInBounds_toArray, List.set_cons_succ, List.set_cons_zero]
      refine held_all1 2 (by kernel_rfl) (op_skip 2 _ _ rfl rfl rfl (exec_stores _ _ rfl w.heap.size 0 a2 t.state.length c2 _ rfl rfl hS0.1 (hb2.drew.frozen 0)) ⟨hS1, ?_⟩)
      refine held_all1 3 (by kernel_rfl) (op_skip 3 _ _ rfl rfl rfl (exec_storer _ _ rfl (w.heap.size + 1) 0 a3 t.recs.length c3 _ rfl rfl hS1.2 (y1.frozen 0)) ⟨hS2, ?_⟩)
      refine wpAnyH_done (by kernel_rfl) ?_ _
      refine NoPanic.normal ?_
      gi_wp2
      have hDl : D < W.heap.size := (Array.getElem?_eq_some_iff.1 hK).1
      have hK' : ((W.drew.setCell ⟨w.heap.size, 0, none⟩ (.slice a2 t.state.length c2)).setCell ⟨w.heap.size + 1, 0, none⟩ (.slice a3 t.recs.length c3)).heap[D]? = some (.deferred (some [])) := by rw [hcW.2 D hDl (fun e => by omega)]; exact hK
      (try simp only [Exit.noGoto])
      refine ⟨by simp, .inl ⟨_, _, rfl, run_takeDeferred hK', ?_⟩⟩
      have hc5 : Chg (fun q => q = D) ((W.drew.setCell ⟨w.heap.size, 0, none⟩ (.slice a2 t.state.length c2)).setCell ⟨w.heap.size + 1, 0, none⟩ (.slice a3 t.recs.length c3)) ((((W.drew.setCell ⟨w.heap.size, 0, none⟩ (.slice a2 t.state.length c2)).setCell ⟨w.heap.size + 1, 0, none⟩ (.slice a3 t.recs.length c3))).putObj D (.deferred none)) := Chg.of_grown (grownBy_putObj' _ D (.deferred none)) (fun k e => by cases e; rfl)
      have hno : ∀ {base : Nat} {e : TypeId} {v : Value} {n : Nat} {xs : List Value}, (((W.drew.setCell ⟨w.heap.size, 0, none⟩ (.slice a2 t.state.length c2)).setCell ⟨w.heap.size + 1, 0, none⟩ (.slice a3 t.recs.length c3))).ownsRow base e 1 v n xs → ∀ k, v.ownBlock = some k → ¬ k = D := fun h k hk e => by
        obtain ⟨c', f', hcf⟩ := own_cells h hk
        rw [e, hK'] at hcf
        cases hcf
      refine ⟨.tuple #[.slice a2 t.state.length c2, .slice a3 t.recs.length c3], readp_results _ _ _ _ _ _ rfl rfl ((y2.chg hc5 (by omega)).cell rfl) ((y3.chg hc5 (by omega)).cell rfl), .slice a2 t.state.length c2, .slice a3 t.recs.length c3, vs, rfl, ?_, ?_, ?_⟩
      · rw [HT1.out]
        have hO5 : Own ((W.drew.setCell ⟨w.heap.size, 0, none⟩ (.slice a2 t.state.length c2)).setCell ⟨w.heap.size + 1, 0, none⟩ (.slice a3 t.recs.length c3)) (W2.heap.size + 1) (.slice a2 t.state.length c2) t.state := hO.chg hcW (fun k hk e => by have := (hO.blocks k hk).1; omega)
        exact (hO5.chg hc5 (hno hO5)).mono (by omega)
      · rw [HT1.out]
        have hG5 : Gat ((W.drew.setCell ⟨w.heap.size, 0, none⟩ (.slice a2 t.state.length c2)).setCell ⟨w.heap.size + 1, 0, none⟩ (.slice a3 t.recs.length c3)) (W2.heap.size + 1) (.slice a3 t.recs.length c3) vs t.recs := hGt.chg hcW (fun q hq => by omega)
        exact ⟨gat_mono7 (ownsRow_chg hG5.own hc5 (hno hG5.own)) (by omega), fun i u r hu hr => ((hG5.rows i u r hu hr).chg hc5 (hno (hG5.rows i u r hu hr))).mono (by omega)⟩
      · exact ((hB.trans (hcW.below (B := w.heap.size) (fun k hk => by omega) hB.size))).trans (hc5.below (B := w.heap.size) (fun k hk => by omega) (Nat.le_trans hB.size hcW.size))
end Go.Proofs.YtbegphfideopoaaGreat
namespace Go.Proofs.YtbegphfideopoaaGreat
open Go.RowKit

/-- The program's log on its disk; its own blocks are such. -/
structure PB (w : World) (G : Nat) (L : PLay) (C : Nat → Prop) (s : DS) (l : LS) : Prop where
  body : ∃ (CD : Nat → Prop) (len : Nat) (bg : Bool) (tv : Value) (tb : List UInt8), OD w L CD s ∧ (∀ q, CD q → C q) ∧ LogB w G L.g (sizeS s) l.n l.gen len bg l.broke tv ∧ Own w 0 tv tb ∧ C G ∧ ¬ CD G ∧ (∀ q, tv.ownBlock = some q → C q ∧ ¬ CD q) ∧ len ≤ 262016 ∧ tb.length ≤ 262016 ∧ (l.broke = false → bg = l.begun ∧ (l.begun = true → len = l.sure ∧ tb = l.b.drop (l.sure / 128 * 128)))
  lt : ∀ q, C q → q < w.heap.size
  n : l.n ≤ 1073741824
  gen : l.gen ≤ 1048576
  b : l.b.length ≤ 262016
  sure : l.sure ≤ l.b.length
  one : l.begun = true → 1 ≤ l.gen
theorem PB.chg {w w' : World} {G : Nat} {L : PLay} {C S : Nat → Prop} {s : DS} {l : LS} (h : PB w G L C s l) (hc : Chg S w w') (hS : ∀ q, C q → ¬ S q) : PB w' G L C s l := by
  obtain ⟨CD, len, bg, tv, tb, h1, h2, h3, h4, h5, h6, h7, h8⟩ := h.body
  exact ⟨⟨CD, len, bg, tv, tb, h1.chg hc (fun q hq => hS q (h2 q hq)), h2, Blk.chg h3 hc (hS G h5), h4.chg hc (fun k hk => hS k (h7 k hk).1), h5, h6, h7, h8⟩, fun q hq => Nat.lt_of_lt_of_le (h.lt q hq) hc.size, h.n, h.gen, h.b, h.sure, h.one⟩
theorem PB.after {w w' : World} {G : Nat} {L : PLay} {C : Nat → Prop} {s : DS} {l : LS} (h : PB w G L C s l) (hb : Below w.heap.size w w') : PB w' G L C s l :=
  h.chg (S := fun _ => False) (Chg.of_below hb (Nat.le_refl _)) (fun _ _ => id)
/-- Its disk alone. -/
theorem PB.disk {w : World} {G : Nat} {L : PLay} {C : Nat → Prop} {s : DS} {l : LS} (h : PB w G L C s l) : ∃ CD, OD w L CD s ∧ ∀ q, CD q → C q := by
  obtain ⟨CD, len, bg, tv, tb, h1, h2, _⟩ := h.body
  exact ⟨CD, h1, h2⟩
theorem od_new (n : Nat) (w : World) (h1 : 1 ≤ n) (h2 : n ≤ 4096) :
    Calls Tryz.prog 11 #[.int .i64 (n : Int)] w fun e w' => ∃ L : PLay, e = .returned (.tuple #[.pointer (some ⟨L.g, 0, none⟩), .int .i64 0]) ∧ OD w' L L.T (newS n) ∧ Below w.heap.size w w' ∧ (∀ q, L.T q → w.heap.size ≤ q) ∧ L.n = n :=
  (new_any n w h1 h2).mono fun _ w' ⟨L, he, hn, hD, hb, hT, hB⟩ => ⟨L, he, ⟨hD.avoid hB (fun q => q < w'.heap.size ∧ ¬ L.T q) (fun _ hq => hq.1), fun _ h => h, hD.lt⟩, hb, hT, hn⟩
theorem newLog7 (L : PLay) (CD : Nat → Prop) (s : DS) (len : Nat) (w : World) (hD : OD w L CD s) (N G0 : Nat) (hn : N ≤ 1073741824) (hg : G0 ≤ 1048576) (hl : len ≤ 262016) (G : Nat) (hG : ¬ CD G) (hL : LogB w G L.g (sizeS s) N G0 len false false (.slice none 0 0)) :
    PB w G L (fun q => CD q ∨ q = G) s ⟨N, G0, [], 0, false, false⟩ :=
  ⟨⟨CD, len, false, .slice none 0 0, [], hD, fun _ h => .inl h, hL, own_none _ _, .inr rfl, hG, fun q hq => (by cases hq), hl, Nat.zero_le _, fun _ => ⟨rfl, fun h => (by cases h)⟩⟩, fun q hq => by rcases hq with h | rfl; exact hD.lt q h; exact Blk.lt hL, hn, hg, Nat.zero_le _, Nat.zero_le _, fun h => by cases h⟩
theorem results47 {fn : Func} {t u v x : Tmp} (h : fn.results = #[.tmp t, .tmp u, .tmp v, .tmp x]) (tmps : Array Value) (P : Program) (w : World) :
    (results fn tmps).run P w = .ok (.tuple #[tmps.getD t undef, tmps.getD u undef, tmps.getD v undef, tmps.getD x undef]) w := by
  simp [results, h]
set_option maxRecDepth 100000 in
set_option maxHeartbeats 1000000 in
theorem open_bad (L : PLay) (C : Nat → Prop) (s : DS) (w : World) (hD : OD w L C s) (he : openE s ≠ 0) :
    Calls Tryz.prog 27 #[.pointer (some ⟨L.g, 0, none⟩)] w fun e w' => e = .returned (.tuple #[.pointer none, .slice none 0 0, .slice none 0 0, .int .i64 (openE s)]) ∧ Below w.heap.size w w' := by
  have HL : Hid (Calls Tryz.prog 45 #[.pointer (some ⟨L.g, 0, none⟩)] w fun e w' => e = .returned (.int .i64 (s.now.length : Int)) ∧ w' = w) := od_len L C s w hD
  have HO : Hid (Calls Tryz.prog 46 #[.pointer (some ⟨L.g, 0, none⟩)] w fun e w' => e = .returned (.bool s.down) ∧ w' = w) := od_off L C s w hD
  have hn := hD.d.ok.now
  have hn1 : 1 ≤ L.n := hD.d.lay.one
  have hn2 : L.n ≤ 4096 := hD.d.lay.max
  have hnn : s.now.length = L.n := hn
  unfold openE at he ⊢
  unfold sizeS halfS at he ⊢
  rw [hnn] at HL he ⊢
  clear hn hnn
  generalize L.n = M at *
  by_cases hM : M = 1
  · subst hM
    rw [if_pos (by decide)]
    clear he hn1 hn2
    go_enter Tryz.func27, Tryz.ntmps27
    go_wp2_with fail
    refine HL.out.mono ?_
    rintro e w1 ⟨rfl, rfl⟩
    go_wp2_with fail
    (try simp only [Exit.inBlock, Exit.then])
    refine bodyPost_ret (results47 rfl _ _ _) rfl ?_
    exact ⟨rfl, Below.refl _ _⟩
  obtain ⟨H, hH⟩ : ∃ H, H = (M - 2) / 2 := ⟨_, rfl⟩
  rw [← hH] at he ⊢
  have e1 : (0 : Int) ≤ (M : Int) - 2 := by omega
  have e2 : ((M : Int) - 2) / 2 = (H : Int) := by omega
  have hHl : H ≤ 2047 := by omega
  clear hH
  by_cases h1 : H * 128 < 256
  · have j1 : (H : Int) * 128 < 256 := by omega
    rw [if_pos h1]
    clear he h1
    go_enter Tryz.func27, Tryz.ntmps27
    go_wp2_with fail
    refine HL.out.mono ?_
    rintro e w1 ⟨rfl, rfl⟩
    go_wp2_with fail
    (try simp only [Exit.inBlock, Exit.then])
    refine bodyPost_ret (results47 rfl _ _ _) rfl ?_
    exact ⟨rfl, Below.refl _ _⟩
  · have j1 : ¬ (H : Int) * 128 < 256 := by omega
    rw [if_neg h1] at he ⊢
    cases hd : s.down with
    | true =>
      rw [hd] at HO
      rw [if_pos rfl]
      clear he h1 hd
      go_enter Tryz.func27, Tryz.ntmps27
      go_wp2_with fail
      refine HL.out.mono ?_
      rintro e w1 ⟨rfl, rfl⟩
      go_wp2_with fail
      refine HO.out.mono ?_
      rintro e w2 ⟨rfl, rfl⟩
      go_wp2_with fail
      (try simp only [Exit.inBlock, Exit.then])
      refine bodyPost_ret (results47 rfl _ _ _) rfl ?_
      exact ⟨rfl, Below.refl _ _⟩
    | false => rw [hd, if_neg (by decide)] at he; exact absurd rfl he
set_option maxRecDepth 100000 in
set_option maxHeartbeats 2000000 in
theorem open_any (L : PLay) (C : Nat → Prop) (s : DS) (w : World) (hD : OD w L C s) (he : openE s = 0) :
    Calls Tryz.prog 27 #[.pointer (some ⟨L.g, 0, none⟩)] w fun e w' => ∃ G sv rv vs, e = .returned (.tuple #[.pointer (some ⟨G, 0, none⟩), sv, rv, .int .i64 0]) ∧ PB w' G L (fun q => C q ∨ q = G) s (openL s) ∧ w.heap.size ≤ G ∧ Own w' w.heap.size sv (foundS s).1 ∧ Gat w' w.heap.size rv vs (foundS s).2 ∧ Below w.heap.size w w' := by
  have HL : Hid (Calls Tryz.prog 45 #[.pointer (some ⟨L.g, 0, none⟩)] w fun e w' => e = .returned (.int .i64 (s.now.length : Int)) ∧ w' = w) := od_len L C s w hD
  have HO : Hid (Calls Tryz.prog 46 #[.pointer (some ⟨L.g, 0, none⟩)] w fun e w' => e = .returned (.bool s.down) ∧ w' = w) := od_off L C s w hD
  have hnn : s.now.length = L.n := hD.d.ok.now
  have hn2 : L.n ≤ 4096 := hD.d.lay.max
  unfold openE at he
  have h1 : ¬ sizeS s < 256 := fun h => by rw [if_pos h] at he; exact absurd he (by decide)
  rw [if_neg h1] at he
  have hd : s.down = false := by
    cases hd : s.down with
    | true => rw [hd, if_pos rfl] at he; exact absurd he (by decide)
    | false => rfl
  clear he
  have hsz := size_lt hD.d.ok hn2
  have hle := thereS_le s
  have hm1 : 256 ≤ sizeS s := by omega
  have hS : sizeS s = (s.now.length - 2) / 2 * 128 := rfl
  obtain ⟨H, hH⟩ : ∃ H, H = (s.now.length - 2) / 2 := ⟨_, rfl⟩
  rw [← hH] at hS
  have e1 : (0 : Int) ≤ (s.now.length : Int) - 2 := by omega
  have e2 : ((s.now.length : Int) - 2) / 2 = (H : Int) := by omega
  have HE : Hid ((H : Int) * 128 = (sizeS s : Int)) := by show _ = _; omega
  have hHl : H ≤ 2047 := by omega
  have j1 : ¬ (H : Int) * 128 < 256 := by omega
  have hlog0 : LogB (w.alloc (.cells (logC L.g (sizeS s) 0 0 0 false false (.slice none 0 0)) 95)) w.heap.size L.g (sizeS s) 0 0 0 false false (.slice none 0 0) := Blk.new _ _ _
  have hB1 := (Below.refl w.heap.size w).alloc (Nat.le_refl _) (.cells (logC L.g (sizeS s) 0 0 0 false false (.slice none 0 0)) 95)
  have hD1 := hD.after hB1
  have HF := findHead_any hlog0 hD1 (by omega) hd
  have hCG : ¬ C w.heap.size := fun h => by have := hD.lt _ h; omega
  rw [hd] at HO
  have HFO : Hid (foundS s = if (thereS s).1 = 0 then ([], []) else toldB ((bankS s ((thereS s).2.1 % 2)).take (thereS s).2.2)) := rfl
  have HLO : Hid (openL s = ⟨(thereS s).1, (thereS s).2.1, [], 0, false, false⟩) := rfl
  have HZ : Hid ((thereS s).1 = 0 → (thereS s).2.2 = 0) := there_zero s
  unfold logC at hlog0 hB1 hD1 HF
  rw [← HE.out] at hlog0 hB1 hD1 HF
  clear hH hS h1 hm1 hnn hn2
  obtain ⟨M, hM⟩ : ∃ M, M = s.now.length := ⟨_, rfl⟩
  rw [← hM] at HL e1 e2
  clear hM
  have HD : Hid (OD w L C s) := hD
  clear hD
  go_enter Tryz.func27, Tryz.ntmps27
  go_wp2_with fail
  refine HL.out.mono ?_
  rintro e w1 ⟨rfl, rfl⟩
  go_wp2_with fail
  refine HO.out.mono ?_
  rintro e w2 ⟨rfl, rfl⟩
  clear HL HO
  go_wp2_with fail
  refine HF.mono ?_
  clear HF
  rintro e W2 ⟨rfl, hb2⟩
  have hb02 : Below w2.heap.size w2 W2 := hB1.trans (hb2.mono hB1.size)
  have hlog2 := Blk.below hlog0 hb2 (Blk.lt hlog0)
  have hD2 := HD.out.after hb02
  clear hlog0 hB1 hD1 hb2
  obtain ⟨t1, t2, t3⟩ := hle
  unfold headV
  generalize thereS s = TS at *
  obtain ⟨N0, G0, M0⟩ := TS
  dsimp only at *
  have hx : Blk W2 w2.heap.size 95 (logC L.g (sizeS s) 0 0 0 false false (.slice none 0 0)) := hlog2
  unfold logC at hx
  have x2 := hx.cell (j := 2) rfl
  have x3 := hx.cell (j := 3) rfl
  have x4 := hx.cell (j := 4) rfl
  have f2 := hx.frozen 2
  have f3 := hx.frozen 3
  have f4 := hx.frozen 4
  have hlog3 : LogB (((W2.setCell ⟨w2.heap.size, 2, none⟩ (.int .i64 (N0 : Int))).setCell ⟨w2.heap.size, 3, none⟩ (.int .i64 (G0 : Int))).setCell ⟨w2.heap.size, 4, none⟩ (.int .i64 (M0 : Int))) w2.heap.size L.g (sizeS s) N0 G0 M0 false false (.slice none 0 0) := (((hx.set 2 _).set 3 _).set 4 _).of_eq rfl
  have hc3 : Chg (fun q => q = w2.heap.size) W2 (((W2.setCell ⟨w2.heap.size, 2, none⟩ (.int .i64 (N0 : Int))).setCell ⟨w2.heap.size, 3, none⟩ (.int .i64 (G0 : Int))).setCell ⟨w2.heap.size, 4, none⟩ (.int .i64 (M0 : Int))) := (((Chg.refl (fun q => q = w2.heap.size) W2).setCell w2.heap.size 2 _ (fun _ => rfl)).setCell w2.heap.size 3 _ (fun _ => rfl)).setCell w2.heap.size 4 _ (fun _ => rfl)
  have hB3 : Below w2.heap.size w2 (((W2.setCell ⟨w2.heap.size, 2, none⟩ (.int .i64 (N0 : Int))).setCell ⟨w2.heap.size, 3, none⟩ (.int .i64 (G0 : Int))).setCell ⟨w2.heap.size, 4, none⟩ (.int .i64 (M0 : Int))) := ((hb02.setCell (p := ⟨w2.heap.size, 2, none⟩) (Nat.le_refl _) _).setCell (p := ⟨w2.heap.size, 3, none⟩) (Nat.le_refl _) _).setCell (p := ⟨w2.heap.size, 4, none⟩) (Nat.le_refl _) _
  have hD3 := HD.out.after hB3
  go_wp2_with fail
  generalize ((W2.setCell ⟨w2.heap.size, 2, none⟩ (.int .i64 (N0 : Int))).setCell ⟨w2.heap.size, 3, none⟩ (.int .i64 (G0 : Int))).setCell ⟨w2.heap.size, 4, none⟩ (.int .i64 (M0 : Int)) = W3 at *
  clear hx x2 x3 x4 f2 f3 f4 hlog2 hD2 hc3
  have HRP := readP_any hlog3 hD3 hd t3
  refine HRP.mono ?_
  clear HRP
  rintro e W4 ⟨sv, rv, vs, rfl, ho4, hg4, hb4⟩
  have hB4 : Below w2.heap.size w2 W4 := hB3.trans (hb4.mono hB3.size)
  have hD4 := HD.out.after hB4
  have hlog4 := Blk.below hlog3 hb4 (Blk.lt hlog3)
  go_wp2_with fail
  (try simp only [Exit.inBlock, Exit.then])
  refine bodyPost_ret (results47 rfl _ _ _) rfl ?_
  have hfo : foundS s = toldB ((bankS s (G0 % 2)).take M0) := by
    rw [HFO.out]
    by_cases hz : N0 = 0
    · rw [if_pos hz, HZ.out hz, List.take_zero]; rfl
    · rw [if_neg hz]
  rw [hfo, HLO.out]
  exact ⟨w2.heap.size, sv, rv, vs, rfl, newLog7 L C s M0 W4 hD4 N0 G0 t1 t2 (by omega) w2.heap.size hCG hlog4, Nat.le_refl _, ho4.mono hB3.size, ⟨gat_mono7 hg4.own hB3.size, fun i u r hu hr => (hg4.rows i u r hu hr).mono hB3.size⟩, hB4⟩
end Go.Proofs.YtbegphfideopoaaGreat
