/-
  What is proved here: the document's Feed.
  Conditions: at most 100000 bytes.
-/
import Derived.Test.YtchbfhckocfjhaaDoorFrameJoin
import Derived.Test.YtchbfhckocfjhaaDoorRefPlain
import Derived.Test.YtchbfhckocfjhaaDoorRefSeal
import Derived.OrdersHeld
namespace Go.Proofs.YtchbfhckocfjhaaDoor
open Go.RowKit

theorem seg_block {w : World} {ao : Option Addr} {n c : Nat} {bs : List UInt8} (h : Seg w (.slice ao n c) bs) : 0 < bs.length → ∀ q n' c', (Value.slice ao n' c').ownBlock = some q → q < w.heap.size := by
  intro h0 q n' c' hq
  rcases h with ⟨rfl, _⟩ | ⟨b, off, c', e, _, _, hb⟩
  · simp at h0
  · cases e
    have : b = q := by simpa [Value.ownBlock] using hq
    omega
/-- The number that Plain answers. -/
def errP (r : Option (List UInt8)) : Int := if r.isSome then 0 else 2
theorem plainPost_outP {w w' : World} {r : Option (List UInt8)} {e : Ending} (h : plainPost w r e w') : ∃ v, e = .returned (.tuple #[v, .int .i64 (errP r)]) ∧ Own w' w.heap.size v (r.getD []) ∧ Below w.heap.size w w' := by
  obtain ⟨h1, h2⟩ := h
  cases r with
  | none => exact ⟨_, h1, ⟨rfl, .inl ⟨rfl, rfl⟩⟩, h2⟩
  | some o =>
    obtain ⟨v, hv, ho⟩ := h1
    exact ⟨v, hv, ho, h2⟩
theorem taken_cases (h : List UInt8) : (∃ f, takenOf h = some f ∧ errP (plainOf h) = 0 ∧ openOf ((plainOf h).getD []) = some f ∧ f.length ≤ 2048) ∨ (takenOf h = none ∧ (errP (plainOf h) = 2 ∨ (errP (plainOf h) = 0 ∧ openOf ((plainOf h).getD []) = none) ∨ (errP (plainOf h) = 0 ∧ ∃ f, openOf ((plainOf h).getD []) = some f ∧ 2048 < f.length))) := by
  unfold takenOf errP
  cases plainOf h with
  | none => exact .inr ⟨rfl, .inl rfl⟩
  | some s =>
    simp only [Option.isSome_some, if_true, Option.getD_some]
    cases openOf s with
    | none => exact .inr ⟨rfl, .inr (.inl ⟨trivial, rfl⟩)⟩
    | some f =>
      dsimp only
      by_cases hf : 2048 < f.length
      · rw [if_pos hf]; exact .inr ⟨rfl, .inr (.inr ⟨trivial, f, rfl, hf⟩)⟩
      · rw [if_neg hf]; exact .inl ⟨f, rfl, trivial, rfl, by omega⟩
theorem fend_sp (s : FS) (h : s.ok) (hs : s.sp = true) : fend s = ⟨[], false, s.told, s.bad + 1⟩ := by
  have := h.2 hs
  unfold fend
  rw [if_neg (by omega), hs]
  rfl
theorem fend_empty (s : FS) (h0 : s.held.length = 0) : fend s = s := by
  unfold fend; rw [if_pos h0]
theorem fend_some (s : FS) (b : List UInt8) (h0 : ¬ s.held.length = 0) (hs : s.sp = false) (h : takenOf s.held = some b) : fend s = ⟨[], false, s.told ++ [b], s.bad⟩ := by
  unfold fend; rw [if_neg h0, hs]; simp [h]
theorem fend_none (s : FS) (h0 : ¬ s.held.length = 0) (hs : s.sp = false) (h : takenOf s.held = none) : fend s = ⟨[], false, s.told, s.bad + 1⟩ := by
  unfold fend; rw [if_neg h0, hs]; simp [h]
/-- Two operations may come up. -/
theorem held_all2 {ops : Array Oper} {Q : Exit → Act → World → Prop} {S : World → Prop} {fuel : Nat} {listed : Array Bool} {a : Act} {w : World} (i j : Nat) (hr : Region.ready .any ops listed = [i, j])
    (h1 : wpOp Tryd.prog ops Q i (fun a' w' => S w' ∧ wpAnyH Tryd.prog .any ops Q S fuel (listed.setIfInBounds i true) a' w') a w) (h2 : wpOp Tryd.prog ops Q j (fun a' w' => S w' ∧ wpAnyH Tryd.prog .any ops Q S fuel (listed.setIfInBounds j true) a' w') a w) : wpAnyH Tryd.prog .any ops Q S (fuel + 1) listed a w := by
  refine wpAnyH_all hr (by simp) fun k hk => ?_
  simp only [List.mem_cons, List.not_mem_nil, or_false] at hk
  rcases hk with rfl | rfl
  · exact h1
  · exact h2
theorem held_all1 {ops : Array Oper} {Q : Exit → Act → World → Prop} {S : World → Prop} {fuel : Nat} {listed : Array Bool} {a : Act} {w : World} (i : Nat) (hr : Region.ready .any ops listed = [i])
    (h1 : wpOp Tryd.prog ops Q i (fun a' w' => S w' ∧ wpAnyH Tryd.prog .any ops Q S fuel (listed.setIfInBounds i true) a' w') a w) : wpAnyH Tryd.prog .any ops Q S (fuel + 1) listed a w := by
  refine wpAnyH_all hr (by simp) fun k hk => ?_
  obtain rfl : k = i := by simpa using hk
  exact h1
theorem op_value {ops : Array Oper} {Q : Exit → Act → World → Prop} {K : Act → World → Prop} {a : Act} {w : World} (i d : Nat) (o : Oper) (v : Value) (w' : World) (hi : ops[i]? = some o) (hd : o.dst = some d) (hw : Region.wanted o (yielded ops a.tmps) = true) (hrun : (execOp a.eval o).run Tryd.prog w = .ok (.value v) w') (h : K (a.put (some d) v) w') : wpOp Tryd.prog ops Q i K a w := by
  unfold wpOp
  simp only [hi, hw, if_true]
  refine .inl ?_
  unfold Oper.wp
  rw [hrun, Oper.upon_value, hd]
  exact h
theorem op_skip {ops : Array Oper} {Q : Exit → Act → World → Prop} {K : Act → World → Prop} {a : Act} {w : World} (i : Nat) (o : Oper) (w' : World) (hi : ops[i]? = some o) (hd : o.dst = none) (hw : Region.wanted o (yielded ops a.tmps) = true) (hrun : (execOp a.eval o).run Tryd.prog w = .ok .skip w') (h : K a w') : wpOp Tryd.prog ops Q i K a w := by
  unfold wpOp
  simp only [hi, hw, if_true]
  refine .inl ?_
  unfold Oper.wp
  rw [hrun, Oper.upon_skip, hd]
  exact h
theorem exec_loadc {a : Act} {o : Oper} {w : World} (ty : TypeId) (x : Operand) (ho : o.op = .load ty x) (p : Addr) (v : Value) (hx : a.eval x = .pointer (some p)) (hr : (Instr.loadAt ty (.pointer (some p))).run Tryd.prog w = .ok v w) : (execOp a.eval o).run Tryd.prog w = .ok (.value v) w := by
  unfold execOp
  simp [ho, hx, hr]
theorem load_slice (w : World) (g i : Nat) (v : Value) (h : w.cell? ⟨g, i, none⟩ = some v) : (Instr.loadAt 22 (.pointer (some ⟨g, i, none⟩))).run Tryd.prog w = .ok v w := by
  simp [Instr.loadAt, Instr.sureAddr, go_sem, h]
theorem load_byte (w : World) (g i : Nat) (v : Value) (h : w.cell? ⟨g, i, none⟩ = some v) : (Instr.loadAt 5 (.pointer (some ⟨g, i, none⟩))).run Tryd.prog w = .ok v w := by
  simp [Instr.loadAt, Instr.sureAddr, go_sem, h]
theorem exec_build {a : Act} {o : Oper} {w : World} (x : Operand) (ho : o.op = .buildSlice 22 1 #[(0, x)]) (z : Int) (hx : a.eval x = .int .u8 z) : (execOp a.eval o).run Tryd.prog w = .ok (.value (.slice (some ⟨w.heap.size, 0, none⟩) 1 1)) (w.alloc (.cells #[.int .u8 z] 5)) := by
  unfold execOp
  have e : Array.map (fun y : Nat × Operand => (y.1, a.eval y.2)) #[(0, x)] = #[(0, .int .u8 z)] := by simp [hx]
  simp only [ho, e]
  simp [go_sem]
theorem exec_storec {a : Act} {o : Oper} {w : World} (x y : Operand) (ho : o.op = .store 22 x y) (g : Nat) (ao : Option Addr) (n c : Nat) (u : Value) (hx : a.eval x = .pointer (some ⟨g, 0, none⟩)) (hy : a.eval y = .slice ao n c) (hc : w.cell? ⟨g, 0, none⟩ = some u) (hf : w.frozen? ⟨g, 0, none⟩ = false) : (execOp a.eval o).run Tryd.prog w = .ok .skip (w.setCell ⟨g, 0, none⟩ (.slice ao n c)) := by
  unfold execOp
  simp only [ho, hx, hy]
  simp [go_sem, hc, hf]
theorem exec_index {a : Act} {o : Oper} {w : World} (x y : Operand) (ho : o.op = .indexAddr 22 x y) (b off n c k : Nat) (hx : a.eval x = .slice (some ⟨b, off, none⟩) n c) (hy : a.eval y = .int .i64 (k : Int)) (hk : k < n) : (execOp a.eval o).run Tryd.prog w = .ok (.value (.pointer (some ⟨b, off + k, none⟩))) w := by
  unfold execOp
  simp only [ho, hx, hy]
  simp [go_sem, hk]
theorem exec_appo {a : Act} {o : Oper} {w : World} (s x : Operand) (ho : o.op = .call { callee := .builtin .append, args := #[s, x], argTypes := #[22, 22] })
    (base : Nat) (v : Value) (bs : List UInt8) (hs : a.eval s = v) (hown : Own w base v bs) (b off c : Nat) (nw : List UInt8) (hx : a.eval x = .slice (some ⟨b, off, none⟩) nw.length c) (hr : Row w b off nw)
    (hlen : bs.length + nw.length ≤ 1000000000) (hbase : base ≤ w.heap.size) :
    ∃ v' w', (execOp a.eval o).run Tryd.prog w = .ok (.value v') w' ∧ Own w' base v' (bs ++ nw) ∧ w.grownBy w' v.ownBlock ∧ (v'.ownBlock = v.ownBlock ∨ v'.ownBlock = some w.heap.size) := by
  obtain ⟨i0, hi, hz0, hz1, hz2⟩ := info_parts Tryd.info5
  obtain ⟨v', w', hrun, h2, h3, h4, h5⟩ := run_append_own_at (P := Tryd.prog) w base 22 o.type 5 i0 (.int .u8 0) 1 1 Tryd.underlying22 hi hz0 hz1 hz2 rfl (by decide) v bs.length (bs.map v8) hown ⟨b, off, none⟩ nw.length c (nw.map v8) (by simp) hr.at (one8l nw) (by unfold maxLen; omega) (by omega) hbase
  refine ⟨v', w', ?_, by unfold Own; rw [List.length_append, List.map_append]; exact h2, h3, h5⟩
  unfold execOp
  simp [ho, resolve, invoke, builtin, hs, hx, hrun, Result.andThen]
theorem Tryd.info33s : (Tryd.prog.info? 33).map (·.size) = some 2 := by kernel_rfl

theorem rd_reset {t : TypeId} {w : World} {lo g : Nat} {hv : Value} {sp : Bool} (hB : Blk w g t #[hv, .bool sp]) (hlow : lo ≤ g) : Rd t ((w.setCell ⟨g, 0, none⟩ (.slice none 0 0)).setCell ⟨g, 1, none⟩ (.bool false)) lo g (.slice none 0 0) [] false ∧ Chg (fun k => k = g) w ((w.setCell ⟨g, 0, none⟩ (.slice none 0 0)).setCell ⟨g, 1, none⟩ (.bool false)) :=
  ⟨⟨((hB.set 0 _).set 1 _).of_eq rfl, ⟨rfl, .inl ⟨rfl, rfl⟩⟩, hlow⟩, ((Chg.refl (fun k => k = g) w).setCell g 0 _ (fun _ => rfl)).setCell g 1 _ (fun _ => rfl)⟩
theorem Goes.toNil (w : World) (hv : Value) : Goes w hv (.slice none 0 0) := fun k hk => by simp [Value.ownBlock] at hk

set_option maxRecDepth 100000 in
set_option maxHeartbeats 4000000 in
theorem refFeed_any (lo g : Nat) (hv : Value) (held : List UInt8) (sp : Bool) (x : Value) (bs : List UInt8) (w : World) (hm : bs.length ≤ 100000) (hR : Rd 33 w lo g hv held sp) (hok : FS.ok ⟨held, sp, [], 0⟩) (hlo : lo ≤ w.heap.size)
    (hseg : Seg w x bs) (hx : 0 < bs.length → ∀ k, x.ownBlock = some k → ¬ Touch g hv k) :
    Calls Tryd.prog 12 #[.pointer (some ⟨g, 0, none⟩), x] w (feedPost 33 w lo g hv (feedS ⟨held, sp, [], 0⟩ bs)) := by
  obtain ⟨ao, c, rfl⟩ := hseg.shapeF
  obtain ⟨F, hF⟩ : ∃ F, F = feedS ⟨held, sp, [], 0⟩ bs := ⟨_, rfl⟩
  rw [← hF]
  have HF : Hid (F = feedS ⟨held, sp, [], 0⟩ bs) := hF
  clear hF
  go_enter Tryd.func12, Tryd.ntmps12
  go_wp2_with fail
  go_loopw [6, 7, 8] (fun tv sv iv wr => ∃ (k : Nat) (hvr : Value) (vs : List Value), iv = .int .i64 (k : Int) ∧ k ≤ bs.length ∧ sv = .int .i64 ((feedS ⟨held, sp, [], 0⟩ (bs.take k)).bad : Int) ∧ Rd 33 wr lo g hvr (feedS ⟨held, sp, [], 0⟩ (bs.take k)).held (feedS ⟨held, sp, [], 0⟩ (bs.take k)).sp ∧ Told wr w.heap.size tv hvr vs (feedS ⟨held, sp, [], 0⟩ (bs.take k)).told ∧ Chg (Touch g hv) w wr ∧ Goes w hv hvr) (fun _ _ iv _ => bs.length - (intOf iv).toNat)
  case atStart => exact ⟨0, hv, [], rfl, Nat.zero_le _, rfl, hR, Told.nil _ _ _, Chg.refl _ _, Goes.refl _ _⟩
  case round =>
    obtain ⟨k, hvi, vs, rfl, hk, rfl, hRi, hTi, hCi, hGi⟩ := hrel
    have hoki := FS.ok_feed (bs.take k) _ hok
    have hlk := feedS_len (bs.take k) ⟨held, sp, [], 0⟩
    have si := hCi.size
    by_cases hkl : k < bs.length
    · obtain ⟨b, off, rfl, hlc, hrow, hbl⟩ := (hseg.chg hCi hx).formF (by omega)
      have hcell := hrow k hkl
      have hft := feed_take ⟨held, sp, [], 0⟩ bs k hkl
      generalize feedS ⟨held, sp, [], 0⟩ (bs.take k) = ST at *
      have hO := hRi.own
      have hB := hRi.blk
      have hlow := hRi.low
      have hnr := hB.not_row (by decide) hO
      obtain ⟨ah, ch, rfl⟩ := hO.seg.shapeF
      have c0 := hB.cell (j := 0) rfl
      have c1 := hB.cell (j := 1) rfl
      have f0 := hB.frozen 0
      have f1 := hB.frozen 1
      simp only [List.length_nil, List.length_take, Nat.zero_add] at hlk
      by_cases hz : bs[k] = 0
      · have hst : fstep ST bs[k] = fend ST := by unfold fstep; rw [if_pos hz]
        rw [hst] at hft
        have hc0 : wr.cell? ⟨b, off + k, none⟩ = some (.int .u8 0) := by rw [hcell, hz]; rfl
        clear hst hz hcell
        have hB1 := (hB.set 0 (.slice none 0 0)).of_eq (arr' := #[.slice none 0 0, .bool ST.sp]) rfl
        have c1' := hB1.cell (j := 1) rfl
        have f1' := hB1.frozen 1
        obtain ⟨hRs, hCs⟩ := rd_reset hB hlow
        have hT1 := hTi.step hRi (by decide) (by decide) (hCs.weaken (fun q hq => .inl hq)) (Goes.toNil wr _)
        cases hsp : ST.sp with
        | true =>
          have HFT : Hid (feedS ⟨held, sp, [], 0⟩ (bs.take (k + 1)) = ⟨[], false, ST.told, ST.bad + 1⟩) := hft.trans (fend_sp ST hoki hsp)
          rw [hsp] at c1 c1'
          clear hft hsp
          go_wp2
          go_roundw
          case rel =>
            refine ⟨k + 1, .slice none 0 0, vs, by simp, by omega, by rw [HFT.out]; simp, ?_, ?_, hCi.trans hCs (fun q _ hq => .inl hq), fun q hq => by simp [Value.ownBlock] at hq⟩
            · rw [HFT.out]; exact hRs
            · rw [HFT.out]; exact hT1
          case measure => simp only [intOf]; omega
        | false =>
          rw [hsp] at c1 c1' hB
          by_cases h0 : ST.held.length = 0
          · have hST : (⟨[], false, ST.told, ST.bad⟩ : FS) = ST := by
              have := List.eq_nil_of_length_eq_zero h0
              cases ST; simp_all
            have HFT : Hid (feedS ⟨held, sp, [], 0⟩ (bs.take (k + 1)) = ⟨[], false, ST.told, ST.bad⟩) := (hft.trans (fend_empty ST h0)).trans hST.symm
            have hd1 : ¬ 0 < ST.held.length := by omega
            have hd0 : decide ((0 : Int) < (ST.held.length : Int)) = false := by rw [decide_eq_false_iff_not]; omega
            clear hft hsp h0 hST
            go_wp2
            go_roundw
            case rel =>
              refine ⟨k + 1, .slice none 0 0, vs, by simp, by omega, by rw [HFT.out], ?_, ?_, hCi.trans hCs (fun q _ hq => .inl hq), fun q hq => by simp [Value.ownBlock] at hq⟩
              · rw [HFT.out]; exact hRs
              · rw [HFT.out]; exact hT1
            case measure => simp only [intOf]; omega
          · have hd0 : decide ((0 : Int) < (ST.held.length : Int)) = true := by rw [decide_eq_true_eq]; omega
            have HP := refPlain_any (.slice ah ST.held.length ch) ST.held wr (by have := hoki.1; omega) hO.seg
            have hoo := hoki.1
            have HTK : ∃ TK, takenOf ST.held = TK := ⟨_, rfl⟩
            obtain ⟨TK, hTK⟩ := HTK
            go_wp2_with fail
            refine HP.mono ?_
            rintro e w2 hp2
            obtain ⟨v2, rfl, ho2, hb2⟩ := plainPost_outP hp2
            have s2 := hb2.size
            have hsl : ((plainOf ST.held).getD []).length ≤ 2100 := by
              cases hpo : plainOf ST.held with
              | none => simp
              | some o => have := plainOf_len ST.held o hpo; simp; omega
            have HO := refOpen_any v2 ((plainOf ST.held).getD []) w2 (by omega) ho2.seg
            obtain ⟨a2, c2, rfl⟩ := ho2.seg.shapeF
            clear HP hp2
            go_wp2_with fail
            refine HO.mono ?_
            rintro e w3 ⟨v3, rfl, ho3, hb3⟩
            clear HO
            have s3 := hb3.size
            have hB3 : Blk w3 g 33 #[.slice ah ST.held.length ch, .bool false] := (hB.below hb2 hB.lt).below hb3 (Nat.lt_of_lt_of_le hB.lt s2)
            have hb4 : Below wr.heap.size wr w3 := hb2.trans (hb3.mono s2)
            have hR3 : Rd 33 w3 lo g (.slice ah ST.held.length ch) ST.held false := ⟨hB3, hO.below hb4 (Nat.le_refl _), hlow⟩
            have hT3 := hTi.step hRi (by decide) (by decide) (Chg.of_below hb4 (Nat.le_refl _)) (Goes.refl _ _)
            have hC3 : Chg (Touch g hv) w w3 := hCi.trans (Chg.of_below (S := Touch g hv) hb4 (Nat.le_refl _)) (fun _ _ h => h)
            have c03 := hB3.cell (j := 0) rfl
            have f03 := hB3.frozen 0
            have hB31 := (hB3.set 0 (.slice none 0 0)).of_eq (arr' := #[.slice none 0 0, .bool false]) rfl
            have c13 := hB31.cell (j := 1) rfl
            have f13 := hB31.frozen 1
            obtain ⟨hRs3, hCs3⟩ := rd_reset hB3 hlow
            rcases taken_cases ST.held with ⟨f, hTf, hE, hOf, hfl⟩ | ⟨hTn, hwhy⟩
            · have HFT : Hid (feedS ⟨held, sp, [], 0⟩ (bs.take (k + 1)) = ⟨[], false, ST.told ++ [f], ST.bad⟩) := hft.trans (fend_some ST f h0 hsp hTf)
              rw [hE, hOf]
              rw [hOf] at ho3
              simp only [Option.getD_some] at ho3
              obtain ⟨a3, c3, rfl⟩ := ho3.seg.shapeF
              have hq : decide ((f.length : Int) ≤ 2048) = true := by rw [decide_eq_true_eq]; omega
              have hoff3 : Off (.slice a3 f.length c3) (.slice ah ST.held.length ch) := fun q hq e => by have := (ho3.blocks q hq).1; have := (hO.blocks q e).2; omega
              have hvl : vs.length ≤ 200000 := by have := hTi.len; omega
              clear hft hT1 hRs hCs hE hOf hTf hRs3 hCs3 c03 f03 c13 f13 hB31
              go_wp2_with (at_builtin; refine app_rows _ rfl (.tmp 81) (.tmp 83) rfl w.heap.size _ vs rfl (by exact World.ownsRow.alloc hT3.row _) _ [.slice a3 f.length c3] rfl (by exact segV_one w3 _ _ rfl) (fun u hu => (by rw [List.mem_singleton.1 hu]; rfl)) (by simp; omega) (by simp; omega) ?_; intro tv4 w4 hr4 hg4 hv4; have hT4 := (hT3.alloc _).more hr4 hg4 (((ho3.mono s2).mono si).alloc _) hoff3; have hR4 := (hR3.alloc _).row (World.ownsRow.alloc hT3.row _) hg4 (by decide); have hC4 : Chg (Touch g hv) w w4 := (hC3.alloc _).trans (Chg.of_grown hg4 (S := fun q => u6.ownBlock = some q) (fun q hq => hq)) (fun q hq e => (by have := (row_blocks hT3.row q e).1; omega)); have hB4 := hR4.blk; have c04 := hB4.cell (j := 0) rfl; have f04 := hB4.frozen 0; have hB41 := (hB4.set 0 (.slice none 0 0)).of_eq (arr' := #[.slice none 0 0, .bool false]) rfl; have c14 := hB41.cell (j := 1) rfl; have f14 := hB41.frozen 1)
              go_roundw
              case rel =>
                obtain ⟨hRs4, hCs4⟩ := rd_reset hB4 hlow
                have hT5 := hT4.step hR4 (by decide) (by decide) (hCs4.weaken (fun q hq => .inl hq)) (Goes.toNil w4 _)
                refine ⟨k + 1, .slice none 0 0, vs ++ [.slice a3 f.length c3], by simp, by omega, by rw [HFT.out], ?_, ?_, hC4.trans hCs4 (fun q _ hq => .inl hq), Goes.toNil w hv⟩
                · rw [HFT.out]; exact hRs4
                · rw [HFT.out]; exact hT5
              case measure => simp only [intOf]; omega
            · have HFT : Hid (feedS ⟨held, sp, [], 0⟩ (bs.take (k + 1)) = ⟨[], false, ST.told, ST.bad + 1⟩) := hft.trans (fend_none ST h0 hsp hTn)
              have hT4 := hT3.step hR3 (by decide) (by decide) (hCs3.weaken (fun q hq => .inl hq)) (Goes.toNil w3 _)
              have HRL : Hid (∃ (k' : Nat) (hvr : Value) (vs : List Value), Value.int .i64 ((k : Int) + 1) = .int .i64 (k' : Int) ∧ k' ≤ bs.length ∧ Value.int .i64 ((ST.bad : Int) + 1) = .int .i64 ((feedS ⟨held, sp, [], 0⟩ (bs.take k')).bad : Int) ∧ Rd 33 ((w3.setCell ⟨g, 0, none⟩ (.slice none 0 0)).setCell ⟨g, 1, none⟩ (.bool false)) lo g hvr (feedS ⟨held, sp, [], 0⟩ (bs.take k')).held (feedS ⟨held, sp, [], 0⟩ (bs.take k')).sp ∧ Told ((w3.setCell ⟨g, 0, none⟩ (.slice none 0 0)).setCell ⟨g, 1, none⟩ (.bool false)) w.heap.size u6 hvr vs (feedS ⟨held, sp, [], 0⟩ (bs.take k')).told ∧ Chg (Touch g hv) w ((w3.setCell ⟨g, 0, none⟩ (.slice none 0 0)).setCell ⟨g, 1, none⟩ (.bool false)) ∧ Goes w hv hvr) := by
                refine ⟨k + 1, .slice none 0 0, vs, by simp, by omega, by rw [HFT.out]; simp, ?_, ?_, hC3.trans hCs3 (fun q _ hq => .inl hq), Goes.toNil w hv⟩
                · rw [HFT.out]; exact hRs3
                · rw [HFT.out]; exact hT4
              clear hft hT3 hT4 hC3 hCs3 hRs3 HFT hT1 hRs hCs
              rcases hwhy with hE | ⟨hE, hN⟩ | ⟨hE, f, hOf, hfl⟩
              · rw [hE]
                generalize (openOf ((plainOf ST.held).getD [])).isSome = IS
                obtain ⟨a3, c3, rfl⟩ := ho3.seg.shapeF
                clear ho3 hE
                generalize ((openOf ((plainOf ST.held).getD [])).getD []) = OX
                go_wp2
                go_roundw
                case rel => exact HRL.out
                case measure => simp only [intOf]; omega
              · rw [hE, hN]
                rw [hN] at ho3
                obtain ⟨a3, c3, rfl⟩ := ho3.seg.shapeF
                clear ho3 hE hN
                go_wp2
                go_roundw
                case rel => exact HRL.out
                case measure => simp only [intOf]; omega
              · rw [hE, hOf]
                rw [hOf] at ho3
                simp only [Option.getD_some] at ho3
                obtain ⟨a3, c3, rfl⟩ := ho3.seg.shapeF
                have hq : decide ((f.length : Int) ≤ 2048) = false := by rw [decide_eq_false_iff_not]; omega
                have hq2 : ¬ f.length ≤ 2048 := by omega
                clear ho3 hE hOf
                go_wp2
                go_roundw
                case rel => exact HRL.out
                case measure => simp only [intOf]; omega
      · have hXz : (n8 bs[k] == 0) = false := by
          simp only [beq_eq_false_iff_ne, ne_eq, n8]
          intro h
          exact hz (UInt8.toNat_inj.1 (by simpa using h))
        have hst : fstep ST bs[k] = fhold ST bs[k] := by unfold fstep; rw [if_neg hz]
        rw [hst] at hft
        have HW : Hid (∀ (W : World), Row (W.alloc (.cells #[.int .u8 (n8 bs[k])] 5)) W.heap.size 0 [bs[k]]) := fun W => row_one W bs[k] _
        by_cases hfull : ST.held.length = 2100
        · have e1 : fhold ST bs[k] = { ST with sp := true } := by unfold fhold; rw [if_pos hfull]
          rw [e1] at hft
          have HFT : Hid (feedS ⟨held, sp, [], 0⟩ (bs.take (k + 1)) = { ST with sp := true }) := hft
          have hfb : decide ((ST.held.length : Int) < 2100) = false := by rw [hfull]; rfl
          clear hft hst hz e1 hfull HW
          generalize n8 bs[k] = X at *
          go_wp2
          go_roundw
          case rel =>
            refine ⟨k + 1, _, vs, by simp, by omega, by rw [HFT.out], ?_, ?_, hCi.setCell g 1 _ (fun _ => .inl rfl), hGi⟩
            · rw [HFT.out]; exact ⟨(hB.set 1 _).of_eq rfl, hO.chg ((Chg.refl (fun q => q = g) wr).setCell g 1 _ (fun _ => rfl)) (fun q hq e => hnr (by rw [hq, e])), hlow⟩
            · rw [HFT.out]; exact hTi.step hRi (by decide) (by decide) ((Chg.refl _ wr).setCell g 1 _ (fun _ => .inl rfl)) (Goes.refl _ _)
          case measure => simp only [intOf]; omega
        · have e1 : fhold ST bs[k] = { ST with held := ST.held ++ [bs[k]] } := by unfold fhold; rw [if_neg hfull]
          rw [e1] at hft
          have HFT : Hid (feedS ⟨held, sp, [], 0⟩ (bs.take (k + 1)) = { ST with held := ST.held ++ [bs[k]] }) := hft
          have hfb : decide ((ST.held.length : Int) < 2100) = true := by simp; have := hoki.1; omega
          obtain ⟨RP, hRP⟩ : ∃ RP, RP = ST.held ++ [bs[k]] := ⟨_, rfl⟩
          have HP : Hid (ST.held ++ [bs[k]] = RP) := hRP.symm
          clear hft hst hz e1 hfull hRP
          generalize n8 bs[k] = X at *
          generalize bs[k] = xk at *
          have hh2 := hoki.1
          have hgl := hB.lt
          have hbx : (Value.slice ah ST.held.length ch).ownBlock ≠ some b := fun e => by
            rcases hGi b e with h | h
            · exact hx (by omega) b rfl (.inr h)
            · have := (seg_block hseg (by omega) b 0 0 rfl); omega
          have hbg : b ≠ g := fun e => hx (by omega) b rfl (.inl e)
          have cb : ∀ o : Obj, (wr.drew.alloc o).cell? ⟨b, off + k, none⟩ = some (.int .u8 X) := fun o => (((Below.refl wr.heap.size wr.drew).alloc (Nat.le_refl _) o).cell (p := ⟨b, off + k, none⟩) hbl).trans hcell
          go_wp2_with fail
          have hcd : wr.drew.cell? ⟨b, off + k, none⟩ = some (.int .u8 X) := hcell
          refine held_begin (fun W => W.cell? ⟨b, off + k, none⟩ = some (.int .u8 X)) (by kernel_rfl) ?_
          refine held_take 0 30 _ (.pointer (some ⟨g, 0, none⟩)) rfl rfl (by kernel_rfl) (by kernel_rfl) (by kernel_rfl) rfl hcd (fun _ _ => rfl) ?_
          simp only [Act.put, List.setIfInBounds_toArray, List.set_cons_succ, List.set_cons_zero]
          refine held_take 1 31 _ (.pointer (some ⟨g, 0, none⟩)) rfl rfl (by kernel_rfl) (by kernel_rfl) (by kernel_rfl) rfl hcd (fun _ _ => rfl) ?_
          simp only [Act.put, List.setIfInBounds_toArray, List.set_cons_succ, List.set_cons_zero]
          refine held_take 2 32 _ (.pointer (some ⟨g, 0, none⟩)) rfl rfl (by kernel_rfl) (by kernel_rfl) (by kernel_rfl) rfl hcd (fun _ _ => rfl) ?_
          simp only [Act.put, List.setIfInBounds_toArray, List.set_cons_succ, List.set_cons_zero]
          refine held_take 3 33 _ (.pointer (some ⟨g, 0, none⟩)) rfl rfl (by kernel_rfl) (by kernel_rfl) (by kernel_rfl) rfl hcd (fun _ _ => rfl) ?_
          simp only [Act.put, List.setIfInBounds_toArray, List.set_cons_succ, List.set_cons_zero]
          refine held_take 5 35 _ (.slice (some ⟨b, off, none⟩) bs.length c) rfl rfl (by kernel_rfl) (by kernel_rfl) (by kernel_rfl) rfl hcd (fun _ _ => rfl) ?_
          simp only [Act.put, List.setIfInBounds_toArray, List.set_cons_succ, List.set_cons_zero]
          refine held_take 6 36 _ (.int .i64 (k : Int)) rfl rfl (by kernel_rfl) (by kernel_rfl) (by kernel_rfl) rfl hcd (fun _ _ => rfl) ?_
          simp only [Act.put, List.setIfInBounds_toArray, List.set_cons_succ, List.set_cons_zero]
          refine held_take 7 37 _ (.pointer (some ⟨b, off + k, none⟩)) rfl rfl (by kernel_rfl) (by kernel_rfl) (by kernel_rfl) rfl hcd (fun _ _ => exec_index _ _ rfl _ _ _ _ _ rfl rfl hkl) ?_
          simp only [Act.put, List.setIfInBounds_toArray, List.set_cons_succ, List.set_cons_zero]
          refine held_take 8 38 _ (.int .u8 X) rfl rfl (by kernel_rfl) (by kernel_rfl) (by kernel_rfl) rfl hcd (fun W hW => exec_loadc 5 _ rfl _ _ rfl (load_byte W _ _ _ hW)) ?_
          simp only [Act.put, List.setIfInBounds_toArray, List.set_cons_succ, List.set_cons_zero]
          have hOa := hO.drew.alloc (.cells #[.int .u8 X] 5)
          have hBa := hB.drew.alloc (.cells #[.int .u8 X] 5)
          have c0a := hBa.cell (j := 0) rfl
          have HA : Hid (∃ v' w', (∀ (a : Act) (o : Oper), o.type = 22 → o.op = .call { callee := .builtin .append, args := #[.tmp 34, .tmp 39], argTypes := #[22, 22] } → a.eval (.tmp 34) = .slice ah ST.held.length ch → a.eval (.tmp 39) = .slice (some ⟨wr.heap.size, 0, none⟩) 1 1 → (execOp a.eval o).run Tryd.prog (wr.drew.alloc (.cells #[.int .u8 X] 5)) = .ok (.value v') w') ∧ Own w' lo v' RP ∧ (wr.drew.alloc (.cells #[.int .u8 X] 5)).grownBy w' (Value.slice ah ST.held.length ch).ownBlock ∧ (v'.ownBlock = (Value.slice ah ST.held.length ch).ownBlock ∨ v'.ownBlock = some (wr.drew.alloc (.cells #[.int .u8 X] 5)).heap.size)) := by
            obtain ⟨i0, hi, hz0, hz1, hz2⟩ := info_parts Tryd.info5
            have hrw := HW.out wr.drew
            obtain ⟨v', w', hrun, h2, h3, h4, h5⟩ := run_append_own_at (P := Tryd.prog) (wr.drew.alloc (.cells #[.int .u8 X] 5)) lo 22 22 5 i0 (.int .u8 0) 1 1 Tryd.underlying22 hi hz0 hz1 hz2 rfl (by decide) _ ST.held.length (ST.held.map v8) hOa ⟨wr.heap.size, 0, none⟩ 1 1 ([xk].map v8) (by simp) hrw.at (one8l [xk]) (by unfold maxLen; omega) (by omega) (by simp; omega)
            refine ⟨v', w', fun a o e0 e1 e2 e3 => ?_, ?_, h3, h5⟩
            · unfold execOp
              simp [e0, e1, resolve, invoke, builtin, e2, e3, hrun, Result.andThen]
            · rw [← HP.out]; unfold Own; rw [List.length_append, List.map_append]; exact h2
          obtain ⟨v2, w2, hr2, ho2, hg2, hv2⟩ := HA.out
          have hB2 : Blk w2 g 33 #[.slice ah ST.held.length ch, .bool ST.sp] := hBa.grown hg2 (fun e => hnr e.symm)
          have c02 := hB2.cell (j := 0) rfl
          have f02 := hB2.frozen 0
          have hbc2 := (hg2.cell_far ⟨b, off + k, none⟩ (by simp; omega) (fun e => hbx e.symm)).trans (cb _)
          obtain ⟨a2, c2, rfl⟩ := ho2.seg.shapeF
          have hbc3 : (w2.setCell ⟨g, 0, none⟩ (.slice a2 RP.length c2)).cell? ⟨b, off + k, none⟩ = some (.int .u8 X) := by
            rw [World.cell?_of_block (w := w2) (a := ⟨b, off + k, none⟩) (Below.heap_setCell w2 ⟨g, 0, none⟩ _ b hbg)]; exact hbc2
          have hcda := cb (.cells #[.int .u8 X] 5)
          have hnr2 := hB2.not_row (by decide) ho2
          have hC2 : Chg (Touch g (.slice ah ST.held.length ch)) wr (w2.setCell ⟨g, 0, none⟩ (.slice a2 RP.length c2)) := ((Chg.of_below (S := Touch g (.slice ah ST.held.length ch)) ((Below.refl wr.heap.size wr).drew.alloc (Nat.le_refl _) (.cells #[.int .u8 X] 5)) (Nat.le_refl _)).trans (S' := Touch g (.slice ah ST.held.length ch)) (Chg.of_grown hg2 (fun q hq => .inr hq)) (fun _ _ h => h)).setCell g 0 _ (fun _ => .inl rfl)
          have hG2 : Goes wr (.slice ah ST.held.length ch) (.slice a2 RP.length c2) := fun q hq => by
            rcases hv2 with h | h
            · rw [h] at hq; exact .inl hq
            · rw [h] at hq; have := Option.some.inj hq; simp at this; exact .inr (by omega)
          have HRL : ∃ (k' : Nat) (hvr : Value) (vs : List Value), Value.int .i64 ((k : Int) + 1) = .int .i64 (k' : Int) ∧ k' ≤ bs.length ∧ Value.int .i64 (ST.bad : Int) = .int .i64 ((feedS ⟨held, sp, [], 0⟩ (bs.take k')).bad : Int) ∧ Rd 33 (w2.setCell ⟨g, 0, none⟩ (.slice a2 RP.length c2)) lo g hvr (feedS ⟨held, sp, [], 0⟩ (bs.take k')).held (feedS ⟨held, sp, [], 0⟩ (bs.take k')).sp ∧ Told (w2.setCell ⟨g, 0, none⟩ (.slice a2 RP.length c2)) w.heap.size u6 hvr vs (feedS ⟨held, sp, [], 0⟩ (bs.take k')).told ∧ Chg (Touch g hv) w (w2.setCell ⟨g, 0, none⟩ (.slice a2 RP.length c2)) ∧ Goes w hv hvr := by
            refine ⟨k + 1, .slice a2 RP.length c2, vs, by simp, by omega, by rw [HFT.out], ?_, ?_, hCi.trans hC2 (Touch.goes hGi), hGi.trans hG2 si⟩
            · rw [HFT.out, HP.out]
              exact ⟨(hB2.set 0 _).of_eq rfl, ho2.chg ((Chg.refl (fun q => q = g) w2).setCell g 0 _ (fun _ => rfl)) (fun q hq e => hnr2 (by rw [hq, e])), hlow⟩
            · rw [HFT.out]; exact hTi.step hRi (by decide) (by decide) hC2 hG2
          clear hC2 hG2 HFT
          refine held_all2 4 9 (by kernel_rfl) (op_value 4 34 _ (.slice ah ST.held.length ch) _ rfl rfl rfl (exec_loadc 22 _ rfl _ _ rfl (load_slice _ _ _ _ c0)) ⟨hcd, ?_⟩) (op_value 9 39 _ _ _ rfl rfl rfl (exec_build _ rfl X rfl) ⟨hcda, ?_⟩)
          · simp only [Act.put, List.setIfInBounds_toArray, List.set_cons_succ, List.set_cons_zero]
            refine held_all1 9 (by kernel_rfl) (op_value 9 39 _ _ _ rfl rfl rfl (exec_build _ rfl X rfl) ⟨hcda, ?_⟩)
            simp only [Act.put, List.setIfInBounds_toArray, List.set_cons_succ, List.set_cons_zero]
            refine held_all1 10 (by kernel_rfl) (op_value 10 40 _ _ w2 rfl rfl rfl (hr2 _ _ rfl rfl rfl rfl) ⟨hbc2, ?_⟩)
            simp only [Act.put, List.setIfInBounds_toArray, List.set_cons_succ, List.set_cons_zero]
            refine held_all1 11 (by kernel_rfl) (op_value 11 41 _ (.pointer (some ⟨g, 0, none⟩)) _ rfl rfl rfl rfl ⟨hbc2, ?_⟩)
            simp only [Act.put, List.setIfInBounds_toArray, List.set_cons_succ, List.set_cons_zero]
            refine held_all1 12 (by kernel_rfl) (op_value 12 42 _ (.pointer (some ⟨g, 0, none⟩)) _ rfl rfl rfl rfl ⟨hbc2, ?_⟩)
            simp only [Act.put, List.setIfInBounds_toArray, List.set_cons_succ, List.set_cons_zero]
            refine held_all1 13 (by kernel_rfl) (op_skip 13 _ _ rfl rfl rfl (exec_storec _ _ rfl g _ _ _ _ rfl rfl c02 f02) ⟨hbc3, ?_⟩)
            refine wpAnyH_done (by kernel_rfl) ?_ _
            refine NoPanic.normal ?_
            go_wp2
            go_roundw
            case rel => exact HRL
            case measure => simp only [intOf]; omega
          · simp only [Act.put, List.setIfInBounds_toArray, List.set_cons_succ, List.set_cons_zero]
            refine held_all1 4 (by kernel_rfl) (op_value 4 34 _ (.slice ah ST.held.length ch) _ rfl rfl rfl (exec_loadc 22 _ rfl _ _ rfl (load_slice _ _ _ _ c0a)) ⟨hcda, ?_⟩)
            simp only [Act.put, List.setIfInBounds_toArray, List.set_cons_succ, List.set_cons_zero]
            refine held_all1 10 (by kernel_rfl) (op_value 10 40 _ _ w2 rfl rfl rfl (hr2 _ _ rfl rfl rfl rfl) ⟨hbc2, ?_⟩)
            simp only [Act.put, List.setIfInBounds_toArray, List.set_cons_succ, List.set_cons_zero]
            refine held_all1 11 (by kernel_rfl) (op_value 11 41 _ (.pointer (some ⟨g, 0, none⟩)) _ rfl rfl rfl rfl ⟨hbc2, ?_⟩)
            simp only [Act.put, List.setIfInBounds_toArray, List.set_cons_succ, List.set_cons_zero]
            refine held_all1 12 (by kernel_rfl) (op_value 12 42 _ (.pointer (some ⟨g, 0, none⟩)) _ rfl rfl rfl rfl ⟨hbc2, ?_⟩)
            simp only [Act.put, List.setIfInBounds_toArray, List.set_cons_succ, List.set_cons_zero]
            refine held_all1 13 (by kernel_rfl) (op_skip 13 _ _ rfl rfl rfl (exec_storec _ _ rfl g _ _ _ _ rfl rfl c02 f02) ⟨hbc3, ?_⟩)
            refine wpAnyH_done (by kernel_rfl) ?_ _
            refine NoPanic.normal ?_
            go_wp2
            go_roundw
            case rel => exact HRL
            case measure => simp only [intOf]; omega
    · obtain rfl : k = bs.length := by omega
      rw [List.take_length, ← HF.out] at *
      go_wp2
      go_ret2
      exact ⟨_, vs, hvi, rfl, hRi, hTi, hCi, hGi⟩
end Go.Proofs.YtchbfhckocfjhaaDoor
