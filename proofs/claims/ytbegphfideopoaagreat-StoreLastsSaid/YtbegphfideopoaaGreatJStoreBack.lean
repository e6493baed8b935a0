/-
  What is proved here: store.decodeChange answers the change whose bytes these are. store.replay answers what comes of a state and the changes behind it.
  Conditions: the change may be. the pairs may be, their keys rise, and the changes may be.
-/
import Derived.Test.YtbegphfideopoaaGreatJSegMid
import Derived.Test.YtbegphfideopoaaGreatJStoreChg
import Derived.Test.YtbegphfideopoaaGreatJPackReader
namespace Go.Proofs.YtbegphfideopoaaGreat
open Go.RowKit Go.Maps

theorem chg_wf : Fwf 4 chgF := by
  have h0 : ∀ r, Fwf r [] := fun r => by
    cases r with
    | zero => trivial
    | succ r => exact fun _ h => by cases h
  have h1 : Fwf 3 opF := fun f hf => by
    unfold opF pairF at hf
    simp only [List.mem_cons, List.not_mem_nil, or_false] at hf
    rcases hf with rfl | rfl | rfl
    · exact ⟨by decide, h0 _⟩
    · exact ⟨by decide, h0 _⟩
    · exact ⟨by decide, h0 _⟩
  intro f hf
  unfold chgF at hf
  simp only [List.mem_cons, List.not_mem_nil, or_false] at hf
  subst hf
  exact ⟨by decide, h1⟩
theorem most_chgS : mostL 4 chgF = some ((mostL 4 chgF).getD 0) := by decide
theorem chgR_parts {ops : List OpB} (h : chgR ops = true) : ops.all opR = true ∧ 1 ≤ ops.length ∧ ops.length ≤ 32 := by
  unfold chgR at h
  simp only [Bool.and_eq_true, decide_eq_true_eq] at h
  exact ⟨h.1.1, h.1.2, h.2⟩
theorem chg_back {ops : List OpB} (h : chgR ops = true) : decTop chgF (chgB ops) = .ok (chgVs ops) := by
  obtain ⟨h1, _, h3⟩ := chgR_parts h
  have he := chg_enc ops (fun o ho => by obtain ⟨_, a, b, _⟩ := opR_facts (List.all_eq_true.1 h1 o ho); omega) h3
  unfold encTop at he
  rw [if_pos most_chg] at he
  have hd := decL_dec 4 chgF _ most_chgS chg_wf (chgVs ops) (chgB ops) [] he
  rw [List.append_nil] at hd
  unfold decTop
  rw [if_pos most_chg, hd]
/-- Ops that a call gathers; their bytes lay there at its begin. -/
structure Ops8 (w0 w : World) (base : Nat) (v : Value) (cells : List Value) (l : List OpB) : Prop where
  own : w.ownsRow base 59 3 v l.length cells
  rows : ∀ i o, l[i]? = some o → ∃ ka kc va vc, cells[3 * i]? = some (.slice ka o.key.length kc) ∧ cells[3 * i + 1]? = some (.bool o.del) ∧ cells[3 * i + 2]? = some (.slice va o.val.length vc) ∧ Seg w0 (.slice ka o.key.length kc) o.key ∧ Seg w0 (.slice va o.val.length vc) o.val
theorem Ops8.nil (w0 w : World) (base : Nat) : Ops8 w0 w base (.slice none 0 0) [] [] := ⟨⟨rfl, .inl ⟨rfl, rfl⟩⟩, fun i p h => by simp at h⟩
theorem Ops8.len {w0 w : World} {base : Nat} {v : Value} {cells : List Value} {l : List OpB} (h : Ops8 w0 w base v cells l) : cells.length = 3 * l.length := by have := h.own.1; omega
theorem Ops8.sl {w0 w : World} {base : Nat} {v : Value} {cells : List Value} {l : List OpB} (h : Ops8 w0 w base v cells l) : ∃ ao c, v = .slice ao l.length c := by
  rcases h.own.2 with ⟨h1, h2⟩ | ⟨g, cap, cur, h1, _⟩
  · rw [h2]; exact ⟨_, _, h1⟩
  · exact ⟨_, _, h1⟩
theorem info_op8 : (Tryz.prog.info? 59).map (fun i => (i.zero, i.size, i.bytes)) = some (some (.agg #[.slice none 0 0, .bool false, .slice none 0 0]), 3, 56) := by kernel_rfl
theorem under_ops8 : Tryz.prog.underlying 40 = some (.slice 59) := by kernel_rfl
/-- One more op. -/
theorem app_op8 {w0 w : World} {base : Nat} {v : Value} {cells : List Value} {l : List OpB} (h : Ops8 w0 w base v cells l) (g c : Nat) (o : OpB) (ka va : Option Addr) (kc vc : Nat) (c0 : w.cell? ⟨g, 0, none⟩ = some (.slice ka o.key.length kc)) (c1 : w.cell? ⟨g, 1, none⟩ = some (.bool o.del)) (c2 : w.cell? ⟨g, 2, none⟩ = some (.slice va o.val.length vc))
    (s1 : Seg w0 (.slice ka o.key.length kc) o.key) (s2 : Seg w0 (.slice va o.val.length vc) o.val) (hlen : l.length ≤ 1000000) (hbase : base ≤ w.heap.size) :
    ∃ v' w', (∀ ty, (Builtin.append_ #[40, 40] ty #[v, .slice (some ⟨g, 0, none⟩) 1 c]).run Tryz.prog w = .ok v' w') ∧ Ops8 w0 w' base v' (cells ++ [.slice ka o.key.length kc, .bool o.del, .slice va o.val.length vc]) (l ++ [o]) ∧ w.grownBy w' v.ownBlock := by
  obtain ⟨i0, hi, hz0, hz1, hz2⟩ := info_parts info_op8
  obtain ⟨v', w', h0, h2, h3, _, _⟩ := run_append_own_at (P := Tryz.prog) w base 40 40 59 i0 _ 3 56 under_ops8 hi hz0 hz1 hz2 rfl (by decide) v l.length cells h.own ⟨g, 0, none⟩ 1 c [.slice ka o.key.length kc, .bool o.del, .slice va o.val.length vc] rfl (fun j y hy => by
    match j, hy with
    | 0, hy => cases hy; exact c0
    | 1, hy => cases hy; exact c1
    | 2, hy => cases hy; exact c2
    | (j + 3), hy => simp at hy) (fun y hy => by
      simp only [List.mem_cons, List.not_mem_nil, or_false] at hy
      rcases hy with rfl | rfl | rfl <;> rfl) (by unfold maxLen; omega) (by omega) hbase
  refine ⟨v', w', fun ty => h0, ⟨?_, fun i r hr => ?_⟩, h3⟩
  · rw [List.length_append]; exact h2
  · have hl := h.len
    rcases Nat.lt_trichotomy i l.length with hlt | heq | hgt
    · rw [List.getElem?_append_left hlt] at hr
      obtain ⟨ka', kc', va', vc', e1, e2, e3, e4⟩ := h.rows i r hr
      exact ⟨ka', kc', va', vc', by rw [List.getElem?_append_left (by omega)]; exact e1, by rw [List.getElem?_append_left (by omega)]; exact e2, by rw [List.getElem?_append_left (by omega)]; exact e3, e4⟩
    · subst heq
      rw [List.getElem?_append_right (Nat.le_refl _), Nat.sub_self] at hr
      cases hr
      refine ⟨ka, kc, va, vc, ?_, ?_, ?_, s1, s2⟩
      · rw [List.getElem?_append_right (by omega), hl, Nat.sub_self]; rfl
      · rw [List.getElem?_append_right (by omega), hl, show 3 * l.length + 1 - 3 * l.length = 1 by omega]; rfl
      · rw [List.getElem?_append_right (by omega), hl, show 3 * l.length + 2 - 3 * l.length = 2 by omega]; rfl
    · rw [List.getElem?_eq_none (by simp; omega)] at hr
      cases hr
theorem Ops8.opsV {w0 w : World} {base : Nat} {v : Value} {cells : List Value} {l : List OpB} (h : Ops8 w0 w base v cells l) (hb : Below w0.heap.size w0 w) (hl : l.length ≤ 1000000) (hR : ∀ o ∈ l, o.key.length ≤ 1024 ∧ o.val.length ≤ 1024) : OpsV w v l := by
  obtain ⟨ao, c, rfl⟩ := h.sl
  refine ⟨ao, c, rfl, by unfold maxLen; omega, fun i o hi => ?_⟩
  have hi' : i < l.length := (List.getElem?_eq_some_iff.1 hi).1
  obtain ⟨g, cap, hv, _, hgl⟩ := World.ownsRow.form h.own (by omega)
  cases hv
  obtain ⟨ka, kc, va, vc, e1, e2, e3, s1, s2⟩ := h.rows i o hi
  have cl : ∀ j u, cells[j]? = some u → w.cell? ⟨g, j, none⟩ = some u := fun j u hu => by
    have := World.ownsRow.cells h.own (g := g) rfl j u hu
    rw [Addr.add_mid, Nat.zero_add] at this
    exact this
  obtain ⟨r1, r2⟩ := hR o (List.mem_of_getElem? hi)
  refine ⟨g, 0, rfl, hgl, ka, kc, va, vc, ?_, ?_, ?_, s1.below hb (Nat.le_refl _), s2.below hb (Nat.le_refl _), by unfold maxLen; omega, by unfold maxLen; omega⟩
  · have := cl (3 * i) _ e1
    rw [show 3 * i = 0 + i * 3 by omega] at this
    exact this
  · have := cl (3 * i + 1) _ e2
    rw [show 3 * i + 1 = 0 + i * 3 + 1 by omega] at this
    exact this
  · have := cl (3 * i + 2) _ e3
    rw [show 3 * i + 2 = 0 + i * 3 + 2 by omega] at this
    exact this
theorem built_op8 (ka va : Option Addr) (kn kc vn vc : Nat) (d : Bool) : Tryz.prog.built 59 [(1, .bool d), (0, .slice ka kn kc), (2, .slice va vn vc)] = some #[.slice ka kn kc, .bool d, .slice va vn vc] := by kernel_rfl
theorem exec_build8 {a : Act} {o : Oper} {w : World} (t : TypeId) (parts : Array (Nat × Operand)) (ho : o.op = .build t parts) (arr : Array Value) (hb0 : Tryz.prog.built t (parts.toList.map fun p => (p.1, a.eval p.2)) = some arr) : (execOp a.eval o).run Tryz.prog w = .ok (.value (.agg arr)) w := by
  have hb : Tryz.prog.built t (parts.map fun (i, x) => (i, a.eval x)).toList = some arr := by rw [Array.toList_map]; exact hb0
  unfold execOp
  simp only [ho, Sem.run_bind, run_build w t _ arr hb, Result.andThen_ok]
  rfl
theorem exec_op1 {a : Act} {o : Oper} {w : World} (x0 : Operand) (ho : o.op = .buildSlice 40 1 #[(0, x0)]) (u0 u1 u2 : Value) (h0 : a.eval x0 = .agg #[u0, u1, u2]) :
    (execOp a.eval o).run Tryz.prog w = .ok (.value (.slice (some ⟨w.heap.size, 0, none⟩) 1 1)) (w.alloc (.cells #[u0, u1, u2] 59)) := by
  unfold execOp
  have e : Array.map (fun y : Nat × Operand => (y.1, a.eval y.2)) #[(0, x0)] = #[(0, .agg #[u0, u1, u2])] := by simp [h0]
  simp only [ho, e]
  simp [go_sem]
theorem idx3 (b off c : Nat) (z : Int) (I : Nat) (hz : z = (I : Int)) (h : I < 3) (w : World) : (Instr.indexAt 114 (.slice (some ⟨b, off, none⟩) 3 c) (.int .i64 z)).run Tryz.prog w = .ok (.pointer (some ⟨b, off + I * 3, none⟩)) w := by
  subst hz
  exact index_values b off 3 c I w h
theorem exec_eqlU {a : Act} {o : Oper} {w : World} (x y : Operand) (ho : o.op = .binOp .eql 110 x y 110) (m n : Int) (b : Bool) (hx : a.eval x = .int .u64 m) (hy : a.eval y = .int .u64 n) (h : (m == n) = b) : (execOp a.eval o).run Tryz.prog w = .ok (.value (.bool b)) w := by
  subst h
  unfold execOp
  simp only [ho, hx, hy]
  simp [go_sem]
set_option maxRecDepth 100000 in
set_option maxHeartbeats 4000000 in
theorem decodeChange_any (bv : Value) (ops : List OpB) (w : World) (hS : Seg w bv (chgB ops)) (hR : chgR ops = true) (hbl : (chgB ops).length ≤ maxLen) :
    Calls Tryz.prog 50 #[bv] w fun e w' => ∃ v, e = .returned (.tuple #[v, .bool true]) ∧ OpsV w' v ops ∧ Below w.heap.size w w' := by
  have hback := chg_back hR
  obtain ⟨hall, hl1, hl32⟩ := chgR_parts hR
  have HD : Hid (∀ W lv, Below w.heap.size w W → Flds W 2 lv chgF → Calls Tryz.prog 79 #[lv, bv] W fun e w' => decodePost W (.ok (chgVs ops)) e w') := fun W lv hW h => by
    rw [← hback]
    exact decode_any 2 lv chgF bv (chgB ops) W h (hS.below hW (Nat.le_refl _)) hbl
  have HKV : Hid (∀ o ∈ ops, o.key.length ≤ 1024 ∧ o.val.length ≤ 1024) := fun o ho => by obtain ⟨_, a, b, _⟩ := opR_facts (List.all_eq_true.1 hall o ho); omega
  have HMN : Hid (∀ V v, OpsV V v ops → Calls Tryz.prog 32 #[v] V fun e w' => e = .returned (.bool false) ∧ Below V.heap.size V w') := fun V v h => by
    have := mayNotBe_any v ops V h
    rw [hR] at this
    exact this
  clear hS hback hR hall hbl
  go_enter Tryz.func50, Tryz.ntmps50
  go_wp2_with fail
  refine (changeFields_any w).mono ?_
  rintro e w1 ⟨lv, rfl, hF1, hB1⟩
  have HD1 := HD.out w1 lv hB1 hF1
  clear HD hF1
  go_wp2_with fail
  refine HD1.mono ?_
  rintro e w2 ⟨⟨val, rfl, hK⟩, hb2⟩
  have hV := hK w2 (Agree.refl _ _)
  have hB2 : Below w.heap.size w w2 := hB1.trans (hb2.mono hB1.size)
  clear HD1 hK hb2 hB1
  obtain ⟨ao, c, rfl, _, hf⟩ := hV
  have h1 : (chgVs ops).length = 1 := rfl
  rw [h1] at hf ⊢
  obtain ⟨b, off, rfl, hbl, hcc, hA⟩ := hf (by omega)
  obtain ⟨_, _, ⟨la, lc, e2, _, hrec⟩, _⟩ := hA 0 (.mk 0 [] (ops.map opVs)) rfl
  simp only [Val.l, List.length_map, Nat.zero_mul, Nat.add_zero] at e2 hrec
  obtain ⟨lb, lo, rfl, hlb, hlc, hrec⟩ := hrec (by omega)
  have HRC : Hid (∀ (I : Nat) o, ops[I]? = some o → ∃ rb ro rc ka kc va vc, (∀ V, Below w2.heap.size w2 V → V.cell? ⟨lb, lo + I, none⟩ = some (.slice (some ⟨rb, ro, none⟩) 3 rc)) ∧ (∀ V, Below w2.heap.size w2 V → V.cell? ⟨rb, ro + 0 * 3, none⟩ = some (.int .u64 ((if o.del then 1 else 0 : Nat) : Int))) ∧ (∀ V, Below w2.heap.size w2 V → V.cell? ⟨rb, ro + 1 * 3 + 1, none⟩ = some (.slice ka o.key.length kc)) ∧ (∀ V, Below w2.heap.size w2 V → V.cell? ⟨rb, ro + 2 * 3 + 1, none⟩ = some (.slice va o.val.length vc)) ∧ Seg w2 (.slice ka o.key.length kc) o.key ∧ Seg w2 (.slice va o.val.length vc) o.val) := fun I o ho => by
    obtain ⟨rv, g1, ra, rc, rfl, _, g3⟩ := hrec I (opVs o) (by rw [List.getElem?_map, ho]; rfl)
    have h3 : (opVs o).length = 3 := rfl
    rw [h3] at g3 g1
    obtain ⟨rb, ro, rfl, g4, g5, g6⟩ := g3 (by omega)
    obtain ⟨t1, _⟩ := g6 0 (.mk (if o.del then 1 else 0) [] []) rfl
    obtain ⟨_, ⟨kv, t2, t3, _⟩, _⟩ := g6 1 (.mk 0 o.key []) rfl
    obtain ⟨_, ⟨vv, t4, t5, _⟩, _⟩ := g6 2 (.mk 0 o.val []) rfl
    simp only [Val.n, Val.b] at t1 t3 t5
    obtain ⟨ka, kc, rfl⟩ := t3.shapeD
    obtain ⟨va, vc, rfl⟩ := t5.shapeD
    exact ⟨rb, ro, rc, ka, kc, va, vc, fun V h => (h.cell (p := ⟨lb, lo + I, none⟩) hlb).trans g1, fun V h => (h.cell (p := ⟨rb, ro + 0 * 3, none⟩) g4).trans t1, fun V h => (h.cell (p := ⟨rb, ro + 1 * 3 + 1, none⟩) g4).trans t2, fun V h => (h.cell (p := ⟨rb, ro + 2 * 3 + 1, none⟩) g4).trans t4, t3, t5⟩
  clear hA hrec hf h1
  go_wp2_with fail
  clear e2
  go_loopw [6, 22] (fun v i wr => ∃ (I : Nat) (cells : List Value), I ≤ ops.length ∧ i = .int .i64 (I : Int) ∧ Ops8 w2 wr w2.heap.size v cells (ops.take I) ∧ Below w2.heap.size w2 wr) (fun _ i _ => ops.length - (intOf i).toNat)
  case atStart => exact ⟨0, [], Nat.zero_le _, rfl, by simpa using Ops8.nil _ _ _, Below.refl _ _⟩
  case round =>
    obtain ⟨I, cells, hI, rfl, hO, hB⟩ := hrel
    by_cases hlt : I < ops.length
    · obtain ⟨o, ho⟩ : ∃ o, ops[I]? = some o := ⟨ops[I], List.getElem?_eq_getElem hlt⟩
      obtain ⟨rb, ro, rc, ka, kc, va, vc, r0, r1, r2, r3, s1, s2⟩ := HRC.out I o ho
      have i1 : (I : Int) < (ops.length : Int) := by omega
      have HTK : Hid (ops.take (I + 1) = ops.take I ++ [o]) := take_snoc ho
      have cl := r0 wr hB
      have sB := hB.size
      obtain ⟨ov, oc, rfl⟩ := hO.sl
      have hOd : Ops8 w2 (wr.drew.alloc (.cells #[.slice ka o.key.length kc, .bool o.del, .slice va o.val.length vc] 59)) w2.heap.size (.slice ov (ops.take I).length oc) cells (ops.take I) := ⟨World.ownsRow.alloc (show wr.drew.ownsRow _ _ _ _ _ _ from hO.own) _, hO.rows⟩
      have kb : Blk (wr.drew.alloc (.cells #[.slice ka o.key.length kc, .bool o.del, .slice va o.val.length vc] 59)) wr.heap.size 59 #[.slice ka o.key.length kc, .bool o.del, .slice va o.val.length vc] := Blk.new wr.drew _ _
      have hS1 : Below w2.heap.size w2 (wr.drew.alloc (.cells #[.slice ka o.key.length kc, .bool o.del, .slice va o.val.length vc] 59)) := hB.drew.alloc sB _
      obtain ⟨v5, w5, hr5, hO5, hg5⟩ := app_op8 hOd wr.heap.size 1 o ka va kc vc (kb.cell (j := 0) rfl) (kb.cell (j := 1) rfl) (kb.cell (j := 2) rfl) s1 s2 (by rw [List.length_take]; omega) hS1.size
      have hB5 : Below w2.heap.size w2 w5 := below_grown hS1 hg5 hS1.size (fun x hx => (World.ownsRow.lt hO.own x hx).1)
      obtain ⟨a5, c5, rfl⟩ := hO5.sl
      have HO5 : Hid (Ops8 w2 w5 w2.heap.size (.slice a5 (ops.take I ++ [o]).length c5) (cells ++ [.slice ka o.key.length kc, .bool o.del, .slice va o.val.length vc]) (ops.take (I + 1))) := by
        show Ops8 _ _ _ _ _ _
        rw [HTK.out]
        exact hO5
      obtain ⟨DN, hDN0⟩ : ∃ DN : Nat, DN = (if o.del then 1 else 0 : Nat) := ⟨_, rfl⟩
      rw [← hDN0] at r1
      have hDN : ((DN : Int) == 1) = o.del := by rw [hDN0]; cases o.del <;> rfl
      clear hDN0 hO hOd kb hg5 hO5 HTK r0 s1 s2 ho
      generalize (ops.take I ++ [o]).length = L5 at *
      generalize (ops.take I).length = UL at *
      go_wp2_with fail
      have hS0 : Below w2.heap.size w2 wr.drew := hB.drew
      refine held_begin (fun V => Below w2.heap.size w2 V) (by kernel_rfl) ?_
      refine held_take 0 26 _ (.slice ov UL oc) rfl rfl (by kernel_rfl) (by kernel_rfl) (by kernel_rfl) rfl hS0 (fun _ _ => rfl) ?_
      simp only [Act.put, List.setIfInBounds_toArray, List.set_cons_succ, List.set_cons_zero]
      refine held_take 1 27 _ (.slice (some ⟨rb, ro, none⟩) 3 rc) rfl rfl (by kernel_rfl) (by kernel_rfl) (by kernel_rfl) rfl hS0 (fun _ _ => rfl) ?_
      simp only [Act.put, List.setIfInBounds_toArray, List.set_cons_succ, List.set_cons_zero]
      refine held_take 2 28 _ (.pointer (some ⟨rb, ro + 0 * 3, none⟩)) rfl rfl (by kernel_rfl) (by kernel_rfl) (by kernel_rfl) rfl hS0 (fun V _ => exec_indexat 114 _ _ rfl (.slice (some ⟨rb, ro, none⟩) 3 rc) (.int .i64 0) _ rfl rfl (idx3 rb ro rc 0 0 rfl (by omega) V)) ?_
      simp only [Act.put, List.setIfInBounds_toArray, List.set_cons_succ, List.set_cons_zero]
      refine held_take 3 29 _ (.pointer (some ⟨rb, ro + 0 * 3, none⟩)) rfl rfl (by kernel_rfl) (by kernel_rfl) (by kernel_rfl) rfl hS0 (fun _ _ => rfl) ?_
      simp only [Act.put, List.setIfInBounds_toArray, List.set_cons_succ, List.set_cons_zero]
      refine held_take 4 30 _ (.int .u64 (DN : Int)) rfl rfl (by kernel_rfl) (by kernel_rfl) (by kernel_rfl) rfl hS0 (fun V hV => exec_loadc 110 _ rfl _ _ rfl (load_one 110 (fun _ => by kernel_rfl) V _ _ _ (r1 V hV))) ?_
      simp only [Act.put, List.setIfInBounds_toArray, List.set_cons_succ, List.set_cons_zero]
      refine held_take 5 31 _ (.bool o.del) rfl rfl (by kernel_rfl) (by kernel_rfl) (by kernel_rfl) rfl hS0 (fun V _ => exec_eqlU _ _ rfl (DN : Int) 1 o.del rfl rfl hDN) ?_
      simp only [Act.put, List.setIfInBounds_toArray, List.set_cons_succ, List.set_cons_zero]
      refine held_take 6 32 _ (.slice (some ⟨rb, ro, none⟩) 3 rc) rfl rfl (by kernel_rfl) (by kernel_rfl) (by kernel_rfl) rfl hS0 (fun _ _ => rfl) ?_
      simp only [Act.put, List.setIfInBounds_toArray, List.set_cons_succ, List.set_cons_zero]
      refine held_take 7 33 _ (.pointer (some ⟨rb, ro + 1 * 3, none⟩)) rfl rfl (by kernel_rfl) (by kernel_rfl) (by kernel_rfl) rfl hS0 (fun V _ => exec_indexat 114 _ _ rfl (.slice (some ⟨rb, ro, none⟩) 3 rc) (.int .i64 1) _ rfl rfl (idx3 rb ro rc 1 1 rfl (by omega) V)) ?_
      simp only [Act.put, List.setIfInBounds_toArray, List.set_cons_succ, List.set_cons_zero]
      refine held_take 8 34 _ (.pointer (some ⟨rb, ro + 1 * 3 + 1, none⟩)) rfl rfl (by kernel_rfl) (by kernel_rfl) (by kernel_rfl) rfl hS0 (fun _ _ => rfl) ?_
      simp only [Act.put, List.setIfInBounds_toArray, List.set_cons_succ, List.set_cons_zero]
      refine held_take 9 35 _ (.slice ka o.key.length kc) rfl rfl (by kernel_rfl) (by kernel_rfl) (by kernel_rfl) rfl hS0 (fun V hV => exec_loadc 34 _ rfl _ _ rfl (load_one 34 (fun _ => by kernel_rfl) V _ _ _ (r2 V hV))) ?_
      simp only [Act.put, List.setIfInBounds_toArray, List.set_cons_succ, List.set_cons_zero]
      refine held_take 10 36 _ (.slice (some ⟨rb, ro, none⟩) 3 rc) rfl rfl (by kernel_rfl) (by kernel_rfl) (by kernel_rfl) rfl hS0 (fun _ _ => rfl) ?_
      simp only [Act.put, List.setIfInBounds_toArray, List.set_cons_succ, List.set_cons_zero]
      refine held_take 11 37 _ (.pointer (some ⟨rb, ro + 2 * 3, none⟩)) rfl rfl (by kernel_rfl) (by kernel_rfl) (by kernel_rfl) rfl hS0 (fun V _ => exec_indexat 114 _ _ rfl (.slice (some ⟨rb, ro, none⟩) 3 rc) (.int .i64 2) _ rfl rfl (idx3 rb ro rc 2 2 rfl (by omega) V)) ?_
      simp only [Act.put, List.setIfInBounds_toArray, List.set_cons_succ, List.set_cons_zero]
      refine held_take 12 38 _ (.pointer (some ⟨rb, ro + 2 * 3 + 1, none⟩)) rfl rfl (by kernel_rfl) (by kernel_rfl) (by kernel_rfl) rfl hS0 (fun _ _ => rfl) ?_
      simp only [Act.put, List.setIfInBounds_toArray, List.set_cons_succ, List.set_cons_zero]
      refine held_take 13 39 _ (.slice va o.val.length vc) rfl rfl (by kernel_rfl) (by kernel_rfl) (by kernel_rfl) rfl hS0 (fun V hV => exec_loadc 34 _ rfl _ _ rfl (load_one 34 (fun _ => by kernel_rfl) V _ _ _ (r3 V hV))) ?_
      simp only [Act.put, List.setIfInBounds_toArray, List.set_cons_succ, List.set_cons_zero]
      refine held_take 14 40 _ (.agg #[.slice ka o.key.length kc, .bool o.del, .slice va o.val.length vc]) rfl rfl (by kernel_rfl) (by kernel_rfl) (by kernel_rfl) rfl hS0 (fun V _ => exec_build8 _ _ rfl _ (built_op8 _ _ _ _ _ _ _)) ?_
      simp only [Act.put, List.setIfInBounds_toArray, List.set_cons_succ, List.set_cons_zero]
      refine held_all1 15 (by kernel_rfl) (op_value 15 41 _ (.slice (some ⟨wr.heap.size, 0, none⟩) 1 1) (wr.drew.alloc (.cells #[.slice ka o.key.length kc, .bool o.del, .slice va o.val.length vc] 59)) rfl rfl rfl (exec_op1 _ rfl _ _ _ rfl) ⟨hS1, ?_⟩)
      simp only [Act.put, List.setIfInBounds_toArray, List.set_cons_succ, List.set_cons_zero]
      refine held_all1 16 (by kernel_rfl) (op_value 16 42 _ (.slice a5 L5 c5) w5 rfl rfl rfl (exec_app _ _ 40 40 rfl (.slice ov UL oc) (.slice (some ⟨wr.heap.size, 0, none⟩) 1 1) (.slice a5 L5 c5) rfl rfl hr5) ⟨hB5, ?_⟩)
      simp only [Act.put, List.setIfInBounds_toArray, List.set_cons_succ, List.set_cons_zero]
      refine held_take 17 6 _ (.slice a5 L5 c5) rfl rfl (by kernel_rfl) (by kernel_rfl) (by kernel_rfl) rfl hB5 (fun _ _ => rfl) ?_
      simp only [Act.put, List.setIfInBounds_toArray, List.set_cons_succ, List.set_cons_zero]
      refine wpAnyH_done (by kernel_rfl) ?_ _
      refine NoPanic.normal ?_
      clear hS0 hS1 hr5 cl
      go_wp2
      go_roundw
      case rel => exact ⟨I + 1, _, hlt, by go_num, HO5.out, hB5⟩
      case measure => simp [intOf]; omega
    · obtain rfl : I = ops.length := by omega
      have i1 : ¬ (ops.length : Int) < (ops.length : Int) := by omega
      rw [List.take_of_length_le (Nat.le_refl _)] at hO
      have hOV := hO.opsV hB (by omega) HKV.out
      have HM := HMN.out wr _ hOV
      obtain ⟨ov, oc, rfl⟩ := hO.sl
      have hB3 : Below w.heap.size w wr := hB2.trans (hB.mono hB2.size)
      clear hO HMN HRC
      go_wp2_with fail
      refine HM.mono ?_
      rintro e w6 ⟨rfl, hb6⟩
      have HV6 : Hid (OpsV w6 (.slice ov ops.length oc) ops) := hOV.below hb6 (Nat.le_refl _)
      have hB6 : Below w.heap.size w w6 := hB3.trans (hb6.mono hB3.size)
      clear hOV HM
      go_wp2
      go_ret2
      exact ⟨_, rfl, HV6.out, hB6⟩
end Go.Proofs.YtbegphfideopoaaGreat
namespace Go.Proofs.YtbegphfideopoaaGreat
open Go.RowKit Go.Maps

theorem len_alls : ∀ (cs : List (List OpB)) (m : PM), cs.all chgR = true → (doAll m cs).length ≤ m.length + 32 * cs.length
  | [], _, _ => Nat.le_refl _
  | c :: cs, m, h => by
    simp only [List.all_cons, Bool.and_eq_true] at h
    have h1 := len_alls cs (doM m c) h.2
    have h2 := len_do c m
    have h3 := (chgR_parts h.1).2.2
    show (doAll (doM m c) cs).length ≤ m.length + 32 * (cs.length + 1)
    omega
theorem all_take {cs : List (List OpB)} (h : cs.all chgR = true) (I : Nat) : (cs.take I).all chgR = true := List.all_eq_true.2 fun c hc => List.all_eq_true.1 h c (List.mem_of_mem_take hc)
theorem chgB_leR {ops : List OpB} (h : chgR ops = true) : (chgB ops).length ≤ 100000 := by
  obtain ⟨h1, _, h3⟩ := chgR_parts h
  have key : ∀ l : List OpB, l.all opR = true → (l.flatMap opB).length ≤ 1093 * l.length := by
    intro l
    induction l with
    | nil => intro _; exact Nat.le_refl _
    | cons o l ih =>
      intro hl
      simp only [List.all_cons, Bool.and_eq_true] at hl
      have := ih hl.2
      obtain ⟨_, a, b, _⟩ := opR_facts hl.1
      rw [List.flatMap_cons, List.length_append, opB_len, List.length_cons]
      omega
  have := key ops h1
  show (ops.flatMap opB).length + 1 ≤ _
  omega
set_option maxRecDepth 100000 in
set_option maxHeartbeats 4000000 in
theorem replay_any (m0 : PM) (css : List (List OpB)) (hr : RiseM m0) (hp : PairsR m0) (hl : m0.length ≤ 4000) (hR : css.all chgR = true) (hcl : css.length ≤ 1000000) (hfin : (doAll m0 css).length ≤ 4000) : ReplayOk (stateM m0) (css.map chgB) (doAll m0 css) := by
  intro W sv rv vs base hS hG
  have HD := decodeState_any sv m0 W hS.seg hr hp (by omega)
  have HG : Hid (∀ V, Below W.heap.size W V → Gat V base rv vs (css.map chgB)) := fun V hV => hG.below hV (Nat.le_refl _)
  obtain ⟨sa, sc, rfl⟩ := hS.seg.shapeD
  obtain ⟨ra, rc, rfl⟩ := hG.sl
  have HLN : Hid (∀ I, I ≤ css.length → (doAll m0 (css.take I)).length ≤ 100000000) := fun I hI => by
    have := len_alls (css.take I) m0 (all_take hR I)
    rw [List.length_take] at this
    omega
  have HRR : Hid (css.all chgR = true) := hR
  rw [List.length_map] at HG ⊢
  clear hS hG hr hp hl hR
  go_enter Tryz.func28, Tryz.ntmps28
  go_wp2_with fail
  refine HD.mono ?_
  rintro e w1 ⟨N, C1, rfl, hN1, hN2, hCN, hC1, hM1, hB1⟩
  clear HD
  go_wp2_with fail
  go_loopw [21] (fun i wr => ∃ (I : Nat) (C : Nat → Prop), I ≤ css.length ∧ i = .int .i64 (I : Int) ∧ MapP wr C N (doAll m0 (css.take I)) ∧ ¬ C N ∧ (∀ q, C q → W.heap.size ≤ q ∧ q < wr.heap.size) ∧ Below W.heap.size W wr) (fun i _ => css.length - (intOf i).toNat)
  case atStart => exact ⟨0, C1, Nat.zero_le _, rfl, hM1, hCN, hC1, hB1⟩
  case round =>
    clear hM1 hCN hC1 hB1 hN2
    obtain ⟨I, C, hI, rfl, hM, hCN, hC, hB⟩ := hrel
    by_cases hlt : I < css.length
    · obtain ⟨ops, ho⟩ : ∃ ops, css[I]? = some ops := ⟨css[I], List.getElem?_eq_getElem hlt⟩
      obtain ⟨b, c, a, cc, e0, ec, hsg⟩ := (HG.out wr hB).at (k := I) (by rw [List.length_map]; exact hlt)
      have hgd : (css.map chgB).getD I [] = chgB ops := by rw [List.getD_eq_getElem?_getD, List.getElem?_map, ho]; rfl
      rw [hgd] at ec hsg
      rw [List.length_map] at e0
      cases e0
      have hoR : chgR ops = true := List.all_eq_true.1 HRR.out ops (List.mem_of_getElem? ho)
      have HST : Hid (doM (doAll m0 (css.take I)) ops = doAll m0 (css.take (I + 1))) := by
        show _ = _
        unfold doAll
        rw [List.take_add_one, ho]
        simp
      have HLI := HLN.out I hI
      have HDC := decodeChange_any _ ops wr hsg hoR (by have := chgB_leR hoR; unfold maxLen; omega)
      have hor := (chgR_parts hoR).1
      have hol := (chgR_parts hoR).2.2
      have HLH : Hid ((doAll m0 (css.take I)).length ≤ 100000000) := HLI
      have i1 : (I : Int) < (css.length : Int) := by omega
      obtain ⟨MM, hMM⟩ : ∃ MM, MM = doAll m0 (css.take I) := ⟨_, rfl⟩
      rw [← hMM] at hM HST HLH
      generalize (chgB ops).length = RL at *
      clear hgd hoR HLI hMM ho hsg
      go_wp2_with fail
      refine HDC.mono ?_
      rintro e w3 ⟨v3, rfl, hO3, hb3⟩
      have hB3 : Below W.heap.size W w3 := hB.trans (hb3.mono hB.size)
      have hM3 := hM.after hb3
      have s3 := hb3.size
      have HDO := do_any N C MM v3 ops w3 hM3 hCN hO3 hor (by have := HLH.out; omega)
      obtain ⟨oa, oc, rfl, _, _⟩ := hO3
      rw [HST.out] at HDO
      clear HDC hM hb3 ec
      go_wp2_with fail
      refine HDO.mono ?_
      rintro e w4 ⟨rfl, hM4, hc4⟩
      have hB4 : Below W.heap.size W w4 := hB3.trans (hc4.below (B := W.heap.size) (fun x hx => by cases hx; exact hN1) hB3.size)
      have s4 := hc4.size
      have hNl := hM3.lt
      have HM4 : Hid (MapP w4 (Fr C w3 w4) N (doAll m0 (css.take (I + 1)))) := hM4
      clear HDO hM4 hM3 hc4
      go_wp2_with fail
      go_roundw
      case rel => exact ⟨I + 1, Fr C w3 w4, hlt, by go_num, HM4.out, (fun h => by rcases h with h | h; exact hCN h; omega), (fun x hx => by rcases hx with h | h; have := hC x h; omega; have := hB3.size; omega), hB4⟩
      case measure => simp [intOf]; omega
    · obtain rfl : I = css.length := by omega
      have i1 : ¬ (css.length : Int) < (css.length : Int) := by omega
      rw [List.take_of_length_le (Nat.le_refl _)] at hM
      have hl := hM.len 3
      have hfi : ((doAll m0 css).length : Int) ≤ 4000 := by omega
      have HF : Hid (RepOut W (doAll m0 css) (.returned (.tuple #[.map (some N), .bool true])) wr) := ⟨N, C, rfl, hN1, hM.lt, hCN, hC, hM, hB⟩
      clear hM hC hCN hB hfin
      generalize (doAll m0 css).length = FL at *
      go_wp2_with fail
      (try simp only [Exit.inBlock, Exit.then])
      refine bodyPost_ret (results2 rfl _ _ _) rfl ?_
      exact HF.out
end Go.Proofs.YtbegphfideopoaaGreat
