/-
  What is proved here: what changes do to the pairs of a map: the program's do, its copies of maps, and behind.
  Conditions: those that each fact names.
-/
import Derived.Test.YtfghfciigdkioaaGreatRJStoreOps
import Derived.Test.YtfghfciigdkioaaGreatRJPackPure
namespace Go.Proofs.YtfghfciigdkioaaGreatR
open Go.RowKit Go.Maps

def IsMapAt (w : World) (b : Nat) : Prop := ∃ es clock, w.heap[b]? = some (.map es clock)
theorem MapP.at {w : World} {C : Nat → Prop} {b : Nat} {m : PM} (h : MapP w C b m) : IsMapAt w b := by
  obtain ⟨n, D, ⟨es, clock, h1, _⟩, _⟩ := h.body
  exact ⟨es, clock, h1⟩
theorem ne_map {w : World} {b q o : Nat} {u : Value} (hm : IsMapAt w b) (h : w.cell? ⟨q, o, none⟩ = some u) : q ≠ b := by
  rintro rfl
  obtain ⟨es, clock, h1⟩ := hm
  unfold World.cell? at h
  rw [show w.heap[(⟨q, o, none⟩ : Addr).block]? = _ from h1] at h
  cases h
theorem seg_ne_map {w : World} {b : Nat} {v : Value} {bs : List UInt8} (hm : IsMapAt w b) (h : Seg w v bs) (h0 : 0 < bs.length) (q : Nat) (hq : v.ownBlock = some q) : q ≠ b := by
  obtain ⟨ao, c, rfl⟩ := h.shapeD
  obtain ⟨b', off, rfl, _, hr, _⟩ := h.formD h0
  cases hq
  exact ne_map hm (hr 0 h0)
theorem OpAt.chgMap {w w' : World} {b q off : Nat} {o : OpB} (h : OpAt w q off o) (hl : q < w.heap.size) (hm : IsMapAt w b) (hc : Chg (fun k => k = b) w w') : OpAt w' q off o := by
  obtain ⟨ka, kc, va, vc, h1, h2, h3, h4, h5, h6⟩ := h
  have hq : q ≠ b := ne_map hm h1
  have hcc : ∀ o, w'.cell? ⟨q, o, none⟩ = w.cell? ⟨q, o, none⟩ := fun o => World.cell?_of_block (w := w) (a := ⟨q, o, none⟩) (hc.2 q hl hq)
  exact ⟨ka, kc, va, vc, (hcc _).trans h1, (hcc _).trans h2, (hcc _).trans h3, h4.chg hc (fun h0 k hk => seg_ne_map hm h4 h0 k hk), h5.chg hc (fun h0 k hk => seg_ne_map hm h5 h0 k hk), h6⟩
theorem OpsV.chgMap {w w' : World} {b : Nat} {v : Value} {ops : List OpB} (h : OpsV w v ops) (hm : IsMapAt w b) (hc : Chg (fun k => k = b) w w') : OpsV w' v ops := by
  obtain ⟨ao, c, h1, h2, h3⟩ := h
  refine ⟨ao, c, h1, h2, fun i o hi => ?_⟩
  obtain ⟨q, off, e, hl, h4⟩ := h3 i o hi
  exact ⟨q, off, e, Nat.lt_of_lt_of_le hl hc.size, h4.chgMap hl hm hc⟩
theorem exec_mapup {a : Act} {o : Oper} {w w' : World} (m x v : Operand) (ho : o.op = .mapUpdate 70 m x v) (vm vx vv : Value) (hm : a.eval m = vm) (hx : a.eval x = vx) (hv : a.eval v = vv) (hr : (Instr.mapUpdate 70 vm vx vv).run Tryz.prog w = .ok () w') : (execOp a.eval o).run Tryz.prog w = .ok .skip w' := by
  unfold execOp
  simp [ho, hm, hx, hv, hr, Result.andThen]
theorem do_step {ops : List OpB} {I : Nat} {o : OpB} (m : PM) (h : ops[I]? = some o) : doM m (ops.take (I + 1)) = doOp (doM m (ops.take I)) o := by
  unfold doM
  rw [List.take_add_one, h, List.foldl_append]
  rfl
theorem len_del (k : List UInt8) : ∀ m : PM, (delM k m).length ≤ m.length
  | [] => Nat.le_refl _
  | p :: m => by
    unfold delM
    have := len_del k m
    split
    · exact Nat.le_succ_of_le this
    · exact Nat.succ_le_succ this
theorem len_put (k v : List UInt8) : ∀ m : PM, (putM k v m).length ≤ m.length + 1
  | [] => Nat.le_refl _
  | p :: m => by
    unfold putM
    have := len_put k v m
    split
    · exact Nat.le_refl _
    · split
      · exact Nat.le_succ _
      · exact Nat.succ_le_succ this
theorem len_op (m : PM) (o : OpB) : (doOp m o).length ≤ m.length + 1 := by
  unfold doOp
  split
  · exact Nat.le_succ_of_le (len_del _ _)
  · exact len_put _ _ _
theorem len_do : ∀ (ops : List OpB) (m : PM), (doM m ops).length ≤ m.length + ops.length
  | [], _ => Nat.le_refl _
  | o :: ops, m => by
    have h1 := len_do ops (doOp m o)
    have h2 := len_op m o
    show (doM (doOp m o) ops).length ≤ m.length + (ops.length + 1)
    omega
set_option maxRecDepth 100000 in
set_option maxHeartbeats 4000000 in
theorem do_any (Mb : Nat) (C : Nat → Prop) (m : PM) (v : Value) (ops : List OpB) (w : World) (hM : MapP w C Mb m) (hCM : ¬ C Mb) (hv : OpsV w v ops) (hR : ops.all opR = true) (hml : m.length + ops.length ≤ 1000000000) :
    Calls Tryz.prog 50 #[.map (some Mb), v] w fun e w' => e = .returned (.tuple #[]) ∧ MapP w' (Fr C w w') Mb (doM m ops) ∧ Chg (fun q => q = Mb) w w' := by
  have hMat := hM.at
  have hMl := hM.lt
  have HV : Hid (∀ W, Chg (fun q => q = Mb) w W → OpsV W v ops) := fun W hW => hv.chgMap hMat hW
  obtain ⟨ao, c, rfl, hm, -⟩ := hv
  unfold maxLen at hm
  have HML : Hid (∀ I, I ≤ ops.length → (doM m (ops.take I)).length ≤ 1000000000) := fun I hI => by
    have := len_do (ops.take I) m
    rw [List.length_take] at this
    omega
  clear hml
  have HRR : Hid (ops.all opR = true) := hR
  clear hR
  go_enter Tryz.func50, Tryz.ntmps50
  go_wp2_with fail
  go_loopw [8] (fun i wr => ∃ I : Nat, i = .int .i64 (I : Int) ∧ I ≤ ops.length ∧ MapP wr (Fr C w wr) Mb (doM m (ops.take I)) ∧ Chg (fun q => q = Mb) w wr) (fun i _ => ops.length - (intOf i).toNat)
  case atStart => exact ⟨0, rfl, Nat.zero_le _, hM.mono (fun _ h => .inl h), Chg.refl _ _⟩
  case round =>
    clear hM hMat
    obtain ⟨I, rfl, hI, hMr, hB⟩ := hrel
    by_cases hlt : I < ops.length
    · have i1 : (I : Int) < (ops.length : Int) := by omega
      have hg : ops[I]? = some ops[I] := List.getElem?_eq_getElem hlt
      obtain ⟨o, ho⟩ : ∃ o, ops[I] = o := ⟨_, rfl⟩
      rw [ho] at hg
      clear ho
      obtain ⟨ao', c', e0, -, hat⟩ := HV.out wr hB
      cases e0
      obtain ⟨b, off, rfl, hl, ka, kc, va, vc, d0, d1, d2, hks, hvs, hkm, hvm⟩ := hat I o hg
      have hor : opR o = true := List.all_eq_true.1 HRR.out o (List.mem_of_getElem? hg)
      obtain ⟨ok1, ok2, ok3, -⟩ := opR_facts hor
      have hFM : ∀ W, ¬ Fr C w W Mb := fun W e => by
        rcases e with e | e
        · exact hCM e
        · omega
      have HST : Hid (doM m (ops.take (I + 1)) = doOp (doM m (ops.take I)) o) := do_step m hg
      have HL : Hid ((doM m (ops.take I)).length ≤ 1000000000) := HML.out I hI
      obtain ⟨MM, hMM⟩ : ∃ MM, MM = doM m (ops.take I) := ⟨_, rfl⟩
      rw [← hMM] at hMr HST HL
      clear hMM hg hat hor
      have hix := index_ops b off ops.length c I hlt
      have hMrl := hMr.lt
      cases hdel : o.del with
      | true =>
        rw [hdel] at d1
        have HD : Hid (doOp MM o = delM o.key MM) := by show _ = _; unfold doOp; rw [hdel]; rfl
        clear hdel
        have hAl := (Below.refl wr.heap.size wr).alloc (Nat.le_refl _) (.cells #[.slice ka o.key.length kc, .bool true, .slice va o.val.length vc] 59)
        have k1 := seg_stringD (hks.below hAl (Nat.le_refl _)) 9 Tryz.underlying9
        have hMa := hMr.after hAl
        have hCa : Chg (fun q => q = Mb) w _ := hB.trans (Chg.of_below (S := fun _ => False) hAl (Nat.le_refl _)) (fun _ _ h => h.elim)
        obtain ⟨w2, hr2, hM2, hg2⟩ := hMa.drop (k := o.key) (by unfold maxLen; omega) (hFM wr) 0
        go_wp2_with fail
        have hC2 := hCa.trans (Chg.of_grown (S := fun q => q = Mb) hg2 (fun q e => (Option.some.inj e).symm)) (fun _ _ h => h)
        have hM2 : MapP w2 (Fr C w w2) Mb (delM o.key MM) := hM2.mono (fun q hq => hq.imp id (fun h => ⟨h.1, Nat.lt_of_lt_of_le h.2 (Nat.le_trans hAl.size hg2.size)⟩))
        go_roundw
        case rel => exact ⟨I + 1, by go_num, hlt, by rw [HST.out, HD.out]; exact hM2, hC2⟩
        case measure => simp [intOf]; omega
      | false =>
        rw [hdel] at d1
        have HD : Hid (doOp MM o = putM o.key o.val MM) := by show _ = _; unfold doOp; rw [hdel]; rfl
        clear hdel
        have hAl := (Below.refl wr.heap.size wr).alloc (Nat.le_refl _) (.cells #[.slice ka o.key.length kc, .bool false, .slice va o.val.length vc] 59)
        have hbk : Blk (wr.alloc (.cells #[.slice ka o.key.length kc, .bool false, .slice va o.val.length vc] 59)) wr.heap.size 59 _ := Blk.new wr 59 _
        go_wp2_with fail
        obtain ⟨w1, hw1⟩ : ∃ W, W = wr.alloc (.cells #[.slice ka o.key.length kc, .bool false, .slice va o.val.length vc] 59) := ⟨_, rfl⟩
        rw [← hw1] at hAl hbk ⊢
        clear hw1
        have hMa := hMr.after hAl
        have hMat1 := hMa.at
        have hks1 := hks.below hAl (Nat.le_refl _)
        have hvs1 := hvs.below hAl (Nat.le_refl _)
        have hC1 : Chg (fun q => q = Mb) w w1 := hB.trans (Chg.of_below (S := fun _ => False) hAl (Nat.le_refl _)) (fun _ _ h => h.elim)
        have HC : Hid (∀ V, Chg (fun q => q = Mb) w1 V → V.cell? ⟨wr.heap.size, 0, none⟩ = some (.slice ka o.key.length kc) ∧ V.cell? ⟨wr.heap.size, 2, none⟩ = some (.slice va o.val.length vc) ∧ Seg V (.slice ka o.key.length kc) o.key) := fun V hV =>
          ⟨(hbk.chg hV (by show ¬ wr.heap.size = Mb; omega)).cell (j := 0) rfl, (hbk.chg hV (by show ¬ wr.heap.size = Mb; omega)).cell (j := 2) rfl, hks1.chg hV (fun h0 q hq => seg_ne_map hMat1 hks1 h0 q hq)⟩
        have hS0 : Chg (fun q => q = Mb) w1 w1.drew := (Chg.refl _ _).drew
        have hvs1d : Seg w1.drew (.slice va o.val.length vc) o.val := hvs1.below (Below.refl _ _).drew (Nat.le_refl _)
        have HCL : Hid (Calls Tryz.prog 41 #[.slice va o.val.length vc] w1.drew fun e w' => ∃ v, e = .returned v ∧ Own w' w1.drew.heap.size v o.val ∧ Below w1.drew.heap.size w1.drew w') := bclone_any _ o.val w1.drew (by omega) hvs1d
        refine held_begin (fun V => Chg (fun q => q = Mb) w1 V) (by kernel_rfl) ?_
        refine held_take 0 18 _ (.map (some Mb)) rfl rfl (by kernel_rfl) (by kernel_rfl) (by kernel_rfl) rfl hS0 (fun _ _ => rfl) ?_
        simp only [Act.put, List.setIfInBounds_toArray, List.set_cons_succ, List.set_cons_zero]
        refine held_take 1 19 _ (.pointer (some ⟨wr.heap.size, 0, none⟩)) rfl rfl (by kernel_rfl) (by kernel_rfl) (by kernel_rfl) rfl hS0 (fun _ _ => rfl) ?_
        simp only [Act.put, List.setIfInBounds_toArray, List.set_cons_succ, List.set_cons_zero]
        refine held_take 2 20 _ (.slice ka o.key.length kc) rfl rfl (by kernel_rfl) (by kernel_rfl) (by kernel_rfl) rfl hS0 (fun V hV => exec_loadc 34 _ rfl _ _ rfl (load_one 34 (fun _ => by kernel_rfl) V _ _ _ (HC.out V hV).1)) ?_
        simp only [Act.put, List.setIfInBounds_toArray, List.set_cons_succ, List.set_cons_zero]
        refine held_take 3 21 _ (.string ⟨o.key.toArray⟩) rfl rfl (by kernel_rfl) (by kernel_rfl) (by kernel_rfl) rfl hS0 (fun V hV => exec_conv _ _ _ rfl _ _ rfl (seg_stringD (HC.out V hV).2.2 9 Tryz.underlying9)) ?_
        simp only [Act.put, List.setIfInBounds_toArray, List.set_cons_succ, List.set_cons_zero]
        refine held_take 4 22 _ (.pointer (some ⟨wr.heap.size, 2, none⟩)) rfl rfl (by kernel_rfl) (by kernel_rfl) (by kernel_rfl) rfl hS0 (fun _ _ => rfl) ?_
        simp only [Act.put, List.setIfInBounds_toArray, List.set_cons_succ, List.set_cons_zero]
        refine held_take 5 23 _ (.slice va o.val.length vc) rfl rfl (by kernel_rfl) (by kernel_rfl) (by kernel_rfl) rfl hS0 (fun V hV => exec_loadc 34 _ rfl _ _ rfl (load_one 34 (fun _ => by kernel_rfl) V _ _ _ (HC.out V hV).2.1)) ?_
        simp only [Act.put, List.setIfInBounds_toArray, List.set_cons_succ, List.set_cons_zero]
        refine held_all1 6 (by kernel_rfl) (op_call 6 24 _ 41 #[.slice va o.val.length vc] rfl rfl rfl (exec_one 41 _ _ rfl _ rfl Tryz.call41) (HCL.out.mono ?_))
        rintro e w2 ⟨v2, rfl, hO2, hb2d⟩
        have hb2 : Below w1.heap.size w1 w2 := (Below.refl w1.heap.size w1).drew.trans hb2d
        have hc2 : Chg (fun q => q = Mb) w1 w2 := Chg.of_below hb2 (Nat.le_refl _)
        have hM2 : MapP w2 (Fr C w w2) Mb MM := (hMa.after hb2).mono (fun q hq => hq.imp id (fun h => ⟨h.1, Nat.lt_of_lt_of_le h.2 (Nat.le_trans hAl.size hb2.size)⟩))
        have hs2 : SegC w2 (Fr C w w2) v2 o.val := ⟨hO2.seg, fun _ q hq => .inr ⟨Nat.le_trans hC1.size (hO2.blocks q hq).1, (hO2.blocks q hq).2⟩⟩
        obtain ⟨w3, hr3, hM3, hg3⟩ := hM2.store (k := o.key) (by unfold maxLen; omega) HL.out hs2 (hFM w2)
        have hc3 : Chg (fun q => q = Mb) w1 w3 := hc2.trans (Chg.of_grown (S := fun q => q = Mb) hg3 (fun q e => (Option.some.inj e).symm)) (fun _ _ h => h)
        have hM3 : MapP w3 (Fr C w w3) Mb (putM o.key o.val MM) := hM3.mono (fun q hq => hq.imp id (fun h => ⟨h.1, Nat.lt_of_lt_of_le h.2 hg3.size⟩))
        have hC3 : Chg (fun q => q = Mb) w w3 := hC1.trans hc3 (fun _ _ h => h)
        refine ⟨_, rfl, hc2, ?_⟩
        simp only [Act.put, List.setIfInBounds_toArray, List.set_cons_succ, List.set_cons_zero]
        refine held_all1 7 (by kernel_rfl) (op_skip 7 _ (w3) rfl rfl rfl (exec_mapup _ _ _ rfl _ _ _ rfl rfl rfl hr3) ⟨hc3, ?_⟩)
        refine wpAnyH_done (by kernel_rfl) ?_ _
        refine NoPanic.normal ?_
        go_wp2_with fail
        go_roundw
        case rel => exact ⟨I + 1, by go_num, hlt, by rw [HST.out, HD.out]; exact hM3, hC3⟩
        case measure => simp [intOf]; omega
    · have i1 : ¬ (I : Int) < (ops.length : Int) := by omega
      obtain rfl : I = ops.length := by omega
      rw [List.take_length] at hMr
      have HMR : Hid (MapP wr (Fr C w wr) Mb (doM m ops)) := hMr
      clear hMr
      go_wp2_with fail
      go_end0
      exact ⟨rfl, HMR.out, hB⟩
end Go.Proofs.YtfghfciigdkioaaGreatR
