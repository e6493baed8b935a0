/-
  What is proved here: manifest.values makes the values of a manifest.
  Conditions: the manifest's numbers may be.
-/
import Derived.Test.YtmkhdfapoaohfaaJManFlds
namespace Go.Proofs.Ytmkhdfapoaohfaa
open Go.RowKit

/-- A manifest's values. -/
def sumV (x : BitVec 32) : List Val := [.mk x.toNat [] []]
def manVs (m : MM) : List Val := [.mk m.v.toNat [] [], .mk m.s.toNat [] [], .mk m.c.toNat [] [], .mk 0 m.h [], .mk 0 [] (m.u.map sumV)]
abbrev nilS : Value := .slice none 0 0
abbrev valsA (a b c : Int) (h l : Value) : Array Value := #[.int .u64 a, nilS, nilS, .int .u64 b, nilS, nilS, .int .u64 c, nilS, nilS, .int .u64 0, h, nilS, .int .u64 0, nilS, l]
theorem mk_vals (w : World) : (Instr.makeSlice 42 (.int .i64 5) (.int .i64 5)).run Try.prog w = .ok (.slice (some ⟨w.heap.size, 0, none⟩) 5 5) (w.alloc (.cells (valsA 0 0 0 nilS nilS) 68)) := by kernel_rfl
theorem info_rowM : (Try.prog.info? 42).map (fun i => (i.zero, i.size, i.bytes)) = some (some (.slice none 0 0), 1, 24) := by kernel_rfl
/-- Rows of one number each, gathered. -/
structure Rws (w : World) (base : Nat) (lv : Value) (rs : List Value) (u : List (BitVec 32)) : Prop where
  own : w.ownsRow base 42 1 lv u.length rs
  len : rs.length = u.length
  rows : ∀ (i : Nat) (r : Value) (x : BitVec 32), rs[i]? = some r → u[i]? = some x → ∃ b, r = .slice (some ⟨b, 0, none⟩) 1 1 ∧ base ≤ b ∧ Blk w b 68 #[.int .u64 (n32 x), nilS, nilS]
theorem Rws.nil (w : World) (base : Nat) : Rws w base nilS [] [] := ⟨⟨rfl, .inl ⟨rfl, rfl⟩⟩, rfl, fun i r x h => by simp at h⟩
theorem Rws.blk {w : World} {base : Nat} {lv : Value} {rs : List Value} {u : List (BitVec 32)} (h : Rws w base lv rs u) (k : Nat) (hk : lv.ownBlock = some k) : ∃ cur, Blk w k 42 cur := by
  rcases h.own.2 with ⟨h1, _⟩ | ⟨g, cap, cur, h1, _, h3, _⟩
  · rw [h1] at hk; cases hk
  · rw [h1] at hk; cases hk; exact ⟨cur, h3⟩
theorem tv_ne : (68 : TypeId) ≠ 42 := by decide
/-- One row more. -/
theorem app_rowM (w : World) (base : Nat) (lv : Value) (rs : List Value) (u : List (BitVec 32)) (h : Rws w base lv rs u) (x : BitVec 32) (hlen : u.length ≤ 1000000) (hbase : base ≤ w.heap.size) :
    ∃ v' w', (∀ ty, (Builtin.append_ #[66, 66] ty #[lv, .slice (some ⟨w.heap.size + 1, 0, none⟩) 1 1]).run Try.prog ((w.alloc (.cells #[.int .u64 (n32 x), nilS, nilS] 68)).alloc (.cells #[.slice (some ⟨w.heap.size, 0, none⟩) 1 1] 42)) = .ok v' w') ∧ Rws w' base v' (rs ++ [.slice (some ⟨w.heap.size, 0, none⟩) 1 1]) (u ++ [x]) ∧ ((w.alloc (.cells #[.int .u64 (n32 x), nilS, nilS] 68)).alloc (.cells #[.slice (some ⟨w.heap.size, 0, none⟩) 1 1] 42)).grownBy w' lv.ownBlock ∧ ∃ ao c, v' = .slice ao (u.length + 1) c := by
  obtain ⟨W, hW⟩ : ∃ W, W = (w.alloc (.cells #[.int .u64 (n32 x), nilS, nilS] 68)).alloc (.cells #[.slice (some ⟨w.heap.size, 0, none⟩) 1 1] 42) := ⟨_, rfl⟩
  have hb : Below w.heap.size w W := by rw [hW]; exact ((Below.refl _ _).alloc (Nat.le_refl _) _).alloc (by simp) _
  have kx : Blk W w.heap.size 68 #[.int .u64 (n32 x), nilS, nilS] := by rw [hW]; exact (Blk.new _ _ _).alloc _
  have kr : Blk W (w.heap.size + 1) 42 #[.slice (some ⟨w.heap.size, 0, none⟩) 1 1] := by rw [hW]; exact Blk.newAt _ _ _ _ (by simp)
  have hown : W.ownsRow base 42 1 lv u.length rs := by rw [hW]; exact World.ownsRow.alloc (World.ownsRow.alloc h.own _) _
  have hsz : w.heap.size + 2 = W.heap.size := by rw [hW]; simp
  rw [← hW]
  obtain ⟨i0, hi, hz0, hz1, hz2⟩ := info_parts info_rowM
  obtain ⟨v', w', h0, h2, h3, _, _⟩ := run_append_own_at (P := Try.prog) W base 66 66 42 i0 (.slice none 0 0) 1 24 (by kernel_rfl) hi hz0 hz1 hz2 rfl (by decide) lv u.length rs hown ⟨w.heap.size + 1, 0, none⟩ 1 1 [.slice (some ⟨w.heap.size, 0, none⟩) 1 1] rfl (fun j y hy => by
    match j, hy with
    | 0, hy => cases hy; exact kr.cell (j := 0) rfl
    | (j + 1), hy => cases hy) (fun y hy => by rw [show y = .slice (some ⟨w.heap.size, 0, none⟩) 1 1 by simpa using hy]; rfl) (by unfold maxLen; omega) (by omega) (by omega)
  have hne : ∀ b arr, Blk W b 68 arr → some b ≠ lv.ownBlock := fun b arr hk e => by
    obtain ⟨cur, hc⟩ := h.blk b e.symm
    have hc' := hc.below hb hc.lt
    unfold Blk at hk hc'
    rw [hk] at hc'
    injection hc' with hc'
    injection hc' with _ ht
    exact tv_ne ht
  refine ⟨v', w', fun ty => h0, ⟨by rw [List.length_append]; exact h2, by simp [h.len], fun i r y hr hy => ?_⟩, h3, ?_⟩
  · rcases Nat.lt_or_ge i u.length with hi' | hi'
    · rw [List.getElem?_append_left (by rw [h.len]; exact hi')] at hr
      rw [List.getElem?_append_left hi'] at hy
      obtain ⟨b, e, hb1, hk⟩ := h.rows i r y hr hy
      have hkW := hk.below hb hk.lt
      exact ⟨b, e, hb1, hkW.grown h3 (hne b _ hkW)⟩
    · rw [List.getElem?_append_right (by rw [h.len]; exact hi'), h.len] at hr
      rw [List.getElem?_append_right hi'] at hy
      match hd : i - u.length, hr, hy with
      | 0, hr, hy =>
        simp at hr hy
        subst hr
        subst hy
        exact ⟨_, rfl, hbase, kx.grown h3 (hne _ _ kx)⟩
      | (n + 1), hr, hy => simp at hr
  · rcases h2.2 with ⟨h5, h6⟩ | ⟨g, cap, cur, h5, _⟩
    · simp at h6
    · exact ⟨_, cap, h5⟩
theorem conv_u64M (n : Nat) (h : n < 18446744073709551616) (w : World) : (convert 3 60 (.int .i64 (n : Int))).run Try.prog w = .ok (.int .u64 (n : Int)) w := by
  have hw : IntKind.u64.wrap (n : Int) = (n : Int) := by rw [IntKind.wrap_u64]; omega
  have h2 : (convert 3 60 (.int .i64 (n : Int))).run Try.prog w = .ok (.int .u64 (IntKind.u64.wrap (n : Int))) w := by kernel_rfl
  rw [h2, hw]
theorem conv_u32M (x : BitVec 32) (w : World) : (convert 74 60 (v32 x)).run Try.prog w = .ok (.int .u64 (n32 x)) w := by
  have hx := x.isLt
  have hw : IntKind.u64.wrap (n32 x) = n32 x := by rw [IntKind.wrap_u64]; unfold n32; omega
  have h2 : (convert 74 60 (v32 x)).run Try.prog w = .ok (.int .u64 (IntKind.u64.wrap (n32 x))) w := by kernel_rfl
  rw [h2, hw]
theorem app_ranM (w w' : World) {ops : Array Oper} {rest : List Oper} {o : Oper} {a : Act} {Q : Exit → Act → World → Prop} (hgd : o.guard = none) (s x : Operand) (t : TypeId) (ho : o.op = .call { callee := .builtin .append, args := #[s, x], argTypes := #[t, t] }) (vs vx v' : Value) (hs : a.eval s = vs) (hx : a.eval x = vx)
    (hr : ∀ ty, (Builtin.append_ #[t, t] ty #[vs, vx]).run Try.prog w = .ok v' w') (h : wpList Try.prog ops Q rest (a.put o.dst v') w') : wpList Try.prog ops Q (o :: rest) a w := by
  refine wpList_plain hgd fun K hK => ?_
  unfold Oper.wp execOp
  simp only [ho, resolve, invoke, builtin, Sem.run_bind, Sem.run_pure, Result.andThen_ok, List.map_toArray, List.map_cons, List.map_nil, hs, hx, hr]
  exact hK _ _ h
theorem Rws.shape {w : World} {base : Nat} {lv : Value} {rs : List Value} {u : List (BitVec 32)} (h : Rws w base lv rs u) : ∃ ao c, lv = .slice ao u.length c := by
  rcases h.own.2 with ⟨h1, h2⟩ | ⟨g, cap, cur, h1, _⟩
  · refine ⟨none, 0, ?_⟩
    rw [h1]
    congr 1
    omega
  · exact ⟨_, cap, h1⟩
theorem Rws.grown {w w' : World} {base : Nat} {lv : Value} {rs : List Value} {u : List (BitVec 32)} {g : Nat} (h : Rws w base lv rs u) (hg : w.grownBy w' (some g)) (hb : g < base) : Rws w' base lv rs u := by
  refine ⟨World.ownsRow.kept h.own hg ?_, h.len, fun i r x hr hx => ?_⟩
  · cases hk : lv.ownBlock with
    | none => exact .inl rfl
    | some k => exact .inr (fun e => by have := (World.ownsRow.lt h.own k hk).1; cases e; omega)
  · obtain ⟨b, e, hb1, hk⟩ := h.rows i r x hr hx
    exact ⟨b, e, hb1, hk.grown hg (fun e => by cases e; omega)⟩
theorem Rws.recs {w : World} {base : Nat} {lv : Value} {rs : List Value} {u : List (BitVec 32)} (h : Rws w base lv rs u) (hu : u.length ≤ 1000000) : ∃ ao c, lv = .slice ao (u.map sumV).length c ∧ (u.map sumV).length ≤ maxLen ∧ (0 < (u.map sumV).length → ∃ b off, ao = some ⟨b, off, none⟩ ∧ b < w.heap.size ∧ (u.map sumV).length ≤ c ∧ ∀ k r, (u.map sumV)[k]? = some r → ∃ rv, w.cell? ⟨b, off + k, none⟩ = some rv ∧ Vals w 1 rv r) := by
  obtain ⟨ao, c, hlv⟩ := h.shape
  refine ⟨ao, c, by rw [List.length_map]; exact hlv, by rw [List.length_map]; unfold maxLen; omega, fun h0 => ?_⟩
  rw [List.length_map] at h0 ⊢
  obtain ⟨g, cap, hv, hb, hl⟩ := World.ownsRow.form h.own h0
  rw [hlv] at hv
  cases hv
  have hcap : u.length ≤ c := by
    rcases h.own.2 with ⟨h1, _⟩ | ⟨g', cap', cur, h1, _, _, h4, _⟩
    · rw [hlv] at h1; cases h1
    · rw [hlv] at h1; cases h1; exact h4
  refine ⟨g, 0, rfl, hl, hcap, fun k r hr => ?_⟩
  rw [List.getElem?_map] at hr
  cases hx : u[k]? with
  | none => rw [hx] at hr; cases hr
  | some x =>
    rw [hx] at hr
    cases hr
    have hk : k < u.length := by
      rcases Nat.lt_or_ge k u.length with h | h
      · exact h
      · rw [List.getElem?_eq_none h] at hx; cases hx
    have hrs : k < rs.length := by rw [h.len]; exact hk
    obtain ⟨b, e, _, hk2⟩ := h.rows k rs[k] x (List.getElem?_eq_getElem hrs) hx
    have hc := World.ownsRow.cells h.own (g := g) (by rw [hlv]; rfl) k rs[k] (List.getElem?_eq_getElem hrs)
    rw [Addr.add_mid] at hc
    refine ⟨rs[k], hc, ?_⟩
    rw [e]
    refine ⟨_, 1, rfl, show (1 : Nat) ≤ maxLen by decide, fun _ => ⟨b, 0, rfl, hk2.lt, Nat.le_refl _, fun i y hy => ?_⟩⟩
    match i, hy with
    | 0, hy =>
      cases hy
      have hxl := x.isLt
      exact ⟨hk2.cell (j := 0) rfl, ⟨_, hk2.cell (j := 1) rfl, seg_nil _, Nat.zero_le _⟩, ⟨none, 0, hk2.cell (j := 2) rfl, Nat.zero_le _, fun h => by simp [Val.l] at h⟩, by show x.toNat < _; omega⟩
    | (i + 1), hy => cases hy
/-! One cell of a known block is stored. -/
theorem store_u64M {w : World} {ops : Array Oper} {rest : List Oper} {o : Oper} {a : Act} {Q : Exit → Act → World → Prop} (hgd : o.guard = none) (x y : Operand) (ho : o.op = .store 60 x y) (hd : o.dst = none) (g i : Nat) (z : Int) (hx : a.eval x = .pointer (some ⟨g, i, none⟩)) (hy : a.eval y = .int .u64 z) (t : TypeId) (old : Array Value) (hg : Blk w g t old) (hi : i < old.size)
    (hK : ∀ w', Blk w' g t (old.setIfInBounds i (.int .u64 z)) → w.grownBy w' (some g) → wpList Try.prog ops Q rest a w') : wpList Try.prog ops Q (o :: rest) a w := by
  have hc : w.cell? ⟨g, i, none⟩ = some old[i] := hg.cell (by simp [hi])
  have hf := hg.frozen i
  have hrun : (execOp a.eval o).run Try.prog w = .ok .skip (w.setCell ⟨g, i, none⟩ (.int .u64 z)) := by
    unfold execOp
    simp only [ho, hx, hy]
    simp [go_sem, hc, hf]
  refine wpList_plain hgd fun K hK' => ?_
  unfold Oper.wp
  rw [hrun, Oper.upon_skip, hd]
  exact hK' _ _ (hK _ (hg.set i _) (grown_setCellM w g i _))
theorem store_sliceM {w : World} {ops : Array Oper} {rest : List Oper} {o : Oper} {a : Act} {Q : Exit → Act → World → Prop} (hgd : o.guard = none) (x y : Operand) (ho : o.op = .store 26 x y) (hd : o.dst = none) (g i : Nat) (ao : Option Addr) (n c : Nat) (hx : a.eval x = .pointer (some ⟨g, i, none⟩)) (hy : a.eval y = .slice ao n c) (t : TypeId) (old : Array Value) (hg : Blk w g t old) (hi : i < old.size)
    (hK : ∀ w', Blk w' g t (old.setIfInBounds i (.slice ao n c)) → w.grownBy w' (some g) → wpList Try.prog ops Q rest a w') : wpList Try.prog ops Q (o :: rest) a w := by
  have hc : w.cell? ⟨g, i, none⟩ = some old[i] := hg.cell (by simp [hi])
  have hf := hg.frozen i
  have hrun : (execOp a.eval o).run Try.prog w = .ok .skip (w.setCell ⟨g, i, none⟩ (.slice ao n c)) := by
    unfold execOp
    simp only [ho, hx, hy]
    simp [go_sem, hc, hf]
  refine wpList_plain hgd fun K hK' => ?_
  unfold Oper.wp
  rw [hrun, Oper.upon_skip, hd]
  exact hK' _ _ (hK _ (hg.set i _) (grown_setCellM w g i _))
theorem store_recsM {w : World} {ops : Array Oper} {rest : List Oper} {o : Oper} {a : Act} {Q : Exit → Act → World → Prop} (hgd : o.guard = none) (x y : Operand) (ho : o.op = .store 66 x y) (hd : o.dst = none) (g i : Nat) (ao : Option Addr) (n c : Nat) (hx : a.eval x = .pointer (some ⟨g, i, none⟩)) (hy : a.eval y = .slice ao n c) (t : TypeId) (old : Array Value) (hg : Blk w g t old) (hi : i < old.size)
    (hK : ∀ w', Blk w' g t (old.setIfInBounds i (.slice ao n c)) → w.grownBy w' (some g) → wpList Try.prog ops Q rest a w') : wpList Try.prog ops Q (o :: rest) a w := by
  have hc : w.cell? ⟨g, i, none⟩ = some old[i] := hg.cell (by simp [hi])
  have hf := hg.frozen i
  have hrun : (execOp a.eval o).run Try.prog w = .ok .skip (w.setCell ⟨g, i, none⟩ (.slice ao n c)) := by
    unfold execOp
    simp only [ho, hx, hy]
    simp [go_sem, hc, hf]
  refine wpList_plain hgd fun K hK' => ?_
  unfold Oper.wp
  rw [hrun, Oper.upon_skip, hd]
  exact hK' _ _ (hK _ (hg.set i _) (grown_setCellM w g i _))
set_option maxRecDepth 100000 in
set_option maxHeartbeats 2000000 in
theorem values_any (m : MM) (su : Value) (w : World) (hh : m.h.length = 32) (hm : m.u.length ≤ 128) (hu : Wds w su m.u) (hn : numsOk m) :
    Calls Try.prog 53 #[manV m su] w fun e w' => ∃ v, e = .returned v ∧ Vals w' 2 v (manVs m) ∧ Below w.heap.size w w' := by
  obtain ⟨⟨v1, v2⟩, ⟨s1, s2⟩, ⟨d1, d2⟩, _⟩ := hn
  have hB0 : Below w.heap.size w ((w.alloc (.cells (manC m su) 25)).alloc (.cells (valsA 0 0 0 nilS nilS) 68)) := ((Below.refl _ _).alloc (Nat.le_refl _) _).alloc (by simp) _
  have kb := (Blk.new w 25 (manC m su)).alloc (.cells (valsA 0 0 0 nilS nilS) 68)
  have kv : Blk ((w.alloc (.cells (manC m su) 25)).alloc (.cells (valsA 0 0 0 nilS nilS) 68)) (w.heap.size + 1) 68 (valsA 0 0 0 nilS nilS) := Blk.newAt _ _ _ _ (by simp)
  have hmk := mk_vals
  have c0 := kb.cell (manC_0 m su)
  have c1 := kb.cell (manC_1 m su)
  have c2 := kb.cell (manC_2 m su)
  have c35 := kb.cell (manC_35 m su hh)
  have hu0 := hu.below hB0 (Nat.le_refl _)
  obtain ⟨vn, hvn⟩ : ∃ n : Nat, m.v = n := ⟨m.v.toNat, by omega⟩
  obtain ⟨sn, hsn⟩ : ∃ n : Nat, m.s = n := ⟨m.s.toNat, by omega⟩
  obtain ⟨cn, hcn⟩ : ∃ n : Nat, m.c = n := ⟨m.c.toNat, by omega⟩
  rw [hvn] at c0 v2
  rw [hsn] at c1 s2
  rw [hcn] at c2 d2
  have cv0 := conv_u64M vn (by omega)
  have cv1 := conv_u64M sn (by omega)
  have cv2 := conv_u64M cn (by omega)
  have HMV : Hid (manVs m = [.mk vn [] [], .mk sn [] [], .mk cn [] [], .mk 0 m.h [], .mk 0 [] (m.u.map sumV)]) := by
    show _ = _
    unfold manVs
    rw [hvn, hsn, hcn]
    rfl
  rw [HMV.out]
  have HRG : Hid (∀ V, Blk V w.heap.size 25 (manC m su) → Seg V (.slice (some ⟨w.heap.size, 3, none⟩) 32 32) m.h) := fun V hV => by
    refine Seg.of_row (fun j hj => ?_) hh (Nat.le_refl _) hV.lt
    rw [hV.cell (manC_hash m su j hj)]
  have HU : Hid (∀ V, Below w.heap.size w V → Wds V su m.u) := fun V hV => hu.below hV (Nat.le_refl _)
  obtain ⟨ao, c, rfl⟩ := hu.shape
  clear hu hu0 v1 s1 d1 HMV hvn hsn hcn
  unfold manV
  generalize manC m (.slice ao m.u.length c) = MC at *
  generalize m.u = U at *
  go_enter Try.func53, Try.ntmps53
  obtain ⟨Bm, hBm⟩ : ∃ Bm, Bm = w.heap.size := ⟨_, rfl⟩
  obtain ⟨g, hg⟩ : ∃ g, g = w.heap.size + 1 := ⟨_, rfl⟩
  have hneB : Bm ≠ g := by omega
  have hgw : w.heap.size ≤ g := by omega
  go_wp2_with (first | (refine store_u64M rfl _ _ rfl rfl (w.heap.size + 1) 0 (vn : Int) rfl rfl 68 _ (by exact kv) (by decide) ?_; intro W1 kv1 hg1; have kb1 := kb.grown hg1 (by simp); have c11 : W1.cell? ⟨w.heap.size, 1, none⟩ = some (.int .i64 (sn : Int)) := ((hg1.cell c1 (by simp)))) | (refine store_u64M rfl _ _ rfl rfl (w.heap.size + 1) 3 (sn : Int) rfl rfl 68 _ kv1 (by simp) ?_; intro W2 kv2 hg2; have kb2 := kb1.grown hg2 (by simp); have c12 : W1.cell? ⟨w.heap.size, 2, none⟩ = some (.int .i64 (cn : Int)) := (hg1.cell c2 (by simp)); have c22 : W2.cell? ⟨w.heap.size, 2, none⟩ = some (.int .i64 (cn : Int)) := (hg2.cell c12 (by simp))) | (refine store_u64M rfl _ _ rfl rfl (w.heap.size + 1) 6 (cn : Int) rfl rfl 68 _ kv2 (by simp) ?_; intro W3 kv3 hg3; have kb3 := kb2.grown hg3 (by simp)) | (refine store_sliceM rfl _ _ rfl rfl (w.heap.size + 1) 10 (some ⟨w.heap.size, 3, none⟩) 32 32 rfl rfl 68 _ kv3 (by simp) ?_; intro W4 kv4 hg4; have kb4 := kb3.grown hg4 (by simp); have c135 := hg1.cell c35 (by simp); have c235 := hg2.cell c135 (by simp); have c335 := hg3.cell c235 (by simp); have c435 := hg4.cell c335 (by simp)))
  have kv5 : Blk W4 (w.heap.size + 1) 68 (valsA vn sn cn (.slice (some ⟨w.heap.size, 3, none⟩) 32 32) nilS) := kv4.of_eq rfl
  have hB4 : Below w.heap.size w W4 := below_grown (below_grown (below_grown (below_grown hB0 hg1 hB0.size (fun q hq => by cases hq; omega)) hg2 (by have := hg1.size; have := hB0.size; omega) (fun q hq => by cases hq; omega)) hg3 (by have := hg1.size; have := hg2.size; have := hB0.size; omega) (fun q hq => by cases hq; omega)) hg4 (by have := hg1.size; have := hg2.size; have := hg3.size; have := hB0.size; omega) (fun q hq => by cases hq; omega)
  have HBm : Hid (Bm = w.heap.size) := hBm
  have HG : Hid (g = w.heap.size + 1) := hg
  rw [← hg, ← hBm] at kv5 ⊢
  rw [← hBm] at kb4 HRG
  have l4 : g < W4.heap.size := by rw [hg]; exact kv4.lt
  have lB4 : Bm < W4.heap.size := kb4.lt
  clear kv kv1 kv2 kv3 kv4 kb kb1 kb2 kb3 hg1 hg2 hg3 hg4 c0 c1 c2 c35 c11 c12 c22 c135 c235 c335 c435 cv0 cv1 cv2 hmk hB0 hBm hg
  go_loopw [33] (fun i wr => ∃ (k : Nat) (lv : Value) (rs : List Value), k ≤ U.length ∧ i = .int .i64 (k : Int) ∧ Blk wr g 68 (valsA vn sn cn (.slice (some ⟨Bm, 3, none⟩) 32 32) lv) ∧ Rws wr W4.heap.size lv rs (U.take k) ∧ Below w.heap.size w wr ∧ Blk wr Bm 25 MC ∧ W4.heap.size ≤ wr.heap.size) (fun i _ => U.length - (intOf i).toNat)
  case atStart => exact ⟨0, nilS, [], Nat.zero_le _, rfl, kv5, by simpa using Rws.nil _ _, hB4, kb4, Nat.le_refl _⟩
  case round =>
    clear kv5 hB4 kb4
    obtain ⟨k, lv, rs, hk, rfl, kv, hR, hB, kb, hsz⟩ := hrel
    by_cases hlt : k < U.length
    · obtain ⟨ao', c', e', hrw⟩ := HU.out wr hB
      cases e'
      obtain ⟨b, off, rfl, hcc, hrow, hbl⟩ := hrw (by omega)
      have cx := hrow k hlt
      have HTK : Hid (U.take (k + 1) = U.take k ++ [U[k]]) := List.take_succ_eq_append_getElem hlt
      have hul : (U.take k).length ≤ 1000000 := by simp; omega
      obtain ⟨y, hy⟩ : ∃ y, y = U[k] := ⟨_, rfl⟩
      rw [← hy] at cx HTK
      have cv := conv_u32M y
      have i1 : (k : Int) < (U.length : Int) := by omega
      obtain ⟨v2, w2, hr2, hR2, hg2, a2, c2, rfl⟩ := app_rowM wr W4.heap.size lv rs (U.take k) hR y hul hsz
      obtain ⟨al, cl, rfl⟩ := hR.shape
      have c14 : wr.cell? ⟨g, 14, none⟩ = some _ := kv.cell (j := 14) rfl
      have hb2 : Below wr.heap.size wr ((wr.alloc (.cells #[.int .u64 (n32 y), nilS, nilS] 68)).alloc (.cells #[.slice (some ⟨wr.heap.size, 0, none⟩) 1 1] 42)) := ((Below.refl _ _).alloc (Nat.le_refl _) _).alloc (by simp) _
      have hneo : ∀ q, q < W4.heap.size → some q ≠ (Value.slice al (U.take k).length cl).ownBlock := fun q hq e => by have := (World.ownsRow.lt hR.own q e.symm).1; omega
      have kv2 := (kv.below hb2 kv.lt).grown hg2 (hneo g l4)
      have kb2 := (kb.below hb2 kb.lt).grown hg2 (hneo Bm lB4)
      have hB2 : Below w.heap.size w w2 := below_grown (hB.trans (hb2.mono hB.size)) hg2 (Nat.le_trans hB.size hb2.size) (fun q hq => by have := (World.ownsRow.lt hR.own q hq).1; have := hB.size; omega)
      have hs2 : wr.heap.size ≤ w2.heap.size := Nat.le_trans hb2.size hg2.size
      clear hrow hy hneo hg2 hR
      generalize (U.take k).length = UL at *
      go_wp2_with (first | (at_builtin; refine app_ranM _ w2 rfl _ _ 66 rfl (.slice al UL cl) (.slice (some ⟨wr.heap.size + 1, 0, none⟩) 1 1) (.slice a2 (UL + 1) c2) rfl rfl (by exact hr2) ?_) | (refine store_recsM rfl _ _ rfl rfl g 14 a2 (UL + 1) c2 rfl rfl 68 _ kv2 (by simp) ?_; intro W3 kv3 hg3))
      go_roundw
      case rel => exact ⟨k + 1, _, _, hlt, by go_num, kv3.of_eq rfl, by rw [HTK.out]; exact hR2.grown hg3 l4, below_grown hB2 hg3 hB2.size (fun q hq => by cases hq; exact hgw), kb2.grown hg3 (by simpa using hneB), Nat.le_trans hsz (Nat.le_trans hs2 hg3.size)⟩
      case measure => simp [intOf]; omega
    · obtain rfl : k = U.length := by omega
      have i1 : ¬ (U.length : Int) < (U.length : Int) := by omega
      rw [List.take_of_length_le (Nat.le_refl _)] at hR
      have hrec := hR.recs (by omega)
      have hhs := HRG.out wr kb
      go_wp2
      go_ret
      refine ⟨_, rfl, ?_, hB⟩
      refine ⟨some ⟨g, 0, none⟩, 5, rfl, show (5 : Nat) ≤ maxLen by decide, fun _ => ⟨g, 0, rfl, kv.lt, Nat.le_refl 5, fun i x hx => ?_⟩⟩
      match i, hx with
      | 0, hx => cases hx; exact ⟨kv.cell (j := 0) rfl, ⟨_, kv.cell (j := 1) rfl, seg_nil _, Nat.zero_le _⟩, ⟨none, 0, kv.cell (j := 2) rfl, Nat.zero_le _, fun h => by simp [Val.l] at h⟩, by show vn < _; omega⟩
      | 1, hx => cases hx; exact ⟨kv.cell (j := 3) rfl, ⟨_, kv.cell (j := 4) rfl, seg_nil _, Nat.zero_le _⟩, ⟨none, 0, kv.cell (j := 5) rfl, Nat.zero_le _, fun h => by simp [Val.l] at h⟩, by show sn < _; omega⟩
      | 2, hx => cases hx; exact ⟨kv.cell (j := 6) rfl, ⟨_, kv.cell (j := 7) rfl, seg_nil _, Nat.zero_le _⟩, ⟨none, 0, kv.cell (j := 8) rfl, Nat.zero_le _, fun h => by simp [Val.l] at h⟩, by show cn < _; omega⟩
      | 3, hx => cases hx; exact ⟨kv.cell (j := 9) rfl, ⟨_, kv.cell (j := 10) rfl, hhs, by show m.h.length ≤ maxLen; rw [hh]; decide⟩, ⟨none, 0, kv.cell (j := 11) rfl, Nat.zero_le _, fun h => by simp [Val.l] at h⟩, by show 0 < _; omega⟩
      | 4, hx =>
        cases hx
        obtain ⟨a5, c5, e5, h5, h6⟩ := hrec
        exact ⟨kv.cell (j := 12) rfl, ⟨_, kv.cell (j := 13) rfl, seg_nil _, Nat.zero_le _⟩, ⟨a5, c5, (kv.cell (j := 14) rfl).trans (by rw [e5]; rfl), h5, h6⟩, by show 0 < _; omega⟩
      | (i + 5), hx => cases hx
end Go.Proofs.Ytmkhdfapoaohfaa
