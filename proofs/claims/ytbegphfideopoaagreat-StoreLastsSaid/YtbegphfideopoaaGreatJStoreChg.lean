/-
  What is proved here: the bytes of changes: the program's encodeChanges.
  Conditions: those that each fact names.
-/
import Derived.Test.YtbegphfideopoaaGreatJStoreFlds
import Derived.Test.YtbegphfideopoaaGreatJStoreBehind
import Derived.Test.YtbegphfideopoaaGreatJWalSeq
namespace Go.Proofs.YtbegphfideopoaaGreat
open Go.RowKit Go.Maps Go.Sort Go.Proofs

/-- The cells of an op's record. -/
def recC (d : Bool) (ka : Option Addr) (kn kc : Nat) (va : Option Addr) (vn vc : Nat) : Array Value := #[.int .u64 (if d then 1 else 0), .slice none 0 0, .slice none 0 0, .int .u64 0, .slice ka kn kc, .slice none 0 0, .int .u64 0, .slice va vn vc, .slice none 0 0]
/-- Records of ops that lie in w0, in a slice of the call's own. -/
structure Recs (w0 w : World) (base : Nat) (v : Value) (rvs : List Value) (ops : List OpB) : Prop where
  own : w.ownsRow base 114 1 v ops.length rvs
  rows : ∀ (i : Nat) rv o, rvs[i]? = some rv → ops[i]? = some o → ∃ q ka kc va vc, rv = .slice (some ⟨q, 0, none⟩) 3 3 ∧ Blk w q 113 (recC o.del ka o.key.length kc va o.val.length vc) ∧ Seg w0 (.slice ka o.key.length kc) o.key ∧ Seg w0 (.slice va o.val.length vc) o.val ∧ o.key.length ≤ maxLen ∧ o.val.length ≤ maxLen
theorem Recs.nil (w0 w : World) (base : Nat) : Recs w0 w base (.slice none 0 0) [] [] := ⟨⟨rfl, .inl ⟨rfl, rfl⟩⟩, fun i u r h => by simp at h⟩
theorem Recs.sl {w0 w : World} {base : Nat} {v : Value} {rvs : List Value} {ops : List OpB} (h : Recs w0 w base v rvs ops) : ∃ ao c, v = .slice ao ops.length c := by
  rcases h.own.2 with ⟨h1, h2⟩ | ⟨g, cap, cur, h1, _⟩
  · rw [h2]; exact ⟨_, _, h1⟩
  · exact ⟨_, _, h1⟩
theorem Recs.below {w0 w w' : World} {base : Nat} {v : Value} {rvs : List Value} {ops : List OpB} (h : Recs w0 w base v rvs ops) (hb : Below w.heap.size w w') : Recs w0 w' base v rvs ops :=
  ⟨ownsRow_chg h.own (Chg.of_below (S := fun _ => False) hb (Nat.le_refl _)) (fun _ _ h => h), fun i rv o h1 h2 => by
    obtain ⟨q, ka, kc, va, vc, e, hk, hr⟩ := h.rows i rv o h1 h2
    exact ⟨q, ka, kc, va, vc, e, hk.below hb hk.lt, hr⟩⟩
theorem blk_ne_row {w : World} {q base n size : Nat} {t e : TypeId} {arr : Array Value} {v : Value} {xs : List Value} (hk : Blk w q t arr) (h : w.ownsRow base e size v n xs) (ht : t ≠ e) : some q ≠ v.ownBlock := by
  rcases h.2 with ⟨rfl, _⟩ | ⟨g, cap, cur, rfl, _, hb, _⟩
  · intro e; cases e
  · intro e1
    obtain rfl : q = g := Option.some.inj e1
    exact Blk.ne hk (show Blk w q e cur from hb) ht rfl
theorem under_recs : Tryz.prog.underlying 111 = some (.slice 114) := by kernel_rfl
theorem info_vals : (Tryz.prog.info? 114).map (fun i => (i.zero, i.size, i.bytes)) = some (some (.slice none 0 0), 1, 24) := by kernel_rfl
/-- One more record. -/
theorem app_rec {w0 w : World} {base : Nat} {v : Value} {rvs : List Value} {ops : List OpB} (hown : Recs w0 w base v rvs ops) (g c q : Nat) (o : OpB) (ka va : Option Addr) (kc vc : Nat) (hc : w.cell? ⟨g, 0, none⟩ = some (.slice (some ⟨q, 0, none⟩) 3 3)) (hk : Blk w q 113 (recC o.del ka o.key.length kc va o.val.length vc))
    (hr : Seg w0 (.slice ka o.key.length kc) o.key ∧ Seg w0 (.slice va o.val.length vc) o.val ∧ o.key.length ≤ maxLen ∧ o.val.length ≤ maxLen) (hlen : ops.length ≤ 1000000) (hbase : base ≤ w.heap.size) :
    ∃ v' w', (∀ ty, (Builtin.append_ #[111, 111] ty #[v, .slice (some ⟨g, 0, none⟩) 1 c]).run Tryz.prog w = .ok v' w') ∧ Recs w0 w' base v' (rvs ++ [.slice (some ⟨q, 0, none⟩) 3 3]) (ops ++ [o]) ∧ w.grownBy w' v.ownBlock := by
  obtain ⟨i0, hi, hz0, hz1, hz2⟩ := info_parts info_vals
  obtain ⟨v', w', h0, h2, h3, _, _⟩ := run_append_own_at (P := Tryz.prog) w base 111 111 114 i0 (.slice none 0 0) 1 24 under_recs hi hz0 hz1 hz2 rfl (by decide) v ops.length rvs hown.own ⟨g, 0, none⟩ 1 c [.slice (some ⟨q, 0, none⟩) 3 3] rfl (fun j y hy => by
    match j, hy with
    | 0, hy => cases hy; exact hc
    | (j + 1), hy => cases hy) (fun y hy => by rw [show y = _ by simpa using hy]; rfl) (by unfold maxLen; omega) (by omega) hbase
  have keep : ∀ q' arr, Blk w q' 113 arr → Blk w' q' 113 arr := fun q' arr h => h.grown h3 (blk_ne_row h hown.own (by decide))
  refine ⟨v', w', fun ty => h0, ⟨by rw [List.length_append]; exact h2, fun i rv p h1 h2 => ?_⟩, h3⟩
  have hl : rvs.length = ops.length := by have := hown.own.1; omega
  rcases Nat.lt_or_ge i rvs.length with hi' | hi'
  · rw [List.getElem?_append_left hi'] at h1
    rw [List.getElem?_append_left (by omega)] at h2
    obtain ⟨q', ka, kc, va, vc, e, hk', hr'⟩ := hown.rows i rv p h1 h2
    exact ⟨q', ka, kc, va, vc, e, keep _ _ hk', hr'⟩
  · rw [List.getElem?_append_right hi'] at h1
    rw [List.getElem?_append_right (by omega), ← hl] at h2
    match hd : i - rvs.length, h1, h2 with
    | 0, h1, h2 =>
      cases h1; cases h2
      exact ⟨q, ka, kc, va, vc, rfl, keep _ _ hk, hr⟩
    | (j + 1), h1, h2 => simp at h1
theorem Recs.vals {w0 w : World} {base : Nat} {v : Value} {rvs : List Value} {ops : List OpB} (h : Recs w0 w base v rvs ops) (hb : Below w0.heap.size w0 w) {b : Nat} (hk : Blk w b 113 #[.int .u64 0, .slice none 0 0, v]) (hm : ops.length ≤ maxLen) : Vals w 2 (.slice (some ⟨b, 0, none⟩) 1 1) (chgVs ops) := by
  obtain ⟨ao, c, rfl⟩ := h.sl
  have hl : rvs.length = ops.length := by have := h.own.1; omega
  refine ⟨_, 1, rfl, (by show 1 ≤ maxLen; decide), fun _ => ⟨b, 0, rfl, hk.lt, Nat.le_refl 1, fun i x hx => ?_⟩⟩
  match i, hx with
  | (i + 1), hx => cases hx
  | 0, hx =>
    cases hx
    refine ⟨hk.cell rfl, ⟨_, hk.cell rfl, .inl ⟨rfl, none, 0, rfl, fun _ => rfl⟩, Nat.zero_le _⟩, ⟨ao, c, ?_, ?_, fun h0 => ?_⟩, by show 0 < _; decide⟩
    · show w.cell? _ = some (.slice ao (ops.map opVs).length c)
      rw [List.length_map]
      exact hk.cell rfl
    · show (ops.map opVs).length ≤ maxLen
      rw [List.length_map]
      exact hm
    · have h0' : 0 < ops.length := by simpa [Val.l] using h0
      rcases h.own.2 with ⟨_, e⟩ | ⟨g, cap, cur, e, _, hg, q1, q2, q3, q4⟩
      · omega
      · cases e
        refine ⟨g, 0, rfl, Blk.lt (show Blk w g 114 cur from hg), by show (ops.map opVs).length ≤ c; rw [List.length_map]; exact q1, fun k r hr => ?_⟩
        have hr' : (ops.map opVs)[k]? = some r := hr
        rw [List.getElem?_map] at hr'
        obtain ⟨o, ho, rfl⟩ := Option.map_eq_some_iff.1 hr'
        have hko : k < ops.length := (List.getElem?_eq_some_iff.1 ho).1
        have hkv : rvs[k]? = some (rvs[k]'(by omega)) := List.getElem?_eq_getElem (by omega)
        obtain ⟨q, ka, kc, va, vc, erv, hq, s1, s2, l1, l2⟩ := h.rows k _ o hkv ho
        refine ⟨.slice (some ⟨q, 0, none⟩) 3 3, ?_, ?_⟩
        · rw [Nat.zero_add]
          refine Blk.cell (show Blk w g 114 cur from hg) ?_
          have : (cur.toList.take (ops.length * 1))[k]? = some (rvs[k]'(by omega)) := by rw [q4]; exact hkv
          rw [List.getElem?_take_of_lt (by omega), erv] at this
          simpa using this
        · refine ⟨_, 3, rfl, (by show 3 ≤ maxLen; decide), fun _ => ⟨q, 0, rfl, hq.lt, Nat.le_refl 3, fun i x hx => ?_⟩⟩
          match i, hx with
          | 0, hx =>
            cases hx
            refine ⟨?_, ⟨_, hq.cell rfl, .inl ⟨rfl, none, 0, rfl, fun _ => rfl⟩, Nat.zero_le _⟩, ⟨none, 0, hq.cell rfl, Nat.zero_le _, fun h => by cases h⟩, ?_⟩
            · rw [hq.cell (j := 0) rfl]
              cases o.del <;> rfl
            · show (if o.del then 1 else 0) < _
              cases o.del <;> decide
          | 1, hx =>
            cases hx
            exact ⟨hq.cell rfl, ⟨_, hq.cell rfl, s1.below hb (Nat.le_refl _), l1⟩, ⟨none, 0, hq.cell rfl, Nat.zero_le _, fun h => by cases h⟩, by show 0 < _; decide⟩
          | 2, hx =>
            cases hx
            exact ⟨hq.cell rfl, ⟨_, hq.cell rfl, s2.below hb (Nat.le_refl _), l2⟩, ⟨none, 0, hq.cell rfl, Nat.zero_le _, fun h => by cases h⟩, by show 0 < _; decide⟩
          | (i + 3), hx => cases hx
theorem exec_valN {a : Act} {o : Oper} {w : World} (x : Operand) (ho : o.op = .build 113 #[(0, x)]) (z : Int) (hx : a.eval x = .int .u64 z) : (execOp a.eval o).run Tryz.prog w = .ok (.value (.agg #[.int .u64 z, .slice none 0 0, .slice none 0 0])) w := by
  generalize a.eval = ρ at *
  unfold execOp
  simp only [ho]
  simp [go_sem, hx]
theorem exec_valB {a : Act} {o : Oper} {w : World} (x : Operand) (ho : o.op = .build 113 #[(1, x)]) (ao : Option Addr) (n c : Nat) (hx : a.eval x = .slice ao n c) : (execOp a.eval o).run Tryz.prog w = .ok (.value (.agg #[.int .u64 0, .slice ao n c, .slice none 0 0])) w := by
  generalize a.eval = ρ at *
  unfold execOp
  simp only [ho]
  simp [go_sem, hx]
theorem exec_threeV {a : Act} {o : Oper} {w : World} (x y z : Operand) (ho : o.op = .buildSlice 114 3 #[(0, x), (1, y), (2, z)]) (x0 x1 x2 y0 y1 y2 z0 z1 z2 : Value) (hx : a.eval x = .agg #[x0, x1, x2]) (hy : a.eval y = .agg #[y0, y1, y2]) (hz : a.eval z = .agg #[z0, z1, z2]) : (execOp a.eval o).run Tryz.prog w = .ok (.value (.slice (some ⟨w.heap.size, 0, none⟩) 3 3)) (w.alloc (.cells #[x0, x1, x2, y0, y1, y2, z0, z1, z2] 113)) := by
  generalize a.eval = ρ at *
  unfold execOp
  simp only [ho]
  simp [go_sem, hx, hy, hz]
theorem exec_oneRec {a : Act} {o : Oper} {w : World} (x : Operand) (ho : o.op = .buildSlice 111 1 #[(0, x)]) (ao : Option Addr) (n c : Nat) (hx : a.eval x = .slice ao n c) : (execOp a.eval o).run Tryz.prog w = .ok (.value (.slice (some ⟨w.heap.size, 0, none⟩) 1 1)) (w.alloc (.cells #[.slice ao n c] 114)) := by
  generalize a.eval = ρ at *
  unfold execOp
  simp only [ho]
  simp [go_sem, hx]
set_option maxRecDepth 100000 in
theorem delNumber_any (ka va : Option Addr) (kn kc vn vc : Nat) (d : Bool) (w : World) :
    Calls Tryz.prog 64 #[opV ka kn kc d va vn vc] w fun e w' => e = .returned (.int .u64 (if d then 1 else 0)) ∧ Below w.heap.size w w' := by
  unfold opV
  have hb := fun x => (Below.refl w.heap.size w).alloc (Nat.le_refl _) x
  cases d with
  | true =>
    go_enter Tryz.func64, Tryz.ntmps64
    go_wp2
    go_ret
    exact ⟨rfl, hb _⟩
  | false =>
    go_enter Tryz.func64, Tryz.ntmps64
    go_wp2
    go_ret
    exact ⟨rfl, hb _⟩
/-- Rows of the call's own are answered. -/
def RowsOut (w : World) (rs : List (List UInt8)) (e : Ending) (w' : World) : Prop := ∃ rv vs, e = .returned rv ∧ Gat w' w.heap.size rv vs rs ∧ Below w.heap.size w w'
theorem Gat.mono {w : World} {base base' : Nat} {v : Value} {vs : List Value} {rs : List (List UInt8)} (h : Gat w base v vs rs) (hb : base' ≤ base) : Gat w base' v vs rs := by
  refine ⟨⟨h.own.1, ?_⟩, fun i u r h1 h2 => (h.rows i u r h1 h2).mono hb⟩
  rcases h.own.2 with h2 | ⟨g, cap, cur, h1, h2, h3⟩
  · exact .inl h2
  · exact .inr ⟨g, cap, cur, h1, Nat.le_trans hb h2, h3⟩
theorem take_snoc {α : Type} {l : List α} {I : Nat} {x : α} (h : l[I]? = some x) : l.take (I + 1) = l.take I ++ [x] := by
  rw [List.take_add_one, h]
  rfl
set_option maxRecDepth 100000 in
set_option maxHeartbeats 8000000 in
theorem encodeChanges_any (v : Value) (cs : List (List OpB)) (w : World) (hv : ChgsV w v cs) (hR : cs.all chgR = true) (hcl : cs.length ≤ 16) :
    Calls Tryz.prog 34 #[v] w fun e w' => RowsOut w (cs.map chgB) e w' := by
  have HV : Hid (∀ W, Below w.heap.size w W → ChgsV W v cs) := fun W hW => hv.below hW (Nat.le_refl _)
  have HV0 : Hid (ChgsV w v cs) := hv
  obtain ⟨ao, c, rfl, hm, -⟩ := hv
  have HRR : Hid (cs.all chgR = true) := hR
  clear hR hm
  go_enter Tryz.func34, Tryz.ntmps34
  go_wp2_with fail
  refine (changeFields_any w).mono ?_
  rintro e w1 ⟨fv, rfl, hF1, hb1⟩
  have HF : Hid (∀ W, Below w1.heap.size w1 W → Flds W 2 fv chgF) := fun W hW => Flds.keeps (Keeps.of_below hW (Nat.le_refl _)) 2 _ _ hF1
  obtain ⟨fa, fc, rfl, -, -⟩ := hF1.form
  clear hF1
  go_wp2_with fail
  go_loopw [4, 15] (fun rv i wr => ∃ (I : Nat) (vs : List Value), i = .int .i64 (I : Int) ∧ I ≤ cs.length ∧ Gat wr w1.heap.size rv vs ((cs.take I).map chgB) ∧ Below w1.heap.size w1 wr) (fun _ i _ => cs.length - (intOf i).toNat)
  case atStart => exact ⟨0, [], rfl, Nat.zero_le _, Gat.nil _ _, Below.refl _ _⟩
  case round =>
    obtain ⟨I, vs, rfl, hI, hG, hB⟩ := hrel
    have hBw : Below w.heap.size w wr := hb1.trans (hB.mono hb1.size)
    by_cases hlt : I < cs.length
    · have i1 : (I : Int) < (cs.length : Int) := by omega
      have hg : cs[I]? = some cs[I] := List.getElem?_eq_getElem hlt
      obtain ⟨ops, ho⟩ : ∃ o, cs[I] = o := ⟨_, rfl⟩
      rw [ho] at hg
      clear ho
      obtain ⟨ao', c', e0, -, hat⟩ := HV.out wr hBw
      cases e0
      obtain ⟨q, off, rfl, hl, u, d0, hu⟩ := hat I ops hg
      obtain ⟨ao0, c0', e00, -, hat0⟩ := HV0.out
      cases e00
      obtain ⟨q0, off0, e01, hl0, u0, d00, hu0⟩ := hat0 I ops hg
      cases e01
      have hcu : u = u0 := by
        have := (hBw.cell (p := ⟨q, off + I, none⟩) hl0).trans d00
        rw [d0] at this
        exact Option.some.inj this
      subst hcu
      have hor := chgR_facts (List.all_eq_true.1 HRR.out ops (List.mem_of_getElem? hg))
      have HU0 : Hid (OpsV w u ops) := hu0
      have HTS : Hid ((cs.take (I + 1)).map chgB = (cs.take I).map chgB ++ [chgB ops]) := by show _ = _; rw [take_snoc hg, List.map_append]; rfl
      have HEN : Hid (encTop chgF (chgVs ops) = some (chgB ops)) := chg_enc ops (fun o ho => by have := opR_facts (List.all_eq_true.1 hor.1 o ho); omega) hor.2.2
      obtain ⟨uo, uc, rfl, -, -⟩ := hu
      have hix := index_chgs q off cs.length c I hlt
      have hol := hor.2.2
      clear hat hat0 hg hor d00 hl0 hu0
      go_wp2_with fail
      obtain ⟨wo, rfl⟩ : ∃ wo : World, wo = wr := ⟨_, rfl⟩
      go_loopw [7, 21] (fun lv j wr => ∃ (J : Nat) (rvs : List Value), j = .int .i64 (J : Int) ∧ J ≤ ops.length ∧ Recs w wr wo.heap.size lv rvs (ops.take J) ∧ Below wo.heap.size wo wr) (fun _ j _ => ops.length - (intOf j).toNat)
      case atStart => exact ⟨0, [], rfl, Nat.zero_le _, Recs.nil _ _ _, Below.refl _ _⟩
      case round =>
        obtain ⟨J, rvs, rfl, hJ, hRc, hBi⟩ := hrel
        have hBwi : Below w.heap.size w wr := hBw.trans (hBi.mono hBw.size)
        by_cases hjl : J < ops.length
        · have i2 : (J : Int) < (ops.length : Int) := by omega
          have hgj : ops[J]? = some ops[J] := List.getElem?_eq_getElem hjl
          obtain ⟨o, hoj⟩ : ∃ o, ops[J] = o := ⟨_, rfl⟩
          rw [hoj] at hgj
          clear hoj
          obtain ⟨ao1, c1, e1, -, hat1⟩ := HU0.out
          cases e1
          obtain ⟨b, boff, rfl, hbl, ka, kc, va, vc, k0, k1, k2, hks, hvs, hkm, hvm⟩ := hat1 J o hgj
          have f0 : wr.cell? ⟨b, boff + J * 3, none⟩ = _ := (hBwi.cell (p := ⟨b, boff + J * 3, none⟩) hbl).trans k0
          have f1 : wr.cell? ⟨b, boff + J * 3 + 1, none⟩ = _ := (hBwi.cell (p := ⟨b, boff + J * 3 + 1, none⟩) hbl).trans k1
          have f2 : wr.cell? ⟨b, boff + J * 3 + 2, none⟩ = _ := (hBwi.cell (p := ⟨b, boff + J * 3 + 2, none⟩) hbl).trans k2
          have HTJ : Hid (ops.take (J + 1) = ops.take J ++ [o]) := take_snoc hgj
          have hjx := index_ops b boff ops.length uc J hjl
          have htl : (ops.take J).length ≤ 1000000 := by rw [List.length_take]; omega
          clear hat1 hgj k0 k1 k2
          have hAl := (Below.refl wr.heap.size wr).alloc (Nat.le_refl _) (.cells #[.slice ka o.key.length kc, .bool o.del, .slice va o.val.length vc] 59)
          have hbk : Blk (wr.alloc (.cells #[.slice ka o.key.length kc, .bool o.del, .slice va o.val.length vc] 59)) wr.heap.size 59 _ := Blk.new wr 59 _
          obtain ⟨la, lc, rfl⟩ := hRc.sl
          go_wp2_with fail
          obtain ⟨w2, hw2⟩ : ∃ W, W = wr.alloc (.cells #[.slice ka o.key.length kc, .bool o.del, .slice va o.val.length vc] 59) := ⟨_, rfl⟩
          rw [← hw2] at hAl hbk ⊢
          clear hw2
          have hR2 := hRc.below hAl
          have hB2 : Below wo.heap.size wo w2 := hBi.trans (hAl.mono hBi.size)
          have hbase2 : wo.heap.size ≤ w2.heap.size := hB2.size
          have hS0 : Blk w2.drew wr.heap.size 59 #[.slice ka o.key.length kc, .bool o.del, .slice va o.val.length vc] := hbk.drew
          have HDN : Hid (Calls Tryz.prog 64 #[.agg #[.slice ka o.key.length kc, .bool o.del, .slice va o.val.length vc]] w2.drew fun e w' => e = .returned (.int .u64 (if o.del then 1 else 0)) ∧ Below w2.drew.heap.size w2.drew w') := delNumber_any ka va o.key.length kc o.val.length vc o.del w2.drew
          have hiO : (Tryz.prog.info? 59).map (·.size) = some 3 := by kernel_rfl
          refine held_begin (fun V => Blk V wr.heap.size 59 #[.slice ka o.key.length kc, .bool o.del, .slice va o.val.length vc]) (by kernel_rfl) ?_
          refine held_take 0 25 _ (.slice la (ops.take J).length lc) rfl rfl (by kernel_rfl) (by kernel_rfl) (by kernel_rfl) rfl hS0 (fun _ _ => rfl) ?_
          simp only [Act.put, List.setIfInBounds_toArray, List.set_cons_succ, List.set_cons_zero]
          refine held_take 1 26 _ (.agg #[.slice ka o.key.length kc, .bool o.del, .slice va o.val.length vc]) rfl rfl (by kernel_rfl) (by kernel_rfl) (by kernel_rfl) rfl hS0 (fun V hV => exec_loadc 59 _ rfl _ _ rfl (run_loadAt_mid V _ 0 59 [.slice ka o.key.length kc, .bool o.del, .slice va o.val.length vc] _ (hV.range 0 _ (fun j v hv => by rw [Nat.zero_add, ← Array.getElem?_toList]; exact hv)) Tryz.underlying59 rfl hiO)) ?_
          simp only [Act.put, List.setIfInBounds_toArray, List.set_cons_succ, List.set_cons_zero]
          refine held_take 4 29 _ (.pointer (some ⟨wr.heap.size, 0, none⟩)) rfl rfl (by kernel_rfl) (by kernel_rfl) (by kernel_rfl) rfl hS0 (fun _ _ => rfl) ?_
          simp only [Act.put, List.setIfInBounds_toArray, List.set_cons_succ, List.set_cons_zero]
          refine held_take 5 30 _ (.slice ka o.key.length kc) rfl rfl (by kernel_rfl) (by kernel_rfl) (by kernel_rfl) rfl hS0 (fun V hV => exec_loadc 34 _ rfl _ _ rfl (load_one 34 (fun _ => by kernel_rfl) V _ _ _ (hV.cell (j := 0) rfl))) ?_
          simp only [Act.put, List.setIfInBounds_toArray, List.set_cons_succ, List.set_cons_zero]
          refine held_take 6 31 _ (.agg #[.int .u64 0, .slice ka o.key.length kc, .slice none 0 0]) rfl rfl (by kernel_rfl) (by kernel_rfl) (by kernel_rfl) rfl hS0 (fun V _ => exec_valB _ rfl _ _ _ rfl) ?_
          simp only [Act.put, List.setIfInBounds_toArray, List.set_cons_succ, List.set_cons_zero]
          refine held_take 7 32 _ (.pointer (some ⟨wr.heap.size, 2, none⟩)) rfl rfl (by kernel_rfl) (by kernel_rfl) (by kernel_rfl) rfl hS0 (fun _ _ => rfl) ?_
          simp only [Act.put, List.setIfInBounds_toArray, List.set_cons_succ, List.set_cons_zero]
          refine held_take 8 33 _ (.slice va o.val.length vc) rfl rfl (by kernel_rfl) (by kernel_rfl) (by kernel_rfl) rfl hS0 (fun V hV => exec_loadc 34 _ rfl _ _ rfl (load_one 34 (fun _ => by kernel_rfl) V _ _ _ (hV.cell (j := 2) rfl))) ?_
          simp only [Act.put, List.setIfInBounds_toArray, List.set_cons_succ, List.set_cons_zero]
          refine held_take 9 34 _ (.agg #[.int .u64 0, .slice va o.val.length vc, .slice none 0 0]) rfl rfl (by kernel_rfl) (by kernel_rfl) (by kernel_rfl) rfl hS0 (fun V _ => exec_valB _ rfl _ _ _ rfl) ?_
          simp only [Act.put, List.setIfInBounds_toArray, List.set_cons_succ, List.set_cons_zero]
          refine held_all1 2 (by kernel_rfl) (op_call 2 27 _ 64 #[.agg #[.slice ka o.key.length kc, .bool o.del, .slice va o.val.length vc]] rfl rfl rfl (exec_one 64 _ _ rfl _ rfl Tryz.call64) (HDN.out.mono ?_))
          rintro e w3 ⟨rfl, hb3⟩
          have hk3 := hS0.below hb3 hS0.lt
          have hb3' : Below w2.heap.size w2 w3 := (Below.refl w2.heap.size w2).drew.trans hb3
          have hR3 := hR2.below hb3'
          refine ⟨_, rfl, hk3, ?_⟩
          simp only [Act.put, List.setIfInBounds_toArray, List.set_cons_succ, List.set_cons_zero]
          refine held_all1 3 (by kernel_rfl) (op_value 3 28 _ (.agg #[.int .u64 (if o.del then 1 else 0), .slice none 0 0, .slice none 0 0]) _ rfl rfl rfl (exec_valN _ rfl _ rfl) ⟨hk3, ?_⟩)
          simp only [Act.put, List.setIfInBounds_toArray, List.set_cons_succ, List.set_cons_zero]
          have hb4 := (Below.refl w3.heap.size w3).alloc (Nat.le_refl _) (.cells (recC o.del ka o.key.length kc va o.val.length vc) 113)
          have hq4 := Blk.new w3 113 (recC o.del ka o.key.length kc va o.val.length vc)
          have hk4 := hk3.below hb4 hk3.lt
          have hR4 := hR3.below hb4
          refine held_all1 10 (by kernel_rfl) (op_value 10 35 _ (.slice (some ⟨w3.heap.size, 0, none⟩) 3 3) _ rfl rfl rfl (exec_threeV _ _ _ rfl _ _ _ _ _ _ _ _ _ rfl rfl rfl) ⟨hk4, ?_⟩)
          simp only [Act.put, List.setIfInBounds_toArray, List.set_cons_succ, List.set_cons_zero]
          obtain ⟨w4, hw4⟩ : ∃ W, W = w3.alloc (.cells (recC o.del ka o.key.length kc va o.val.length vc) 113) := ⟨_, rfl⟩
          rw [show w3.alloc (.cells #[.int .u64 (if o.del then 1 else 0), .slice none 0 0, .slice none 0 0, .int .u64 0, .slice ka o.key.length kc, .slice none 0 0, .int .u64 0, .slice va o.val.length vc, .slice none 0 0] 113) = w4 from hw4.symm]
          rw [← hw4] at hb4 hq4 hk4 hR4
          clear hw4
          have hb5 := (Below.refl w4.heap.size w4).alloc (Nat.le_refl _) (.cells #[.slice (some ⟨w3.heap.size, 0, none⟩) 3 3] 114)
          have hc5 := (Blk.new w4 114 #[.slice (some ⟨w3.heap.size, 0, none⟩) 3 3]).cell (j := 0) rfl
          have hk5 := hk4.below hb5 hk4.lt
          have hq5 := hq4.below hb5 hq4.lt
          have hR5 := hR4.below hb5
          refine held_all1 11 (by kernel_rfl) (op_value 11 36 _ (.slice (some ⟨w4.heap.size, 0, none⟩) 1 1) _ rfl rfl rfl (exec_oneRec _ rfl _ _ _ rfl) ⟨hk5, ?_⟩)
          simp only [Act.put, List.setIfInBounds_toArray, List.set_cons_succ, List.set_cons_zero]
          have hs5 : wo.heap.size ≤ (w4.alloc (.cells #[.slice (some ⟨w3.heap.size, 0, none⟩) 3 3] 114)).heap.size := Nat.le_trans hbase2 (Nat.le_trans hb3'.size (Nat.le_trans hb4.size hb5.size))
          obtain ⟨v6, w6, hr6, hR6, hg6⟩ := app_rec hR5 w4.heap.size 1 w3.heap.size o ka va kc vc hc5 hq5 ⟨hks, hvs, hkm, hvm⟩ htl hs5
          have hk6 := hk5.grown hg6 (blk_ne_row hk5 hR5.own (by decide))
          have hB6 : Below wo.heap.size wo w6 := below_grown (blift (blift (blift hB2 hb3' hB2.size) hb4 (Nat.le_trans hB2.size hb3'.size)) hb5 (Nat.le_trans hB2.size (Nat.le_trans hb3'.size hb4.size))) hg6 (Nat.le_trans hB2.size (Nat.le_trans hb3'.size (Nat.le_trans hb4.size hb5.size))) (fun k hk => (hR5.own.lt k hk).1)
          refine held_all1 12 (by kernel_rfl) (op_value 12 37 _ (v6) w6 rfl rfl rfl (exec_app _ _ _ _ rfl _ _ _ rfl rfl hr6) ⟨hk6, ?_⟩)
          simp only [Act.put, List.setIfInBounds_toArray, List.set_cons_succ, List.set_cons_zero]
          refine held_all1 13 (by kernel_rfl) (op_value 13 7 _ (v6) w6 rfl rfl rfl (rfl) ⟨hk6, ?_⟩)
          simp only [Act.put, List.setIfInBounds_toArray, List.set_cons_succ, List.set_cons_zero]
          refine wpAnyH_done (by kernel_rfl) ?_ _
          refine NoPanic.normal ?_
          go_wp2_with fail
          go_roundw
          case rel => exact ⟨J + 1, _, by go_num, hjl, by rw [HTJ.out]; exact hR6, hB6⟩
          case measure => simp [intOf]; omega
        · have i2 : ¬ (J : Int) < (ops.length : Int) := by omega
          obtain rfl : J = ops.length := by omega
          rw [List.take_length] at hRc
          obtain ⟨la, lc, rfl⟩ := hRc.sl
          have hb3 := (Below.refl wr.heap.size wr).alloc (Nat.le_refl _) (.cells #[.int .u64 0, .slice none 0 0, .slice la ops.length lc] 113)
          have hk3 := Blk.new wr 113 #[.int .u64 0, .slice none 0 0, .slice la ops.length lc]
          have hV3 := (hRc.below hb3).vals (blift hBwi hb3 hBwi.size) hk3 (by unfold maxLen; omega)
          have hB3 : Below w1.heap.size w1 _ := (hB.trans (hBi.mono hB.size)).trans (hb3.mono (Nat.le_trans hB.size hBi.size))
          have HE := encode_any 2 _ chgF 2 _ (chgVs ops) _ (HF.out _ hB3) hV3
          rw [HEN.out] at HE
          have HE : Hid (Calls Tryz.prog 59 #[.slice fa chgF.length fc, .slice (some ⟨wr.heap.size, 0, none⟩) 1 1] _ fun e w' => encodePost _ (some (chgB ops)) e w') := HE
          clear hV3 hk3 hRc
          go_wp2_with fail
          obtain ⟨w3, hw3⟩ : ∃ W, W = wr.alloc (.cells #[.int .u64 0, .slice none 0 0, .slice la ops.length lc] 113) := ⟨_, rfl⟩
          rw [← hw3] at HE hb3 hB3 ⊢
          clear hw3
          refine HE.out.mono ?_
          rintro e w4 ⟨⟨bv, rfl, hO4⟩, hb4⟩
          have hB4 := blift hB3 hb4 hB3.size
          have hG4 := hG.below (blift (blift hBi hb3 hBi.size) hb4 (Nat.le_trans hBi.size hb3.size)) (Nat.le_refl _)
          obtain ⟨ba, bc, rfl⟩ := hO4.seg.shapeD
          have hO4' := hO4.mono hB3.size
          have hb5 := (Below.refl w4.heap.size w4).alloc (Nat.le_refl _) (.cells #[.slice ba (chgB ops).length bc] 34)
          have hB5 := blift hB4 hb5 hB4.size
          have hil : ((cs.take I).map chgB).length ≤ 1000000 := by rw [List.length_map, List.length_take]; omega
          clear HE hG hBi hb3 hB3 hb4 hO4
          go_wp2_with (at_builtin; refine app_row _ rfl _ _ rfl w1.heap.size _ vs ((cs.take I).map chgB) rfl (by exact hG4.below hb5 (Nat.le_refl _)) w4.heap.size 1 _ (chgB ops) rfl (by exact (Blk.new w4 34 #[.slice ba (chgB ops).length bc]).cell (j := 0) rfl) (by exact hO4'.below hb5 (Nat.le_refl _)) hil (by exact hB5.size) ?_; intro v6 w6 hG6 hg6)
          have hB6 := below_grown hB5 hg6 hB5.size (fun q hq => (hG4.own.lt q hq).1)
          go_wp2_with fail
          go_roundw
          case rel => exact ⟨I + 1, _, by go_num, hlt, by rw [HTS.out]; exact hG6, hB6⟩
          case measure => simp [intOf]; omega
    · have i1 : ¬ (I : Int) < (cs.length : Int) := by omega
      obtain rfl : I = cs.length := by omega
      rw [List.take_length] at hG
      have HG : Hid (Gat wr w1.heap.size u4 vs (cs.map chgB)) := hG
      clear hG
      go_wp2_with fail
      go_ret
      show RowsOut w (cs.map chgB) _ wr
      exact ⟨_, vs, rfl, HG.out.mono hb1.size, hBw⟩
end Go.Proofs.YtbegphfideopoaaGreat
