/-
  What is proved here: whether pairs are the same.
  Conditions: the pairs lie in memory.
-/
import Derived.Test.YtbegphfideopoaaGreatJStorePairs
namespace Go.Proofs.YtbegphfideopoaaGreat
open Go.RowKit Go.Maps

theorem index_pairs (b len c : Nat) (I : Nat) (h : I < len) (w : World) : (Instr.indexAt 32 (.slice (some ⟨b, 0, none⟩) len c) (.int .i64 (I : Int))).run Tryz.prog w = .ok (.pointer (some ⟨b, I * 2, none⟩)) w := by
  have hi : (0 : Int) ≤ (I : Int) ∧ (I : Int) < (len : Int) := by omega
  simp [Instr.indexAt, asIntOf, run_underlying Tryz.underlying32, hi, Addr.add_mid]
  first | rfl | (intro h'; omega)
theorem PairsIn.at {w W : World} {v : Value} {l : PM} (h : PairsIn w v l) (hB : Below w.heap.size w W) {I : Nat} {p : List UInt8 × List UInt8} (hp : l[I]? = some p) : ∃ b c ka kc va vc, v = .slice (some ⟨b, 0, none⟩) l.length c ∧ W.cell? ⟨b, I * 2, none⟩ = some (.slice ka p.1.length kc) ∧ W.cell? ⟨b, I * 2 + 1, none⟩ = some (.slice va p.2.length vc) ∧ Seg W (.slice ka p.1.length kc) p.1 ∧ Seg W (.slice va p.2.length vc) p.2 := by
  obtain ⟨ao, c, rfl, h1⟩ := h.below hB
  obtain ⟨b, ka, kc, va, vc, e0, e1, e2, e3, e4, -⟩ := h1 I p hp
  rw [Nat.mul_comm] at e1 e2
  exact ⟨b, c, ka, kc, va, vc, by rw [e0], e1, e2, e3, e4⟩
theorem exec_neqs {a : Act} {o : Oper} {w : World} (x y : Operand) (ho : o.op = .binOp .neq 9 x y 9) (p q : List UInt8) (hx : a.eval x = .string ⟨p.toArray⟩) (hy : a.eval y = .string ⟨q.toArray⟩) (r : Bool) (h : (!decide (p = q)) = r) : (execOp a.eval o).run Tryz.prog w = .ok (.value (.bool r)) w := by
  refine exec_cmp .neq _ _ x y ho (.inl rfl) _ _ _ hx hy ?_ ?_
  · simp [eqGuard]
  · subst h
    by_cases e : p = q <;> simp [go_sem, e]
set_option maxRecDepth 100000 in
set_option maxHeartbeats 4000000 in
theorem same8_any (x y : Value) (l m : PM) (w : World) (ha : PairsIn w x l) (hb : PairsIn w y m) (hll : l.length ≤ 1000000000) :
    Calls Tryz.prog 19 #[x, y] w fun e w' => e = .returned (.bool (decide (l = m))) ∧ Below w.heap.size w w' := by
  have HA : Hid (PairsIn w x l) := ha
  have HB : Hid (PairsIn w y m) := hb
  obtain ⟨ax, cx, rfl, -⟩ := ha
  obtain ⟨ay, cy, rfl, -⟩ := hb
  by_cases hl : l.length = m.length
  case neg =>
    have j1 : ((l.length : Int) == (m.length : Int)) = false := by rw [beq_eq_false_iff_ne]; omega
    have HE : Hid (decide (l = m) = false) := by show _ = _; exact decide_eq_false (fun e => hl (by rw [e]))
    clear hl
    go_enter Tryz.func19, Tryz.ntmps19
    go_wp2
    go_ret
    rw [HE.out]
    exact ⟨rfl, Below.refl _ _⟩
  have j1 : ((l.length : Int) != (m.length : Int)) = false := by rw [hl]; exact bne_self_eq_false _
  have HL : Hid (l.length = m.length) := hl
  clear hl
  go_enter Tryz.func19, Tryz.ntmps19
  go_wp2_with fail
  clear j1
  go_loopw [5] (fun i wr => ∃ I : Nat, i = .int .i64 (I : Int) ∧ I ≤ l.length ∧ l.take I = m.take I ∧ Below w.heap.size w wr) (fun i _ => l.length - (intOf i).toNat)
  case atStart => exact ⟨0, rfl, Nat.zero_le _, rfl, Below.refl _ _⟩
  case round =>
    obtain ⟨I, rfl, hI, hT, hB⟩ := hrel
    by_cases hlt : I < l.length
    · have i1 : (I : Int) < (l.length : Int) := by omega
      have hl2 : I < m.length := by rw [← HL.out]; exact hlt
      have ga : l[I]? = some l[I] := List.getElem?_eq_getElem hlt
      have gb : m[I]? = some (m[I]'hl2) := List.getElem?_eq_getElem hl2
      obtain ⟨p, hra⟩ : ∃ r, l[I] = r := ⟨_, rfl⟩
      obtain ⟨q, hrb⟩ : ∃ r, m[I]'hl2 = r := ⟨_, rfl⟩
      rw [hra] at ga
      rw [hrb] at gb
      obtain ⟨b1, c1, k1a, k1c, v1a, v1c, e1, d1, d2, s1, s2⟩ := HA.out.at hB.drew ga
      obtain ⟨b2, c2, k2a, k2c, v2a, v2c, e2, d3, d4, s3, s4⟩ := HB.out.at hB.drew gb
      cases e1
      cases e2
      have x1 := index_pairs b1 l.length cx I hlt
      have x2 := index_pairs b2 m.length cy I hl2
      have k1 := seg_stringD s1 9 Tryz.underlying9
      have k2 := seg_stringD s2 9 Tryz.underlying9
      have k3 := seg_stringD s3 9 Tryz.underlying9
      have k4 := seg_stringD s4 9 Tryz.underlying9
      have hst : l.take (I + 1) = m.take (I + 1) ↔ p = q := by
        rw [List.take_add_one, List.take_add_one, ga, gb, hT]
        constructor
        · intro h; have := List.append_cancel_left h; simpa using this
        · intro h; rw [h]
      have HN : Hid (p ≠ q → l ≠ m) := fun h e => h (by rw [e] at ga; rw [ga] at gb; exact Option.some.inj gb)
      have hB := hB.drew
      clear ga gb hra hrb s1 s2 s3 s4 HA HB
      obtain ⟨pk, pv⟩ := p
      obtain ⟨qk, qv⟩ := q
      simp only at k1 k2 k3 k4 d1 d2 d3 d4
      by_cases hk : pk = qk
      · subst hk
        by_cases hv : pv = qv
        · subst hv
          have HT2 : Hid (l.take (I + 1) = m.take (I + 1)) := hst.2 rfl
          clear hst HN
          go_wp2_with fail
          refine held_begin (fun V => V = wr.drew) (by kernel_rfl) ?_
          refine held_take 0 17 _ (.slice (some ⟨b1, 0, none⟩) l.length cx) rfl rfl (by kernel_rfl) (by kernel_rfl) (by kernel_rfl) rfl rfl (fun _ _ => rfl) ?_
          simp only [Act.put, List.setIfInBounds_toArray, List.set_cons_succ, List.set_cons_zero]
          refine held_take 1 18 _ (.int .i64 (I : Int)) rfl rfl (by kernel_rfl) (by kernel_rfl) (by kernel_rfl) rfl rfl (fun _ _ => rfl) ?_
          simp only [Act.put, List.setIfInBounds_toArray, List.set_cons_succ, List.set_cons_zero]
          refine held_take 2 19 _ (.pointer (some ⟨b1, I * 2, none⟩)) rfl rfl (by kernel_rfl) (by kernel_rfl) (by kernel_rfl) rfl rfl (fun V _ => exec_indexat 32 _ _ rfl (.slice (some ⟨b1, 0, none⟩) l.length cx) (.int .i64 (I : Int)) _ rfl rfl (x1 V)) ?_
          simp only [Act.put, List.setIfInBounds_toArray, List.set_cons_succ, List.set_cons_zero]
          refine held_take 3 20 _ (.pointer (some ⟨b1, I * 2, none⟩)) rfl rfl (by kernel_rfl) (by kernel_rfl) (by kernel_rfl) rfl rfl (fun _ _ => rfl) ?_
          simp only [Act.put, List.setIfInBounds_toArray, List.set_cons_succ, List.set_cons_zero]
          refine held_take 4 21 _ (.slice k1a pk.length k1c) rfl rfl (by kernel_rfl) (by kernel_rfl) (by kernel_rfl) rfl rfl (fun V hV => exec_loadc 34 _ rfl _ _ rfl (load_one 34 (fun _ => rfl) V _ _ _ (by rw [hV]; exact d1))) ?_
          simp only [Act.put, List.setIfInBounds_toArray, List.set_cons_succ, List.set_cons_zero]
          refine held_take 5 22 _ (.string ⟨pk.toArray⟩) rfl rfl (by kernel_rfl) (by kernel_rfl) (by kernel_rfl) rfl rfl (fun V hV => exec_conv _ _ _ rfl _ _ rfl (by rw [hV]; exact k1)) ?_
          simp only [Act.put, List.setIfInBounds_toArray, List.set_cons_succ, List.set_cons_zero]
          refine held_take 6 23 _ (.slice (some ⟨b2, 0, none⟩) m.length cy) rfl rfl (by kernel_rfl) (by kernel_rfl) (by kernel_rfl) rfl rfl (fun _ _ => rfl) ?_
          simp only [Act.put, List.setIfInBounds_toArray, List.set_cons_succ, List.set_cons_zero]
          refine held_take 7 24 _ (.int .i64 (I : Int)) rfl rfl (by kernel_rfl) (by kernel_rfl) (by kernel_rfl) rfl rfl (fun _ _ => rfl) ?_
          simp only [Act.put, List.setIfInBounds_toArray, List.set_cons_succ, List.set_cons_zero]
          refine held_take 8 25 _ (.pointer (some ⟨b2, I * 2, none⟩)) rfl rfl (by kernel_rfl) (by kernel_rfl) (by kernel_rfl) rfl rfl (fun V _ => exec_indexat 32 _ _ rfl (.slice (some ⟨b2, 0, none⟩) m.length cy) (.int .i64 (I : Int)) _ rfl rfl (x2 V)) ?_
          simp only [Act.put, List.setIfInBounds_toArray, List.set_cons_succ, List.set_cons_zero]
          refine held_take 9 26 _ (.pointer (some ⟨b2, I * 2, none⟩)) rfl rfl (by kernel_rfl) (by kernel_rfl) (by kernel_rfl) rfl rfl (fun _ _ => rfl) ?_
          simp only [Act.put, List.setIfInBounds_toArray, List.set_cons_succ, List.set_cons_zero]
          refine held_take 10 27 _ (.slice k2a pk.length k2c) rfl rfl (by kernel_rfl) (by kernel_rfl) (by kernel_rfl) rfl rfl (fun V hV => exec_loadc 34 _ rfl _ _ rfl (load_one 34 (fun _ => rfl) V _ _ _ (by rw [hV]; exact d3))) ?_
          simp only [Act.put, List.setIfInBounds_toArray, List.set_cons_succ, List.set_cons_zero]
          refine held_take 11 28 _ (.string ⟨pk.toArray⟩) rfl rfl (by kernel_rfl) (by kernel_rfl) (by kernel_rfl) rfl rfl (fun V hV => exec_conv _ _ _ rfl _ _ rfl (by rw [hV]; exact k3)) ?_
          simp only [Act.put, List.setIfInBounds_toArray, List.set_cons_succ, List.set_cons_zero]
          refine held_take 12 29 _ (.bool false) rfl rfl (by kernel_rfl) (by kernel_rfl) (by kernel_rfl) rfl rfl (fun V _ => exec_neqs _ _ rfl pk pk rfl rfl _ (by simp)) ?_
          simp only [Act.put, List.setIfInBounds_toArray, List.set_cons_succ, List.set_cons_zero]
          refine held_take 13 30 _ (.bool false) rfl rfl (by kernel_rfl) (by kernel_rfl) (by kernel_rfl) rfl rfl (fun _ _ => rfl) ?_
          simp only [Act.put, List.setIfInBounds_toArray, List.set_cons_succ, List.set_cons_zero]
          refine held_take 14 31 _ (.slice (some ⟨b1, 0, none⟩) l.length cx) rfl rfl (by kernel_rfl) (by kernel_rfl) (by kernel_rfl) rfl rfl (fun _ _ => rfl) ?_
          simp only [Act.put, List.setIfInBounds_toArray, List.set_cons_succ, List.set_cons_zero]
          refine held_take 15 32 _ (.int .i64 (I : Int)) rfl rfl (by kernel_rfl) (by kernel_rfl) (by kernel_rfl) rfl rfl (fun _ _ => rfl) ?_
          simp only [Act.put, List.setIfInBounds_toArray, List.set_cons_succ, List.set_cons_zero]
          refine held_take 16 33 _ (.pointer (some ⟨b1, I * 2, none⟩)) rfl rfl (by kernel_rfl) (by kernel_rfl) (by kernel_rfl) rfl rfl (fun V _ => exec_indexat 32 _ _ rfl (.slice (some ⟨b1, 0, none⟩) l.length cx) (.int .i64 (I : Int)) _ rfl rfl (x1 V)) ?_
          simp only [Act.put, List.setIfInBounds_toArray, List.set_cons_succ, List.set_cons_zero]
          refine held_take 17 34 _ (.pointer (some ⟨b1, I * 2 + 1, none⟩)) rfl rfl (by kernel_rfl) (by kernel_rfl) (by kernel_rfl) rfl rfl (fun _ _ => rfl) ?_
          simp only [Act.put, List.setIfInBounds_toArray, List.set_cons_succ, List.set_cons_zero]
          refine held_take 18 35 _ (.slice v1a pv.length v1c) rfl rfl (by kernel_rfl) (by kernel_rfl) (by kernel_rfl) rfl rfl (fun V hV => exec_loadc 34 _ rfl _ _ rfl (load_one 34 (fun _ => rfl) V _ _ _ (by rw [hV]; exact d2))) ?_
          simp only [Act.put, List.setIfInBounds_toArray, List.set_cons_succ, List.set_cons_zero]
          refine held_take 19 36 _ (.string ⟨pv.toArray⟩) rfl rfl (by kernel_rfl) (by kernel_rfl) (by kernel_rfl) rfl rfl (fun V hV => exec_conv _ _ _ rfl _ _ rfl (by rw [hV]; exact k2)) ?_
          simp only [Act.put, List.setIfInBounds_toArray, List.set_cons_succ, List.set_cons_zero]
          refine held_take 20 37 _ (.slice (some ⟨b2, 0, none⟩) m.length cy) rfl rfl (by kernel_rfl) (by kernel_rfl) (by kernel_rfl) rfl rfl (fun _ _ => rfl) ?_
          simp only [Act.put, List.setIfInBounds_toArray, List.set_cons_succ, List.set_cons_zero]
          refine held_take 21 38 _ (.int .i64 (I : Int)) rfl rfl (by kernel_rfl) (by kernel_rfl) (by kernel_rfl) rfl rfl (fun _ _ => rfl) ?_
          simp only [Act.put, List.setIfInBounds_toArray, List.set_cons_succ, List.set_cons_zero]
          refine held_take 22 39 _ (.pointer (some ⟨b2, I * 2, none⟩)) rfl rfl (by kernel_rfl) (by kernel_rfl) (by kernel_rfl) rfl rfl (fun V _ => exec_indexat 32 _ _ rfl (.slice (some ⟨b2, 0, none⟩) m.length cy) (.int .i64 (I : Int)) _ rfl rfl (x2 V)) ?_
          simp only [Act.put, List.setIfInBounds_toArray, List.set_cons_succ, List.set_cons_zero]
          refine held_take 23 40 _ (.pointer (some ⟨b2, I * 2 + 1, none⟩)) rfl rfl (by kernel_rfl) (by kernel_rfl) (by kernel_rfl) rfl rfl (fun _ _ => rfl) ?_
          simp only [Act.put, List.setIfInBounds_toArray, List.set_cons_succ, List.set_cons_zero]
          refine held_take 24 41 _ (.slice v2a pv.length v2c) rfl rfl (by kernel_rfl) (by kernel_rfl) (by kernel_rfl) rfl rfl (fun V hV => exec_loadc 34 _ rfl _ _ rfl (load_one 34 (fun _ => rfl) V _ _ _ (by rw [hV]; exact d4))) ?_
          simp only [Act.put, List.setIfInBounds_toArray, List.set_cons_succ, List.set_cons_zero]
          refine held_take 25 42 _ (.string ⟨pv.toArray⟩) rfl rfl (by kernel_rfl) (by kernel_rfl) (by kernel_rfl) rfl rfl (fun V hV => exec_conv _ _ _ rfl _ _ rfl (by rw [hV]; exact k4)) ?_
          simp only [Act.put, List.setIfInBounds_toArray, List.set_cons_succ, List.set_cons_zero]
          refine held_take 26 43 _ (.bool false) rfl rfl (by kernel_rfl) (by kernel_rfl) (by kernel_rfl) rfl rfl (fun V _ => exec_neqs _ _ rfl pv pv rfl rfl _ (by simp)) ?_
          simp only [Act.put, List.setIfInBounds_toArray, List.set_cons_succ, List.set_cons_zero]
          refine held_take 27 44 _ (.bool false) rfl rfl (by kernel_rfl) (by kernel_rfl) (by kernel_rfl) rfl rfl (fun _ _ => rfl) ?_
          simp only [Act.put, List.setIfInBounds_toArray, List.set_cons_succ, List.set_cons_zero]
          refine wpAnyH_done (by kernel_rfl) ?_ _
          refine NoPanic.normal ?_
          go_wp2_with fail
          go_roundw
          case rel => exact ⟨I + 1, by go_num, hlt, HT2.out, hB⟩
          case measure => simp [intOf]; omega
        · have HF : Hid (decide (l = m) = false) := by show _ = _; exact decide_eq_false (HN.out (fun e => hv (congrArg Prod.snd e)))
          have hn2 : Hid ((!decide (pv = qv)) = true) := by simp [Hid, hv]
          clear hst HN hv
          go_wp2_with fail
          refine held_begin (fun V => V = wr.drew) (by kernel_rfl) ?_
          refine held_take 0 17 _ (.slice (some ⟨b1, 0, none⟩) l.length cx) rfl rfl (by kernel_rfl) (by kernel_rfl) (by kernel_rfl) rfl rfl (fun _ _ => rfl) ?_
          simp only [Act.put, List.setIfInBounds_toArray, List.set_cons_succ, List.set_cons_zero]
          refine held_take 1 18 _ (.int .i64 (I : Int)) rfl rfl (by kernel_rfl) (by kernel_rfl) (by kernel_rfl) rfl rfl (fun _ _ => rfl) ?_
          simp only [Act.put, List.setIfInBounds_toArray, List.set_cons_succ, List.set_cons_zero]
          refine held_take 2 19 _ (.pointer (some ⟨b1, I * 2, none⟩)) rfl rfl (by kernel_rfl) (by kernel_rfl) (by kernel_rfl) rfl rfl (fun V _ => exec_indexat 32 _ _ rfl (.slice (some ⟨b1, 0, none⟩) l.length cx) (.int .i64 (I : Int)) _ rfl rfl (x1 V)) ?_
          simp only [Act.put, List.setIfInBounds_toArray, List.set_cons_succ, List.set_cons_zero]
          refine held_take 3 20 _ (.pointer (some ⟨b1, I * 2, none⟩)) rfl rfl (by kernel_rfl) (by kernel_rfl) (by kernel_rfl) rfl rfl (fun _ _ => rfl) ?_
          simp only [Act.put, List.setIfInBounds_toArray, List.set_cons_succ, List.set_cons_zero]
          refine held_take 4 21 _ (.slice k1a pk.length k1c) rfl rfl (by kernel_rfl) (by kernel_rfl) (by kernel_rfl) rfl rfl (fun V hV => exec_loadc 34 _ rfl _ _ rfl (load_one 34 (fun _ => rfl) V _ _ _ (by rw [hV]; exact d1))) ?_
          simp only [Act.put, List.setIfInBounds_toArray, List.set_cons_succ, List.set_cons_zero]
          refine held_take 5 22 _ (.string ⟨pk.toArray⟩) rfl rfl (by kernel_rfl) (by kernel_rfl) (by kernel_rfl) rfl rfl (fun V hV => exec_conv _ _ _ rfl _ _ rfl (by rw [hV]; exact k1)) ?_
          simp only [Act.put, List.setIfInBounds_toArray, List.set_cons_succ, List.set_cons_zero]
          refine held_take 6 23 _ (.slice (some ⟨b2, 0, none⟩) m.length cy) rfl rfl (by kernel_rfl) (by kernel_rfl) (by kernel_rfl) rfl rfl (fun _ _ => rfl) ?_
          simp only [Act.put, List.setIfInBounds_toArray, List.set_cons_succ, List.set_cons_zero]
          refine held_take 7 24 _ (.int .i64 (I : Int)) rfl rfl (by kernel_rfl) (by kernel_rfl) (by kernel_rfl) rfl rfl (fun _ _ => rfl) ?_
          simp only [Act.put, List.setIfInBounds_toArray, List.set_cons_succ, List.set_cons_zero]
          refine held_take 8 25 _ (.pointer (some ⟨b2, I * 2, none⟩)) rfl rfl (by kernel_rfl) (by kernel_rfl) (by kernel_rfl) rfl rfl (fun V _ => exec_indexat 32 _ _ rfl (.slice (some ⟨b2, 0, none⟩) m.length cy) (.int .i64 (I : Int)) _ rfl rfl (x2 V)) ?_
          simp only [Act.put, List.setIfInBounds_toArray, List.set_cons_succ, List.set_cons_zero]
          refine held_take 9 26 _ (.pointer (some ⟨b2, I * 2, none⟩)) rfl rfl (by kernel_rfl) (by kernel_rfl) (by kernel_rfl) rfl rfl (fun _ _ => rfl) ?_
          simp only [Act.put, List.setIfInBounds_toArray, List.set_cons_succ, List.set_cons_zero]
          refine held_take 10 27 _ (.slice k2a pk.length k2c) rfl rfl (by kernel_rfl) (by kernel_rfl) (by kernel_rfl) rfl rfl (fun V hV => exec_loadc 34 _ rfl _ _ rfl (load_one 34 (fun _ => rfl) V _ _ _ (by rw [hV]; exact d3))) ?_
          simp only [Act.put, List.setIfInBounds_toArray, List.set_cons_succ, List.set_cons_zero]
          refine held_take 11 28 _ (.string ⟨pk.toArray⟩) rfl rfl (by kernel_rfl) (by kernel_rfl) (by kernel_rfl) rfl rfl (fun V hV => exec_conv _ _ _ rfl _ _ rfl (by rw [hV]; exact k3)) ?_
          simp only [Act.put, List.setIfInBounds_toArray, List.set_cons_succ, List.set_cons_zero]
          refine held_take 12 29 _ (.bool false) rfl rfl (by kernel_rfl) (by kernel_rfl) (by kernel_rfl) rfl rfl (fun V _ => exec_neqs _ _ rfl pk pk rfl rfl _ (by simp)) ?_
          simp only [Act.put, List.setIfInBounds_toArray, List.set_cons_succ, List.set_cons_zero]
          refine held_take 13 30 _ (.bool false) rfl rfl (by kernel_rfl) (by kernel_rfl) (by kernel_rfl) rfl rfl (fun _ _ => rfl) ?_
          simp only [Act.put, List.setIfInBounds_toArray, List.set_cons_succ, List.set_cons_zero]
          refine held_take 14 31 _ (.slice (some ⟨b1, 0, none⟩) l.length cx) rfl rfl (by kernel_rfl) (by kernel_rfl) (by kernel_rfl) rfl rfl (fun _ _ => rfl) ?_
          simp only [Act.put, List.setIfInBounds_toArray, List.set_cons_succ, List.set_cons_zero]
          refine held_take 15 32 _ (.int .i64 (I : Int)) rfl rfl (by kernel_rfl) (by kernel_rfl) (by kernel_rfl) rfl rfl (fun _ _ => rfl) ?_
          simp only [Act.put, List.setIfInBounds_toArray, List.set_cons_succ, List.set_cons_zero]
          refine held_take 16 33 _ (.pointer (some ⟨b1, I * 2, none⟩)) rfl rfl (by kernel_rfl) (by kernel_rfl) (by kernel_rfl) rfl rfl (fun V _ => exec_indexat 32 _ _ rfl (.slice (some ⟨b1, 0, none⟩) l.length cx) (.int .i64 (I : Int)) _ rfl rfl (x1 V)) ?_
          simp only [Act.put, List.setIfInBounds_toArray, List.set_cons_succ, List.set_cons_zero]
          refine held_take 17 34 _ (.pointer (some ⟨b1, I * 2 + 1, none⟩)) rfl rfl (by kernel_rfl) (by kernel_rfl) (by kernel_rfl) rfl rfl (fun _ _ => rfl) ?_
          simp only [Act.put, List.setIfInBounds_toArray, List.set_cons_succ, List.set_cons_zero]
          refine held_take 18 35 _ (.slice v1a pv.length v1c) rfl rfl (by kernel_rfl) (by kernel_rfl) (by kernel_rfl) rfl rfl (fun V hV => exec_loadc 34 _ rfl _ _ rfl (load_one 34 (fun _ => rfl) V _ _ _ (by rw [hV]; exact d2))) ?_
          simp only [Act.put, List.setIfInBounds_toArray, List.set_cons_succ, List.set_cons_zero]
          refine held_take 19 36 _ (.string ⟨pv.toArray⟩) rfl rfl (by kernel_rfl) (by kernel_rfl) (by kernel_rfl) rfl rfl (fun V hV => exec_conv _ _ _ rfl _ _ rfl (by rw [hV]; exact k2)) ?_
          simp only [Act.put, List.setIfInBounds_toArray, List.set_cons_succ, List.set_cons_zero]
          refine held_take 20 37 _ (.slice (some ⟨b2, 0, none⟩) m.length cy) rfl rfl (by kernel_rfl) (by kernel_rfl) (by kernel_rfl) rfl rfl (fun _ _ => rfl) ?_
          simp only [Act.put, List.setIfInBounds_toArray, List.set_cons_succ, List.set_cons_zero]
          refine held_take 21 38 _ (.int .i64 (I : Int)) rfl rfl (by kernel_rfl) (by kernel_rfl) (by kernel_rfl) rfl rfl (fun _ _ => rfl) ?_
          simp only [Act.put, List.setIfInBounds_toArray, List.set_cons_succ, List.set_cons_zero]
          refine held_take 22 39 _ (.pointer (some ⟨b2, I * 2, none⟩)) rfl rfl (by kernel_rfl) (by kernel_rfl) (by kernel_rfl) rfl rfl (fun V _ => exec_indexat 32 _ _ rfl (.slice (some ⟨b2, 0, none⟩) m.length cy) (.int .i64 (I : Int)) _ rfl rfl (x2 V)) ?_
          simp only [Act.put, List.setIfInBounds_toArray, List.set_cons_succ, List.set_cons_zero]
          refine held_take 23 40 _ (.pointer (some ⟨b2, I * 2 + 1, none⟩)) rfl rfl (by kernel_rfl) (by kernel_rfl) (by kernel_rfl) rfl rfl (fun _ _ => rfl) ?_
          simp only [Act.put, List.setIfInBounds_toArray, List.set_cons_succ, List.set_cons_zero]
          refine held_take 24 41 _ (.slice v2a qv.length v2c) rfl rfl (by kernel_rfl) (by kernel_rfl) (by kernel_rfl) rfl rfl (fun V hV => exec_loadc 34 _ rfl _ _ rfl (load_one 34 (fun _ => rfl) V _ _ _ (by rw [hV]; exact d4))) ?_
          simp only [Act.put, List.setIfInBounds_toArray, List.set_cons_succ, List.set_cons_zero]
          refine held_take 25 42 _ (.string ⟨qv.toArray⟩) rfl rfl (by kernel_rfl) (by kernel_rfl) (by kernel_rfl) rfl rfl (fun V hV => exec_conv _ _ _ rfl _ _ rfl (by rw [hV]; exact k4)) ?_
          simp only [Act.put, List.setIfInBounds_toArray, List.set_cons_succ, List.set_cons_zero]
          refine held_take 26 43 _ (.bool true) rfl rfl (by kernel_rfl) (by kernel_rfl) (by kernel_rfl) rfl rfl (fun V _ => exec_neqs _ _ rfl pv qv rfl rfl _ hn2.out) ?_
          simp only [Act.put, List.setIfInBounds_toArray, List.set_cons_succ, List.set_cons_zero]
          refine held_take 27 44 _ (.bool true) rfl rfl (by kernel_rfl) (by kernel_rfl) (by kernel_rfl) rfl rfl (fun _ _ => rfl) ?_
          simp only [Act.put, List.setIfInBounds_toArray, List.set_cons_succ, List.set_cons_zero]
          refine wpAnyH_done (by kernel_rfl) ?_ _
          refine NoPanic.normal ?_
          go_wp2_with fail
          go_ret
          rw [HF.out]
          exact ⟨rfl, hB⟩
      · have HF : Hid (decide (l = m) = false) := by show _ = _; exact decide_eq_false (HN.out (fun e => hk (congrArg Prod.fst e)))
        have hn1 : Hid ((!decide (pk = qk)) = true) := by simp [Hid, hk]
        clear hst HN hk
        go_wp2_with fail
        refine held_begin (fun V => V = wr.drew) (by kernel_rfl) ?_
        refine held_take 0 17 _ (.slice (some ⟨b1, 0, none⟩) l.length cx) rfl rfl (by kernel_rfl) (by kernel_rfl) (by kernel_rfl) rfl rfl (fun _ _ => rfl) ?_
        simp only [Act.put, List.setIfInBounds_toArray, List.set_cons_succ, List.set_cons_zero]
        refine held_take 1 18 _ (.int .i64 (I : Int)) rfl rfl (by kernel_rfl) (by kernel_rfl) (by kernel_rfl) rfl rfl (fun _ _ => rfl) ?_
        simp only [Act.put, List.setIfInBounds_toArray, List.set_cons_succ, List.set_cons_zero]
        refine held_take 2 19 _ (.pointer (some ⟨b1, I * 2, none⟩)) rfl rfl (by kernel_rfl) (by kernel_rfl) (by kernel_rfl) rfl rfl (fun V _ => exec_indexat 32 _ _ rfl (.slice (some ⟨b1, 0, none⟩) l.length cx) (.int .i64 (I : Int)) _ rfl rfl (x1 V)) ?_
        simp only [Act.put, List.setIfInBounds_toArray, List.set_cons_succ, List.set_cons_zero]
        refine held_take 3 20 _ (.pointer (some ⟨b1, I * 2, none⟩)) rfl rfl (by kernel_rfl) (by kernel_rfl) (by kernel_rfl) rfl rfl (fun _ _ => rfl) ?_
        simp only [Act.put, List.setIfInBounds_toArray, List.set_cons_succ, List.set_cons_zero]
        refine held_take 4 21 _ (.slice k1a pk.length k1c) rfl rfl (by kernel_rfl) (by kernel_rfl) (by kernel_rfl) rfl rfl (fun V hV => exec_loadc 34 _ rfl _ _ rfl (load_one 34 (fun _ => rfl) V _ _ _ (by rw [hV]; exact d1))) ?_
        simp only [Act.put, List.setIfInBounds_toArray, List.set_cons_succ, List.set_cons_zero]
        refine held_take 5 22 _ (.string ⟨pk.toArray⟩) rfl rfl (by kernel_rfl) (by kernel_rfl) (by kernel_rfl) rfl rfl (fun V hV => exec_conv _ _ _ rfl _ _ rfl (by rw [hV]; exact k1)) ?_
        simp only [Act.put, List.setIfInBounds_toArray, List.set_cons_succ, List.set_cons_zero]
        refine held_take 6 23 _ (.slice (some ⟨b2, 0, none⟩) m.length cy) rfl rfl (by kernel_rfl) (by kernel_rfl) (by kernel_rfl) rfl rfl (fun _ _ => rfl) ?_
        simp only [Act.put, List.setIfInBounds_toArray, List.set_cons_succ, List.set_cons_zero]
        refine held_take 7 24 _ (.int .i64 (I : Int)) rfl rfl (by kernel_rfl) (by kernel_rfl) (by kernel_rfl) rfl rfl (fun _ _ => rfl) ?_
        simp only [Act.put, List.setIfInBounds_toArray, List.set_cons_succ, List.set_cons_zero]
        refine held_take 8 25 _ (.pointer (some ⟨b2, I * 2, none⟩)) rfl rfl (by kernel_rfl) (by kernel_rfl) (by kernel_rfl) rfl rfl (fun V _ => exec_indexat 32 _ _ rfl (.slice (some ⟨b2, 0, none⟩) m.length cy) (.int .i64 (I : Int)) _ rfl rfl (x2 V)) ?_
        simp only [Act.put, List.setIfInBounds_toArray, List.set_cons_succ, List.set_cons_zero]
        refine held_take 9 26 _ (.pointer (some ⟨b2, I * 2, none⟩)) rfl rfl (by kernel_rfl) (by kernel_rfl) (by kernel_rfl) rfl rfl (fun _ _ => rfl) ?_
        simp only [Act.put, List.setIfInBounds_toArray, List.set_cons_succ, List.set_cons_zero]
        refine held_take 10 27 _ (.slice k2a qk.length k2c) rfl rfl (by kernel_rfl) (by kernel_rfl) (by kernel_rfl) rfl rfl (fun V hV => exec_loadc 34 _ rfl _ _ rfl (load_one 34 (fun _ => rfl) V _ _ _ (by rw [hV]; exact d3))) ?_
        simp only [Act.put, List.setIfInBounds_toArray, List.set_cons_succ, List.set_cons_zero]
        refine held_take 11 28 _ (.string ⟨qk.toArray⟩) rfl rfl (by kernel_rfl) (by kernel_rfl) (by kernel_rfl) rfl rfl (fun V hV => exec_conv _ _ _ rfl _ _ rfl (by rw [hV]; exact k3)) ?_
        simp only [Act.put, List.setIfInBounds_toArray, List.set_cons_succ, List.set_cons_zero]
        refine held_take 12 29 _ (.bool true) rfl rfl (by kernel_rfl) (by kernel_rfl) (by kernel_rfl) rfl rfl (fun V _ => exec_neqs _ _ rfl pk qk rfl rfl _ hn1.out) ?_
        simp only [Act.put, List.setIfInBounds_toArray, List.set_cons_succ, List.set_cons_zero]
        refine held_take 13 30 _ (.bool true) rfl rfl (by kernel_rfl) (by kernel_rfl) (by kernel_rfl) rfl rfl (fun _ _ => rfl) ?_
        simp only [Act.put, List.setIfInBounds_toArray, List.set_cons_succ, List.set_cons_zero]
        refine held_pass 14 31 _ rfl rfl (by kernel_rfl) (by kernel_rfl) (by kernel_rfl) rfl rfl ?_
        simp only [Act.put, List.setIfInBounds_toArray, List.set_cons_succ, List.set_cons_zero]
        refine held_pass 15 32 _ rfl rfl (by kernel_rfl) (by kernel_rfl) (by kernel_rfl) rfl rfl ?_
        simp only [Act.put, List.setIfInBounds_toArray, List.set_cons_succ, List.set_cons_zero]
        refine held_pass 16 33 _ rfl rfl (by kernel_rfl) (by kernel_rfl) (by kernel_rfl) rfl rfl ?_
        simp only [Act.put, List.setIfInBounds_toArray, List.set_cons_succ, List.set_cons_zero]
        refine held_pass 17 34 _ rfl rfl (by kernel_rfl) (by kernel_rfl) (by kernel_rfl) rfl rfl ?_
        simp only [Act.put, List.setIfInBounds_toArray, List.set_cons_succ, List.set_cons_zero]
        refine held_pass 18 35 _ rfl rfl (by kernel_rfl) (by kernel_rfl) (by kernel_rfl) rfl rfl ?_
        simp only [Act.put, List.setIfInBounds_toArray, List.set_cons_succ, List.set_cons_zero]
        refine held_pass 19 36 _ rfl rfl (by kernel_rfl) (by kernel_rfl) (by kernel_rfl) rfl rfl ?_
        simp only [Act.put, List.setIfInBounds_toArray, List.set_cons_succ, List.set_cons_zero]
        refine held_pass 20 37 _ rfl rfl (by kernel_rfl) (by kernel_rfl) (by kernel_rfl) rfl rfl ?_
        simp only [Act.put, List.setIfInBounds_toArray, List.set_cons_succ, List.set_cons_zero]
        refine held_pass 21 38 _ rfl rfl (by kernel_rfl) (by kernel_rfl) (by kernel_rfl) rfl rfl ?_
        simp only [Act.put, List.setIfInBounds_toArray, List.set_cons_succ, List.set_cons_zero]
        refine held_pass 22 39 _ rfl rfl (by kernel_rfl) (by kernel_rfl) (by kernel_rfl) rfl rfl ?_
        simp only [Act.put, List.setIfInBounds_toArray, List.set_cons_succ, List.set_cons_zero]
        refine held_pass 23 40 _ rfl rfl (by kernel_rfl) (by kernel_rfl) (by kernel_rfl) rfl rfl ?_
        simp only [Act.put, List.setIfInBounds_toArray, List.set_cons_succ, List.set_cons_zero]
        refine held_pass 24 41 _ rfl rfl (by kernel_rfl) (by kernel_rfl) (by kernel_rfl) rfl rfl ?_
        simp only [Act.put, List.setIfInBounds_toArray, List.set_cons_succ, List.set_cons_zero]
        refine held_pass 25 42 _ rfl rfl (by kernel_rfl) (by kernel_rfl) (by kernel_rfl) rfl rfl ?_
        simp only [Act.put, List.setIfInBounds_toArray, List.set_cons_succ, List.set_cons_zero]
        refine held_pass 26 43 _ rfl rfl (by kernel_rfl) (by kernel_rfl) (by kernel_rfl) rfl rfl ?_
        simp only [Act.put, List.setIfInBounds_toArray, List.set_cons_succ, List.set_cons_zero]
        refine held_take 27 44 _ (.bool true) rfl rfl (by kernel_rfl) (by kernel_rfl) (by kernel_rfl) rfl rfl (fun _ _ => rfl) ?_
        simp only [Act.put, List.setIfInBounds_toArray, List.set_cons_succ, List.set_cons_zero]
        refine wpAnyH_done (by kernel_rfl) ?_ _
        refine NoPanic.normal ?_
        go_wp2_with fail
        go_ret
        rw [HF.out]
        exact ⟨rfl, hB⟩
    · have i1 : ¬ (I : Int) < (l.length : Int) := by omega
      have HT2 : Hid (decide (l = m) = true) := by
        show _ = _
        rw [List.take_of_length_le (by omega), List.take_of_length_le (by rw [← HL.out]; omega)] at hT
        exact decide_eq_true hT
      go_wp2
      go_ret
      rw [HT2.out]
      exact ⟨rfl, hB⟩
end Go.Proofs.YtbegphfideopoaaGreat
