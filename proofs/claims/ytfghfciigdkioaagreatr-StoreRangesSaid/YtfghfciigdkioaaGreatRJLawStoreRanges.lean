/-
  What is proved here: of all changes and beginnings, the statement StoreRanges answers true.
  Conditions: none.
-/
import Derived.Test.YtfghfciigdkioaaGreatRJLawStoreAtOnce
import Derived.Sort.Walk0
namespace Go.Proofs.YtfghfciigdkioaaGreatR
open Go.RowKit Go.Maps

theorem exec_lss8 {a : Act} {o : Oper} {w : World} (t : TypeId) (x y : Operand) (ho : o.op = .binOp .lss t x y t) (m n : Int) (b : Bool) (hx : a.eval x = .int .i64 m) (hy : a.eval y = .int .i64 n) (h : decide (m < n) = b) : (execOp a.eval o).run Tryz.prog w = .ok (.value (.bool b)) w := by
  subst h
  unfold execOp
  simp [ho, hx, hy]
  rfl
theorem exec_geq8 {a : Act} {o : Oper} {w : World} (t : TypeId) (x y : Operand) (ho : o.op = .binOp .geq t x y t) (m n : Int) (b : Bool) (hx : a.eval x = .int .i64 m) (hy : a.eval y = .int .i64 n) (h : decide (n ≤ m) = b) : (execOp a.eval o).run Tryz.prog w = .ok (.value (.bool b)) w := by
  subst h
  unfold execOp
  simp [ho, hx, hy]
  rfl
theorem exec_sub8 {a : Act} {o : Oper} {w : World} (t : TypeId) (x y : Operand) (ho : o.op = .binOp .sub t x y t) (m n r : Int) (hx : a.eval x = .int .i64 m) (hy : a.eval y = .int .i64 n) (h : IntKind.i64.wrap (m - n) = r) : (execOp a.eval o).run Tryz.prog w = .ok (.value (.int .i64 r)) w := by
  unfold execOp
  simp [ho, hx, hy]
  rw [← h]
  rfl
theorem exec_geqs {a : Act} {o : Oper} {w : World} (x y : Operand) (ho : o.op = .binOp .geq 9 x y 9) (p q : List UInt8) (hx : a.eval x = .string ⟨p.toArray⟩) (hy : a.eval y = .string ⟨q.toArray⟩) (h : p < q) : (execOp a.eval o).run Tryz.prog w = .ok (.value (.bool false)) w := by
  have e : Op.bytesLess p q = true := by
    rw [bytesLess_eq]
    exact decide_eq_true h
  unfold execOp
  simp [ho, hx, hy, binOp, Op.stringOp, eqGuard, e]
theorem exec_lenP {a : Act} {o : Oper} {w : World} (x : Operand) (ho : o.op = .call { callee := .builtin .len, args := #[x], argTypes := #[32] }) (ao : Option Addr) (n c : Nat) (hx : a.eval x = .slice ao n c) : (execOp a.eval o).run Tryz.prog w = .ok (.value (.int .i64 (n : Int))) w := by
  unfold execOp
  have hl : ∀ cs, builtin .len #[32] o.type cs #[.slice ao n c] = (do pure (.value (← Builtin.len_ #[32] o.type #[.slice ao n c]))) := fun _ => rfl
  simp [ho, resolve, invoke, hx, hl, Builtin.len_, run_underlying Tryz.underlying32]
  rfl
theorem range_step (begin : List UInt8) {m : PM} {I : Nat} {p : List UInt8 × List UInt8} (h : m[I]? = some p) : rangeM begin (m.take (I + 1)) = rangeM begin (m.take I) ++ (if begin.isPrefixOf p.1 then [p] else []) := by
  unfold rangeM
  rw [List.take_add_one, h, List.filter_append]
  congr 1
  show List.filter _ [p] = _
  by_cases e : begin.isPrefixOf p.1 = true
  · rw [if_pos e]; simp [e]
  · rw [if_neg e]; simp [e]
theorem range_at (begin : List UInt8) {m : PM} {I : Nat} {p : List UInt8 × List UInt8} (h : m[I]? = some p) (hp : begin.isPrefixOf p.1 = true) : (rangeM begin m)[(rangeM begin (m.take I)).length]? = some p := by
  have e : rangeM begin m = rangeM begin (m.take (I + 1)) ++ rangeM begin (m.drop (I + 1)) := by
    unfold rangeM
    rw [← List.filter_append, List.take_append_drop]
  rw [e, range_step begin h, if_pos hp, List.append_assoc, List.getElem?_append_right (Nat.le_refl _), Nat.sub_self]
  rfl
theorem prefix_take {b k : List UInt8} : b.isPrefixOf k = true ↔ k.take b.length = b := by
  rw [List.isPrefixOf_iff_prefix, List.prefix_iff_eq_take]
  exact eq_comm
theorem PairsIn.fix {w : World} {v : Value} {l : PM} (h : PairsIn w v l) {I : Nat} {p : List UInt8 × List UInt8} (hp : l[I]? = some p) : ∃ b c ka kc va vc, v = .slice (some ⟨b, 0, none⟩) l.length c ∧ Hid (∀ W, Below w.heap.size w W → W.cell? ⟨b, I * 2, none⟩ = some (.slice ka p.1.length kc) ∧ W.cell? ⟨b, I * 2 + 1, none⟩ = some (.slice va p.2.length vc) ∧ Seg W (.slice ka p.1.length kc) p.1 ∧ Seg W (.slice va p.2.length vc) p.2) := by
  obtain ⟨ao, c, rfl, h1⟩ := h
  obtain ⟨b, ka, kc, va, vc, e0, e1, e2, e3, e4, e5⟩ := h1 I p hp
  rw [Nat.mul_comm] at e1 e2
  exact ⟨b, c, ka, kc, va, vc, by rw [e0], fun W hW => ⟨(hW.cell (p := ⟨b, I * 2, none⟩) e5).trans e1, (hW.cell (p := ⟨b, I * 2 + 1, none⟩) e5).trans e2, e3.below hW (Nat.le_refl _), e4.below hW (Nat.le_refl _)⟩⟩
set_option maxRecDepth 100000 in
set_option maxHeartbeats 16000000 in
theorem storeRanges_any (v : Value) (cs : List (List OpB)) (bv : Value) (begin : List UInt8) (ba : Option Addr) (bn bc : Nat) (w : World) (h : ChgsV w v cs) (hbv : bv = .slice ba bn bc) (hbn : begin.length = bn) (hbm : bn ≤ maxLen) (hbs : Seg w (.slice ba bn bc) begin) :
    Calls Tryz.prog 6 #[v, bv] w fun e w' => e = .returned (.bool true) ∧ Below w.heap.size w w' := by
  subst hbv hbn
  have HV : Hid (∀ W, Below w.heap.size w W → ChgsV W v cs) := fun W hW => h.below hW (Nat.le_refl _)
  have HBG : Hid (∀ W, Below w.heap.size w W → Seg W (.slice ba begin.length bc) begin) := fun W hW => hbs.below hW (Nat.le_refl _)
  obtain ⟨ao, c, rfl, hcm, -⟩ := h
  unfold maxLen at hcm hbm
  obtain ⟨x, -, -, -, HOP⟩ := open_new 200 (by rw [newS_size]; decide) (by decide)
  have HOP : Hid (∀ (w : World) (L : PLay) (C : Nat → Prop), OD w L C (newS 200) → Calls Tryz.prog 11 #[.pointer (some ⟨L.g, 0, none⟩)] w fun e w' => Opened w L C x e w') := HOP
  clear hbs
  go_enter Tryz.func6, Tryz.ntmps6
  go_wp2_with fail
  refine (awake8_any w).mono ?_
  rintro e w1 ⟨rfl, hB1⟩
  go_wp2_with fail
  have hb2 := (Below.refl w1.heap.size w1).alloc (Nat.le_refl _) (.cells #[.int .i64 0, .slice ao cs.length c, .int .i64 0, .int .i64 0, .slice none 0 0, .slice none 0 0] 37)
  have hk2 := Blk.new w1 37 #[.int .i64 0, .slice ao cs.length c, .int .i64 0, .int .i64 0, .slice none 0 0, .slice none 0 0]
  obtain ⟨w2, hw2⟩ : ∃ W, W = w1.alloc (.cells #[.int .i64 0, .slice ao cs.length c, .int .i64 0, .int .i64 0, .slice none 0 0, .slice none 0 0] 37) := ⟨_, rfl⟩
  rw [← hw2] at hb2 hk2 ⊢
  clear hw2
  have hB2 := blift hB1 hb2 hB1.size
  refine (much8_any _ [⟨cs, 0, 0⟩] w2 (steps_one hk2 (HV.out w2 hB2))).mono ?_
  rintro e w2' ⟨r, rfl, -, hw⟩
  obtain rfl := hw.symm
  clear hw hb2 hk2 hB1
  go_wp2_with fail
  refine (od_new 200 w2 (by decide) (by decide)).mono ?_
  rintro e w3 ⟨L, rfl, hD3, hb3, hT3, -⟩
  have hB3 := blift hB2 hb3 hB2.size
  cases r with
  | true =>
    go_wp2_with fail
    go_ret
    exact ⟨rfl, hB3⟩
  | false =>
  by_cases hl : 100 < begin.length
  · have j1 : (100 : Int) < (begin.length : Int) := by omega
    go_wp2_with fail
    go_ret
    exact ⟨rfl, hB3⟩
  have j1 : ¬ (100 : Int) < (begin.length : Int) := by omega
  go_wp2_with fail
  refine (HOP.out w3 L L.T hD3).mono ?_
  rintro e w4 ⟨SG, rfl, hS4, -, hc4⟩
  have hT2 : ∀ q, L.T q → w.heap.size ≤ q := fun q hq => by have := hT3 q hq; have := hB2.size; omega
  have hB4 : Below w.heap.size w w4 := hB3.trans (hc4.below hT2 hB3.size)
  have hC4 : Hid (∀ q, Fr L.T w3 w4 q → w.heap.size ≤ q) := fr_from hT2 hB3.size
  obtain ⟨C, hCC⟩ : ∃ C, C = Fr L.T w3 w4 := ⟨_, rfl⟩
  rw [← hCC] at hS4 hC4
  clear hCC hD3 hb3 hT3 hc4 hT2 hB3 hB2 HOP j1 hl
  have hS0 : Hid (PSt w4 SG L C x) := hS4
  clear hS4
  go_wp2_with fail
  go_loopw [11] (fun i wr => ∃ (I : Nat) (X : Nat → Prop) (z : SS), i = .int .i64 (I : Int) ∧ I ≤ cs.length ∧ PSt wr SG L X z ∧ (∀ q, X q → w.heap.size ≤ q) ∧ Below w.heap.size w wr) (fun i _ => cs.length - (intOf i).toNat)
  case atStart => exact ⟨0, C, x, rfl, Nat.zero_le _, hS0.out, hC4.out, hB4⟩
  case round =>
    clear hB4 hS0 hC4
    obtain ⟨I, X, z, rfl, hI, hX, hXd, hB⟩ := hrel
    by_cases hlt : I < cs.length
    · have i1 : (I : Int) < (cs.length : Int) := by omega
      have hg : cs[I]? = some cs[I] := List.getElem?_eq_getElem hlt
      obtain ⟨o, ho⟩ : ∃ o, cs[I] = o := ⟨_, rfl⟩
      rw [ho] at hg
      clear ho
      obtain ⟨ao', c', he, -, hat⟩ := HV.out wr hB
      cases he
      obtain ⟨b, off, rfl, -, u, c0, hu⟩ := hat I o hg
      have hix := index_chgs b off cs.length c I hlt
      have HX : Hid (PSt wr SG L X z) := hX
      have HXd : Hid (∀ q, X q → w.heap.size ≤ q) := hXd
      obtain ⟨uo, uc, rfl, -, -⟩ := id hu
      clear hat hg hX hXd
      go_wp2_with fail
      refine (commit_any8 HX.out _ o hu).mono ?_
      rintro e w8 ⟨rfl, hX8, hc8⟩
      have hB8 : Below w.heap.size w w8 := hB.trans (hc8.below HXd.out hB.size)
      have hXd8 : Hid (∀ q, Fr X wr w8 q → w.heap.size ≤ q) := fr_from HXd.out hB.size
      have HX8 : Hid (PSt w8 SG L (Fr X wr w8) (allA z [o]).2) := hX8
      clear hu hc8 c0 hX8
      go_wp2_with fail
      go_roundw
      case rel => exact ⟨I + 1, _, _, by go_num, hlt, HX8.out, hXd8.out, hB8⟩
      case measure => simp [intOf]; omega
    · have i1 : ¬ (I : Int) < (cs.length : Int) := by omega
      have hml := hX.len
      have hrise := hX.rise
      have hpr := hX.pairs
      have HR1 := range_all hX (W := wr) (Below.refl _ _)
      have HR2 : Hid (∀ W, Below wr.heap.size wr W → Seg W (.slice ba begin.length bc) begin → Calls Tryz.prog 17 #[.pointer (some ⟨SG, 0, none⟩), .slice ba begin.length bc, .int .i64 5000] W fun e w' => RangeOk W (rangeM begin z.m) e w') := fun W hW hs => by
        have h2 := range_any8 (hX.after hW) (.slice ba begin.length bc) begin hs 5000
        have h3 : (rangeM begin z.m).length ≤ 4000 := Nat.le_trans (List.length_filter_le ..) hml
        rw [show ((5000 : Int).toNat) = 5000 from rfl, List.take_of_length_le (i := 5000) (l := rangeM begin z.m) (by omega)] at h2
        exact h2
      have HR3 : Hid (∀ (k : Nat) W, Below wr.heap.size wr W → Calls Tryz.prog 17 #[.pointer (some ⟨SG, 0, none⟩), .slice none 0 0, .int .i64 (k : Int)] W fun e w' => RangeOk W (z.m.take k) e w') := fun k W hW => by
        have h2 := range_any8 (hX.after hW) (.slice none 0 0) [] (.inl ⟨rfl, none, 0, rfl, fun _ => rfl⟩) (k : Int)
        rw [range_nil, Int.toNat_natCast] at h2
        exact h2
      have HLN : Hid (∀ W, Below wr.heap.size wr W → Calls Tryz.prog 24 #[.pointer (some ⟨SG, 0, none⟩)] W fun e w' => e = .returned (.int .i64 (z.m.length : Int)) ∧ w' = W) := fun W hW => by
        obtain ⟨G, Mb, CL, CV, hP, -⟩ := (hX.after hW).body
        exact len_any8 hP
      have HG : Hid (∀ W, Below wr.heap.size wr W → ∀ kv k, Seg W kv k → k.length ≤ maxLen → Calls Tryz.prog 25 #[.pointer (some ⟨SG, 0, none⟩), kv] W fun e w' => Told8 W (lookM z.m k) e w') := fun W hW kv k hs hk => get_any8 (hX.after hW) kv k hs hk
      obtain ⟨m, hmm⟩ : ∃ m, m = z.m := ⟨_, rfl⟩
      rw [← hmm] at HR1 HR2 HR3 HLN HG hml hrise hpr
      have HR1 : Hid (Calls Tryz.prog 17 #[.pointer (some ⟨SG, 0, none⟩), .slice none 0 0, .int .i64 5000] wr fun e w' => RangeOk wr m e w') := HR1
      have hMK : Hid (∀ (i : Nat) p, m[i]? = some p → lookM m p.1 = some p.2 ∧ p.1.length ≤ 64 ∧ p.2.length ≤ 1024) := fun i p hp => ⟨mem_look hrise (List.mem_of_getElem? hp), (hpr p (List.mem_of_getElem? hp)).2⟩
      have hLT : Hid (∀ (j : Nat) p q, m[j]? = some p → m[j + 1]? = some q → p.1 < q.1) := fun j p q hp hq => by
        obtain ⟨h1, e1⟩ := List.getElem?_eq_some_iff.1 hp
        obtain ⟨h2, e2⟩ := List.getElem?_eq_some_iff.1 hq
        have := List.pairwise_iff_getElem.1 hrise j (j + 1) h1 h2 (by omega)
        rw [e1, e2] at this
        exact this
      clear hX hXd hmm hrise hpr
      go_wp2_with fail
      refine HR1.out.mono ?_
      rintro e wa ⟨va, ca, rfl, hPa, hba⟩
      obtain ⟨aa, na, rfl⟩ := hPa.sl
      have hBa := blift hB hba hB.size
      go_wp2_with fail
      refine (HR2.out wa hba (HBG.out wa hBa)).mono ?_
      rintro e wb ⟨vb, cb, rfl, hPb, hbb⟩
      obtain ⟨ab, nb, rfl⟩ := hPb.sl
      have hbb2 := blift hba hbb hba.size
      have hBb := blift hB hbb2 hB.size
      have HPA : Hid (PairsIn wb (.slice aa m.length na) m) := (hPa.below hbb).read
      have HPB : Hid (PairsIn wb (.slice ab (rangeM begin m).length nb) (rangeM begin m)) := hPb.read
      have HBW : Hid (∀ W, Below wb.heap.size wb W → Below wr.heap.size wr W ∧ Below w.heap.size w W) := fun W hW => ⟨blift hbb2 hW hbb2.size, blift hBb hW hBb.size⟩
      obtain ⟨R, hRR⟩ : ∃ R, R = rangeM begin m := ⟨_, rfl⟩
      rw [← hRR] at HPB ⊢
      have HRR : Hid (R = rangeM begin m) := hRR
      clear hRR hPa hPb hba hbb hbb2 hBa hBb HR1 HR2
      go_wp2_with fail
      go_loopw [14, 15] (fun nv i wr => ∃ (N J : Nat), nv = .int .i64 (N : Int) ∧ i = .int .i64 (J : Int) ∧ J ≤ m.length ∧ N = (rangeM begin (m.take J)).length ∧ N ≤ 4000 ∧ Below wb.heap.size wb wr) (fun _ i _ => m.length - (intOf i).toNat)
      case atStart => exact ⟨0, 0, rfl, rfl, Nat.zero_le _, rfl, Nat.zero_le _, Below.refl _ _⟩
      case round =>
        obtain ⟨N, J, rfl, rfl, hJ, hN, hN4, hBW⟩ := hrel
        have HN : Hid (N = (rangeM begin (m.take J)).length) := hN
        clear hN
        by_cases hlt : J < m.length
        · have i2 : (J : Int) < (m.length : Int) := by omega
          have hg : m[J]? = some m[J] := List.getElem?_eq_getElem hlt
          obtain ⟨p, hpp⟩ : ∃ p, m[J] = p := ⟨_, rfl⟩
          rw [hpp] at hg
          clear hpp
          obtain ⟨hlook, hp1, hp2⟩ := hMK.out J p hg
          obtain ⟨pk, pv⟩ := p
          simp only at hlook hp1 hp2
          obtain ⟨b1, cx, k1a, k1c, v1a, v1c, e1, HD⟩ := HPA.out.fix hg
          cases e1
          have HD : Hid (∀ W, Below wb.heap.size wb W → W.cell? ⟨b1, J * 2, none⟩ = some (.slice k1a pk.length k1c) ∧ W.cell? ⟨b1, J * 2 + 1, none⟩ = some (.slice v1a pv.length v1c) ∧ Seg W (.slice k1a pk.length k1c) pk ∧ Seg W (.slice v1a pv.length v1c) pv) := HD
          obtain ⟨d1, -, s1, -⟩ := HD.out _ hBW
          have x1 := index_pairs b1 m.length na J hlt
          have HGJ : Hid (m[J]? = some (pk, pv)) := hg
          clear hg
          go_wp2_with fail
          refine (HG.out _ (HBW.out _ hBW).1 _ pk s1 (by unfold maxLen; omega)).mono ?_
          rintro e w8 ⟨v8, rfl, hO8, hb8⟩
          rw [hlook] at hO8 ⊢
          obtain ⟨va, vc, rfl⟩ := Seg.shapeD hO8.seg
          have hB8 := blift hBW hb8 hBW.size
          have hB8d := hB8.drew
          clear hlook d1 s1
          obtain ⟨d1, d2, s1, s2⟩ := HD.out _ hB8d
          have k1 := seg_stringD s1 9 Tryz.underlying9
          have k2 := seg_stringD s2 9 Tryz.underlying9
          have k3 : (convert 34 9 (.slice va pv.length vc)).run Tryz.prog w8.drew = .ok (.string ⟨pv.toArray⟩) w8.drew := seg_stringD (hO8.seg.below ((Below.refl w8.heap.size w8).drew) (Nat.le_refl _)) 9 Tryz.underlying9
          clear hO8 hb8
          go_wp2_with fail
          rcases Nat.eq_zero_or_pos J with hJ0 | hJ0
          · subst hJ0
            have hj0 : decide ((0 : Int) < ((0 : Nat) : Int)) = false := by decide
            refine held_begin (fun V => V = w8.drew) (by kernel_rfl) ?_
            refine held_take 0 95 _ (.bool true) rfl rfl (by kernel_rfl) (by kernel_rfl) (by kernel_rfl) rfl rfl (fun _ _ => rfl) ?_
            simp only [Act.put, List.setIfInBounds_toArray, List.set_cons_succ, List.set_cons_zero]
            refine held_take 1 96 _ (.bool false) rfl rfl (by kernel_rfl) (by kernel_rfl) (by kernel_rfl) rfl rfl (fun _ _ => rfl) ?_
            simp only [Act.put, List.setIfInBounds_toArray, List.set_cons_succ, List.set_cons_zero]
            refine held_take 2 97 _ (.bool false) rfl rfl (by kernel_rfl) (by kernel_rfl) (by kernel_rfl) rfl rfl (fun _ _ => rfl) ?_
            simp only [Act.put, List.setIfInBounds_toArray, List.set_cons_succ, List.set_cons_zero]
            refine held_take 3 98 _ (.slice va pv.length vc) rfl rfl (by kernel_rfl) (by kernel_rfl) (by kernel_rfl) rfl rfl (fun _ _ => rfl) ?_
            simp only [Act.put, List.setIfInBounds_toArray, List.set_cons_succ, List.set_cons_zero]
            refine held_take 4 99 _ (.string ⟨pv.toArray⟩) rfl rfl (by kernel_rfl) (by kernel_rfl) (by kernel_rfl) rfl rfl (fun V hV => exec_conv _ _ _ rfl _ _ rfl (by rw [hV]; exact k3)) ?_
            simp only [Act.put, List.setIfInBounds_toArray, List.set_cons_succ, List.set_cons_zero]
            refine held_take 5 100 _ (.slice (some ⟨b1, 0, none⟩) m.length na) rfl rfl (by kernel_rfl) (by kernel_rfl) (by kernel_rfl) rfl rfl (fun _ _ => rfl) ?_
            simp only [Act.put, List.setIfInBounds_toArray, List.set_cons_succ, List.set_cons_zero]
            refine held_take 6 101 _ (.int .i64 ((0 : Nat) : Int)) rfl rfl (by kernel_rfl) (by kernel_rfl) (by kernel_rfl) rfl rfl (fun _ _ => rfl) ?_
            simp only [Act.put, List.setIfInBounds_toArray, List.set_cons_succ, List.set_cons_zero]
            refine held_take 7 102 _ (.pointer (some ⟨b1, 0 * 2, none⟩)) rfl rfl (by kernel_rfl) (by kernel_rfl) (by kernel_rfl) rfl rfl (fun V _ => exec_indexat 32 _ _ rfl (.slice (some ⟨b1, 0, none⟩) m.length na) (.int .i64 (((0 : Nat) : Int))) _ rfl rfl (x1 V)) ?_
            simp only [Act.put, List.setIfInBounds_toArray, List.set_cons_succ, List.set_cons_zero]
            refine held_take 8 103 _ (.pointer (some ⟨b1, 0 * 2 + 1, none⟩)) rfl rfl (by kernel_rfl) (by kernel_rfl) (by kernel_rfl) rfl rfl (fun _ _ => rfl) ?_
            simp only [Act.put, List.setIfInBounds_toArray, List.set_cons_succ, List.set_cons_zero]
            refine held_take 9 104 _ (.slice v1a pv.length v1c) rfl rfl (by kernel_rfl) (by kernel_rfl) (by kernel_rfl) rfl rfl (fun V hV => exec_loadc 34 _ rfl _ _ rfl (load_one 34 (fun _ => rfl) V _ _ _ (by rw [hV]; exact d2))) ?_
            simp only [Act.put, List.setIfInBounds_toArray, List.set_cons_succ, List.set_cons_zero]
            refine held_take 10 105 _ (.string ⟨pv.toArray⟩) rfl rfl (by kernel_rfl) (by kernel_rfl) (by kernel_rfl) rfl rfl (fun V hV => exec_conv _ _ _ rfl _ _ rfl (by rw [hV]; exact k2)) ?_
            simp only [Act.put, List.setIfInBounds_toArray, List.set_cons_succ, List.set_cons_zero]
            refine held_take 11 106 _ (.bool false) rfl rfl (by kernel_rfl) (by kernel_rfl) (by kernel_rfl) rfl rfl (fun V _ => exec_neqs _ _ rfl pv pv rfl rfl _ (by simp)) ?_
            simp only [Act.put, List.setIfInBounds_toArray, List.set_cons_succ, List.set_cons_zero]
            refine held_take 12 107 _ (.bool false) rfl rfl (by kernel_rfl) (by kernel_rfl) (by kernel_rfl) rfl rfl (fun _ _ => rfl) ?_
            simp only [Act.put, List.setIfInBounds_toArray, List.set_cons_succ, List.set_cons_zero]
            refine held_take 13 108 _ (.bool false) rfl rfl (by kernel_rfl) (by kernel_rfl) (by kernel_rfl) rfl rfl (fun _ _ => rfl) ?_
            simp only [Act.put, List.setIfInBounds_toArray, List.set_cons_succ, List.set_cons_zero]
            refine held_take 14 109 _ (.int .i64 ((0 : Nat) : Int)) rfl rfl (by kernel_rfl) (by kernel_rfl) (by kernel_rfl) rfl rfl (fun _ _ => rfl) ?_
            simp only [Act.put, List.setIfInBounds_toArray, List.set_cons_succ, List.set_cons_zero]
            refine held_take 15 110 _ (.bool false) rfl rfl (by kernel_rfl) (by kernel_rfl) (by kernel_rfl) rfl rfl (fun V _ => exec_gtr7 _ _ _ rfl _ _ _ rfl rfl hj0) ?_
            simp only [Act.put, List.setIfInBounds_toArray, List.set_cons_succ, List.set_cons_zero]
            refine held_take 16 111 _ (.bool false) rfl rfl (by kernel_rfl) (by kernel_rfl) (by kernel_rfl) rfl rfl (fun _ _ => rfl) ?_
            simp only [Act.put, List.setIfInBounds_toArray, List.set_cons_succ, List.set_cons_zero]
            refine held_pass 17 112 _ rfl rfl (by kernel_rfl) (by kernel_rfl) (by kernel_rfl) rfl rfl ?_
            simp only [Act.put, List.setIfInBounds_toArray, List.set_cons_succ, List.set_cons_zero]
            refine held_pass 18 113 _ rfl rfl (by kernel_rfl) (by kernel_rfl) (by kernel_rfl) rfl rfl ?_
            simp only [Act.put, List.setIfInBounds_toArray, List.set_cons_succ, List.set_cons_zero]
            refine held_pass 19 114 _ rfl rfl (by kernel_rfl) (by kernel_rfl) (by kernel_rfl) rfl rfl ?_
            simp only [Act.put, List.setIfInBounds_toArray, List.set_cons_succ, List.set_cons_zero]
            refine held_pass 20 115 _ rfl rfl (by kernel_rfl) (by kernel_rfl) (by kernel_rfl) rfl rfl ?_
            simp only [Act.put, List.setIfInBounds_toArray, List.set_cons_succ, List.set_cons_zero]
            refine held_pass 21 116 _ rfl rfl (by kernel_rfl) (by kernel_rfl) (by kernel_rfl) rfl rfl ?_
            simp only [Act.put, List.setIfInBounds_toArray, List.set_cons_succ, List.set_cons_zero]
            refine held_pass 22 117 _ rfl rfl (by kernel_rfl) (by kernel_rfl) (by kernel_rfl) rfl rfl ?_
            simp only [Act.put, List.setIfInBounds_toArray, List.set_cons_succ, List.set_cons_zero]
            refine held_pass 23 118 _ rfl rfl (by kernel_rfl) (by kernel_rfl) (by kernel_rfl) rfl rfl ?_
            simp only [Act.put, List.setIfInBounds_toArray, List.set_cons_succ, List.set_cons_zero]
            refine held_pass 24 119 _ rfl rfl (by kernel_rfl) (by kernel_rfl) (by kernel_rfl) rfl rfl ?_
            simp only [Act.put, List.setIfInBounds_toArray, List.set_cons_succ, List.set_cons_zero]
            refine held_pass 25 120 _ rfl rfl (by kernel_rfl) (by kernel_rfl) (by kernel_rfl) rfl rfl ?_
            simp only [Act.put, List.setIfInBounds_toArray, List.set_cons_succ, List.set_cons_zero]
            refine held_pass 26 121 _ rfl rfl (by kernel_rfl) (by kernel_rfl) (by kernel_rfl) rfl rfl ?_
            simp only [Act.put, List.setIfInBounds_toArray, List.set_cons_succ, List.set_cons_zero]
            refine held_pass 27 122 _ rfl rfl (by kernel_rfl) (by kernel_rfl) (by kernel_rfl) rfl rfl ?_
            simp only [Act.put, List.setIfInBounds_toArray, List.set_cons_succ, List.set_cons_zero]
            refine held_pass 28 123 _ rfl rfl (by kernel_rfl) (by kernel_rfl) (by kernel_rfl) rfl rfl ?_
            simp only [Act.put, List.setIfInBounds_toArray, List.set_cons_succ, List.set_cons_zero]
            refine held_pass 29 124 _ rfl rfl (by kernel_rfl) (by kernel_rfl) (by kernel_rfl) rfl rfl ?_
            simp only [Act.put, List.setIfInBounds_toArray, List.set_cons_succ, List.set_cons_zero]
            refine held_pass 30 125 _ rfl rfl (by kernel_rfl) (by kernel_rfl) (by kernel_rfl) rfl rfl ?_
            simp only [Act.put, List.setIfInBounds_toArray, List.set_cons_succ, List.set_cons_zero]
            refine held_take 31 126 _ (.bool false) rfl rfl (by kernel_rfl) (by kernel_rfl) (by kernel_rfl) rfl rfl (fun _ _ => rfl) ?_
            simp only [Act.put, List.setIfInBounds_toArray, List.set_cons_succ, List.set_cons_zero]
            refine held_take 32 127 _ (.bool false) rfl rfl (by kernel_rfl) (by kernel_rfl) (by kernel_rfl) rfl rfl (fun _ _ => rfl) ?_
            simp only [Act.put, List.setIfInBounds_toArray, List.set_cons_succ, List.set_cons_zero]
            refine wpAnyH_done (by kernel_rfl) ?_ _
            refine NoPanic.normal ?_
            clear d1 d2 s2 k1 k2 k3
            obtain ⟨w9, hw9⟩ : ∃ W, W = w8.drew := ⟨_, rfl⟩
            rw [← hw9] at hB8d s1 ⊢
            clear hw9 hB8
            have hd9 : Below w9.heap.size w9 w9.drew := (Below.refl _ _).drew
            have hs9 := s1.below hd9 (Nat.le_refl _)
            have hg9 := HBG.out w9.drew (blift (HBW.out w9 hB8d).2 hd9 (HBW.out w9 hB8d).2.size)
            have k1 := seg_stringD hs9 9 Tryz.underlying9
            have k4 := seg_stringD hg9 9 Tryz.underlying9
            have d1 := (HD.out _ hB8d).1
            go_wp2_with fail
            have hB9d := hB8d.drew
            by_cases q1 : pk.length < begin.length
            · have j1 : decide ((pk.length : Int) < (begin.length : Int)) = true := decide_eq_true (by omega)
              have hnp : Hid (begin.isPrefixOf pk = false) := by
                show _ = _
                rw [Bool.eq_false_iff]
                intro e
                have := congrArg List.length (prefix_take.1 e)
                rw [List.length_take] at this
                omega
              refine held_begin (fun V => V = w9.drew) (by kernel_rfl) ?_
              refine held_take 0 133 _ (.slice k1a pk.length k1c) rfl rfl (by kernel_rfl) (by kernel_rfl) (by kernel_rfl) rfl rfl (fun _ _ => rfl) ?_
              simp only [Act.put, List.setIfInBounds_toArray, List.set_cons_succ, List.set_cons_zero]
              refine held_take 1 134 _ (.int .i64 (pk.length : Int)) rfl rfl (by kernel_rfl) (by kernel_rfl) (by kernel_rfl) rfl rfl (fun V _ => exec_len _ rfl _ _ _ rfl) ?_
              simp only [Act.put, List.setIfInBounds_toArray, List.set_cons_succ, List.set_cons_zero]
              refine held_take 2 135 _ (.slice ba begin.length bc) rfl rfl (by kernel_rfl) (by kernel_rfl) (by kernel_rfl) rfl rfl (fun _ _ => rfl) ?_
              simp only [Act.put, List.setIfInBounds_toArray, List.set_cons_succ, List.set_cons_zero]
              refine held_take 3 136 _ (.int .i64 (begin.length : Int)) rfl rfl (by kernel_rfl) (by kernel_rfl) (by kernel_rfl) rfl rfl (fun V _ => exec_len _ rfl _ _ _ rfl) ?_
              simp only [Act.put, List.setIfInBounds_toArray, List.set_cons_succ, List.set_cons_zero]
              refine held_take 4 137 _ (.bool true) rfl rfl (by kernel_rfl) (by kernel_rfl) (by kernel_rfl) rfl rfl (fun V _ => exec_lss8 _ _ _ rfl _ _ _ rfl rfl j1) ?_
              simp only [Act.put, List.setIfInBounds_toArray, List.set_cons_succ, List.set_cons_zero]
              refine held_take 5 138 _ (.bool true) rfl rfl (by kernel_rfl) (by kernel_rfl) (by kernel_rfl) rfl rfl (fun _ _ => rfl) ?_
              simp only [Act.put, List.setIfInBounds_toArray, List.set_cons_succ, List.set_cons_zero]
              refine held_pass 6 139 _ rfl rfl (by kernel_rfl) (by kernel_rfl) (by kernel_rfl) rfl rfl ?_
              simp only [Act.put, List.setIfInBounds_toArray, List.set_cons_succ, List.set_cons_zero]
              refine held_pass 7 140 _ rfl rfl (by kernel_rfl) (by kernel_rfl) (by kernel_rfl) rfl rfl ?_
              simp only [Act.put, List.setIfInBounds_toArray, List.set_cons_succ, List.set_cons_zero]
              refine held_pass 8 141 _ rfl rfl (by kernel_rfl) (by kernel_rfl) (by kernel_rfl) rfl rfl ?_
              simp only [Act.put, List.setIfInBounds_toArray, List.set_cons_succ, List.set_cons_zero]
              refine held_pass 9 142 _ rfl rfl (by kernel_rfl) (by kernel_rfl) (by kernel_rfl) rfl rfl ?_
              simp only [Act.put, List.setIfInBounds_toArray, List.set_cons_succ, List.set_cons_zero]
              refine held_pass 10 143 _ rfl rfl (by kernel_rfl) (by kernel_rfl) (by kernel_rfl) rfl rfl ?_
              simp only [Act.put, List.setIfInBounds_toArray, List.set_cons_succ, List.set_cons_zero]
              refine held_pass 11 144 _ rfl rfl (by kernel_rfl) (by kernel_rfl) (by kernel_rfl) rfl rfl ?_
              simp only [Act.put, List.setIfInBounds_toArray, List.set_cons_succ, List.set_cons_zero]
              refine held_pass 12 145 _ rfl rfl (by kernel_rfl) (by kernel_rfl) (by kernel_rfl) rfl rfl ?_
              simp only [Act.put, List.setIfInBounds_toArray, List.set_cons_succ, List.set_cons_zero]
              refine held_pass 13 146 _ rfl rfl (by kernel_rfl) (by kernel_rfl) (by kernel_rfl) rfl rfl ?_
              simp only [Act.put, List.setIfInBounds_toArray, List.set_cons_succ, List.set_cons_zero]
              refine held_take 14 147 _ (.bool true) rfl rfl (by kernel_rfl) (by kernel_rfl) (by kernel_rfl) rfl rfl (fun _ _ => rfl) ?_
              simp only [Act.put, List.setIfInBounds_toArray, List.set_cons_succ, List.set_cons_zero]
              refine wpAnyH_done (by kernel_rfl) ?_ _
              refine NoPanic.normal ?_
              go_wp2_with fail
              go_roundw
              case rel => exact ⟨N, 0 + 1, rfl, by go_num, hlt, by rw [HN.out, range_step begin HGJ.out, hnp.out]; simp, hN4, hB9d⟩
              case measure => simp [intOf]; omega
            have j1 : decide ((pk.length : Int) < (begin.length : Int)) = false := decide_eq_false (by omega)
            obtain ⟨hst, hsc⟩ := hs9.takesD begin.length (by omega)
            have k5 := seg_stringD hst 9 Tryz.underlying9
            have sl := slice_toD k1a pk.length k1c begin.length hsc w9.drew
            by_cases q2 : pk.take begin.length = begin
            · have hpp : Hid (begin.isPrefixOf pk = true) := prefix_take.2 q2
              refine held_begin (fun V => V = w9.drew) (by kernel_rfl) ?_
              refine held_take 0 133 _ (.slice k1a pk.length k1c) rfl rfl (by kernel_rfl) (by kernel_rfl) (by kernel_rfl) rfl rfl (fun _ _ => rfl) ?_
              simp only [Act.put, List.setIfInBounds_toArray, List.set_cons_succ, List.set_cons_zero]
              refine held_take 1 134 _ (.int .i64 (pk.length : Int)) rfl rfl (by kernel_rfl) (by kernel_rfl) (by kernel_rfl) rfl rfl (fun V _ => exec_len _ rfl _ _ _ rfl) ?_
              simp only [Act.put, List.setIfInBounds_toArray, List.set_cons_succ, List.set_cons_zero]
              refine held_take 2 135 _ (.slice ba begin.length bc) rfl rfl (by kernel_rfl) (by kernel_rfl) (by kernel_rfl) rfl rfl (fun _ _ => rfl) ?_
              simp only [Act.put, List.setIfInBounds_toArray, List.set_cons_succ, List.set_cons_zero]
              refine held_take 3 136 _ (.int .i64 (begin.length : Int)) rfl rfl (by kernel_rfl) (by kernel_rfl) (by kernel_rfl) rfl rfl (fun V _ => exec_len _ rfl _ _ _ rfl) ?_
              simp only [Act.put, List.setIfInBounds_toArray, List.set_cons_succ, List.set_cons_zero]
              refine held_take 4 137 _ (.bool false) rfl rfl (by kernel_rfl) (by kernel_rfl) (by kernel_rfl) rfl rfl (fun V _ => exec_lss8 _ _ _ rfl _ _ _ rfl rfl j1) ?_
              simp only [Act.put, List.setIfInBounds_toArray, List.set_cons_succ, List.set_cons_zero]
              refine held_take 5 138 _ (.bool false) rfl rfl (by kernel_rfl) (by kernel_rfl) (by kernel_rfl) rfl rfl (fun _ _ => rfl) ?_
              simp only [Act.put, List.setIfInBounds_toArray, List.set_cons_succ, List.set_cons_zero]
              refine held_take 6 139 _ (.slice k1a pk.length k1c) rfl rfl (by kernel_rfl) (by kernel_rfl) (by kernel_rfl) rfl rfl (fun _ _ => rfl) ?_
              simp only [Act.put, List.setIfInBounds_toArray, List.set_cons_succ, List.set_cons_zero]
              refine held_take 7 140 _ (.slice ba begin.length bc) rfl rfl (by kernel_rfl) (by kernel_rfl) (by kernel_rfl) rfl rfl (fun _ _ => rfl) ?_
              simp only [Act.put, List.setIfInBounds_toArray, List.set_cons_succ, List.set_cons_zero]
              refine held_take 8 141 _ (.int .i64 (begin.length : Int)) rfl rfl (by kernel_rfl) (by kernel_rfl) (by kernel_rfl) rfl rfl (fun V _ => exec_len _ rfl _ _ _ rfl) ?_
              simp only [Act.put, List.setIfInBounds_toArray, List.set_cons_succ, List.set_cons_zero]
              refine held_take 9 142 _ (.slice k1a begin.length k1c) rfl rfl (by kernel_rfl) (by kernel_rfl) (by kernel_rfl) rfl rfl (fun V hV => exec_slice7 _ _ _ _ rfl _ _ _ _ _ rfl rfl rfl rfl (by rw [hV]; exact sl)) ?_
              simp only [Act.put, List.setIfInBounds_toArray, List.set_cons_succ, List.set_cons_zero]
              refine held_take 10 143 _ (.string ⟨(pk.take begin.length).toArray⟩) rfl rfl (by kernel_rfl) (by kernel_rfl) (by kernel_rfl) rfl rfl (fun V hV => exec_conv _ _ _ rfl _ _ rfl (by rw [hV]; first | exact k5 | (have := k5; simpa using this))) ?_
              simp only [Act.put, List.setIfInBounds_toArray, List.set_cons_succ, List.set_cons_zero]
              refine held_take 11 144 _ (.slice ba begin.length bc) rfl rfl (by kernel_rfl) (by kernel_rfl) (by kernel_rfl) rfl rfl (fun _ _ => rfl) ?_
              simp only [Act.put, List.setIfInBounds_toArray, List.set_cons_succ, List.set_cons_zero]
              refine held_take 12 145 _ (.string ⟨begin.toArray⟩) rfl rfl (by kernel_rfl) (by kernel_rfl) (by kernel_rfl) rfl rfl (fun V hV => exec_conv _ _ _ rfl _ _ rfl (by rw [hV]; exact k4)) ?_
              simp only [Act.put, List.setIfInBounds_toArray, List.set_cons_succ, List.set_cons_zero]
              refine held_take 13 146 _ (.bool false) rfl rfl (by kernel_rfl) (by kernel_rfl) (by kernel_rfl) rfl rfl (fun V _ => exec_neqs _ _ rfl (pk.take begin.length) begin rfl rfl _ (by simp [q2])) ?_
              simp only [Act.put, List.setIfInBounds_toArray, List.set_cons_succ, List.set_cons_zero]
              refine held_take 14 147 _ (.bool false) rfl rfl (by kernel_rfl) (by kernel_rfl) (by kernel_rfl) rfl rfl (fun _ _ => rfl) ?_
              simp only [Act.put, List.setIfInBounds_toArray, List.set_cons_succ, List.set_cons_zero]
              refine wpAnyH_done (by kernel_rfl) ?_ _
              refine NoPanic.normal ?_
              clear k1 k4 k5 sl hst hsc hg9 hs9 d1
              obtain ⟨w10, hw10⟩ : ∃ W, W = w9.drew := ⟨_, rfl⟩
              have s10 := s1.below hd9 (Nat.le_refl _)
              rw [← hw10] at hB9d s10 ⊢
              clear hw10
              have hat : R[N]? = some (pk, pv) := by rw [HRR.out, HN.out]; exact range_at begin HGJ.out hpp.out
              have hNl : N < R.length := (List.getElem?_eq_some_iff.1 hat).1
              have hB10 := hB9d.drew
              obtain ⟨b2, c2, r1a, r1c, r2a, r2c, e2, f1, -, t1, -⟩ := HPB.out.at hB10 hat
              cases e2
              simp only at f1 t1
              have x2 := index_pairs b2 R.length nb N hNl
              have k6 := seg_stringD t1 9 Tryz.underlying9
              have k1 : (convert 34 9 (.slice k1a pk.length k1c)).run Tryz.prog w10.drew = .ok (.string ⟨pk.toArray⟩) w10.drew := seg_stringD (s10.below ((Below.refl w10.heap.size w10).drew) (Nat.le_refl _)) 9 Tryz.underlying9
              have j2 : decide ((R.length : Int) ≤ (N : Int)) = false := decide_eq_false (by omega)
              have hN1 : Hid (N + 1 = (rangeM begin (m.take (0 + 1))).length) := by
                show _ = _
                rw [range_step begin HGJ.out, hpp.out, List.length_append, ← HN.out]
                rfl
              have hR4 : N + 1 ≤ 4000 := by
                have h1 : R.length ≤ 4000 := by rw [HRR.out]; exact Nat.le_trans (List.length_filter_le ..) hml
                omega
              clear hat t1 s10
              go_wp2_with fail
              refine held_begin (fun V => V = w10.drew) (by kernel_rfl) ?_
              refine held_take 0 148 _ (.int .i64 (N : Int)) rfl rfl (by kernel_rfl) (by kernel_rfl) (by kernel_rfl) rfl rfl (fun _ _ => rfl) ?_
              simp only [Act.put, List.setIfInBounds_toArray, List.set_cons_succ, List.set_cons_zero]
              refine held_take 1 149 _ (.slice (some ⟨b2, 0, none⟩) R.length nb) rfl rfl (by kernel_rfl) (by kernel_rfl) (by kernel_rfl) rfl rfl (fun _ _ => rfl) ?_
              simp only [Act.put, List.setIfInBounds_toArray, List.set_cons_succ, List.set_cons_zero]
              refine held_take 2 150 _ (.int .i64 (R.length : Int)) rfl rfl (by kernel_rfl) (by kernel_rfl) (by kernel_rfl) rfl rfl (fun V _ => exec_lenP _ rfl _ _ _ rfl) ?_
              simp only [Act.put, List.setIfInBounds_toArray, List.set_cons_succ, List.set_cons_zero]
              refine held_take 3 151 _ (.bool false) rfl rfl (by kernel_rfl) (by kernel_rfl) (by kernel_rfl) rfl rfl (fun V _ => exec_geq8 _ _ _ rfl _ _ _ rfl rfl j2) ?_
              simp only [Act.put, List.setIfInBounds_toArray, List.set_cons_succ, List.set_cons_zero]
              refine held_take 4 152 _ (.bool false) rfl rfl (by kernel_rfl) (by kernel_rfl) (by kernel_rfl) rfl rfl (fun _ _ => rfl) ?_
              simp only [Act.put, List.setIfInBounds_toArray, List.set_cons_succ, List.set_cons_zero]
              refine held_take 5 153 _ (.slice (some ⟨b2, 0, none⟩) R.length nb) rfl rfl (by kernel_rfl) (by kernel_rfl) (by kernel_rfl) rfl rfl (fun _ _ => rfl) ?_
              simp only [Act.put, List.setIfInBounds_toArray, List.set_cons_succ, List.set_cons_zero]
              refine held_take 6 154 _ (.int .i64 (N : Int)) rfl rfl (by kernel_rfl) (by kernel_rfl) (by kernel_rfl) rfl rfl (fun _ _ => rfl) ?_
              simp only [Act.put, List.setIfInBounds_toArray, List.set_cons_succ, List.set_cons_zero]
              refine held_take 7 155 _ (.pointer (some ⟨b2, N * 2, none⟩)) rfl rfl (by kernel_rfl) (by kernel_rfl) (by kernel_rfl) rfl rfl (fun V _ => exec_indexat 32 _ _ rfl (.slice (some ⟨b2, 0, none⟩) R.length nb) (.int .i64 ((N : Int))) _ rfl rfl (x2 V)) ?_
              simp only [Act.put, List.setIfInBounds_toArray, List.set_cons_succ, List.set_cons_zero]
              refine held_take 8 156 _ (.pointer (some ⟨b2, N * 2, none⟩)) rfl rfl (by kernel_rfl) (by kernel_rfl) (by kernel_rfl) rfl rfl (fun _ _ => rfl) ?_
              simp only [Act.put, List.setIfInBounds_toArray, List.set_cons_succ, List.set_cons_zero]
              refine held_take 9 157 _ (.slice r1a pk.length r1c) rfl rfl (by kernel_rfl) (by kernel_rfl) (by kernel_rfl) rfl rfl (fun V hV => exec_loadc 34 _ rfl _ _ rfl (load_one 34 (fun _ => rfl) V _ _ _ (by rw [hV]; exact f1))) ?_
              simp only [Act.put, List.setIfInBounds_toArray, List.set_cons_succ, List.set_cons_zero]
              refine held_take 10 158 _ (.string ⟨pk.toArray⟩) rfl rfl (by kernel_rfl) (by kernel_rfl) (by kernel_rfl) rfl rfl (fun V hV => exec_conv _ _ _ rfl _ _ rfl (by rw [hV]; exact k6)) ?_
              simp only [Act.put, List.setIfInBounds_toArray, List.set_cons_succ, List.set_cons_zero]
              refine held_take 11 159 _ (.slice k1a pk.length k1c) rfl rfl (by kernel_rfl) (by kernel_rfl) (by kernel_rfl) rfl rfl (fun _ _ => rfl) ?_
              simp only [Act.put, List.setIfInBounds_toArray, List.set_cons_succ, List.set_cons_zero]
              refine held_take 12 160 _ (.string ⟨pk.toArray⟩) rfl rfl (by kernel_rfl) (by kernel_rfl) (by kernel_rfl) rfl rfl (fun V hV => exec_conv _ _ _ rfl _ _ rfl (by rw [hV]; exact k1)) ?_
              simp only [Act.put, List.setIfInBounds_toArray, List.set_cons_succ, List.set_cons_zero]
              refine held_take 13 161 _ (.bool false) rfl rfl (by kernel_rfl) (by kernel_rfl) (by kernel_rfl) rfl rfl (fun V _ => exec_neqs _ _ rfl pk pk rfl rfl _ (by simp)) ?_
              simp only [Act.put, List.setIfInBounds_toArray, List.set_cons_succ, List.set_cons_zero]
              refine held_take 14 162 _ (.bool false) rfl rfl (by kernel_rfl) (by kernel_rfl) (by kernel_rfl) rfl rfl (fun _ _ => rfl) ?_
              simp only [Act.put, List.setIfInBounds_toArray, List.set_cons_succ, List.set_cons_zero]
              refine wpAnyH_done (by kernel_rfl) ?_ _
              refine NoPanic.normal ?_
              go_wp2_with fail
              go_roundw
              case rel => exact ⟨N + 1, 0 + 1, by go_num, by go_num, hlt, hN1.out, hR4, hB10⟩
              case measure => simp [intOf]; omega
            have hnp : Hid (begin.isPrefixOf pk = false) := by
              show _ = _
              rw [Bool.eq_false_iff]
              intro e
              exact q2 (prefix_take.1 e)
            refine held_begin (fun V => V = w9.drew) (by kernel_rfl) ?_
            refine held_take 0 133 _ (.slice k1a pk.length k1c) rfl rfl (by kernel_rfl) (by kernel_rfl) (by kernel_rfl) rfl rfl (fun _ _ => rfl) ?_
            simp only [Act.put, List.setIfInBounds_toArray, List.set_cons_succ, List.set_cons_zero]
            refine held_take 1 134 _ (.int .i64 (pk.length : Int)) rfl rfl (by kernel_rfl) (by kernel_rfl) (by kernel_rfl) rfl rfl (fun V _ => exec_len _ rfl _ _ _ rfl) ?_
            simp only [Act.put, List.setIfInBounds_toArray, List.set_cons_succ, List.set_cons_zero]
            refine held_take 2 135 _ (.slice ba begin.length bc) rfl rfl (by kernel_rfl) (by kernel_rfl) (by kernel_rfl) rfl rfl (fun _ _ => rfl) ?_
            simp only [Act.put, List.setIfInBounds_toArray, List.set_cons_succ, List.set_cons_zero]
            refine held_take 3 136 _ (.int .i64 (begin.length : Int)) rfl rfl (by kernel_rfl) (by kernel_rfl) (by kernel_rfl) rfl rfl (fun V _ => exec_len _ rfl _ _ _ rfl) ?_
            simp only [Act.put, List.setIfInBounds_toArray, List.set_cons_succ, List.set_cons_zero]
            refine held_take 4 137 _ (.bool false) rfl rfl (by kernel_rfl) (by kernel_rfl) (by kernel_rfl) rfl rfl (fun V _ => exec_lss8 _ _ _ rfl _ _ _ rfl rfl j1) ?_
            simp only [Act.put, List.setIfInBounds_toArray, List.set_cons_succ, List.set_cons_zero]
            refine held_take 5 138 _ (.bool false) rfl rfl (by kernel_rfl) (by kernel_rfl) (by kernel_rfl) rfl rfl (fun _ _ => rfl) ?_
            simp only [Act.put, List.setIfInBounds_toArray, List.set_cons_succ, List.set_cons_zero]
            refine held_take 6 139 _ (.slice k1a pk.length k1c) rfl rfl (by kernel_rfl) (by kernel_rfl) (by kernel_rfl) rfl rfl (fun _ _ => rfl) ?_
            simp only [Act.put, List.setIfInBounds_toArray, List.set_cons_succ, List.set_cons_zero]
            refine held_take 7 140 _ (.slice ba begin.length bc) rfl rfl (by kernel_rfl) (by kernel_rfl) (by kernel_rfl) rfl rfl (fun _ _ => rfl) ?_
            simp only [Act.put, List.setIfInBounds_toArray, List.set_cons_succ, List.set_cons_zero]
            refine held_take 8 141 _ (.int .i64 (begin.length : Int)) rfl rfl (by kernel_rfl) (by kernel_rfl) (by kernel_rfl) rfl rfl (fun V _ => exec_len _ rfl _ _ _ rfl) ?_
            simp only [Act.put, List.setIfInBounds_toArray, List.set_cons_succ, List.set_cons_zero]
            refine held_take 9 142 _ (.slice k1a begin.length k1c) rfl rfl (by kernel_rfl) (by kernel_rfl) (by kernel_rfl) rfl rfl (fun V hV => exec_slice7 _ _ _ _ rfl _ _ _ _ _ rfl rfl rfl rfl (by rw [hV]; exact sl)) ?_
            simp only [Act.put, List.setIfInBounds_toArray, List.set_cons_succ, List.set_cons_zero]
            refine held_take 10 143 _ (.string ⟨(pk.take begin.length).toArray⟩) rfl rfl (by kernel_rfl) (by kernel_rfl) (by kernel_rfl) rfl rfl (fun V hV => exec_conv _ _ _ rfl _ _ rfl (by rw [hV]; first | exact k5 | (have := k5; simpa using this))) ?_
            simp only [Act.put, List.setIfInBounds_toArray, List.set_cons_succ, List.set_cons_zero]
            refine held_take 11 144 _ (.slice ba begin.length bc) rfl rfl (by kernel_rfl) (by kernel_rfl) (by kernel_rfl) rfl rfl (fun _ _ => rfl) ?_
            simp only [Act.put, List.setIfInBounds_toArray, List.set_cons_succ, List.set_cons_zero]
            refine held_take 12 145 _ (.string ⟨begin.toArray⟩) rfl rfl (by kernel_rfl) (by kernel_rfl) (by kernel_rfl) rfl rfl (fun V hV => exec_conv _ _ _ rfl _ _ rfl (by rw [hV]; exact k4)) ?_
            simp only [Act.put, List.setIfInBounds_toArray, List.set_cons_succ, List.set_cons_zero]
            refine held_take 13 146 _ (.bool true) rfl rfl (by kernel_rfl) (by kernel_rfl) (by kernel_rfl) rfl rfl (fun V _ => exec_neqs _ _ rfl (pk.take begin.length) begin rfl rfl _ (by simp [q2])) ?_
            simp only [Act.put, List.setIfInBounds_toArray, List.set_cons_succ, List.set_cons_zero]
            refine held_take 14 147 _ (.bool true) rfl rfl (by kernel_rfl) (by kernel_rfl) (by kernel_rfl) rfl rfl (fun _ _ => rfl) ?_
            simp only [Act.put, List.setIfInBounds_toArray, List.set_cons_succ, List.set_cons_zero]
            refine wpAnyH_done (by kernel_rfl) ?_ _
            refine NoPanic.normal ?_
            go_wp2_with fail
            go_roundw
            case rel => exact ⟨N, 0 + 1, rfl, by go_num, hlt, by rw [HN.out, range_step begin HGJ.out, hnp.out]; simp, hN4, hB9d⟩
            case measure => simp [intOf]; omega
          · obtain ⟨J, rfl⟩ : ∃ K, J = K + 1 := ⟨J - 1, by omega⟩
            have hj0 : decide ((0 : Int) < ((J + 1 : Nat) : Int)) = true := decide_eq_true (by omega)
            have hj1 : IntKind.i64.wrap (((J + 1 : Nat) : Int) - 1) = (J : Int) := by rw [IntKind.wrap_i64]; omega
            have hJ2 : J < m.length := by omega
            have hq : m[J]? = some m[J] := List.getElem?_eq_getElem hJ2
            obtain ⟨q, hqq⟩ : ∃ q, m[J] = q := ⟨_, rfl⟩
            rw [hqq] at hq
            clear hqq
            have hlq := hLT.out J q (pk, pv) hq HGJ.out
            obtain ⟨qk, qv⟩ := q
            simp only at hlq
            obtain ⟨b0, cx0, k0a, k0c, v0a, v0c, e1, d0, -, s0, -⟩ := HPA.out.at hB8d hq
            cases e1
            simp only at d0 s0
            have x0 := index_pairs b1 m.length na J hJ2
            have k0 := seg_stringD s0 9 Tryz.underlying9
            clear hq s0
            refine held_begin (fun V => V = w8.drew) (by kernel_rfl) ?_
            refine held_take 0 95 _ (.bool true) rfl rfl (by kernel_rfl) (by kernel_rfl) (by kernel_rfl) rfl rfl (fun _ _ => rfl) ?_
            simp only [Act.put, List.setIfInBounds_toArray, List.set_cons_succ, List.set_cons_zero]
            refine held_take 1 96 _ (.bool false) rfl rfl (by kernel_rfl) (by kernel_rfl) (by kernel_rfl) rfl rfl (fun _ _ => rfl) ?_
            simp only [Act.put, List.setIfInBounds_toArray, List.set_cons_succ, List.set_cons_zero]
            refine held_take 2 97 _ (.bool false) rfl rfl (by kernel_rfl) (by kernel_rfl) (by kernel_rfl) rfl rfl (fun _ _ => rfl) ?_
            simp only [Act.put, List.setIfInBounds_toArray, List.set_cons_succ, List.set_cons_zero]
            refine held_take 3 98 _ (.slice va pv.length vc) rfl rfl (by kernel_rfl) (by kernel_rfl) (by kernel_rfl) rfl rfl (fun _ _ => rfl) ?_
            simp only [Act.put, List.setIfInBounds_toArray, List.set_cons_succ, List.set_cons_zero]
            refine held_take 4 99 _ (.string ⟨pv.toArray⟩) rfl rfl (by kernel_rfl) (by kernel_rfl) (by kernel_rfl) rfl rfl (fun V hV => exec_conv _ _ _ rfl _ _ rfl (by rw [hV]; exact k3)) ?_
            simp only [Act.put, List.setIfInBounds_toArray, List.set_cons_succ, List.set_cons_zero]
            refine held_take 5 100 _ (.slice (some ⟨b1, 0, none⟩) m.length na) rfl rfl (by kernel_rfl) (by kernel_rfl) (by kernel_rfl) rfl rfl (fun _ _ => rfl) ?_
            simp only [Act.put, List.setIfInBounds_toArray, List.set_cons_succ, List.set_cons_zero]
            refine held_take 6 101 _ (.int .i64 ((J + 1 : Nat) : Int)) rfl rfl (by kernel_rfl) (by kernel_rfl) (by kernel_rfl) rfl rfl (fun _ _ => rfl) ?_
            simp only [Act.put, List.setIfInBounds_toArray, List.set_cons_succ, List.set_cons_zero]
            refine held_take 7 102 _ (.pointer (some ⟨b1, (J + 1) * 2, none⟩)) rfl rfl (by kernel_rfl) (by kernel_rfl) (by kernel_rfl) rfl rfl (fun V _ => exec_indexat 32 _ _ rfl (.slice (some ⟨b1, 0, none⟩) m.length na) (.int .i64 (((J + 1 : Nat) : Int))) _ rfl rfl (x1 V)) ?_
            simp only [Act.put, List.setIfInBounds_toArray, List.set_cons_succ, List.set_cons_zero]
            refine held_take 8 103 _ (.pointer (some ⟨b1, (J + 1) * 2 + 1, none⟩)) rfl rfl (by kernel_rfl) (by kernel_rfl) (by kernel_rfl) rfl rfl (fun _ _ => rfl) ?_
            simp only [Act.put, List.setIfInBounds_toArray, List.set_cons_succ, List.set_cons_zero]
            refine held_take 9 104 _ (.slice v1a pv.length v1c) rfl rfl (by kernel_rfl) (by kernel_rfl) (by kernel_rfl) rfl rfl (fun V hV => exec_loadc 34 _ rfl _ _ rfl (load_one 34 (fun _ => rfl) V _ _ _ (by rw [hV]; exact d2))) ?_
            simp only [Act.put, List.setIfInBounds_toArray, List.set_cons_succ, List.set_cons_zero]
            refine held_take 10 105 _ (.string ⟨pv.toArray⟩) rfl rfl (by kernel_rfl) (by kernel_rfl) (by kernel_rfl) rfl rfl (fun V hV => exec_conv _ _ _ rfl _ _ rfl (by rw [hV]; exact k2)) ?_
            simp only [Act.put, List.setIfInBounds_toArray, List.set_cons_succ, List.set_cons_zero]
            refine held_take 11 106 _ (.bool false) rfl rfl (by kernel_rfl) (by kernel_rfl) (by kernel_rfl) rfl rfl (fun V _ => exec_neqs _ _ rfl pv pv rfl rfl _ (by simp)) ?_
            simp only [Act.put, List.setIfInBounds_toArray, List.set_cons_succ, List.set_cons_zero]
            refine held_take 12 107 _ (.bool false) rfl rfl (by kernel_rfl) (by kernel_rfl) (by kernel_rfl) rfl rfl (fun _ _ => rfl) ?_
            simp only [Act.put, List.setIfInBounds_toArray, List.set_cons_succ, List.set_cons_zero]
            refine held_take 13 108 _ (.bool false) rfl rfl (by kernel_rfl) (by kernel_rfl) (by kernel_rfl) rfl rfl (fun _ _ => rfl) ?_
            simp only [Act.put, List.setIfInBounds_toArray, List.set_cons_succ, List.set_cons_zero]
            refine held_take 14 109 _ (.int .i64 ((J + 1 : Nat) : Int)) rfl rfl (by kernel_rfl) (by kernel_rfl) (by kernel_rfl) rfl rfl (fun _ _ => rfl) ?_
            simp only [Act.put, List.setIfInBounds_toArray, List.set_cons_succ, List.set_cons_zero]
            refine held_take 15 110 _ (.bool true) rfl rfl (by kernel_rfl) (by kernel_rfl) (by kernel_rfl) rfl rfl (fun V _ => exec_gtr7 _ _ _ rfl _ _ _ rfl rfl hj0) ?_
            simp only [Act.put, List.setIfInBounds_toArray, List.set_cons_succ, List.set_cons_zero]
            refine held_take 16 111 _ (.bool true) rfl rfl (by kernel_rfl) (by kernel_rfl) (by kernel_rfl) rfl rfl (fun _ _ => rfl) ?_
            simp only [Act.put, List.setIfInBounds_toArray, List.set_cons_succ, List.set_cons_zero]
            refine held_take 17 112 _ (.slice (some ⟨b1, 0, none⟩) m.length na) rfl rfl (by kernel_rfl) (by kernel_rfl) (by kernel_rfl) rfl rfl (fun _ _ => rfl) ?_
            simp only [Act.put, List.setIfInBounds_toArray, List.set_cons_succ, List.set_cons_zero]
            refine held_take 18 113 _ (.int .i64 ((J + 1 : Nat) : Int)) rfl rfl (by kernel_rfl) (by kernel_rfl) (by kernel_rfl) rfl rfl (fun _ _ => rfl) ?_
            simp only [Act.put, List.setIfInBounds_toArray, List.set_cons_succ, List.set_cons_zero]
            refine held_take 19 114 _ (.int .i64 (J : Int)) rfl rfl (by kernel_rfl) (by kernel_rfl) (by kernel_rfl) rfl rfl (fun V _ => exec_sub8 _ _ _ rfl _ _ _ rfl rfl hj1) ?_
            simp only [Act.put, List.setIfInBounds_toArray, List.set_cons_succ, List.set_cons_zero]
            refine held_take 20 115 _ (.pointer (some ⟨b1, J * 2, none⟩)) rfl rfl (by kernel_rfl) (by kernel_rfl) (by kernel_rfl) rfl rfl (fun V _ => exec_indexat 32 _ _ rfl (.slice (some ⟨b1, 0, none⟩) m.length na) (.int .i64 ((J : Int))) _ rfl rfl (x0 V)) ?_
            simp only [Act.put, List.setIfInBounds_toArray, List.set_cons_succ, List.set_cons_zero]
            refine held_take 21 116 _ (.pointer (some ⟨b1, J * 2, none⟩)) rfl rfl (by kernel_rfl) (by kernel_rfl) (by kernel_rfl) rfl rfl (fun _ _ => rfl) ?_
            simp only [Act.put, List.setIfInBounds_toArray, List.set_cons_succ, List.set_cons_zero]
            refine held_take 22 117 _ (.slice k0a qk.length k0c) rfl rfl (by kernel_rfl) (by kernel_rfl) (by kernel_rfl) rfl rfl (fun V hV => exec_loadc 34 _ rfl _ _ rfl (load_one 34 (fun _ => rfl) V _ _ _ (by rw [hV]; exact d0))) ?_
            simp only [Act.put, List.setIfInBounds_toArray, List.set_cons_succ, List.set_cons_zero]
            refine held_take 23 118 _ (.string ⟨qk.toArray⟩) rfl rfl (by kernel_rfl) (by kernel_rfl) (by kernel_rfl) rfl rfl (fun V hV => exec_conv _ _ _ rfl _ _ rfl (by rw [hV]; exact k0)) ?_
            simp only [Act.put, List.setIfInBounds_toArray, List.set_cons_succ, List.set_cons_zero]
            refine held_take 24 119 _ (.slice (some ⟨b1, 0, none⟩) m.length na) rfl rfl (by kernel_rfl) (by kernel_rfl) (by kernel_rfl) rfl rfl (fun _ _ => rfl) ?_
            simp only [Act.put, List.setIfInBounds_toArray, List.set_cons_succ, List.set_cons_zero]
            refine held_take 25 120 _ (.int .i64 ((J + 1 : Nat) : Int)) rfl rfl (by kernel_rfl) (by kernel_rfl) (by kernel_rfl) rfl rfl (fun _ _ => rfl) ?_
            simp only [Act.put, List.setIfInBounds_toArray, List.set_cons_succ, List.set_cons_zero]
            refine held_take 26 121 _ (.pointer (some ⟨b1, (J + 1) * 2, none⟩)) rfl rfl (by kernel_rfl) (by kernel_rfl) (by kernel_rfl) rfl rfl (fun V _ => exec_indexat 32 _ _ rfl (.slice (some ⟨b1, 0, none⟩) m.length na) (.int .i64 (((J + 1 : Nat) : Int))) _ rfl rfl (x1 V)) ?_
            simp only [Act.put, List.setIfInBounds_toArray, List.set_cons_succ, List.set_cons_zero]
            refine held_take 27 122 _ (.pointer (some ⟨b1, (J + 1) * 2, none⟩)) rfl rfl (by kernel_rfl) (by kernel_rfl) (by kernel_rfl) rfl rfl (fun _ _ => rfl) ?_
            simp only [Act.put, List.setIfInBounds_toArray, List.set_cons_succ, List.set_cons_zero]
            refine held_take 28 123 _ (.slice k1a pk.length k1c) rfl rfl (by kernel_rfl) (by kernel_rfl) (by kernel_rfl) rfl rfl (fun V hV => exec_loadc 34 _ rfl _ _ rfl (load_one 34 (fun _ => rfl) V _ _ _ (by rw [hV]; exact d1))) ?_
            simp only [Act.put, List.setIfInBounds_toArray, List.set_cons_succ, List.set_cons_zero]
            refine held_take 29 124 _ (.string ⟨pk.toArray⟩) rfl rfl (by kernel_rfl) (by kernel_rfl) (by kernel_rfl) rfl rfl (fun V hV => exec_conv _ _ _ rfl _ _ rfl (by rw [hV]; exact k1)) ?_
            simp only [Act.put, List.setIfInBounds_toArray, List.set_cons_succ, List.set_cons_zero]
            refine held_take 30 125 _ (.bool false) rfl rfl (by kernel_rfl) (by kernel_rfl) (by kernel_rfl) rfl rfl (fun V _ => exec_geqs _ _ rfl qk pk rfl rfl hlq) ?_
            simp only [Act.put, List.setIfInBounds_toArray, List.set_cons_succ, List.set_cons_zero]
            refine held_take 31 126 _ (.bool false) rfl rfl (by kernel_rfl) (by kernel_rfl) (by kernel_rfl) rfl rfl (fun _ _ => rfl) ?_
            simp only [Act.put, List.setIfInBounds_toArray, List.set_cons_succ, List.set_cons_zero]
            refine held_take 32 127 _ (.bool false) rfl rfl (by kernel_rfl) (by kernel_rfl) (by kernel_rfl) rfl rfl (fun _ _ => rfl) ?_
            simp only [Act.put, List.setIfInBounds_toArray, List.set_cons_succ, List.set_cons_zero]
            refine wpAnyH_done (by kernel_rfl) ?_ _
            refine NoPanic.normal ?_
            clear d1 d2 s2 k1 k2 k3
            obtain ⟨w9, hw9⟩ : ∃ W, W = w8.drew := ⟨_, rfl⟩
            rw [← hw9] at hB8d s1 ⊢
            clear hw9 hB8
            have hd9 : Below w9.heap.size w9 w9.drew := (Below.refl _ _).drew
            have hs9 := s1.below hd9 (Nat.le_refl _)
            have hg9 := HBG.out w9.drew (blift (HBW.out w9 hB8d).2 hd9 (HBW.out w9 hB8d).2.size)
            have k1 := seg_stringD hs9 9 Tryz.underlying9
            have k4 := seg_stringD hg9 9 Tryz.underlying9
            have d1 := (HD.out _ hB8d).1
            go_wp2_with fail
            have hB9d := hB8d.drew
            by_cases q1 : pk.length < begin.length
            · have j1 : decide ((pk.length : Int) < (begin.length : Int)) = true := decide_eq_true (by omega)
              have hnp : Hid (begin.isPrefixOf pk = false) := by
                show _ = _
                rw [Bool.eq_false_iff]
                intro e
                have := congrArg List.length (prefix_take.1 e)
                rw [List.length_take] at this
                omega
              refine held_begin (fun V => V = w9.drew) (by kernel_rfl) ?_
              refine held_take 0 133 _ (.slice k1a pk.length k1c) rfl rfl (by kernel_rfl) (by kernel_rfl) (by kernel_rfl) rfl rfl (fun _ _ => rfl) ?_
              simp only [Act.put, List.setIfInBounds_toArray, List.set_cons_succ, List.set_cons_zero]
              refine held_take 1 134 _ (.int .i64 (pk.length : Int)) rfl rfl (by kernel_rfl) (by kernel_rfl) (by kernel_rfl) rfl rfl (fun V _ => exec_len _ rfl _ _ _ rfl) ?_
              simp only [Act.put, List.setIfInBounds_toArray, List.set_cons_succ, List.set_cons_zero]
              refine held_take 2 135 _ (.slice ba begin.length bc) rfl rfl (by kernel_rfl) (by kernel_rfl) (by kernel_rfl) rfl rfl (fun _ _ => rfl) ?_
              simp only [Act.put, List.setIfInBounds_toArray, List.set_cons_succ, List.set_cons_zero]
              refine held_take 3 136 _ (.int .i64 (begin.length : Int)) rfl rfl (by kernel_rfl) (by kernel_rfl) (by kernel_rfl) rfl rfl (fun V _ => exec_len _ rfl _ _ _ rfl) ?_
              simp only [Act.put, List.setIfInBounds_toArray, List.set_cons_succ, List.set_cons_zero]
              refine held_take 4 137 _ (.bool true) rfl rfl (by kernel_rfl) (by kernel_rfl) (by kernel_rfl) rfl rfl (fun V _ => exec_lss8 _ _ _ rfl _ _ _ rfl rfl j1) ?_
              simp only [Act.put, List.setIfInBounds_toArray, List.set_cons_succ, List.set_cons_zero]
              refine held_take 5 138 _ (.bool true) rfl rfl (by kernel_rfl) (by kernel_rfl) (by kernel_rfl) rfl rfl (fun _ _ => rfl) ?_
              simp only [Act.put, List.setIfInBounds_toArray, List.set_cons_succ, List.set_cons_zero]
              refine held_pass 6 139 _ rfl rfl (by kernel_rfl) (by kernel_rfl) (by kernel_rfl) rfl rfl ?_
              simp only [Act.put, List.setIfInBounds_toArray, List.set_cons_succ, List.set_cons_zero]
              refine held_pass 7 140 _ rfl rfl (by kernel_rfl) (by kernel_rfl) (by kernel_rfl) rfl rfl ?_
              simp only [Act.put, List.setIfInBounds_toArray, List.set_cons_succ, List.set_cons_zero]
              refine held_pass 8 141 _ rfl rfl (by kernel_rfl) (by kernel_rfl) (by kernel_rfl) rfl rfl ?_
              simp only [Act.put, List.setIfInBounds_toArray, List.set_cons_succ, List.set_cons_zero]
              refine held_pass 9 142 _ rfl rfl (by kernel_rfl) (by kernel_rfl) (by kernel_rfl) rfl rfl ?_
              simp only [Act.put, List.setIfInBounds_toArray, List.set_cons_succ, List.set_cons_zero]
              refine held_pass 10 143 _ rfl rfl (by kernel_rfl) (by kernel_rfl) (by kernel_rfl) rfl rfl ?_
              simp only [Act.put, List.setIfInBounds_toArray, List.set_cons_succ, List.set_cons_zero]
              refine held_pass 11 144 _ rfl rfl (by kernel_rfl) (by kernel_rfl) (by kernel_rfl) rfl rfl ?_
              simp only [Act.put, List.setIfInBounds_toArray, List.set_cons_succ, List.set_cons_zero]
              refine held_pass 12 145 _ rfl rfl (by kernel_rfl) (by kernel_rfl) (by kernel_rfl) rfl rfl ?_
              simp only [Act.put, List.setIfInBounds_toArray, List.set_cons_succ, List.set_cons_zero]
              refine held_pass 13 146 _ rfl rfl (by kernel_rfl) (by kernel_rfl) (by kernel_rfl) rfl rfl ?_
              simp only [Act.put, List.setIfInBounds_toArray, List.set_cons_succ, List.set_cons_zero]
              refine held_take 14 147 _ (.bool true) rfl rfl (by kernel_rfl) (by kernel_rfl) (by kernel_rfl) rfl rfl (fun _ _ => rfl) ?_
              simp only [Act.put, List.setIfInBounds_toArray, List.set_cons_succ, List.set_cons_zero]
              refine wpAnyH_done (by kernel_rfl) ?_ _
              refine NoPanic.normal ?_
              go_wp2_with fail
              go_roundw
              case rel => exact ⟨N, (J + 1) + 1, rfl, by go_num, hlt, by rw [HN.out, range_step begin HGJ.out, hnp.out]; simp, hN4, hB9d⟩
              case measure => simp [intOf]; omega
            have j1 : decide ((pk.length : Int) < (begin.length : Int)) = false := decide_eq_false (by omega)
            obtain ⟨hst, hsc⟩ := hs9.takesD begin.length (by omega)
            have k5 := seg_stringD hst 9 Tryz.underlying9
            have sl := slice_toD k1a pk.length k1c begin.length hsc w9.drew
            by_cases q2 : pk.take begin.length = begin
            · have hpp : Hid (begin.isPrefixOf pk = true) := prefix_take.2 q2
              refine held_begin (fun V => V = w9.drew) (by kernel_rfl) ?_
              refine held_take 0 133 _ (.slice k1a pk.length k1c) rfl rfl (by kernel_rfl) (by kernel_rfl) (by kernel_rfl) rfl rfl (fun _ _ => rfl) ?_
              simp only [Act.put, List.setIfInBounds_toArray, List.set_cons_succ, List.set_cons_zero]
              refine held_take 1 134 _ (.int .i64 (pk.length : Int)) rfl rfl (by kernel_rfl) (by kernel_rfl) (by kernel_rfl) rfl rfl (fun V _ => exec_len _ rfl _ _ _ rfl) ?_
              simp only [Act.put, List.setIfInBounds_toArray, List.set_cons_succ, List.set_cons_zero]
              refine held_take 2 135 _ (.slice ba begin.length bc) rfl rfl (by kernel_rfl) (by kernel_rfl) (by kernel_rfl) rfl rfl (fun _ _ => rfl) ?_
              simp only [Act.put, List.setIfInBounds_toArray, List.set_cons_succ, List.set_cons_zero]
              refine held_take 3 136 _ (.int .i64 (begin.length : Int)) rfl rfl (by kernel_rfl) (by kernel_rfl) (by kernel_rfl) rfl rfl (fun V _ => exec_len _ rfl _ _ _ rfl) ?_
              simp only [Act.put, List.setIfInBounds_toArray, List.set_cons_succ, List.set_cons_zero]
              refine held_take 4 137 _ (.bool false) rfl rfl (by kernel_rfl) (by kernel_rfl) (by kernel_rfl) rfl rfl (fun V _ => exec_lss8 _ _ _ rfl _ _ _ rfl rfl j1) ?_
              simp only [Act.put, List.setIfInBounds_toArray, List.set_cons_succ, List.set_cons_zero]
              refine held_take 5 138 _ (.bool false) rfl rfl (by kernel_rfl) (by kernel_rfl) (by kernel_rfl) rfl rfl (fun _ _ => rfl) ?_
              simp only [Act.put, List.setIfInBounds_toArray, List.set_cons_succ, List.set_cons_zero]
              refine held_take 6 139 _ (.slice k1a pk.length k1c) rfl rfl (by kernel_rfl) (by kernel_rfl) (by kernel_rfl) rfl rfl (fun _ _ => rfl) ?_
              simp only [Act.put, List.setIfInBounds_toArray, List.set_cons_succ, List.set_cons_zero]
              refine held_take 7 140 _ (.slice ba begin.length bc) rfl rfl (by kernel_rfl) (by kernel_rfl) (by kernel_rfl) rfl rfl (fun _ _ => rfl) ?_
              simp only [Act.put, List.setIfInBounds_toArray, List.set_cons_succ, List.set_cons_zero]
              refine held_take 8 141 _ (.int .i64 (begin.length : Int)) rfl rfl (by kernel_rfl) (by kernel_rfl) (by kernel_rfl) rfl rfl (fun V _ => exec_len _ rfl _ _ _ rfl) ?_
              simp only [Act.put, List.setIfInBounds_toArray, List.set_cons_succ, List.set_cons_zero]
              refine held_take 9 142 _ (.slice k1a begin.length k1c) rfl rfl (by kernel_rfl) (by kernel_rfl) (by kernel_rfl) rfl rfl (fun V hV => exec_slice7 _ _ _ _ rfl _ _ _ _ _ rfl rfl rfl rfl (by rw [hV]; exact sl)) ?_
              simp only [Act.put, List.setIfInBounds_toArray, List.set_cons_succ, List.set_cons_zero]
              refine held_take 10 143 _ (.string ⟨(pk.take begin.length).toArray⟩) rfl rfl (by kernel_rfl) (by kernel_rfl) (by kernel_rfl) rfl rfl (fun V hV => exec_conv _ _ _ rfl _ _ rfl (by rw [hV]; first | exact k5 | (have := k5; simpa using this))) ?_
              simp only [Act.put, List.setIfInBounds_toArray, List.set_cons_succ, List.set_cons_zero]
              refine held_take 11 144 _ (.slice ba begin.length bc) rfl rfl (by kernel_rfl) (by kernel_rfl) (by kernel_rfl) rfl rfl (fun _ _ => rfl) ?_
              simp only [Act.put, List.setIfInBounds_toArray, List.set_cons_succ, List.set_cons_zero]
              refine held_take 12 145 _ (.string ⟨begin.toArray⟩) rfl rfl (by kernel_rfl) (by kernel_rfl) (by kernel_rfl) rfl rfl (fun V hV => exec_conv _ _ _ rfl _ _ rfl (by rw [hV]; exact k4)) ?_
              simp only [Act.put, List.setIfInBounds_toArray, List.set_cons_succ, List.set_cons_zero]
              refine held_take 13 146 _ (.bool false) rfl rfl (by kernel_rfl) (by kernel_rfl) (by kernel_rfl) rfl rfl (fun V _ => exec_neqs _ _ rfl (pk.take begin.length) begin rfl rfl _ (by simp [q2])) ?_
              simp only [Act.put, List.setIfInBounds_toArray, List.set_cons_succ, List.set_cons_zero]
              refine held_take 14 147 _ (.bool false) rfl rfl (by kernel_rfl) (by kernel_rfl) (by kernel_rfl) rfl rfl (fun _ _ => rfl) ?_
              simp only [Act.put, List.setIfInBounds_toArray, List.set_cons_succ, List.set_cons_zero]
              refine wpAnyH_done (by kernel_rfl) ?_ _
              refine NoPanic.normal ?_
              clear k1 k4 k5 sl hst hsc hg9 hs9 d1
              obtain ⟨w10, hw10⟩ : ∃ W, W = w9.drew := ⟨_, rfl⟩
              have s10 := s1.below hd9 (Nat.le_refl _)
              rw [← hw10] at hB9d s10 ⊢
              clear hw10
              have hat : R[N]? = some (pk, pv) := by rw [HRR.out, HN.out]; exact range_at begin HGJ.out hpp.out
              have hNl : N < R.length := (List.getElem?_eq_some_iff.1 hat).1
              have hB10 := hB9d.drew
              obtain ⟨b2, c2, r1a, r1c, r2a, r2c, e2, f1, -, t1, -⟩ := HPB.out.at hB10 hat
              cases e2
              simp only at f1 t1
              have x2 := index_pairs b2 R.length nb N hNl
              have k6 := seg_stringD t1 9 Tryz.underlying9
              have k1 : (convert 34 9 (.slice k1a pk.length k1c)).run Tryz.prog w10.drew = .ok (.string ⟨pk.toArray⟩) w10.drew := seg_stringD (s10.below ((Below.refl w10.heap.size w10).drew) (Nat.le_refl _)) 9 Tryz.underlying9
              have j2 : decide ((R.length : Int) ≤ (N : Int)) = false := decide_eq_false (by omega)
              have hN1 : Hid (N + 1 = (rangeM begin (m.take ((J + 1) + 1))).length) := by
                show _ = _
                rw [range_step begin HGJ.out, hpp.out, List.length_append, ← HN.out]
                rfl
              have hR4 : N + 1 ≤ 4000 := by
                have h1 : R.length ≤ 4000 := by rw [HRR.out]; exact Nat.le_trans (List.length_filter_le ..) hml
                omega
              clear hat t1 s10
              go_wp2_with fail
              refine held_begin (fun V => V = w10.drew) (by kernel_rfl) ?_
              refine held_take 0 148 _ (.int .i64 (N : Int)) rfl rfl (by kernel_rfl) (by kernel_rfl) (by kernel_rfl) rfl rfl (fun _ _ => rfl) ?_
              simp only [Act.put, List.setIfInBounds_toArray, List.set_cons_succ, List.set_cons_zero]
              refine held_take 1 149 _ (.slice (some ⟨b2, 0, none⟩) R.length nb) rfl rfl (by kernel_rfl) (by kernel_rfl) (by kernel_rfl) rfl rfl (fun _ _ => rfl) ?_
              simp only [Act.put, List.setIfInBounds_toArray, List.set_cons_succ, List.set_cons_zero]
              refine held_take 2 150 _ (.int .i64 (R.length : Int)) rfl rfl (by kernel_rfl) (by kernel_rfl) (by kernel_rfl) rfl rfl (fun V _ => exec_lenP _ rfl _ _ _ rfl) ?_
              simp only [Act.put, List.setIfInBounds_toArray, List.set_cons_succ, List.set_cons_zero]
              refine held_take 3 151 _ (.bool false) rfl rfl (by kernel_rfl) (by kernel_rfl) (by kernel_rfl) rfl rfl (fun V _ => exec_geq8 _ _ _ rfl _ _ _ rfl rfl j2) ?_
              simp only [Act.put, List.setIfInBounds_toArray, List.set_cons_succ, List.set_cons_zero]
              refine held_take 4 152 _ (.bool false) rfl rfl (by kernel_rfl) (by kernel_rfl) (by kernel_rfl) rfl rfl (fun _ _ => rfl) ?_
              simp only [Act.put, List.setIfInBounds_toArray, List.set_cons_succ, List.set_cons_zero]
              refine held_take 5 153 _ (.slice (some ⟨b2, 0, none⟩) R.length nb) rfl rfl (by kernel_rfl) (by kernel_rfl) (by kernel_rfl) rfl rfl (fun _ _ => rfl) ?_
              simp only [Act.put, List.setIfInBounds_toArray, List.set_cons_succ, List.set_cons_zero]
              refine held_take 6 154 _ (.int .i64 (N : Int)) rfl rfl (by kernel_rfl) (by kernel_rfl) (by kernel_rfl) rfl rfl (fun _ _ => rfl) ?_
              simp only [Act.put, List.setIfInBounds_toArray, List.set_cons_succ, List.set_cons_zero]
              refine held_take 7 155 _ (.pointer (some ⟨b2, N * 2, none⟩)) rfl rfl (by kernel_rfl) (by kernel_rfl) (by kernel_rfl) rfl rfl (fun V _ => exec_indexat 32 _ _ rfl (.slice (some ⟨b2, 0, none⟩) R.length nb) (.int .i64 ((N : Int))) _ rfl rfl (x2 V)) ?_
              simp only [Act.put, List.setIfInBounds_toArray, List.set_cons_succ, List.set_cons_zero]
              refine held_take 8 156 _ (.pointer (some ⟨b2, N * 2, none⟩)) rfl rfl (by kernel_rfl) (by kernel_rfl) (by kernel_rfl) rfl rfl (fun _ _ => rfl) ?_
              simp only [Act.put, List.setIfInBounds_toArray, List.set_cons_succ, List.set_cons_zero]
              refine held_take 9 157 _ (.slice r1a pk.length r1c) rfl rfl (by kernel_rfl) (by kernel_rfl) (by kernel_rfl) rfl rfl (fun V hV => exec_loadc 34 _ rfl _ _ rfl (load_one 34 (fun _ => rfl) V _ _ _ (by rw [hV]; exact f1))) ?_
              simp only [Act.put, List.setIfInBounds_toArray, List.set_cons_succ, List.set_cons_zero]
              refine held_take 10 158 _ (.string ⟨pk.toArray⟩) rfl rfl (by kernel_rfl) (by kernel_rfl) (by kernel_rfl) rfl rfl (fun V hV => exec_conv _ _ _ rfl _ _ rfl (by rw [hV]; exact k6)) ?_
              simp only [Act.put, List.setIfInBounds_toArray, List.set_cons_succ, List.set_cons_zero]
              refine held_take 11 159 _ (.slice k1a pk.length k1c) rfl rfl (by kernel_rfl) (by kernel_rfl) (by kernel_rfl) rfl rfl (fun _ _ => rfl) ?_
              simp only [Act.put, List.setIfInBounds_toArray, List.set_cons_succ, List.set_cons_zero]
              refine held_take 12 160 _ (.string ⟨pk.toArray⟩) rfl rfl (by kernel_rfl) (by kernel_rfl) (by kernel_rfl) rfl rfl (fun V hV => exec_conv _ _ _ rfl _ _ rfl (by rw [hV]; exact k1)) ?_
              simp only [Act.put, List.setIfInBounds_toArray, List.set_cons_succ, List.set_cons_zero]
              refine held_take 13 161 _ (.bool false) rfl rfl (by kernel_rfl) (by kernel_rfl) (by kernel_rfl) rfl rfl (fun V _ => exec_neqs _ _ rfl pk pk rfl rfl _ (by simp)) ?_
              simp only [Act.put, List.setIfInBounds_toArray, List.set_cons_succ, List.set_cons_zero]
              refine held_take 14 162 _ (.bool false) rfl rfl (by kernel_rfl) (by kernel_rfl) (by kernel_rfl) rfl rfl (fun _ _ => rfl) ?_
              simp only [Act.put, List.setIfInBounds_toArray, List.set_cons_succ, List.set_cons_zero]
              refine wpAnyH_done (by kernel_rfl) ?_ _
              refine NoPanic.normal ?_
              go_wp2_with fail
              go_roundw
              case rel => exact ⟨N + 1, (J + 1) + 1, by go_num, by go_num, hlt, hN1.out, hR4, hB10⟩
              case measure => simp [intOf]; omega
            have hnp : Hid (begin.isPrefixOf pk = false) := by
              show _ = _
              rw [Bool.eq_false_iff]
              intro e
              exact q2 (prefix_take.1 e)
            refine held_begin (fun V => V = w9.drew) (by kernel_rfl) ?_
            refine held_take 0 133 _ (.slice k1a pk.length k1c) rfl rfl (by kernel_rfl) (by kernel_rfl) (by kernel_rfl) rfl rfl (fun _ _ => rfl) ?_
            simp only [Act.put, List.setIfInBounds_toArray, List.set_cons_succ, List.set_cons_zero]
            refine held_take 1 134 _ (.int .i64 (pk.length : Int)) rfl rfl (by kernel_rfl) (by kernel_rfl) (by kernel_rfl) rfl rfl (fun V _ => exec_len _ rfl _ _ _ rfl) ?_
            simp only [Act.put, List.setIfInBounds_toArray, List.set_cons_succ, List.set_cons_zero]
            refine held_take 2 135 _ (.slice ba begin.length bc) rfl rfl (by kernel_rfl) (by kernel_rfl) (by kernel_rfl) rfl rfl (fun _ _ => rfl) ?_
            simp only [Act.put, List.setIfInBounds_toArray, List.set_cons_succ, List.set_cons_zero]
            refine held_take 3 136 _ (.int .i64 (begin.length : Int)) rfl rfl (by kernel_rfl) (by kernel_rfl) (by kernel_rfl) rfl rfl (fun V _ => exec_len _ rfl _ _ _ rfl) ?_
            simp only [Act.put, List.setIfInBounds_toArray, List.set_cons_succ, List.set_cons_zero]
            refine held_take 4 137 _ (.bool false) rfl rfl (by kernel_rfl) (by kernel_rfl) (by kernel_rfl) rfl rfl (fun V _ => exec_lss8 _ _ _ rfl _ _ _ rfl rfl j1) ?_
            simp only [Act.put, List.setIfInBounds_toArray, List.set_cons_succ, List.set_cons_zero]
            refine held_take 5 138 _ (.bool false) rfl rfl (by kernel_rfl) (by kernel_rfl) (by kernel_rfl) rfl rfl (fun _ _ => rfl) ?_
            simp only [Act.put, List.setIfInBounds_toArray, List.set_cons_succ, List.set_cons_zero]
            refine held_take 6 139 _ (.slice k1a pk.length k1c) rfl rfl (by kernel_rfl) (by kernel_rfl) (by kernel_rfl) rfl rfl (fun _ _ => rfl) ?_
            simp only [Act.put, List.setIfInBounds_toArray, List.set_cons_succ, List.set_cons_zero]
            refine held_take 7 140 _ (.slice ba begin.length bc) rfl rfl (by kernel_rfl) (by kernel_rfl) (by kernel_rfl) rfl rfl (fun _ _ => rfl) ?_
            simp only [Act.put, List.setIfInBounds_toArray, List.set_cons_succ, List.set_cons_zero]
            refine held_take 8 141 _ (.int .i64 (begin.length : Int)) rfl rfl (by kernel_rfl) (by kernel_rfl) (by kernel_rfl) rfl rfl (fun V _ => exec_len _ rfl _ _ _ rfl) ?_
            simp only [Act.put, List.setIfInBounds_toArray, List.set_cons_succ, List.set_cons_zero]
            refine held_take 9 142 _ (.slice k1a begin.length k1c) rfl rfl (by kernel_rfl) (by kernel_rfl) (by kernel_rfl) rfl rfl (fun V hV => exec_slice7 _ _ _ _ rfl _ _ _ _ _ rfl rfl rfl rfl (by rw [hV]; exact sl)) ?_
            simp only [Act.put, List.setIfInBounds_toArray, List.set_cons_succ, List.set_cons_zero]
            refine held_take 10 143 _ (.string ⟨(pk.take begin.length).toArray⟩) rfl rfl (by kernel_rfl) (by kernel_rfl) (by kernel_rfl) rfl rfl (fun V hV => exec_conv _ _ _ rfl _ _ rfl (by rw [hV]; first | exact k5 | (have := k5; simpa using this))) ?_
            simp only [Act.put, List.setIfInBounds_toArray, List.set_cons_succ, List.set_cons_zero]
            refine held_take 11 144 _ (.slice ba begin.length bc) rfl rfl (by kernel_rfl) (by kernel_rfl) (by kernel_rfl) rfl rfl (fun _ _ => rfl) ?_
            simp only [Act.put, List.setIfInBounds_toArray, List.set_cons_succ, List.set_cons_zero]
            refine held_take 12 145 _ (.string ⟨begin.toArray⟩) rfl rfl (by kernel_rfl) (by kernel_rfl) (by kernel_rfl) rfl rfl (fun V hV => exec_conv _ _ _ rfl _ _ rfl (by rw [hV]; exact k4)) ?_
            simp only [Act.put, List.setIfInBounds_toArray, List.set_cons_succ, List.set_cons_zero]
            refine held_take 13 146 _ (.bool true) rfl rfl (by kernel_rfl) (by kernel_rfl) (by kernel_rfl) rfl rfl (fun V _ => exec_neqs _ _ rfl (pk.take begin.length) begin rfl rfl _ (by simp [q2])) ?_
            simp only [Act.put, List.setIfInBounds_toArray, List.set_cons_succ, List.set_cons_zero]
            refine held_take 14 147 _ (.bool true) rfl rfl (by kernel_rfl) (by kernel_rfl) (by kernel_rfl) rfl rfl (fun _ _ => rfl) ?_
            simp only [Act.put, List.setIfInBounds_toArray, List.set_cons_succ, List.set_cons_zero]
            refine wpAnyH_done (by kernel_rfl) ?_ _
            refine NoPanic.normal ?_
            go_wp2_with fail
            go_roundw
            case rel => exact ⟨N, (J + 1) + 1, rfl, by go_num, hlt, by rw [HN.out, range_step begin HGJ.out, hnp.out]; simp, hN4, hB9d⟩
            case measure => simp [intOf]; omega
        · have i2 : ¬ (J : Int) < (m.length : Int) := by omega
          have hJm : J = m.length := by omega
          subst hJm
          have hNR : Hid (N = R.length) := by show _ = _; rw [HN.out, HRR.out, List.take_length]
          obtain ⟨hb1, hbW⟩ := HBW.out _ hBW
          have j1 : ((N : Int) == (R.length : Int)) = true := by rw [hNR.out]; exact beq_self_eq_true _
          clear HG HPA HPB hMK hLT HN
          go_wp2_with fail
          refine (HLN.out _ hb1).mono ?_
          rintro e wc ⟨rfl, hwc⟩
          obtain rfl := hwc.symm
          clear hwc
          go_wp2_with fail
          refine (HR3.out 1 _ hb1).mono ?_
          rintro e wd ⟨vd, cd, rfl, hPd, hbd⟩
          obtain ⟨ad, nd, rfl⟩ := hPd.sl
          obtain ⟨K, hK⟩ : ∃ K, K = (m.take 1).length := ⟨_, rfl⟩
          have j2 : ((K : Int) == min 1 (m.length : Int)) = true := by
            rw [hK, List.length_take, beq_iff_eq]
            omega
          rw [← hK]
          have hb2 := blift hb1 hbd hb1.size
          have hb2W := blift hbW hbd hbW.size
          clear hK hPd hbd
          go_wp2_with fail
          refine (HR3.out 0 _ hb2).mono ?_
          rintro e we ⟨ve, ce, rfl, hPe, hbe⟩
          obtain ⟨ae, ne, rfl⟩ := hPe.sl
          rw [show (m.take 0).length = 0 by simp]
          have hb3W := blift hb2W hbe hb2W.size
          clear hPe hbe
          go_wp2_with fail
          go_ret
          exact ⟨rfl, hb3W⟩
end Go.Proofs.YtfghfciigdkioaaGreatR
