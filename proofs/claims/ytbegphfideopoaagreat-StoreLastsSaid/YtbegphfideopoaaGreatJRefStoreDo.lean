/-
  What is proved here: pairs with a change done, by the document.
  Conditions: the pairs and the change lie in memory; the keys rise.
-/
import Derived.Test.YtbegphfideopoaaGreatJRefStoreText
import Derived.Sort.Walk0
namespace Go.Proofs.YtbegphfideopoaaGreat
open Go.RowKit Go.Maps

/-- Pairs in a slice whose bytes are known. -/
def PairsG (G : Value → List UInt8 → Prop) (W : World) (v : Value) (l : PM) : Prop := ∃ ao c, v = .slice ao l.length c ∧ ∀ i p, l[i]? = some p → ∃ b ka kc va vc, ao = some ⟨b, 0, none⟩ ∧ W.cell? ⟨b, i * 2, none⟩ = some (.slice ka p.1.length kc) ∧ W.cell? ⟨b, i * 2 + 1, none⟩ = some (.slice va p.2.length vc) ∧ G (.slice ka p.1.length kc) p.1 ∧ G (.slice va p.2.length vc) p.2 ∧ b < W.heap.size
/-- Pairs in a slice whose bytes lay there ahead. -/
def PairsB (w W : World) (v : Value) (l : PM) : Prop := PairsG (Seg w) W v l
theorem PairsIn.toB {w : World} {v : Value} {l : PM} (h : PairsIn w v l) : PairsB w w v l := by
  obtain ⟨ao, c, rfl, h1⟩ := h
  refine ⟨ao, c, rfl, fun i p hp => ?_⟩
  obtain ⟨b, ka, kc, va, vc, e0, e1, e2, e3, e4, e5⟩ := h1 i p hp
  rw [Nat.mul_comm] at e1 e2
  exact ⟨b, ka, kc, va, vc, e0, e1, e2, e3, e4, e5⟩
theorem PairsB.toIn {w W : World} {v : Value} {l : PM} (h : PairsB w W v l) (hb : Below w.heap.size w W) : PairsIn W v l := by
  obtain ⟨ao, c, rfl, h1⟩ := h
  refine ⟨ao, c, rfl, fun i p hp => ?_⟩
  obtain ⟨b, ka, kc, va, vc, e0, e1, e2, e3, e4, e5⟩ := h1 i p hp
  rw [Nat.mul_comm] at e1 e2
  exact ⟨b, ka, kc, va, vc, e0, e1, e2, e3.below hb (Nat.le_refl _), e4.below hb (Nat.le_refl _), e5⟩
theorem PairsG.held {G : Value → List UInt8 → Prop} {W : World} {v : Value} {l : PM} (h : PairsG G W v l) {I : Nat} {p : List UInt8 × List UInt8} (hp : l[I]? = some p) : ∃ b c ka kc va vc, v = .slice (some ⟨b, 0, none⟩) l.length c ∧ G (.slice ka p.1.length kc) p.1 ∧ G (.slice va p.2.length vc) p.2 ∧ Hid (∀ V, Below W.heap.size W V → V.cell? ⟨b, I * 2, none⟩ = some (.slice ka p.1.length kc) ∧ V.cell? ⟨b, I * 2 + 1, none⟩ = some (.slice va p.2.length vc)) := by
  obtain ⟨ao, c, rfl, h1⟩ := h
  obtain ⟨b, ka, kc, va, vc, e0, e1, e2, e3, e4, e5⟩ := h1 I p hp
  exact ⟨b, c, ka, kc, va, vc, by rw [e0], e3, e4, fun V hV => ⟨(hV.cell (p := ⟨b, I * 2, none⟩) e5).trans e1, (hV.cell (p := ⟨b, I * 2 + 1, none⟩) e5).trans e2⟩⟩
structure PairsA (G : Value → List UInt8 → Prop) (W : World) (base : Nat) (v : Value) (cells : List Value) (l : PM) : Prop where
  own : W.ownsRow base 56 2 v l.length cells
  rows : ∀ i p, l[i]? = some p → ∃ ka kc va vc, cells[2 * i]? = some (.slice ka p.1.length kc) ∧ cells[2 * i + 1]? = some (.slice va p.2.length vc) ∧ G (.slice ka p.1.length kc) p.1 ∧ G (.slice va p.2.length vc) p.2
theorem PairsA.len {G : Value → List UInt8 → Prop} {W : World} {base : Nat} {v : Value} {cells : List Value} {l : PM} (h : PairsA G W base v cells l) : cells.length = 2 * l.length := by have := h.own.1; omega
theorem PairsA.below {G : Value → List UInt8 → Prop} {W W' : World} {base : Nat} {v : Value} {cells : List Value} {l : PM} (h : PairsA G W base v cells l) (hb : Below W.heap.size W W') : PairsA G W' base v cells l :=
  ⟨ownsRow_chg8 h.own (Chg.of_below (S := fun _ => False) hb (Nat.le_refl _)) (fun _ _ h => h), h.rows⟩
theorem PairsA.toB {G : Value → List UInt8 → Prop} {W : World} {base : Nat} {v : Value} {cells : List Value} {l : PM} (h : PairsA G W base v cells l) : PairsG G W v l := by
  have hs : ∃ ao c, v = .slice ao l.length c := by
    rcases h.own.2 with ⟨h1, h2⟩ | ⟨g, cap, cur, h1, _⟩
    · rw [h2]; exact ⟨_, _, h1⟩
    · exact ⟨_, _, h1⟩
  obtain ⟨ao, c, rfl⟩ := hs
  refine ⟨ao, c, rfl, fun i p hp => ?_⟩
  have hi : i < l.length := (List.getElem?_eq_some_iff.1 hp).1
  obtain ⟨ka, kc, va, vc, e1, e2, e3, e4⟩ := h.rows i p hp
  obtain ⟨g, cap, he, hb, hl⟩ := World.ownsRow.form h.own (by omega)
  cases he
  have hc : ∀ (j : Nat) u, cells[j]? = some u → W.cell? ⟨g, j, none⟩ = some u := fun j u hu => by
    have := World.ownsRow.cells h.own (g := g) rfl j u hu
    rwa [Addr.add_mid, Nat.zero_add] at this
  rw [Nat.mul_comm] at e1 e2
  exact ⟨g, ka, kc, va, vc, rfl, hc _ _ e1, hc _ _ e2, e3, e4, hl⟩
/-- One more pair, made in a block of its own and put behind. -/
theorem app_pairA {G : Value → List UInt8 → Prop} {W : World} {base : Nat} {v : Value} {cells : List Value} {l : PM} (h : PairsA G W base v cells l) (p : List UInt8 × List UInt8) (ka va : Option Addr) (kc vc : Nat) (s1 : G (.slice ka p.1.length kc) p.1) (s2 : G (.slice va p.2.length vc) p.2) (hlen : l.length ≤ 10000000) (hbase : base ≤ W.heap.size) :
    ∃ v' W', (∀ ty, (Builtin.append_ #[32, 32] ty #[v, .slice (some ⟨W.heap.size, 0, none⟩) 1 1]).run Tryz.prog (W.alloc (.cells #[.slice ka p.1.length kc, .slice va p.2.length vc] 56)) = .ok v' W') ∧ PairsA G W' base v' (cells ++ [.slice ka p.1.length kc, .slice va p.2.length vc]) (l ++ [p]) ∧ ∀ {B : Nat} {w0 : World}, B ≤ base → Below B w0 W → B ≤ W.heap.size → Below B w0 W' := by
  have hb := (Below.refl W.heap.size W).alloc (Nat.le_refl _) (.cells #[.slice ka p.1.length kc, .slice va p.2.length vc] 56)
  have hk := Blk.new W 56 #[.slice ka p.1.length kc, .slice va p.2.length vc]
  have h' := h.below hb
  obtain ⟨i0, hi, hz0, hz1, hz2⟩ := info_parts info_pair
  obtain ⟨v', w', h0, h2, h3, _, _⟩ := run_append_own_at (P := Tryz.prog) _ base 32 32 56 i0 _ 2 48 under_pairs hi hz0 hz1 hz2 rfl (by decide) v l.length cells h'.own ⟨W.heap.size, 0, none⟩ 1 1 [.slice ka p.1.length kc, .slice va p.2.length vc] rfl (fun j y hy => by
    match j, hy with
    | 0, hy => cases hy; exact hk.cell (j := 0) rfl
    | 1, hy => cases hy; exact hk.cell (j := 1) rfl
    | (j + 2), hy => simp at hy) (fun y hy => by
      simp only [List.mem_cons, List.not_mem_nil, or_false] at hy
      rcases hy with rfl | rfl <;> rfl) (by unfold maxLen; omega) (by omega) (Nat.le_trans hbase hb.size)
  refine ⟨v', w', fun ty => h0, ⟨?_, fun i r hr => ?_⟩, fun {B w0} hB hw hs => below_grown (blift hw hb hs) h3 (Nat.le_trans hs hb.size) (fun q hq => Nat.le_trans hB (World.ownsRow.lt h'.own q hq).1)⟩
  · rw [List.length_append]; exact h2
  · have hl := h.len
    rcases Nat.lt_trichotomy i l.length with hlt | heq | hgt
    · rw [List.getElem?_append_left hlt] at hr
      obtain ⟨ka', kc', va', vc', e1, e2, e3, e4⟩ := h.rows i r hr
      exact ⟨ka', kc', va', vc', by rw [List.getElem?_append_left (by omega)]; exact e1, by rw [List.getElem?_append_left (by omega)]; exact e2, e3, e4⟩
    · subst heq
      rw [List.getElem?_append_right (Nat.le_refl _), Nat.sub_self] at hr
      cases hr
      refine ⟨ka, kc, va, vc, ?_, ?_, s1, s2⟩
      · rw [List.getElem?_append_right (by omega), hl, Nat.sub_self]; rfl
      · rw [List.getElem?_append_right (by omega), hl, show 2 * l.length + 1 - 2 * l.length = 1 by omega]; rfl
    · rw [List.getElem?_eq_none (by simp; omega)] at hr
      cases hr
theorem exec_gtrs {a : Act} {o : Oper} {w : World} (x y : Operand) (ho : o.op = .binOp .gtr 9 x y 9) (p q : List UInt8) (hx : a.eval x = .string ⟨p.toArray⟩) (hy : a.eval y = .string ⟨q.toArray⟩) (r : Bool) (h : decide (q < p) = r) : (execOp a.eval o).run Tryz.prog w = .ok (.value (.bool r)) w := by
  have e : (!Op.bytesLess p q && !(p == q)) = r := by
    rw [bytesLess_eq, ← h]
    rcases lt_three p q with h1 | h1 | h1
    · have h2 : ¬ q < p := fun e => lt_irr _ (lt_tr h1 e)
      simp [h1, h2]
    · subst h1
      simp [lt_irr]
    · have h2 : ¬ p < q := fun e => lt_irr _ (lt_tr h1 e)
      have h3 : p ≠ q := fun e => by rw [e] at h1; exact lt_irr _ h1
      simp [h1, h2, h3]
  unfold execOp
  simp [ho, hx, hy, binOp, Op.stringOp, eqGuard]
  simpa using e
theorem exec_buildPair {a : Act} {o : Oper} {w : World} (x y : Operand) (ho : o.op = .build 56 #[(0, x), (1, y)]) (xa : Option Addr) (xn xc : Nat) (ya : Option Addr) (yn yc : Nat) (hx : a.eval x = .slice xa xn xc) (hy : a.eval y = .slice ya yn yc) : (execOp a.eval o).run Tryz.prog w = .ok (.value (.agg #[.slice xa xn xc, .slice ya yn yc])) w := by
  generalize a.eval = ρ at *
  unfold execOp
  simp only [ho]
  simp [go_sem, hx, hy]
theorem exec_onePair {a : Act} {o : Oper} {w : World} (x : Operand) (ho : o.op = .buildSlice 32 1 #[(0, x)]) (v0 v1 : Value) (hx : a.eval x = .agg #[v0, v1]) : (execOp a.eval o).run Tryz.prog w = .ok (.value (.slice (some ⟨w.heap.size, 0, none⟩) 1 1)) (w.alloc (.cells #[v0, v1] 56)) := by
  generalize a.eval = ρ at *
  unfold execOp
  simp only [ho]
  simp [go_sem, hx]
theorem run_len (o : OpB) : ∀ (m : PM) (a : PM) (b : Bool), (m.foldl (stepD o) (a, b)).1.length ≤ a.length + 2 * m.length
  | [], a, b => by simp
  | p :: m, a, b => by
    rw [List.foldl_cons]
    have h1 := run_len o m (stepD o (a, b) p).1 (stepD o (a, b) p).2
    have h2 : (stepD o (a, b) p).1.length ≤ a.length + 2 := by
      unfold stepD
      split <;> split <;> simp
    have h3 : ((stepD o (a, b) p).1, (stepD o (a, b) p).2) = stepD o (a, b) p := rfl
    rw [h3] at h1
    simp only [List.length_cons]
    omega
theorem put_len8 (k v : List UInt8) : ∀ m : PM, (putM k v m).length ≤ m.length + 1
  | [] => Nat.le_refl _
  | p :: m => by
    have := put_len8 k v m
    unfold putM
    split
    · simp
    · split
      · simp
      · simp only [List.length_cons]; omega
theorem del_len8 (k : List UInt8) : ∀ m : PM, (delM k m).length ≤ m.length
  | [] => Nat.le_refl _
  | p :: m => by
    have := del_len8 k m
    unfold delM
    split
    · simp only [List.length_cons]; omega
    · simp only [List.length_cons]; omega
theorem do_len8 (m : PM) (o : OpB) : (doOp m o).length ≤ m.length + 1 := by
  unfold doOp
  split
  · exact Nat.le_succ_of_le (del_len8 _ _)
  · exact put_len8 _ _ _
theorem do_take (m : PM) {ops : List OpB} {I : Nat} {o : OpB} (h : ops[I]? = some o) : doM m (ops.take (I + 1)) = doOp (doM m (ops.take I)) o := by
  unfold doM
  rw [List.take_add_one, h, List.foldl_append]
  rfl
set_option maxRecDepth 100000 in
set_option maxHeartbeats 16000000 in
theorem do8_gen (G : Value → List UInt8 → Prop) (w0 : World) (x : Value) (m : PM) (v : Value) (ops : List OpB) (w : World) (hx : PairsG G w x m) (hv : OpsV w0 v ops) (hB0 : Below w0.heap.size w0 w) (hG : ∀ v bs, G v bs → ∀ V, Below w.heap.size w V → Seg V v bs) (hOG : ∀ v bs, Seg w0 v bs → G v bs) (hr : RiseM m) (hlm : m.length + ops.length ≤ 1000000) :
    Calls Tryz.prog 15 #[x, v] w fun e w' => ∃ u, e = .returned u ∧ PairsG G w' u (doM m ops) ∧ Below w.heap.size w w' ∧ ∀ q, u.ownBlock = some q → x.ownBlock = some q ∨ (w.heap.size ≤ q ∧ q < w'.heap.size) := by
  have HV : Hid (OpsV w0 v ops) := hv
  have HG : Hid (∀ v bs, G v bs → ∀ V, Below w.heap.size w V → Seg V v bs) := hG
  have HOG : Hid (∀ v bs, Seg w0 v bs → G v bs) := hOG
  clear hG hOG
  have HX : Hid (PairsG G w x m) := hx
  obtain ⟨ao, c, rfl, -, -⟩ := hv
  clear hx
  go_enter Tryz.func15, Tryz.ntmps15
  go_wp2_with fail
  go_loopw [0, 5] (fun lv i wr => ∃ I : Nat, i = .int .i64 (I : Int) ∧ I ≤ ops.length ∧ PairsG G wr lv (doM m (ops.take I)) ∧ (doM m (ops.take I)).length ≤ m.length + I ∧ Below w0.heap.size w0 wr ∧ Below w.heap.size w wr ∧ Hid (∀ q, lv.ownBlock = some q → x.ownBlock = some q ∨ (w.heap.size ≤ q ∧ q < wr.heap.size))) (fun _ i _ => ops.length - (intOf i).toNat)
  case atStart => exact ⟨0, rfl, Nat.zero_le _, HX.out, Nat.le_refl _, hB0, Below.refl _ _, fun q h => .inl h⟩
  case round =>
    obtain ⟨I, rfl, hI, hP, hL, hB, hBx, hOw⟩ := hrel
    by_cases hlt : I < ops.length
    case neg =>
      have i1 : ¬ (I : Int) < (ops.length : Int) := by omega
      have hII : I = ops.length := by omega
      subst hII
      rw [List.take_length] at hP
      go_wp2_with fail
      go_ret
      exact ⟨_, rfl, hP, hBx, hOw.out⟩
    have i1 : (I : Int) < (ops.length : Int) := by omega
    have hg : ops[I]? = some ops[I] := List.getElem?_eq_getElem hlt
    obtain ⟨o, hoo⟩ : ∃ p, ops[I] = p := ⟨_, rfl⟩
    rw [hoo] at hg
    clear hoo
    obtain ⟨b, off, cc, ka, kc, va, vc, e1, HD⟩ := HV.out.held hg
    cases e1
    have x1 := index_ops b off ops.length c I hlt
    have HST : Hid (doM m (ops.take (I + 1)) = doOp (doM m (ops.take I)) o) := do_take m hg
    have HRL : Hid (RiseM (doM m (ops.take I))) := rise_do _ hr
    obtain ⟨l, hl⟩ : ∃ l, l = doM m (ops.take I) := ⟨_, rfl⟩
    rw [← hl] at hP hL HST HRL
    clear hl hg
    obtain ⟨la, lc, hlv, -⟩ := id hP
    subst hlv
    obtain ⟨wi, hwi⟩ : ∃ W, W = wr := ⟨_, rfl⟩
    rw [← hwi] at hP hB hBx ⊢
    clear hwi
    have HP : Hid (PairsG G wi (.slice la l.length lc) l) := hP
    obtain ⟨-, d1, -, so1, so2⟩ := HD.out _ hB
    obtain ⟨-, -, -, so1, so2⟩ := HD.out w0 (Below.refl _ _)
    have so1 := HOG.out _ _ so1
    have so2 := HOG.out _ _ so2
    clear hP
    go_wp2_with fail
    go_loopw [6, 7, 8] (fun ov pv k wr => ∃ (K : Nat) (cells : List Value), k = .int .i64 (K : Int) ∧ K ≤ l.length ∧ pv = .bool (runD o (l.take K)).2 ∧ PairsA G wr wi.heap.size ov cells (runD o (l.take K)).1 ∧ Below wi.heap.size wi wr) (fun _ _ k _ => l.length - (intOf k).toNat)
    case atStart => exact ⟨0, [], rfl, Nat.zero_le _, rfl, ⟨⟨rfl, .inl ⟨rfl, rfl⟩⟩, fun i p h => by simp [runD] at h⟩, Below.refl _ _⟩
    case round =>
      clear d1
      obtain ⟨K, cells, rfl, hK, rfl, hA, hBi⟩ := hrel
      have hAl : (runD o (l.take K)).1.length ≤ 2 * K := by
        have := run_len o (l.take K) [] o.del
        rw [List.length_take] at this
        show ((l.take K).foldl (stepD o) ([], o.del)).1.length ≤ _
        simp only [List.length_nil] at this
        omega
      by_cases hk : K < l.length
      case neg =>
        have k1 : ¬ (K : Int) < (l.length : Int) := by omega
        have hKK : K = l.length := by omega
        subst hKK
        rw [List.take_length] at hA hAl ⊢
        have HE : Hid (endD o l = doOp l o) := endD_do o HRL.out
        have hdl := do_len8 l o
        obtain ⟨s, hs⟩ : ∃ s, s = runD o l := ⟨_, rfl⟩
        have HEN : Hid (endD o l = if s.2 = false then s.1 ++ [(o.key, o.val)] else s.1) := by show _ = _; rw [hs]; rfl
        rw [← hs] at hA hAl ⊢
        clear hs
        obtain ⟨acc, put⟩ := s
        simp only at hA hAl HEN
        obtain ⟨oa, oc, hov, -⟩ := hA.toB
        subst hov
        have hBw := blift hB hBi hB.size
        have hBxw := blift hBx hBi hBx.size
        have hxs := hBx.size
        cases put with
        | true =>
          have HF : Hid (doOp l o = acc) := by show _ = _; rw [← HE.out, HEN.out]; simp
          have hAB := hA.toB
          have HOA : Hid (∀ q, (Value.slice oa acc.length oc).ownBlock = some q → x.ownBlock = some q ∨ (w.heap.size ≤ q ∧ q < wr.heap.size)) := fun q hq => .inr ⟨Nat.le_trans hxs (World.ownsRow.lt hA.own q hq).1, (World.ownsRow.lt hA.own q hq).2⟩
          clear HE HEN hA
          go_wp2_with fail
          go_roundw
          case rel => exact ⟨I + 1, by go_num, hlt, by rw [HST.out, HF.out]; exact hAB, by rw [HST.out]; omega, hBw, hBxw, HOA⟩
          case measure => simp [intOf]; omega
        | false =>
          have HF : Hid (doOp l o = acc ++ [(o.key, o.val)]) := by show _ = _; rw [← HE.out, HEN.out]; simp
          have hBd := blift hBi ((Below.refl wr.heap.size wr).drew) hBi.size
          have hAd := hA.below ((Below.refl wr.heap.size wr).drew)
          clear HE HEN hA
          go_wp2_with fail
          obtain ⟨v9, W9, hr9, hA9, hB9f⟩ := app_pairA hAd (o.key, o.val) ka va kc vc so1 so2 (by omega) hBd.size
          have HR9 : Hid (∀ ty, _ = _) := hr9
          have hB9 := hB9f (Nat.le_refl _) hBd hBd.size
          have HDD : Hid (∀ V, V = wr.drew ∨ V = wr.drew.alloc (.cells #[.slice ka o.key.length kc, .slice va o.val.length vc] 56) ∨ V = W9 → V.cell? ⟨b, off + I * 3, none⟩ = some (.slice ka o.key.length kc) ∧ V.cell? ⟨b, off + I * 3 + 2, none⟩ = some (.slice va o.val.length vc)) := by
            have hq : ∀ V, Below wi.heap.size wi V → V.cell? ⟨b, off + I * 3, none⟩ = some (.slice ka o.key.length kc) ∧ V.cell? ⟨b, off + I * 3 + 2, none⟩ = some (.slice va o.val.length vc) := fun V hV => ⟨(HD.out _ (blift hB hV hB.size)).1, (HD.out _ (blift hB hV hB.size)).2.2.1⟩
            rintro V (rfl | rfl | rfl)
            · exact hq _ hBd
            · exact hq _ (hBd.alloc hBd.size _)
            · exact hq _ hB9
          refine held_begin (fun V => V = wr.drew ∨ V = wr.drew.alloc (.cells #[.slice ka o.key.length kc, .slice va o.val.length vc] 56) ∨ V = W9) (by kernel_rfl) ?_
          refine held_take 0 79 _ (.slice oa acc.length oc) rfl rfl (by kernel_rfl) (by kernel_rfl) (by kernel_rfl) rfl (.inl rfl) (fun _ _ => rfl) ?_
          simp only [Act.put, List.setIfInBounds_toArray, List.set_cons_succ, List.set_cons_zero]
          refine held_take 1 80 _ (.slice (some ⟨b, off, none⟩) ops.length c) rfl rfl (by kernel_rfl) (by kernel_rfl) (by kernel_rfl) rfl (.inl rfl) (fun _ _ => rfl) ?_
          simp only [Act.put, List.setIfInBounds_toArray, List.set_cons_succ, List.set_cons_zero]
          refine held_take 2 81 _ (.int .i64 (I : Int)) rfl rfl (by kernel_rfl) (by kernel_rfl) (by kernel_rfl) rfl (.inl rfl) (fun _ _ => rfl) ?_
          simp only [Act.put, List.setIfInBounds_toArray, List.set_cons_succ, List.set_cons_zero]
          refine held_take 3 82 _ (.pointer (some ⟨b, off + I * 3, none⟩)) rfl rfl (by kernel_rfl) (by kernel_rfl) (by kernel_rfl) rfl (.inl rfl) (fun V _ => exec_indexat 40 _ _ rfl (.slice (some ⟨b, off, none⟩) ops.length c) (.int .i64 (I : Int)) _ rfl rfl (x1 V)) ?_
          simp only [Act.put, List.setIfInBounds_toArray, List.set_cons_succ, List.set_cons_zero]
          refine held_take 4 83 _ (.pointer (some ⟨b, off + I * 3, none⟩)) rfl rfl (by kernel_rfl) (by kernel_rfl) (by kernel_rfl) rfl (.inl rfl) (fun _ _ => rfl) ?_
          simp only [Act.put, List.setIfInBounds_toArray, List.set_cons_succ, List.set_cons_zero]
          refine held_take 5 84 _ (.slice ka o.key.length kc) rfl rfl (by kernel_rfl) (by kernel_rfl) (by kernel_rfl) rfl (.inl rfl) (fun V hV => exec_loadc 34 _ rfl _ _ rfl (load_one 34 (fun _ => rfl) V _ _ _ (HDD.out V hV).1)) ?_
          simp only [Act.put, List.setIfInBounds_toArray, List.set_cons_succ, List.set_cons_zero]
          refine held_take 6 85 _ (.slice (some ⟨b, off, none⟩) ops.length c) rfl rfl (by kernel_rfl) (by kernel_rfl) (by kernel_rfl) rfl (.inl rfl) (fun _ _ => rfl) ?_
          simp only [Act.put, List.setIfInBounds_toArray, List.set_cons_succ, List.set_cons_zero]
          refine held_take 7 86 _ (.int .i64 (I : Int)) rfl rfl (by kernel_rfl) (by kernel_rfl) (by kernel_rfl) rfl (.inl rfl) (fun _ _ => rfl) ?_
          simp only [Act.put, List.setIfInBounds_toArray, List.set_cons_succ, List.set_cons_zero]
          refine held_take 8 87 _ (.pointer (some ⟨b, off + I * 3, none⟩)) rfl rfl (by kernel_rfl) (by kernel_rfl) (by kernel_rfl) rfl (.inl rfl) (fun V _ => exec_indexat 40 _ _ rfl (.slice (some ⟨b, off, none⟩) ops.length c) (.int .i64 (I : Int)) _ rfl rfl (x1 V)) ?_
          simp only [Act.put, List.setIfInBounds_toArray, List.set_cons_succ, List.set_cons_zero]
          refine held_take 9 88 _ (.pointer (some ⟨b, off + I * 3 + 2, none⟩)) rfl rfl (by kernel_rfl) (by kernel_rfl) (by kernel_rfl) rfl (.inl rfl) (fun _ _ => rfl) ?_
          simp only [Act.put, List.setIfInBounds_toArray, List.set_cons_succ, List.set_cons_zero]
          refine held_take 10 89 _ (.slice va o.val.length vc) rfl rfl (by kernel_rfl) (by kernel_rfl) (by kernel_rfl) rfl (.inl rfl) (fun V hV => exec_loadc 34 _ rfl _ _ rfl (load_one 34 (fun _ => rfl) V _ _ _ (HDD.out V hV).2)) ?_
          simp only [Act.put, List.setIfInBounds_toArray, List.set_cons_succ, List.set_cons_zero]
          refine held_take 11 90 _ (.agg #[.slice ka o.key.length kc, .slice va o.val.length vc]) rfl rfl (by kernel_rfl) (by kernel_rfl) (by kernel_rfl) rfl (.inl rfl) (fun _ _ => exec_buildPair _ _ rfl _ _ _ _ _ _ rfl rfl) ?_
          simp only [Act.put, List.setIfInBounds_toArray, List.set_cons_succ, List.set_cons_zero]
          refine held_all1 12 (by kernel_rfl) (op_value 12 91 _ _ _ rfl rfl rfl (exec_onePair _ rfl _ _ rfl) ⟨.inr (.inl rfl), ?_⟩)
          simp only [Act.put, List.setIfInBounds_toArray, List.set_cons_succ, List.set_cons_zero]
          refine held_all1 13 (by kernel_rfl) (op_value 13 92 _ _ _ rfl rfl rfl (exec_app (.tmp 79) (.tmp 91) 32 32 rfl (.slice oa acc.length oc) (.slice (some ⟨wr.drew.heap.size, 0, none⟩) 1 1) _ rfl rfl HR9.out) ⟨.inr (.inr rfl), ?_⟩)
          simp only [Act.put, List.setIfInBounds_toArray, List.set_cons_succ, List.set_cons_zero]
          refine held_all1 14 (by kernel_rfl) (op_value 14 6 _ v9 _ rfl rfl rfl rfl ⟨.inr (.inr rfl), ?_⟩)
          simp only [Act.put, List.setIfInBounds_toArray, List.set_cons_succ, List.set_cons_zero]
          refine wpAnyH_done (by kernel_rfl) ?_ _
          refine NoPanic.normal ?_
          have hAB := hA9.toB
          have hB9w := blift hB hB9 hB.size
          have hB9x := blift hBx hB9 hBx.size
          have HOA : Hid (∀ q, v9.ownBlock = some q → x.ownBlock = some q ∨ (w.heap.size ≤ q ∧ q < W9.heap.size)) := fun q hq => .inr ⟨Nat.le_trans hxs (World.ownsRow.lt hA9.own q hq).1, (World.ownsRow.lt hA9.own q hq).2⟩
          clear hA9 hAd HDD HR9
          go_wp2_with fail
          go_roundw
          case rel => exact ⟨I + 1, by go_num, hlt, by rw [HST.out, HF.out]; exact hAB, by rw [HST.out]; omega, hB9w, hB9x, HOA⟩
          case measure => simp [intOf]; omega
      have k1 : (K : Int) < (l.length : Int) := by omega
      have hgk : l[K]? = some l[K] := List.getElem?_eq_getElem hk
      obtain ⟨p, hpp⟩ : ∃ p, l[K] = p := ⟨_, rfl⟩
      rw [hpp] at hgk
      clear hpp
      obtain ⟨b1, lc', p1a, p1c, p2a, p2c, e2, sp, sp2, HP2⟩ := HP.out.held hgk
      cases e2
      have x2 := index_pairs b1 l.length lc K hk
      have hRS0 := run_step o hgk
      obtain ⟨s, hs⟩ : ∃ s, s = runD o (l.take K) := ⟨_, rfl⟩
      rw [← hs] at hA hAl hRS0 ⊢
      clear hs hgk
      obtain ⟨acc, put⟩ := s
      obtain ⟨pk, pv⟩ := p
      have hRS : Hid (runD o (l.take (K + 1)) = stepD o (acc, put) (pk, pv)) := hRS0
      simp only at hA hAl sp sp2
      have HP2 : Hid (∀ V, Below wi.heap.size wi V → V.cell? ⟨b1, K * 2, none⟩ = some (.slice p1a pk.length p1c) ∧ V.cell? ⟨b1, K * 2 + 1, none⟩ = some (.slice p2a pv.length p2c)) := HP2
      obtain ⟨oa, oc, hov, -⟩ := hA.toB
      subst hov
      clear hRS0
      by_cases hne0 : pk = o.key
      · have hne : (!decide (pk = o.key)) = false := by simp [hne0]
        have hgt : decide (o.key < pk) = false := decide_eq_false (by rw [hne0]; exact lt_irr _)
        have HRS : Hid (runD o (l.take (K + 1)) = (acc, put)) := by
          show _ = _
          rw [hRS.out]
          unfold stepD
          rw [if_neg (fun h => by rw [hne0] at h; exact lt_irr _ h.2), if_pos hne0]
        clear hRS hne0
        cases put with
        | true =>
          go_wp2_with fail
          have hd_ : Below wr.heap.size wr wr.drew := (Below.refl _ _).drew
          have hB5 := blift hBi hd_ hBi.size
          have hw_ := blift hB hB5 hB.size
          have hy_ := blift hBx hB5 hBx.size
          have dp := (HP2.out _ hB5).1
          have dk := (HD.out _ hw_).1
          have kp := seg_stringD (HG.out _ _ sp _ hy_) 9 Tryz.underlying9
          have ko := seg_stringD (HD.out _ hw_).2.2.2.1 9 Tryz.underlying9
          refine held_begin (fun V => V = wr.drew) (by kernel_rfl) ?_
          refine held_take 0 26 _ (.bool true) rfl rfl (by kernel_rfl) (by kernel_rfl) (by kernel_rfl) rfl rfl (fun _ _ => rfl) ?_
          simp only [Act.put, List.setIfInBounds_toArray, List.set_cons_succ, List.set_cons_zero]
          refine held_take 1 27 _ (.bool false) rfl rfl (by kernel_rfl) (by kernel_rfl) (by kernel_rfl) rfl rfl (fun _ _ => rfl) ?_
          simp only [Act.put, List.setIfInBounds_toArray, List.set_cons_succ, List.set_cons_zero]
          refine held_take 2 28 _ (.bool false) rfl rfl (by kernel_rfl) (by kernel_rfl) (by kernel_rfl) rfl rfl (fun _ _ => rfl) ?_
          simp only [Act.put, List.setIfInBounds_toArray, List.set_cons_succ, List.set_cons_zero]
          refine held_pass 3 29 _ rfl rfl (by kernel_rfl) (by kernel_rfl) (by kernel_rfl) rfl rfl ?_
          simp only [Act.put, List.setIfInBounds_toArray, List.set_cons_succ, List.set_cons_zero]
          refine held_pass 4 30 _ rfl rfl (by kernel_rfl) (by kernel_rfl) (by kernel_rfl) rfl rfl ?_
          simp only [Act.put, List.setIfInBounds_toArray, List.set_cons_succ, List.set_cons_zero]
          refine held_pass 5 31 _ rfl rfl (by kernel_rfl) (by kernel_rfl) (by kernel_rfl) rfl rfl ?_
          simp only [Act.put, List.setIfInBounds_toArray, List.set_cons_succ, List.set_cons_zero]
          refine held_pass 6 32 _ rfl rfl (by kernel_rfl) (by kernel_rfl) (by kernel_rfl) rfl rfl ?_
          simp only [Act.put, List.setIfInBounds_toArray, List.set_cons_succ, List.set_cons_zero]
          refine held_pass 7 33 _ rfl rfl (by kernel_rfl) (by kernel_rfl) (by kernel_rfl) rfl rfl ?_
          simp only [Act.put, List.setIfInBounds_toArray, List.set_cons_succ, List.set_cons_zero]
          refine held_pass 8 34 _ rfl rfl (by kernel_rfl) (by kernel_rfl) (by kernel_rfl) rfl rfl ?_
          simp only [Act.put, List.setIfInBounds_toArray, List.set_cons_succ, List.set_cons_zero]
          refine held_pass 9 35 _ rfl rfl (by kernel_rfl) (by kernel_rfl) (by kernel_rfl) rfl rfl ?_
          simp only [Act.put, List.setIfInBounds_toArray, List.set_cons_succ, List.set_cons_zero]
          refine held_pass 10 36 _ rfl rfl (by kernel_rfl) (by kernel_rfl) (by kernel_rfl) rfl rfl ?_
          simp only [Act.put, List.setIfInBounds_toArray, List.set_cons_succ, List.set_cons_zero]
          refine held_pass 11 37 _ rfl rfl (by kernel_rfl) (by kernel_rfl) (by kernel_rfl) rfl rfl ?_
          simp only [Act.put, List.setIfInBounds_toArray, List.set_cons_succ, List.set_cons_zero]
          refine held_pass 12 38 _ rfl rfl (by kernel_rfl) (by kernel_rfl) (by kernel_rfl) rfl rfl ?_
          simp only [Act.put, List.setIfInBounds_toArray, List.set_cons_succ, List.set_cons_zero]
          refine held_pass 13 39 _ rfl rfl (by kernel_rfl) (by kernel_rfl) (by kernel_rfl) rfl rfl ?_
          simp only [Act.put, List.setIfInBounds_toArray, List.set_cons_succ, List.set_cons_zero]
          refine held_pass 14 40 _ rfl rfl (by kernel_rfl) (by kernel_rfl) (by kernel_rfl) rfl rfl ?_
          simp only [Act.put, List.setIfInBounds_toArray, List.set_cons_succ, List.set_cons_zero]
          refine held_pass 15 41 _ rfl rfl (by kernel_rfl) (by kernel_rfl) (by kernel_rfl) rfl rfl ?_
          simp only [Act.put, List.setIfInBounds_toArray, List.set_cons_succ, List.set_cons_zero]
          refine held_take 16 42 _ (.bool false) rfl rfl (by kernel_rfl) (by kernel_rfl) (by kernel_rfl) rfl rfl (fun _ _ => rfl) ?_
          simp only [Act.put, List.setIfInBounds_toArray, List.set_cons_succ, List.set_cons_zero]
          refine wpAnyH_done (by kernel_rfl) ?_ _
          refine NoPanic.normal ?_
          obtain ⟨w5, hw5⟩ : ∃ W, W = wr.drew := ⟨_, rfl⟩
          have hA5 := hA.below hd_
          rw [← hw5] at hB5 hA5 ⊢
          clear hw5 dp dk kp ko hw_ hy_ hd_ hA
          go_wp2_with fail
          have hBi := hB5
          have hd_ : Below w5.heap.size w5 w5.drew := (Below.refl _ _).drew
          have hB7 := blift hBi hd_ hBi.size
          have hw_ := blift hB hB7 hB.size
          have hy_ := blift hBx hB7 hBx.size
          have dp := (HP2.out _ hB7).1
          have dk := (HD.out _ hw_).1
          have kp := seg_stringD (HG.out _ _ sp _ hy_) 9 Tryz.underlying9
          have ko := seg_stringD (HD.out _ hw_).2.2.2.1 9 Tryz.underlying9
          refine held_begin (fun V => V = w5.drew) (by kernel_rfl) ?_
          refine held_take 0 57 _ (.slice (some ⟨b1, 0, none⟩) l.length lc) rfl rfl (by kernel_rfl) (by kernel_rfl) (by kernel_rfl) rfl rfl (fun _ _ => rfl) ?_
          simp only [Act.put, List.setIfInBounds_toArray, List.set_cons_succ, List.set_cons_zero]
          refine held_take 1 58 _ (.int .i64 (K : Int)) rfl rfl (by kernel_rfl) (by kernel_rfl) (by kernel_rfl) rfl rfl (fun _ _ => rfl) ?_
          simp only [Act.put, List.setIfInBounds_toArray, List.set_cons_succ, List.set_cons_zero]
          refine held_take 2 59 _ (.pointer (some ⟨b1, K * 2, none⟩)) rfl rfl (by kernel_rfl) (by kernel_rfl) (by kernel_rfl) rfl rfl (fun V _ => exec_indexat 32 _ _ rfl (.slice (some ⟨b1, 0, none⟩) l.length lc) (.int .i64 (K : Int)) _ rfl rfl (x2 V)) ?_
          simp only [Act.put, List.setIfInBounds_toArray, List.set_cons_succ, List.set_cons_zero]
          refine held_take 3 60 _ (.pointer (some ⟨b1, K * 2, none⟩)) rfl rfl (by kernel_rfl) (by kernel_rfl) (by kernel_rfl) rfl rfl (fun _ _ => rfl) ?_
          simp only [Act.put, List.setIfInBounds_toArray, List.set_cons_succ, List.set_cons_zero]
          refine held_take 4 61 _ (.slice p1a pk.length p1c) rfl rfl (by kernel_rfl) (by kernel_rfl) (by kernel_rfl) rfl rfl (fun V hV => exec_loadc 34 _ rfl _ _ rfl (load_one 34 (fun _ => rfl) V _ _ _ (by rw [hV]; exact dp))) ?_
          simp only [Act.put, List.setIfInBounds_toArray, List.set_cons_succ, List.set_cons_zero]
          refine held_take 5 62 _ (.string ⟨pk.toArray⟩) rfl rfl (by kernel_rfl) (by kernel_rfl) (by kernel_rfl) rfl rfl (fun V hV => exec_conv _ _ _ rfl _ _ rfl (by rw [hV]; exact kp)) ?_
          simp only [Act.put, List.setIfInBounds_toArray, List.set_cons_succ, List.set_cons_zero]
          refine held_take 6 63 _ (.slice (some ⟨b, off, none⟩) ops.length c) rfl rfl (by kernel_rfl) (by kernel_rfl) (by kernel_rfl) rfl rfl (fun _ _ => rfl) ?_
          simp only [Act.put, List.setIfInBounds_toArray, List.set_cons_succ, List.set_cons_zero]
          refine held_take 7 64 _ (.int .i64 (I : Int)) rfl rfl (by kernel_rfl) (by kernel_rfl) (by kernel_rfl) rfl rfl (fun _ _ => rfl) ?_
          simp only [Act.put, List.setIfInBounds_toArray, List.set_cons_succ, List.set_cons_zero]
          refine held_take 8 65 _ (.pointer (some ⟨b, off + I * 3, none⟩)) rfl rfl (by kernel_rfl) (by kernel_rfl) (by kernel_rfl) rfl rfl (fun V _ => exec_indexat 40 _ _ rfl (.slice (some ⟨b, off, none⟩) ops.length c) (.int .i64 (I : Int)) _ rfl rfl (x1 V)) ?_
          simp only [Act.put, List.setIfInBounds_toArray, List.set_cons_succ, List.set_cons_zero]
          refine held_take 9 66 _ (.pointer (some ⟨b, off + I * 3, none⟩)) rfl rfl (by kernel_rfl) (by kernel_rfl) (by kernel_rfl) rfl rfl (fun _ _ => rfl) ?_
          simp only [Act.put, List.setIfInBounds_toArray, List.set_cons_succ, List.set_cons_zero]
          refine held_take 10 67 _ (.slice ka o.key.length kc) rfl rfl (by kernel_rfl) (by kernel_rfl) (by kernel_rfl) rfl rfl (fun V hV => exec_loadc 34 _ rfl _ _ rfl (load_one 34 (fun _ => rfl) V _ _ _ (by rw [hV]; exact dk))) ?_
          simp only [Act.put, List.setIfInBounds_toArray, List.set_cons_succ, List.set_cons_zero]
          refine held_take 11 68 _ (.string ⟨o.key.toArray⟩) rfl rfl (by kernel_rfl) (by kernel_rfl) (by kernel_rfl) rfl rfl (fun V hV => exec_conv _ _ _ rfl _ _ rfl (by rw [hV]; exact ko)) ?_
          simp only [Act.put, List.setIfInBounds_toArray, List.set_cons_succ, List.set_cons_zero]
          refine held_take 12 69 _ (.bool false) rfl rfl (by kernel_rfl) (by kernel_rfl) (by kernel_rfl) rfl rfl (fun V _ => exec_neqs _ _ rfl pk o.key rfl rfl _ hne) ?_
          simp only [Act.put, List.setIfInBounds_toArray, List.set_cons_succ, List.set_cons_zero]
          refine wpAnyH_done (by kernel_rfl) ?_ _
          refine NoPanic.normal ?_
          have hA7 := hA5.below hd_
          clear dp dk kp ko
          go_wp2_with fail
          go_roundw
          case rel => exact ⟨K + 1, _, by go_num, hk, by rw [HRS.out], by rw [HRS.out]; exact hA7, hB7⟩
          case measure => simp [intOf]; omega
        | false =>
          go_wp2_with fail
          have hd_ : Below wr.heap.size wr wr.drew := (Below.refl _ _).drew
          have hB5 := blift hBi hd_ hBi.size
          have hw_ := blift hB hB5 hB.size
          have hy_ := blift hBx hB5 hBx.size
          have dp := (HP2.out _ hB5).1
          have dk := (HD.out _ hw_).1
          have kp := seg_stringD (HG.out _ _ sp _ hy_) 9 Tryz.underlying9
          have ko := seg_stringD (HD.out _ hw_).2.2.2.1 9 Tryz.underlying9
          refine held_begin (fun V => V = wr.drew) (by kernel_rfl) ?_
          refine held_take 0 26 _ (.bool false) rfl rfl (by kernel_rfl) (by kernel_rfl) (by kernel_rfl) rfl rfl (fun _ _ => rfl) ?_
          simp only [Act.put, List.setIfInBounds_toArray, List.set_cons_succ, List.set_cons_zero]
          refine held_take 1 27 _ (.bool true) rfl rfl (by kernel_rfl) (by kernel_rfl) (by kernel_rfl) rfl rfl (fun _ _ => rfl) ?_
          simp only [Act.put, List.setIfInBounds_toArray, List.set_cons_succ, List.set_cons_zero]
          refine held_take 2 28 _ (.bool true) rfl rfl (by kernel_rfl) (by kernel_rfl) (by kernel_rfl) rfl rfl (fun _ _ => rfl) ?_
          simp only [Act.put, List.setIfInBounds_toArray, List.set_cons_succ, List.set_cons_zero]
          refine held_take 3 29 _ (.slice (some ⟨b1, 0, none⟩) l.length lc) rfl rfl (by kernel_rfl) (by kernel_rfl) (by kernel_rfl) rfl rfl (fun _ _ => rfl) ?_
          simp only [Act.put, List.setIfInBounds_toArray, List.set_cons_succ, List.set_cons_zero]
          refine held_take 4 30 _ (.int .i64 (K : Int)) rfl rfl (by kernel_rfl) (by kernel_rfl) (by kernel_rfl) rfl rfl (fun _ _ => rfl) ?_
          simp only [Act.put, List.setIfInBounds_toArray, List.set_cons_succ, List.set_cons_zero]
          refine held_take 5 31 _ (.pointer (some ⟨b1, K * 2, none⟩)) rfl rfl (by kernel_rfl) (by kernel_rfl) (by kernel_rfl) rfl rfl (fun V _ => exec_indexat 32 _ _ rfl (.slice (some ⟨b1, 0, none⟩) l.length lc) (.int .i64 (K : Int)) _ rfl rfl (x2 V)) ?_
          simp only [Act.put, List.setIfInBounds_toArray, List.set_cons_succ, List.set_cons_zero]
          refine held_take 6 32 _ (.pointer (some ⟨b1, K * 2, none⟩)) rfl rfl (by kernel_rfl) (by kernel_rfl) (by kernel_rfl) rfl rfl (fun _ _ => rfl) ?_
          simp only [Act.put, List.setIfInBounds_toArray, List.set_cons_succ, List.set_cons_zero]
          refine held_take 7 33 _ (.slice p1a pk.length p1c) rfl rfl (by kernel_rfl) (by kernel_rfl) (by kernel_rfl) rfl rfl (fun V hV => exec_loadc 34 _ rfl _ _ rfl (load_one 34 (fun _ => rfl) V _ _ _ (by rw [hV]; exact dp))) ?_
          simp only [Act.put, List.setIfInBounds_toArray, List.set_cons_succ, List.set_cons_zero]
          refine held_take 8 34 _ (.string ⟨pk.toArray⟩) rfl rfl (by kernel_rfl) (by kernel_rfl) (by kernel_rfl) rfl rfl (fun V hV => exec_conv _ _ _ rfl _ _ rfl (by rw [hV]; exact kp)) ?_
          simp only [Act.put, List.setIfInBounds_toArray, List.set_cons_succ, List.set_cons_zero]
          refine held_take 9 35 _ (.slice (some ⟨b, off, none⟩) ops.length c) rfl rfl (by kernel_rfl) (by kernel_rfl) (by kernel_rfl) rfl rfl (fun _ _ => rfl) ?_
          simp only [Act.put, List.setIfInBounds_toArray, List.set_cons_succ, List.set_cons_zero]
          refine held_take 10 36 _ (.int .i64 (I : Int)) rfl rfl (by kernel_rfl) (by kernel_rfl) (by kernel_rfl) rfl rfl (fun _ _ => rfl) ?_
          simp only [Act.put, List.setIfInBounds_toArray, List.set_cons_succ, List.set_cons_zero]
          refine held_take 11 37 _ (.pointer (some ⟨b, off + I * 3, none⟩)) rfl rfl (by kernel_rfl) (by kernel_rfl) (by kernel_rfl) rfl rfl (fun V _ => exec_indexat 40 _ _ rfl (.slice (some ⟨b, off, none⟩) ops.length c) (.int .i64 (I : Int)) _ rfl rfl (x1 V)) ?_
          simp only [Act.put, List.setIfInBounds_toArray, List.set_cons_succ, List.set_cons_zero]
          refine held_take 12 38 _ (.pointer (some ⟨b, off + I * 3, none⟩)) rfl rfl (by kernel_rfl) (by kernel_rfl) (by kernel_rfl) rfl rfl (fun _ _ => rfl) ?_
          simp only [Act.put, List.setIfInBounds_toArray, List.set_cons_succ, List.set_cons_zero]
          refine held_take 13 39 _ (.slice ka o.key.length kc) rfl rfl (by kernel_rfl) (by kernel_rfl) (by kernel_rfl) rfl rfl (fun V hV => exec_loadc 34 _ rfl _ _ rfl (load_one 34 (fun _ => rfl) V _ _ _ (by rw [hV]; exact dk))) ?_
          simp only [Act.put, List.setIfInBounds_toArray, List.set_cons_succ, List.set_cons_zero]
          refine held_take 14 40 _ (.string ⟨o.key.toArray⟩) rfl rfl (by kernel_rfl) (by kernel_rfl) (by kernel_rfl) rfl rfl (fun V hV => exec_conv _ _ _ rfl _ _ rfl (by rw [hV]; exact ko)) ?_
          simp only [Act.put, List.setIfInBounds_toArray, List.set_cons_succ, List.set_cons_zero]
          refine held_take 15 41 _ (.bool false) rfl rfl (by kernel_rfl) (by kernel_rfl) (by kernel_rfl) rfl rfl (fun V _ => exec_gtrs _ _ rfl pk o.key rfl rfl _ hgt) ?_
          simp only [Act.put, List.setIfInBounds_toArray, List.set_cons_succ, List.set_cons_zero]
          refine held_take 16 42 _ (.bool false) rfl rfl (by kernel_rfl) (by kernel_rfl) (by kernel_rfl) rfl rfl (fun _ _ => rfl) ?_
          simp only [Act.put, List.setIfInBounds_toArray, List.set_cons_succ, List.set_cons_zero]
          refine wpAnyH_done (by kernel_rfl) ?_ _
          refine NoPanic.normal ?_
          obtain ⟨w5, hw5⟩ : ∃ W, W = wr.drew := ⟨_, rfl⟩
          have hA5 := hA.below hd_
          rw [← hw5] at hB5 hA5 ⊢
          clear hw5 dp dk kp ko hw_ hy_ hd_ hA
          go_wp2_with fail
          have hBi := hB5
          have hd_ : Below w5.heap.size w5 w5.drew := (Below.refl _ _).drew
          have hB7 := blift hBi hd_ hBi.size
          have hw_ := blift hB hB7 hB.size
          have hy_ := blift hBx hB7 hBx.size
          have dp := (HP2.out _ hB7).1
          have dk := (HD.out _ hw_).1
          have kp := seg_stringD (HG.out _ _ sp _ hy_) 9 Tryz.underlying9
          have ko := seg_stringD (HD.out _ hw_).2.2.2.1 9 Tryz.underlying9
          refine held_begin (fun V => V = w5.drew) (by kernel_rfl) ?_
          refine held_take 0 57 _ (.slice (some ⟨b1, 0, none⟩) l.length lc) rfl rfl (by kernel_rfl) (by kernel_rfl) (by kernel_rfl) rfl rfl (fun _ _ => rfl) ?_
          simp only [Act.put, List.setIfInBounds_toArray, List.set_cons_succ, List.set_cons_zero]
          refine held_take 1 58 _ (.int .i64 (K : Int)) rfl rfl (by kernel_rfl) (by kernel_rfl) (by kernel_rfl) rfl rfl (fun _ _ => rfl) ?_
          simp only [Act.put, List.setIfInBounds_toArray, List.set_cons_succ, List.set_cons_zero]
          refine held_take 2 59 _ (.pointer (some ⟨b1, K * 2, none⟩)) rfl rfl (by kernel_rfl) (by kernel_rfl) (by kernel_rfl) rfl rfl (fun V _ => exec_indexat 32 _ _ rfl (.slice (some ⟨b1, 0, none⟩) l.length lc) (.int .i64 (K : Int)) _ rfl rfl (x2 V)) ?_
          simp only [Act.put, List.setIfInBounds_toArray, List.set_cons_succ, List.set_cons_zero]
          refine held_take 3 60 _ (.pointer (some ⟨b1, K * 2, none⟩)) rfl rfl (by kernel_rfl) (by kernel_rfl) (by kernel_rfl) rfl rfl (fun _ _ => rfl) ?_
          simp only [Act.put, List.setIfInBounds_toArray, List.set_cons_succ, List.set_cons_zero]
          refine held_take 4 61 _ (.slice p1a pk.length p1c) rfl rfl (by kernel_rfl) (by kernel_rfl) (by kernel_rfl) rfl rfl (fun V hV => exec_loadc 34 _ rfl _ _ rfl (load_one 34 (fun _ => rfl) V _ _ _ (by rw [hV]; exact dp))) ?_
          simp only [Act.put, List.setIfInBounds_toArray, List.set_cons_succ, List.set_cons_zero]
          refine held_take 5 62 _ (.string ⟨pk.toArray⟩) rfl rfl (by kernel_rfl) (by kernel_rfl) (by kernel_rfl) rfl rfl (fun V hV => exec_conv _ _ _ rfl _ _ rfl (by rw [hV]; exact kp)) ?_
          simp only [Act.put, List.setIfInBounds_toArray, List.set_cons_succ, List.set_cons_zero]
          refine held_take 6 63 _ (.slice (some ⟨b, off, none⟩) ops.length c) rfl rfl (by kernel_rfl) (by kernel_rfl) (by kernel_rfl) rfl rfl (fun _ _ => rfl) ?_
          simp only [Act.put, List.setIfInBounds_toArray, List.set_cons_succ, List.set_cons_zero]
          refine held_take 7 64 _ (.int .i64 (I : Int)) rfl rfl (by kernel_rfl) (by kernel_rfl) (by kernel_rfl) rfl rfl (fun _ _ => rfl) ?_
          simp only [Act.put, List.setIfInBounds_toArray, List.set_cons_succ, List.set_cons_zero]
          refine held_take 8 65 _ (.pointer (some ⟨b, off + I * 3, none⟩)) rfl rfl (by kernel_rfl) (by kernel_rfl) (by kernel_rfl) rfl rfl (fun V _ => exec_indexat 40 _ _ rfl (.slice (some ⟨b, off, none⟩) ops.length c) (.int .i64 (I : Int)) _ rfl rfl (x1 V)) ?_
          simp only [Act.put, List.setIfInBounds_toArray, List.set_cons_succ, List.set_cons_zero]
          refine held_take 9 66 _ (.pointer (some ⟨b, off + I * 3, none⟩)) rfl rfl (by kernel_rfl) (by kernel_rfl) (by kernel_rfl) rfl rfl (fun _ _ => rfl) ?_
          simp only [Act.put, List.setIfInBounds_toArray, List.set_cons_succ, List.set_cons_zero]
          refine held_take 10 67 _ (.slice ka o.key.length kc) rfl rfl (by kernel_rfl) (by kernel_rfl) (by kernel_rfl) rfl rfl (fun V hV => exec_loadc 34 _ rfl _ _ rfl (load_one 34 (fun _ => rfl) V _ _ _ (by rw [hV]; exact dk))) ?_
          simp only [Act.put, List.setIfInBounds_toArray, List.set_cons_succ, List.set_cons_zero]
          refine held_take 11 68 _ (.string ⟨o.key.toArray⟩) rfl rfl (by kernel_rfl) (by kernel_rfl) (by kernel_rfl) rfl rfl (fun V hV => exec_conv _ _ _ rfl _ _ rfl (by rw [hV]; exact ko)) ?_
          simp only [Act.put, List.setIfInBounds_toArray, List.set_cons_succ, List.set_cons_zero]
          refine held_take 12 69 _ (.bool false) rfl rfl (by kernel_rfl) (by kernel_rfl) (by kernel_rfl) rfl rfl (fun V _ => exec_neqs _ _ rfl pk o.key rfl rfl _ hne) ?_
          simp only [Act.put, List.setIfInBounds_toArray, List.set_cons_succ, List.set_cons_zero]
          refine wpAnyH_done (by kernel_rfl) ?_ _
          refine NoPanic.normal ?_
          have hA7 := hA5.below hd_
          clear dp dk kp ko
          go_wp2_with fail
          go_roundw
          case rel => exact ⟨K + 1, _, by go_num, hk, by rw [HRS.out], by rw [HRS.out]; exact hA7, hB7⟩
          case measure => simp [intOf]; omega
      · have hne : (!decide (pk = o.key)) = true := by simp [hne0]
        cases put with
        | true =>
          have HRS : Hid (runD o (l.take (K + 1)) = (acc ++ [(pk, pv)], true)) := by
            show _ = _
            rw [hRS.out]
            unfold stepD
            rw [if_neg (fun h => by cases h.1), if_neg hne0]
          clear hRS hne0
          go_wp2_with fail
          have hd_ : Below wr.heap.size wr wr.drew := (Below.refl _ _).drew
          have hB5 := blift hBi hd_ hBi.size
          have hw_ := blift hB hB5 hB.size
          have hy_ := blift hBx hB5 hBx.size
          have dp := (HP2.out _ hB5).1
          have dk := (HD.out _ hw_).1
          have kp := seg_stringD (HG.out _ _ sp _ hy_) 9 Tryz.underlying9
          have ko := seg_stringD (HD.out _ hw_).2.2.2.1 9 Tryz.underlying9
          refine held_begin (fun V => V = wr.drew) (by kernel_rfl) ?_
          refine held_take 0 26 _ (.bool true) rfl rfl (by kernel_rfl) (by kernel_rfl) (by kernel_rfl) rfl rfl (fun _ _ => rfl) ?_
          simp only [Act.put, List.setIfInBounds_toArray, List.set_cons_succ, List.set_cons_zero]
          refine held_take 1 27 _ (.bool false) rfl rfl (by kernel_rfl) (by kernel_rfl) (by kernel_rfl) rfl rfl (fun _ _ => rfl) ?_
          simp only [Act.put, List.setIfInBounds_toArray, List.set_cons_succ, List.set_cons_zero]
          refine held_take 2 28 _ (.bool false) rfl rfl (by kernel_rfl) (by kernel_rfl) (by kernel_rfl) rfl rfl (fun _ _ => rfl) ?_
          simp only [Act.put, List.setIfInBounds_toArray, List.set_cons_succ, List.set_cons_zero]
          refine held_pass 3 29 _ rfl rfl (by kernel_rfl) (by kernel_rfl) (by kernel_rfl) rfl rfl ?_
          simp only [Act.put, List.setIfInBounds_toArray, List.set_cons_succ, List.set_cons_zero]
          refine held_pass 4 30 _ rfl rfl (by kernel_rfl) (by kernel_rfl) (by kernel_rfl) rfl rfl ?_
          simp only [Act.put, List.setIfInBounds_toArray, List.set_cons_succ, List.set_cons_zero]
          refine held_pass 5 31 _ rfl rfl (by kernel_rfl) (by kernel_rfl) (by kernel_rfl) rfl rfl ?_
          simp only [Act.put, List.setIfInBounds_toArray, List.set_cons_succ, List.set_cons_zero]
          refine held_pass 6 32 _ rfl rfl (by kernel_rfl) (by kernel_rfl) (by kernel_rfl) rfl rfl ?_
          simp only [Act.put, List.setIfInBounds_toArray, List.set_cons_succ, List.set_cons_zero]
          refine held_pass 7 33 _ rfl rfl (by kernel_rfl) (by kernel_rfl) (by kernel_rfl) rfl rfl ?_
          simp only [Act.put, List.setIfInBounds_toArray, List.set_cons_succ, List.set_cons_zero]
          refine held_pass 8 34 _ rfl rfl (by kernel_rfl) (by kernel_rfl) (by kernel_rfl) rfl rfl ?_
          simp only [Act.put, List.setIfInBounds_toArray, List.set_cons_succ, List.set_cons_zero]
          refine held_pass 9 35 _ rfl rfl (by kernel_rfl) (by kernel_rfl) (by kernel_rfl) rfl rfl ?_
          simp only [Act.put, List.setIfInBounds_toArray, List.set_cons_succ, List.set_cons_zero]
          refine held_pass 10 36 _ rfl rfl (by kernel_rfl) (by kernel_rfl) (by kernel_rfl) rfl rfl ?_
          simp only [Act.put, List.setIfInBounds_toArray, List.set_cons_succ, List.set_cons_zero]
          refine held_pass 11 37 _ rfl rfl (by kernel_rfl) (by kernel_rfl) (by kernel_rfl) rfl rfl ?_
          simp only [Act.put, List.setIfInBounds_toArray, List.set_cons_succ, List.set_cons_zero]
          refine held_pass 12 38 _ rfl rfl (by kernel_rfl) (by kernel_rfl) (by kernel_rfl) rfl rfl ?_
          simp only [Act.put, List.setIfInBounds_toArray, List.set_cons_succ, List.set_cons_zero]
          refine held_pass 13 39 _ rfl rfl (by kernel_rfl) (by kernel_rfl) (by kernel_rfl) rfl rfl ?_
          simp only [Act.put, List.setIfInBounds_toArray, List.set_cons_succ, List.set_cons_zero]
          refine held_pass 14 40 _ rfl rfl (by kernel_rfl) (by kernel_rfl) (by kernel_rfl) rfl rfl ?_
          simp only [Act.put, List.setIfInBounds_toArray, List.set_cons_succ, List.set_cons_zero]
          refine held_pass 15 41 _ rfl rfl (by kernel_rfl) (by kernel_rfl) (by kernel_rfl) rfl rfl ?_
          simp only [Act.put, List.setIfInBounds_toArray, List.set_cons_succ, List.set_cons_zero]
          refine held_take 16 42 _ (.bool false) rfl rfl (by kernel_rfl) (by kernel_rfl) (by kernel_rfl) rfl rfl (fun _ _ => rfl) ?_
          simp only [Act.put, List.setIfInBounds_toArray, List.set_cons_succ, List.set_cons_zero]
          refine wpAnyH_done (by kernel_rfl) ?_ _
          refine NoPanic.normal ?_
          obtain ⟨w5, hw5⟩ : ∃ W, W = wr.drew := ⟨_, rfl⟩
          have hA5 := hA.below hd_
          rw [← hw5] at hB5 hA5 ⊢
          clear hw5 dp dk kp ko hw_ hy_ hd_ hA
          go_wp2_with fail
          have hBi := hB5
          have hd_ : Below w5.heap.size w5 w5.drew := (Below.refl _ _).drew
          have hB7 := blift hBi hd_ hBi.size
          have hw_ := blift hB hB7 hB.size
          have hy_ := blift hBx hB7 hBx.size
          have dp := (HP2.out _ hB7).1
          have dk := (HD.out _ hw_).1
          have kp := seg_stringD (HG.out _ _ sp _ hy_) 9 Tryz.underlying9
          have ko := seg_stringD (HD.out _ hw_).2.2.2.1 9 Tryz.underlying9
          refine held_begin (fun V => V = w5.drew) (by kernel_rfl) ?_
          refine held_take 0 57 _ (.slice (some ⟨b1, 0, none⟩) l.length lc) rfl rfl (by kernel_rfl) (by kernel_rfl) (by kernel_rfl) rfl rfl (fun _ _ => rfl) ?_
          simp only [Act.put, List.setIfInBounds_toArray, List.set_cons_succ, List.set_cons_zero]
          refine held_take 1 58 _ (.int .i64 (K : Int)) rfl rfl (by kernel_rfl) (by kernel_rfl) (by kernel_rfl) rfl rfl (fun _ _ => rfl) ?_
          simp only [Act.put, List.setIfInBounds_toArray, List.set_cons_succ, List.set_cons_zero]
          refine held_take 2 59 _ (.pointer (some ⟨b1, K * 2, none⟩)) rfl rfl (by kernel_rfl) (by kernel_rfl) (by kernel_rfl) rfl rfl (fun V _ => exec_indexat 32 _ _ rfl (.slice (some ⟨b1, 0, none⟩) l.length lc) (.int .i64 (K : Int)) _ rfl rfl (x2 V)) ?_
          simp only [Act.put, List.setIfInBounds_toArray, List.set_cons_succ, List.set_cons_zero]
          refine held_take 3 60 _ (.pointer (some ⟨b1, K * 2, none⟩)) rfl rfl (by kernel_rfl) (by kernel_rfl) (by kernel_rfl) rfl rfl (fun _ _ => rfl) ?_
          simp only [Act.put, List.setIfInBounds_toArray, List.set_cons_succ, List.set_cons_zero]
          refine held_take 4 61 _ (.slice p1a pk.length p1c) rfl rfl (by kernel_rfl) (by kernel_rfl) (by kernel_rfl) rfl rfl (fun V hV => exec_loadc 34 _ rfl _ _ rfl (load_one 34 (fun _ => rfl) V _ _ _ (by rw [hV]; exact dp))) ?_
          simp only [Act.put, List.setIfInBounds_toArray, List.set_cons_succ, List.set_cons_zero]
          refine held_take 5 62 _ (.string ⟨pk.toArray⟩) rfl rfl (by kernel_rfl) (by kernel_rfl) (by kernel_rfl) rfl rfl (fun V hV => exec_conv _ _ _ rfl _ _ rfl (by rw [hV]; exact kp)) ?_
          simp only [Act.put, List.setIfInBounds_toArray, List.set_cons_succ, List.set_cons_zero]
          refine held_take 6 63 _ (.slice (some ⟨b, off, none⟩) ops.length c) rfl rfl (by kernel_rfl) (by kernel_rfl) (by kernel_rfl) rfl rfl (fun _ _ => rfl) ?_
          simp only [Act.put, List.setIfInBounds_toArray, List.set_cons_succ, List.set_cons_zero]
          refine held_take 7 64 _ (.int .i64 (I : Int)) rfl rfl (by kernel_rfl) (by kernel_rfl) (by kernel_rfl) rfl rfl (fun _ _ => rfl) ?_
          simp only [Act.put, List.setIfInBounds_toArray, List.set_cons_succ, List.set_cons_zero]
          refine held_take 8 65 _ (.pointer (some ⟨b, off + I * 3, none⟩)) rfl rfl (by kernel_rfl) (by kernel_rfl) (by kernel_rfl) rfl rfl (fun V _ => exec_indexat 40 _ _ rfl (.slice (some ⟨b, off, none⟩) ops.length c) (.int .i64 (I : Int)) _ rfl rfl (x1 V)) ?_
          simp only [Act.put, List.setIfInBounds_toArray, List.set_cons_succ, List.set_cons_zero]
          refine held_take 9 66 _ (.pointer (some ⟨b, off + I * 3, none⟩)) rfl rfl (by kernel_rfl) (by kernel_rfl) (by kernel_rfl) rfl rfl (fun _ _ => rfl) ?_
          simp only [Act.put, List.setIfInBounds_toArray, List.set_cons_succ, List.set_cons_zero]
          refine held_take 10 67 _ (.slice ka o.key.length kc) rfl rfl (by kernel_rfl) (by kernel_rfl) (by kernel_rfl) rfl rfl (fun V hV => exec_loadc 34 _ rfl _ _ rfl (load_one 34 (fun _ => rfl) V _ _ _ (by rw [hV]; exact dk))) ?_
          simp only [Act.put, List.setIfInBounds_toArray, List.set_cons_succ, List.set_cons_zero]
          refine held_take 11 68 _ (.string ⟨o.key.toArray⟩) rfl rfl (by kernel_rfl) (by kernel_rfl) (by kernel_rfl) rfl rfl (fun V hV => exec_conv _ _ _ rfl _ _ rfl (by rw [hV]; exact ko)) ?_
          simp only [Act.put, List.setIfInBounds_toArray, List.set_cons_succ, List.set_cons_zero]
          refine held_take 12 69 _ (.bool true) rfl rfl (by kernel_rfl) (by kernel_rfl) (by kernel_rfl) rfl rfl (fun V _ => exec_neqs _ _ rfl pk o.key rfl rfl _ hne) ?_
          simp only [Act.put, List.setIfInBounds_toArray, List.set_cons_succ, List.set_cons_zero]
          refine wpAnyH_done (by kernel_rfl) ?_ _
          refine NoPanic.normal ?_
          obtain ⟨w7, hw7⟩ : ∃ W, W = w5.drew := ⟨_, rfl⟩
          have hA7 := hA5.below hd_
          rw [← hw7] at hB7 hA7 hw_ ⊢
          clear hw7 dp dk kp ko
          obtain ⟨v8, W8, hr8, hA8, hB8f⟩ := app_pairA hA7 (pk, pv) p1a p2a p1c p2c sp sp2 (by first | omega | (simp; omega)) hB7.size
          have HR8 : Hid (∀ ty, _ = _) := hr8
          have hB8 := hB8f (Nat.le_refl _) hB7 hB7.size
          obtain ⟨dp, dv⟩ := HP2.out _ hB7
          clear hA7
          go_wp2_with (at_builtin; refine app_ran _ W8 rfl (.tmp 70) (.tmp 75) 32 rfl _ _ v8 rfl rfl HR8.out ?_)
          go_roundw
          case rel => exact ⟨K + 1, _, by go_num, hk, by rw [HRS.out], by rw [HRS.out]; exact hA8, hB8⟩
          case measure => simp [intOf]; omega
        | false =>
          by_cases hg0 : o.key < pk
          · have hgt : decide (o.key < pk) = true := decide_eq_true hg0
            have HRS : Hid (runD o (l.take (K + 1)) = ((acc ++ [(o.key, o.val)]) ++ [(pk, pv)], true)) := by
              show _ = _
              rw [hRS.out]
              unfold stepD
              rw [if_pos ⟨rfl, hg0⟩, if_neg hne0]
            clear hRS hne0 hg0
            go_wp2_with fail
            have hd_ : Below wr.heap.size wr wr.drew := (Below.refl _ _).drew
            have hB5 := blift hBi hd_ hBi.size
            have hw_ := blift hB hB5 hB.size
            have hy_ := blift hBx hB5 hBx.size
            have dp := (HP2.out _ hB5).1
            have dk := (HD.out _ hw_).1
            have kp := seg_stringD (HG.out _ _ sp _ hy_) 9 Tryz.underlying9
            have ko := seg_stringD (HD.out _ hw_).2.2.2.1 9 Tryz.underlying9
            refine held_begin (fun V => V = wr.drew) (by kernel_rfl) ?_
            refine held_take 0 26 _ (.bool false) rfl rfl (by kernel_rfl) (by kernel_rfl) (by kernel_rfl) rfl rfl (fun _ _ => rfl) ?_
            simp only [Act.put, List.setIfInBounds_toArray, List.set_cons_succ, List.set_cons_zero]
            refine held_take 1 27 _ (.bool true) rfl rfl (by kernel_rfl) (by kernel_rfl) (by kernel_rfl) rfl rfl (fun _ _ => rfl) ?_
            simp only [Act.put, List.setIfInBounds_toArray, List.set_cons_succ, List.set_cons_zero]
            refine held_take 2 28 _ (.bool true) rfl rfl (by kernel_rfl) (by kernel_rfl) (by kernel_rfl) rfl rfl (fun _ _ => rfl) ?_
            simp only [Act.put, List.setIfInBounds_toArray, List.set_cons_succ, List.set_cons_zero]
            refine held_take 3 29 _ (.slice (some ⟨b1, 0, none⟩) l.length lc) rfl rfl (by kernel_rfl) (by kernel_rfl) (by kernel_rfl) rfl rfl (fun _ _ => rfl) ?_
            simp only [Act.put, List.setIfInBounds_toArray, List.set_cons_succ, List.set_cons_zero]
            refine held_take 4 30 _ (.int .i64 (K : Int)) rfl rfl (by kernel_rfl) (by kernel_rfl) (by kernel_rfl) rfl rfl (fun _ _ => rfl) ?_
            simp only [Act.put, List.setIfInBounds_toArray, List.set_cons_succ, List.set_cons_zero]
            refine held_take 5 31 _ (.pointer (some ⟨b1, K * 2, none⟩)) rfl rfl (by kernel_rfl) (by kernel_rfl) (by kernel_rfl) rfl rfl (fun V _ => exec_indexat 32 _ _ rfl (.slice (some ⟨b1, 0, none⟩) l.length lc) (.int .i64 (K : Int)) _ rfl rfl (x2 V)) ?_
            simp only [Act.put, List.setIfInBounds_toArray, List.set_cons_succ, List.set_cons_zero]
            refine held_take 6 32 _ (.pointer (some ⟨b1, K * 2, none⟩)) rfl rfl (by kernel_rfl) (by kernel_rfl) (by kernel_rfl) rfl rfl (fun _ _ => rfl) ?_
            simp only [Act.put, List.setIfInBounds_toArray, List.set_cons_succ, List.set_cons_zero]
            refine held_take 7 33 _ (.slice p1a pk.length p1c) rfl rfl (by kernel_rfl) (by kernel_rfl) (by kernel_rfl) rfl rfl (fun V hV => exec_loadc 34 _ rfl _ _ rfl (load_one 34 (fun _ => rfl) V _ _ _ (by rw [hV]; exact dp))) ?_
            simp only [Act.put, List.setIfInBounds_toArray, List.set_cons_succ, List.set_cons_zero]
            refine held_take 8 34 _ (.string ⟨pk.toArray⟩) rfl rfl (by kernel_rfl) (by kernel_rfl) (by kernel_rfl) rfl rfl (fun V hV => exec_conv _ _ _ rfl _ _ rfl (by rw [hV]; exact kp)) ?_
            simp only [Act.put, List.setIfInBounds_toArray, List.set_cons_succ, List.set_cons_zero]
            refine held_take 9 35 _ (.slice (some ⟨b, off, none⟩) ops.length c) rfl rfl (by kernel_rfl) (by kernel_rfl) (by kernel_rfl) rfl rfl (fun _ _ => rfl) ?_
            simp only [Act.put, List.setIfInBounds_toArray, List.set_cons_succ, List.set_cons_zero]
            refine held_take 10 36 _ (.int .i64 (I : Int)) rfl rfl (by kernel_rfl) (by kernel_rfl) (by kernel_rfl) rfl rfl (fun _ _ => rfl) ?_
            simp only [Act.put, List.setIfInBounds_toArray, List.set_cons_succ, List.set_cons_zero]
            refine held_take 11 37 _ (.pointer (some ⟨b, off + I * 3, none⟩)) rfl rfl (by kernel_rfl) (by kernel_rfl) (by kernel_rfl) rfl rfl (fun V _ => exec_indexat 40 _ _ rfl (.slice (some ⟨b, off, none⟩) ops.length c) (.int .i64 (I : Int)) _ rfl rfl (x1 V)) ?_
            simp only [Act.put, List.setIfInBounds_toArray, List.set_cons_succ, List.set_cons_zero]
            refine held_take 12 38 _ (.pointer (some ⟨b, off + I * 3, none⟩)) rfl rfl (by kernel_rfl) (by kernel_rfl) (by kernel_rfl) rfl rfl (fun _ _ => rfl) ?_
            simp only [Act.put, List.setIfInBounds_toArray, List.set_cons_succ, List.set_cons_zero]
            refine held_take 13 39 _ (.slice ka o.key.length kc) rfl rfl (by kernel_rfl) (by kernel_rfl) (by kernel_rfl) rfl rfl (fun V hV => exec_loadc 34 _ rfl _ _ rfl (load_one 34 (fun _ => rfl) V _ _ _ (by rw [hV]; exact dk))) ?_
            simp only [Act.put, List.setIfInBounds_toArray, List.set_cons_succ, List.set_cons_zero]
            refine held_take 14 40 _ (.string ⟨o.key.toArray⟩) rfl rfl (by kernel_rfl) (by kernel_rfl) (by kernel_rfl) rfl rfl (fun V hV => exec_conv _ _ _ rfl _ _ rfl (by rw [hV]; exact ko)) ?_
            simp only [Act.put, List.setIfInBounds_toArray, List.set_cons_succ, List.set_cons_zero]
            refine held_take 15 41 _ (.bool true) rfl rfl (by kernel_rfl) (by kernel_rfl) (by kernel_rfl) rfl rfl (fun V _ => exec_gtrs _ _ rfl pk o.key rfl rfl _ hgt) ?_
            simp only [Act.put, List.setIfInBounds_toArray, List.set_cons_succ, List.set_cons_zero]
            refine held_take 16 42 _ (.bool true) rfl rfl (by kernel_rfl) (by kernel_rfl) (by kernel_rfl) rfl rfl (fun _ _ => rfl) ?_
            simp only [Act.put, List.setIfInBounds_toArray, List.set_cons_succ, List.set_cons_zero]
            refine wpAnyH_done (by kernel_rfl) ?_ _
            refine NoPanic.normal ?_
            obtain ⟨w5, hw5⟩ : ∃ W, W = wr.drew := ⟨_, rfl⟩
            have hA5 := hA.below hd_
            rw [← hw5] at hB5 hA5 ⊢
            clear hw5 dp dk kp ko hw_ hy_ hd_ hA
            go_wp2_with fail
            have hd6 : Below w5.heap.size w5 w5.drew := (Below.refl _ _).drew
            have hB6 := blift hB5 hd6 hB5.size
            have hA6 := hA5.below hd6
            obtain ⟨v9, W9, hr9, hA9, hB9f⟩ := app_pairA hA6 (o.key, o.val) ka va kc vc so1 so2 (by omega) hB6.size
            have HR9 : Hid (∀ ty, _ = _) := hr9
            have hB9 := hB9f (Nat.le_refl _) hB6 hB6.size
            have HDD : Hid (∀ V, V = w5.drew ∨ V = w5.drew.alloc (.cells #[.slice ka o.key.length kc, .slice va o.val.length vc] 56) ∨ V = W9 → V.cell? ⟨b, off + I * 3, none⟩ = some (.slice ka o.key.length kc) ∧ V.cell? ⟨b, off + I * 3 + 2, none⟩ = some (.slice va o.val.length vc)) := by
              have hq : ∀ V, Below wi.heap.size wi V → V.cell? ⟨b, off + I * 3, none⟩ = some (.slice ka o.key.length kc) ∧ V.cell? ⟨b, off + I * 3 + 2, none⟩ = some (.slice va o.val.length vc) := fun V hV => ⟨(HD.out _ (blift hB hV hB.size)).1, (HD.out _ (blift hB hV hB.size)).2.2.1⟩
              rintro V (rfl | rfl | rfl)
              · exact hq _ hB6
              · exact hq _ (hB6.alloc hB6.size _)
              · exact hq _ hB9
            refine held_begin (fun V => V = w5.drew ∨ V = w5.drew.alloc (.cells #[.slice ka o.key.length kc, .slice va o.val.length vc] 56) ∨ V = W9) (by kernel_rfl) ?_
            refine held_take 0 43 _ (.slice oa acc.length oc) rfl rfl (by kernel_rfl) (by kernel_rfl) (by kernel_rfl) rfl (.inl rfl) (fun _ _ => rfl) ?_
            simp only [Act.put, List.setIfInBounds_toArray, List.set_cons_succ, List.set_cons_zero]
            refine held_take 1 44 _ (.slice (some ⟨b, off, none⟩) ops.length c) rfl rfl (by kernel_rfl) (by kernel_rfl) (by kernel_rfl) rfl (.inl rfl) (fun _ _ => rfl) ?_
            simp only [Act.put, List.setIfInBounds_toArray, List.set_cons_succ, List.set_cons_zero]
            refine held_take 2 45 _ (.int .i64 (I : Int)) rfl rfl (by kernel_rfl) (by kernel_rfl) (by kernel_rfl) rfl (.inl rfl) (fun _ _ => rfl) ?_
            simp only [Act.put, List.setIfInBounds_toArray, List.set_cons_succ, List.set_cons_zero]
            refine held_take 3 46 _ (.pointer (some ⟨b, off + I * 3, none⟩)) rfl rfl (by kernel_rfl) (by kernel_rfl) (by kernel_rfl) rfl (.inl rfl) (fun V _ => exec_indexat 40 _ _ rfl (.slice (some ⟨b, off, none⟩) ops.length c) (.int .i64 (I : Int)) _ rfl rfl (x1 V)) ?_
            simp only [Act.put, List.setIfInBounds_toArray, List.set_cons_succ, List.set_cons_zero]
            refine held_take 4 47 _ (.pointer (some ⟨b, off + I * 3, none⟩)) rfl rfl (by kernel_rfl) (by kernel_rfl) (by kernel_rfl) rfl (.inl rfl) (fun _ _ => rfl) ?_
            simp only [Act.put, List.setIfInBounds_toArray, List.set_cons_succ, List.set_cons_zero]
            refine held_take 5 48 _ (.slice ka o.key.length kc) rfl rfl (by kernel_rfl) (by kernel_rfl) (by kernel_rfl) rfl (.inl rfl) (fun V hV => exec_loadc 34 _ rfl _ _ rfl (load_one 34 (fun _ => rfl) V _ _ _ (HDD.out V hV).1)) ?_
            simp only [Act.put, List.setIfInBounds_toArray, List.set_cons_succ, List.set_cons_zero]
            refine held_take 6 49 _ (.slice (some ⟨b, off, none⟩) ops.length c) rfl rfl (by kernel_rfl) (by kernel_rfl) (by kernel_rfl) rfl (.inl rfl) (fun _ _ => rfl) ?_
            simp only [Act.put, List.setIfInBounds_toArray, List.set_cons_succ, List.set_cons_zero]
            refine held_take 7 50 _ (.int .i64 (I : Int)) rfl rfl (by kernel_rfl) (by kernel_rfl) (by kernel_rfl) rfl (.inl rfl) (fun _ _ => rfl) ?_
            simp only [Act.put, List.setIfInBounds_toArray, List.set_cons_succ, List.set_cons_zero]
            refine held_take 8 51 _ (.pointer (some ⟨b, off + I * 3, none⟩)) rfl rfl (by kernel_rfl) (by kernel_rfl) (by kernel_rfl) rfl (.inl rfl) (fun V _ => exec_indexat 40 _ _ rfl (.slice (some ⟨b, off, none⟩) ops.length c) (.int .i64 (I : Int)) _ rfl rfl (x1 V)) ?_
            simp only [Act.put, List.setIfInBounds_toArray, List.set_cons_succ, List.set_cons_zero]
            refine held_take 9 52 _ (.pointer (some ⟨b, off + I * 3 + 2, none⟩)) rfl rfl (by kernel_rfl) (by kernel_rfl) (by kernel_rfl) rfl (.inl rfl) (fun _ _ => rfl) ?_
            simp only [Act.put, List.setIfInBounds_toArray, List.set_cons_succ, List.set_cons_zero]
            refine held_take 10 53 _ (.slice va o.val.length vc) rfl rfl (by kernel_rfl) (by kernel_rfl) (by kernel_rfl) rfl (.inl rfl) (fun V hV => exec_loadc 34 _ rfl _ _ rfl (load_one 34 (fun _ => rfl) V _ _ _ (HDD.out V hV).2)) ?_
            simp only [Act.put, List.setIfInBounds_toArray, List.set_cons_succ, List.set_cons_zero]
            refine held_take 11 54 _ (.agg #[.slice ka o.key.length kc, .slice va o.val.length vc]) rfl rfl (by kernel_rfl) (by kernel_rfl) (by kernel_rfl) rfl (.inl rfl) (fun _ _ => exec_buildPair _ _ rfl _ _ _ _ _ _ rfl rfl) ?_
            simp only [Act.put, List.setIfInBounds_toArray, List.set_cons_succ, List.set_cons_zero]
            refine held_all1 12 (by kernel_rfl) (op_value 12 55 _ _ _ rfl rfl rfl (exec_onePair _ rfl _ _ rfl) ⟨.inr (.inl rfl), ?_⟩)
            simp only [Act.put, List.setIfInBounds_toArray, List.set_cons_succ, List.set_cons_zero]
            refine held_all1 13 (by kernel_rfl) (op_value 13 56 _ _ _ rfl rfl rfl (exec_app (.tmp 43) (.tmp 55) 32 32 rfl (.slice oa acc.length oc) (.slice (some ⟨w5.drew.heap.size, 0, none⟩) 1 1) _ rfl rfl HR9.out) ⟨.inr (.inr rfl), ?_⟩)
            simp only [Act.put, List.setIfInBounds_toArray, List.set_cons_succ, List.set_cons_zero]
            refine held_all1 14 (by kernel_rfl) (op_value 14 6 _ v9 _ rfl rfl rfl rfl ⟨.inr (.inr rfl), ?_⟩)
            simp only [Act.put, List.setIfInBounds_toArray, List.set_cons_succ, List.set_cons_zero]
            refine wpAnyH_done (by kernel_rfl) ?_ _
            refine NoPanic.normal ?_
            clear hA5 hA6 HDD HR9
            go_wp2_with fail
            have hBi := hB9
            have hd_ : Below W9.heap.size W9 W9.drew := (Below.refl _ _).drew
            have hB7 := blift hBi hd_ hBi.size
            have hw_ := blift hB hB7 hB.size
            have hy_ := blift hBx hB7 hBx.size
            have dp := (HP2.out _ hB7).1
            have dk := (HD.out _ hw_).1
            have kp := seg_stringD (HG.out _ _ sp _ hy_) 9 Tryz.underlying9
            have ko := seg_stringD (HD.out _ hw_).2.2.2.1 9 Tryz.underlying9
            refine held_begin (fun V => V = W9.drew) (by kernel_rfl) ?_
            refine held_take 0 57 _ (.slice (some ⟨b1, 0, none⟩) l.length lc) rfl rfl (by kernel_rfl) (by kernel_rfl) (by kernel_rfl) rfl rfl (fun _ _ => rfl) ?_
            simp only [Act.put, List.setIfInBounds_toArray, List.set_cons_succ, List.set_cons_zero]
            refine held_take 1 58 _ (.int .i64 (K : Int)) rfl rfl (by kernel_rfl) (by kernel_rfl) (by kernel_rfl) rfl rfl (fun _ _ => rfl) ?_
            simp only [Act.put, List.setIfInBounds_toArray, List.set_cons_succ, List.set_cons_zero]
            refine held_take 2 59 _ (.pointer (some ⟨b1, K * 2, none⟩)) rfl rfl (by kernel_rfl) (by kernel_rfl) (by kernel_rfl) rfl rfl (fun V _ => exec_indexat 32 _ _ rfl (.slice (some ⟨b1, 0, none⟩) l.length lc) (.int .i64 (K : Int)) _ rfl rfl (x2 V)) ?_
            simp only [Act.put, List.setIfInBounds_toArray, List.set_cons_succ, List.set_cons_zero]
            refine held_take 3 60 _ (.pointer (some ⟨b1, K * 2, none⟩)) rfl rfl (by kernel_rfl) (by kernel_rfl) (by kernel_rfl) rfl rfl (fun _ _ => rfl) ?_
            simp only [Act.put, List.setIfInBounds_toArray, List.set_cons_succ, List.set_cons_zero]
            refine held_take 4 61 _ (.slice p1a pk.length p1c) rfl rfl (by kernel_rfl) (by kernel_rfl) (by kernel_rfl) rfl rfl (fun V hV => exec_loadc 34 _ rfl _ _ rfl (load_one 34 (fun _ => rfl) V _ _ _ (by rw [hV]; exact dp))) ?_
            simp only [Act.put, List.setIfInBounds_toArray, List.set_cons_succ, List.set_cons_zero]
            refine held_take 5 62 _ (.string ⟨pk.toArray⟩) rfl rfl (by kernel_rfl) (by kernel_rfl) (by kernel_rfl) rfl rfl (fun V hV => exec_conv _ _ _ rfl _ _ rfl (by rw [hV]; exact kp)) ?_
            simp only [Act.put, List.setIfInBounds_toArray, List.set_cons_succ, List.set_cons_zero]
            refine held_take 6 63 _ (.slice (some ⟨b, off, none⟩) ops.length c) rfl rfl (by kernel_rfl) (by kernel_rfl) (by kernel_rfl) rfl rfl (fun _ _ => rfl) ?_
            simp only [Act.put, List.setIfInBounds_toArray, List.set_cons_succ, List.set_cons_zero]
            refine held_take 7 64 _ (.int .i64 (I : Int)) rfl rfl (by kernel_rfl) (by kernel_rfl) (by kernel_rfl) rfl rfl (fun _ _ => rfl) ?_
            simp only [Act.put, List.setIfInBounds_toArray, List.set_cons_succ, List.set_cons_zero]
            refine held_take 8 65 _ (.pointer (some ⟨b, off + I * 3, none⟩)) rfl rfl (by kernel_rfl) (by kernel_rfl) (by kernel_rfl) rfl rfl (fun V _ => exec_indexat 40 _ _ rfl (.slice (some ⟨b, off, none⟩) ops.length c) (.int .i64 (I : Int)) _ rfl rfl (x1 V)) ?_
            simp only [Act.put, List.setIfInBounds_toArray, List.set_cons_succ, List.set_cons_zero]
            refine held_take 9 66 _ (.pointer (some ⟨b, off + I * 3, none⟩)) rfl rfl (by kernel_rfl) (by kernel_rfl) (by kernel_rfl) rfl rfl (fun _ _ => rfl) ?_
            simp only [Act.put, List.setIfInBounds_toArray, List.set_cons_succ, List.set_cons_zero]
            refine held_take 10 67 _ (.slice ka o.key.length kc) rfl rfl (by kernel_rfl) (by kernel_rfl) (by kernel_rfl) rfl rfl (fun V hV => exec_loadc 34 _ rfl _ _ rfl (load_one 34 (fun _ => rfl) V _ _ _ (by rw [hV]; exact dk))) ?_
            simp only [Act.put, List.setIfInBounds_toArray, List.set_cons_succ, List.set_cons_zero]
            refine held_take 11 68 _ (.string ⟨o.key.toArray⟩) rfl rfl (by kernel_rfl) (by kernel_rfl) (by kernel_rfl) rfl rfl (fun V hV => exec_conv _ _ _ rfl _ _ rfl (by rw [hV]; exact ko)) ?_
            simp only [Act.put, List.setIfInBounds_toArray, List.set_cons_succ, List.set_cons_zero]
            refine held_take 12 69 _ (.bool true) rfl rfl (by kernel_rfl) (by kernel_rfl) (by kernel_rfl) rfl rfl (fun V _ => exec_neqs _ _ rfl pk o.key rfl rfl _ hne) ?_
            simp only [Act.put, List.setIfInBounds_toArray, List.set_cons_succ, List.set_cons_zero]
            refine wpAnyH_done (by kernel_rfl) ?_ _
            refine NoPanic.normal ?_
            obtain ⟨w7, hw7⟩ : ∃ W, W = W9.drew := ⟨_, rfl⟩
            have hA7 := hA9.below hd_
            rw [← hw7] at hB7 hA7 hw_ ⊢
            clear hw7 dp dk kp ko
            obtain ⟨v8, W8, hr8, hA8, hB8f⟩ := app_pairA hA7 (pk, pv) p1a p2a p1c p2c sp sp2 (by first | omega | (simp; omega)) hB7.size
            have HR8 : Hid (∀ ty, _ = _) := hr8
            have hB8 := hB8f (Nat.le_refl _) hB7 hB7.size
            obtain ⟨dp, dv⟩ := HP2.out _ hB7
            clear hA7
            go_wp2_with (at_builtin; refine app_ran _ W8 rfl (.tmp 70) (.tmp 75) 32 rfl _ _ v8 rfl rfl HR8.out ?_)
            go_roundw
            case rel => exact ⟨K + 1, _, by go_num, hk, by rw [HRS.out], by rw [HRS.out]; exact hA8, hB8⟩
            case measure => simp [intOf]; omega
          · have hgt : decide (o.key < pk) = false := decide_eq_false hg0
            have HRS : Hid (runD o (l.take (K + 1)) = (acc ++ [(pk, pv)], false)) := by
              show _ = _
              rw [hRS.out]
              unfold stepD
              rw [if_neg (fun h => hg0 h.2), if_neg hne0]
            clear hRS hne0 hg0
            go_wp2_with fail
            have hd_ : Below wr.heap.size wr wr.drew := (Below.refl _ _).drew
            have hB5 := blift hBi hd_ hBi.size
            have hw_ := blift hB hB5 hB.size
            have hy_ := blift hBx hB5 hBx.size
            have dp := (HP2.out _ hB5).1
            have dk := (HD.out _ hw_).1
            have kp := seg_stringD (HG.out _ _ sp _ hy_) 9 Tryz.underlying9
            have ko := seg_stringD (HD.out _ hw_).2.2.2.1 9 Tryz.underlying9
            refine held_begin (fun V => V = wr.drew) (by kernel_rfl) ?_
            refine held_take 0 26 _ (.bool false) rfl rfl (by kernel_rfl) (by kernel_rfl) (by kernel_rfl) rfl rfl (fun _ _ => rfl) ?_
            simp only [Act.put, List.setIfInBounds_toArray, List.set_cons_succ, List.set_cons_zero]
            refine held_take 1 27 _ (.bool true) rfl rfl (by kernel_rfl) (by kernel_rfl) (by kernel_rfl) rfl rfl (fun _ _ => rfl) ?_
            simp only [Act.put, List.setIfInBounds_toArray, List.set_cons_succ, List.set_cons_zero]
            refine held_take 2 28 _ (.bool true) rfl rfl (by kernel_rfl) (by kernel_rfl) (by kernel_rfl) rfl rfl (fun _ _ => rfl) ?_
            simp only [Act.put, List.setIfInBounds_toArray, List.set_cons_succ, List.set_cons_zero]
            refine held_take 3 29 _ (.slice (some ⟨b1, 0, none⟩) l.length lc) rfl rfl (by kernel_rfl) (by kernel_rfl) (by kernel_rfl) rfl rfl (fun _ _ => rfl) ?_
            simp only [Act.put, List.setIfInBounds_toArray, List.set_cons_succ, List.set_cons_zero]
            refine held_take 4 30 _ (.int .i64 (K : Int)) rfl rfl (by kernel_rfl) (by kernel_rfl) (by kernel_rfl) rfl rfl (fun _ _ => rfl) ?_
            simp only [Act.put, List.setIfInBounds_toArray, List.set_cons_succ, List.set_cons_zero]
            refine held_take 5 31 _ (.pointer (some ⟨b1, K * 2, none⟩)) rfl rfl (by kernel_rfl) (by kernel_rfl) (by kernel_rfl) rfl rfl (fun V _ => exec_indexat 32 _ _ rfl (.slice (some ⟨b1, 0, none⟩) l.length lc) (.int .i64 (K : Int)) _ rfl rfl (x2 V)) ?_
            simp only [Act.put, List.setIfInBounds_toArray, List.set_cons_succ, List.set_cons_zero]
            refine held_take 6 32 _ (.pointer (some ⟨b1, K * 2, none⟩)) rfl rfl (by kernel_rfl) (by kernel_rfl) (by kernel_rfl) rfl rfl (fun _ _ => rfl) ?_
            simp only [Act.put, List.setIfInBounds_toArray, List.set_cons_succ, List.set_cons_zero]
            refine held_take 7 33 _ (.slice p1a pk.length p1c) rfl rfl (by kernel_rfl) (by kernel_rfl) (by kernel_rfl) rfl rfl (fun V hV => exec_loadc 34 _ rfl _ _ rfl (load_one 34 (fun _ => rfl) V _ _ _ (by rw [hV]; exact dp))) ?_
            simp only [Act.put, List.setIfInBounds_toArray, List.set_cons_succ, List.set_cons_zero]
            refine held_take 8 34 _ (.string ⟨pk.toArray⟩) rfl rfl (by kernel_rfl) (by kernel_rfl) (by kernel_rfl) rfl rfl (fun V hV => exec_conv _ _ _ rfl _ _ rfl (by rw [hV]; exact kp)) ?_
            simp only [Act.put, List.setIfInBounds_toArray, List.set_cons_succ, List.set_cons_zero]
            refine held_take 9 35 _ (.slice (some ⟨b, off, none⟩) ops.length c) rfl rfl (by kernel_rfl) (by kernel_rfl) (by kernel_rfl) rfl rfl (fun _ _ => rfl) ?_
            simp only [Act.put, List.setIfInBounds_toArray, List.set_cons_succ, List.set_cons_zero]
            refine held_take 10 36 _ (.int .i64 (I : Int)) rfl rfl (by kernel_rfl) (by kernel_rfl) (by kernel_rfl) rfl rfl (fun _ _ => rfl) ?_
            simp only [Act.put, List.setIfInBounds_toArray, List.set_cons_succ, List.set_cons_zero]
            refine held_take 11 37 _ (.pointer (some ⟨b, off + I * 3, none⟩)) rfl rfl (by kernel_rfl) (by kernel_rfl) (by kernel_rfl) rfl rfl (fun V _ => exec_indexat 40 _ _ rfl (.slice (some ⟨b, off, none⟩) ops.length c) (.int .i64 (I : Int)) _ rfl rfl (x1 V)) ?_
            simp only [Act.put, List.setIfInBounds_toArray, List.set_cons_succ, List.set_cons_zero]
            refine held_take 12 38 _ (.pointer (some ⟨b, off + I * 3, none⟩)) rfl rfl (by kernel_rfl) (by kernel_rfl) (by kernel_rfl) rfl rfl (fun _ _ => rfl) ?_
            simp only [Act.put, List.setIfInBounds_toArray, List.set_cons_succ, List.set_cons_zero]
            refine held_take 13 39 _ (.slice ka o.key.length kc) rfl rfl (by kernel_rfl) (by kernel_rfl) (by kernel_rfl) rfl rfl (fun V hV => exec_loadc 34 _ rfl _ _ rfl (load_one 34 (fun _ => rfl) V _ _ _ (by rw [hV]; exact dk))) ?_
            simp only [Act.put, List.setIfInBounds_toArray, List.set_cons_succ, List.set_cons_zero]
            refine held_take 14 40 _ (.string ⟨o.key.toArray⟩) rfl rfl (by kernel_rfl) (by kernel_rfl) (by kernel_rfl) rfl rfl (fun V hV => exec_conv _ _ _ rfl _ _ rfl (by rw [hV]; exact ko)) ?_
            simp only [Act.put, List.setIfInBounds_toArray, List.set_cons_succ, List.set_cons_zero]
            refine held_take 15 41 _ (.bool false) rfl rfl (by kernel_rfl) (by kernel_rfl) (by kernel_rfl) rfl rfl (fun V _ => exec_gtrs _ _ rfl pk o.key rfl rfl _ hgt) ?_
            simp only [Act.put, List.setIfInBounds_toArray, List.set_cons_succ, List.set_cons_zero]
            refine held_take 16 42 _ (.bool false) rfl rfl (by kernel_rfl) (by kernel_rfl) (by kernel_rfl) rfl rfl (fun _ _ => rfl) ?_
            simp only [Act.put, List.setIfInBounds_toArray, List.set_cons_succ, List.set_cons_zero]
            refine wpAnyH_done (by kernel_rfl) ?_ _
            refine NoPanic.normal ?_
            obtain ⟨w5, hw5⟩ : ∃ W, W = wr.drew := ⟨_, rfl⟩
            have hA5 := hA.below hd_
            rw [← hw5] at hB5 hA5 ⊢
            clear hw5 dp dk kp ko hw_ hy_ hd_ hA
            go_wp2_with fail
            have hBi := hB5
            have hd_ : Below w5.heap.size w5 w5.drew := (Below.refl _ _).drew
            have hB7 := blift hBi hd_ hBi.size
            have hw_ := blift hB hB7 hB.size
            have hy_ := blift hBx hB7 hBx.size
            have dp := (HP2.out _ hB7).1
            have dk := (HD.out _ hw_).1
            have kp := seg_stringD (HG.out _ _ sp _ hy_) 9 Tryz.underlying9
            have ko := seg_stringD (HD.out _ hw_).2.2.2.1 9 Tryz.underlying9
            refine held_begin (fun V => V = w5.drew) (by kernel_rfl) ?_
            refine held_take 0 57 _ (.slice (some ⟨b1, 0, none⟩) l.length lc) rfl rfl (by kernel_rfl) (by kernel_rfl) (by kernel_rfl) rfl rfl (fun _ _ => rfl) ?_
            simp only [Act.put, List.setIfInBounds_toArray, List.set_cons_succ, List.set_cons_zero]
            refine held_take 1 58 _ (.int .i64 (K : Int)) rfl rfl (by kernel_rfl) (by kernel_rfl) (by kernel_rfl) rfl rfl (fun _ _ => rfl) ?_
            simp only [Act.put, List.setIfInBounds_toArray, List.set_cons_succ, List.set_cons_zero]
            refine held_take 2 59 _ (.pointer (some ⟨b1, K * 2, none⟩)) rfl rfl (by kernel_rfl) (by kernel_rfl) (by kernel_rfl) rfl rfl (fun V _ => exec_indexat 32 _ _ rfl (.slice (some ⟨b1, 0, none⟩) l.length lc) (.int .i64 (K : Int)) _ rfl rfl (x2 V)) ?_
            simp only [Act.put, List.setIfInBounds_toArray, List.set_cons_succ, List.set_cons_zero]
            refine held_take 3 60 _ (.pointer (some ⟨b1, K * 2, none⟩)) rfl rfl (by kernel_rfl) (by kernel_rfl) (by kernel_rfl) rfl rfl (fun _ _ => rfl) ?_
            simp only [Act.put, List.setIfInBounds_toArray, List.set_cons_succ, List.set_cons_zero]
            refine held_take 4 61 _ (.slice p1a pk.length p1c) rfl rfl (by kernel_rfl) (by kernel_rfl) (by kernel_rfl) rfl rfl (fun V hV => exec_loadc 34 _ rfl _ _ rfl (load_one 34 (fun _ => rfl) V _ _ _ (by rw [hV]; exact dp))) ?_
            simp only [Act.put, List.setIfInBounds_toArray, List.set_cons_succ, List.set_cons_zero]
            refine held_take 5 62 _ (.string ⟨pk.toArray⟩) rfl rfl (by kernel_rfl) (by kernel_rfl) (by kernel_rfl) rfl rfl (fun V hV => exec_conv _ _ _ rfl _ _ rfl (by rw [hV]; exact kp)) ?_
            simp only [Act.put, List.setIfInBounds_toArray, List.set_cons_succ, List.set_cons_zero]
            refine held_take 6 63 _ (.slice (some ⟨b, off, none⟩) ops.length c) rfl rfl (by kernel_rfl) (by kernel_rfl) (by kernel_rfl) rfl rfl (fun _ _ => rfl) ?_
            simp only [Act.put, List.setIfInBounds_toArray, List.set_cons_succ, List.set_cons_zero]
            refine held_take 7 64 _ (.int .i64 (I : Int)) rfl rfl (by kernel_rfl) (by kernel_rfl) (by kernel_rfl) rfl rfl (fun _ _ => rfl) ?_
            simp only [Act.put, List.setIfInBounds_toArray, List.set_cons_succ, List.set_cons_zero]
            refine held_take 8 65 _ (.pointer (some ⟨b, off + I * 3, none⟩)) rfl rfl (by kernel_rfl) (by kernel_rfl) (by kernel_rfl) rfl rfl (fun V _ => exec_indexat 40 _ _ rfl (.slice (some ⟨b, off, none⟩) ops.length c) (.int .i64 (I : Int)) _ rfl rfl (x1 V)) ?_
            simp only [Act.put, List.setIfInBounds_toArray, List.set_cons_succ, List.set_cons_zero]
            refine held_take 9 66 _ (.pointer (some ⟨b, off + I * 3, none⟩)) rfl rfl (by kernel_rfl) (by kernel_rfl) (by kernel_rfl) rfl rfl (fun _ _ => rfl) ?_
            simp only [Act.put, List.setIfInBounds_toArray, List.set_cons_succ, List.set_cons_zero]
            refine held_take 10 67 _ (.slice ka o.key.length kc) rfl rfl (by kernel_rfl) (by kernel_rfl) (by kernel_rfl) rfl rfl (fun V hV => exec_loadc 34 _ rfl _ _ rfl (load_one 34 (fun _ => rfl) V _ _ _ (by rw [hV]; exact dk))) ?_
            simp only [Act.put, List.setIfInBounds_toArray, List.set_cons_succ, List.set_cons_zero]
            refine held_take 11 68 _ (.string ⟨o.key.toArray⟩) rfl rfl (by kernel_rfl) (by kernel_rfl) (by kernel_rfl) rfl rfl (fun V hV => exec_conv _ _ _ rfl _ _ rfl (by rw [hV]; exact ko)) ?_
            simp only [Act.put, List.setIfInBounds_toArray, List.set_cons_succ, List.set_cons_zero]
            refine held_take 12 69 _ (.bool true) rfl rfl (by kernel_rfl) (by kernel_rfl) (by kernel_rfl) rfl rfl (fun V _ => exec_neqs _ _ rfl pk o.key rfl rfl _ hne) ?_
            simp only [Act.put, List.setIfInBounds_toArray, List.set_cons_succ, List.set_cons_zero]
            refine wpAnyH_done (by kernel_rfl) ?_ _
            refine NoPanic.normal ?_
            obtain ⟨w7, hw7⟩ : ∃ W, W = w5.drew := ⟨_, rfl⟩
            have hA7 := hA5.below hd_
            rw [← hw7] at hB7 hA7 hw_ ⊢
            clear hw7 dp dk kp ko
            obtain ⟨v8, W8, hr8, hA8, hB8f⟩ := app_pairA hA7 (pk, pv) p1a p2a p1c p2c sp sp2 (by first | omega | (simp; omega)) hB7.size
            have HR8 : Hid (∀ ty, _ = _) := hr8
            have hB8 := hB8f (Nat.le_refl _) hB7 hB7.size
            obtain ⟨dp, dv⟩ := HP2.out _ hB7
            clear hA7
            go_wp2_with (at_builtin; refine app_ran _ W8 rfl (.tmp 70) (.tmp 75) 32 rfl _ _ v8 rfl rfl HR8.out ?_)
            go_roundw
            case rel => exact ⟨K + 1, _, by go_num, hk, by rw [HRS.out], by rw [HRS.out]; exact hA8, hB8⟩
            case measure => simp [intOf]; omega
theorem do8_from (w0 : World) (x : Value) (m : PM) (v : Value) (ops : List OpB) (w : World) (hx : PairsB w0 w x m) (hv : OpsV w0 v ops) (hB0 : Below w0.heap.size w0 w) (hr : RiseM m) (hlm : m.length + ops.length ≤ 1000000) :
    Calls Tryz.prog 15 #[x, v] w fun e w' => ∃ u, e = .returned u ∧ PairsB w0 w' u (doM m ops) ∧ Below w.heap.size w w' ∧ ∀ q, u.ownBlock = some q → x.ownBlock = some q ∨ (w.heap.size ≤ q ∧ q < w'.heap.size) :=
  do8_gen (Seg w0) w0 x m v ops w hx hv hB0 (fun _ _ h _ hV => h.below (blift hB0 hV hB0.size) (Nat.le_refl _)) (fun _ _ h => h) hr hlm
theorem do8_any (x : Value) (m : PM) (v : Value) (ops : List OpB) (w : World) (hx : PairsIn w x m) (hv : OpsV w v ops) (hr : RiseM m) (hlm : m.length + ops.length ≤ 1000000) :
    Calls Tryz.prog 15 #[x, v] w fun e w' => ∃ u, e = .returned u ∧ PairsIn w' u (doM m ops) ∧ Below w.heap.size w w' :=
  (do8_from w x m v ops w hx.toB hv (Below.refl _ _) hr hlm).mono fun _ _ ⟨u, h1, h2, h3, _⟩ => ⟨u, h1, h2.toIn h3, h3⟩
end Go.Proofs.YtbegphfideopoaaGreat
