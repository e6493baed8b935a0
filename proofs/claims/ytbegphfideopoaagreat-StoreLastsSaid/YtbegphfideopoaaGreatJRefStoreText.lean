/-
  What is proved here: a text with how many bytes it has ahead, by the document; a state's bytes, a change's. a change's bytes, by the document. pairs with an op done, by the document, are those that the program has.
  Conditions: those that each fact names. the change lies in memory. the keys rise.
-/
import Derived.Test.YtbegphfideopoaaGreatJRefStore
import Derived.Test.YtbegphfideopoaaGreatJStoreSame
import Derived.Test.YtbegphfideopoaaGreatJPackPure
namespace Go.Proofs.YtbegphfideopoaaGreat
open Go.RowKit

theorem own_two8 (w : World) (a b : UInt8) : Own (w.alloc (.cells #[v8 a, v8 b] 5)) w.heap.size (.slice (some ⟨w.heap.size, 0, none⟩) 2 2) [a, b] :=
  ⟨rfl, .inr ⟨w.heap.size, 2, _, rfl, Nat.le_refl _, heap_alloc_new w _, Nat.le_refl _, by decide, rfl, rfl⟩⟩
theorem own_one8 (w : World) (a : UInt8) : Own (w.alloc (.cells #[v8 a] 5)) w.heap.size (.slice (some ⟨w.heap.size, 0, none⟩) 1 1) [a] :=
  ⟨rfl, .inr ⟨w.heap.size, 1, _, rfl, Nat.le_refl _, heap_alloc_new w _, Nat.le_refl _, by decide, rfl, rfl⟩⟩
theorem v8_nat (n : Nat) (h : n < 256) : v8 (UInt8.ofNat n) = .int .u8 (n : Int) := by
  have e : (UInt8.ofNat n).toNat = n := by simp; omega
  show Value.int .u8 (((UInt8.ofNat n).toNat : Nat) : Int) = _
  rw [e]
set_option maxRecDepth 100000 in
set_option maxHeartbeats 4000000 in
theorem text8_any (x : Value) (bs : List UInt8) (w : World) (hs : Seg w x bs) (hl : bs.length ≤ 65535) :
    Calls Tryz.prog 43 #[x] w fun e w' => ∃ v, e = .returned v ∧ Own w' w.heap.size v (textB bs) ∧ Below w.heap.size w w' := by
  obtain ⟨ao, c, rfl⟩ := hs.shapeD
  have hO := own_two8 w (UInt8.ofNat (bs.length % 256)) (UInt8.ofNat (bs.length / 256))
  rw [v8_nat _ (Nat.mod_lt _ (by decide)), v8_nat _ (by omega)] at hO
  rw [Int.natCast_emod, Int.natCast_ediv] at hO
  have hb1 := (Below.refl w.heap.size w).alloc (Nat.le_refl _) (.cells #[.int .u8 ((bs.length : Int) % 256), .int .u8 ((bs.length : Int) / 256)] 5)
  have hs1 := hs.below hb1 (Nat.le_refl _)
  have HO : Hid (Own (w.alloc (.cells #[.int .u8 ((bs.length : Int) % 256), .int .u8 ((bs.length : Int) / 256)] 5)) w.heap.size (.slice (some ⟨w.heap.size, 0, none⟩) 2 2) [UInt8.ofNat (bs.length % 256), UInt8.ofNat (bs.length / 256)]) := hO
  have HS : Hid (Seg (w.alloc (.cells #[.int .u8 ((bs.length : Int) % 256), .int .u8 ((bs.length : Int) / 256)] 5)) (.slice ao bs.length c) bs) := hs1
  have HB : Hid (Below w.heap.size w (w.alloc (.cells #[.int .u8 ((bs.length : Int) % 256), .int .u8 ((bs.length : Int) / 256)] 5))) := hb1
  clear hO hs1 hb1 hs
  go_enter Tryz.func43, Tryz.ntmps43
  go_wp2_with (at_builtin; refine app_own _ rfl (.tmp 11) (.tmp 12) rfl w.heap.size _ [UInt8.ofNat (bs.length % 256), UInt8.ofNat (bs.length / 256)] rfl HO.out _ bs rfl HS.out (by show 2 + _ ≤ _; omega) (by simp) ?_; intro v2 w2 ho2 hg2 _)
  go_ret
  exact ⟨_, rfl, ho2, below_grown HB.out hg2 (by simp) (fun q hq => by have e : w.heap.size = q := Option.some.inj hq; omega)⟩
theorem state_one {m : PM} {I : Nat} {p : List UInt8 × List UInt8} (h : m[I]? = some p) : stateM (m.take (I + 1)) = (stateM (m.take I) ++ textB p.1) ++ textB p.2 := by
  unfold stateM
  rw [List.take_add_one, h, List.flatMap_append, List.append_assoc]
  simp [pairB]
theorem state_short {m : PM} (hp : PairsR m) (hl : m.length ≤ 100000) (I : Nat) : (stateM (m.take I)).length ≤ 109200000 := by
  rw [stateM_len]
  have h1 := sizeM_le (m := m.take I) (fun q hq => hp q (List.mem_of_mem_take hq))
  rw [List.length_take] at h1
  omega
theorem PairsIn.held {w : World} {v : Value} {l : PM} (h : PairsIn w v l) {I : Nat} {p : List UInt8 × List UInt8} (hp : l[I]? = some p) : ∃ b c ka kc va vc, v = .slice (some ⟨b, 0, none⟩) l.length c ∧ Hid (∀ W, Below w.heap.size w W → W.cell? ⟨b, I * 2, none⟩ = some (.slice ka p.1.length kc) ∧ W.cell? ⟨b, I * 2 + 1, none⟩ = some (.slice va p.2.length vc) ∧ Seg W (.slice ka p.1.length kc) p.1 ∧ Seg W (.slice va p.2.length vc) p.2) := by
  obtain ⟨ao, c, rfl, h1⟩ := h
  obtain ⟨b, ka, kc, va, vc, e0, e1, e2, e3, e4, e5⟩ := h1 I p hp
  rw [Nat.mul_comm] at e1 e2
  exact ⟨b, c, ka, kc, va, vc, by rw [e0], fun W hW => ⟨(hW.cell (p := ⟨b, I * 2, none⟩) e5).trans e1, (hW.cell (p := ⟨b, I * 2 + 1, none⟩) e5).trans e2, e3.below hW (Nat.le_refl _), e4.below hW (Nat.le_refl _)⟩⟩
/-- Pairs whose texts are not long. -/
def PairsF (m : PM) : Prop := ∀ p ∈ m, p.1.length ≤ 4000 ∧ p.2.length ≤ 4000
theorem PairsR.few {m : PM} (h : PairsR m) : PairsF m := fun p hp => by have := h p hp; omega
theorem sizeM_few : ∀ {m : PM}, PairsF m → sizeM m ≤ 8004 * m.length
  | [], _ => Nat.le_refl _
  | p :: m, h => by
    have h1 := sizeM_few (m := m) (fun q hq => h q (List.mem_cons_of_mem _ hq))
    have h2 := h p List.mem_cons_self
    show (4 + p.1.length + p.2.length) + sizeM m ≤ 8004 * (m.length + 1)
    omega
theorem state_shortF {m : PM} (hp : PairsF m) (hml : m.length ≤ 100000) (I : Nat) : (stateM (m.take I)).length ≤ 900000000 := by
  rw [stateM_len]
  have h1 := sizeM_few (m := m.take I) (fun q hq => hp q (List.mem_of_mem_take hq))
  rw [List.length_take] at h1
  omega
set_option maxRecDepth 100000 in
set_option maxHeartbeats 4000000 in
theorem state8_few (x : Value) (m : PM) (w : World) (h : PairsIn w x m) (hp : PairsF m) (hml : m.length ≤ 100000) :
    Calls Tryz.prog 23 #[x] w fun e w' => ∃ v, e = .returned v ∧ Own w' w.heap.size v (stateM m) ∧ Below w.heap.size w w' := by
  have HP : Hid (PairsIn w x m) := h
  obtain ⟨ao, c, rfl, -⟩ := h
  go_enter Tryz.func23, Tryz.ntmps23
  go_wp2_with fail
  go_loopw [3, 4] (fun sv i wr => ∃ I : Nat, i = .int .i64 (I : Int) ∧ I ≤ m.length ∧ Own wr w.heap.size sv (stateM (m.take I)) ∧ Below w.heap.size w wr) (fun _ i _ => m.length - (intOf i).toNat)
  case atStart => exact ⟨0, rfl, Nat.zero_le _, ⟨rfl, .inl ⟨rfl, rfl⟩⟩, Below.refl _ _⟩
  case round =>
    obtain ⟨I, rfl, hI, hO, hB⟩ := hrel
    by_cases hlt : I < m.length
    · have i1 : (I : Int) < (m.length : Int) := by omega
      have hg : m[I]? = some m[I] := List.getElem?_eq_getElem hlt
      obtain ⟨p, hpp⟩ : ∃ p, m[I] = p := ⟨_, rfl⟩
      rw [hpp] at hg
      clear hpp
      have hpb := hp p (List.mem_of_getElem? hg)
      have hsl := state_shortF hp hml I
      have HST : Hid (stateM (m.take (I + 1)) = (stateM (m.take I) ++ textB p.1) ++ textB p.2) := state_one hg
      obtain ⟨b, cc, ka, kc, va, vc, e1, HD⟩ := HP.out.held hg
      cases e1
      obtain ⟨d1, -, s1, -⟩ := HD.out _ hB
      have x1 := index_pairs b m.length c I hlt
      obtain ⟨st, hst⟩ : ∃ st, st = stateM (m.take I) := ⟨_, rfl⟩
      rw [← hst] at hO HST hsl
      have hBs := hB.size
      have HO : Hid (Own wr w.heap.size _ st) := hO
      clear hg hst
      go_wp2_with fail
      refine (text8_any _ p.1 wr s1 (by omega)).mono ?_
      rintro e w1 ⟨v1, rfl, ho1, hb1⟩
      have hO1 := HO.out.below hb1 (Nat.le_refl _)
      obtain ⟨xa, xc, rfl⟩ := Seg.shapeD ho1.seg
      have hB1 := blift hB hb1 hB.size
      obtain ⟨v2, w2, hr2, hO2, hg2, -⟩ := app_bytes w1 w.heap.size _ st hO1 _ (textB p.1) ho1.seg (by rw [textB_len]; omega) hB1.size
      have hB2 := below_grown hB1 hg2 hB1.size (fun q hq => (hO1.blocks q hq).1)
      obtain ⟨-, d2, -, s2⟩ := HD.out _ hB2
      have HR2 : Hid (∀ ty, _ = _) := hr2
      have HO2 : Hid (Own w2 w.heap.size v2 (st ++ textB p.1)) := hO2
      clear hO1 ho1 hg2 hO2 hr2 d1
      go_wp2_with (at_builtin; refine app_ran _ w2 rfl (.tmp 11) (.tmp 17) 34 rfl _ _ v2 rfl rfl HR2.out ?_)
      refine (text8_any _ p.2 w2 s2 (by omega)).mono ?_
      rintro e w3 ⟨v3, rfl, ho3, hb3⟩
      have hO3 := HO2.out.below hb3 (Nat.le_refl _)
      obtain ⟨ya, yc, rfl⟩ := Seg.shapeD ho3.seg
      have hB3 := blift hB2 hb3 hB2.size
      obtain ⟨v4, w4, hr4, hO4, hg4, -⟩ := app_bytes w3 w.heap.size _ (st ++ textB p.1) hO3 _ (textB p.2) ho3.seg (by rw [List.length_append, textB_len, textB_len]; omega) hB3.size
      have hB4 := below_grown hB3 hg4 hB3.size (fun q hq => (hO3.blocks q hq).1)
      have HR4 : Hid (∀ ty, _ = _) := hr4
      have HO4 : Hid (Own w4 w.heap.size v4 ((st ++ textB p.1) ++ textB p.2)) := hO4
      clear hO3 ho3 hg4 hO4 hr4 d2
      go_wp2_with (at_builtin; refine app_ran _ w4 rfl (.tmp 19) (.tmp 25) 34 rfl _ _ v4 rfl rfl HR4.out ?_)
      go_roundw
      case rel => exact ⟨I + 1, by go_num, hlt, by rw [HST.out]; exact HO4.out, hB4⟩
      case measure => simp [intOf]; omega
    · have i1 : ¬ (I : Int) < (m.length : Int) := by omega
      have hII : I = m.length := by omega
      subst hII
      rw [List.take_length] at hO
      go_wp2_with fail
      go_ret
      exact ⟨_, rfl, hO, hB⟩
theorem state8_any (x : Value) (m : PM) (w : World) (h : PairsIn w x m) (hp : PairsR m) (hml : m.length ≤ 100000) :
    Calls Tryz.prog 23 #[x] w fun e w' => ∃ v, e = .returned v ∧ Own w' w.heap.size v (stateM m) ∧ Below w.heap.size w w' :=
  state8_few x m w h hp.few hml
end Go.Proofs.YtbegphfideopoaaGreat
namespace Go.Proofs.YtbegphfideopoaaGreat
open Go.RowKit

theorem OpsV.held {w : World} {v : Value} {ops : List OpB} (h : OpsV w v ops) {I : Nat} {o : OpB} (ho : ops[I]? = some o) : ∃ b off c ka kc va vc, v = .slice (some ⟨b, off, none⟩) ops.length c ∧ Hid (∀ W, Below w.heap.size w W → W.cell? ⟨b, off + I * 3, none⟩ = some (.slice ka o.key.length kc) ∧ W.cell? ⟨b, off + I * 3 + 1, none⟩ = some (.bool o.del) ∧ W.cell? ⟨b, off + I * 3 + 2, none⟩ = some (.slice va o.val.length vc) ∧ Seg W (.slice ka o.key.length kc) o.key ∧ Seg W (.slice va o.val.length vc) o.val) := by
  obtain ⟨ao, c, rfl, _, h1⟩ := h
  obtain ⟨b, off, rfl, hl, ka, kc, va, vc, e0, e1, e2, e3, e4, _⟩ := h1 I o ho
  exact ⟨b, off, c, ka, kc, va, vc, rfl, fun W hW => ⟨(hW.cell (p := ⟨b, off + I * 3, none⟩) hl).trans e0, (hW.cell (p := ⟨b, off + I * 3 + 1, none⟩) hl).trans e1, (hW.cell (p := ⟨b, off + I * 3 + 2, none⟩) hl).trans e2, e3.below hW (Nat.le_refl _), e4.below hW (Nat.le_refl _)⟩⟩
def chgT (ops : List OpB) (I : Nat) : List UInt8 := UInt8.ofNat ops.length :: (ops.take I).flatMap opB
theorem chg_one {ops : List OpB} {I : Nat} {o : OpB} (h : ops[I]? = some o) : chgT ops (I + 1) = ((chgT ops I ++ [if o.del then 1 else 0]) ++ textB o.key) ++ textB o.val := by
  unfold chgT
  rw [List.take_add_one, h, List.flatMap_append]
  simp [opB]
theorem flat_short {ops : List OpB} (hb : ∀ o ∈ ops, o.key.length ≤ 65535 ∧ o.val.length ≤ 65535) : (ops.flatMap opB).length ≤ 200000 * ops.length := by
  induction ops with
  | nil => exact Nat.le_refl _
  | cons o l ih =>
    have h1 := ih (fun q hq => hb q (List.mem_cons_of_mem _ hq))
    have h2 := hb o List.mem_cons_self
    rw [List.flatMap_cons, List.length_append, opB_len]
    simp only [List.length_cons]
    omega
theorem chg_short {ops : List OpB} (hn : ops.length ≤ 255) (hb : ∀ o ∈ ops, o.key.length ≤ 65535 ∧ o.val.length ≤ 65535) (I : Nat) : (chgT ops I).length ≤ 60000000 := by
  unfold chgT
  have h1 := flat_short (ops := ops.take I) (fun o ho => hb o (List.mem_of_mem_take ho))
  rw [List.length_take] at h1
  simp only [List.length_cons]
  omega
set_option maxRecDepth 100000 in
set_option maxHeartbeats 8000000 in
theorem change8_any (v : Value) (ops : List OpB) (w : World) (h : OpsV w v ops) (hn : ops.length ≤ 255) (hb : ∀ o ∈ ops, o.key.length ≤ 65535 ∧ o.val.length ≤ 65535) :
    Calls Tryz.prog 22 #[v] w fun e w' => ∃ u, e = .returned u ∧ Own w' w.heap.size u (chgB ops) ∧ Below w.heap.size w w' := by
  have HV : Hid (OpsV w v ops) := h
  obtain ⟨ao, c, rfl, -, -⟩ := h
  have hO0 := own_one8 w (UInt8.ofNat ops.length)
  rw [v8_nat _ (by omega)] at hO0
  have HB : Hid (∀ o ∈ ops, o.key.length ≤ 65535 ∧ o.val.length ≤ 65535) := hb
  have hb0 := (Below.refl w.heap.size w).alloc (Nat.le_refl _) (.cells #[.int .u8 (ops.length : Int)] 5)
  have HSH : Hid (∀ I, (chgT ops I).length ≤ 60000000) := chg_short hn hb
  clear hb
  go_enter Tryz.func22, Tryz.ntmps22
  go_wp2_with fail
  go_loopw [3, 4] (fun sv i wr => ∃ I : Nat, i = .int .i64 (I : Int) ∧ I ≤ ops.length ∧ Own wr w.heap.size sv (chgT ops I) ∧ Below w.heap.size w wr) (fun _ i _ => ops.length - (intOf i).toNat)
  case atStart => exact ⟨0, rfl, Nat.zero_le _, hO0, hb0⟩
  case round =>
    clear hO0 hb0
    obtain ⟨I, rfl, hI, hO, hB⟩ := hrel
    by_cases hlt : I < ops.length
    · have i1 : (I : Int) < (ops.length : Int) := by omega
      have hg : ops[I]? = some ops[I] := List.getElem?_eq_getElem hlt
      obtain ⟨o, hoo⟩ : ∃ p, ops[I] = p := ⟨_, rfl⟩
      rw [hoo] at hg
      clear hoo
      have hob := HB.out o (List.mem_of_getElem? hg)
      have hsl := HSH.out I
      have HST : Hid (chgT ops (I + 1) = ((chgT ops I ++ [if o.del then 1 else 0]) ++ textB o.key) ++ textB o.val) := chg_one hg
      obtain ⟨b, off, cc, ka, kc, va, vc, e1, HD⟩ := HV.out.held hg
      cases e1
      have x1 := index_ops b off ops.length c I hlt
      obtain ⟨st, hst⟩ : ∃ st, st = chgT ops I := ⟨_, rfl⟩
      rw [← hst] at hO HST hsl
      obtain ⟨-, d1, -, -, -⟩ := HD.out _ hB
      obtain ⟨dl, hdl⟩ : ∃ d, d = o.del := ⟨_, rfl⟩
      rw [← hdl] at d1 HST
      clear hg hst hdl
      have key : ∀ (z : UInt8), ∃ v1 w1, (∀ ty, (Builtin.append_ #[34, 34] ty #[_, .slice (some ⟨wr.heap.size, 0, none⟩) 1 1]).run Tryz.prog (wr.alloc (.cells #[v8 z] 5)) = .ok v1 w1) ∧ Own w1 w.heap.size v1 (st ++ [z]) ∧ Below w.heap.size w w1 := fun z => by
        have hz := (Below.refl wr.heap.size wr).alloc (Nat.le_refl _) (.cells #[v8 z] 5)
        have hBz := blift hB hz hB.size
        have hOz := hO.below hz (Nat.le_refl _)
        obtain ⟨v1, w1, hr1, hO1, hg1, -⟩ := app_bytes _ w.heap.size _ st hOz _ [z] (own_one8 wr z).seg (by show st.length + 1 ≤ _; omega) hBz.size
        exact ⟨v1, w1, hr1, hO1, below_grown hBz hg1 hBz.size (fun q hq => (hOz.blocks q hq).1)⟩
      cases dl with
      | false =>
        obtain ⟨v1, w1, hr1, hO1, hB1⟩ := key 0
        have HR1 : Hid (∀ ty, _ = _) := hr1
        have HO1 : Hid (Own w1 w.heap.size v1 (st ++ [0])) := hO1
        obtain ⟨d0, -, -, s0, -⟩ := HD.out _ hB1
        clear key hr1 hO1 hO
        go_wp2_with (at_builtin; refine app_ran _ w1 rfl (.tmp 21) (.tmp 23) 34 rfl _ _ v1 rfl rfl HR1.out ?_)
        refine (text8_any _ o.key w1 s0 (by omega)).mono ?_
        rintro e w2 ⟨v2, rfl, ho2, hb2⟩
        have hO2 := HO1.out.below hb2 (Nat.le_refl _)
        obtain ⟨xa, xc, rfl⟩ := Seg.shapeD ho2.seg
        have hB2 := blift hB1 hb2 hB1.size
        obtain ⟨v3, w3, hr3, hO3, hg3, -⟩ := app_bytes w2 w.heap.size _ (st ++ [0]) hO2 _ (textB o.key) ho2.seg (by rw [List.length_append, textB_len]; simp only [List.length_singleton]; omega) hB2.size
        have hB3 := below_grown hB2 hg3 hB2.size (fun q hq => (hO2.blocks q hq).1)
        obtain ⟨-, -, d2, -, s2⟩ := HD.out _ hB3
        have HR3 : Hid (∀ ty, _ = _) := hr3
        have HO3 : Hid (Own w3 w.heap.size v3 ((st ++ [0]) ++ textB o.key)) := hO3
        clear hO2 ho2 hg3 hO3 hr3 d0 d1
        go_wp2_with (at_builtin; refine app_ran _ w3 rfl (.tmp 25) (.tmp 31) 34 rfl _ _ v3 rfl rfl HR3.out ?_)
        refine (text8_any _ o.val w3 s2 (by omega)).mono ?_
        rintro e w4 ⟨v4, rfl, ho4, hb4⟩
        have hO4 := HO3.out.below hb4 (Nat.le_refl _)
        obtain ⟨ya, yc, rfl⟩ := Seg.shapeD ho4.seg
        have hB4 := blift hB3 hb4 hB3.size
        obtain ⟨v5, w5, hr5, hO5, hg5, -⟩ := app_bytes w4 w.heap.size _ ((st ++ [0]) ++ textB o.key) hO4 _ (textB o.val) ho4.seg (by rw [List.length_append, List.length_append, textB_len, textB_len]; simp only [List.length_singleton]; omega) hB4.size
        have hB5 := below_grown hB4 hg5 hB4.size (fun q hq => (hO4.blocks q hq).1)
        have HR5 : Hid (∀ ty, _ = _) := hr5
        have HO5 : Hid (Own w5 w.heap.size v5 (((st ++ [0]) ++ textB o.key) ++ textB o.val)) := hO5
        clear hO4 ho4 hg5 hO5 hr5 d2
        go_wp2_with (at_builtin; refine app_ran _ w5 rfl (.tmp 33) (.tmp 39) 34 rfl _ _ v5 rfl rfl HR5.out ?_)
        go_roundw
        case rel => exact ⟨I + 1, by go_num, hlt, by rw [HST.out]; exact HO5.out, hB5⟩
        case measure => simp [intOf]; omega
      | true =>
        obtain ⟨v1, w1, hr1, hO1, hB1⟩ := key 1
        have HR1 : Hid (∀ ty, _ = _) := hr1
        have HO1 : Hid (Own w1 w.heap.size v1 (st ++ [1])) := hO1
        obtain ⟨d0, -, -, s0, -⟩ := HD.out _ hB1
        clear key hr1 hO1 hO
        go_wp2_with (at_builtin; refine app_ran _ w1 rfl (.tmp 21) (.tmp 23) 34 rfl _ _ v1 rfl rfl HR1.out ?_)
        refine (text8_any _ o.key w1 s0 (by omega)).mono ?_
        rintro e w2 ⟨v2, rfl, ho2, hb2⟩
        have hO2 := HO1.out.below hb2 (Nat.le_refl _)
        obtain ⟨xa, xc, rfl⟩ := Seg.shapeD ho2.seg
        have hB2 := blift hB1 hb2 hB1.size
        obtain ⟨v3, w3, hr3, hO3, hg3, -⟩ := app_bytes w2 w.heap.size _ (st ++ [1]) hO2 _ (textB o.key) ho2.seg (by rw [List.length_append, textB_len]; simp only [List.length_singleton]; omega) hB2.size
        have hB3 := below_grown hB2 hg3 hB2.size (fun q hq => (hO2.blocks q hq).1)
        obtain ⟨-, -, d2, -, s2⟩ := HD.out _ hB3
        have HR3 : Hid (∀ ty, _ = _) := hr3
        have HO3 : Hid (Own w3 w.heap.size v3 ((st ++ [1]) ++ textB o.key)) := hO3
        clear hO2 ho2 hg3 hO3 hr3 d0 d1
        go_wp2_with (at_builtin; refine app_ran _ w3 rfl (.tmp 25) (.tmp 31) 34 rfl _ _ v3 rfl rfl HR3.out ?_)
        refine (text8_any _ o.val w3 s2 (by omega)).mono ?_
        rintro e w4 ⟨v4, rfl, ho4, hb4⟩
        have hO4 := HO3.out.below hb4 (Nat.le_refl _)
        obtain ⟨ya, yc, rfl⟩ := Seg.shapeD ho4.seg
        have hB4 := blift hB3 hb4 hB3.size
        obtain ⟨v5, w5, hr5, hO5, hg5, -⟩ := app_bytes w4 w.heap.size _ ((st ++ [1]) ++ textB o.key) hO4 _ (textB o.val) ho4.seg (by rw [List.length_append, List.length_append, textB_len, textB_len]; simp only [List.length_singleton]; omega) hB4.size
        have hB5 := below_grown hB4 hg5 hB4.size (fun q hq => (hO4.blocks q hq).1)
        have HR5 : Hid (∀ ty, _ = _) := hr5
        have HO5 : Hid (Own w5 w.heap.size v5 (((st ++ [1]) ++ textB o.key) ++ textB o.val)) := hO5
        clear hO4 ho4 hg5 hO5 hr5 d2
        go_wp2_with (at_builtin; refine app_ran _ w5 rfl (.tmp 33) (.tmp 39) 34 rfl _ _ v5 rfl rfl HR5.out ?_)
        go_roundw
        case rel => exact ⟨I + 1, by go_num, hlt, by rw [HST.out]; exact HO5.out, hB5⟩
        case measure => simp [intOf]; omega
    · have i1 : ¬ (I : Int) < (ops.length : Int) := by omega
      have hII : I = ops.length := by omega
      subst hII
      have hfin : chgT ops ops.length = chgB ops := by unfold chgT chgB; rw [List.take_length]
      rw [hfin] at hO
      clear hfin
      go_wp2_with fail
      go_ret
      exact ⟨_, rfl, hO, hB⟩
end Go.Proofs.YtbegphfideopoaaGreat
namespace Go.Proofs.YtbegphfideopoaaGreat
open Go.RowKit

/-- What the document gathers, one pair more. -/
def stepD (o : OpB) (s : PM × Bool) (p : List UInt8 × List UInt8) : PM × Bool :=
  if s.2 = false ∧ o.key < p.1 then (if p.1 = o.key then (s.1 ++ [(o.key, o.val)], true) else ((s.1 ++ [(o.key, o.val)]) ++ [p], true))
  else (if p.1 = o.key then s else (s.1 ++ [p], s.2))
def runD (o : OpB) (m : PM) : PM × Bool := m.foldl (stepD o) ([], o.del)
def endD (o : OpB) (m : PM) : PM := if (runD o m).2 = false then (runD o m).1 ++ [(o.key, o.val)] else (runD o m).1
theorem run_step (o : OpB) {m : PM} {K : Nat} {p : List UInt8 × List UInt8} (h : m[K]? = some p) : runD o (m.take (K + 1)) = stepD o (runD o (m.take K)) p := by
  unfold runD
  rw [List.take_add_one, h, List.foldl_append]
  rfl
theorem run_true (o : OpB) : ∀ (m : PM) (a : PM), m.foldl (stepD o) (a, true) = (a ++ delM o.key m, true)
  | [], a => by simp [delM]
  | p :: m, a => by
    rw [List.foldl_cons]
    have e : stepD o (a, true) p = (if p.1 = o.key then a else a ++ [p], true) := by
      unfold stepD
      rw [if_neg (by simp)]
      by_cases h : p.1 = o.key <;> simp [h]
    rw [e, run_true o m]
    rw [show delM o.key (p :: m) = if p.1 = o.key then delM o.key m else p :: delM o.key m from rfl]
    by_cases h : p.1 = o.key <;> simp [h]
theorem del_above (k : List UInt8) : ∀ (m : PM), (∀ p ∈ m, k < p.1) → delM k m = m
  | [], _ => rfl
  | p :: m, h => by
    have h1 := h p List.mem_cons_self
    have h2 : ¬ p.1 = k := fun e => by rw [e] at h1; exact lt_irr _ h1
    unfold delM
    rw [if_neg h2, del_above k m (fun q hq => h q (List.mem_cons_of_mem _ hq))]
def finD (o : OpB) (s : PM × Bool) : PM := if s.2 = false then s.1 ++ [(o.key, o.val)] else s.1
theorem run_false (o : OpB) : ∀ (m : PM) (a : PM), RiseM m → finD o (m.foldl (stepD o) (a, false)) = a ++ putM o.key o.val m
  | [], a, _ => by simp [finD, putM]
  | p :: m, a, hr => by
    have hm : RiseM m := (List.pairwise_cons.1 hr).2
    have hgt : ∀ q ∈ m, p.1 < q.1 := (List.pairwise_cons.1 hr).1
    rw [List.foldl_cons]
    by_cases h1 : o.key < p.1
    · have h2 : ¬ p.1 = o.key := fun e => by rw [e] at h1; exact lt_irr _ h1
      have e : stepD o (a, false) p = ((a ++ [(o.key, o.val)]) ++ [p], true) := by
        unfold stepD
        rw [if_pos ⟨rfl, h1⟩, if_neg h2]
      rw [e, run_true o m, del_above o.key m (fun q hq => lt_tr h1 (hgt q hq))]
      unfold finD putM
      simp [h1]
    · by_cases h2 : p.1 = o.key
      · have e : stepD o (a, false) p = (a, false) := by
          unfold stepD
          rw [if_neg (fun c => h1 c.2), if_pos h2]
        rw [e, run_false o m a hm]
        unfold putM
        rw [if_neg h1, if_pos h2]
        congr 1
        cases m with
        | nil => rfl
        | cons q l =>
          have := hgt q List.mem_cons_self
          rw [h2] at this
          show (if o.key < q.1 then _ else _) = _
          rw [if_pos this]
      · have e : stepD o (a, false) p = (a ++ [p], false) := by
          unfold stepD
          rw [if_neg (fun c => h1 c.2), if_neg h2]
        rw [e, run_false o m (a ++ [p]) hm]
        show _ = a ++ putM o.key o.val (p :: m)
        rw [show putM o.key o.val (p :: m) = p :: putM o.key o.val m from by rw [putM, if_neg h1, if_neg h2]]
        simp
theorem endD_do (o : OpB) {m : PM} (hr : RiseM m) : endD o m = doOp m o := by
  unfold doOp
  cases hd : o.del with
  | true =>
    have e : runD o m = (delM o.key m, true) := by
      unfold runD
      rw [hd, run_true]
      rfl
    unfold endD
    rw [e]
    simp
  | false =>
    have e := run_false o m [] hr
    unfold endD runD
    rw [hd]
    simpa [finD] using e
end Go.Proofs.YtbegphfideopoaaGreat
