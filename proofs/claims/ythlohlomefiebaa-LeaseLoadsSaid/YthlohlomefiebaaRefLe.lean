/-
  What is proved here: the document's table: how it lies in memory, its small calls, open, Of and At.
  Conditions: the table lies in memory.
-/
import Derived.Test.YthlohlomefiebaaLeGrant
import Derived.BigQuiet
import Derived.Deep.QuietTactic
namespace Go.Proofs.Ythlohlomefiebaa
open Go.RowKit Go.Maps

/-- The document's table, as laws hold it. -/
structure RfT (w : World) (lo G : Nat) (v : Value) (l : List LE) : Prop where
  head : Blk w G 29 #[v]
  row : LeR w lo v l
  ok : OkT l
  gG : lo ≤ G
  nG : v.ownBlock ≠ some G
def RfM (G : Nat) (v : Value) (q : Nat) : Prop := q = G ∨ v.ownBlock = some q
theorem RfT.lt {w : World} {lo G : Nat} {v : Value} {l : List LE} (h : RfT w lo G v l) (q : Nat) (hq : RfM G v q) : q < w.heap.size := by
  rcases hq with rfl | e
  · exact h.head.lt
  · exact (h.row.lt q e).2
theorem RfT.ge {w : World} {lo G : Nat} {v : Value} {l : List LE} (h : RfT w lo G v l) (q : Nat) (hq : RfM G v q) : lo ≤ q := by
  rcases hq with rfl | e
  · exact h.gG
  · exact (h.row.lt q e).1
theorem RfT.chg {S : Nat → Prop} {w w' : World} {lo G : Nat} {v : Value} {l : List LE} (h : RfT w lo G v l) (hc : Chg S w w') (hS : ∀ q, RfM G v q → ¬ S q) : RfT w' lo G v l :=
  ⟨h.head.chg hc (hS G (.inl rfl)), h.row.chg hc (fun k e => hS k (.inr e)), h.ok, h.gG, h.nG⟩
theorem RfT.after {B : Nat} {w w' : World} {lo G : Nat} {v : Value} {l : List LE} (h : RfT w lo G v l) (hb : Below B w w') (hB : w.heap.size ≤ B) : RfT w' lo G v l := h.chg (S := fun _ => False) (Chg.of_below hb hB) (fun _ _ => id)
theorem RfT.store {w w' : World} {lo G R : Nat} {v : Value} {l : List LE} (h : RfT w lo G v l) (hg : w.grownBy w' (some R)) (hR : ¬ RfM G v R) : RfT w' lo G v l := h.chg (S := fun q => q = R) (Chg.of_grown hg (fun k e => (Option.some.inj e).symm)) (fun q hq e => hR (by rw [← e]; exact hq))
theorem RfT.fresh {w : World} {lo G : Nat} {v : Value} {l : List LE} (h : RfT w lo G v l) {R : Nat} (hR : w.heap.size ≤ R) : ¬ RfM G v R := fun e => by have := h.lt R e; omega
theorem rfT_new (w : World) : RfT (w.alloc (.cells #[.slice none 0 0] 29)) w.heap.size w.heap.size (.slice none 0 0) [] := ⟨Blk.new w _ _, LeR.nil _ _, OkT.nil, Nat.le_refl _, fun e => by cases e⟩
theorem cells_le0 {w : World} {b : Nat} {e : LE} {i : Nat} (h : ∀ (k : Nat) u, (leL e)[k]? = some u → w.cell? ⟨b, i * 3 + k, none⟩ = some u) : w.cell? ⟨b, i * 3, none⟩ = some (.int .i64 e.n) ∧ w.cell? ⟨b, i * 3 + 1, none⟩ = some (.int .i64 e.d) ∧ w.cell? ⟨b, i * 3 + 2, none⟩ = some (.int .i64 e.u) := ⟨h 0 _ rfl, h 1 _ rfl, h 2 _ rfl⟩
theorem rdev16_any (n : Int) (w : World) : Calls Try.prog 31 #[.int .i64 n] w fun e w' => e = .returned (.bool (deT n)) ∧ w' = w := by
  unfold deT
  by_cases h1 : 1 ≤ n
  · have d1 : decide (1 ≤ n ∧ n ≤ 4096) = decide (n ≤ 4096) := by simp [h1]
    rw [d1]
    go_enter Try.func31, Try.ntmps31
    go_wp2
    go_ret
    exact ⟨rfl, rfl⟩
  · have d1 : decide (1 ≤ n ∧ n ≤ 4096) = false := by simp [h1]
    rw [d1]
    go_enter Try.func31, Try.ntmps31
    go_wp2
    go_ret
    exact ⟨rfl, rfl⟩
theorem rmom16_any (n : Int) (w : World) : Calls Try.prog 41 #[.int .i64 n] w fun e w' => e = .returned (.bool (moT n)) ∧ w' = w := by
  unfold moT
  by_cases h1 : 0 ≤ n
  · have d1 : decide (0 ≤ n ∧ n ≤ 1099511627776) = decide (n ≤ 1099511627776) := by simp [h1]
    rw [d1]
    go_enter Try.func41, Try.ntmps41
    go_wp2
    go_ret
    exact ⟨rfl, rfl⟩
  · have d1 : decide (0 ≤ n ∧ n ≤ 1099511627776) = false := by simp [h1]
    rw [d1]
    go_enter Try.func41, Try.ntmps41
    go_wp2
    go_ret
    exact ⟨rfl, rfl⟩
theorem rlife16_any (n : Int) (w : World) : Calls Try.prog 42 #[.int .i64 n] w fun e w' => e = .returned (.bool (liT n)) ∧ w' = w := by
  unfold liT
  by_cases h1 : 1 ≤ n
  · have d1 : decide (1 ≤ n ∧ n ≤ 1048576) = decide (n ≤ 1048576) := by simp [h1]
    rw [d1]
    go_enter Try.func42, Try.ntmps42
    go_wp2
    go_ret
    exact ⟨rfl, rfl⟩
  · have d1 : decide (1 ≤ n ∧ n ≤ 1048576) = false := by simp [h1]
    rw [d1]
    go_enter Try.func42, Try.ntmps42
    go_wp2
    go_ret
    exact ⟨rfl, rfl⟩
set_option maxRecDepth 100000 in
set_option maxHeartbeats 1000000 in
theorem ropen16_any {w : World} {lo G : Nat} {v : Value} {l : List LE} (h : RfT w lo G v l) (n : Int) : Calls Try.prog 43 #[.pointer (some ⟨G, 0, none⟩), .int .i64 n] w fun e w' => e = .returned (.bool (opnT l n).isSome) ∧ w' = w := by
  obtain ⟨ao, c, rfl⟩ := h.row.shape
  have c0 : w.cell? ⟨G, 0, none⟩ = some (.slice ao l.length c) := h.head.cell (j := 0) rfl
  cases ha : atT l n with
  | none =>
    have hn := atT_none ha
    have e0 : (opnT l n).isSome = false := by unfold opnT; rw [ha]; rfl
    rw [e0]
    clear ha h e0
    by_cases h1 : 1 ≤ n
    · have h2 : ¬ n ≤ (l.length : Int) := fun k => hn ⟨h1, k⟩
      have d1 : decide (1 ≤ n) = true := decide_eq_true h1
      have d2 : decide (n ≤ (l.length : Int)) = false := decide_eq_false h2
      clear hn h1 h2
      go_enter Try.func43, Try.ntmps43
      go_wp2
      go_ret
      exact ⟨rfl, rfl⟩
    · have d1 : decide (1 ≤ n) = false := decide_eq_false h1
      clear hn h1
      go_enter Try.func43, Try.ntmps43
      go_wp2
      go_ret
      exact ⟨rfl, rfl⟩
  | some e =>
    have e0 : (opnT l n).isSome = decide (0 < e.u) := by
      unfold opnT
      rw [ha]
      by_cases hu : 0 < e.u <;> simp [hu]
    rw [e0]
    obtain ⟨i, rfl, hi⟩ := atT_some ha
    have hil : i < l.length := (List.getElem?_eq_some_iff.1 hi).1
    obtain ⟨B, c', e1, hBl, _, hc⟩ := h.row.at hi
    cases e1
    have k2 : w.cell? ⟨B, i * 3 + 2, none⟩ = some (.int .i64 e.u) := hc 2 _ rfl
    have ix := fun w => index_le0 B l.length c i w hil
    have hw : wrap64 (i : Int) = (i : Int) := by have := h.ok.len; unfold wrap64; omega
    have d1 : decide ((1 : Int) ≤ (i : Int) + 1) = true := decide_eq_true (by omega)
    have d2 : decide ((i : Int) + 1 ≤ (l.length : Int)) = true := decide_eq_true (by omega)
    clear ha h e0 hi hc hBl
    generalize e.u = eu at *
    go_enter Try.func43, Try.ntmps43
    go_wp2
    go_ret
    exact ⟨rfl, rfl⟩
set_option maxRecDepth 100000 in
set_option maxHeartbeats 1000000 in
theorem rat16_any {w : World} {lo G : Nat} {v : Value} {l : List LE} (h : RfT w lo G v l) (n : Int) : Calls Try.prog 27 #[.pointer (some ⟨G, 0, none⟩), .int .i64 n] w fun e w' => e = .returned (.tuple #[leV (ansAt l n).1, .int .i64 (ansAt l n).2]) ∧ Below w.heap.size w w' := by
  obtain ⟨ao, c, rfl⟩ := h.row.shape
  have c0 : w.cell? ⟨G, 0, none⟩ = some (.slice ao l.length c) := h.head.cell (j := 0) rfl
  have hG := h.head.lt
  have hB := below_newE w (.cells #[.int .i64 0, .int .i64 0, .int .i64 0] 43)
  have kR := Blk.new w 43 #[.int .i64 0, .int .i64 0, .int .i64 0]
  have c1 : (w.alloc (.cells #[.int .i64 0, .int .i64 0, .int .i64 0] 43)).cell? ⟨G, 0, none⟩ = some (.slice ao l.length c) := (hB.cell (p := ⟨G, 0, none⟩) hG).trans c0
  unfold ansAt
  cases ha : atT l n with
  | none =>
    have hn := atT_none ha
    clear ha h c0 hG
    unfold leV leL noLE
    by_cases h1 : n < 1
    · have d1 : decide (n < 1) = true := decide_eq_true h1
      clear hn h1
      go_enter Try.func27, Try.ntmps27
      go_wp2_with (refine store_blk rfl 43 _ _ rfl rfl w.heap.size #[.int .i64 0, .int .i64 0, .int .i64 0] rfl rfl 43 _ kR info_le rfl (by simp [Value.oneCell']) ?_; intro w2 kR2 hg2 _)
      refine bodyPost_ret (results_pairE Try.results27 _ _ w.heap.size 43 _ (0, 0) _ _ rfl kR2 Try.underlying43 rfl info_le rfl) rfl ⟨rfl, low_store hB hg2⟩
    · have h2 : (l.length : Int) < n := by omega
      have d1 : decide (n < 1) = false := decide_eq_false h1
      have d2 : decide ((l.length : Int) < n) = true := decide_eq_true h2
      clear hn h1 h2
      go_enter Try.func27, Try.ntmps27
      go_wp2_with (refine store_blk rfl 43 _ _ rfl rfl w.heap.size #[.int .i64 0, .int .i64 0, .int .i64 0] rfl rfl 43 _ kR info_le rfl (by simp [Value.oneCell']) ?_; intro w2 kR2 hg2 _)
      refine bodyPost_ret (results_pairE Try.results27 _ _ w.heap.size 43 _ (0, 0) _ _ rfl kR2 Try.underlying43 rfl info_le rfl) rfl ⟨rfl, low_store hB hg2⟩
  | some e =>
    obtain ⟨i, rfl, hi⟩ := atT_some ha
    have hil : i < l.length := (List.getElem?_eq_some_iff.1 hi).1
    have d1 : decide ((i : Int) + 1 < 1) = false := decide_eq_false (by omega)
    have d2 : decide ((l.length : Int) < (i : Int) + 1) = false := decide_eq_false (by omega)
    obtain ⟨B, c', e1, hBl, _, hc⟩ := h.row.at hi
    cases e1
    have k0 : (w.alloc (.cells #[.int .i64 0, .int .i64 0, .int .i64 0] 43)).cell? ⟨B, i * 3, none⟩ = some (.int .i64 e.n) := (hB.cell (p := ⟨B, i * 3, none⟩) hBl).trans (hc 0 _ rfl)
    have k1 : (w.alloc (.cells #[.int .i64 0, .int .i64 0, .int .i64 0] 43)).cell? ⟨B, i * 3 + 1, none⟩ = some (.int .i64 e.d) := (hB.cell (p := ⟨B, i * 3 + 1, none⟩) hBl).trans (hc 1 _ rfl)
    have k2 : (w.alloc (.cells #[.int .i64 0, .int .i64 0, .int .i64 0] 43)).cell? ⟨B, i * 3 + 2, none⟩ = some (.int .i64 e.u) := (hB.cell (p := ⟨B, i * 3 + 2, none⟩) hBl).trans (hc 2 _ rfl)
    have ix := fun w => index_le0 B l.length c i w hil
    have hw : wrap64 (i : Int) = (i : Int) := by have := h.ok.len; unfold wrap64; omega
    clear ha h c0 hG hc hi
    unfold leV leL
    generalize e.n = en at *
    generalize e.d = ed at *
    generalize e.u = eu at *
    go_enter Try.func27, Try.ntmps27
    go_wp2_with (refine store_blk rfl 43 _ _ rfl rfl w.heap.size #[.int .i64 en, .int .i64 ed, .int .i64 eu] rfl rfl 43 _ kR info_le rfl (by simp [Value.oneCell']) ?_; intro w2 kR2 hg2 _)
    refine bodyPost_ret (results_pairE Try.results27 _ _ w.heap.size 43 _ (0, 0) _ _ rfl kR2 Try.underlying43 rfl info_le rfl) rfl ⟨rfl, low_store hB hg2⟩
set_option maxRecDepth 100000 in
set_option maxHeartbeats 2000000 in
theorem rof16_any {w : World} {lo G : Nat} {v : Value} {l : List LE} (h : RfT w lo G v l) (q : Int) : Calls Try.prog 26 #[.pointer (some ⟨G, 0, none⟩), .int .i64 q] w fun e w' => e = .returned (.tuple #[leV (ofT l q).1, .bool (ofT l q).2]) ∧ Below w.heap.size w w' := by
  obtain ⟨ao, c, rfl⟩ := h.row.shape
  have hB := below_newE w (.cells #[.int .i64 0, .int .i64 0, .int .i64 0] 43)
  have kR := Blk.new w 43 #[.int .i64 0, .int .i64 0, .int .i64 0]
  have hh := h.after hB (Nat.le_refl _)
  have c1 : (w.alloc (.cells #[.int .i64 0, .int .i64 0, .int .i64 0] 43)).cell? ⟨G, 0, none⟩ = some (.slice ao l.length c) := hh.head.cell (j := 0) rfl
  have hll := h.ok.len
  have HOK : Hid (OkT l) := h.ok
  have HROW : Hid (LeR (w.alloc (.cells #[.int .i64 0, .int .i64 0, .int .i64 0] 43)) lo (.slice ao l.length c) l) := hh.row
  have HB : Hid (Below w.heap.size w (w.alloc (.cells #[.int .i64 0, .int .i64 0, .int .i64 0] 43))) := hB
  obtain ⟨r, hr⟩ : ∃ r, r = ofT l q := ⟨_, rfl⟩
  rw [← hr]
  have HRR : Hid (r = ofT l q) := hr
  clear h hh hB hr
  obtain ⟨⟨rn, rd, ru⟩, rb⟩ := r
  unfold leV leL
  dsimp only
  go_enter Try.func26, Try.ntmps26
  go_wp2_with fail
  generalize hW1 : w.alloc (.cells #[.int .i64 0, .int .i64 0, .int .i64 0] 43) = W1 at *
  go_loopw [6] (fun i wr => ∃ k : Nat, i = .int .i64 (k : Int) ∧ k ≤ l.length ∧ wr = W1 ∧ Hid (∀ e ∈ l.take k, ¬ (e.d = q ∧ 0 < e.u))) (fun i _ => l.length - (Go.RowKit.intOf i).toNat)
  case atStart => exact ⟨0, rfl, Nat.zero_le _, rfl, fun e he => by simp at he⟩
  case round =>
    obtain ⟨k, rfl, hk, rfl, HN⟩ := hrel
    by_cases hlt : k < l.length
    · obtain ⟨e, he⟩ : ∃ e, l[k]? = some e := ⟨_, List.getElem?_eq_getElem hlt⟩
      obtain ⟨B, c', e1, hBl, _, hc⟩ := HROW.out.at he
      cases e1
      obtain ⟨k0, k1, k2⟩ := cells_le0 hc
      have ix := fun w => index_le0 B l.length c k w hlt
      have HE : Hid (l[k]? = some e) := he
      have HTK : Hid (l.take (k + 1) = l.take k ++ [e]) := by show _ = _; rw [List.take_add_one, he]; rfl
      clear he hc hBl
      by_cases hd : e.d = q
      · have d1 : (e.d == q) = true := beq_iff_eq.2 hd
        by_cases hu : 0 < e.u
        · have d2 : decide (0 < e.u) = true := decide_eq_true hu
          have ho : openD l q = some e := by rw [← hd]; exact HOK.out.open (List.mem_iff_getElem?.2 ⟨k, HE.out⟩) hu
          have ha : ofT l q = (e, true) := by unfold ofT; rw [ho]
          have hq := HRR.out
          rw [ha] at hq
          clear ha ho hu hd HRR
          obtain ⟨en, ed, eu⟩ := e
          cases hq
          dsimp only at *
          go_wp2_with (refine store_blk rfl 43 _ _ rfl rfl w.heap.size #[.int .i64 rn, .int .i64 rd, .int .i64 ru] rfl rfl 43 _ kR info_le rfl (by simp [Value.oneCell']) ?_; intro w2 kR2 hg2 _)
          refine bodyPost_ret (results_pairE Try.results26 _ _ w.heap.size 43 _ (0, 0) _ _ rfl kR2 Try.underlying43 rfl info_le rfl) rfl ⟨rfl, low_store HB.out hg2⟩
        · have d2 : decide (0 < e.u) = false := decide_eq_false hu
          have HN2 : Hid (∀ x ∈ l.take (k + 1), ¬ (x.d = q ∧ 0 < x.u)) := by
            intro x hx
            rw [HTK.out] at hx
            rcases List.mem_append.1 hx with h1 | h1
            · exact HN.out x h1
            · rw [List.mem_singleton.1 h1]; exact fun k => hu k.2
          clear hu hd
          go_wp2
          go_roundw
          case rel => exact ⟨k + 1, by go_num, hlt, trivial, HN2.out⟩
          case measure => simp [Go.RowKit.intOf]; omega
      · have d1 : (e.d == q) = false := beq_eq_false_iff_ne.2 hd
        have HN2 : Hid (∀ x ∈ l.take (k + 1), ¬ (x.d = q ∧ 0 < x.u)) := by
          intro x hx
          rw [HTK.out] at hx
          rcases List.mem_append.1 hx with h1 | h1
          · exact HN.out x h1
          · rw [List.mem_singleton.1 h1]; exact fun k => hd k.1
        clear hd
        go_wp2
        go_roundw
        case rel => exact ⟨k + 1, by go_num, hlt, trivial, HN2.out⟩
        case measure => simp [Go.RowKit.intOf]; omega
    · have hkl : k = l.length := by omega
      have hni : ¬ (k : Int) < (l.length : Int) := by omega
      have ho : openD l q = none := by
        rw [openD_none]
        have := HN.out
        rw [hkl, List.take_length] at this
        exact this
      have ha : ofT l q = (noLE, false) := by unfold ofT; rw [ho]
      have hq := HRR.out
      rw [ha] at hq
      unfold noLE at hq
      clear ha ho hkl hlt HRR
      cases hq
      go_wp2_with (refine store_blk rfl 43 _ _ rfl rfl w.heap.size #[.int .i64 0, .int .i64 0, .int .i64 0] rfl rfl 43 _ kR info_le rfl (by simp [Value.oneCell']) ?_; intro w2 kR2 hg2 _)
      refine bodyPost_ret (results_pairE Try.results26 _ _ w.heap.size 43 _ (0, 0) _ _ rfl kR2 Try.underlying43 rfl info_le rfl) rfl ⟨rfl, low_store HB.out hg2⟩
end Go.Proofs.Ythlohlomefiebaa
