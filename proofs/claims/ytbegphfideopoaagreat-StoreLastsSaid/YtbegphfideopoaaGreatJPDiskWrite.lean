/-
  What is proved here: the program's disk: writing a sector. the program's disk: syncing. the program's disk: a new one. the program's disk with the blocks that are its own: what its calls do, in these words; a disk keeps when others' blocks change.
  Conditions: the disk lies in memory. none.
-/
import Derived.Test.YtbegphfideopoaaGreatJPDisk
namespace Go.Proofs.YtbegphfideopoaaGreat
open Go.RowKit Go.Maps

theorem keyLit (k : Nat) (h : k ≤ 4096) : WideAt.IsKeyLit (.int .i64 (k : Int)) := keyI.key (key_int (k : Int) (by omega) (by omega))
theorem getD_set {α : Type} (l : List α) (k j : Nat) (x d : α) (hk : k < l.length) : (l.set k x).getD j d = if j = k then x else l.getD j d := by
  rw [List.getD_eq_getElem?_getD, List.getD_eq_getElem?_getD, List.getElem?_set]
  by_cases h : k = j
  · subst h; simp [hk]
  · simp [h, Ne.symm h]
theorem Holds5.put {D : DataW Unit} {s : DS} (h : Holds5 D s) (hM : IsMap D) {k : Nat} (hk : k ≤ 4096) (hl : k < s.dirt.length) (hn : k < s.now.length) (b : List UInt8) : Holds5 (D.put (.int .i64 (k : Int)) (.lit (.string (padS b)))) (putS s k b) := by
  refine ⟨fun q => ?_, fun j hj z => ?_⟩
  · unfold dirtB
    show _ = (decide (0 ≤ q) && (s.dirt.set k true).getD q.toNat false)
    by_cases e : q = (k : Int)
    · subst e
      rw [has_put_same hM (keyLit k hk), Int.toNat_natCast, getD_set _ _ _ _ _ hl]
      simp
    · rw [has_put_other (by simpa using e), h.has q]
      unfold dirtB
      by_cases h0 : 0 ≤ q
      · rw [getD_set _ _ _ _ _ hl, if_neg (by omega)]
      · simp [h0]
  · show _ = DataW.lit (.string ((s.now.set k (padS b)).getD j []))
    rw [getD_set _ _ _ _ _ hn]
    by_cases e : j = k
    · subst e
      rw [atKey_put_same hM (keyLit j hk), if_pos rfl]
    · rw [atKey_put_other (by simp; omega), if_neg e]
      refine h.is j ?_ z
      have hj' : (s.dirt.set k true)[j]? = some true := hj
      rwa [List.getElem?_set_ne (Ne.symm e)] at hj'
theorem cleanS.put {s : DS} (h : cleanS s) (k : Nat) (b : List UInt8) (hl : k < s.dirt.length) (hn : k < s.now.length) : cleanS (putS s k b) := fun j hj => by
  have hj' : (s.dirt.set k true)[j]? = some false := hj
  have e : j ≠ k := fun e => by subst e; rw [List.getElem?_set_self hl] at hj'; cases hj'
  rw [List.getElem?_set_ne (Ne.symm e)] at hj'
  show (s.now.set k (padS b)).getD j [] = _
  rw [getD_set _ _ _ _ _ hn, if_neg e]
  exact h j hj'
theorem PDisk.put {w w' : World} {L : PLay} {s : DS} (h : PDisk w L s) (hc : Chg (fun b => b = L.bm) w w') {k : Nat} (hk : k < L.n) (b : List UInt8) (hb : b.length ≤ 128) (hm : MapS w' L.bm (putS s k b)) : PDisk w' L (putS s k b) := by
  obtain ⟨xv, hx, hx2⟩ := h.head
  exact ⟨h.ok.put k b hb, h.lay, h.clean.put k b (by rw [h.ok.dirt]; exact hk) (by rw [h.ok.now]; exact hk), ⟨xv, hx.chg hc h.lay.gm, hx2.chg (hc.weaken (fun _ h => .inl (.inr (.inr h))))⟩, h.sure.chg hc h.lay.sm, hm, fun q hq => Nat.lt_of_lt_of_le (h.av q hq) hc.size⟩
theorem pad_splice128 (b : List UInt8) : (splice (secC (noughts 128)).toList 0 (b.map v8)).toArray = secC (padS b) := by
  unfold splice secC padS noughts
  congr 1
  rw [List.take_zero, List.nil_append, Nat.zero_add, List.toList_toArray, List.length_map, List.map_replicate, List.drop_replicate, List.map_append, List.map_replicate]
theorem pad_nil : padS [] = noughts 128 := rfl

theorem Seg.pos {W : World} {ab : Option Addr} {n c : Nat} {bs : List UInt8} (h : Seg W (.slice ab n c) bs) (h0 : 0 < (bs.map v8).length) : ∃ ad, ab = some ad ∧ ∀ (j : Nat) v, (bs.map v8)[j]? = some v → W.cell? (ad.add j) = some v := by
  rcases h with ⟨rfl, _⟩ | ⟨b, off, c', he, _, hr, _⟩
  · cases h0
  · injection he with he _ _
    exact ⟨⟨b, off, none⟩, he, hr.at⟩

set_option maxRecDepth 100000 in
set_option maxHeartbeats 2000000 in
theorem write_any (L : PLay) (s : DS) (k : Int) (x : Value) (bs : List UInt8) (w : World) (hD : PDisk w L s) (hS : Seg w x bs) (hx : 0 < bs.length → ∀ q, x.ownBlock = some q → ¬ L.T q) :
    Calls Tryz.prog 84 #[.pointer (some ⟨L.g, 0, none⟩), .int .i64 k, x] w fun e w' => e = .returned (.int .i64 (writeS s k bs).1) ∧ PDisk w' L (writeS s k bs).2 ∧ Chg L.T w w' := by
  have hnl := hD.ok.now
  obtain ⟨ab, cb, rfl⟩ := Seg.shapeD hS
  obtain ⟨R, hR⟩ : ∃ R, R = writeS s k bs := ⟨_, rfl⟩
  rw [← hR]
  unfold writeS at hR
  rw [hnl] at hR
  have HH : Hid (Calls Tryz.prog 109 #[.pointer (some ⟨L.g, 0, none⟩), .int .i64 k] w fun e w' => e = .returned (.bool (hasB L.n k)) ∧ w' = w) := has_any L s k w hD
  by_cases hbad : k < 0 ∨ (L.n : Int) ≤ k ∨ 128 < bs.length
  · rw [if_pos hbad] at hR
    have HR : Hid (R = (1, s)) := hR
    clear hR
    cases hb : hasB L.n k with
    | false =>
      rw [hb] at HH
      clear hbad hb
      go_enter Tryz.func84, Tryz.ntmps84
      go_wp2_with (go_at_call 109; refine HH.out.mono ?_; rintro e w1 ⟨rfl, rfl⟩)
      go_ret
      rw [HR.out]
      exact ⟨rfl, hD, Chg.refl _ _⟩
    | true =>
      have h2 : (128 : Int) < (bs.length : Int) := by
        unfold hasB at hb
        simp only [Bool.and_eq_true, decide_eq_true_eq] at hb
        omega
      rw [hb] at HH
      clear hbad hb
      go_enter Tryz.func84, Tryz.ntmps84
      go_wp2_with (go_at_call 109; refine HH.out.mono ?_; rintro e w1 ⟨rfl, rfl⟩)
      go_ret
      rw [HR.out]
      exact ⟨rfl, hD, Chg.refl _ _⟩
  · rw [if_neg hbad] at hR
    obtain ⟨m, rfl⟩ : ∃ m : Nat, k = (m : Int) := ⟨k.toNat, by omega⟩
    have hb : hasB L.n (m : Int) = true := by unfold hasB; simp; omega
    rw [hb] at HH
    have h2 : ¬ (128 : Int) < (bs.length : Int) := by omega
    have HM : Hid (Calls Tryz.prog 110 #[.pointer (some ⟨L.g, 0, none⟩)] w fun e w' => e = .returned (.int .i64 (mayS s).1) ∧ PDisk w' L (mayS s).2 ∧ Chg (fun b => b = L.g) w w') := meet_any L s w hD
    have hmx : m < L.n := by omega
    have hbx : bs.length ≤ 128 := by omega
    clear hbad hb
    generalize mayS s = M at *
    obtain ⟨e1, s1⟩ := M
    by_cases he : e1 ≠ 0
    · have HR : Hid (R = (e1, s1)) := by show _ = _; rw [hR, if_pos he]
      have he' : (e1 == 0) = false := by simpa using he
      clear hR he
      go_enter Tryz.func84, Tryz.ntmps84
      go_wp2_with (first | (go_at_call 109; refine HH.out.mono ?_; rintro e w1 ⟨rfl, rfl⟩) | (go_at_call 110; refine HM.out.mono ?_; rintro e w2 ⟨rfl, hD1, hc1⟩))
      go_ret
      rw [HR.out]
      exact ⟨rfl, hD1, hc1.weaken (fun _ h => .inl h)⟩
    · obtain rfl : e1 = 0 := by omega
      have HR : Hid (R = (0, putS s1 m bs)) := by show _ = _; rw [hR, if_neg he]; rfl
      clear hR he
      have hz := zeroSec
      have hi := Tryz.info88s
      have HP : Hid ((splice (secC (noughts 128)).toList 0 (bs.map v8)).toArray = secC (padS bs)) := pad_splice128 bs
      have HZ : Hid (0 + bs.length ≤ (secC (noughts 128)).size) := by show _ ≤ _; rw [secC_size _ (noughts_length _)]; omega
      have hpl := padS_length hbx
      have hiS : (Tryz.prog.info? 88).map (·.size) = some (secC (padS bs)).toList.length := by rw [Array.length_toList, secC_size _ hpl]; exact hi
      have hmn : Nat.min bs.length 128 = bs.length := Nat.min_eq_left hbx
      have hnew : ∀ W : World, (W.alloc (.cells (secC (noughts 128)) 88)).heap[W.heap.size]? = some (.cells (secC (noughts 128)).toList.toArray 88 (0, 0)) := fun W => by rw [Array.toArray_toList]; exact Blk.new W _ _
      have hsz1 : (Tryz.prog.info? 5).map (·.size) = some 1 := by kernel_rfl
      go_enter Tryz.func84, Tryz.ntmps84
      go_wp2_with (first | (go_at_call 109; refine HH.out.mono ?_; rintro e w1 ⟨rfl, rfl⟩) | (go_at_call 110; refine HM.out.mono ?_; rintro e w2 ⟨rfl, hD1, hc1⟩; have hS2 : Seg (w2.alloc (.cells (secC (noughts 128)) 88)) (.slice ab bs.length cb) bs := (hS.chg hc1 (fun h0 q hq e => hx h0 q hq (.inl e))).alloc _) | (have _s := hS2; refine wpList_copy_splice rfl (.tmp 23) (.tmp 24) 34 34 rfl 5 Tryz.underlying34 hsz1 _ _ _ _ _ _ rfl rfl w2.heap.size 0 (secC (noughts 128)).toList 88 (hnew w2) (bs.map v8) (by rw [List.length_map]; exact hmn.symm) (by exact fun h0 => ⟨rfl, hS2.pos h0⟩) (by rw [List.length_map, Array.length_toList]; exact HZ.out) (one8l bs) w2.heap.size w2 ((Below.refl _ w2).alloc (Nat.le_refl _) _) (Nat.le_refl _) ?_; intro w3 hb3 hB3))
      have hb4 : Blk w3 w2.heap.size 88 (secC (padS bs)) := Blk.of_eq hb3.out HP.out
      have hD3 := hD1.after hB3
      obtain ⟨xv, hh, hxs⟩ := hD3.head
      unfold PLay.head at hh
      have c1 := hh.cell (j := 1) rfl
      obtain ⟨mm, D, hown0, hH⟩ := hD3.map
      have hown := own_size hown0
      have hsz := hH.size hown0
      rw [hD3.ok.dirt] at hsz
      have hmax := hD3.lay.max
      have hrg : w3.rangeAt w2.heap.size 0 (secC (padS bs)).toList := hb4.range 0 _ (fun j v hv => by rw [Nat.zero_add, ← Array.getElem?_toList]; exact hv)
      refine region_tail 6 (by kernel_rfl) (by kernel_rfl) ?_
      simp only [List.take_succ_cons, List.take_zero, List.drop_succ_cons, List.drop_zero]
      repeat still_step
      refine still_load rfl 88 _ rfl w2.heap.size 0 rfl (secC (padS bs)).toList _ hrg Tryz.underlying88 rfl hiS ?_
      refine wpStill_nil ?_
      go_wp2_with (at_mapUpdate; refine wpList_mapUpdate_own _ rfl _ _ _ 63 rfl 3 88 keyI Tryz.underlying63 secR L.bm _ D rfl hown.drew (by unfold maxLen; omega) _ _ _ rfl rfl (key_int (m : Int) (by omega) (by omega)) (.lit (.string (padS bs))) [] (secR_mk _ hpl) ?_; intro w5 hown5 hg5)
      go_ret
      rw [HR.out]
      have hc5 : Chg (fun b => b = L.bm) w3 w5 := Chg.trans (S' := fun b => b = L.bm) ((Chg.refl _ w3).drew) (Chg.of_grown hg5 (fun k hk => (Option.some.inj hk).symm)) (fun _ _ h => h)
      have hP := hH.put hown.isMap (k := m) (by omega) (by rw [hD3.ok.dirt]; exact hmx) (by rw [hD3.ok.now]; exact hmx) bs
      refine ⟨rfl, hD3.put hc5 hmx bs hbx ⟨_, _, hown5, hP⟩, ?_⟩
      exact ((hc1.weaken (fun _ h => .inl h)).trans (S' := L.T) (Chg.of_below hB3 (Nat.le_refl _)) (fun _ _ h => h)).trans (S' := fun b => b = L.bm) hc5 (fun _ _ h => .inr (.inr h))
end Go.Proofs.YtbegphfideopoaaGreat
namespace Go.Proofs.YtbegphfideopoaaGreat
open Go.RowKit Go.Maps

/-- The step of a range over the dirty sectors. -/
theorem wpList_next_sec (w : World) {ops : Array Oper} {rest : List Oper} {o : Oper} {a : Act} {Q : Exit → Act → World → Prop} (hg : o.guard = none) (it : Operand) (hop : o.op = Op.next it false)
    (b r n : Nat) (D : DataW Unit) (left : Lit → Bool) (cnt : Nat) (hit : a.eval it = .pointer (some ⟨r, 0, none⟩)) (h : w.ranges Tryz.prog 3 secR b r n D left cnt)
    (hDone : (∀ kl, left kl = false) → wpList Tryz.prog ops Q rest (a.put o.dst (.tuple #[.bool false])) w)
    (hMore : ∀ (x : Int) (bs : List UInt8) (w' : World) (cnt' : Nat), left (.int .i64 x) = true → bs.length = 128 → (∀ zd, D.atKey (.int .i64 x) zd = .lit (.string bs)) → w'.ranges Tryz.prog 3 secR b r n D (fun z => left z && !z.sameKey (.int .i64 x)) cnt' → cnt' < cnt →
      w.grownBy w' (some r) → w'.heap.size = w.heap.size → (Instr.entry (.pointer (some ⟨r, 0, none⟩))).run Tryz.prog w' = .ok (.tuple #[.int .i64 x, .agg (secC bs)]) w' → wpList Tryz.prog ops Q rest (a.put o.dst (.tuple #[.bool true, .int .i64 x, .agg (secC bs)])) w') :
    wpList Tryz.prog ops Q (o :: rest) a w :=
  wpList_next_ranges w hg it hop 3 keyI secR (Value.int .i64) (fun bs : List UInt8 => .agg (secC bs)) (fun key kl hkey => by obtain ⟨x, rfl, _⟩ := Maps.keyOf_int_inv Tryz.underlying3 hkey; exact ⟨x, rfl⟩) (fun v y hv => by obtain ⟨c, _, rfl, _⟩ := secR_inv hv; exact ⟨c, rfl⟩)
    b r n D left cnt hit h (fun _ => hDone) (fun x c kl y w' cnt' hkey hlk hv hat hrg hlt hgr hsz hen => by
      obtain ⟨x', ex, rfl, _⟩ := Maps.keyOf_int_inv Tryz.underlying3 hkey
      cases ex
      obtain ⟨c', hl, ec, rfl⟩ := secR_inv hv
      obtain rfl := secV_inj (show secV c = secV c' from ec)
      exact hMore x c w' cnt' hlk hl hat hrg hlt hgr hsz hen)
open Go.ChangeMaps Go.MapKept Go.WideShapes in
/-- clear on the map. -/
theorem clear5 {w : World} {b m : Nat} {D : DataW Unit} (h : w.ownsMap Tryz.prog 3 secR b m D) : ∃ w', (∀ ty, (Builtin.clear_ #[63] ty #[.map (some b)]).run Tryz.prog w = .ok (.tuple #[]) w') ∧ w'.ownsMap Tryz.prog 3 secR b 0 (.map []) ∧ w.grownBy w' (some b) ∧ w'.heap.size = w.heap.size := by
  obtain ⟨es, clock, hb, F, hs, rfl⟩ := h
  refine ⟨setBlock w b (.map #[] clock), fun ty => ?_, ⟨#[], clock, heap_setBlock_same hb _, ⟨by simp, stamped_empty clock, by simp⟩, Nat.le_refl _, rfl⟩, ⟨rfl, rfl, rfl, by simp [setBlock], fun i _ hi => heap_setBlock_other hb _ (fun e => hi (by rw [e]))⟩, by simp [setBlock]⟩
  simp [Builtin.clear_, run_underlying Tryz.underlying63, Go.MapKept.run_getObj_map hb, Go.MapKept.run_setObj_map _ hb, Result.andThen, setBlock]
theorem wpList_clear5 (w : World) {ops : Array Oper} {rest : List Oper} {o : Oper} {a : Act} {Q : Exit → Act → World → Prop} (hg : o.guard = none) (m : Operand) (hop : o.op = Op.call { callee := Callee.builtin Builtin.clear, args := #[m], argTypes := #[63] })
    (b n : Nat) (D : DataW Unit) (hm : a.eval m = .map (some b)) (h : w.ownsMap Tryz.prog 3 secR b n D)
    (hK : ∀ w', w'.ownsMap Tryz.prog 3 secR b 0 (.map []) → w.grownBy w' (some b) → w'.heap.size = w.heap.size → wpList Tryz.prog ops Q rest (a.put o.dst (.tuple #[])) w') : wpList Tryz.prog ops Q (o :: rest) a w := by
  refine wpList_plain hg fun K' hK' => ?_
  obtain ⟨w', hrun, r1, r2, r3⟩ := clear5 h
  unfold Oper.wp
  simp [execOp, hop, resolve, invoke, builtin, hm, hrun, Result.andThen]
  exact hK' _ _ (hK w' r1 r2 r3)
/-- The sectors as they are synced, while some are still to come. -/
structure SyncAt (s : DS) (n : Nat) (left : Lit → Bool) (rs : List (List UInt8)) : Prop where
  len : rs.length = n
  rows : ∀ r ∈ rs, r.length = 128
  is : ∀ k, k < n → rs.getD k [] = if s.dirt.getD k false && !left (.int .i64 (k : Int)) then s.now.getD k [] else s.sure.getD k []
theorem SyncAt.start {s : DS} {n : Nat} {D : DataW Unit} (hs : s.ok n) (hH : Holds5 D s) : SyncAt s n (Maps.has D) s.sure := by
  refine ⟨hs.sure, hs.sures, fun k _ => ?_⟩
  rw [hH.has, dirtB_nat]
  cases s.dirt.getD k false <;> rfl
theorem sameKey_int (a b : Int) : (Lit.int .i64 a).sameKey (.int .i64 b) = decide (a = b) := by simp [Lit.sameKey]
theorem SyncAt.step {s : DS} {n : Nat} {left : Lit → Bool} {rs : List (List UInt8)} (h : SyncAt s n left rs) {k : Nat} (hk : k < n) (hd : s.dirt.getD k false = true) (hr : (s.now.getD k []).length = 128) : SyncAt s n (fun z => left z && !z.sameKey (.int .i64 (k : Int))) (rs.set k (s.now.getD k [])) := by
  refine ⟨by rw [List.length_set]; exact h.len, fun r hr' => by rcases mem_set' hr' with rfl | h2; exact hr; exact h.rows r h2, fun j hj => ?_⟩
  rw [getD_set _ _ _ _ _ (by rw [h.len]; exact hk), sameKey_int]
  by_cases e : j = k
  · subst e
    rw [if_pos rfl, hd]
    simp
  · have e2 : decide ((j : Int) = (k : Int)) = false := by simp; omega
    rw [if_neg e, e2, h.is j hj]
    simp
theorem SyncAt.end {s : DS} {n : Nat} {left : Lit → Bool} {rs : List (List UInt8)} (h : SyncAt s n left rs) (hs : s.ok n) (hc : cleanS s) (hl : ∀ kl, left kl = false) : rs = s.now := by
  apply List.ext_getElem?
  intro k
  rcases Nat.lt_or_ge k n with hk | hk
  · have e := h.is k hk
    rw [hl] at e
    rw [List.getElem?_eq_getElem (by rw [h.len]; exact hk), List.getElem?_eq_getElem (by rw [hs.now]; exact hk)]
    rw [List.getD_eq_getElem?_getD, List.getElem?_eq_getElem (by rw [h.len]; exact hk), Option.getD_some] at e
    rw [e]
    cases hd : s.dirt.getD k false with
    | true => simp [List.getElem?_eq_getElem (show k < s.now.length by rw [hs.now]; exact hk)]
    | false =>
      have hd' : s.dirt[k]? = some false := by
        rw [List.getD_eq_getElem?_getD] at hd
        rw [List.getElem?_eq_getElem (by rw [hs.dirt]; exact hk)] at hd ⊢
        simpa using hd
      have := hc k hd'
      simp only [Bool.false_and, Bool.false_eq_true, if_false]
      rw [← this, List.getD_eq_getElem?_getD, List.getElem?_eq_getElem (by rw [hs.now]; exact hk), Option.getD_some]
  · rw [List.getElem?_eq_none (by rw [h.len]; exact hk), List.getElem?_eq_none (by rw [hs.now]; exact hk)]
theorem flat_splice {rs : List (List UInt8)} (h : ∀ r ∈ rs, r.length = 128) {k : Nat} (hk : k < rs.length) (x : List UInt8) (hx : x.length = 128) : (splice (flatV rs).toList (128 * k) (secC x).toList).toArray = flatV (rs.set k x) := by
  unfold flatV splice secC
  rw [← flat_set h k x hk hx]
  simp [hx, List.append_assoc]
theorem flatV_size {rs : List (List UInt8)} (h : ∀ r ∈ rs, r.length = 128) : (flatV rs).size = 128 * rs.length := by
  unfold flatV
  rw [List.size_toArray, List.length_map, flat_len h]
theorem PDisk.synced {w w' : World} {L : PLay} {s : DS} (h : PDisk w L s) (hc : Chg (fun b => b = L.bs ∨ b = L.bm) w w') (hs : Blk w' L.bs 88 (flatV s.now)) (hm : w'.ownsMap Tryz.prog 3 secR L.bm 0 (.map [])) : PDisk w' L (syncedS s) := by
  obtain ⟨xv, hx, hx2⟩ := h.head
  refine ⟨h.ok.synced, h.lay, fun _ _ => rfl, ⟨xv, hx.chg hc (fun e => by rcases e with e | e; exact h.lay.gs e; exact h.lay.gm e), hx2.chg (hc.weaken (fun _ h => .inl (.inr h)))⟩, hs, ⟨0, .map [], hm, ⟨fun q => ?_, fun k hk z => ?_⟩⟩, fun q hq => Nat.lt_of_lt_of_le (h.av q hq) hc.size⟩
  · show false = _
    unfold dirtB syncedS
    simp only [List.getD_eq_getElem?_getD, List.getElem?_replicate]
    split <;> simp
  · have hk' : (List.replicate s.dirt.length false)[k]? = some true := hk
    rw [List.getElem?_replicate] at hk'
    split at hk' <;> cases hk'

set_option maxRecDepth 100000 in
set_option maxHeartbeats 2000000 in
theorem sync_any (L : PLay) (s : DS) (w : World) (hD : PDisk w L s) :
    Calls Tryz.prog 88 #[.pointer (some ⟨L.g, 0, none⟩)] w fun e w' => e = .returned (.int .i64 (syncS s).1) ∧ PDisk w' L (syncS s).2 ∧ Chg L.T w w' := by
  have HM : Hid (Calls Tryz.prog 110 #[.pointer (some ⟨L.g, 0, none⟩)] w fun e w' => e = .returned (.int .i64 (mayS s).1) ∧ PDisk w' L (mayS s).2 ∧ Chg (fun b => b = L.g) w w') := meet_any L s w hD
  obtain ⟨R, hR⟩ : ∃ R, R = syncS s := ⟨_, rfl⟩
  rw [← hR]
  unfold syncS at hR
  generalize mayS s = M at *
  obtain ⟨e1, s1⟩ := M
  by_cases he : e1 ≠ 0
  · have HR : Hid (R = (e1, s1)) := by show _ = _; rw [hR, if_pos he]
    have he' : (e1 == 0) = false := by simpa using he
    clear hR he
    go_enter Tryz.func88, Tryz.ntmps88
    go_wp2_with (go_at_call 110; refine HM.out.mono ?_; rintro e w1 ⟨rfl, hD1, hc1⟩)
    go_ret
    rw [HR.out]
    exact ⟨rfl, hD1, hc1.weaken (fun _ h => .inl h)⟩
  · obtain rfl : e1 = 0 := by omega
    have HR : Hid (R = (0, syncedS s1)) := by show _ = _; rw [hR, if_neg he]
    clear hR he
    go_enter Tryz.func88, Tryz.ntmps88
    go_wp2_with (first | (go_at_call 110; refine HM.out.mono ?_; rintro e w1 ⟨rfl, hD1, hc1⟩; obtain ⟨xv, hx, hx2⟩ := hD1.head; unfold PLay.head at hx; have c1 := hx.cell (j := 1) rfl; obtain ⟨mm, D, hown, hH⟩ := hD1.map) | (at_range; refine wpList_range_own _ rfl _ 63 rfl 3 88 keyI Tryz.underlying63 _ L.bm _ D rfl hown ?_; intro w2 hrg2 hg2 hs2))
    go_frame
    have hc2 : Chg (fun b => b = L.bs) w1 w2 := Chg.of_grown hg2 (fun k hk => by cases hk)
    have hz := zeroSec
    have h1lay := hD1.lay
    have hi := Tryz.info88s
    go_loopw [4] (fun _ wr => ∃ left cnt rs, wr.ranges Tryz.prog 3 secR L.bm w1.heap.size mm D left cnt ∧ SyncAt s1 L.n left rs ∧ Blk wr L.bs 88 (flatV rs) ∧ Chg (fun b => b = L.bs) w1 wr) (fun _ wr => wr.rangeLeft L.bm w1.heap.size)
    case atStart => exact ⟨_, _, _, hrg2, SyncAt.start hD1.ok hH, hD1.sure.grown hg2 (by simp), hc2⟩
    case round =>
      obtain ⟨left, cnt, rs, hrg, hSA, hbs, hcr⟩ := hrel
      have hh := hx.chg hcr h1lay.gs
      have c1r := hh.cell (j := 1) rfl
      go_wp2_with (at_next; refine wpList_next_sec _ rfl _ rfl L.bm w1.heap.size mm D left cnt rfl hrg ?_ ?_)
      · intro hl0
        go_wp2_with (refine wpList_clear5 _ rfl _ rfl L.bm _ D rfl hrg.owns ?_; intro w5 hown5 hg5 hs5)
        go_ret
        rw [HR.out]
        have hc5 : Chg (fun b => b = L.bs ∨ b = L.bm) w1 w5 := (hcr.weaken (fun _ h => .inl h)).trans (S' := fun b => b = L.bm) (Chg.of_grown hg5 (fun k hk => (Option.some.inj hk).symm)) (fun _ _ h => .inr h)
        have hb5 := hbs.grown hg5 (by intro e; exact h1lay.sm (Option.some.inj e))
        rw [hSA.end hD1.ok hD1.clean hl0] at hb5
        exact ⟨rfl, hD1.synced hc5 hb5 hown5, (hc1.weaken (fun _ h => .inl h)).trans (S' := fun b => b = L.bs ∨ b = L.bm) hc5 (fun _ _ h => by rcases h with h | h; exact .inr (.inl h); exact .inr (.inr h))⟩
      · intro x bs w3 cnt3 hlx hbl hat hrg3 hlt3 hg3 hs3 hen
        clear hs3
        have hhas := has_true_of_atKey hat
        rw [hH.has] at hhas
        obtain ⟨k, rfl⟩ : ∃ k : Nat, x = (k : Int) := ⟨x.toNat, by unfold dirtB at hhas; simp only [Bool.and_eq_true, decide_eq_true_eq] at hhas; omega⟩
        rw [dirtB_nat] at hhas
        have hd := dirt_some hhas
        have hkn : k < L.n := by rw [← hD1.ok.dirt]; exact (List.getElem?_eq_some_iff.1 hd).1
        have HBN : Hid (bs = s1.now.getD k []) := by
          show _ = _
          have := (hat .nil).symm.trans (hH.is k hd .nil)
          injection this with this
          injection this
        have hc3 : Chg (fun b => b = L.bs) w1 w3 := hcr.trans (S' := fun b => b = w1.heap.size) (Chg.of_grown hg3 (fun q hq => (Option.some.inj hq).symm)) (fun q hq e => by subst e; omega)
        have hbs3 := hbs.grown hg3 (by intro e; have := Option.some.inj e; have := hD1.sure.lt; omega)
        have HS1 : Hid ((secC (noughts 128)).size = (secC bs).size) := (secC_size _ (noughts_length _)).trans (secC_size _ hbl).symm
        have hiS : (Tryz.prog.info? 88).map (·.size) = some (secC bs).size := by rw [secC_size _ hbl]; exact hi
        go_wp2_with (refine store_blk rfl 88 _ _ rfl rfl w3.heap.size (secC bs) rfl rfl 88 _ (by exact Blk.new _ _ _) hiS HS1.out (secC_one _) ?_; intro w4 hb4 hg4 hs4)
        have hB4 := below_grown ((Below.refl w3.heap.size w3).alloc (Nat.le_refl _) _) hg4 (by simp) (fun q hq => by have h2 : w3.heap.size = q := Option.some.inj hq; omega)
        have hh4 := (hx.chg hc3 h1lay.gs).below hB4 (hx.chg hc3 h1lay.gs).lt
        have c0 := hh4.cell (j := 0) rfl
        have hbs4 := hbs3.below hB4 hbs3.lt
        have hrg4 : w4.rangeAt w3.heap.size 0 (secC bs).toList := hb4.range 0 _ (fun j v hv => by rw [Nat.zero_add, ← Array.getElem?_toList]; exact hv)
        have hix := fun w => index_sec L.bs L.n k w hkn
        have hiL : (Tryz.prog.info? 88).map (·.size) = some (secC bs).toList.length := by rw [Array.length_toList]; exact hiS
        refine region_tail 7 (by kernel_rfl) (by kernel_rfl) ?_
        simp only [List.take_succ_cons, List.take_zero, List.drop_succ_cons, List.drop_zero]
        repeat still_step
        refine still_load rfl 88 _ rfl w3.heap.size 0 rfl (secC bs).toList _ hrg4 Tryz.underlying88 rfl hiL ?_
        repeat still_step
        refine wpStill_nil ?_
        have hfit : 128 * k + (secC bs).size ≤ (flatV rs).size := by rw [secC_size _ hbl, flatV_size hSA.rows, hSA.len]; omega
        have l1 := hrg3.owns.lt
        have l2 := hrg3.lt
        have hrg4' := (hrg3.alloc (.cells (secC (noughts 128)) 88)).kept hg4 (by intro e; have := Option.some.inj e; omega) (by intro e; have := Option.some.inj e; omega)
        have hc4 : Chg (fun b => b = L.bs) w1 w4 := hc3.trans (S' := fun _ => False) (Chg.of_below hB4 (Nat.le_refl _)) (fun _ _ h => h.elim)
        have hbs0 := hD1.sure.lt
        go_wp2_with (refine store_mid rfl 88 _ _ rfl rfl L.bs (128 * k) (secC bs) rfl rfl 88 (flatV rs) hbs4.drew hiS hfit (secC_one _) ?_; intro w5 hb5 hg5 hs5)
        have hrg4d : w4.drew.ranges Tryz.prog 3 secR L.bm w1.heap.size mm D (fun z => left z && !z.sameKey (.int .i64 (k : Int))) cnt3 := hrg4'
        have hrg5 := hrg4d.kept hg5 (by intro e; exact h1lay.sm (Option.some.inj e).symm) (by intro e; have := Option.some.inj e; omega)
        have hc5 : Chg (fun b => b = L.bs) w1 w5 := hc4.drew.trans (S' := fun b => b = L.bs) (Chg.of_grown hg5 (fun q hq => (Option.some.inj hq).symm)) (fun _ _ h => h)
        rw [flat_splice hSA.rows (by rw [hSA.len]; exact hkn) bs hbl] at hb5
        have hst := hSA.step hkn hhas (by rw [← HBN.out]; exact hbl)
        rw [← HBN.out] at hst
        go_roundw
        case rel => exact ⟨_, cnt3, _, hrg5, hst, hb5, hc5⟩
        case measure => rw [hrg5.left_eq, hrg.left_eq]; exact hlt3
end Go.Proofs.YtbegphfideopoaaGreat
namespace Go.Proofs.YtbegphfideopoaaGreat
open Go.RowKit Go.Maps

theorem Tryz.info88 : (Tryz.prog.info? 88).map (fun i => (i.zero, i.size, i.bytes)) = some (some (.agg (secC (noughts 128))), 128, 128) := by kernel_rfl
theorem rep_at (m j : Nat) (h : j < m) : (secC (List.replicate m 0))[j]! = v8 0 := by
  unfold secC
  rw [List.map_replicate]
  simp [h]
theorem flat_noughts (n : Nat) : flatV (List.replicate n (noughts 128)) = madeCells (secC (noughts 128)) (n * 128) := by
  unfold flatV noughts
  rw [List.flatten_replicate_replicate, List.map_replicate]
  apply Array.ext
  · simp [madeCells]
  · intro i h1 h2
    have hs : (secC (List.replicate 128 0)).size = 128 := secC_size _ (by simp)
    have hm : i % 128 < 128 := Nat.mod_lt _ (by decide)
    simp only [madeCells, List.getElem_toArray, List.getElem_replicate, Array.getElem_map, Array.getElem_range, hs]
    exact (rep_at 128 _ hm).symm
theorem make_secs (n : Nat) (hn : n ≤ 4096) (w : World) : (Instr.makeSlice 62 (.int .i64 (n : Int)) (.int .i64 (n : Int))).run Tryz.prog w = .ok (.slice (some ⟨w.heap.size, 0, none⟩) n n) (w.alloc (.cells (flatV (List.replicate n (noughts 128))) 88)) := by
  obtain ⟨i, hi, hz, hs, hb⟩ := info_parts Tryz.info88
  have hr := run_make (P := Tryz.prog) w 62 88 i _ Tryz.underlying62 hi hz .i64 .i64 n n (by omega) (Int.le_refl _) (by rw [hb]; omega) (by omega)
  rw [hs] at hr
  simp only [Int.toNat_natCast] at hr
  rw [flat_noughts]
  exact hr
theorem newS_clean (n : Nat) : cleanS (newS n) := fun _ _ => rfl
theorem newS_map {w : World} {b : Nat} (n : Nat) (h : w.ownsMap Tryz.prog 3 secR b 0 (.map [])) : MapS w b (newS n) := by
  refine ⟨0, .map [], h, ⟨fun q => ?_, fun k hk z => ?_⟩⟩
  · show false = _
    unfold dirtB newS
    simp only [List.getD_eq_getElem?_getD, List.getElem?_replicate]
    split <;> simp
  · have hk' : (List.replicate n false)[k]? = some true := hk
    rw [List.getElem?_replicate] at hk'
    split at hk' <;> cases hk'

set_option maxRecDepth 100000 in
theorem new_bad (n : Int) (w : World) (h : n < 1 ∨ 4096 < n) :
    Calls Tryz.prog 11 #[.int .i64 n] w fun e w' => e = .returned (.tuple #[.pointer none, .int .i64 1]) ∧ w' = w := by
  by_cases h1 : n < 1
  · clear h
    go_enter Tryz.func11, Tryz.ntmps11
    go_wp2
    go_ret2
    exact ⟨rfl, rfl⟩
  · have h2 : 4096 < n := by omega
    clear h
    go_enter Tryz.func11, Tryz.ntmps11
    go_wp2
    go_ret2
    exact ⟨rfl, rfl⟩

set_option maxRecDepth 100000 in
theorem new_any (n : Nat) (w : World) (h1 : 1 ≤ n) (h2 : n ≤ 4096) :
    Calls Tryz.prog 11 #[.int .i64 (n : Int)] w fun e w' => ∃ L : PLay, e = .returned (.tuple #[.pointer (some ⟨L.g, 0, none⟩), .int .i64 0]) ∧ L.n = n ∧ PDisk w' L (newS n) ∧ Below w.heap.size w w' ∧ (∀ q, L.T q → w.heap.size ≤ q) ∧ Blk w' L.g 65 (L.head (.slice none 0 0) false) := by
  have hmk := fun w => make_secs n h2 w
  have hmm := @run_makeMap Tryz.prog
  have a1 : ¬ (n : Int) < 1 := by omega
  have a2 : ¬ (4096 : Int) < (n : Int) := by omega
  have hnew : Blk (w.alloc (.cells (flatV (List.replicate n (noughts 128))) 88)) w.heap.size 88 (flatV (List.replicate n (noughts 128))) := Blk.new _ _ _
  generalize hF : flatV (List.replicate n (noughts 128)) = FV at *
  go_enter Tryz.func11, Tryz.ntmps11
  go_wp2
  go_ret2
  refine ⟨⟨w.heap.size + 1 + 1, w.heap.size, w.heap.size + 1, n, fun _ => False⟩, rfl, rfl, ?_, (((Below.refl _ w).alloc (Nat.le_refl _) _).alloc (by simp) _).alloc (by simp; omega) _, ?_, Blk.newAt _ _ _ _ (by simp)⟩
  · refine ⟨newS_ok n, ⟨by show w.heap.size + 1 + 1 ≠ w.heap.size; omega, by show w.heap.size + 1 + 1 ≠ w.heap.size + 1; omega, by show w.heap.size ≠ w.heap.size + 1; omega, h1, h2⟩, newS_clean n, ⟨.slice none 0 0, Blk.newAt _ _ _ _ (by simp), .inl ⟨rfl, none, 0, rfl, fun _ => rfl⟩, fun _ q hq => by cases hq⟩, ?_, ?_, ?_⟩
    · have := (hnew.alloc (.map #[] 0)).alloc (.cells #[.slice (some ⟨w.heap.size, 0, none⟩) n n, .map (some (w.heap.size + 1)), .slice none 0 0, .bool false] 65)
      rw [← hF] at this ⊢
      exact this
    · have h0 := World.ownsMap_made (H := Unit) (w.alloc (.cells FV 88)) Tryz.prog 3 secR
      have e : (w.alloc (.cells FV 88)).heap.size = w.heap.size + 1 := by simp
      rw [e] at h0
      exact newS_map n (h0.alloc _)
    · exact fun _ h => h.elim
  · rintro q (rfl | rfl | rfl)
    · show w.heap.size ≤ w.heap.size + 1 + 1; omega
    · exact Nat.le_refl _
    · show w.heap.size ≤ w.heap.size + 1; omega
end Go.Proofs.YtbegphfideopoaaGreat
namespace Go.Proofs.YtbegphfideopoaaGreat
open Go.RowKit Go.Maps

theorem PDisk.keep {w w' : World} {L : PLay} {s : DS} {S E' : Nat → Prop} (h : PDisk w L s) (hc : Chg S w w') (hS : ∀ q, S q → q < w.heap.size → L.E q) (hT : ∀ q, L.T q → ¬ S q) (hE : ∀ q, E' q → L.E q ∨ w.heap.size ≤ q) (hl : ∀ q, E' q → q < w'.heap.size) : PDisk w' { L with E := E' } s := by
  obtain ⟨xv, hx1, hx2, hx3⟩ := h.head
  have hq : 0 < s.next.length → ∀ q, xv.ownBlock = some q → q < w.heap.size := fun h0 q hq => by
    rcases hx2 with ⟨e, _⟩ | ⟨b, off, c, e, _, _, hb⟩
    · rw [e] at h0; cases h0
    · rw [e] at hq
      obtain rfl : b = q := Option.some.inj hq
      exact hb
  refine ⟨h.ok, ⟨h.lay.gs, h.lay.gm, h.lay.sm, h.lay.one, h.lay.max⟩, h.clean, ⟨xv, hx1.chg hc (hT _ (.inl rfl)), hx2.chg hc (fun h0 q hqq e => hx3 h0 q hqq (.inr (hS q e (hq h0 q hqq)))), fun h0 q hqq e => ?_⟩, h.sure.chg hc (hT _ (.inr (.inl rfl))), h.map.chg hc (hT _ (.inr (.inr rfl))), hl⟩
  rcases e with e | e
  · exact hx3 h0 q hqq (.inl e)
  · rcases hE q e with e | e
    · exact hx3 h0 q hqq (.inr e)
    · have := hq h0 q hqq; omega

/-- All others' blocks. -/
def PLay.off (L : PLay) (w : World) (C : Nat → Prop) : PLay := { L with E := fun q => q < w.heap.size ∧ ¬ C q }
/-- What was there, and what has come since. -/
def Fr (C : Nat → Prop) (w w' : World) (q : Nat) : Prop := C q ∨ (w.heap.size ≤ q ∧ q < w'.heap.size)
/-- A disk whose own blocks are such. -/
structure OD (w : World) (L : PLay) (C : Nat → Prop) (s : DS) : Prop where
  d : PDisk w (L.off w C) s
  own : ∀ q, L.T q → C q
  lt : ∀ q, C q → q < w.heap.size
theorem OD.chg {w w' : World} {L : PLay} {C S : Nat → Prop} {s : DS} (h : OD w L C s) (hc : Chg S w w') (hS : ∀ q, C q → ¬ S q) : OD w' L C s :=
  ⟨h.d.keep (E' := fun q => q < w'.heap.size ∧ ¬ C q) hc (fun q hq hl => ⟨hl, fun e => hS q e hq⟩) (fun q hq => hS q (h.own q hq)) (fun q hq => by rcases Nat.lt_or_ge q w.heap.size with h1 | h1; exact .inl ⟨h1, hq.2⟩; exact .inr h1) (fun _ hq => hq.1), h.own, fun q hq => Nat.lt_of_lt_of_le (h.lt q hq) hc.size⟩
theorem OD.after {w w' : World} {L : PLay} {C : Nat → Prop} {s : DS} (h : OD w L C s) (hb : Below w.heap.size w w') : OD w' L C s :=
  h.chg (S := fun _ => False) (Chg.of_below hb (Nat.le_refl _)) (fun _ _ => id)
theorem OD.step {w w' : World} {L : PLay} {C : Nat → Prop} {s s' : DS} (h : OD w L C s) (hd : PDisk w' (L.off w C) s') (hc : Chg L.T w w') : OD w' L (Fr C w w') s' :=
  ⟨hd.keep (E' := fun q => q < w'.heap.size ∧ ¬ Fr C w w' q) (S := fun _ => False) (Chg.refl _ _) (fun _ h => h.elim) (fun _ _ => id) (fun q hq => .inl ⟨by rcases Nat.lt_or_ge q w.heap.size with h1 | h1; exact h1; exact absurd (.inr ⟨h1, hq.1⟩) hq.2, fun e => hq.2 (.inl e)⟩) (fun _ hq => hq.1), fun q hq => .inl (h.own q hq), fun q hq => by
    rcases hq with hq | hq
    · exact Nat.lt_of_lt_of_le (h.lt q hq) hc.size
    · exact hq.2⟩
theorem OD.mono {w : World} {L : PLay} {C C' : Nat → Prop} {s : DS} (h : OD w L C s) (hC : ∀ q, C q → C' q) (hl : ∀ q, C' q → q < w.heap.size) : OD w L C' s :=
  ⟨h.d.keep (E' := fun q => q < w.heap.size ∧ ¬ C' q) (S := fun _ => False) (Chg.refl _ _) (fun _ h => h.elim) (fun _ _ => id) (fun q hq => .inl ⟨hq.1, fun e => hq.2 (hC q e)⟩) (fun _ hq => hq.1), fun q hq => hC q (h.own q hq), hl⟩

theorem od_read (L : PLay) (C : Nat → Prop) (s : DS) (k : Int) (w : World) (hD : OD w L C s) :
    Calls Tryz.prog 128 #[.pointer (some ⟨L.g, 0, none⟩), .int .i64 k] w fun e w' => ∃ v, e = .returned (.tuple #[v, .int .i64 (readS s k).2]) ∧ Own w' w.heap.size v (readS s k).1 ∧ Below w.heap.size w w' := read_any (L.off w C) s k w hD.d
theorem od_write (L : PLay) (C : Nat → Prop) (s : DS) (k : Int) (x : Value) (bs : List UInt8) (w : World) (hD : OD w L C s) (hS : Seg w x bs) (hx : 0 < bs.length → ∀ q, x.ownBlock = some q → ¬ C q) :
    Calls Tryz.prog 84 #[.pointer (some ⟨L.g, 0, none⟩), .int .i64 k, x] w fun e w' => e = .returned (.int .i64 (writeS s k bs).1) ∧ OD w' L (Fr C w w') (writeS s k bs).2 ∧ Chg C w w' :=
  (write_any (L.off w C) s k x bs w hD.d hS (fun h0 q hq e => hx h0 q hq (hD.own q e))).mono fun _ _ ⟨h1, h2, h3⟩ => ⟨h1, hD.step h2 h3, h3.weaken hD.own⟩
theorem od_sync (L : PLay) (C : Nat → Prop) (s : DS) (w : World) (hD : OD w L C s) :
    Calls Tryz.prog 88 #[.pointer (some ⟨L.g, 0, none⟩)] w fun e w' => e = .returned (.int .i64 (syncS s).1) ∧ OD w' L (Fr C w w') (syncS s).2 ∧ Chg C w w' :=
  (sync_any (L.off w C) s w hD.d).mono fun _ _ ⟨h1, h2, h3⟩ => ⟨h1, hD.step h2 h3, h3.weaken hD.own⟩
theorem od_plan (L : PLay) (C : Nat → Prop) (s : DS) (x : Value) (bs : List UInt8) (w : World) (hD : OD w L C s) (hS : Seg w x bs) (hm : bs.length ≤ 1000000) :
    Calls Tryz.prog 16 #[.pointer (some ⟨L.g, 0, none⟩), x] w fun e w' => e = .returned (.tuple #[]) ∧ OD w' L (Fr C w w') { s with next := bs } ∧ Chg C w w' :=
  (plan_any (L.off w C) s x bs w hD.d hS hm).mono fun _ _ ⟨h1, h2, h3⟩ => ⟨h1, hD.step h2 (h3.weaken (fun _ h => .inl h)), h3.weaken (fun q h => hD.own q (.inl h))⟩
theorem od_len (L : PLay) (C : Nat → Prop) (s : DS) (w : World) (hD : OD w L C s) :
    Calls Tryz.prog 45 #[.pointer (some ⟨L.g, 0, none⟩)] w fun e w' => e = .returned (.int .i64 (s.now.length : Int)) ∧ w' = w := by
  obtain ⟨xv, hx, _⟩ := hD.d.head
  unfold PLay.head at hx
  have c0 := hx.cell (j := 0) rfl
  have hn := hD.d.ok.now
  have HN : Hid (s.now.length = L.n) := hn
  clear hn
  have c0' : w.cell? ⟨L.g, 0, none⟩ = some (.slice (some ⟨L.bs, 0, none⟩) L.n L.n) := c0
  clear c0
  go_enter Tryz.func45, Tryz.ntmps45
  go_wp2
  go_ret
  rw [HN.out]
  exact ⟨rfl, rfl⟩
theorem od_off (L : PLay) (C : Nat → Prop) (s : DS) (w : World) (hD : OD w L C s) :
    Calls Tryz.prog 46 #[.pointer (some ⟨L.g, 0, none⟩)] w fun e w' => e = .returned (.bool s.down) ∧ w' = w := by
  obtain ⟨xv, hx, _⟩ := hD.d.head
  unfold PLay.head at hx
  have c3 : w.cell? ⟨L.g, 3, none⟩ = some (.bool s.down) := hx.cell (j := 3) rfl
  go_enter Tryz.func46, Tryz.ntmps46
  go_wp2
  go_ret
  exact ⟨rfl, rfl⟩
end Go.Proofs.YtbegphfideopoaaGreat
