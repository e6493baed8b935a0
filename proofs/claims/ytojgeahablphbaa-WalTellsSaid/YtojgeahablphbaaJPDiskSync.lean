/-
  What is proved here: the program's disk: syncing.
  Conditions: the disk lies in memory.
-/
import Derived.Test.YtojgeahablphbaaJPDiskWrite
namespace Go.Proofs.Ytojgeahablphbaa
open Go.RowKit Go.Maps

/-- The step of a range over the dirty sectors. -/
theorem wpList_next_sec (w : World) {ops : Array Oper} {rest : List Oper} {o : Oper} {a : Act} {Q : Exit → Act → World → Prop} (hg : o.guard = none) (it : Operand) (hop : o.op = Op.next it false)
    (b r n : Nat) (D : DataW Unit) (left : Lit → Bool) (cnt : Nat) (hit : a.eval it = .pointer (some ⟨r, 0, none⟩)) (h : w.ranges Try.prog 3 secR b r n D left cnt)
    (hDone : (∀ kl, left kl = false) → wpList Try.prog ops Q rest (a.put o.dst (.tuple #[.bool false])) w)
    (hMore : ∀ (x : Int) (bs : List UInt8) (w' : World) (cnt' : Nat), left (.int .i64 x) = true → bs.length = 128 → (∀ zd, D.atKey (.int .i64 x) zd = .lit (.string bs)) → w'.ranges Try.prog 3 secR b r n D (fun z => left z && !z.sameKey (.int .i64 x)) cnt' → cnt' < cnt →
      w.grownBy w' (some r) → w'.heap.size = w.heap.size → (Instr.entry (.pointer (some ⟨r, 0, none⟩))).run Try.prog w' = .ok (.tuple #[.int .i64 x, .agg (secC bs)]) w' → wpList Try.prog ops Q rest (a.put o.dst (.tuple #[.bool true, .int .i64 x, .agg (secC bs)])) w') :
    wpList Try.prog ops Q (o :: rest) a w :=
  wpList_next_ranges w hg it hop 3 keyI secR (Value.int .i64) (fun bs : List UInt8 => .agg (secC bs)) (fun key kl hkey => by obtain ⟨x, rfl, _⟩ := Maps.keyOf_int_inv Try.underlying3 hkey; exact ⟨x, rfl⟩) (fun v y hv => by obtain ⟨c, _, rfl, _⟩ := secR_inv hv; exact ⟨c, rfl⟩)
    b r n D left cnt hit h (fun _ => hDone) (fun x c kl y w' cnt' hkey hlk hv hat hrg hlt hgr hsz hen => by
      obtain ⟨x', ex, rfl, _⟩ := Maps.keyOf_int_inv Try.underlying3 hkey
      cases ex
      obtain ⟨c', hl, ec, rfl⟩ := secR_inv hv
      obtain rfl := secV_inj (show secV c = secV c' from ec)
      exact hMore x c w' cnt' hlk hl hat hrg hlt hgr hsz hen)
open Go.ChangeMaps Go.MapKept Go.WideShapes in
/-- clear on the map. -/
theorem clear5 {w : World} {b m : Nat} {D : DataW Unit} (h : w.ownsMap Try.prog 3 secR b m D) : ∃ w', (∀ ty, (Builtin.clear_ #[50] ty #[.map (some b)]).run Try.prog w = .ok (.tuple #[]) w') ∧ w'.ownsMap Try.prog 3 secR b 0 (.map []) ∧ w.grownBy w' (some b) ∧ w'.heap.size = w.heap.size := by
  obtain ⟨es, clock, hb, F, hs, rfl⟩ := h
  refine ⟨setBlock w b (.map #[] clock), fun ty => ?_, ⟨#[], clock, heap_setBlock_same hb _, ⟨by simp, stamped_empty clock, by simp⟩, Nat.le_refl _, rfl⟩, ⟨rfl, rfl, rfl, by simp [setBlock], fun i _ hi => heap_setBlock_other hb _ (fun e => hi (by rw [e]))⟩, by simp [setBlock]⟩
  simp [Builtin.clear_, run_underlying Try.underlying50, Go.MapKept.run_getObj_map hb, Go.MapKept.run_setObj_map _ hb, Result.andThen, setBlock]
theorem wpList_clear5 (w : World) {ops : Array Oper} {rest : List Oper} {o : Oper} {a : Act} {Q : Exit → Act → World → Prop} (hg : o.guard = none) (m : Operand) (hop : o.op = Op.call { callee := Callee.builtin Builtin.clear, args := #[m], argTypes := #[50] })
    (b n : Nat) (D : DataW Unit) (hm : a.eval m = .map (some b)) (h : w.ownsMap Try.prog 3 secR b n D)
    (hK : ∀ w', w'.ownsMap Try.prog 3 secR b 0 (.map []) → w.grownBy w' (some b) → w'.heap.size = w.heap.size → wpList Try.prog ops Q rest (a.put o.dst (.tuple #[])) w') : wpList Try.prog ops Q (o :: rest) a w := by
  refine wpList_plain hg fun K' hK' => ?_
  obtain ⟨w', hrun, r1, r2, r3⟩ := clear5 h
  unfold Oper.wp
  simp [execOp, hop, resolve, invoke, builtin, hm, hrun, Result.andThen]
  exact hK' _ _ (hK w' r1 r2 r3)
/-- The sectors as they are synced, while some are still to come. -/
structure SyncAt (s : DS) (n : Nat) (left : Lit → Bool) (rs : List (List UInt8)) : Prop where
  len : rs.length = n
  rows : ∀ r ∈ rs, r.length = 128
  is : ∀ k, k < n → rs.getD k [] = if s.dirt.getD k false && !left (.int .i64 (k : Int)) then s.now.getD k [] else s.sure.getD k []
theorem SyncAt.start {s : DS} {n : Nat} {D : DataW Unit} (hs : s.ok n) (hH : Holds5 D s) : SyncAt s n (Maps.has D) s.sure := by
  refine ⟨hs.sure, hs.sures, fun k _ => ?_⟩
  rw [hH.has, dirtB_nat]
  cases s.dirt.getD k false <;> rfl
theorem sameKey_int (a b : Int) : (Lit.int .i64 a).sameKey (.int .i64 b) = decide (a = b) := by simp [Lit.sameKey]
theorem SyncAt.step {s : DS} {n : Nat} {left : Lit → Bool} {rs : List (List UInt8)} (h : SyncAt s n left rs) {k : Nat} (hk : k < n) (hd : s.dirt.getD k false = true) (hr : (s.now.getD k []).length = 128) : SyncAt s n (fun z => left z && !z.sameKey (.int .i64 (k : Int))) (rs.set k (s.now.getD k [])) := by
  refine ⟨by rw [List.length_set]; exact h.len, fun r hr' => by rcases mem_set' hr' with rfl | h2; exact hr; exact h.rows r h2, fun j hj => ?_⟩
  rw [getD_set _ _ _ _ _ (by rw [h.len]; exact hk), sameKey_int]
  by_cases e : j = k
  · subst e
    rw [if_pos rfl, hd]
    simp
  · have e2 : decide ((j : Int) = (k : Int)) = false := by simp; omega
    rw [if_neg e, e2, h.is j hj]
    simp
theorem SyncAt.end {s : DS} {n : Nat} {left : Lit → Bool} {rs : List (List UInt8)} (h : SyncAt s n left rs) (hs : s.ok n) (hc : cleanS s) (hl : ∀ kl, left kl = false) : rs = s.now := by
  apply List.ext_getElem?
  intro k
  rcases Nat.lt_or_ge k n with hk | hk
  · have e := h.is k hk
    rw [hl] at e
    rw [List.getElem?_eq_getElem (by rw [h.len]; exact hk), List.getElem?_eq_getElem (by rw [hs.now]; exact hk)]
    rw [List.getD_eq_getElem?_getD, List.getElem?_eq_getElem (by rw [h.len]; exact hk), Option.getD_some] at e
    rw [e]
    cases hd : s.dirt.getD k false with
    | true => simp [List.getElem?_eq_getElem (show k < s.now.length by rw [hs.now]; exact hk)]
    | false =>
      have hd' : s.dirt[k]? = some false := by
        rw [List.getD_eq_getElem?_getD] at hd
        rw [List.getElem?_eq_getElem (by rw [hs.dirt]; exact hk)] at hd ⊢
        simpa using hd
      have := hc k hd'
      simp only [Bool.false_and, Bool.false_eq_true, if_false]
      rw [← this, List.getD_eq_getElem?_getD, List.getElem?_eq_getElem (by rw [hs.now]; exact hk), Option.getD_some]
  · rw [List.getElem?_eq_none (by rw [h.len]; exact hk), List.getElem?_eq_none (by rw [hs.now]; exact hk)]
theorem flat_splice {rs : List (List UInt8)} (h : ∀ r ∈ rs, r.length = 128) {k : Nat} (hk : k < rs.length) (x : List UInt8) (hx : x.length = 128) : (splice (flatV rs).toList (128 * k) (secC x).toList).toArray = flatV (rs.set k x) := by
  unfold flatV splice secC
  rw [← flat_set h k x hk hx]
  simp [hx, List.append_assoc]
theorem flatV_size {rs : List (List UInt8)} (h : ∀ r ∈ rs, r.length = 128) : (flatV rs).size = 128 * rs.length := by
  unfold flatV
  rw [List.size_toArray, List.length_map, flat_len h]
theorem PDisk.synced {w w' : World} {L : PLay} {s : DS} (h : PDisk w L s) (hc : Chg (fun b => b = L.bs ∨ b = L.bm) w w') (hs : Blk w' L.bs 60 (flatV s.now)) (hm : w'.ownsMap Try.prog 3 secR L.bm 0 (.map [])) : PDisk w' L (syncedS s) := by
  obtain ⟨xv, hx, hx2⟩ := h.head
  refine ⟨h.ok.synced, h.lay, fun _ _ => rfl, ⟨xv, hx.chg hc (fun e => by rcases e with e | e; exact h.lay.gs e; exact h.lay.gm e), hx2.chg (hc.weaken (fun _ h => .inl (.inr h)))⟩, hs, ⟨0, .map [], hm, ⟨fun q => ?_, fun k hk z => ?_⟩⟩, fun q hq => Nat.lt_of_lt_of_le (h.av q hq) hc.size⟩
  · show false = _
    unfold dirtB syncedS
    simp only [List.getD_eq_getElem?_getD, List.getElem?_replicate]
    split <;> simp
  · have hk' : (List.replicate s.dirt.length false)[k]? = some true := hk
    rw [List.getElem?_replicate] at hk'
    split at hk' <;> cases hk'

set_option maxRecDepth 100000 in
set_option maxHeartbeats 2000000 in
theorem sync_any (L : PLay) (s : DS) (w : World) (hD : PDisk w L s) :
    Calls Try.prog 48 #[.pointer (some ⟨L.g, 0, none⟩)] w fun e w' => e = .returned (.int .i64 (syncS s).1) ∧ PDisk w' L (syncS s).2 ∧ Chg L.T w w' := by
  have HM : Hid (Calls Try.prog 17 #[.pointer (some ⟨L.g, 0, none⟩)] w fun e w' => e = .returned (.int .i64 (mayS s).1) ∧ PDisk w' L (mayS s).2 ∧ Chg (fun b => b = L.g) w w') := meet_any L s w hD
  obtain ⟨R, hR⟩ : ∃ R, R = syncS s := ⟨_, rfl⟩
  rw [← hR]
  unfold syncS at hR
  generalize mayS s = M at *
  obtain ⟨e1, s1⟩ := M
  by_cases he : e1 ≠ 0
  · have HR : Hid (R = (e1, s1)) := by show _ = _; rw [hR, if_pos he]
    have he' : (e1 == 0) = false := by simpa using he
    clear hR he
    go_enter Try.func48, Try.ntmps48
    go_wp2_with (go_at_call 17; refine HM.out.mono ?_; rintro e w1 ⟨rfl, hD1, hc1⟩)
    go_ret
    rw [HR.out]
    exact ⟨rfl, hD1, hc1.weaken (fun _ h => .inl h)⟩
  · obtain rfl : e1 = 0 := by omega
    have HR : Hid (R = (0, syncedS s1)) := by show _ = _; rw [hR, if_neg he]
    clear hR he
    go_enter Try.func48, Try.ntmps48
    go_wp2_with (first | (go_at_call 17; refine HM.out.mono ?_; rintro e w1 ⟨rfl, hD1, hc1⟩; obtain ⟨xv, hx, hx2⟩ := hD1.head; unfold PLay.head at hx; have c1 := hx.cell (j := 1) rfl; obtain ⟨mm, D, hown, hH⟩ := hD1.map) | (at_range; refine wpList_range_own _ rfl _ 50 rfl 3 60 keyI Try.underlying50 _ L.bm _ D rfl hown ?_; intro w2 hrg2 hg2 hs2))
    go_frame
    have hc2 : Chg (fun b => b = L.bs) w1 w2 := Chg.of_grown hg2 (fun k hk => by cases hk)
    have hz := zeroSec
    have h1lay := hD1.lay
    have hi := Try.info60s
    go_loopw [4] (fun _ wr => ∃ left cnt rs, wr.ranges Try.prog 3 secR L.bm w1.heap.size mm D left cnt ∧ SyncAt s1 L.n left rs ∧ Blk wr L.bs 60 (flatV rs) ∧ Chg (fun b => b = L.bs) w1 wr) (fun _ wr => wr.rangeLeft L.bm w1.heap.size)
    case atStart => exact ⟨_, _, _, hrg2, SyncAt.start hD1.ok hH, hD1.sure.grown hg2 (by simp), hc2⟩
    case round =>
      obtain ⟨left, cnt, rs, hrg, hSA, hbs, hcr⟩ := hrel
      have hh := hx.chg hcr h1lay.gs
      have c1r := hh.cell (j := 1) rfl
      go_wp2_with (at_next; refine wpList_next_sec _ rfl _ rfl L.bm w1.heap.size mm D left cnt rfl hrg ?_ ?_)
      · intro hl0
        go_wp2_with (refine wpList_clear5 _ rfl _ rfl L.bm _ D rfl hrg.owns ?_; intro w5 hown5 hg5 hs5)
        go_ret
        rw [HR.out]
        have hc5 : Chg (fun b => b = L.bs ∨ b = L.bm) w1 w5 := (hcr.weaken (fun _ h => .inl h)).trans (S' := fun b => b = L.bm) (Chg.of_grown hg5 (fun k hk => (Option.some.inj hk).symm)) (fun _ _ h => .inr h)
        have hb5 := hbs.grown hg5 (by intro e; exact h1lay.sm (Option.some.inj e))
        rw [hSA.end hD1.ok hD1.clean hl0] at hb5
        exact ⟨rfl, hD1.synced hc5 hb5 hown5, (hc1.weaken (fun _ h => .inl h)).trans (S' := fun b => b = L.bs ∨ b = L.bm) hc5 (fun _ _ h => by rcases h with h | h; exact .inr (.inl h); exact .inr (.inr h))⟩
      · intro x bs w3 cnt3 hlx hbl hat hrg3 hlt3 hg3 hs3 hen
        clear hs3
        have hhas := has_true_of_atKey hat
        rw [hH.has] at hhas
        obtain ⟨k, rfl⟩ : ∃ k : Nat, x = (k : Int) := ⟨x.toNat, by unfold dirtB at hhas; simp only [Bool.and_eq_true, decide_eq_true_eq] at hhas; omega⟩
        rw [dirtB_nat] at hhas
        have hd := dirt_some hhas
        have hkn : k < L.n := by rw [← hD1.ok.dirt]; exact (List.getElem?_eq_some_iff.1 hd).1
        have HBN : Hid (bs = s1.now.getD k []) := by
          show _ = _
          have := (hat .nil).symm.trans (hH.is k hd .nil)
          injection this with this
          injection this
        have hc3 : Chg (fun b => b = L.bs) w1 w3 := hcr.trans (S' := fun b => b = w1.heap.size) (Chg.of_grown hg3 (fun q hq => (Option.some.inj hq).symm)) (fun q hq e => by subst e; omega)
        have hbs3 := hbs.grown hg3 (by intro e; have := Option.some.inj e; have := hD1.sure.lt; omega)
        have HS1 : Hid ((secC (noughts 128)).size = (secC bs).size) := (secC_size _ (noughts_length _)).trans (secC_size _ hbl).symm
        have hiS : (Try.prog.info? 60).map (·.size) = some (secC bs).size := by rw [secC_size _ hbl]; exact hi
        go_wp2_with (refine store_blk rfl 60 _ _ rfl rfl w3.heap.size (secC bs) rfl rfl 60 _ (by exact Blk.new _ _ _) hiS HS1.out (secC_one _) ?_; intro w4 hb4 hg4 hs4)
        have hB4 := below_grown ((Below.refl w3.heap.size w3).alloc (Nat.le_refl _) _) hg4 (by simp) (fun q hq => by have h2 : w3.heap.size = q := Option.some.inj hq; omega)
        have hh4 := (hx.chg hc3 h1lay.gs).below hB4 (hx.chg hc3 h1lay.gs).lt
        have c0 := hh4.cell (j := 0) rfl
        have hbs4 := hbs3.below hB4 hbs3.lt
        have hrg4 : w4.rangeAt w3.heap.size 0 (secC bs).toList := hb4.range 0 _ (fun j v hv => by rw [Nat.zero_add, ← Array.getElem?_toList]; exact hv)
        have hix := fun w => index_sec L.bs L.n k w hkn
        have hiL : (Try.prog.info? 60).map (·.size) = some (secC bs).toList.length := by rw [Array.length_toList]; exact hiS
        refine region_tail 7 (by kernel_rfl) (by kernel_rfl) ?_
        simp only [List.take_succ_cons, List.take_zero, List.drop_succ_cons, List.drop_zero]
        repeat still_step
        refine still_load rfl 60 _ rfl w3.heap.size 0 rfl (secC bs).toList _ hrg4 Try.underlying60 rfl hiL ?_
        repeat still_step
        refine wpStill_nil ?_
        have hfit : 128 * k + (secC bs).size ≤ (flatV rs).size := by rw [secC_size _ hbl, flatV_size hSA.rows, hSA.len]; omega
        have l1 := hrg3.owns.lt
        have l2 := hrg3.lt
        have hrg4' := (hrg3.alloc (.cells (secC (noughts 128)) 60)).kept hg4 (by intro e; have := Option.some.inj e; omega) (by intro e; have := Option.some.inj e; omega)
        have hc4 : Chg (fun b => b = L.bs) w1 w4 := hc3.trans (S' := fun _ => False) (Chg.of_below hB4 (Nat.le_refl _)) (fun _ _ h => h.elim)
        have hbs0 := hD1.sure.lt
        go_wp2_with (refine store_mid rfl 60 _ _ rfl rfl L.bs (128 * k) (secC bs) rfl rfl 60 (flatV rs) hbs4.drew hiS hfit (secC_one _) ?_; intro w5 hb5 hg5 hs5)
        have hrg4d : w4.drew.ranges Try.prog 3 secR L.bm w1.heap.size mm D (fun z => left z && !z.sameKey (.int .i64 (k : Int))) cnt3 := hrg4'
        have hrg5 := hrg4d.kept hg5 (by intro e; exact h1lay.sm (Option.some.inj e).symm) (by intro e; have := Option.some.inj e; omega)
        have hc5 : Chg (fun b => b = L.bs) w1 w5 := hc4.drew.trans (S' := fun b => b = L.bs) (Chg.of_grown hg5 (fun q hq => (Option.some.inj hq).symm)) (fun _ _ h => h)
        rw [flat_splice hSA.rows (by rw [hSA.len]; exact hkn) bs hbl] at hb5
        have hst := hSA.step hkn hhas (by rw [← HBN.out]; exact hbl)
        rw [← HBN.out] at hst
        go_roundw
        case rel => exact ⟨_, cnt3, _, hrg5, hst, hb5, hc5⟩
        case measure => rw [hrg5.left_eq, hrg.left_eq]; exact hlt3
end Go.Proofs.Ytojgeahablphbaa
