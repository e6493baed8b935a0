/-
  What is proved here: plain facts on the program's flash as it lies in memory; what it asks of a place, of a block, of its power. plain facts on stores into the middle of a block, on copy into it, and on loads of several cells. bytes.Repeat of one byte. of how many blocks, and how much wear, there is a flash, and which it is.
  Conditions: the flash lies in memory. those that each fact names. so many that they have room.
-/
import Derived.Test.YtgoehohadnkpdaaDoorJChgWorld
import Derived.Test.YtgoehohadnkpdaaDoorProg
import Derived.Test.YtgoehohadnkpdaaDoorJShaPure
import Derived.Laws.CopyOwn
import Derived.StillTailTactics
import Derived.Deep.RegionHeld3
import Derived.Test.YtgoehohadnkpdaaDoorJSegKit
import Derived.Lib.MakeNoZero
import Derived.Lib.MinMax
import Derived.Deep.Cut
import Derived.Deep.DeepCutAuto
import Derived.Laws.Bits64b
namespace Go.Proofs.YtgoehohadnkpdaaDoor
open Go.RowKit

structure PLay6 where
  g : Nat
  bc : Nat
  bw : Nat
  n : Nat
/-- The blocks that it writes. -/
def PLay6.T (L : PLay6) (b : Nat) : Prop := b = L.g ∨ b = L.bc ∨ b = L.bw
def PLay6.head (L : PLay6) (most : Nat) (down am : Bool) (ah le : Int) : Array Value := #[.slice (some ⟨L.bc, 0, none⟩) (1024 * L.n) (1024 * L.n), .slice (some ⟨L.bw, 0, none⟩) L.n L.n, .int .i64 (most : Int), .bool down, .bool am, .int .i64 ah, .int .i64 le]
/-- How it is armed: while the power is off it doesn't matter. -/
structure Arms (s : FS) (am : Bool) (ah le : Int) : Prop where
  rah : R64 ah
  rle : R64 le
  isam : s.down = false → am = decide (0 ≤ s.armed)
  is : s.down = false → 0 ≤ s.armed → s.armed = max ah 0 ∧ s.done = max le 0
structure PFlash (w : World) (L : PLay6) (s : FS) : Prop where
  ok : s.ok L.n
  gb : L.g ≠ L.bc
  gw : L.g ≠ L.bw
  bw : L.bc ≠ L.bw
  head : ∃ am ah le, Blk w L.g 59 (L.head s.most s.down am ah le) ∧ Arms s am ah le
  b : TabB w L.bc 5 (s.b.map v8)
  worn : Blk w L.bw 3 (wornV s.worn)
theorem PFlash.lt {w : World} {L : PLay6} {s : FS} (h : PFlash w L s) : ∀ q, L.T q → q < w.heap.size := by
  obtain ⟨_, _, _, hb, _⟩ := h.head
  rintro q (rfl | rfl | rfl)
  · exact hb.lt
  · exact h.b.lt
  · exact h.worn.lt
theorem PFlash.chg {w w' : World} {L : PLay6} {s : FS} {S : Nat → Prop} (h : PFlash w L s) (hc : Chg S w w') (hT : ∀ q, L.T q → ¬ S q) : PFlash w' L s := by
  obtain ⟨am, ah, le, hb, ha⟩ := h.head
  exact ⟨h.ok, h.gb, h.gw, h.bw, ⟨am, ah, le, hb.chg hc (hT _ (.inl rfl)), ha⟩, h.b.chg hc (hT _ (.inr (.inl rfl))), h.worn.chg hc (hT _ (.inr (.inr rfl)))⟩
theorem PFlash.after {w w' : World} {L : PLay6} {s : FS} (h : PFlash w L s) (hb : Below w.heap.size w w') : PFlash w' L s :=
  h.chg (Chg.of_below (S := fun _ => False) hb (Nat.le_refl _)) (fun _ _ => id)
/-- The head alone has changed. -/
theorem PFlash.chgHead {w w' : World} {L : PLay6} {s : FS} (h : PFlash w L s) (hc : Chg (fun b => b = L.g) w w') (t : FS) (hk : t.ok L.n) (he : t.b = s.b ∧ t.worn = s.worn) {am : Bool} {ah le : Int} (hb : Blk w' L.g 59 (L.head t.most t.down am ah le)) (ha : Arms t am ah le) : PFlash w' L t :=
  ⟨hk, h.gb, h.gw, h.bw, ⟨am, ah, le, hb, ha⟩, by rw [he.1]; exact h.b.chg hc (fun e => h.gb e.symm), by rw [he.2]; exact h.worn.chg hc (fun e => h.gw e.symm)⟩
theorem PFlash.len {w : World} {L : PLay6} {s : FS} (h : PFlash w L s) : s.b.length = 1024 * L.n := h.ok.b
theorem PFlash.setByte {w : World} {L : PLay6} {s : FS} (h : PFlash w L s) (k : Nat) (x : UInt8) : PFlash (w.setCell ⟨L.bc, k, none⟩ (v8 x)) L { s with b := s.b.set k x } := by
  have hc : Chg (fun q => q = L.bc) w (w.setCell ⟨L.bc, k, none⟩ (v8 x)) := (Chg.refl _ w).setCell L.bc k _ (fun _ => rfl)
  obtain ⟨am, ah, le, hb, ha⟩ := h.head
  refine ⟨⟨by show (s.b.set _ _).length = _; rw [List.length_set]; exact h.ok.b, h.ok.worn, h.ok.one, h.ok.cap, h.ok.most, h.ok.worns, h.ok.armed, h.ok.done⟩, h.gb, h.gw, h.bw, ⟨am, ah, le, hb.chg hc h.gb, ⟨ha.rah, ha.rle, ha.isam, ha.is⟩⟩, ?_, h.worn.chg hc (fun e => h.bw e.symm)⟩
  have := h.b.set k (v8 x)
  rwa [← List.map_set] at this
theorem PFlash.setWorn {w : World} {L : PLay6} {s : FS} (h : PFlash w L s) (k x : Nat) (hx : x ≤ s.most) : PFlash (w.setCell ⟨L.bw, k, none⟩ (.int .i64 (x : Int))) L { s with worn := s.worn.set k x } := by
  have hc : Chg (fun q => q = L.bw) w (w.setCell ⟨L.bw, k, none⟩ (.int .i64 (x : Int))) := (Chg.refl _ w).setCell L.bw k _ (fun _ => rfl)
  obtain ⟨am, ah, le, hb, ha⟩ := h.head
  refine ⟨⟨h.ok.b, by show (s.worn.set _ _).length = _; rw [List.length_set]; exact h.ok.worn, h.ok.one, h.ok.cap, h.ok.most, fun y hy => ?_, h.ok.armed, h.ok.done⟩, h.gb, h.gw, h.bw, ⟨am, ah, le, hb.chg hc h.gw, ⟨ha.rah, ha.rle, ha.isam, ha.is⟩⟩, h.b.chg hc h.bw, (h.worn.set k _).of_eq (by simp [wornV, List.map_set])⟩
  rcases List.mem_or_eq_of_mem_set hy with hy | hy
  · exact h.ok.worns y hy
  · rw [hy]; exact hx
theorem tab_at6 {w : World} {b : Nat} {l : List UInt8} (h : TabB w b 5 (l.map v8)) {k : Nat} (hk : k < l.length) : w.cell? ⟨b, k, none⟩ = some (v8 (l.getD k 0)) := h.cell (by simp [hk])

set_option maxRecDepth 100000 in
theorem len6_any (L : PLay6) (s : FS) (w : World) (hD : PFlash w L s) :
    Calls Tryd.prog 24 #[.pointer (some ⟨L.g, 0, none⟩)] w fun e w' => e = .returned (.int .i64 (L.n : Int)) ∧ w = w' := by
  obtain ⟨am, ah, le, hx, -⟩ := hD.head
  unfold PLay6.head at hx
  have c1 := hx.cell (j := 1) rfl
  go_enter Tryd.func24, Tryd.ntmps24
  go_wp2
  go_ret
  exact ⟨rfl, rfl⟩

def hasB6 (n : Nat) (k : Int) : Bool := decide (0 ≤ k) && decide (k < (n : Int))
set_option maxRecDepth 100000 in
set_option maxHeartbeats 1000000 in
theorem has6_any (L : PLay6) (s : FS) (k : Int) (w : World) (hD : PFlash w L s) :
    Calls Tryd.prog 66 #[.pointer (some ⟨L.g, 0, none⟩), .int .i64 k] w fun e w' => e = .returned (.bool (hasB6 L.n k)) ∧ w = w' := by
  have HL : Hid (Calls Tryd.prog 24 #[.pointer (some ⟨L.g, 0, none⟩)] w fun e w' => e = .returned (.int .i64 (L.n : Int)) ∧ w = w') := len6_any L s w hD
  obtain ⟨R, hR⟩ : ∃ R, R = hasB6 L.n k := ⟨_, rfl⟩
  rw [← hR]
  have HR : Hid (R = (decide (0 ≤ k) && decide (k < (L.n : Int)))) := hR
  clear hR
  by_cases h0 : 0 ≤ k
  · go_enter Tryd.func66, Tryd.ntmps66
    go_wp2_with (go_at_call 24; refine HL.out.mono ?_; rintro e w1 ⟨rfl, rfl⟩)
    go_ret
    rw [HR.out]
    exact ⟨by simp [h0], rfl⟩
  · go_enter Tryd.func66, Tryd.ntmps66
    go_wp2
    go_ret
    rw [HR.out]
    exact ⟨by simp; intros; omega, rfl⟩

set_option maxRecDepth 100000 in
set_option maxHeartbeats 1000000 in
theorem spans6_any (L : PLay6) (s : FS) (at_ n : Int) (w : World) (hD : PFlash w L s) :
    Calls Tryd.prog 48 #[.pointer (some ⟨L.g, 0, none⟩), .int .i64 at_, .int .i64 n] w fun e w' => e = .returned (.bool (thereB s at_ n)) ∧ w = w' := by
  obtain ⟨am, ah, le, hx, -⟩ := hD.head
  have hl := hD.len
  have hcap := hD.ok.cap
  unfold PLay6.head at hx
  have c0 := hx.cell (j := 0) rfl
  obtain ⟨R, hR⟩ : ∃ R, R = thereB s at_ n := ⟨_, rfl⟩
  rw [← hR]
  unfold thereB at hR
  rw [hl] at hR
  obtain ⟨M, hM⟩ : ∃ M, M = 1024 * L.n := ⟨_, rfl⟩
  rw [← hM] at hR c0
  have hm : M ≤ 262144 := by omega
  clear hM hx
  have HR : Hid (R = (decide (0 ≤ n) && decide (n ≤ 4096) && decide (0 ≤ at_) && decide (at_ ≤ (M : Int) - n))) := hR
  clear hR
  by_cases h0 : 0 ≤ n
  · by_cases h1 : n ≤ 4096
    · by_cases h2 : 0 ≤ at_
      · go_enter Tryd.func48, Tryd.ntmps48
        go_wp2
        go_ret
        rw [HR.out]
        exact ⟨by simp [h0, h1, h2], rfl⟩
      · go_enter Tryd.func48, Tryd.ntmps48
        go_wp2
        go_ret
        rw [HR.out]
        exact ⟨by simp [h0, h1]; intros; omega, rfl⟩
    · go_enter Tryd.func48, Tryd.ntmps48
      go_wp2
      go_ret
      rw [HR.out]
      exact ⟨by simp [h0]; intros; omega, rfl⟩
  · go_enter Tryd.func48, Tryd.ntmps48
    go_wp2
    go_ret
    rw [HR.out]
    exact ⟨by simp; intros; omega, rfl⟩

set_option maxRecDepth 100000 in
theorem off6_any (L : PLay6) (s : FS) (w : World) (hD : PFlash w L s) :
    Calls Tryd.prog 21 #[.pointer (some ⟨L.g, 0, none⟩)] w fun e w' => e = .returned (.bool s.down) ∧ w' = w := by
  obtain ⟨am, ah, le, hx, -⟩ := hD.head
  unfold PLay6.head at hx
  have c3 := hx.cell (j := 3) rfl
  go_enter Tryd.func21, Tryd.ntmps21
  go_wp2
  go_ret
  exact ⟨rfl, rfl⟩



set_option maxRecDepth 100000 in
theorem power6_any (L : PLay6) (s : FS) (w : World) (hD : PFlash w L s) :
    Calls Tryd.prog 18 #[.pointer (some ⟨L.g, 0, none⟩)] w fun e w' => e = .returned (.tuple #[]) ∧ PFlash w' L (powerF s) ∧ Chg L.T w w' := by
  obtain ⟨am, ah, le, hx, ha⟩ := hD.head
  unfold PLay6.head at hx
  have c3 := hx.cell (j := 3) rfl
  have c4 := hx.cell (j := 4) rfl
  have f3 := hx.frozen 3
  have f4 := hx.frozen 4
  have hx2 := (hx.set 3 (.bool false)).set 4 (.bool false)
  have hc2 : Chg (fun b => b = L.g) w ((w.setCell ⟨L.g, 3, none⟩ (.bool false)).setCell ⟨L.g, 4, none⟩ (.bool false)) := ((Chg.refl (fun b => b = L.g) w).setCell L.g 3 _ (fun _ => rfl)).setCell L.g 4 _ (fun _ => rfl)
  go_enter Tryd.func18, Tryd.ntmps18
  go_wp2
  go_end0
  exact ⟨rfl, hD.chgHead hc2 (powerF s) hD.ok.power ⟨rfl, rfl⟩ (hx2.of_eq (by rfl)) ⟨ha.rah, ha.rle, fun _ => rfl, fun _ h => absurd h (by show ¬ (0 : Int) ≤ -1; decide)⟩, hc2.weaken (fun _ h => .inl h)⟩

set_option maxRecDepth 100000 in
theorem arm6_any (L : PLay6) (s : FS) (c d : Int) (w : World) (hD : PFlash w L s) (hc : R64 c) (hd : R64 d) :
    Calls Tryd.prog 17 #[.pointer (some ⟨L.g, 0, none⟩), .int .i64 c, .int .i64 d] w fun e w' => e = .returned (.tuple #[]) ∧ PFlash w' L (armF s c d) ∧ Chg L.T w w' := by
  obtain ⟨am, ah, le, hx, ha⟩ := hD.head
  unfold PLay6.head at hx
  have c4 := hx.cell (j := 4) rfl
  have c5 := hx.cell (j := 5) rfl
  have c6 := hx.cell (j := 6) rfl
  have f4 := hx.frozen 4
  have f5 := hx.frozen 5
  have f6 := hx.frozen 6
  have hx2 := ((hx.set 4 (.bool true)).set 5 (.int .i64 c)).set 6 (.int .i64 d)
  have hc2 : Chg (fun b => b = L.g) w (((w.setCell ⟨L.g, 4, none⟩ (.bool true)).setCell ⟨L.g, 5, none⟩ (.int .i64 c)).setCell ⟨L.g, 6, none⟩ (.int .i64 d)) := (((Chg.refl (fun b => b = L.g) w).setCell L.g 4 _ (fun _ => rfl)).setCell L.g 5 _ (fun _ => rfl)).setCell L.g 6 _ (fun _ => rfl)
  go_enter Tryd.func17, Tryd.ntmps17
  go_wp2
  go_end0
  exact ⟨rfl, hD.chgHead hc2 (armF s c d) (hD.ok.arm c d hc.2 hd.2) ⟨rfl, rfl⟩ (hx2.of_eq (by rfl)) ⟨hc, hd, fun _ => (decide_eq_true (by show (0 : Int) ≤ max c 0; omega)).symm, fun _ _ => ⟨rfl, rfl⟩⟩, hc2.weaken (fun _ h => .inl h)⟩

/-- What goes leaves. -/
def wentF (s : FS) : FS := if 0 < s.armed then { s with armed := s.armed - 1 } else s
theorem wentF_ok {s : FS} {n : Nat} (h : s.ok n) : (wentF s).ok n := by
  have ha := h.armed
  unfold wentF
  split
  · exact ⟨h.b, h.worn, h.one, h.cap, h.most, h.worns, by show _ ≤ s.armed - 1 ∧ s.armed - 1 ≤ _; omega, h.done⟩
  · exact h
set_option maxRecDepth 100000 in
set_option maxHeartbeats 1000000 in
theorem goes6_any (L : PLay6) (s : FS) (w : World) (hD : PFlash w L s) (hdn : s.down = false) :
    Calls Tryd.prog 68 #[.pointer (some ⟨L.g, 0, none⟩)] w fun e w' => e = .returned (.bool (decide (s.armed = 0))) ∧ PFlash w' L (wentF s) ∧ Chg (fun b => b = L.g) w w' := by
  obtain ⟨am, ah, le, hx, ha⟩ := hD.head
  unfold PLay6.head at hx
  have c4 := hx.cell (j := 4) rfl
  have c5 := hx.cell (j := 5) rfl
  have f5 := hx.frozen 5
  have hok := hD.ok.armed
  have e1 := ha.isam hdn
  have e2 := ha.is hdn
  have hah := ha.rah
  unfold R64 at hah
  obtain ⟨B, hB⟩ : ∃ B, B = decide (s.armed = 0) := ⟨_, rfl⟩
  rw [← hB]
  by_cases h0 : 0 ≤ s.armed
  · obtain ⟨e3, e4⟩ := e2 h0
    rw [decide_eq_true h0] at e1
    subst e1
    by_cases h1 : ah < 1
    · have HB : Hid (B = true) := by show _ = _; rw [hB]; exact decide_eq_true (by omega)
      have HW : Hid (wentF s = s) := by show _ = _; unfold wentF; rw [if_neg (by omega)]
      clear e2 e3 e4 hB
      go_enter Tryd.func68, Tryd.ntmps68
      go_wp2
      go_ret
      rw [HB.out, HW.out]
      exact ⟨rfl, hD, Chg.refl _ _⟩
    · have HB : Hid (B = false) := by show _ = _; rw [hB]; exact decide_eq_false (by omega)
      have HW : Hid (wentF s = { s with armed := s.armed - 1 }) := by show _ = _; unfold wentF; rw [if_pos (by omega)]
      have hk := wentF_ok hD.ok
      have hx2 := hx.set 5 (.int .i64 (ah - 1))
      have hc2 : Chg (fun b => b = L.g) w (w.setCell ⟨L.g, 5, none⟩ (.int .i64 (ah - 1))) := (Chg.refl _ w).setCell L.g 5 _ (fun _ => rfl)
      have HA : Hid (Arms { s with armed := s.armed - 1 } true (ah - 1) le) := ⟨by unfold R64; omega, ha.rle, fun _ => (decide_eq_true (by show (0 : Int) ≤ s.armed - 1; omega)).symm, fun _ _ => ⟨by show s.armed - 1 = max (ah - 1) 0; omega, e4⟩⟩
      clear e2 e3 e4 hB
      go_enter Tryd.func68, Tryd.ntmps68
      go_wp2
      go_ret
      rw [HB.out]
      rw [HW.out] at hk ⊢
      exact ⟨rfl, hD.chgHead hc2 _ hk ⟨rfl, rfl⟩ (hx2.of_eq (by rfl)) HA.out, hc2⟩
  · have HB : Hid (B = false) := by show _ = _; rw [hB]; exact decide_eq_false (by omega)
    have HW : Hid (wentF s = s) := by show _ = _; unfold wentF; rw [if_neg (by omega)]
    rw [decide_eq_false h0] at e1
    subst e1
    clear e2 hB
    go_enter Tryd.func68, Tryd.ntmps68
    go_wp2
    go_ret
    rw [HB.out, HW.out]
    exact ⟨rfl, hD, Chg.refl _ _⟩
end Go.Proofs.YtgoehohadnkpdaaDoor
namespace Go.Proofs.YtgoehohadnkpdaaDoor
open Go.RowKit

/-- Cells stored into a block. -/
theorem Blk.setCells {g : Nat} {t : TypeId} : ∀ (vs : List Value) (o : Nat) (w : World) (arr : Array Value), Blk w g t arr → o + vs.length ≤ arr.size → Blk (w.setCells g o vs) g t (splice arr.toList o vs).toArray
  | [], o, w, arr, h, _ => h.of_eq (by simp [splice])
  | v :: vs, o, w, arr, h, hl => by
    rw [World.setCells]
    refine (Blk.setCells vs (o + 1) _ _ (h.set o v) (by simp at hl ⊢; omega)).of_eq ?_
    congr 1
    unfold splice
    simp only [List.length_cons] at hl ⊢
    rw [Array.toList_setIfInBounds, List.take_set, List.drop_set_of_lt (by omega), List.take_succ_eq_append_getElem (by simpa using (show o < arr.size by omega))]
    rw [List.set_append_right _ _ (by simp; omega), show o + 1 + vs.length = o + (vs.length + 1) by omega]
    simp [show min o arr.size = o by omega]
theorem grown_setCells (g : Nat) : ∀ (vs : List Value) (o : Nat) (w : World), w.grownBy (w.setCells g o vs) (some g) ∧ (w.setCells g o vs).heap.size = w.heap.size
  | [], _, w => ⟨⟨rfl, rfl, rfl, Nat.le_refl _, fun _ _ _ => rfl⟩, rfl⟩
  | v :: vs, o, w => by
    rw [World.setCells]
    obtain ⟨h1, h2⟩ := grown_setCells g vs (o + 1) (w.setCell ⟨g, o, none⟩ v)
    have hs : (w.setCell ⟨g, o, none⟩ v).heap.size = w.heap.size := by simp
    refine ⟨⟨h1.os, h1.tape, h1.output, by rw [h2, hs]; exact Nat.le_refl _, fun k hk hne => ?_⟩, h2.trans hs⟩
    rw [h1.block k (by rw [hs]; exact hk) hne]
    exact Below.heap_setCell w ⟨g, o, none⟩ v k (fun e => hne (by rw [e]))

/-- A region that draws its order, whose first n operations only read: they are walked in the text's order, the others behind them. -/
theorem region_tail {id : Nat} {Q : Exit → Act → World → Prop} {a : Act} {w : World} {l : List Oper} (n : Nat) (hm : Tryd.prog.follows .mixedOrders = true) (hB : Region.lexTailB .any l.toArray n = true)
    (h : wpStill Tryd.prog l.toArray w.drew (fun a' => wpList Tryd.prog l.toArray Q (l.drop n) a' w.drew) (l.take n) a) : (Code.region id l.toArray true).wp Tryd.prog Q a w := wp_region_still_tail n hm hB h
theorem exec_load {a : Act} {o : Oper} {w : World} (ty : TypeId) (x : Operand) (ho : o.op = .load ty x)
    (b off : Nat) (hx : a.eval x = .pointer (some ⟨b, off, none⟩)) (cs : List Value) (d : TypeDesc) (hc : w.rangeAt b off cs)
    (hu : Tryd.prog.underlying ty = some d) (hd : d.isRow = true) (hi : (Tryd.prog.info? ty).map (·.size) = some cs.length) : (execOp a.eval o).run Tryd.prog w = .ok (.value (.agg cs.toArray)) w := by
  unfold execOp
  simp only [ho, hx, Instr.loadAt, Instr.sureAddr, Sem.run_bind, Sem.run_pure, Result.andThen_ok, run_loadVar_mid w b off ty cs d hc hu hd hi]
theorem still_load {P : Program} {ops : Array Oper} {w : World} {Q : Act → Prop} {a : Act} {o : Oper} {rest : List Oper} (hgd : o.guard = none) (ty : TypeId) (x : Operand) (ho : o.op = .load ty x)
    (b off : Nat) (hx : a.eval x = .pointer (some ⟨b, off, none⟩)) (cs : List Value) (d : TypeDesc) (hc : w.rangeAt b off cs)
    (hu : P.underlying ty = some d) (hd : d.isRow = true) (hi : (P.info? ty).map (·.size) = some cs.length)
    (h : wpStill P ops w Q rest (a.put o.dst (.agg cs.toArray))) : wpStill P ops w Q (o :: rest) a := by
  refine wpStill_step fun K hK => ?_
  rw [if_pos (by simp [Region.wanted, hgd])]
  unfold Oper.still execOp
  simp only [ho, hx, Instr.loadAt, Instr.sureAddr, Sem.run_bind, Sem.run_pure, Result.andThen_ok, run_loadVar_mid w b off ty cs d hc hu hd hi, Oper.stillUpon]
  exact ⟨trivial, hK _ h⟩
theorem Blk.range {w : World} {g : Nat} {t : TypeId} {arr : Array Value} (h : Blk w g t arr) (o : Nat) (cs : List Value) (hc : ∀ j v, cs[j]? = some v → arr[o + j]? = some v) : w.rangeAt g o cs := fun j v hv => h.cell (hc j v hv)
/-- copy as one step of a region that draws its order. -/
theorem step_copy {ops : Array Oper} {o : Oper} {a : Act} {w : World} {K : Act → World → Prop} {Q : Exit → Act → World → Prop} {E : Prop} (hgd : o.guard = none) (d s : Operand)
    (ho : o.op = .call { callee := .builtin .copy, args := #[d, s], argTypes := #[35, 35] })
    (g off dLen dCap bb so sLen sCap : Nat) (hd : a.eval d = .slice (some ⟨g, off, none⟩) dLen dCap) (hs : a.eval s = .slice (some ⟨bb, so, none⟩) sLen sCap)
    (cur : Array Value) (t : TypeId) (hg : Blk w g t cur) (c : List UInt8) (hn : c.length = Nat.min sLen dLen) (hr : Row w bb so c) (hfit : off + c.length ≤ cur.size)
    (h : ∀ w', Blk w' g t (splice cur.toList off (c.map v8)).toArray → w.grownBy w' (some g) → w'.heap.size = w.heap.size → K (a.put o.dst (.int .i64 (c.length : Int))) w') :
    if Region.wanted o (yielded ops a.tmps) = true then Oper.wp Tryd.prog o a w K Q else E := by
  have hw : Region.wanted o (yielded ops a.tmps) = true := by simp [Region.wanted, hgd]
  rw [if_pos hw]
  have hsz : (Tryd.prog.info? 5).map (·.size) = some 1 := by kernel_rfl
  have hrun := run_copy_row (P := Tryd.prog) w 35 35 o.type 5 g off dLen dCap ⟨bb, so, none⟩ sLen sCap cur t (c.map v8) Tryd.underlying35 hsz hg (by rw [List.length_map]; exact hn) hr.at (by simpa using hfit) (one8l c)
  rw [List.length_map] at hrun
  unfold Oper.wp
  simp [execOp, ho, resolve, invoke, builtin, hd, hs, hrun, Result.andThen]
  refine h _ ?_ ⟨rfl, rfl, rfl, by simp, fun k _ hk => setRow_other w g k _ (fun e => hk (by rw [e]))⟩ (by simp)
  exact (hg.setRow _).of_eq (by simp [splice])
/-- A whole array stored into the middle of a block. -/
theorem store_mid {w : World} {ops : Array Oper} {rest : List Oper} {o : Oper} {a : Act} {Q : Exit → Act → World → Prop} (hgd : o.guard = none) (ty : TypeId) (x y : Operand) (ho : o.op = .store ty x y) (hd : o.dst = none)
    (g off : Nat) (cells : Array Value) (hx : a.eval x = .pointer (some ⟨g, off, none⟩)) (hy : a.eval y = .agg cells)
    (t : TypeId) (old : Array Value) (hg : Blk w g t old) (hi : (Tryd.prog.info? ty).map (·.size) = some cells.size)
    (hfit : off + cells.size ≤ old.size) (h1 : cells.all (·.oneCell') = true)
    (hK : ∀ w', Blk w' g t (splice old.toList off cells.toList).toArray → w.grownBy w' (some g) → w'.heap.size = w.heap.size → wpList Tryd.prog ops Q rest a w') : wpList Tryd.prog ops Q (o :: rest) a w := by
  have hth : w.there g off cells.size := fun j hj => ⟨by rw [hg.cell (v := old[off + j]'(by omega)) (by simp [show off + j < old.size by omega])]; rfl, hg.frozen _⟩
  refine wpList_store_mid hgd ty x y ho g off cells hx hy hth hi h1 ?_
  rw [hd]
  obtain ⟨h2, h3⟩ := grown_setCells g cells.toList off w
  exact hK _ (Blk.setCells cells.toList off w old hg (by simpa using hfit)) h2 h3

end Go.Proofs.YtgoehohadnkpdaaDoor
namespace Go.Proofs.YtgoehohadnkpdaaDoor
open Go.RowKit

set_option maxRecDepth 100000 in
set_option maxHeartbeats 1000000 in
theorem mul64_any (N : Nat) (hN : N < 4294967296) (w : World) :
    Calls Tryd.prog 55 #[.int .u64 1, .int .u64 (N : Int)] w fun e w' => e = .returned (.tuple #[.int .u64 0, .int .u64 (N : Int)]) ∧ w = w' := by
  have m1 : bits .and .u64 1 4294967295 = 1 := by have := bits_and_u64_nat 1 4294967295 (by omega) (by omega); exact this
  have m2 : bits .and .u64 (N : Int) 4294967295 = (N : Int) := by
    have h := bits_and_u64_nat N 4294967295 (by omega) (by omega)
    have e : N &&& 4294967295 = N % 4294967296 := Nat.and_two_pow_sub_one_eq_mod N 32
    rw [e, Nat.mod_eq_of_lt hN] at h
    exact h
  have m3 : (N : Int) / 4294967296 = 0 := by omega
  have m4 : bits .and .u64 0 4294967295 = 0 := by have := bits_and_u64_nat 0 4294967295 (by omega) (by omega); exact this
  have m5 : IntKind.u64.wrap (N : Int) = (N : Int) := by rw [IntKind.wrap_u64]; omega
  go_enter Tryd.func55, Tryd.ntmps55
  go_wp2
  go_ret2
  exact ⟨rfl, rfl⟩

set_option maxRecDepth 100000 in
theorem mul_any6 (N : Nat) (hN : N < 4294967296) (w : World) :
    Calls Tryd.prog 35 #[.int .u64 1, .int .u64 (N : Int)] w fun e w' => e = .returned (.tuple #[.int .u64 0, .int .u64 (N : Int)]) ∧ w = w' := by
  have HM : Hid (Calls Tryd.prog 55 #[.int .u64 1, .int .u64 (N : Int)] w fun e w' => e = .returned (.tuple #[.int .u64 0, .int .u64 (N : Int)]) ∧ w = w') := mul64_any N hN w
  go_enter Tryd.func35, Tryd.ntmps35
  go_wp2_with (go_at_call 55; refine HM.out.mono ?_; rintro e w1 ⟨rfl, rfl⟩)
  go_ret2
  exact ⟨rfl, rfl⟩
theorem exec_copy {a : Act} {o : Oper} {w w' : World} (d s : Operand) (ho : o.op = .call { callee := .builtin .copy, args := #[d, s], argTypes := #[35, 35] }) (vd vs v : Value) (hd : a.eval d = vd) (hs : a.eval s = vs) (hr : ∀ ty, (Builtin.copy_ #[35, 35] ty #[vd, vs]).run Tryd.prog w = .ok v w') : (execOp a.eval o).run Tryd.prog w = .ok (.value v) w' := by
  unfold execOp
  simp [ho, resolve, invoke, builtin, hd, hs, hr, Result.andThen]
theorem exec_addi {a : Act} {o : Oper} {w : World} (t : TypeId) (x y : Operand) (ho : o.op = .binOp .add t x y t) (m n r : Int) (hx : a.eval x = .int .i64 m) (hy : a.eval y = .int .i64 n) (h : IntKind.i64.wrap (m + n) = r) : (execOp a.eval o).run Tryd.prog w = .ok (.value (.int .i64 r)) w := by
  unfold execOp
  simp [ho, hx, hy]
  rw [← h]
  rfl
theorem exec_slice {a : Act} {o : Oper} {w : World} (x : Operand) (l h m : Option Operand) (ho : o.op = .slice 35 x l h m) (u r : Value) (lv hv mv : Option Value) (hx : a.eval x = u) (hl : l.map a.eval = lv) (hh : h.map a.eval = hv) (hm : m.map a.eval = mv) (hr : (Instr.slice 35 u lv hv mv).run Tryd.prog w = .ok r w) : (execOp a.eval o).run Tryd.prog w = .ok (.value r) w := by
  subst hl; subst hh; subst hm
  unfold execOp
  simp [ho, hx, hr, Instr.sliceAt, run_underlying Tryd.underlying35]
/-- A block whose first cells are such a byte. -/
def Ones (w : World) (g q : Nat) (c : UInt8) (size : Nat) : Prop := ∃ arr, Blk w g 5 arr ∧ arr.size = size ∧ ∀ j, j < q → arr[j]? = some (v8 c)
theorem ones_more {w : World} {g q K size : Nat} {c : UInt8} {arr : Array Value} (h : w.heap[g]? = some (.cells (splice arr.toList q (List.replicate K (v8 c))).toArray 5 (0, 0))) (hs : arr.size = size) (ha : ∀ j, j < q → arr[j]? = some (v8 c)) (hK : q + K ≤ size) : Ones w g (q + K) c size := by
  refine ⟨_, h, ?_, fun j hj => ?_⟩
  · unfold splice
    simp
    omega
  · unfold splice
    rw [List.getElem?_toArray]
    by_cases h1 : j < q
    · rw [List.getElem?_append_left (by simp; omega), List.getElem?_take_of_lt h1, Array.getElem?_toList]
      exact ha j h1
    · rw [List.getElem?_append_right (by simp; omega), List.getElem?_append_left (by simp; omega), List.getElem?_replicate, if_pos (by simp; omega)]
theorem slice_roomD (ao : Option Addr) (len c n : Nat) (h : n ≤ c) (w : World) : (Instr.slice 35 (.slice ao len c) none (some (.int .i64 (n : Int))) (some (.int .i64 (n : Int)))).run Tryd.prog w = .ok (.slice ao n n) w := by
  rw [run_slice_hm w 35 ao len c (by rw [elem_bytesD]; exact Tryd.underlying35) .i64 .i64 n n (by omega) (by omega) (by omega), elem_bytesD, size_byteD]
  simp only [Result.andThen_ok, sliced, Int.toNat_natCast, Nat.zero_mul, add_zero_addrD, Nat.sub_zero, ite_self]
set_option maxRecDepth 100000 in
set_option maxHeartbeats 4000000 in
theorem repeat_any (N : Nat) (h1 : 1 ≤ N) (h2 : N ≤ 1000000) (b cb : Nat) (c : UInt8) (w : World) (hb : Blk w b 5 #[v8 c]) :
    Calls Tryd.prog 23 #[.slice (some ⟨b, 0, none⟩) 1 cb, .int .i64 (N : Int)] w fun e w' => ∃ size, e = .returned (.slice (some ⟨w.heap.size, 0, none⟩) N N) ∧ N ≤ size ∧ Ones w' w.heap.size N c size ∧ Below w.heap.size w w' := by
  have HM : Hid (Calls Tryd.prog 35 #[.int .u64 1, .int .u64 (N : Int)] w fun e w' => e = .returned (.tuple #[.int .u64 0, .int .u64 (N : Int)]) ∧ w = w') := mul_any6 N (by omega) w
  have a1 : ((N : Int) == 0) = false := by simp; omega
  have a2 : ¬ (N : Int) < 0 := by omega
  have a3 : ¬ (9223372036854775807 : Int) < (N : Int) := by omega
  obtain ⟨cs, hrunM, hle, -⟩ := Lib.run_makeNoZero (P := Tryd.prog) w #[3] 35 5 Tryd.underlying35 N (by omega)
  have hcall : (callFunc 36 #[.int .i64 (N : Int)]).run Tryd.prog w = .ok (.value (.slice (some ⟨w.heap.size, 0, none⟩) N cs.size)) ((w.alloc (.cells cs 5)).drewN 2) := by
    rw [run_callFunc_extern Tryd.func36 (by kernel_rfl) (by kernel_rfl) (by kernel_rfl) (e := Extern.BytealgMakeNoZero.makeNoZero #[3] #[35]) (by kernel_rfl), hrunM]
    rfl
  clear hrunM
  have hsl := slice_roomD (some ⟨w.heap.size, 0, none⟩) N cs.size N hle
  go_enter Tryd.func23, Tryd.ntmps23
  go_upto_if 42 with (go_at_call 35; refine HM.out.mono ?_; rintro e w1 ⟨rfl, rfl⟩)
  go_cut [8] (fun s8 wx => w = wx ∧ ∃ CM : Nat, 1 ≤ CM ∧ CM ≤ 1000000 ∧ s8 = .int .i64 (CM : Int))
  case first =>
    go_wp2
    · go_meet
      exact ⟨rfl, 8192, by omega, by omega, rfl⟩
    · go_meet
      exact ⟨rfl, N, h1, h2, rfl⟩
  case rest =>
    obtain ⟨rfl, CM, hCM1, hCM2, rfl⟩ := hcut
    have hg0 : Blk ((w.alloc (.cells cs 5)).drewN 2) w.heap.size 5 cs := (Blk.new w 5 cs).drewN 2
    have hB0 : Below w.heap.size w ((w.alloc (.cells cs 5)).drewN 2) := Below.drewN ((Below.refl _ w).alloc (Nat.le_refl _) _) 2
    have hb0 := hb.below hB0 hb.lt
    have H1 : ∀ j v, [v8 c][j]? = some v → ((w.alloc (.cells cs 5)).drewN 2).cell? ((⟨b, 0, none⟩ : Addr).add j) = some v := fun j v hv => by rw [Addr.add_mid, Nat.zero_add]; exact hb0.cell (by simpa using hv)
    have hsz1 : (Tryd.prog.info? 5).map (·.size) = some 1 := by kernel_rfl
    go_wp2_with (refine wpList_copy_splice rfl (.tmp 58) (.tmp 59) 35 35 rfl 5 Tryd.underlying35 hsz1 (some ⟨w.heap.size, 0, none⟩) (some ⟨b, 0, none⟩) N N 1 cb rfl rfl w.heap.size 0 cs.toList 5 hg0 [v8 c] (by show 1 = Nat.min 1 N; exact (Nat.min_eq_left h1).symm) (fun _ => ⟨rfl, _, rfl, H1⟩) (by simp; omega) (one8l [c]) w.heap.size w hB0 (Nat.le_refl _) ?_; intro w2 hb2 hB2)
    have hO2 : Ones w2 w.heap.size (0 + 1) c cs.size := ones_more (K := 1) hb2.out rfl (fun j hj => by omega) (by omega)
    clear hb2 hg0 hB0 hb0
    go_loopw [10] (fun i wr => ∃ q : Nat, i = .int .i64 (q : Int) ∧ 1 ≤ q ∧ q ≤ N ∧ Ones wr w.heap.size q c cs.size ∧ Below w.heap.size w wr) (fun i _ => N - (intOf i).toNat)
    case atStart => exact ⟨1, rfl, by omega, h1, hO2, hB2⟩
    case round =>
      obtain ⟨q, rfl, hq1, hq2, hO, hB⟩ := hrel
      clear hO2 hB2
      by_cases hlt : q < N
      · have i1 : (q : Int) < (N : Int) := by omega
        obtain ⟨CH, hCH⟩ : ∃ CH, CH = min q CM := ⟨_, rfl⟩
        have hmin : min (q : Int) (CM : Int) = (CH : Int) := by omega
        have hc1 : 1 ≤ CH := by omega
        have hc2 : CH ≤ q := by omega
        clear hCH
        have l1 := slice_restD (some ⟨w.heap.size, 0, none⟩) N N q hq2
        rw [show restD (some ⟨w.heap.size, 0, none⟩) N q = some ⟨w.heap.size, q, none⟩ by unfold restD; rw [if_neg (by omega), Option.map_some, Addr.add_mid, Nat.mul_one, Nat.zero_add]] at l1
        have l2 := slice_toD (some ⟨w.heap.size, 0, none⟩) N N CH (by omega)
        obtain ⟨arr, hg, hsz, hall⟩ := hO
        obtain ⟨K, hK⟩ : ∃ K, K = Nat.min CH (N - q) := ⟨_, rfl⟩
        have hK1 : 1 ≤ K := by rw [hK]; exact Nat.le_min.2 ⟨hc1, by omega⟩
        have hK2 : K ≤ CH := by rw [hK]; exact Nat.min_le_left _ _
        have hK3 : q + K ≤ N := by have : K ≤ N - q := by rw [hK]; exact Nat.min_le_right _ _
                                   omega
        obtain ⟨w2, hr2, hb2, hB2⟩ : ∃ w2, (∀ ty, (Builtin.copy_ #[35, 35] ty #[.slice (some ⟨w.heap.size, q, none⟩) (N - q) (N - q), .slice (some ⟨w.heap.size, 0, none⟩) CH N]).run Tryd.prog wr.drew = .ok (.int .i64 (K : Int)) w2) ∧ w2.heap[w.heap.size]? = some (.cells (splice arr.toList q (List.replicate K (v8 c))).toArray 5 (0, 0)) ∧ Below w.heap.size w w2 := by
          have H2 : ∀ j v, (List.replicate K (v8 c))[j]? = some v → wr.drew.cell? ((⟨w.heap.size, 0, none⟩ : Addr).add j) = some v := fun j v hv => by
            rw [Addr.add_mid, Nat.zero_add]
            rw [List.getElem?_replicate] at hv
            split at hv
            · cases hv
              exact hg.drew.cell (hall j (by omega))
            · cases hv
          have hr := fun ty => run_copy_row (P := Tryd.prog) wr.drew 35 35 ty 5 w.heap.size q (N - q) (N - q) ⟨w.heap.size, 0, none⟩ CH N arr 5 (List.replicate K (v8 c)) Tryd.underlying35 hsz1 hg.drew (by rw [List.length_replicate, hK]) H2 (by rw [List.length_replicate, hsz]; omega) (fun v hv => by rw [List.eq_of_mem_replicate hv]; rfl)
          rw [List.length_replicate] at hr
          refine ⟨_, hr, ?_, Below.setRow hB.drew _ _ (Nat.le_refl _)⟩
          exact (hg.drew.setRow _).of_eq (by simp [splice])
        have hwr : IntKind.i64.wrap ((q : Int) + (K : Int)) = ((q + K : Nat) : Int) := by rw [IntKind.wrap_i64]; omega
        go_wp2_with fail
        refine held_begin (fun _ => True) (by kernel_rfl) ?_
        refine held_take 0 67 _ (.int .i64 (q : Int)) rfl rfl (by kernel_rfl) (by kernel_rfl) (by kernel_rfl) rfl trivial (fun _ _ => rfl) ?_
        simp only [Act.put, List.setIfInBounds_toArray, List.set_cons_succ, List.set_cons_zero]
        refine held_take 1 68 _ (.slice (some ⟨w.heap.size, 0, none⟩) N N) rfl rfl (by kernel_rfl) (by kernel_rfl) (by kernel_rfl) rfl trivial (fun _ _ => rfl) ?_
        simp only [Act.put, List.setIfInBounds_toArray, List.set_cons_succ, List.set_cons_zero]
        refine held_take 2 69 _ (.int .i64 (q : Int)) rfl rfl (by kernel_rfl) (by kernel_rfl) (by kernel_rfl) rfl trivial (fun _ _ => rfl) ?_
        simp only [Act.put, List.setIfInBounds_toArray, List.set_cons_succ, List.set_cons_zero]
        refine held_take 3 70 _ (.slice (some ⟨w.heap.size, q, none⟩) (N - q) (N - q)) rfl rfl (by kernel_rfl) (by kernel_rfl) (by kernel_rfl) rfl trivial (fun W _ => exec_slice _ _ _ _ rfl (.slice (some ⟨w.heap.size, 0, none⟩) N N) _ (some (.int .i64 (q : Int))) none none rfl rfl rfl rfl (l1 W)) ?_
        simp only [Act.put, List.setIfInBounds_toArray, List.set_cons_succ, List.set_cons_zero]
        refine held_take 4 71 _ (.slice (some ⟨w.heap.size, 0, none⟩) N N) rfl rfl (by kernel_rfl) (by kernel_rfl) (by kernel_rfl) rfl trivial (fun _ _ => rfl) ?_
        simp only [Act.put, List.setIfInBounds_toArray, List.set_cons_succ, List.set_cons_zero]
        refine held_take 5 72 _ (.int .i64 (CH : Int)) rfl rfl (by kernel_rfl) (by kernel_rfl) (by kernel_rfl) rfl trivial (fun _ _ => rfl) ?_
        simp only [Act.put, List.setIfInBounds_toArray, List.set_cons_succ, List.set_cons_zero]
        refine held_take 6 73 _ (.slice (some ⟨w.heap.size, 0, none⟩) CH N) rfl rfl (by kernel_rfl) (by kernel_rfl) (by kernel_rfl) rfl trivial (fun W _ => exec_slice _ _ _ _ rfl (.slice (some ⟨w.heap.size, 0, none⟩) N N) _ none (some (.int .i64 (CH : Int))) none rfl rfl rfl rfl (l2 W)) ?_
        simp only [Act.put, List.setIfInBounds_toArray, List.set_cons_succ, List.set_cons_zero]
        refine held_all1 7 (by kernel_rfl) (op_value 7 74 _ (.int .i64 (K : Int)) w2 rfl rfl rfl (exec_copy _ _ rfl (.slice (some ⟨w.heap.size, q, none⟩) (N - q) (N - q)) (.slice (some ⟨w.heap.size, 0, none⟩) CH N) _ rfl rfl hr2) ⟨trivial, ?_⟩)
        simp only [Act.put, List.setIfInBounds_toArray, List.set_cons_succ, List.set_cons_zero]
        refine held_all1 8 (by kernel_rfl) (op_value 8 75 _ (.int .i64 ((q + K : Nat) : Int)) w2 rfl rfl rfl (exec_addi _ _ _ rfl _ _ _ rfl rfl hwr) ⟨trivial, ?_⟩)
        simp only [Act.put, List.setIfInBounds_toArray, List.set_cons_succ, List.set_cons_zero]
        refine held_all1 9 (by kernel_rfl) (op_value 9 10 _ (.int .i64 ((q + K : Nat) : Int)) w2 rfl rfl rfl rfl ⟨trivial, ?_⟩)
        simp only [Act.put, List.setIfInBounds_toArray, List.set_cons_succ, List.set_cons_zero]
        refine wpAnyH_done (by kernel_rfl) ?_ _
        refine NoPanic.normal ?_
        go_wp2
        go_roundw
        case rel => exact ⟨q + K, rfl, by omega, hK3, ones_more hb2 hsz hall (by omega), hB2⟩
        case measure => simp [intOf]; omega
      · have i1 : ¬ (q : Int) < (N : Int) := by omega
        obtain rfl : q = N := by omega
        go_wp2
        go_ret
        exact ⟨rfl, cs.size, hle, hO, hB⟩
end Go.Proofs.YtgoehohadnkpdaaDoor
namespace Go.Proofs.YtgoehohadnkpdaaDoor
open Go.RowKit

set_option maxRecDepth 100000 in
set_option maxHeartbeats 1000000 in
theorem new6_bad (n k : Int) (w : World) (h : n < 1 ∨ 256 < n ∨ k < 1 ∨ 10000 < k) :
    Calls Tryd.prog 11 #[.int .i64 n, .int .i64 k] w fun e w' => e = .returned (.tuple #[.pointer none, .int .i64 1]) ∧ Below w.heap.size w w' := by
  by_cases h1 : n < 1
  · clear h
    go_enter Tryd.func11, Tryd.ntmps11
    go_wp2
    go_ret2
    exact ⟨rfl, Below.refl _ _⟩
  by_cases h2 : 256 < n
  · clear h
    go_enter Tryd.func11, Tryd.ntmps11
    go_wp2
    go_ret2
    exact ⟨rfl, Below.refl _ _⟩
  by_cases h3 : k < 1
  · clear h
    go_enter Tryd.func11, Tryd.ntmps11
    go_wp2
    go_ret2
    exact ⟨rfl, Below.refl _ _⟩
  · have h4 : 10000 < k := by omega
    clear h
    go_enter Tryd.func11, Tryd.ntmps11
    go_wp2
    go_ret2
    exact ⟨rfl, Below.refl _ _⟩

theorem make_ints6 (n : Nat) (hn : n ≤ 1000000) (w : World) : (Instr.makeSlice 51 (.int .i64 (n : Int)) (.int .i64 (n : Int))).run Tryd.prog w = .ok (.slice (some ⟨w.heap.size, 0, none⟩) n n) (w.alloc (.cells (zints n) 3)) := by
  have := run_make_row' (P := Tryd.prog) 51 3 (.int .i64 0) 8 Tryd.underlying51 Tryd.info3q rfl .i64 .i64 n (by omega) (by omega) w
  rw [made_zints] at this
  exact this
theorem ones_tab {w : World} {g M size : Nat} {c : UInt8} (h : Ones w g M c size) (hM : M ≤ size) : TabB w g 5 ((List.replicate M c).map v8) := by
  obtain ⟨arr, h1, h2, h3⟩ := h
  refine ⟨arr, h1, by simp; omega, fun j v hv => ?_⟩
  rw [List.map_replicate, List.getElem?_replicate] at hv
  split at hv
  · cases hv
    exact h3 j (by assumption)
  · cases hv
theorem TabB.alloc {w : World} {b : Nat} {t : TypeId} {vs : List Value} (h : TabB w b t vs) (o : Obj) : TabB (w.alloc o) b t vs := h.chg (S := fun _ => False) ((Chg.refl _ w).alloc o) id

set_option maxRecDepth 100000 in
set_option maxHeartbeats 1000000 in
theorem new6_any (m k : Nat) (w : World) (h1 : 1 ≤ m) (h2 : m ≤ 256) (h3 : 1 ≤ k) (h4 : k ≤ 10000) :
    Calls Tryd.prog 11 #[.int .i64 (m : Int), .int .i64 (k : Int)] w fun e w' => ∃ L : PLay6, e = .returned (.tuple #[.pointer (some ⟨L.g, 0, none⟩), .int .i64 0]) ∧ L.n = m ∧ PFlash w' L (newF m k) ∧ Below w.heap.size w w' ∧ (∀ q, L.T q → w.heap.size ≤ q) := by
  have a1 : ¬ (m : Int) < 1 := by omega
  have a2 : ¬ (256 : Int) < (m : Int) := by omega
  have a3 : ¬ (k : Int) < 1 := by omega
  have a4 : ¬ (10000 : Int) < (k : Int) := by omega
  obtain ⟨M, hM⟩ : ∃ M, M = 1024 * m := ⟨_, rfl⟩
  have hbl : Blk (w.alloc (.cells #[.int .u8 255] 5)) w.heap.size 5 #[v8 255] := Blk.new w 5 _
  have HR : Hid (Calls Tryd.prog 23 #[.slice (some ⟨w.heap.size, 0, none⟩) 1 1, .int .i64 ((m : Int) * 1024)] (w.alloc (.cells #[.int .u8 255] 5)) fun e w' => ∃ size, e = .returned (.slice (some ⟨(w.alloc (.cells #[.int .u8 255] 5)).heap.size, 0, none⟩) M M) ∧ M ≤ size ∧ Ones w' (w.alloc (.cells #[.int .u8 255] 5)).heap.size M 255 size ∧ Below (w.alloc (.cells #[.int .u8 255] 5)).heap.size (w.alloc (.cells #[.int .u8 255] 5)) w') := by have := repeat_any M (by omega) (by omega) w.heap.size 1 255 _ hbl; rw [show (M : Int) = (m : Int) * 1024 by omega] at this; exact this
  have hB0 : Below w.heap.size w (w.alloc (.cells #[.int .u8 255] 5)) := (Below.refl _ w).alloc (Nat.le_refl _) _
  have hs0 : (w.alloc (.cells #[.int .u8 255] 5)).heap.size = w.heap.size + 1 := by simp
  rw [hs0] at HR
  have hmk := make_ints6 m (by omega)
  have hok := newF_ok m k h1 h2 h4
  clear hbl
  go_enter Tryd.func11, Tryd.ntmps11
  go_wp2_with fail
  refine HR.out.mono ?_
  rintro e w1 ⟨size, rfl, hsz, hO, hb1⟩
  have HOK : Hid ((newF m k).ok m) := hok
  clear hok HR
  have HM : Hid (M = 1024 * m) := hM
  clear hM
  go_wp2
  go_ret2
  have hB1 : Below w.heap.size w w1 := hB0.trans (hb1.mono (by omega))
  have ht := ones_tab hO hsz
  have hl := ht.lt
  have hs1 : (w1.alloc (.cells (zints m) 3)).heap.size = w1.heap.size + 1 := by simp
  refine ⟨⟨w1.heap.size + 1, w.heap.size + 1, w1.heap.size, m⟩, rfl, rfl, ⟨HOK.out, ?_, ?_, ?_, ⟨false, 0, 0, ?_, ?_⟩, ?_, ?_⟩, ?_, ?_⟩
  · show w1.heap.size + 1 ≠ w.heap.size + 1; omega
  · show w1.heap.size + 1 ≠ w1.heap.size; omega
  · show w.heap.size + 1 ≠ w1.heap.size; omega
  · rw [HM.out]
    exact Blk.newAt _ _ _ _ (by simp)
  · exact ⟨by unfold R64; omega, by unfold R64; omega, fun _ => rfl, fun _ h => absurd h (by show ¬ (0 : Int) ≤ -1; decide)⟩
  · rw [HM.out] at ht
    exact (ht.alloc _).alloc _
  · exact (Blk.new w1 3 _).alloc _
  · exact (hB1.alloc hB1.size _).alloc (by rw [hs1]; have := hB1.size; omega) _
  · have := hB1.size
    rintro q (rfl | rfl | rfl)
    · show w.heap.size ≤ w1.heap.size + 1; omega
    · show w.heap.size ≤ w.heap.size + 1; omega
    · exact this
end Go.Proofs.YtgoehohadnkpdaaDoor
