/-
  What is proved here: plain facts on the program's flash as it lies in memory; what it asks of a place, of a block, of its power.
  Conditions: the flash lies in memory.
-/
import Derived.Test.YtoemdmfpcobadaaDoorJFlashI
import Derived.Test.YtoemdmfpcobadaaDoorJRefFlashDo
import Derived.Test.YtoemdmfpcobadaaDoorJRefFlashNew
namespace Go.Proofs.YtoemdmfpcobadaaDoor
open Go.RowKit

structure PLay6 where
  g : Nat
  bc : Nat
  bw : Nat
  n : Nat
/-- The blocks that it writes. -/
def PLay6.T (L : PLay6) (b : Nat) : Prop := b = L.g ∨ b = L.bc ∨ b = L.bw
def PLay6.head (L : PLay6) (most : Nat) (down am : Bool) (ah le : Int) : Array Value := #[.slice (some ⟨L.bc, 0, none⟩) (1024 * L.n) (1024 * L.n), .slice (some ⟨L.bw, 0, none⟩) L.n L.n, .int .i64 (most : Int), .bool down, .bool am, .int .i64 ah, .int .i64 le]
/-- How it is armed: while the power is off it doesn't matter. -/
structure Arms (s : FS) (am : Bool) (ah le : Int) : Prop where
  rah : R64 ah
  rle : R64 le
  isam : s.down = false → am = decide (0 ≤ s.armed)
  is : s.down = false → 0 ≤ s.armed → s.armed = max ah 0 ∧ s.done = max le 0
structure PFlash (w : World) (L : PLay6) (s : FS) : Prop where
  ok : s.ok L.n
  gb : L.g ≠ L.bc
  gw : L.g ≠ L.bw
  bw : L.bc ≠ L.bw
  head : ∃ am ah le, Blk w L.g 61 (L.head s.most s.down am ah le) ∧ Arms s am ah le
  b : TabB w L.bc 5 (s.b.map v8)
  worn : Blk w L.bw 3 (wornV s.worn)
theorem PFlash.lt {w : World} {L : PLay6} {s : FS} (h : PFlash w L s) : ∀ q, L.T q → q < w.heap.size := by
  obtain ⟨_, _, _, hb, _⟩ := h.head
  rintro q (rfl | rfl | rfl)
  · exact hb.lt
  · exact h.b.lt
  · exact h.worn.lt
theorem PFlash.chg {w w' : World} {L : PLay6} {s : FS} {S : Nat → Prop} (h : PFlash w L s) (hc : Chg S w w') (hT : ∀ q, L.T q → ¬ S q) : PFlash w' L s := by
  obtain ⟨am, ah, le, hb, ha⟩ := h.head
  exact ⟨h.ok, h.gb, h.gw, h.bw, ⟨am, ah, le, hb.chg hc (hT _ (.inl rfl)), ha⟩, h.b.chg hc (hT _ (.inr (.inl rfl))), h.worn.chg hc (hT _ (.inr (.inr rfl)))⟩
theorem PFlash.after {w w' : World} {L : PLay6} {s : FS} (h : PFlash w L s) (hb : Below w.heap.size w w') : PFlash w' L s :=
  h.chg (Chg.of_below (S := fun _ => False) hb (Nat.le_refl _)) (fun _ _ => id)
/-- The head alone has changed. -/
theorem PFlash.chgHead {w w' : World} {L : PLay6} {s : FS} (h : PFlash w L s) (hc : Chg (fun b => b = L.g) w w') (t : FS) (hk : t.ok L.n) (he : t.b = s.b ∧ t.worn = s.worn) {am : Bool} {ah le : Int} (hb : Blk w' L.g 61 (L.head t.most t.down am ah le)) (ha : Arms t am ah le) : PFlash w' L t :=
  ⟨hk, h.gb, h.gw, h.bw, ⟨am, ah, le, hb, ha⟩, by rw [he.1]; exact h.b.chg hc (fun e => h.gb e.symm), by rw [he.2]; exact h.worn.chg hc (fun e => h.gw e.symm)⟩
theorem PFlash.len {w : World} {L : PLay6} {s : FS} (h : PFlash w L s) : s.b.length = 1024 * L.n := h.ok.b
theorem PFlash.setByte {w : World} {L : PLay6} {s : FS} (h : PFlash w L s) (k : Nat) (x : UInt8) : PFlash (w.setCell ⟨L.bc, k, none⟩ (v8 x)) L { s with b := s.b.set k x } := by
  have hc : Chg (fun q => q = L.bc) w (w.setCell ⟨L.bc, k, none⟩ (v8 x)) := (Chg.refl _ w).setCell L.bc k _ (fun _ => rfl)
  obtain ⟨am, ah, le, hb, ha⟩ := h.head
  refine ⟨⟨by show (s.b.set _ _).length = _; rw [List.length_set]; exact h.ok.b, h.ok.worn, h.ok.one, h.ok.cap, h.ok.most, h.ok.worns, h.ok.armed, h.ok.done⟩, h.gb, h.gw, h.bw, ⟨am, ah, le, hb.chg hc h.gb, ⟨ha.rah, ha.rle, ha.isam, ha.is⟩⟩, ?_, h.worn.chg hc (fun e => h.bw e.symm)⟩
  have := h.b.set k (v8 x)
  rwa [← List.map_set] at this
theorem PFlash.setWorn {w : World} {L : PLay6} {s : FS} (h : PFlash w L s) (k x : Nat) (hx : x ≤ s.most) : PFlash (w.setCell ⟨L.bw, k, none⟩ (.int .i64 (x : Int))) L { s with worn := s.worn.set k x } := by
  have hc : Chg (fun q => q = L.bw) w (w.setCell ⟨L.bw, k, none⟩ (.int .i64 (x : Int))) := (Chg.refl _ w).setCell L.bw k _ (fun _ => rfl)
  obtain ⟨am, ah, le, hb, ha⟩ := h.head
  refine ⟨⟨h.ok.b, by show (s.worn.set _ _).length = _; rw [List.length_set]; exact h.ok.worn, h.ok.one, h.ok.cap, h.ok.most, fun y hy => ?_, h.ok.armed, h.ok.done⟩, h.gb, h.gw, h.bw, ⟨am, ah, le, hb.chg hc h.gw, ⟨ha.rah, ha.rle, ha.isam, ha.is⟩⟩, h.b.chg hc h.bw, (h.worn.set k _).of_eq (by simp [wornV, List.map_set])⟩
  rcases List.mem_or_eq_of_mem_set hy with hy | hy
  · exact h.ok.worns y hy
  · rw [hy]; exact hx
theorem tab_at6 {w : World} {b : Nat} {l : List UInt8} (h : TabB w b 5 (l.map v8)) {k : Nat} (hk : k < l.length) : w.cell? ⟨b, k, none⟩ = some (v8 (l.getD k 0)) := h.cell (by simp [hk])

set_option maxRecDepth 100000 in
theorem len6_any (L : PLay6) (s : FS) (w : World) (hD : PFlash w L s) :
    Calls Tryd.prog 27 #[.pointer (some ⟨L.g, 0, none⟩)] w fun e w' => e = .returned (.int .i64 (L.n : Int)) ∧ w = w' := by
  obtain ⟨am, ah, le, hx, -⟩ := hD.head
  unfold PLay6.head at hx
  have c1 := hx.cell (j := 1) rfl
  go_enter Tryd.func27, Tryd.ntmps27
  go_wp2
  go_ret
  exact ⟨rfl, rfl⟩

def hasB6 (n : Nat) (k : Int) : Bool := decide (0 ≤ k) && decide (k < (n : Int))
set_option maxRecDepth 100000 in
set_option maxHeartbeats 1000000 in
theorem has6_any (L : PLay6) (s : FS) (k : Int) (w : World) (hD : PFlash w L s) :
    Calls Tryd.prog 37 #[.pointer (some ⟨L.g, 0, none⟩), .int .i64 k] w fun e w' => e = .returned (.bool (hasB6 L.n k)) ∧ w = w' := by
  have HL : Hid (Calls Tryd.prog 27 #[.pointer (some ⟨L.g, 0, none⟩)] w fun e w' => e = .returned (.int .i64 (L.n : Int)) ∧ w = w') := len6_any L s w hD
  obtain ⟨R, hR⟩ : ∃ R, R = hasB6 L.n k := ⟨_, rfl⟩
  rw [← hR]
  have HR : Hid (R = (decide (0 ≤ k) && decide (k < (L.n : Int)))) := hR
  clear hR
  by_cases h0 : 0 ≤ k
  · go_enter Tryd.func37, Tryd.ntmps37
    go_wp2_with (go_at_call 27; refine HL.out.mono ?_; rintro e w1 ⟨rfl, rfl⟩)
    go_ret
    rw [HR.out]
    exact ⟨by simp [h0], rfl⟩
  · go_enter Tryd.func37, Tryd.ntmps37
    go_wp2
    go_ret
    rw [HR.out]
    exact ⟨by simp; intros; omega, rfl⟩

set_option maxRecDepth 100000 in
set_option maxHeartbeats 1000000 in
theorem spans6_any (L : PLay6) (s : FS) (at_ n : Int) (w : World) (hD : PFlash w L s) :
    Calls Tryd.prog 32 #[.pointer (some ⟨L.g, 0, none⟩), .int .i64 at_, .int .i64 n] w fun e w' => e = .returned (.bool (thereB s at_ n)) ∧ w = w' := by
  obtain ⟨am, ah, le, hx, -⟩ := hD.head
  have hl := hD.len
  have hcap := hD.ok.cap
  unfold PLay6.head at hx
  have c0 := hx.cell (j := 0) rfl
  obtain ⟨R, hR⟩ : ∃ R, R = thereB s at_ n := ⟨_, rfl⟩
  rw [← hR]
  unfold thereB at hR
  rw [hl] at hR
  obtain ⟨M, hM⟩ : ∃ M, M = 1024 * L.n := ⟨_, rfl⟩
  rw [← hM] at hR c0
  have hm : M ≤ 262144 := by omega
  clear hM hx
  have HR : Hid (R = (decide (0 ≤ n) && decide (n ≤ 4096) && decide (0 ≤ at_) && decide (at_ ≤ (M : Int) - n))) := hR
  clear hR
  by_cases h0 : 0 ≤ n
  · by_cases h1 : n ≤ 4096
    · by_cases h2 : 0 ≤ at_
      · go_enter Tryd.func32, Tryd.ntmps32
        go_wp2
        go_ret
        rw [HR.out]
        exact ⟨by simp [h0, h1, h2], rfl⟩
      · go_enter Tryd.func32, Tryd.ntmps32
        go_wp2
        go_ret
        rw [HR.out]
        exact ⟨by simp [h0, h1]; intros; omega, rfl⟩
    · go_enter Tryd.func32, Tryd.ntmps32
      go_wp2
      go_ret
      rw [HR.out]
      exact ⟨by simp [h0]; intros; omega, rfl⟩
  · go_enter Tryd.func32, Tryd.ntmps32
    go_wp2
    go_ret
    rw [HR.out]
    exact ⟨by simp; intros; omega, rfl⟩





set_option maxRecDepth 100000 in
theorem power6_any (L : PLay6) (s : FS) (w : World) (hD : PFlash w L s) :
    Calls Tryd.prog 13 #[.pointer (some ⟨L.g, 0, none⟩)] w fun e w' => e = .returned (.tuple #[]) ∧ PFlash w' L (powerF s) ∧ Chg L.T w w' := by
  obtain ⟨am, ah, le, hx, ha⟩ := hD.head
  unfold PLay6.head at hx
  have c3 := hx.cell (j := 3) rfl
  have c4 := hx.cell (j := 4) rfl
  have f3 := hx.frozen 3
  have f4 := hx.frozen 4
  have hx2 := (hx.set 3 (.bool false)).set 4 (.bool false)
  have hc2 : Chg (fun b => b = L.g) w ((w.setCell ⟨L.g, 3, none⟩ (.bool false)).setCell ⟨L.g, 4, none⟩ (.bool false)) := ((Chg.refl (fun b => b = L.g) w).setCell L.g 3 _ (fun _ => rfl)).setCell L.g 4 _ (fun _ => rfl)
  go_enter Tryd.func13, Tryd.ntmps13
  go_wp2
  go_end0
  exact ⟨rfl, hD.chgHead hc2 (powerF s) hD.ok.power ⟨rfl, rfl⟩ (hx2.of_eq (by rfl)) ⟨ha.rah, ha.rle, fun _ => rfl, fun _ h => absurd h (by show ¬ (0 : Int) ≤ -1; decide)⟩, hc2.weaken (fun _ h => .inl h)⟩

set_option maxRecDepth 100000 in
theorem arm6_any (L : PLay6) (s : FS) (c d : Int) (w : World) (hD : PFlash w L s) (hc : R64 c) (hd : R64 d) :
    Calls Tryd.prog 11 #[.pointer (some ⟨L.g, 0, none⟩), .int .i64 c, .int .i64 d] w fun e w' => e = .returned (.tuple #[]) ∧ PFlash w' L (armF s c d) ∧ Chg L.T w w' := by
  obtain ⟨am, ah, le, hx, ha⟩ := hD.head
  unfold PLay6.head at hx
  have c4 := hx.cell (j := 4) rfl
  have c5 := hx.cell (j := 5) rfl
  have c6 := hx.cell (j := 6) rfl
  have f4 := hx.frozen 4
  have f5 := hx.frozen 5
  have f6 := hx.frozen 6
  have hx2 := ((hx.set 4 (.bool true)).set 5 (.int .i64 c)).set 6 (.int .i64 d)
  have hc2 : Chg (fun b => b = L.g) w (((w.setCell ⟨L.g, 4, none⟩ (.bool true)).setCell ⟨L.g, 5, none⟩ (.int .i64 c)).setCell ⟨L.g, 6, none⟩ (.int .i64 d)) := (((Chg.refl (fun b => b = L.g) w).setCell L.g 4 _ (fun _ => rfl)).setCell L.g 5 _ (fun _ => rfl)).setCell L.g 6 _ (fun _ => rfl)
  go_enter Tryd.func11, Tryd.ntmps11
  go_wp2
  go_end0
  exact ⟨rfl, hD.chgHead hc2 (armF s c d) (hD.ok.arm c d hc.2 hd.2) ⟨rfl, rfl⟩ (hx2.of_eq (by rfl)) ⟨hc, hd, fun _ => (decide_eq_true (by show (0 : Int) ≤ max c 0; omega)).symm, fun _ _ => ⟨rfl, rfl⟩⟩, hc2.weaken (fun _ h => .inl h)⟩

/-- What goes leaves. -/
def wentF (s : FS) : FS := if 0 < s.armed then { s with armed := s.armed - 1 } else s
theorem wentF_ok {s : FS} {n : Nat} (h : s.ok n) : (wentF s).ok n := by
  have ha := h.armed
  unfold wentF
  split
  · exact ⟨h.b, h.worn, h.one, h.cap, h.most, h.worns, by show _ ≤ s.armed - 1 ∧ s.armed - 1 ≤ _; omega, h.done⟩
  · exact h
set_option maxRecDepth 100000 in
set_option maxHeartbeats 1000000 in
theorem goes6_any (L : PLay6) (s : FS) (w : World) (hD : PFlash w L s) (hdn : s.down = false) :
    Calls Tryd.prog 51 #[.pointer (some ⟨L.g, 0, none⟩)] w fun e w' => e = .returned (.bool (decide (s.armed = 0))) ∧ PFlash w' L (wentF s) ∧ Chg (fun b => b = L.g) w w' := by
  obtain ⟨am, ah, le, hx, ha⟩ := hD.head
  unfold PLay6.head at hx
  have c4 := hx.cell (j := 4) rfl
  have c5 := hx.cell (j := 5) rfl
  have f5 := hx.frozen 5
  have hok := hD.ok.armed
  have e1 := ha.isam hdn
  have e2 := ha.is hdn
  have hah := ha.rah
  unfold R64 at hah
  obtain ⟨B, hB⟩ : ∃ B, B = decide (s.armed = 0) := ⟨_, rfl⟩
  rw [← hB]
  by_cases h0 : 0 ≤ s.armed
  · obtain ⟨e3, e4⟩ := e2 h0
    rw [decide_eq_true h0] at e1
    subst e1
    by_cases h1 : ah < 1
    · have HB : Hid (B = true) := by show _ = _; rw [hB]; exact decide_eq_true (by omega)
      have HW : Hid (wentF s = s) := by show _ = _; unfold wentF; rw [if_neg (by omega)]
      clear e2 e3 e4 hB
      go_enter Tryd.func51, Tryd.ntmps51
      go_wp2
      go_ret
      rw [HB.out, HW.out]
      exact ⟨rfl, hD, Chg.refl _ _⟩
    · have HB : Hid (B = false) := by show _ = _; rw [hB]; exact decide_eq_false (by omega)
      have HW : Hid (wentF s = { s with armed := s.armed - 1 }) := by show _ = _; unfold wentF; rw [if_pos (by omega)]
      have hk := wentF_ok hD.ok
      have hx2 := hx.set 5 (.int .i64 (ah - 1))
      have hc2 : Chg (fun b => b = L.g) w (w.setCell ⟨L.g, 5, none⟩ (.int .i64 (ah - 1))) := (Chg.refl _ w).setCell L.g 5 _ (fun _ => rfl)
      have HA : Hid (Arms { s with armed := s.armed - 1 } true (ah - 1) le) := ⟨by unfold R64; omega, ha.rle, fun _ => (decide_eq_true (by show (0 : Int) ≤ s.armed - 1; omega)).symm, fun _ _ => ⟨by show s.armed - 1 = max (ah - 1) 0; omega, e4⟩⟩
      clear e2 e3 e4 hB
      go_enter Tryd.func51, Tryd.ntmps51
      go_wp2
      go_ret
      rw [HB.out]
      rw [HW.out] at hk ⊢
      exact ⟨rfl, hD.chgHead hc2 _ hk ⟨rfl, rfl⟩ (hx2.of_eq (by rfl)) HA.out, hc2⟩
  · have HB : Hid (B = false) := by show _ = _; rw [hB]; exact decide_eq_false (by omega)
    have HW : Hid (wentF s = s) := by show _ = _; unfold wentF; rw [if_neg (by omega)]
    rw [decide_eq_false h0] at e1
    subst e1
    clear e2 hB
    go_enter Tryd.func51, Tryd.ntmps51
    go_wp2
    go_ret
    rw [HB.out, HW.out]
    exact ⟨rfl, hD, Chg.refl _ _⟩
end Go.Proofs.YtoemdmfpcobadaaDoor
