/-
  What is proved here: the document's flash: what is there, how worn a block is, reading, arming, the power.
  Conditions: the flash lies in memory.
-/
import Derived.Test.YtoemdmfpcobadaaDoorJChgWorld
import Derived.Test.YtoemdmfpcobadaaDoorJShaPure
import Derived.Test.YtoemdmfpcobadaaDoorJSegKit
import Derived.Lib.MinMax
namespace Go.Proofs.YtoemdmfpcobadaaDoor
open Go.RowKit

structure FLay where
  g : Nat
  bb : Nat
  bw : Nat
  n : Nat
  m : Nat
/-- The blocks that a flash writes. -/
def FLay.T (L : FLay) (b : Nat) : Prop := b = L.g ∨ b = L.bb ∨ b = L.bw
def FLay.head (L : FLay) (s : FS) : Array Value := #[.slice (some ⟨L.bb, 0, none⟩) L.m L.m, .slice (some ⟨L.bw, 0, none⟩) L.n L.n, .int .i64 (s.most : Int), .int .i64 s.armed, .int .i64 s.done, .bool s.down]
def wornV (l : List Nat) : Array Value := (l.map fun (x : Nat) => Value.int .i64 (x : Int)).toArray
structure RFlash (w : World) (L : FLay) (s : FS) : Prop where
  ok : s.ok L.n
  gb : L.g ≠ L.bb
  gw : L.g ≠ L.bw
  bw : L.bb ≠ L.bw
  m : L.m = 1024 * L.n
  head : Blk w L.g 63 (L.head s)
  b : Blk w L.bb 5 (s.b.map v8).toArray
  worn : Blk w L.bw 3 (wornV s.worn)
theorem RFlash.lt {w : World} {L : FLay} {s : FS} (h : RFlash w L s) : ∀ q, L.T q → q < w.heap.size := by
  rintro q (rfl | rfl | rfl)
  · exact h.head.lt
  · exact h.b.lt
  · exact h.worn.lt
theorem RFlash.chg {w w' : World} {L : FLay} {s : FS} {S : Nat → Prop} (h : RFlash w L s) (hc : Chg S w w') (hT : ∀ q, L.T q → ¬ S q) : RFlash w' L s :=
  ⟨h.ok, h.gb, h.gw, h.bw, h.m, h.head.chg hc (hT _ (.inl rfl)), h.b.chg hc (hT _ (.inr (.inl rfl))), h.worn.chg hc (hT _ (.inr (.inr rfl)))⟩
theorem RFlash.after {w w' : World} {L : FLay} {s : FS} (h : RFlash w L s) (hb : Below w.heap.size w w') : RFlash w' L s :=
  h.chg (Chg.of_below (S := fun _ => False) hb (Nat.le_refl _)) (fun _ _ => id)
/-- The head alone has changed. -/
theorem RFlash.chgHead {w w' : World} {L : FLay} {s : FS} (h : RFlash w L s) (hc : Chg (fun b => b = L.g) w w') (t : FS) (hk : t.ok L.n) (he : t.b = s.b ∧ t.worn = s.worn) (hb : Blk w' L.g 63 (L.head t)) : RFlash w' L t :=
  ⟨hk, h.gb, h.gw, h.bw, h.m, hb, by rw [he.1]; exact h.b.chg hc (fun e => h.gb e.symm), by rw [he.2]; exact h.worn.chg hc (fun e => h.gw e.symm)⟩
theorem RFlash.len {w : World} {L : FLay} {s : FS} (h : RFlash w L s) : s.b.length = L.m := by rw [h.ok.b, h.m]
theorem RFlash.m_le {w : World} {L : FLay} {s : FS} (h : RFlash w L s) : L.m ≤ 262144 := by have := h.ok.cap; rw [h.m]; omega
theorem wornV_at {l : List Nat} {k : Nat} (h : k < l.length) : (wornV l)[k]? = some (.int .i64 ((l.getD k 0 : Nat) : Int)) := by
  simp [wornV, h]
theorem slice_midD (ao : Option Addr) (len c lo hi : Nat) (h : lo ≤ hi) (hc : hi ≤ c) (w : World) : (Instr.slice 41 (.slice ao len c) (some (.int .i64 (lo : Int))) (some (.int .i64 (hi : Int))) none).run Tryd.prog w = .ok (.slice (restD ao c lo) (hi - lo) (c - lo)) w := by
  rw [run_slice_lh w 41 ao len c (by rw [elem_bytesD]; exact Tryd.underlying41) .i64 .i64 lo hi (by omega) (by omega) (by omega), elem_bytesD, size_byteD]
  simp only [Result.andThen_ok, sliced, Int.toNat_natCast, restD]

set_option maxRecDepth 100000 in
set_option maxHeartbeats 1000000 in
theorem ref6There_any (L : FLay) (s : FS) (at_ n : Int) (w : World) (hD : RFlash w L s) :
    Calls Tryd.prog 35 #[.pointer (some ⟨L.g, 0, none⟩), .int .i64 at_, .int .i64 n] w fun e w' => e = .returned (.bool (thereB s at_ n)) ∧ w = w' := by
  have hx := hD.head
  have hl := hD.len
  have hm := hD.m_le
  unfold FLay.head at hx
  have c0 := hx.cell (j := 0) rfl
  obtain ⟨R, hR⟩ : ∃ R, R = thereB s at_ n := ⟨_, rfl⟩
  rw [← hR]
  unfold thereB at hR
  rw [hl] at hR
  generalize L.m = M at *
  have HR : Hid (R = (decide (0 ≤ n) && decide (n ≤ 4096) && decide (0 ≤ at_) && decide (at_ ≤ (M : Int) - n))) := hR
  clear hR
  by_cases h0 : 0 ≤ n
  · by_cases h1 : n ≤ 4096
    · by_cases h2 : 0 ≤ at_
      · go_enter Tryd.func35, Tryd.ntmps35
        go_wp2
        go_ret
        rw [HR.out]
        exact ⟨by simp [h0, h1, h2], rfl⟩
      · go_enter Tryd.func35, Tryd.ntmps35
        go_wp2
        go_ret
        rw [HR.out]
        exact ⟨by simp [h0, h1]; intros; omega, rfl⟩
    · go_enter Tryd.func35, Tryd.ntmps35
      go_wp2
      go_ret
      rw [HR.out]
      exact ⟨by simp [h0]; intros; omega, rfl⟩
  · go_enter Tryd.func35, Tryd.ntmps35
    go_wp2
    go_ret
    rw [HR.out]
    exact ⟨by simp; intros; omega, rfl⟩



set_option maxRecDepth 100000 in
set_option maxHeartbeats 1000000 in
theorem ref6Power_any (L : FLay) (s : FS) (w : World) (hD : RFlash w L s) :
    Calls Tryd.prog 14 #[.pointer (some ⟨L.g, 0, none⟩)] w fun e w' => e = .returned (.tuple #[]) ∧ RFlash w' L (powerF s) ∧ Chg L.T w w' := by
  have hx := hD.head
  unfold FLay.head at hx
  have c3 := hx.cell (j := 3) rfl
  have z3 := hx.frozen 3
  have hx2 := hx.set 3 (.int .i64 (-1))
  have c5 := hx2.cell (j := 5) rfl
  have z5 := hx2.frozen 5
  go_enter Tryd.func14, Tryd.ntmps14
  go_wp2
  go_end0
  have hc := ((Chg.refl (fun b => b = L.g) w).setCell L.g 3 (.int .i64 (-1)) (fun _ => rfl)).setCell L.g 5 (.bool false) (fun _ => rfl)
  exact ⟨rfl, hD.chgHead hc (powerF s) hD.ok.power ⟨rfl, rfl⟩ ((hx2.set 5 _).of_eq rfl), hc.weaken (fun _ h => .inl h)⟩

set_option maxRecDepth 100000 in
set_option maxHeartbeats 1000000 in
theorem ref6Arm_any (L : FLay) (s : FS) (c d : Int) (w : World) (hD : RFlash w L s) (hc : c ≤ 9223372036854775807) (hd : d ≤ 9223372036854775807) :
    Calls Tryd.prog 12 #[.pointer (some ⟨L.g, 0, none⟩), .int .i64 c, .int .i64 d] w fun e w' => e = .returned (.tuple #[]) ∧ RFlash w' L (armF s c d) ∧ Chg L.T w w' := by
  have hx := hD.head
  unfold FLay.head at hx
  have c3 := hx.cell (j := 3) rfl
  have z3 := hx.frozen 3
  have hx2 := hx.set 3 (.int .i64 (max c 0))
  have c4 := hx2.cell (j := 4) rfl
  have z4 := hx2.frozen 4
  go_enter Tryd.func12, Tryd.ntmps12
  go_wp2
  go_end0
  have hC := ((Chg.refl (fun b => b = L.g) w).setCell L.g 3 (.int .i64 (max c 0)) (fun _ => rfl)).setCell L.g 4 (.int .i64 (max d 0)) (fun _ => rfl)
  exact ⟨rfl, hD.chgHead hC (armF s c d) (hD.ok.arm c d hc hd) ⟨rfl, rfl⟩ ((hx2.set 4 _).of_eq rfl), hC.weaken (fun _ h => .inl h)⟩

set_option maxRecDepth 100000 in
set_option maxHeartbeats 1000000 in
theorem ref6Goes_any (L : FLay) (s : FS) (n : Nat) (w : World) (hD : RFlash w L s) (hn : n ≤ 4096) :
    Calls Tryd.prog 36 #[.pointer (some ⟨L.g, 0, none⟩), .int .i64 (n : Int)] w fun e w' => e = .returned (.tuple #[.int .i64 ((goesF s n).1 : Int), .int .i64 (goesF s n).2.1]) ∧ RFlash w' L (goesF s n).2.2 ∧ Chg (fun b => b = L.g) w w' := by
  have hx := hD.head
  have hk := (goesF_ok hD.ok n).1
  have ha := hD.ok.armed
  have hd := hD.ok.done
  unfold FLay.head at hx
  have c3 := hx.cell (j := 3) rfl
  have z3 := hx.frozen 3
  obtain ⟨R, hR⟩ : ∃ R, R = goesF s n := ⟨_, rfl⟩
  rw [← hR] at hk ⊢
  unfold goesF at hR
  by_cases h0 : s.armed < 0
  · rw [if_pos h0] at hR
    have HR : Hid (R = (n, 0, s)) := hR
    clear hR
    generalize s.armed = AR at *
    go_enter Tryd.func36, Tryd.ntmps36
    go_wp2
    go_ret2
    rw [HR.out]
    exact ⟨rfl, hD, Chg.refl _ _⟩
  rw [if_neg h0] at hR
  by_cases h1 : 0 < s.armed
  · rw [if_pos h1] at hR
    have HR : Hid (R = (n, 0, { s with armed := s.armed - 1 })) := hR
    have hc := (Chg.refl (fun b => b = L.g) w).setCell L.g 3 (.int .i64 (s.armed - 1)) (fun _ => rfl)
    have hD2 := hD.chgHead hc { s with armed := s.armed - 1 } (by rw [hR] at hk; exact hk) ⟨rfl, rfl⟩ ((hx.set 3 _).of_eq rfl)
    clear hR
    generalize s.armed = AR at *
    go_enter Tryd.func36, Tryd.ntmps36
    go_wp2
    go_ret2
    rw [HR.out]
    exact ⟨rfl, hD2, hc⟩
  · rw [if_neg h1] at hR
    have HR : Hid (R = ((min (n : Int) s.done).toNat, 7, { s with armed := -1, down := true })) := hR
    have hx2 := hx.set 3 (.int .i64 (-1))
    have c5 := hx2.cell (j := 5) rfl
    have z5 := hx2.frozen 5
    have hx3 := hx2.set 5 (.bool true)
    have c4 := hx3.cell (j := 4) rfl
    have hc := ((Chg.refl (fun b => b = L.g) w).setCell L.g 3 (.int .i64 (-1)) (fun _ => rfl)).setCell L.g 5 (.bool true) (fun _ => rfl)
    have hD2 := hD.chgHead hc { s with armed := -1, down := true } (by rw [hR] at hk; exact hk) ⟨rfl, rfl⟩ (hx3.of_eq rfl)
    clear hR
    generalize s.armed = AR at *
    go_enter Tryd.func36, Tryd.ntmps36
    go_wp2
    go_ret2
    rw [HR.out]
    have hmin : (((min (n : Int) s.done).toNat : Nat) : Int) = min (n : Int) s.done := by omega
    exact ⟨by simp only [hmin]; rfl, hD2, hc⟩

set_option maxRecDepth 100000 in
set_option maxHeartbeats 1000000 in
theorem ref6Read_any (L : FLay) (s : FS) (at_ n : Int) (w : World) (hD : RFlash w L s) :
    Calls Tryd.prog 24 #[.pointer (some ⟨L.g, 0, none⟩), .int .i64 at_, .int .i64 n] w fun e w' => ∃ v, e = .returned (.tuple #[v, .int .i64 (readF s at_ n).2]) ∧ Own w' w.heap.size v (readF s at_ n).1 ∧ Below w.heap.size w w' := by
  have hx := hD.head
  have hl := hD.len
  have hm := hD.m_le
  unfold FLay.head at hx
  have c0 := hx.cell (j := 0) rfl
  have c5 := hx.cell (j := 5) rfl
  have HT : Hid (Calls Tryd.prog 35 #[.pointer (some ⟨L.g, 0, none⟩), .int .i64 at_, .int .i64 n] w fun e w' => e = .returned (.bool (thereB s at_ n)) ∧ w = w') := ref6There_any L s at_ n w hD
  obtain ⟨R, hR⟩ : ∃ R, R = readF s at_ n := ⟨_, rfl⟩
  rw [← hR]
  unfold readF at hR
  cases hd : s.down with
  | true =>
    rw [hd] at c5 hR
    have HR : Hid (R = ([], 7)) := hR
    clear hR hd
    go_enter Tryd.func24, Tryd.ntmps24
    go_wp2
    go_ret2
    rw [HR.out]
    exact ⟨_, rfl, ⟨rfl, .inl ⟨rfl, rfl⟩⟩, Below.refl _ _⟩
  | false =>
    rw [hd] at c5 hR
    cases ht : thereB s at_ n with
    | false =>
      rw [ht] at hR HT
      have HR : Hid (R = ([], 1)) := hR
      clear hR hd ht
      go_enter Tryd.func24, Tryd.ntmps24
      go_wp2_with (go_at_call 35; refine HT.out.mono ?_; rintro e w1 ⟨rfl, rfl⟩)
      go_ret2
      rw [HR.out]
      exact ⟨_, rfl, ⟨rfl, .inl ⟨rfl, rfl⟩⟩, Below.refl _ _⟩
    | true =>
      rw [ht] at hR HT
      have HR : Hid (R = ((s.b.drop at_.toNat).take n.toNat, 0)) := hR
      unfold thereB at ht
      simp only [Bool.and_eq_true, decide_eq_true_eq, hl] at ht
      obtain ⟨⟨⟨h0, h1⟩, h2⟩, h3⟩ := ht
      obtain ⟨A, rfl⟩ : ∃ A : Nat, at_ = (A : Int) := ⟨at_.toNat, by omega⟩
      obtain ⟨K, rfl⟩ : ∃ K : Nat, n = (K : Int) := ⟨n.toNat, by omega⟩
      rw [Int.toNat_natCast, Int.toNat_natCast] at HR
      have hAK : A + K ≤ L.m := by omega
      have hsg : Seg w (.slice (some ⟨L.bb, 0, none⟩) L.m L.m) s.b := .inr ⟨L.bb, 0, L.m, by rw [hl], by omega, hD.b.row, hD.b.lt⟩
      have hsd := (Seg.takesD (Seg.dropsD hsg A (by omega)) K (by omega)).1
      have hsl : ∀ w, (Instr.slice 41 (.slice (some ⟨L.bb, 0, none⟩) L.m L.m) (some (.int .i64 (A : Int))) (some (.int .i64 ((A : Int) + (K : Int)))) none).run Tryd.prog w = .ok (.slice (restD (some ⟨L.bb, 0, none⟩) L.m A) K (L.m - A)) w := fun w => by
        have := slice_midD (some ⟨L.bb, 0, none⟩) L.m L.m A (A + K) (by omega) hAK w
        rw [Nat.add_sub_cancel_left] at this
        exact_mod_cast this
      have hrl : ((s.b.drop A).take K).length = K := by rw [List.length_take, List.length_drop]; omega
      have hlen : ([] : List UInt8).length + ((s.b.drop A).take K).length ≤ 1000000000 := by rw [hrl]; simp; omega
      have l0 := hx.lt
      have l1 : L.g ≠ w.heap.size := by omega
      clear hR hd h3
      generalize (s.b.drop A).take K = ROW at *
      generalize restD (some ⟨L.bb, 0, none⟩) L.m A = AV at *
      generalize L.m - A = CV at *
      go_enter Tryd.func24, Tryd.ntmps24
      go_wp2_with (first | (go_at_call 35; refine HT.out.mono ?_; rintro e w1 ⟨rfl, rfl⟩) | (at_builtin; refine app_own _ rfl (.tmp 19) (.tmp 28) rfl w.heap.size _ [] rfl (by exact own_emptyD _ _ _ rfl (Nat.le_refl _)) _ ROW rfl (by exact hsd.alloc _) hlen (by simp) ?_; intro v2 w2 ho2 hg2 hv2; rw [List.nil_append] at ho2; have hB2 := below_grown ((Below.refl w.heap.size w).alloc (Nat.le_refl _) _) hg2 (by simp) (fun q hq => by have h2 : w.heap.size = q := Option.some.inj hq; omega)))
      go_ret2
      rw [HR.out]
      exact ⟨_, rfl, ho2, hB2⟩
end Go.Proofs.YtoemdmfpcobadaaDoor
