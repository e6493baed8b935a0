/-
  What is proved here: the document's disk: reading, planning, what a change meets.
  Conditions: the disk lies in memory.
-/
import Derived.Test.YtojgeahablphbaaJChgWorld
import Derived.Test.YtojgeahablphbaaJDiskPure
namespace Go.Proofs.Ytojgeahablphbaa
open Go.RowKit

structure RLay where
  g : Nat
  bn : Nat
  bs : Nat
  bd : Nat
  n : Nat
  cn : Nat
  cs : Nat
  cd : Nat
  E : Nat → Prop
/-- The blocks that a disk writes. -/
def RLay.T (L : RLay) (b : Nat) : Prop := b = L.g ∨ b = L.bn ∨ b = L.bs ∨ b = L.bd
/-- Those, and others that it keeps off. -/
def RLay.U (L : RLay) (b : Nat) : Prop := L.T b ∨ L.E b
structure RLay.Ok (L : RLay) : Prop where
  gn : L.g ≠ L.bn
  gs : L.g ≠ L.bs
  gd : L.g ≠ L.bd
  ns : L.bn ≠ L.bs
  nd : L.bn ≠ L.bd
  sd : L.bs ≠ L.bd
  one : 1 ≤ L.n
  max : L.n ≤ 4096
def RLay.head (L : RLay) (xv : Value) (down : Bool) : Array Value := #[.slice (some ⟨L.bn, 0, none⟩) L.n L.cn, .slice (some ⟨L.bs, 0, none⟩) L.n L.cs, .slice (some ⟨L.bd, 0, none⟩) L.n L.cd, xv, .bool down]
structure RDisk (w : World) (L : RLay) (s : DS) : Prop where
  ok : s.ok L.n
  lay : L.Ok
  head : ∃ xv, Blk w L.g 55 (L.head xv s.down) ∧ SegA w L.U xv s.next
  now : ∃ nv, TabB w L.bn 22 nv ∧ RowsA w L.U nv s.now
  sure : ∃ sv, TabB w L.bs 22 sv ∧ RowsA w L.U sv s.sure
  dirt : TabB w L.bd 4 (s.dirt.map Value.bool)
  av : ∀ q, L.E q → q < w.heap.size
theorem SegA.chgT {w w' : World} {L : RLay} {v : Value} {bs : List UInt8} (h : SegA w L.U v bs) (hc : Chg L.T w w') : SegA w' L.U v bs := h.chg (hc.weaken (fun _ h => .inl h))
theorem RowsA.chgT {w w' : World} {L : RLay} {vs : List Value} {rs : List (List UInt8)} (h : RowsA w L.U vs rs) (hc : Chg L.T w w') : RowsA w' L.U vs rs := h.chg (hc.weaken (fun _ h => .inl h))
theorem RDisk.lt {w : World} {L : RLay} {s : DS} (h : RDisk w L s) : ∀ q, L.T q → q < w.heap.size := by
  obtain ⟨xv, hb, _⟩ := h.head
  obtain ⟨nv, hn, _⟩ := h.now
  obtain ⟨sv, hs, _⟩ := h.sure
  rintro q (rfl | rfl | rfl | rfl)
  · exact hb.lt
  · exact hn.lt
  · exact hs.lt
  · exact h.dirt.lt
theorem RDisk.ltU {w : World} {L : RLay} {s : DS} (h : RDisk w L s) : ∀ q, L.U q → q < w.heap.size := fun q hq => by rcases hq with hq | hq; exact h.lt q hq; exact h.av q hq
theorem RDisk.after {w w' : World} {L : RLay} {s : DS} (h : RDisk w L s) (hb : Below w.heap.size w w') : RDisk w' L s := by
  have hc : Chg (fun _ => False) w w' := Chg.of_below hb (Nat.le_refl _)
  have hT : Chg L.T w w' := Chg.of_below hb (Nat.le_refl _)
  obtain ⟨xv, hx, hx2⟩ := h.head
  obtain ⟨nv, hn, hn2⟩ := h.now
  obtain ⟨sv, hs, hs2⟩ := h.sure
  exact ⟨h.ok, h.lay, ⟨xv, hx.chg hc id, hx2.chgT hT⟩, ⟨nv, hn.chg hc id, hn2.chgT hT⟩, ⟨sv, hs.chg hc id, hs2.chgT hT⟩, h.dirt.chg hc id, fun q hq => Nat.lt_of_lt_of_le (h.av q hq) hb.size⟩
/-- Blocks that it keeps off may change. -/
theorem RDisk.chgE {w w' : World} {L : RLay} {s : DS} {S : Nat → Prop} (h : RDisk w L s) (hc : Chg S w w') (hS : ∀ q, S q → L.E q) (hT : ∀ q, L.T q → ¬ S q) : RDisk w' L s := by
  obtain ⟨xv, hx, hx2⟩ := h.head
  obtain ⟨nv, hn, hn2⟩ := h.now
  obtain ⟨sv, hs, hs2⟩ := h.sure
  have hU : Chg L.U w w' := hc.weaken (fun q hq => .inr (hS q hq))
  exact ⟨h.ok, h.lay, ⟨xv, hx.chg hc (hT _ (.inl rfl)), hx2.chg hU⟩, ⟨nv, hn.chg hc (hT _ (.inr (.inl rfl))), hn2.chg hU⟩, ⟨sv, hs.chg hc (hT _ (.inr (.inr (.inl rfl)))), hs2.chg hU⟩, h.dirt.chg hc (hT _ (.inr (.inr (.inr rfl)))), fun q hq => Nat.lt_of_lt_of_le (h.av q hq) hc.size⟩

set_option maxRecDepth 100000 in
set_option maxHeartbeats 1000000 in
theorem refRead_any (L : RLay) (s : DS) (k : Int) (w : World) (hD : RDisk w L s) :
    Calls Try.prog 39 #[.pointer (some ⟨L.g, 0, none⟩), .int .i64 k] w fun e w' => ∃ v, e = .returned (.tuple #[v, .int .i64 (readS s k).2]) ∧ Own w' w.heap.size v (readS s k).1 ∧ Below w.heap.size w w' := by
  obtain ⟨xv, hx, hx2⟩ := hD.head
  obtain ⟨nv, hn, hn2⟩ := hD.now
  have hnl := hD.ok.now
  unfold RLay.head at hx
  have c0 := hx.cell (j := 0) rfl
  have c4 := hx.cell (j := 4) rfl
  obtain ⟨R, hR⟩ : ∃ R, R = readS s k := ⟨_, rfl⟩
  rw [← hR]
  unfold readS at hR
  cases hd : s.down with
  | true =>
    rw [hd] at c4 hR
    have HR : Hid (R = ([], 7)) := hR
    clear hR hd
    go_enter Try.func39, Try.ntmps39
    go_wp2
    go_ret2
    rw [HR.out]
    exact ⟨_, rfl, ⟨rfl, .inl ⟨rfl, rfl⟩⟩, Below.refl _ _⟩
  | false =>
    rw [hd] at c4 hR
    rw [hnl] at hR
    by_cases hk : k < 0 ∨ (L.n : Int) ≤ k
    · have HR : Hid (R = ([], 1)) := by show _ = _; rw [hR, if_pos hk]; rfl
      clear hR hd
      rcases hk with hk | hk
      · go_enter Try.func39, Try.ntmps39
        go_wp2
        go_ret2
        rw [HR.out]
        exact ⟨_, rfl, ⟨rfl, .inl ⟨rfl, rfl⟩⟩, Below.refl _ _⟩
      · have hk0 : ¬ k < 0 := by omega
        go_enter Try.func39, Try.ntmps39
        go_wp2
        go_ret2
        rw [HR.out]
        exact ⟨_, rfl, ⟨rfl, .inl ⟨rfl, rfl⟩⟩, Below.refl _ _⟩
    · obtain ⟨m, rfl⟩ : ∃ m : Nat, k = (m : Int) := ⟨k.toNat, by omega⟩
      have hk0 : ¬ (m : Int) < 0 := by omega
      have hkn : ¬ (L.n : Int) ≤ (m : Int) := by omega
      have hkm : (m : Int) < (L.n : Int) := by omega
      have HR : Hid (R = (s.now.getD m [], 0)) := by show _ = _; rw [hR, if_neg hk]; rfl
      obtain ⟨v, hv, hv2⟩ := hn2.at (k := m) (by omega)
      have d0 := hn.cell hv
      obtain ⟨av, cv, rfl⟩ := Seg.shapeD hv2.1
      have l0 := hx.lt
      have l1 : L.g ≠ w.heap.size := by omega
      have l2 := hn.lt
      have l3 : L.bn ≠ w.heap.size := by omega
      have hr1 : (s.now.getD m []).length = 128 := getD_len hD.ok.nows (by omega)
      have hlen : ([] : List UInt8).length + (s.now.getD m []).length ≤ 1000000000 := by rw [hr1]; decide
      rw [hr1] at hv2 d0
      clear hR hd hk hr1 hv
      generalize s.now.getD m [] = ROW at *
      go_enter Try.func39, Try.ntmps39
      go_wp2_with (at_builtin; refine app_own _ rfl (.tmp 21) (.tmp 28) rfl w.heap.size _ [] rfl (by exact own_emptyD _ _ _ rfl (Nat.le_refl _)) _ ROW rfl (by exact hv2.1.alloc _) hlen (by simp) ?_; intro v2 w2 ho2 hg2 hv2; rw [List.nil_append] at ho2; have hB2 := below_grown ((Below.refl w.heap.size w).alloc (Nat.le_refl _) _) hg2 (by simp) (fun q hq => by have h2 : w.heap.size = q := Option.some.inj hq; omega))
      go_ret2
      rw [HR.out]
      exact ⟨_, rfl, ho2, hB2⟩
end Go.Proofs.Ytojgeahablphbaa
