/-
  What is proved here: the program's disk: planning, what a change meets, whether there is a sector.
  Conditions: the disk lies in memory.
-/
import Derived.Test.YtojgeahablphbaaJPDisk
import Derived.Test.YtojgeahablphbaaJBytesClone
namespace Go.Proofs.Ytojgeahablphbaa
open Go.RowKit Go.Maps



set_option maxRecDepth 100000 in
set_option maxHeartbeats 1000000 in
theorem next_any (L : PLay) (s : DS) (w : World) (hD : PDisk w L s) :
    Calls Try.prog 34 #[.pointer (some ⟨L.g, 0, none⟩)] w fun e w' => e = .returned (.int .u8 (n8 (s.next.headD 0))) ∧ PDisk w' L { s with next := s.next.tail } ∧ Chg (fun b => b = L.g) w w' := by
  obtain ⟨xv, hx, hx2⟩ := hD.head
  unfold PLay.head at hx
  have c2 := hx.cell (j := 2) rfl
  have z2 := hx.frozen 2
  obtain ⟨ao, c, hxv⟩ := Seg.shapeD hx2.1
  cases hnx : s.next with
  | nil =>
    rw [hnx] at hxv hx2
    subst hxv
    have hz : ([] : List UInt8).length = 0 := rfl
    rw [hz] at *
    have hs0 : ({ s with next := [].tail } : DS) = s := by rw [List.tail_nil, ← hnx]
    rw [hs0]
    clear hnx hs0
    go_enter Try.func34, Try.ntmps34
    go_wp2
    go_ret
    exact ⟨rfl, hD, Chg.refl _ _⟩
  | cons x t =>
    rw [hnx] at hxv hx2
    subst hxv
    rw [List.headD_cons, List.tail_cons]
    obtain ⟨b, off, c', he, hlc, hrow, hbl⟩ : ∃ b off c', Value.slice ao (x :: t).length c = .slice (some ⟨b, off, none⟩) (x :: t).length c' ∧ (x :: t).length ≤ c' ∧ Row w b off (x :: t) ∧ b < w.heap.size := by
      rcases hx2.1 with ⟨h, _⟩ | h
      · cases h
      · exact h
    cases he
    have hc0 : w.cell? ⟨b, off, none⟩ = some (.int .u8 (n8 x)) := hrow 0 (by simp)
    have hdr := Seg.dropsD hx2.1 1 (by simp)
    have hsl : ∀ w, (Instr.slice 22 (.slice (some ⟨b, off, none⟩) (x :: t).length c) (some (.int .i64 1)) none none).run Try.prog w = .ok (.slice (restD (some ⟨b, off, none⟩) c 1) ((x :: t).length - 1) (c - 1)) w := slice_restD (some ⟨b, off, none⟩) (x :: t).length c 1 (by simp)
    have hL1 : (x :: t).length = t.length + 1 := rfl
    have hL2 : (x :: t).length - 1 = t.length := by simp
    rw [hL2] at hdr hsl
    have hdr' : Seg w (.slice (restD (some ⟨b, off, none⟩) c 1) t.length (c - 1)) t := hdr
    have hblk : 0 < t.length → ∀ q, (Value.slice (restD (some ⟨b, off, none⟩) c 1) t.length (c - 1)).ownBlock = some q → ¬ L.U q := fun _ q hq => hx2.2 (Nat.succ_pos _) q (rest_block _ _ _ _ _ _ _ hq)
    have hsa : SegA w L.U (.slice (restD (some ⟨b, off, none⟩) c 1) t.length (c - 1)) t := ⟨hdr', hblk⟩
    generalize restD (some ⟨b, off, none⟩) c 1 = ra at *
    generalize c - 1 = c1 at *
    rw [hL1] at c2 hsl
    have hnz : (0 : Int) < ((t.length + 1 : Nat) : Int) := by omega
    have hnz2 : ((t.length + 1 : Nat) : Int) ≠ 0 := by omega
    have hc1 := (Chg.refl (fun b => b = L.g) w).setCell L.g 2 (.slice ra t.length c1) (fun _ => rfl)
    have hb1 := hx.set 2 (.slice ra t.length c1)
    have hD1 := hD.chgHead hc1 { s with next := t } ⟨rfl, rfl, rfl⟩ _ (hb1.of_eq rfl) (hsa.chg (hc1.weaken (fun _ h => .inl (.inl h))))
    clear hdr hdr' hblk hL1 hL2 hnx
    go_enter Try.func34, Try.ntmps34
    go_wp2
    go_ret
    exact ⟨rfl, hD1, hc1⟩

theorem mayS_eq (s : DS) : mayS s = if s.down then (7, s) else if s.next.headD 0 = 1 then (6, { s with next := s.next.tail }) else if s.next.headD 0 = 2 then (7, { s with next := s.next.tail, down := true }) else (0, { s with next := s.next.tail }) := by
  unfold mayS
  split
  · rfl
  · split
    · rename_i h
      rw [h]
      simp only [List.headD_nil, List.tail_nil]
      have e : ({ s with next := [] } : DS) = s := by rw [← h]
      rw [e]
      rfl
    · rename_i h
      rw [h]
      rfl

set_option maxRecDepth 100000 in
set_option maxHeartbeats 1000000 in
theorem meet_any (L : PLay) (s : DS) (w : World) (hD : PDisk w L s) :
    Calls Try.prog 17 #[.pointer (some ⟨L.g, 0, none⟩)] w fun e w' => e = .returned (.int .i64 (mayS s).1) ∧ PDisk w' L (mayS s).2 ∧ Chg (fun b => b = L.g) w w' := by
  obtain ⟨xv, hx, hx2⟩ := hD.head
  unfold PLay.head at hx
  have c3 := hx.cell (j := 3) rfl
  obtain ⟨R, hR⟩ : ∃ R, R = mayS s := ⟨_, rfl⟩
  rw [← hR]
  rw [mayS_eq] at hR
  have HN : Hid (Calls Try.prog 34 #[.pointer (some ⟨L.g, 0, none⟩)] w fun e w' => e = .returned (.int .u8 (n8 (s.next.headD 0))) ∧ PDisk w' L { s with next := s.next.tail } ∧ Chg (fun b => b = L.g) w w') := next_any L s w hD
  cases hd : s.down with
  | true =>
    rw [hd] at c3 hR
    have HR : Hid (R = (7, s)) := hR
    clear hR hd
    go_enter Try.func17, Try.ntmps17
    go_wp2_with fail
    go_ret
    rw [HR.out]
    exact ⟨rfl, hD, Chg.refl _ _⟩
  | false =>
    rw [hd] at c3 hR
    generalize s.next.headD 0 = x at *
    by_cases h1 : x = 1
    · have HR : Hid (R = (6, { s with next := s.next.tail })) := by show _ = _; rw [hR, h1]; simp [hd]
      subst h1
      clear hR hd
      go_enter Try.func17, Try.ntmps17
      go_wp2_with (go_at_call 34; refine HN.out.mono ?_; rintro e w1 ⟨rfl, hD1, hc1⟩)
      go_ret
      rw [HR.out]
      exact ⟨rfl, hD1, hc1⟩
    by_cases h2 : x = 2
    · have HR : Hid (R = (7, { s with next := s.next.tail, down := true })) := by show _ = _; rw [hR, h2]; rfl
      subst h2
      clear hR hd h1
      go_enter Try.func17, Try.ntmps17
      go_wp2_with (go_at_call 34; refine HN.out.mono ?_; rintro e w1 ⟨rfl, hD1, hc1⟩; obtain ⟨xv1, hx1, hx12⟩ := hD1.head; unfold PLay.head at hx1; have d3 := hx1.cell (j := 3) rfl; have z3 := hx1.frozen 3)
      go_ret
      rw [HR.out]
      have hc2 := (Chg.refl (fun b => b = L.g) w1).setCell L.g 3 (.bool true) (fun _ => rfl)
      exact ⟨rfl, hD1.chgHead hc2 { s with next := s.next.tail, down := true } ⟨rfl, rfl, rfl⟩ xv1 ((hx1.set 3 (.bool true)).of_eq rfl) (hx12.chg (hc2.weaken (fun _ h => .inl (.inl h)))), hc1.trans hc2 (fun _ _ h => h)⟩
    · have HR : Hid (R = (0, { s with next := s.next.tail })) := by show _ = _; rw [hR]; simp [h1, h2, hd]
      have n1 : (n8 x == 1) = false := by
        simp only [beq_eq_false_iff_ne, ne_eq, n8]
        intro h
        exact h1 (UInt8.toNat_inj.1 (show x.toNat = 1 by omega))
      have n2 : (n8 x == 2) = false := by
        simp only [beq_eq_false_iff_ne, ne_eq, n8]
        intro h
        exact h2 (UInt8.toNat_inj.1 (show x.toNat = 2 by omega))
      clear hR hd h1 h2
      go_enter Try.func17, Try.ntmps17
      go_wp2_with (go_at_call 34; refine HN.out.mono ?_; rintro e w1 ⟨rfl, hD1, hc1⟩)
      go_ret
      rw [HR.out]
      exact ⟨rfl, hD1, hc1⟩

/-- Is there a sector of that number? -/
def hasB (n : Nat) (k : Int) : Bool := decide (0 ≤ k) && decide (k < (n : Int))
set_option maxRecDepth 100000 in
theorem has_any (L : PLay) (s : DS) (k : Int) (w : World) (hD : PDisk w L s) :
    Calls Try.prog 16 #[.pointer (some ⟨L.g, 0, none⟩), .int .i64 k] w fun e w' => e = .returned (.bool (hasB L.n k)) ∧ w' = w := by
  obtain ⟨xv, hx, _⟩ := hD.head
  unfold PLay.head at hx
  have c0 := hx.cell (j := 0) rfl
  obtain ⟨B, hB⟩ : ∃ B, B = hasB L.n k := ⟨_, rfl⟩
  rw [← hB]
  unfold hasB at hB
  by_cases h0 : 0 ≤ k
  · by_cases h1 : k < (L.n : Int)
    · have HB : Hid (B = true) := by show _ = _; rw [hB]; simp [h0, h1]
      clear hB
      go_enter Try.func16, Try.ntmps16
      go_wp2
      go_ret
      rw [HB.out]
      exact ⟨rfl, rfl⟩
    · have HB : Hid (B = false) := by show _ = _; rw [hB]; simp [h1]
      clear hB
      go_enter Try.func16, Try.ntmps16
      go_wp2
      go_ret
      rw [HB.out]
      exact ⟨rfl, rfl⟩
  · have HB : Hid (B = false) := by show _ = _; rw [hB]; simp [h0]
    clear hB
    go_enter Try.func16, Try.ntmps16
    go_wp2
    go_ret
    rw [HB.out]
    exact ⟨rfl, rfl⟩
end Go.Proofs.Ytojgeahablphbaa
