/-
  What is proved here: the document's disk: planning, and what a change meets.
  Conditions: the disk lies in memory.
-/
import Derived.Test.YtojgeahablphbaaJRefDisk
namespace Go.Proofs.Ytojgeahablphbaa
open Go.RowKit

theorem RDisk.chgHead {w w' : World} {L : RLay} {s : DS} (h : RDisk w L s) (hc : Chg (fun b => b = L.g) w w') (t : DS) (he : t.now = s.now ∧ t.sure = s.sure ∧ t.dirt = s.dirt) (xv : Value) (hb : Blk w' L.g 55 (L.head xv t.down)) (hx : SegA w' L.U xv t.next) : RDisk w' L t := by
  have hT : Chg L.T w w' := hc.weaken (fun _ h => .inl h)
  obtain ⟨nv, hn, hn2⟩ := h.now
  obtain ⟨sv, hs, hs2⟩ := h.sure
  obtain ⟨e1, e2, e3⟩ := he
  exact ⟨⟨by rw [e1]; exact h.ok.now, by rw [e2]; exact h.ok.sure, by rw [e3]; exact h.ok.dirt, by rw [e1]; exact h.ok.nows, by rw [e2]; exact h.ok.sures⟩, h.lay, ⟨xv, hb, hx⟩, ⟨nv, hn.chg hc (fun e => h.lay.gn e.symm), by rw [e1]; exact hn2.chgT hT⟩, ⟨sv, hs.chg hc (fun e => h.lay.gs e.symm), by rw [e2]; exact hs2.chgT hT⟩, by rw [e3]; exact h.dirt.chg hc (fun e => h.lay.gd e.symm), fun q hq => Nat.lt_of_lt_of_le (h.av q hq) hc.size⟩



set_option maxRecDepth 100000 in
set_option maxHeartbeats 1000000 in
theorem refMay_any (L : RLay) (s : DS) (w : World) (hD : RDisk w L s) :
    Calls Try.prog 18 #[.pointer (some ⟨L.g, 0, none⟩)] w fun e w' => e = .returned (.int .i64 (mayS s).1) ∧ RDisk w' L (mayS s).2 ∧ Chg (fun b => b = L.g) w w' := by
  obtain ⟨xv, hx, hx2⟩ := hD.head
  have hx' := hx
  unfold RLay.head at hx
  have c3 := hx.cell (j := 3) rfl
  have c4 := hx.cell (j := 4) rfl
  have z3 := hx.frozen 3
  have z4 := hx.frozen 4
  obtain ⟨R, hR⟩ : ∃ R, R = mayS s := ⟨_, rfl⟩
  rw [← hR]
  unfold mayS at hR
  cases hd : s.down with
  | true =>
    rw [hd] at c4 hR
    have HR : Hid (R = (7, s)) := hR
    clear hR hd
    go_enter Try.func18, Try.ntmps18
    go_wp2
    go_ret
    rw [HR.out]
    exact ⟨rfl, hD, Chg.refl _ _⟩
  | false =>
    rw [hd] at c4 hR
    obtain ⟨ao, c, hxv⟩ := Seg.shapeD hx2.1
    cases hnx : s.next with
    | nil =>
      rw [hnx] at hR hxv hx2
      have HR : Hid (R = (0, s)) := hR
      subst hxv
      have hz : ([] : List UInt8).length = 0 := rfl
      rw [hz] at *
      clear hR hd hnx
      go_enter Try.func18, Try.ntmps18
      go_wp2
      go_ret
      rw [HR.out]
      exact ⟨rfl, hD, Chg.refl _ _⟩
    | cons x t =>
      rw [hnx] at hR hxv hx2
      subst hxv
      obtain ⟨b, off, c', he, hlc, hrow, hbl⟩ : ∃ b off c', Value.slice ao (x :: t).length c = .slice (some ⟨b, off, none⟩) (x :: t).length c' ∧ (x :: t).length ≤ c' ∧ Row w b off (x :: t) ∧ b < w.heap.size := by
        rcases hx2.1 with ⟨h, _⟩ | h
        · cases h
        · exact h
      cases he
      have hc0 : w.cell? ⟨b, off, none⟩ = some (.int .u8 (n8 x)) := hrow 0 (by simp)
      have hdr := Seg.dropsD hx2.1 1 (by simp)
      have hsl : ∀ w, (Instr.slice 22 (.slice (some ⟨b, off, none⟩) (x :: t).length c) (some (.int .i64 1)) none none).run Try.prog w = .ok (.slice (restD (some ⟨b, off, none⟩) c 1) ((x :: t).length - 1) (c - 1)) w := slice_restD (some ⟨b, off, none⟩) (x :: t).length c 1 (by simp)
      have hL1 : (x :: t).length = t.length + 1 := rfl
      have hL2 : (x :: t).length - 1 = t.length := by simp
      rw [hL2] at hdr hsl
      have hdr' : Seg w (.slice (restD (some ⟨b, off, none⟩) c 1) t.length (c - 1)) t := hdr
      have hblk : 0 < t.length → ∀ q, (Value.slice (restD (some ⟨b, off, none⟩) c 1) t.length (c - 1)).ownBlock = some q → ¬ L.U q := fun _ q hq => hx2.2 (Nat.succ_pos _) q (rest_block _ _ _ _ _ _ _ hq)
      have hsa : SegA w L.U (.slice (restD (some ⟨b, off, none⟩) c 1) t.length (c - 1)) t := ⟨hdr', hblk⟩
      generalize restD (some ⟨b, off, none⟩) c 1 = ra at *
      generalize c - 1 = c1 at *
      rw [hL1] at c3 hsl
      have hnz : (0 : Int) < ((t.length + 1 : Nat) : Int) := by omega
      have hnz2 : ((t.length + 1 : Nat) : Int) ≠ 0 := by omega
      clear hdr hdr' hblk hL1 hL2
      have hst : ∀ (W : World) (d : Bool), Chg (fun b => b = L.g) w W → Blk W L.g 55 (L.head (.slice ra t.length c1) d) → RDisk W L { s with next := t, down := d } := fun W d hc hb => hD.chgHead hc { s with next := t, down := d } ⟨rfl, rfl, rfl⟩ _ hb (hsa.chg (hc.weaken (fun _ h => .inl (.inl h))))
      have hc1 := (Chg.refl (fun b => b = L.g) w).setCell L.g 3 (.slice ra t.length c1) (fun _ => rfl)
      have hb1 := hx.set 3 (.slice ra t.length c1)
      have c4' := hb1.cell (j := 4) rfl
      have z4' := hb1.frozen 4
      have hs0 : ({ s with next := t } : DS) = { s with next := t, down := false } := by rw [← hd]
      by_cases h1 : x = 1
      · have HR : Hid (R = (6, { s with next := t, down := false })) := by show _ = _; rw [hR, h1, ← hs0]; simp [hd]
        subst h1
        have hD1 := hst _ false hc1 (hb1.of_eq (by rw [hd]; rfl))
        clear hR hd hnx hst hs0
        go_enter Try.func18, Try.ntmps18
        go_wp2
        go_ret
        rw [HR.out]
        exact ⟨rfl, hD1, hc1⟩
      by_cases h2 : x = 2
      · have HR : Hid (R = (7, { s with next := t, down := true })) := by show _ = _; rw [hR, h2]; rfl
        subst h2
        have hD1 := hst _ true (hc1.setCell L.g 4 (.bool true) (fun _ => rfl)) ((hb1.set 4 (.bool true)).of_eq (by rfl))
        clear hR hd hnx hst hs0 h1
        go_enter Try.func18, Try.ntmps18
        go_wp2
        go_ret
        rw [HR.out]
        exact ⟨rfl, hD1, hc1.setCell L.g 4 (.bool true) (fun _ => rfl)⟩
      · have HR : Hid (R = (0, { s with next := t, down := false })) := by show _ = _; rw [hR, ← hs0]; simp [h1, h2, hd]
        have n1 : (n8 x == 1) = false := by
          simp only [beq_eq_false_iff_ne, ne_eq, n8]
          intro h
          exact h1 (UInt8.toNat_inj.1 (show x.toNat = 1 by omega))
        have n2 : (n8 x == 2) = false := by
          simp only [beq_eq_false_iff_ne, ne_eq, n8]
          intro h
          exact h2 (UInt8.toNat_inj.1 (show x.toNat = 2 by omega))
        have hD1 := hst _ false hc1 (hb1.of_eq (by rw [hd]; rfl))
        clear hR hd hnx hst hs0 h1 h2
        go_enter Try.func18, Try.ntmps18
        go_wp2
        go_ret
        rw [HR.out]
        exact ⟨rfl, hD1, hc1⟩
end Go.Proofs.Ytojgeahablphbaa
