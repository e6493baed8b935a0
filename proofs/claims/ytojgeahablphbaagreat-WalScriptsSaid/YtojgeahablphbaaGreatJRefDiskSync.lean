/-
  What is proved here: the document's disk: one cell of a table changed; syncing; which are dirty.
  Conditions: the disk lies in memory.
-/
import Derived.Test.YtojgeahablphbaaGreatJRefDiskWrite
import Derived.StillTailTactics
namespace Go.Proofs.YtojgeahablphbaaGreat
open Go.RowKit

theorem RDisk.setNow {w : World} {L : RLay} {s : DS} (h : RDisk w L s) (k : Nat) (v : Value) (r : List UInt8) (hr : r.length = 128) (hv : SegA w L.U v r) : RDisk (w.setCell ⟨L.bn, k, none⟩ v) L { s with now := s.now.set k r } := by
  obtain ⟨xv, hx, hx2⟩ := h.head
  obtain ⟨nv, hn, hn2⟩ := h.now
  obtain ⟨sv, hs, hs2⟩ := h.sure
  have hc : Chg (fun q => q = L.bn) w (w.setCell ⟨L.bn, k, none⟩ v) := (Chg.refl _ w).setCell L.bn k v (fun _ => rfl)
  have hT : Chg L.T w (w.setCell ⟨L.bn, k, none⟩ v) := hc.weaken (fun _ h => .inr (.inl h))
  exact ⟨⟨by show (s.now.set _ _).length = _; rw [List.length_set]; exact h.ok.now, h.ok.sure, h.ok.dirt, fun q hq => by rcases mem_set' hq with rfl | h2; exact hr; exact h.ok.nows q h2, h.ok.sures⟩, h.lay, ⟨xv, hx.chg hc h.lay.gn, hx2.chgT hT⟩, ⟨nv.set k v, hn.set k v, (hn2.chgT hT).set k v r (hv.chgT hT)⟩, ⟨sv, hs.chg hc (fun e => h.lay.ns e.symm), hs2.chgT hT⟩, h.dirt.chg hc (fun e => h.lay.nd e.symm), fun q hq => Nat.lt_of_lt_of_le (h.av q hq) hc.size⟩
theorem RDisk.setSure {w : World} {L : RLay} {s : DS} (h : RDisk w L s) (k : Nat) (v : Value) (r : List UInt8) (hr : r.length = 128) (hv : SegA w L.U v r) : RDisk (w.setCell ⟨L.bs, k, none⟩ v) L { s with sure := s.sure.set k r } := by
  obtain ⟨xv, hx, hx2⟩ := h.head
  obtain ⟨nv, hn, hn2⟩ := h.now
  obtain ⟨sv, hs, hs2⟩ := h.sure
  have hc : Chg (fun q => q = L.bs) w (w.setCell ⟨L.bs, k, none⟩ v) := (Chg.refl _ w).setCell L.bs k v (fun _ => rfl)
  have hT : Chg L.T w (w.setCell ⟨L.bs, k, none⟩ v) := hc.weaken (fun _ h => .inr (.inr (.inl h)))
  exact ⟨⟨h.ok.now, by show (s.sure.set _ _).length = _; rw [List.length_set]; exact h.ok.sure, h.ok.dirt, h.ok.nows, fun q hq => by rcases mem_set' hq with rfl | h2; exact hr; exact h.ok.sures q h2⟩, h.lay, ⟨xv, hx.chg hc h.lay.gs, hx2.chgT hT⟩, ⟨nv, hn.chg hc h.lay.ns, hn2.chgT hT⟩, ⟨sv.set k v, hs.set k v, (hs2.chgT hT).set k v r (hv.chgT hT)⟩, h.dirt.chg hc (fun e => h.lay.sd e.symm), fun q hq => Nat.lt_of_lt_of_le (h.av q hq) hc.size⟩
theorem RDisk.setDirt {w : World} {L : RLay} {s : DS} (h : RDisk w L s) (k : Nat) (b : Bool) : RDisk (w.setCell ⟨L.bd, k, none⟩ (.bool b)) L { s with dirt := s.dirt.set k b } := by
  obtain ⟨xv, hx, hx2⟩ := h.head
  obtain ⟨nv, hn, hn2⟩ := h.now
  obtain ⟨sv, hs, hs2⟩ := h.sure
  have hc : Chg (fun q => q = L.bd) w (w.setCell ⟨L.bd, k, none⟩ (.bool b)) := (Chg.refl _ w).setCell L.bd k _ (fun _ => rfl)
  have hT : Chg L.T w (w.setCell ⟨L.bd, k, none⟩ (.bool b)) := hc.weaken (fun _ h => .inr (.inr (.inr h)))
  refine ⟨⟨h.ok.now, h.ok.sure, by show (s.dirt.set _ _).length = _; rw [List.length_set]; exact h.ok.dirt, h.ok.nows, h.ok.sures⟩, h.lay, ⟨xv, hx.chg hc h.lay.gd, hx2.chgT hT⟩, ⟨nv, hn.chg hc h.lay.nd, hn2.chgT hT⟩, ⟨sv, hs.chg hc h.lay.sd, hs2.chgT hT⟩, ?_, fun q hq => Nat.lt_of_lt_of_le (h.av q hq) hc.size⟩
  have := h.dirt.set k (.bool b)
  rw [← List.map_set] at this
  exact this
/-- So many are synced. -/
def syncTo (s : DS) (I : Nat) : DS := { s with sure := s.now.take I ++ s.sure.drop I, dirt := List.replicate I false ++ s.dirt.drop I }
theorem syncTo_zero (s : DS) : syncTo s 0 = s := by simp [syncTo]
theorem set_next {α : Type} (a b : List α) (I : Nat) (x : α) (ha : a[I]? = some x) (hb : I < b.length) : (a.take I ++ b.drop I).set I x = a.take (I + 1) ++ b.drop (I + 1) := by
  have hal : I < a.length := (List.getElem?_eq_some_iff.1 ha).1
  have h1 : (a.take I).length = I := by rw [List.length_take]; omega
  rw [List.set_append_right _ _ (by omega), h1, Nat.sub_self, List.drop_eq_getElem_cons hb, List.set_cons_zero, List.take_add_one, ha, List.append_assoc]
  rfl
theorem syncTo_next (s : DS) (n I : Nat) (h : s.ok n) (hI : I < n) : { { syncTo s I with sure := (syncTo s I).sure.set I (s.now.getD I []) } with dirt := (syncTo s I).dirt.set I false } = syncTo s (I + 1) := by
  have h1 := set_next s.now s.sure I (s.now.getD I []) (by rw [List.getD_eq_getElem?_getD, List.getElem?_eq_getElem (by rw [h.now]; exact hI)]; rfl) (by rw [h.sure]; exact hI)
  have h2 := set_next (List.replicate n false) s.dirt I false (by rw [List.getElem?_replicate, if_pos hI]) (by rw [h.dirt]; exact hI)
  rw [List.take_replicate, List.take_replicate, Nat.min_eq_left (by omega), Nat.min_eq_left (by omega)] at h2
  unfold syncTo
  simp only [h1, h2]
theorem syncTo_all (s : DS) (n : Nat) (h : s.ok n) : syncTo s n = syncedS s := by
  unfold syncTo syncedS
  rw [List.take_of_length_le (by rw [h.now]; exact Nat.le_refl _), List.drop_eq_nil_of_le (by rw [h.sure]; exact Nat.le_refl _), List.drop_eq_nil_of_le (by rw [h.dirt]; exact Nat.le_refl _), h.dirt]
  simp

set_option maxRecDepth 100000 in
set_option maxHeartbeats 2000000 in
theorem refSync_any (L : RLay) (s : DS) (w : World) (hD : RDisk w L s) :
    Calls Tryz.prog 42 #[.pointer (some ⟨L.g, 0, none⟩)] w fun e w' => e = .returned (.int .i64 (syncS s).1) ∧ RDisk w' L (syncS s).2 ∧ Chg L.T w w' := by
  have HM : Hid (Calls Tryz.prog 69 #[.pointer (some ⟨L.g, 0, none⟩)] w fun e w' => e = .returned (.int .i64 (mayS s).1) ∧ RDisk w' L (mayS s).2 ∧ Chg (fun b => b = L.g) w w') := refMay_any L s w hD
  obtain ⟨R, hR⟩ : ∃ R, R = syncS s := ⟨_, rfl⟩
  rw [← hR]
  unfold syncS at hR
  generalize mayS s = M at *
  obtain ⟨e1, s1⟩ := M
  by_cases he : e1 ≠ 0
  · have HR : Hid (R = (e1, s1)) := by show _ = _; rw [hR, if_pos he]
    have he' : (e1 == 0) = false := by simpa using he
    clear hR he
    go_enter Tryz.func42, Tryz.ntmps42
    go_wp2_with (go_at_call 69; refine HM.out.mono ?_; rintro e w1 ⟨rfl, hD1, hc1⟩)
    go_ret
    rw [HR.out]
    exact ⟨rfl, hD1, hc1.weaken (fun _ h => .inl h)⟩
  · obtain rfl : e1 = 0 := by omega
    have HR : Hid (R = (0, syncedS s1)) := by show _ = _; rw [hR, if_neg he]
    clear hR he
    go_enter Tryz.func42, Tryz.ntmps42
    go_wp2_with (go_at_call 69; refine HM.out.mono ?_; rintro e w1 ⟨rfl, hD1, hc1⟩)
    go_loopw [4] (fun i wr => ∃ I : Nat, I ≤ L.n ∧ i = .int .i64 (I : Int) ∧ RDisk wr L (syncTo s1 I) ∧ Chg L.T w1 wr) (fun i _ => L.n - (intOf i).toNat)
    case atStart => exact ⟨0, Nat.zero_le _, rfl, by rw [syncTo_zero]; exact hD1, Chg.refl _ _⟩
    case round =>
      obtain ⟨I, hI, rfl, hDi, hCi⟩ := hrel
      obtain ⟨xv, hh, _⟩ := hDi.head
      unfold RLay.head at hh
      have c0 := hh.cell (j := 0) rfl
      by_cases hlt : I < L.n
      · have i1 : (I : Int) < (L.n : Int) := by omega
        obtain ⟨nv, hn, hn2⟩ := hDi.now
        obtain ⟨sv, hs, hs2⟩ := hDi.sure
        obtain ⟨v, hv, hv2⟩ := hn2.at (k := I) (by rw [hDi.ok.now]; exact hlt)
        obtain ⟨u, hu, _⟩ := hs2.at (k := I) (by rw [hDi.ok.sure]; exact hlt)
        have hdl : I < ((syncTo s1 I).dirt.map Value.bool).length := by rw [List.length_map, hDi.ok.dirt]; exact hlt
        have c1 := hh.cell (j := 1) rfl
        have dn := hn.cell hv
        have ds := hs.cell hu
        have fs := hs.frozen I
        have hr1 := getD_len hDi.ok.nows (k := I) (by rw [hDi.ok.now]; exact hlt)
        obtain ⟨av, cv, rfl⟩ := Seg.shapeD hv2.1
        have hD2 := hDi.setSure I _ _ hr1 hv2
        obtain ⟨xv2, hh2, _⟩ := hD2.head
        unfold RLay.head at hh2
        have c2 := hh2.cell (j := 2) rfl
        have dd := hD2.dirt.cell (List.getElem?_eq_getElem (show I < (List.map Value.bool _).length from hdl))
        have fd := hD2.dirt.frozen I
        rw [hr1] at *
        have hD3 := hD2.setDirt I false
        have HN : Hid ({ { syncTo s1 I with sure := (syncTo s1 I).sure.set I (s1.now.getD I []) } with dirt := (syncTo s1 I).dirt.set I false } = syncTo s1 (I + 1)) := syncTo_next s1 L.n I hD1.ok hlt
        have hmx := hD1.lay.max
        have hD4 : RDisk _ L (syncTo s1 (I + 1)) := (HN.out ▸ hD3).after ((Below.refl _ _).drew)
        have hC4 := ((hCi.setCell L.bs I (.slice av 128 cv) (fun _ => .inr (.inr (.inl rfl)))).setCell L.bd I (.bool false) (fun _ => .inr (.inr (.inr rfl)))).drew
        clear hs hs2 hn hn2 hh hh2 hDi hD2 hu
        go_wp2
        go_still_tail 12, (by kernel_rfl)
        go_wp2_with fail
        go_roundw
        case rel => exact ⟨I + 1, hlt, by go_num, hD4, hC4⟩
        case measure => simp [intOf]; omega
      · have i1 : ¬ (I : Int) < (L.n : Int) := by omega
        have HE : Hid (I = L.n) := by show _ = _; omega
        go_wp2
        go_ret
        rw [HR.out, ← syncTo_all s1 L.n hD1.ok, ← HE.out]
        exact ⟨rfl, hDi, (hc1.weaken (fun _ h => .inl h)).trans (S' := L.T) hCi (fun _ _ h => h)⟩
end Go.Proofs.YtojgeahablphbaaGreat
