/-
  What is proved here: the document's disk: one cell of a table changed; syncing; which are dirty.
  Conditions: the disk lies in memory.
-/
import Derived.Test.YtojgeahablphbaaJRefDiskWrite
import Derived.StillTailTactics
namespace Go.Proofs.Ytojgeahablphbaa
open Go.RowKit

theorem RDisk.setNow {w : World} {L : RLay} {s : DS} (h : RDisk w L s) (k : Nat) (v : Value) (r : List UInt8) (hr : r.length = 128) (hv : SegA w L.U v r) : RDisk (w.setCell ⟨L.bn, k, none⟩ v) L { s with now := s.now.set k r } := by
  obtain ⟨xv, hx, hx2⟩ := h.head
  obtain ⟨nv, hn, hn2⟩ := h.now
  obtain ⟨sv, hs, hs2⟩ := h.sure
  have hc : Chg (fun q => q = L.bn) w (w.setCell ⟨L.bn, k, none⟩ v) := (Chg.refl _ w).setCell L.bn k v (fun _ => rfl)
  have hT : Chg L.T w (w.setCell ⟨L.bn, k, none⟩ v) := hc.weaken (fun _ h => .inr (.inl h))
  exact ⟨⟨by show (s.now.set _ _).length = _; rw [List.length_set]; exact h.ok.now, h.ok.sure, h.ok.dirt, fun q hq => by rcases mem_set' hq with rfl | h2; exact hr; exact h.ok.nows q h2, h.ok.sures⟩, h.lay, ⟨xv, hx.chg hc h.lay.gn, hx2.chgT hT⟩, ⟨nv.set k v, hn.set k v, (hn2.chgT hT).set k v r (hv.chgT hT)⟩, ⟨sv, hs.chg hc (fun e => h.lay.ns e.symm), hs2.chgT hT⟩, h.dirt.chg hc (fun e => h.lay.nd e.symm), fun q hq => Nat.lt_of_lt_of_le (h.av q hq) hc.size⟩
theorem RDisk.setSure {w : World} {L : RLay} {s : DS} (h : RDisk w L s) (k : Nat) (v : Value) (r : List UInt8) (hr : r.length = 128) (hv : SegA w L.U v r) : RDisk (w.setCell ⟨L.bs, k, none⟩ v) L { s with sure := s.sure.set k r } := by
  obtain ⟨xv, hx, hx2⟩ := h.head
  obtain ⟨nv, hn, hn2⟩ := h.now
  obtain ⟨sv, hs, hs2⟩ := h.sure
  have hc : Chg (fun q => q = L.bs) w (w.setCell ⟨L.bs, k, none⟩ v) := (Chg.refl _ w).setCell L.bs k v (fun _ => rfl)
  have hT : Chg L.T w (w.setCell ⟨L.bs, k, none⟩ v) := hc.weaken (fun _ h => .inr (.inr (.inl h)))
  exact ⟨⟨h.ok.now, by show (s.sure.set _ _).length = _; rw [List.length_set]; exact h.ok.sure, h.ok.dirt, h.ok.nows, fun q hq => by rcases mem_set' hq with rfl | h2; exact hr; exact h.ok.sures q h2⟩, h.lay, ⟨xv, hx.chg hc h.lay.gs, hx2.chgT hT⟩, ⟨nv, hn.chg hc h.lay.ns, hn2.chgT hT⟩, ⟨sv.set k v, hs.set k v, (hs2.chgT hT).set k v r (hv.chgT hT)⟩, h.dirt.chg hc (fun e => h.lay.sd e.symm), fun q hq => Nat.lt_of_lt_of_le (h.av q hq) hc.size⟩
theorem RDisk.setDirt {w : World} {L : RLay} {s : DS} (h : RDisk w L s) (k : Nat) (b : Bool) : RDisk (w.setCell ⟨L.bd, k, none⟩ (.bool b)) L { s with dirt := s.dirt.set k b } := by
  obtain ⟨xv, hx, hx2⟩ := h.head
  obtain ⟨nv, hn, hn2⟩ := h.now
  obtain ⟨sv, hs, hs2⟩ := h.sure
  have hc : Chg (fun q => q = L.bd) w (w.setCell ⟨L.bd, k, none⟩ (.bool b)) := (Chg.refl _ w).setCell L.bd k _ (fun _ => rfl)
  have hT : Chg L.T w (w.setCell ⟨L.bd, k, none⟩ (.bool b)) := hc.weaken (fun _ h => .inr (.inr (.inr h)))
  refine ⟨⟨h.ok.now, h.ok.sure, by show (s.dirt.set _ _).length = _; rw [List.length_set]; exact h.ok.dirt, h.ok.nows, h.ok.sures⟩, h.lay, ⟨xv, hx.chg hc h.lay.gd, hx2.chgT hT⟩, ⟨nv, hn.chg hc h.lay.nd, hn2.chgT hT⟩, ⟨sv, hs.chg hc h.lay.sd, hs2.chgT hT⟩, ?_, fun q hq => Nat.lt_of_lt_of_le (h.av q hq) hc.size⟩
  have := h.dirt.set k (.bool b)
  rw [← List.map_set] at this
  exact this
/-- So many are synced. -/
def syncTo (s : DS) (I : Nat) : DS := { s with sure := s.now.take I ++ s.sure.drop I, dirt := List.replicate I false ++ s.dirt.drop I }
theorem syncTo_zero (s : DS) : syncTo s 0 = s := by simp [syncTo]
theorem set_next {α : Type} (a b : List α) (I : Nat) (x : α) (ha : a[I]? = some x) (hb : I < b.length) : (a.take I ++ b.drop I).set I x = a.take (I + 1) ++ b.drop (I + 1) := by
  have hal : I < a.length := (List.getElem?_eq_some_iff.1 ha).1
  have h1 : (a.take I).length = I := by rw [List.length_take]; omega
  rw [List.set_append_right _ _ (by omega), h1, Nat.sub_self, List.drop_eq_getElem_cons hb, List.set_cons_zero, List.take_add_one, ha, List.append_assoc]
  rfl
theorem syncTo_next (s : DS) (n I : Nat) (h : s.ok n) (hI : I < n) : { { syncTo s I with sure := (syncTo s I).sure.set I (s.now.getD I []) } with dirt := (syncTo s I).dirt.set I false } = syncTo s (I + 1) := by
  have h1 := set_next s.now s.sure I (s.now.getD I []) (by rw [List.getD_eq_getElem?_getD, List.getElem?_eq_getElem (by rw [h.now]; exact hI)]; rfl) (by rw [h.sure]; exact hI)
  have h2 := set_next (List.replicate n false) s.dirt I false (by rw [List.getElem?_replicate, if_pos hI]) (by rw [h.dirt]; exact hI)
  rw [List.take_replicate, List.take_replicate, Nat.min_eq_left (by omega), Nat.min_eq_left (by omega)] at h2
  unfold syncTo
  simp only [h1, h2]
theorem syncTo_all (s : DS) (n : Nat) (h : s.ok n) : syncTo s n = syncedS s := by
  unfold syncTo syncedS
  rw [List.take_of_length_le (by rw [h.now]; exact Nat.le_refl _), List.drop_eq_nil_of_le (by rw [h.sure]; exact Nat.le_refl _), List.drop_eq_nil_of_le (by rw [h.dirt]; exact Nat.le_refl _), h.dirt]
  simp


end Go.Proofs.Ytojgeahablphbaa
