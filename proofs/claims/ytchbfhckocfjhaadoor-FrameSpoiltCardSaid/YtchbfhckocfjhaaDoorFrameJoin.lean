/-
  What is proved here: two readers side by side, and slices of slices that are put one behind the other.
  Conditions: those that each fact names.
-/
import Derived.Test.YtchbfhckocfjhaaDoorFrameSame
namespace Go.Proofs.YtchbfhckocfjhaaDoor
open Go.RowKit

theorem Off.goes {w : World} {lo : Nat} {v hv hv' : Value} {bs : List UInt8} (h : Off v hv) (ho : Own w lo v bs) (hg : Goes w hv hv') : Off v hv' := fun k hk hk' => by
  rcases hg k hk' with h2 | h2
  · exact h k hk h2
  · have := (ho.blocks k hk).2; omega
theorem Off.nil (v : Value) : Off v (.slice none 0 0) := fun k _ e => by simp [Value.ownBlock] at e
theorem Off.of_nil (v : Value) : Off (.slice none 0 0) v := fun k e _ => by simp [Value.ownBlock] at e
theorem Off.row {w : World} {lo n : Nat} {e : TypeId} {v gv gv' : Value} {vs : List Value} (h : Off v gv) (hr : w.ownsRow lo e 1 v n vs) (hg : gv'.ownBlock = gv.ownBlock ∨ gv'.ownBlock = some w.heap.size) : Off v gv' := fun k hk hk' => by
  rcases hg with h2 | h2
  · rw [h2] at hk'; exact h k hk hk'
  · rw [h2] at hk'
    have := Option.some.inj hk'
    have := (row_blocks hr k hk).2
    omega
theorem Rd.row {t : TypeId} {w w' : World} {lo lo' g n : Nat} {hv tv : Value} {held : List UInt8} {sp : Bool} {vs : List Value} (h : Rd t w lo g hv held sp) (hr : w.ownsRow lo' 22 1 tv n vs) (hg : w.grownBy w' tv.ownBlock) (ht : t ≠ 22) : Rd t w' lo g hv held sp :=
  h.chg (Chg.of_grown hg (S := fun q => tv.ownBlock = some q) (fun q hq => hq)) (fun q hq e => by
    rcases hq with rfl | hq
    · exact row_blk hr h.blk ht e
    · exact rows_apart hr h.own q e hq)
theorem Rd.alloc {t : TypeId} {w : World} {lo g : Nat} {hv : Value} {held : List UInt8} {sp : Bool} (h : Rd t w lo g hv held sp) (o : Obj) : Rd t (w.alloc o) lo g hv held sp := h.chg (S := fun _ => False) ((Chg.refl _ _).alloc o) (fun _ _ h => h)
theorem Rd.beside {t t' : TypeId} {w w' : World} {lo lo' g g' : Nat} {hv hv' : Value} {held held' : List UInt8} {sp sp' : Bool} (h : Rd t w lo g hv held sp) (h' : Rd t' w lo' g' hv' held' sp') (hne : g ≠ g') (hoff : Off hv hv') (ht : t ≠ 5) (ht' : t' ≠ 5) (hc : Chg (Touch g' hv') w w') : Rd t w' lo g hv held sp :=
  h.chg hc (fun q hq e => by
    rcases hq with rfl | hq
    · rcases e with rfl | e
      · exact hne rfl
      · exact h.blk.not_row ht h'.own e
    · rcases e with rfl | e
      · exact h'.blk.not_row ht' h.own hq
      · exact hoff q hq e)
theorem Told.grown {w w' : World} {lo lo' n : Nat} {tv hv gv : Value} {vs ws : List Value} {L : List (List UInt8)} (h : Told w lo tv hv vs L) (hr : w.ownsRow lo' 22 1 gv n ws) (hg : w.grownBy w' gv.ownBlock) (hoff : Off tv gv) : Told w' lo tv hv vs L := by
  have hc : Chg (fun k => gv.ownBlock = some k) w w' := Chg.of_grown hg (fun k hk => hk)
  exact ⟨row_chg h.row hc (fun k hk e => hoff k hk e), h.len, fun j v b h1 h2 => ⟨(h.each j v b h1 h2).1.chg hc (fun k hk e => rows_apart hr (h.each j v b h1 h2).1 k e hk), (h.each j v b h1 h2).2⟩⟩
theorem Told.mono {w : World} {lo lo' : Nat} {tv hv : Value} {vs : List Value} {L : List (List UInt8)} (h : Told w lo tv hv vs L) (hl : lo' ≤ lo) : Told w lo' tv hv vs L := by
  refine ⟨⟨h.row.1, ?_⟩, h.len, fun j v b h1 h2 => ⟨(h.each j v b h1 h2).1.mono hl, (h.each j v b h1 h2).2⟩⟩
  rcases h.row.2 with h2 | ⟨g, cap, cur, h1, h2, h3⟩
  · exact .inl h2
  · exact .inr ⟨g, cap, cur, h1, Nat.le_trans hl h2, h3⟩
/-- What was told as seen beside a reader that has no slice yet. -/
theorem Told.beside {w : World} {lo : Nat} {tv hv : Value} {vs : List Value} {L : List (List UInt8)} (h : Told w lo tv hv vs L) : Told w lo tv (.slice none 0 0) vs L :=
  ⟨h.row, h.len, fun j v b h1 h2 => ⟨(h.each j v b h1 h2).1, Off.nil _⟩⟩
theorem Told.join {w w' : World} {lo : Nat} {tv tv2 tv' hv : Value} {vs vs2 : List Value} {L L2 : List (List UInt8)} (h : Told w lo tv hv vs L) (h2 : Told w lo tv2 hv vs2 L2) (hr : w'.ownsRow lo 22 1 tv' (vs ++ vs2).length (vs ++ vs2)) (hg : w.grownBy w' tv.ownBlock) : Told w' lo tv' hv (vs ++ vs2) (L ++ L2) := by
  have hc : Chg (fun k => tv.ownBlock = some k) w w' := Chg.of_grown hg (fun k hk => hk)
  refine ⟨hr, by simp [h.len, h2.len], fun j v b hv1 hb1 => ?_⟩
  by_cases hj : j < vs.length
  · rw [List.getElem?_append_left hj] at hv1
    rw [List.getElem?_append_left (by rw [← h.len]; exact hj)] at hb1
    obtain ⟨ho, hoff'⟩ := h.each j v b hv1 hb1
    exact ⟨ho.chg hc (fun k hk hS => rows_apart h.row ho k hS hk), hoff'⟩
  · rw [List.getElem?_append_right (by omega)] at hv1
    rw [List.getElem?_append_right (by rw [← h.len]; omega), ← h.len] at hb1
    obtain ⟨ho, hoff'⟩ := h2.each _ v b hv1 hb1
    exact ⟨ho.chg hc (fun k hk hS => rows_apart h.row ho k hS hk), hoff'⟩
theorem Told.ones {w : World} {lo : Nat} {tv hv : Value} {vs : List Value} {L : List (List UInt8)} (h : Told w lo tv hv vs L) : ∀ u ∈ vs, u.oneCell' = true := fun u hu => by
  obtain ⟨j, hj, rfl⟩ := List.mem_iff_getElem.1 hu
  have hL : j < L.length := by rw [← h.len]; exact hj
  exact own_one (h.each j vs[j] L[j] (List.getElem?_eq_getElem hj) (List.getElem?_eq_getElem hL)).1
/-- How many frames may come of bytes. -/
theorem fstep_len (s : FS) (x : UInt8) : (fstep s x).told.length + (fstep s x).bad ≤ s.told.length + s.bad + 1 := by
  unfold fstep
  split
  · unfold fend
    split
    · omega
    · split
      · simp; omega
      · simp; omega
  · unfold fhold
    split <;> simp
theorem feedS_len (bs : List UInt8) : ∀ (s : FS), (feedS s bs).told.length + (feedS s bs).bad ≤ s.told.length + s.bad + bs.length := by
  induction bs with
  | nil => intro s; simp [feedS]
  | cons x t ih =>
    intro s
    have h1 := ih (fstep s x)
    have h2 := fstep_len s x
    have e : feedS s (x :: t) = feedS (fstep s x) t := rfl
    rw [e]
    simp only [List.length_cons]
    omega
end Go.Proofs.YtchbfhckocfjhaaDoor
