/-
  What is proved here: what a frame's reader does with a byte, and with a frame's end.
  Conditions: those that each fact names.
-/
import Derived.Test.YtchbfhckocfjhaaDoorFrameTaken
namespace Go.Proofs.YtchbfhckocfjhaaDoor
open Go.RowKit

/-- Of the blocks that were there, none but such have changed. -/
def Chg (S : Nat → Prop) (w w' : World) : Prop := Below 0 w w' ∧ ∀ k, k < w.heap.size → ¬ S k → w'.heap[k]? = w.heap[k]?
theorem Chg.size {S : Nat → Prop} {w w' : World} (h : Chg S w w') : w.heap.size ≤ w'.heap.size := h.1.size
theorem Chg.refl (S : Nat → Prop) (w : World) : Chg S w w := ⟨Below.refl _ _, fun _ _ _ => rfl⟩
theorem Chg.trans {S S' : Nat → Prop} {w w' w'' : World} (h : Chg S w w') (h' : Chg S' w' w'') (hS : ∀ k, k < w.heap.size → S' k → S k) : Chg S w w'' :=
  ⟨h.1.trans h'.1, fun k hk hn => (h'.2 k (Nat.lt_of_lt_of_le hk h.size) (fun e => hn (hS k hk e))).trans (h.2 k hk hn)⟩
theorem Chg.of_below {S : Nat → Prop} {B : Nat} {w w' : World} (h : Below B w w') (hB : w.heap.size ≤ B) : Chg S w w' :=
  ⟨h.mono (Nat.zero_le _), fun k hk _ => h.block k (Nat.lt_of_lt_of_le hk hB)⟩
theorem Chg.of_grown {S : Nat → Prop} {w w' : World} {row : Option Nat} (h : w.grownBy w' row) (hS : ∀ k, row = some k → S k) : Chg S w w' :=
  ⟨below_grown (Below.refl 0 w) h (Nat.zero_le _) (fun _ _ => Nat.zero_le _), fun k hk hn => h.block k hk (fun e => hn (hS k e.symm))⟩
theorem Chg.alloc {S : Nat → Prop} {w w' : World} (h : Chg S w w') (o : Obj) : Chg S w (w'.alloc o) :=
  h.trans (S' := S) (Chg.of_below ((Below.refl w'.heap.size w').alloc (Nat.le_refl _) o) (Nat.le_refl _)) (fun _ _ h => h)
theorem Chg.setCell {S : Nat → Prop} {w w' : World} (h : Chg S w w') (g i : Nat) (v : Value) (hS : g < w.heap.size → S g) : Chg S w (w'.setCell ⟨g, i, none⟩ v) :=
  h.trans (S' := fun k => k = g) ⟨(Below.refl 0 w').setCell (p := ⟨g, i, none⟩) (Nat.zero_le _) v, fun k _ hn => Below.heap_setCell w' ⟨g, i, none⟩ v k hn⟩ (fun k hk e => by subst e; exact hS hk)
theorem Chg.below {S : Nat → Prop} {B : Nat} {w w' : World} (h : Chg S w w') (hS : ∀ k, S k → B ≤ k) (hB : B ≤ w.heap.size) : Below B w w' :=
  ⟨h.1.os, h.1.tape, h.1.output, h.1.size, fun k hk => h.2 k (Nat.lt_of_lt_of_le hk hB) (fun e => by have := hS k e; omega)⟩
theorem Own.chg {S : Nat → Prop} {w w' : World} {lo : Nat} {v : Value} {bs : List UInt8} (h : Own w lo v bs) (hc : Chg S w w') (hv : ∀ k, v.ownBlock = some k → ¬ S k) : Own w' lo v bs := by
  refine ⟨h.1, ?_⟩
  rcases h.2 with h2 | ⟨g, cap, cur, h1, h2, h3, h4⟩
  · exact .inl h2
  · exact .inr ⟨g, cap, cur, h1, h2, by rw [hc.2 g (Array.getElem?_eq_some_iff.1 h3).1 (hv g (by rw [h1]; rfl))]; exact h3, h4⟩
theorem Seg.chg {S : Nat → Prop} {w w' : World} {v : Value} {bs : List UInt8} (h : Seg w v bs) (hc : Chg S w w') (hv : 0 < bs.length → ∀ k, v.ownBlock = some k → ¬ S k) : Seg w' v bs := by
  rcases h with h | ⟨b, off, c, h1, h2, h3, h4⟩
  · exact .inl h
  · refine .inr ⟨b, off, c, h1, h2, fun j hj => ?_, Nat.lt_of_lt_of_le h4 hc.size⟩
    rw [World.cell?_of_block (w := w) (a := ⟨b, off + j, none⟩) (hc.2 b h4 (hv (by omega) b (by rw [h1]; rfl)))]
    exact h3 j hj
theorem Blk.chg {S : Nat → Prop} {w w' : World} {g : Nat} {t : TypeId} {arr : Array Value} (h : Blk w g t arr) (hc : Chg S w w') (hg : ¬ S g) : Blk w' g t arr := by
  unfold Blk; rw [hc.2 g h.lt hg]; exact h
theorem Tab.chg {S : Nat → Prop} {w w' : World} {g : Nat} {vs : List Value} (h : Tab w g vs) (hc : Chg S w w') (hl : g < w.heap.size) (hg : ¬ S g) : Tab w' g vs := fun j v hv => by
  rw [World.cell?_of_block (w := w) (a := ⟨g, j, none⟩) (hc.2 g hl hg)]; exact h j v hv
/-- A slice's own row is not a block of another type. -/
theorem Blk.not_row {w : World} {g lo : Nat} {t : TypeId} {arr : Array Value} {v : Value} {bs : List UInt8} (h : Blk w g t arr) (ht : t ≠ 5) (hO : Own w lo v bs) : v.ownBlock ≠ some g := by
  rcases hO.2 with ⟨rfl, _⟩ | ⟨b, cap, cur, rfl, _, hgb, _⟩
  · simp [Value.ownBlock]
  · intro e'
    obtain rfl : b = g := by simpa [Value.ownBlock] using e'
    have := (show w.heap[b]? = _ from h).symm.trans hgb
    simp at this
    exact ht this.2

/-- A reader lies in a block: a slice of its own, with what is held, and whether the frame is spoilt. -/
structure Rd (t : TypeId) (w : World) (lo g : Nat) (hv : Value) (held : List UInt8) (sp : Bool) : Prop where
  blk : Blk w g t #[hv, .bool sp]
  own : Own w lo hv held
  low : lo ≤ g
/-- The blocks that a reader may write. -/
def Touch (g : Nat) (hv : Value) (k : Nat) : Prop := k = g ∨ hv.ownBlock = some k
/-- Where a reader's slice may go. -/
def Goes (w : World) (hv hv' : Value) : Prop := ∀ k, hv'.ownBlock = some k → hv.ownBlock = some k ∨ w.heap.size ≤ k
theorem Goes.refl (w : World) (hv : Value) : Goes w hv hv := fun _ h => .inl h
theorem Goes.trans {w w' : World} {h1 h2 h3 : Value} (a : Goes w h1 h2) (b : Goes w' h2 h3) (hw : w.heap.size ≤ w'.heap.size) : Goes w h1 h3 := fun k hk => by
  rcases b k hk with h | h
  · exact a k h
  · exact .inr (Nat.le_trans hw h)
theorem Touch.goes {w : World} {g : Nat} {hv hv' : Value} (h : Goes w hv hv') : ∀ k, k < w.heap.size → Touch g hv' k → Touch g hv k := fun k hk ht => by
  rcases ht with rfl | ht
  · exact .inl rfl
  · rcases h k ht with h | h
    · exact .inr h
    · omega
theorem Rd.touch {t : TypeId} {w : World} {lo g : Nat} {hv : Value} {held : List UInt8} {sp : Bool} (h : Rd t w lo g hv held sp) : ∀ k, Touch g hv k → lo ≤ k := fun k hk => by
  rcases hk with rfl | hk
  · exact h.low
  · exact (h.own.blocks k hk).1

set_option maxRecDepth 100000 in
set_option maxHeartbeats 1000000 in
theorem held_any (lo g : Nat) (hv : Value) (held : List UInt8) (sp : Bool) (w : World) (h : Rd 45 w lo g hv held sp) :
    Calls Tryd.prog 14 #[.pointer (some ⟨g, 0, none⟩)] w fun e w' => e = .returned (.int .i64 (held.length : Int)) ∧ w' = w := by
  obtain ⟨a, c, rfl⟩ := h.own.seg.shapeF
  have c0 := h.blk.cell (j := 0) rfl
  go_enter Tryd.func14, Tryd.ntmps14
  go_wp2
  go_ret
  exact ⟨rfl, rfl⟩

set_option maxRecDepth 100000 in
set_option maxHeartbeats 1000000 in
theorem hold_any (lo g : Nat) (hv : Value) (held : List UInt8) (sp : Bool) (x : UInt8) (w : World) (h : Rd 45 w lo g hv held sp) (hl : held.length ≤ 2100) (hlo : lo ≤ w.heap.size) :
    Calls Tryd.prog 19 #[.pointer (some ⟨g, 0, none⟩), .int .u8 (n8 x)] w fun e w' => (∃ v, e = .returned v) ∧ ∃ hv', Rd 45 w' lo g hv' (fhold ⟨held, sp, [], 0⟩ x).held (fhold ⟨held, sp, [], 0⟩ x).sp ∧ Chg (Touch g hv) w w' ∧ Goes w hv hv' := by
  obtain ⟨a, c, rfl⟩ := h.own.seg.shapeF
  have hO := h.own
  have hB := h.blk
  have c0 := hB.cell (j := 0) rfl
  have c1 := hB.cell (j := 1) rfl
  have f0 := hB.frozen 0
  have f1 := hB.frozen 1
  have hnr := hB.not_row (by decide) hO
  have hlow := h.low
  clear h
  by_cases hf : held.length = 2100
  · have e1 : (fhold ⟨held, sp, [], 0⟩ x).held = held ∧ (fhold ⟨held, sp, [], 0⟩ x).sp = true := by unfold fhold; rw [if_pos hf]; exact ⟨rfl, rfl⟩
    rw [e1.1, e1.2]
    have hfb : ((held.length : Int) == 2100) = true := by rw [hf]; rfl
    have hB' := (hB.set 1 (.bool true)).of_eq (arr' := #[.slice a held.length c, .bool true]) rfl
    have hO' : Own (w.setCell ⟨g, 1, none⟩ (.bool true)) lo (.slice a held.length c) held := hO.chg ((Chg.refl (fun k => k = g) w).setCell g 1 _ (fun _ => rfl)) (fun k hk e => hnr (by rw [hk, e]))
    clear e1 hf
    go_enter Tryd.func19, Tryd.ntmps19
    go_wp2
    refine bodyPost_ret (results_none rfl _ _ _) rfl ?_
    exact ⟨⟨_, rfl⟩, _, ⟨hB', hO', hlow⟩, (Chg.refl _ w).setCell g 1 _ (fun _ => .inl rfl), Goes.refl _ _⟩
  · have e1 : (fhold ⟨held, sp, [], 0⟩ x).held = held ++ [x] ∧ (fhold ⟨held, sp, [], 0⟩ x).sp = sp := by unfold fhold; rw [if_neg hf]; exact ⟨rfl, rfl⟩
    rw [e1.1, e1.2]
    have hfb : ((held.length : Int) == 2100) = false := by simp; omega
    have HW : Hid (∀ (W : World), Row (W.alloc (.cells #[.int .u8 (n8 x)] 5)) W.heap.size 0 [x]) := fun W => row_one W x _
    obtain ⟨RP, hRP⟩ : ∃ RP, RP = held ++ [x] := ⟨_, rfl⟩
    have HP : Hid (held ++ [x] = RP) := hRP.symm
    rw [← hRP]
    clear e1 hf hRP
    generalize n8 x = X at *
    go_enter Tryd.func19, Tryd.ntmps19
    go_wp2_with (at_builtin; refine app_own _ rfl (.tmp 17) (.tmp 19) rfl lo _ held rfl (by exact hO.alloc _) _ [x] rfl (by exact Seg.of_row (HW.out w) rfl (Nat.le_refl _) (by simp)) (by simp; omega) (by simp; omega) ?_; intro v2 w2 ho2 hg2 hv2; rw [HP.out] at ho2; have hB2 := (hB.alloc _).grown hg2 (fun e => hnr e.symm); have c02 := hB2.cell (j := 0) rfl; have f02 := hB2.frozen 0; obtain ⟨a2, c2, rfl⟩ := ho2.seg.shapeF)
    go_end0
    have hnr2 := hB2.not_row (by decide) ho2
    refine ⟨⟨_, rfl⟩, _, ⟨(hB2.set 0 _).of_eq rfl, ho2.chg ((Chg.refl (fun k => k = g) w2).setCell g 0 _ (fun _ => rfl)) (fun k hk e => hnr2 (by rw [hk, e])), hlow⟩, ?_, ?_⟩
    · exact (((Chg.refl (Touch g (.slice a held.length c)) w).alloc _).trans (S' := Touch g (.slice a held.length c)) (Chg.of_grown hg2 (fun k hk => .inr hk)) (fun _ _ h => h)).setCell g 0 _ (fun _ => .inl rfl)
    · intro k hk
      rcases hv2 with h | h
      · rw [h] at hk; exact .inl hk
      · rw [h] at hk; have := Option.some.inj hk; simp at this; exact .inr (by omega)

theorem Tryd.info45s : (Tryd.prog.info? 45).map (·.size) = some 2 := by kernel_rfl
set_option maxRecDepth 100000 in
set_option maxHeartbeats 1000000 in
theorem end_any (lo g : Nat) (hv : Value) (held : List UInt8) (sp : Bool) (w : World) (h : Rd 45 w lo g hv held sp) (hl : held.length ≤ 2100) (hlo : lo ≤ w.heap.size) (hgf : 0 < lo) (hf : Tab w 0 (fours.map v32)) (R : Option (List UInt8)) (hR : R = if sp then none else takenOf held) :
    Calls Tryd.prog 20 #[.pointer (some ⟨g, 0, none⟩)] w fun e w' => ∃ v, e = .returned (.tuple #[v, .bool R.isSome]) ∧ Own w' w.heap.size v (R.getD []) ∧ Rd 45 w' lo g (.slice none 0 0) [] false ∧ Chg (fun k => k = g) w w' := by
  obtain ⟨a, c, rfl⟩ := h.own.seg.shapeF
  have hO := h.own
  have hB := h.blk
  have c0 := hB.cell (j := 0) rfl
  have c1 := hB.cell (j := 1) rfl
  have f0 := hB.frozen 0
  have f1 := hB.frozen 1
  have hnr := hB.not_row (by decide) hO
  have hlow := h.low
  clear h
  have hgl := hB.lt
  have hone : (#[Value.slice none 0 0, .bool false].all (·.oneCell')) = true := by simp [Value.oneCell']
  have hnil : ∀ (W : World) (b : Nat), Own W b (.slice none 0 0) [] := fun W b => ⟨rfl, .inl ⟨rfl, rfl⟩⟩
  cases sp with
  | true =>
    obtain rfl : R = none := hR
    go_enter Tryd.func20, Tryd.ntmps20
    go_wp2_with (refine store_blk rfl 45 _ _ rfl rfl _ #[.slice none 0 0, .bool false] rfl rfl 45 #[.slice a held.length c, .bool true] (by exact hB.alloc _) Tryd.info45s rfl hone ?_; intro w3 hb3 hg3 hs3; have bF := (Blk.new w 45 #[.slice a held.length c, .bool true]).grown hg3 (fun e => by have := Option.some.inj e; omega); have e0 := bF.cell (j := 0) rfl; have e1 := bF.cell (j := 1) rfl; have hC3 : Chg (fun k => k = g) w w3 := ((Chg.refl (fun k => k = g) w).alloc _).trans (S' := fun k => k = g) (Chg.of_grown hg3 (fun k hk => (Option.some.inj hk).symm)) (fun _ _ h => h))
    go_ret2
    exact ⟨_, rfl, hnil _ _, ⟨hb3, hnil _ _, hlow⟩, hC3⟩
  | false =>
    obtain rfl : R = takenOf held := hR
    go_enter Tryd.func20, Tryd.ntmps20
    go_wp2_with (refine store_blk rfl 45 _ _ rfl rfl _ #[.slice none 0 0, .bool false] rfl rfl 45 #[.slice a held.length c, .bool false] (by exact hB.alloc _) Tryd.info45s rfl hone ?_; intro w3 hb3 hg3 hs3; have bF := (Blk.new w 45 #[.slice a held.length c, .bool false]).grown hg3 (fun e => by have := Option.some.inj e; omega); have e0 := bF.cell (j := 0) rfl; have e1 := bF.cell (j := 1) rfl; have hC3 : Chg (fun k => k = g) w w3 := ((Chg.refl (fun k => k = g) w).alloc _).trans (S' := fun k => k = g) (Chg.of_grown hg3 (fun k hk => (Option.some.inj hk).symm)) (fun _ _ h => h))
    have hO3 := hO.chg hC3 (fun k hk e => hnr (by rw [hk, e]))
    have s3 := hC3.size
    refine (taken_any _ held _ (by omega) hO3.seg (by omega) (hf.chg hC3 (by omega) (by omega))).mono ?_
    rintro e w4 ⟨v4, rfl, ho4, hb4⟩
    obtain ⟨a4, c4, rfl⟩ := ho4.seg.shapeF
    go_wp2
    go_ret2
    refine ⟨_, rfl, ho4.mono s3, ⟨hb3.below hb4 hb3.lt, hnil _ _, hlow⟩, hC3.trans (S' := fun k => k = g) (Chg.of_below hb4 (Nat.le_refl _)) (fun _ _ h => h)⟩
end Go.Proofs.YtchbfhckocfjhaaDoor
