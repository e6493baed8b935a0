/-
  What is proved here: frame.taken answers the bytes whose Put is what is held, and a nought; plain functions for a reader of frames.
  Conditions: at most 100000 bytes; the variable fourBits holds the sixteen words.
-/
import Derived.Test.YtchbfhckocfjhaaDoorFramePlain
import Derived.Test.YtchbfhckocfjhaaDoorCrcOpen
namespace Go.Proofs.YtchbfhckocfjhaaDoor
open Go.RowKit

/-- The bytes whose Put is what is held, and a nought. -/
def takenOf (held : List UInt8) : Option (List UInt8) := match plainOf held with
  | none => none
  | some s => match openOf s with
    | none => none
    | some b => if 2048 < b.length then none else some b
theorem docA_len (n : Nat) : ∀ (s : List UInt8), s.length ≤ n → ∀ acc e out, plainA acc e s = some out → out.length ≤ acc.length + s.length := by
  intro s hs acc e out h
  rcases plainA_only s.length s (Nat.le_refl _) acc e out h with ⟨_, _, ho⟩ | ⟨m, ho, hm⟩
  · rw [ho]; simp; omega
  · have := (stuff_len m.length m (Nat.le_refl _)).1
    rw [hm] at this
    rw [ho]; simp; omega
theorem plainOf_len (s out : List UInt8) (h : plainOf s = some out) : out.length ≤ s.length := by
  have := docA_len s.length s (Nat.le_refl _) [] false out h
  simpa using this

set_option maxRecDepth 100000 in
set_option maxHeartbeats 2000000 in
theorem taken_any (x : Value) (held : List UInt8) (w : World) (hm : held.length ≤ 100000) (hseg : Seg w x held) (hgf : 0 < w.heap.size) (hf : Tab w 0 (fours.map v32)) :
    Calls Tryd.prog 28 #[x] w fun e w' => ∃ v, e = .returned (.tuple #[v, .bool (takenOf held).isSome]) ∧ Own w' w.heap.size v ((takenOf held).getD []) ∧ Below w.heap.size w w' := by
  obtain ⟨ao, c, rfl⟩ := hseg.shapeF
  have HP := plain_any (.slice ao held.length c) held w (by omega) hseg
  have hnil : ∀ W : World, Own W w.heap.size (.slice none 0 0) [] := fun W => ⟨rfl, .inl ⟨rfl, rfl⟩⟩
  obtain ⟨TK, hTK⟩ : ∃ TK, takenOf held = TK := ⟨_, rfl⟩
  rw [hTK]
  cases hp : plainOf held with
  | none =>
    rw [hp] at HP
    have ht : TK = none := by rw [← hTK]; unfold takenOf; rw [hp]
    subst ht
    clear hTK
    go_enter Tryd.func28, Tryd.ntmps28
    go_wp2_with fail
    refine HP.mono ?_
    rintro e w1 ⟨rfl, hb1⟩
    clear HP
    go_wp2
    go_ret2
    exact ⟨_, rfl, hnil _, hb1⟩
  | some s =>
    rw [hp] at HP
    have hsl := plainOf_len held s hp
    have ht : TK = match openOf s with | none => none | some b => if 2048 < b.length then none else some b := by rw [← hTK]; unfold takenOf; rw [hp]
    clear hTK hp
    have HT : Hid (TK = match openOf s with | none => none | some b => if 2048 < b.length then none else some b) := ht
    clear ht
    go_enter Tryd.func28, Tryd.ntmps28
    go_wp2_with fail
    refine HP.mono ?_
    rintro e w1 ⟨⟨v1, rfl, ho1⟩, hb1⟩
    have s1 := hb1.size
    have HO := open_any v1 s w1 (by omega) ho1.seg (by omega) (hf.below hb1 hgf)
    clear HP
    obtain ⟨a1, c1, rfl⟩ := ho1.seg.shapeF
    cases ho : openOf s with
    | none =>
      rw [ho] at HO
      have ht := HT.out
      rw [ho] at ht
      dsimp only at ht
      subst ht
      clear HT
      go_wp2_with fail
      refine HO.mono ?_
      rintro e w2 ⟨v2, rfl, ho2, hb2⟩
      clear HO
      obtain ⟨a2, c2, rfl⟩ := ho2.seg.shapeF
      have hB2 := hb1.trans (hb2.mono s1)
      go_wp2
      go_ret2
      exact ⟨_, rfl, ho2.mono s1, hB2⟩
    | some b =>
      rw [ho] at HO
      have ht := HT.out
      rw [ho] at ht
      dsimp only at ht
      clear HT
      have HT : Hid (TK = if 2048 < b.length then none else some b) := ht
      clear ht
      have hbl : b.length ≤ s.length := by
        unfold openOf at ho
        split at ho
        · cases ho
        split at ho
        · rw [← Option.some.inj ho]; simp
        · cases ho
      go_wp2_with fail
      refine HO.mono ?_
      rintro e w2 ⟨v2, rfl, ho2, hb2⟩
      clear HO ho
      simp only [Option.getD_some] at ho2
      simp only [Option.isSome_some]
      obtain ⟨a2, c2, rfl⟩ := ho2.seg.shapeF
      have hB2 := hb1.trans (hb2.mono s1)
      by_cases h2 : 2048 < b.length
      · have ht := HT.out
        rw [if_pos h2] at ht
        subst ht
        clear HT
        go_wp2
        go_ret2
        exact ⟨_, rfl, hnil _, hB2⟩
      · have ht := HT.out
        rw [if_neg h2] at ht
        subst ht
        clear HT
        go_wp2
        go_ret2
        exact ⟨_, rfl, ho2.mono s1, hB2⟩

/-- A reader: what it holds, whether the frame is spoilt; what was told, how many were spoilt. -/
structure FS where
  held : List UInt8
  sp : Bool
  told : List (List UInt8)
  bad : Nat
/-- A nought. -/
def fend (s : FS) : FS := if s.held.length = 0 then s else match (if s.sp then none else takenOf s.held) with
  | none => ⟨[], false, s.told, s.bad + 1⟩
  | some b => ⟨[], false, s.told ++ [b], s.bad⟩
/-- Another byte. -/
def fhold (s : FS) (x : UInt8) : FS := if s.held.length = 2100 then { s with sp := true } else { s with held := s.held ++ [x] }
def fstep (s : FS) (x : UInt8) : FS := if x = 0 then fend s else fhold s x
def feedS (s : FS) (bs : List UInt8) : FS := bs.foldl fstep s
/-- What a reader's state keeps to. -/
def FS.ok (s : FS) : Prop := s.held.length ≤ 2100 ∧ (s.sp = true → s.held.length = 2100)
theorem FS.ok_step (s : FS) (x : UInt8) (h : s.ok) : (fstep s x).ok := by
  unfold fstep
  split
  · unfold fend
    split
    · exact h
    · split
      · exact ⟨by simp, fun h => by cases h⟩
      · exact ⟨by simp, fun h => by cases h⟩
  · unfold fhold
    split
    · rename_i h2; exact ⟨h.1, fun _ => h2⟩
    · rename_i h2
      refine ⟨by have := h.1; simp; omega, fun hs => absurd (h.2 hs) h2⟩
theorem FS.ok_feed (bs : List UInt8) : ∀ (s : FS), s.ok → (feedS s bs).ok := by
  induction bs with
  | nil => exact fun s h => h
  | cons x t ih => exact fun s h => ih _ (FS.ok_step s x h)
theorem fstep_told (s : FS) (x : UInt8) : fstep s x = ⟨(fstep ⟨s.held, s.sp, [], 0⟩ x).held, (fstep ⟨s.held, s.sp, [], 0⟩ x).sp, s.told ++ (fstep ⟨s.held, s.sp, [], 0⟩ x).told, s.bad + (fstep ⟨s.held, s.sp, [], 0⟩ x).bad⟩ := by
  unfold fstep
  split
  · unfold fend
    dsimp only
    split
    · simp
    · generalize (if s.sp = true then none else takenOf s.held) = q
      cases q <;> simp
  · unfold fhold
    dsimp only
    split <;> simp
/-- What was told ahead stays ahead. -/
theorem feedS_told (bs : List UInt8) : ∀ (s : FS), feedS s bs = ⟨(feedS ⟨s.held, s.sp, [], 0⟩ bs).held, (feedS ⟨s.held, s.sp, [], 0⟩ bs).sp, s.told ++ (feedS ⟨s.held, s.sp, [], 0⟩ bs).told, s.bad + (feedS ⟨s.held, s.sp, [], 0⟩ bs).bad⟩ := by
  induction bs with
  | nil => intro s; simp [feedS]
  | cons x t ih =>
    intro s
    have e1 : feedS s (x :: t) = feedS (fstep s x) t := rfl
    have e2 : feedS ⟨s.held, s.sp, [], 0⟩ (x :: t) = feedS (fstep ⟨s.held, s.sp, [], 0⟩ x) t := rfl
    rw [e1, e2, ih (fstep s x), ih (fstep ⟨s.held, s.sp, [], 0⟩ x), fstep_told s x]
    simp [Nat.add_assoc]
theorem feedS_append (s : FS) (a b : List UInt8) : feedS s (a ++ b) = feedS (feedS s a) b := by simp [feedS]
end Go.Proofs.YtchbfhckocfjhaaDoor
