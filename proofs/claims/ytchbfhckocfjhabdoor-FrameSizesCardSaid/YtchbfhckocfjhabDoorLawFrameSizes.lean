/-
  What is proved here: of all bytes, the statement FrameSizes answers true: a frame is longer than its bytes by 5, and 1 more for each run of 254 at most; what is one byte too long is none.
  Conditions: the variable fourBits holds the sixteen words.
-/
import Derived.Test.YtchbfhckocfjhabDoorFramePut
import Derived.Test.YtchbfhckocfjhabDoorFrameAwake
namespace Go.Proofs.YtchbfhckocfjhabDoor
open Go.RowKit

theorem put_len (bs : List UInt8) : bs.length + 5 ≤ (stuff (bs ++ sumB (crcOf bs)) ++ [0]).length ∧ (stuff (bs ++ sumB (crcOf bs)) ++ [0]).length ≤ bs.length + 5 + (bs.length + 3) / 254 := by
  have h := stuff_len _ (bs ++ sumB (crcOf bs)) (Nat.le_refl _)
  have hl : (bs ++ sumB (crcOf bs)).length = bs.length + 3 := by rw [List.length_append]; rfl
  rw [hl] at h
  rw [List.length_append]
  simp only [List.length_cons, List.length_nil]
  omega

set_option maxRecDepth 100000 in
set_option maxHeartbeats 4000000 in
theorem frameSizes_any (x : Value) (bs : List UInt8) (ao : Option Addr) (len c : Nat) (w : World) (hx : x = .slice ao len c) (hl : bs.length = len) (hm : len ≤ maxLen) (hseg : Seg w x bs) (hgf : 0 < w.heap.size) (hf : Tab w 0 (fours.map v32)) :
    Calls Tryd.prog 3 #[x] w fun e w' => e = .returned (.bool true) ∧ Below w.heap.size w w' := by
  subst hx
  unfold maxLen at hm
  go_enter Tryd.func3, Tryd.ntmps3
  go_wp2_with fail
  refine (fawake_any _).mono ?_
  rintro e w1 ⟨rfl, hb1⟩
  have s1 := hb1.size
  by_cases hbig : 5000 < len
  · go_wp2
    go_ret
    exact ⟨rfl, hb1⟩
  have HP := put_any (.slice ao len c) bs w1 (by omega) (hseg.below hb1 (Nat.le_refl _)) (by omega) (hf.below hb1 hgf)
  by_cases h2 : 2048 < len
  · rw [show putOf bs = none by unfold putOf; rw [if_pos (by omega)]] at HP
    go_wp2_with fail
    refine HP.mono ?_
    rintro e w2 ⟨rfl, hb2⟩
    have hB2 : Below w.heap.size w w2 := hb1.trans (hb2.mono s1)
    clear HP
    go_wp2
    go_ret
    exact ⟨rfl, hB2⟩
  · rw [show putOf bs = some (stuff (bs ++ sumB (crcOf bs)) ++ [0]) by unfold putOf; rw [if_neg (by omega)]] at HP
    obtain ⟨hlo, hhi⟩ := put_len bs
    have hlast : ∃ d, stuff (bs ++ sumB (crcOf bs)) ++ [0] = d ++ [(0 : UInt8)] := ⟨_, rfl⟩
    have HPP : Hid (Calls Tryd.prog 6 #[.slice ao len c] w1 (putPost w1 (some (stuff (bs ++ sumB (crcOf bs)) ++ [0])))) := HP
    clear HP
    generalize stuff (bs ++ sumB (crcOf bs)) ++ [0] = PT at *
    go_wp2_with fail
    refine HPP.out.mono ?_
    rintro e w2 ⟨⟨v2, rfl, ho2⟩, hb2⟩
    have hB2 : Below w.heap.size w w2 := hb1.trans (hb2.mono s1)
    clear HPP
    obtain ⟨g, cap, rfl, _, hgl, hgc, hrow⟩ := ho2.form (by omega)
    obtain ⟨d, rfl⟩ := hlast
    simp only [List.length_append, List.length_cons, List.length_nil, Nat.zero_add] at hlo hhi ho2 hgc ⊢
    have hz := hrow d.length (by simp)
    rw [Nat.zero_add] at hz
    simp only [List.getElem_concat_length] at hz
    have hz' : w2.cell? ⟨g, d.length, none⟩ = some (.int .u8 0) := hz
    rw [hl] at *
    have hq1 : decide ((len : Int) + 5 ≤ (d.length : Int) + 1) = true := by simp; omega
    have hq2 : decide ((d.length : Int) + 1 ≤ (len : Int) + 5 + ((len : Int) + 3) / 254) = true := by simp; omega
    clear hz hrow
    go_wp2
    go_ret
    exact ⟨rfl, hB2⟩
end Go.Proofs.YtchbfhckocfjhabDoor
