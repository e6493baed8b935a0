/-
  What is proved here: a store on an empty disk that does not fail; the statements' first question is answered true.
  Conditions: those that each fact names.
-/
import Derived.Test.YtbegphfideopoaaGreatJStoreGet
import Derived.Test.YtbegphfideopoaaGreatJStoreCalm
import Derived.Lib.SlBytesConst
namespace Go.Proofs.YtbegphfideopoaaGreat
open Go.RowKit Go.Maps

/-- A store on a new disk. -/
theorem open_new (n : Nat) (h256 : 256 ≤ sizeS (newS n)) (hn : n ≤ 4096) : ∃ x : SS, CalmS x n 1 ∧ x.m = [] ∧ sizeS x.s = sizeS (newS n) ∧ ∀ (w : World) (L : PLay) (C : Nat → Prop), OD w L C (newS n) → Calls Tryz.prog 12 #[.pointer (some ⟨L.g, 0, none⟩)] w fun e w' => Opened w L C x e w' := by
  obtain ⟨ho, hl⟩ := newS_open n h256
  obtain ⟨t, ht, hst, _, hsz⟩ := check_calm (st := stateM []) (l := ⟨0, 0, [], 0, false, false⟩) (newS_calm n) (newS_ok n) hn h256 rfl (by rw [newS_there]) (by decide) (by decide) (by rw [stateB_len]; show 0 + 5 * max ((0 + 1023) / 1024) 1 ≤ _; omega)
  refine ⟨⟨t, _, [], false⟩, ⟨hst, rfl, Nat.zero_le _, Nat.zero_le _, rfl, (by show 0 + 1 ≤ 1; omega), (by show 0 + 1 ≤ 2 * 1; omega), ⟨[], [], ?_, rfl, List.Pairwise.nil, (fun p hp => by cases hp), Nat.zero_le _, rfl, (fun r hr => by cases hr)⟩⟩, rfl, hsz, fun w L C hD => ?_⟩
  · show stateB (stateM []) = stateB (stateM []) ++ []
    rw [List.append_nil]
  · refine open_any8 hD ho (m := []) ?_ (fun p hp => by cases hp) (Nat.zero_le _) (Nat.zero_le _) (by rw [hl]; exact ht)
    rw [newS_found]
    exact replay_nil
theorem seg_const (W : World) (b : UInt8) (fr : Nat × Nat) : Seg (W.alloc (.cells #[v8 b] 5 fr)) (.slice (some ⟨W.heap.size, 0, none⟩) 1 1) [b] :=
  Seg.of_row (fun j hj => by
    have e : j = 0 := by simpa using hj
    subst e
    exact World.cell?_alloc_mark W #[v8 b] 5 fr 0) rfl (Nat.le_refl _) (by show _ < (W.heap.push _).size; rw [Array.size_push]; exact Nat.lt_succ_self _)
theorem ops_one {w : World} {b : Nat} {o : OpB} {ka va : Option Addr} {kc vc : Nat} (hk : Blk w b 59 #[.slice ka o.key.length kc, .bool o.del, .slice va o.val.length vc]) (s1 : Seg w (.slice ka o.key.length kc) o.key) (s2 : Seg w (.slice va o.val.length vc) o.val) (l1 : o.key.length ≤ maxLen) (l2 : o.val.length ≤ maxLen) : OpsV w (.slice (some ⟨b, 0, none⟩) 1 1) [o] := by
  refine ⟨_, 1, rfl, (by show 1 ≤ maxLen; decide), fun i x hx => ?_⟩
  match i, hx with
  | 0, hx =>
    cases hx
    exact ⟨b, 0, rfl, hk.lt, ka, kc, va, vc, hk.cell rfl, hk.cell rfl, hk.cell rfl, s1, s2, l1, l2⟩
  | (i + 1), hx => cases hx
def opA : OpB := ⟨[97], false, [7]⟩
theorem awake_calm {x : SS} (h : CalmS x 60 1) (hm : x.m = []) (hs : sizeS x.s = 3712) : ∃ y, allA x [[opA]] = (0, y) ∧ y.m = [([97], [7])] := by
  rcases all_calm h (by decide) (by omega) (by decide) (by rw [hm]; intro p hp; cases hp) (by rw [hm]; exact List.Pairwise.nil) [[opA]] with ⟨e, _⟩ | ⟨_, e, _⟩ | ⟨_, _, y, e, _, hy, _⟩
  · exact absurd e (by decide)
  · rw [hm] at e
    have : fullA x.s (doAll [] [[opA]]) ([[opA]].map chgB) = false := by
      unfold fullA mostW
      rw [hs]
      decide
    rw [this] at e
    cases e
  · exact ⟨y, e, by rw [hy, hm]; decide⟩
theorem fr_from {C : Nat → Prop} {B : Nat} {w w' : World} (h : ∀ q, C q → B ≤ q) (hB : B ≤ w.heap.size) : ∀ q, Fr C w w' q → B ≤ q := fun q hq => fr_ge h hB q hq
set_option maxRecDepth 100000 in
set_option maxHeartbeats 4000000 in
theorem awake8_any (w : World) : Calls Tryz.prog 9 #[] w fun e w' => e = .returned (.bool true) ∧ Below w.heap.size w w' := by
  obtain ⟨x, hx, hxm, hxs, HOP⟩ := open_new 60 (by rw [newS_size]; decide) (by decide)
  rw [newS_size] at hxs
  obtain ⟨y, hy, hym⟩ := awake_calm hx hxm hxs
  clear hx hxm hxs
  go_enter Tryz.func9, Tryz.ntmps9
  go_wp2_with fail
  refine (od_new 60 w (by decide) (by decide)).mono ?_
  rintro e w1 ⟨L, rfl, hD, hb1, hT, -⟩
  go_wp2_with fail
  refine (HOP w1 L L.T hD).mono ?_
  rintro e w2 ⟨SG, rfl, hS2, hSG, hc2⟩
  have hge : ∀ q, Fr L.T w1 w2 q → w.heap.size ≤ q := fr_from hT hb1.size
  have hB2 : Below w.heap.size w w2 := hb1.trans (hc2.below hT hb1.size)
  clear HOP hD hb1 hc2
  have hcv := fun W : World => Lib.run_convert_bytes_const (P := Tryz.prog) W 34 5 #[.int .u8 97] 1 1 Tryz.underlying34 Tryz.underlying5
  have bA := (Below.refl w2.heap.size w2).alloc (Nat.le_refl _) (.cells #[.int .u8 97] 5 (1, 2))
  have sA := seg_const w2 97 (1, 2)
  have zA : (w2.alloc (.cells #[.int .u8 97] 5 (1, 2))).heap.size = w2.heap.size + 1 := by simp
  go_wp2_with fail
  obtain ⟨wA, hwA⟩ : ∃ W, W = w2.alloc (.cells #[.int .u8 97] 5 (1, 2)) := ⟨_, rfl⟩
  have sA : Seg wA (.slice (some ⟨w2.heap.size, 0, none⟩) 1 1) [97] := by rw [hwA]; exact sA
  rw [← hwA] at bA zA ⊢
  clear hwA hcv
  have bB := (Below.refl wA.heap.size wA).alloc (Nat.le_refl _) (.cells #[.int .u8 7] 5)
  have sB := seg_const wA 7 (0, 0)
  have zB : (wA.alloc (.cells #[.int .u8 7] 5)).heap.size = wA.heap.size + 1 := by simp
  obtain ⟨wB, hwB⟩ : ∃ W, W = wA.alloc (.cells #[.int .u8 7] 5) := ⟨_, rfl⟩
  have sB : Seg wB (.slice (some ⟨wA.heap.size, 0, none⟩) 1 1) [7] := by rw [hwB]; exact sB
  rw [← hwB] at bB zB ⊢
  clear hwB
  rw [show w2.heap.size + 1 + 1 = wB.heap.size by omega, show w2.heap.size + 1 = wA.heap.size by omega]
  have bC := (Below.refl wB.heap.size wB).alloc (Nat.le_refl _) (.cells #[.slice (some ⟨w2.heap.size, 0, none⟩) 1 1, .bool false, .slice (some ⟨wA.heap.size, 0, none⟩) 1 1] 59)
  have kC := Blk.new wB 59 #[.slice (some ⟨w2.heap.size, 0, none⟩) 1 1, .bool false, .slice (some ⟨wA.heap.size, 0, none⟩) 1 1]
  have hOV := ops_one (o := opA) kC ((sA.below bB (Nat.le_refl _)).below bC (Nat.le_refl _)) (sB.below bC (Nat.le_refl _)) (by decide) (by decide)
  have bAll := blift (blift bA bB bA.size) bC (Nat.le_trans bA.size bB.size)
  have HCM := commit_any8 (hS2.after bAll) _ [opA] hOV
  rw [hy] at HCM
  have hB3 := blift hB2 bAll hB2.size
  obtain ⟨w3, hw3⟩ : ∃ W, W = wB.alloc (.cells #[.slice (some ⟨w2.heap.size, 0, none⟩) 1 1, .bool false, .slice (some ⟨wA.heap.size, 0, none⟩) 1 1] 59) := ⟨_, rfl⟩
  rw [← hw3] at HCM hB3 ⊢
  clear hw3 bA sA zA bB sB zB bC kC hOV bAll hS2
  refine HCM.mono ?_
  rintro e w4 ⟨rfl, hS4, hc4⟩
  have hB4 : Below w.heap.size w w4 := hB3.trans (hc4.below hge hB3.size)
  have hcv := fun W : World => Lib.run_convert_bytes_const (P := Tryz.prog) W 34 5 #[.int .u8 97] 1 1 Tryz.underlying34 Tryz.underlying5
  have bA := (Below.refl w4.heap.size w4).alloc (Nat.le_refl _) (.cells #[.int .u8 97] 5 (1, 2))
  have HG := get_any8 (hS4.after bA) _ [97] (seg_const w4 97 (1, 2)) (by decide)
  rw [hym] at HG
  clear HCM
  go_wp2_with fail
  refine HG.mono ?_
  rintro e w5 ⟨v, rfl, hO5, hb5⟩
  obtain ⟨va, vc, rfl⟩ := hO5.seg.shapeD
  have hB5 := blift (blift hB4 bA hB4.size) hb5 (Nat.le_trans hB4.size bA.size)
  clear HG hcv
  go_wp2_with fail
  go_ret
  exact ⟨rfl, hB5⟩
end Go.Proofs.YtbegphfideopoaaGreat
