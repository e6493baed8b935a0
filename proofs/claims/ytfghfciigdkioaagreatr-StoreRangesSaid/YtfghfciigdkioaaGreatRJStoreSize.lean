/-
  What is proved here: how many bytes a map's pairs have.
  Conditions: those that each fact names.
-/
import Derived.Test.YtfghfciigdkioaaGreatRJStoreKeys
namespace Go.Proofs.YtfghfciigdkioaaGreatR
open Go.RowKit Go.Maps Go.Sort Go.Proofs

/-- How many bytes the pairs of such keys have. -/
def pairN (m : PM) (k : List UInt8) : Nat := 4 + k.length + ((lookM m k).getD []).length
def sumK (m : PM) (ks : List (List UInt8)) : Nat := (ks.map (pairN m)).sum
theorem sum_perm : ∀ {a b : List Nat}, a.Perm b → a.sum = b.sum := fun h => by
  induction h with
  | nil => rfl
  | cons x _ ih => simp [ih]
  | swap x y l => simp; omega
  | trans _ _ ih1 ih2 => exact ih1.trans ih2
theorem sumK_perm {m : PM} {a b : List (List UInt8)} (h : a.Perm b) : sumK m a = sumK m b := sum_perm (h.map _)
theorem sumK_keys {m : PM} (hr : RiseM m) : sumK m (keysM m) = sizeM m := by
  unfold sumK keysM sizeM
  rw [List.map_map]
  congr 1
  apply List.map_congr_left
  intro p hp
  show pairN m p.1 = _
  unfold pairN
  rw [mem_look hr (k := p.1) (v := p.2) hp]
  rfl
theorem sumK_le {m : PM} (hp : PairsR m) : ∀ (ks : List (List UInt8)), (∀ k ∈ ks, (lookM m k).isSome = true) → sumK m ks ≤ 1092 * ks.length
  | [], _ => Nat.le_refl _
  | k :: ks, h => by
    have h1 := sumK_le hp ks (fun q hq => h q (List.mem_cons_of_mem _ hq))
    obtain ⟨v, hv⟩ := Option.isSome_iff_exists.1 (h k List.mem_cons_self)
    have h2 := hp _ (look_mem hv)
    show pairN m k + sumK m ks ≤ 1092 * (ks.length + 1)
    unfold pairN
    rw [hv]
    have h3 : (Option.getD (some v) ([] : List UInt8)).length = v.length := rfl
    have h4 : k.length ≤ 64 := h2.2.1
    have h5 : v.length ≤ 1024 := h2.2.2
    omega
theorem sumK_snoc (m : PM) (ks : List (List UInt8)) (k : List UInt8) : sumK m (ks ++ [k]) = sumK m ks + pairN m k := by
  unfold sumK
  rw [List.map_append, List.sum_append]
  simp
set_option maxRecDepth 100000 in
set_option maxHeartbeats 4000000 in
theorem size_any8 (b : Nat) (C : Nat → Prop) (m : PM) (w : World) (hM : MapP w C b m) (hp : PairsR m) (hml : m.length ≤ 1000000000) :
    Calls Tryz.prog 57 #[.map (some b)] w fun e w' => e = .returned (.int .i64 (sizeM m : Int)) ∧ Below w.heap.size w w' := by
  obtain ⟨n, D, hown, hH⟩ := hM.body
  have hrise := hM.rise
  have hbl := hM.lt
  have hsz := hH.size hown hrise
  obtain ⟨R, hR⟩ : ∃ R, R = sizeM m := ⟨_, rfl⟩
  rw [← hR]
  have HR : Hid (R = sizeM m) := hR
  clear hR
  go_enter Tryz.func57, Tryz.ntmps57
  go_wp2_with (at_range; refine wpList_range_own _ rfl _ 70 rfl 9 34 keyS Tryz.underlying70 _ b _ D rfl hown ?_; intro w2 hrg2 hg2 hs2)
  go_frame
  rw [hsz] at hrg2
  have hB2 : Below w.heap.size w w2 := below_grown (Below.refl _ _) hg2 (Nat.le_refl _) (fun k hk => by cases hk)
  go_loopw [3] (fun nv wr => ∃ left cnt ss, wr.ranges Tryz.prog 9 R8 b w.heap.size n D left cnt ∧ Collected D left ss ∧ ss.length + cnt ≤ m.length ∧ (∀ k ∈ ss, (lookM m k).isSome = true) ∧ nv = .int .i64 (sumK m ss : Int) ∧ Below w.heap.size w wr) (fun _ wr => wr.rangeLeft b w.heap.size)
  case atStart => exact ⟨_, _, [], hrg2, Collected.start D, by simp, (fun k hk => by cases hk), rfl, hB2⟩
  case round =>
    clear hrg2 hB2 hg2 hs2
    obtain ⟨left, cnt, ss, hrg, hC, hle, hin, rfl, hB⟩ := hrel
    have hrl := hrg.lt
    have hsum := sumK_le hp ss hin
    go_wp2_with (at_next; refine wpList_next8 _ rfl _ rfl b w.heap.size n D left cnt rfl hrg ?_ ?_)
    · intro hl0
      have hpm := (hC.perm hrg.owns keyS Tryz.underlying9 hl0).trans (hH.perm hown hrise).symm
      have HSO : Hid (sumK m ss = R) := by show _ = _; rw [sumK_perm hpm, sumK_keys hrise, HR.out]
      clear hpm hl0 hC hin
      go_wp2_with fail
      go_ret
      rw [HSO.out]
      exact ⟨rfl, hB⟩
    · intro x ta tn tc w3 cnt3 hlx hxl hat hrg3 hlt3 hg3 hs3 hen
      have hC3 := hC.step hlx hat
      have hB3 : Below w.heap.size w w3 := below_grown hB hg3 hB.size (fun k hk => by cases hk; exact Nat.le_refl _)
      have hms : wr.rangeLeft b w.heap.size = cnt := hrg.left_eq
      have hhas := has_true_of_atKey hat
      rw [hH.has] at hhas
      obtain ⟨bv, hbv⟩ := Option.isSome_iff_exists.1 hhas
      obtain ⟨v, hv1, hv2⟩ := hH.is x bv hbv
      have htn : tn = bv.length := by
        have e := (hat .nil).symm.trans (hv1 .nil)
        injection e with e
        obtain ⟨va, vc, e2⟩ := hv2.1.shapeD
        rw [← e] at e2
        injection e2
      have hbnd := hp _ (look_mem hbv)
      have hx1 : x.length ≤ 64 := hbnd.2.1
      have hx2 : tn ≤ 1024 := by rw [htn]; exact hbnd.2.2
      have hsn : sumK m (ss ++ [x]) = sumK m ss + (4 + x.length + tn) := by
        rw [sumK_snoc]
        unfold pairN
        rw [hbv, htn]
        rfl
      have hin3 : ∀ k ∈ ss ++ [x], (lookM m k).isSome = true := fun k hk => by
        rcases List.mem_append.1 hk with h | h
        · exact hin k h
        · rw [List.mem_singleton.1 h]; exact hhas
      have hxs := str_size x
      clear hlx hC hs3 hin hbv hv1 hv2 hhas htn hat hbnd
      generalize (⟨x.toArray⟩ : ByteArray) = X at *
      generalize hSV : sumK m ss = SV at *
      have hsl : SV ≤ 1092000000000 := by omega
      go_wp2_with fail
      go_roundw
      case rel => exact ⟨_, _, ss ++ [x], hrg3, hC3, by rw [List.length_append, List.length_singleton]; omega, hin3, by rw [hsn]; go_num, hB3⟩
      case measure => rw [hrg3.left_eq, hms]; exact hlt3
end Go.Proofs.YtfghfciigdkioaaGreatR
