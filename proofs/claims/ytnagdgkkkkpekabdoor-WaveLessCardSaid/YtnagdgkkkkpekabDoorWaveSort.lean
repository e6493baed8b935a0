/-
  What is proved here: devices in the order of their lots.
  Conditions: the map holds the lots of some devices, each once, each from 1 to 4096.
-/
import Derived.Test.YtnagdgkkkkpekabDoorWaveMap
import Derived.Test.YtnagdgkkkkpekabDoorWaveKeys
import Derived.Shelf.SlSortCmp.NoneTotal
namespace Go.Proofs.YtnagdgkkkkpekabDoor
open Go.RowKit Go.Maps Go.Sort Go.Shelf Go.Proofs

theorem or2_neg (a b x y : Int) : (or2 (cmp3 a b) (cmp3 x y) < 0) ↔ (a < b ∨ (a = b ∧ x < y)) := by
  unfold or2 cmp3
  by_cases h1 : a < b
  · simp [h1]
  · by_cases h2 : b < a
    · simp [h1, h2]; omega
    · have : a = b := by omega
      subst this
      simp
      by_cases h3 : x < y
      · simp [h3]
      · by_cases h4 : y < x
        · simp [h3, h4]
        · simp [h3, h4]
def clampW (x : Int) : Int := if 1 ≤ x ∧ x ≤ 4096 then x else 1
theorem clampW_in (x : Int) : 1 ≤ clampW x ∧ clampW x ≤ 4096 := by unfold clampW; split <;> omega
theorem clampW_id {x : Int} (h : 1 ≤ x ∧ x ≤ 4096) : clampW x = x := if_pos h
def encC (x : Int) : Value := vI (clampW x)
/-- How two devices compare by a map of lots. -/
def cfW (c : Int) (l : List Int) (x y : Int) : Int := or2 (cmp3 (n32 (lotF c l (clampW x))) (n32 (lotF c l (clampW y)))) (cmp3 (clampW x) (clampW y))
theorem cfW_swo (c : Int) (l : List Int) : SWO (ltOf (cfW c l)) where
  irrefl x := by unfold ltOf cfW; rw [decide_eq_false_iff_not, or2_neg]; omega
  trans x y z h1 h2 := by unfold ltOf cfW at *; rw [decide_eq_true_iff, or2_neg] at *; omega
  ntrans x y z h1 h2 := by unfold ltOf cfW at *; rw [decide_eq_false_iff_not, or2_neg] at *; omega
theorem cfW_le {c : Int} {l : List Int} {x y : Int} (hx : x ∈ l) (hy : y ∈ l) (hd : ∀ d ∈ l, 1 ≤ d ∧ d ≤ 4096) (h : ltOf (cfW c l) y x = false) : leW c x y = true := by
  unfold ltOf cfW at h
  rw [decide_eq_false_iff_not, or2_neg, clampW_id (hd x hx), clampW_id (hd y hy)] at h
  unfold lotF at h
  rw [if_pos hx, if_pos hy] at h
  rw [leW_iff]
  unfold lotN
  unfold n32 at h
  omega
theorem grow_alloc (w : World) (o : Obj) : w.alloc o = grow (w.drewN 0) #[o] := by
  show _ = grow w #[o]
  unfold grow World.alloc
  simp
set_option maxRecDepth 100000 in
set_option maxHeartbeats 1000000 in
theorem cmpW_any (c : Int) (l : List Int) (D : DataW Unit) (B bm m : Nat) (W : World) (x y : Int) (hx : 1 ≤ x ∧ x ≤ 4096) (hy : 1 ≤ y ∧ y ≤ 4096) (hB : W.cell? ⟨B, 0, none⟩ = some (.map (some bm))) (hown : W.ownsMap Tryd.prog 3 lotR bm m D) (hH : HoldsL c D l) :
    Calls Tryd.prog 23 #[vI x, vI y, .pointer (some ⟨B, 0, none⟩)] W fun e w' => e = .returned (.int .i64 (or2 (cmp3 (n32 (lotF c l x)) (n32 (lotF c l y))) (cmp3 x y))) ∧ ∃ q os, w' = grow (W.drewN q) os := by
  have l1 := lookL hown hH x (by omega) (by omega)
  have l2 := lookL hown hH y (by omega) (by omega)
  have H1 := cmpU_any (lotF c l x) (lotF c l y) W
  have H2 := cmpI_any x y W
  unfold v32 at *
  generalize n32 (lotF c l x) = a at *
  generalize n32 (lotF c l y) = b at *
  generalize cmp3 a b = u at *
  generalize cmp3 x y = v at *
  have k := Blk.new W 3 #[vI u, vI v]
  have H3 : Hid (Calls Tryd.prog 24 #[.slice (some ⟨W.heap.size, 0, none⟩) 2 2] (W.alloc (.cells #[vI u, vI v] 3)) fun e w' => e = .returned (.int .i64 (or2 u v)) ∧ w' = W.alloc (.cells #[vI u, vI v] 3)) := or_any _ u v _ (k.cell rfl) (k.cell rfl)
  clear hown hH hx hy k
  go_enter Tryd.func23, Tryd.ntmps23
  go_wp2_with (first | (go_at_call 25; refine H1.mono ?_; rintro e w' ⟨rfl, rfl⟩) | (go_at_call 26; refine H2.mono ?_; rintro e w' ⟨rfl, rfl⟩) | (go_at_call 24; refine H3.out.mono ?_; rintro e w' ⟨rfl, rfl⟩))
  go_ret
  exact ⟨rfl, 0, _, grow_alloc _ _⟩
theorem grownBy_sort {w : World} (enc : Int → Value) {g n : Nat} {os : Array Obj} (d : Array Int) : w.grownBy (sortWorld enc w g 0 n d os) (some g) := by
  refine ⟨rfl, rfl, rfl, by simp [sortWorld], fun k hk hne => ?_⟩
  unfold sortWorld
  rw [heap_grow_old _ _ (by simpa using hk)]
  have : g ≠ k := fun e => hne (by rw [e])
  simp [putRow, mapBlock, Sort.ahead, Array.getElem?_modify, this]
theorem sortC (w : World) (g n : Nat) (d : Array Int) (os : Array Obj) (hd : ∀ x ∈ d.toList, 1 ≤ x ∧ x ≤ 4096) : sortWorld encC w g 0 n d os = sortWorld encZ w g 0 n d os := by
  have e : putCells encC 0 d = putCells encZ 0 d := by
    funext cs
    unfold putCells
    congr 1
    funext k x
    by_cases h : 0 ≤ k ∧ k < 0 + d.size
    · rw [if_pos h, if_pos h]
      have hk : k < d.size := by omega
      show vI (clampW d[k]!) = vI d[k]!
      rw [getElem!_pos d k hk, clampW_id (hd _ (by simp))]
    · rw [if_neg h, if_neg h]
  unfold sortWorld putRow
  rw [e]
theorem getElem!_list (d : Array Int) (i : Nat) (h : i < d.size) : d[i]! = d.toList[i]'(by simpa using h) := by
  rw [getElem!_pos d i h]; simp
set_option maxRecDepth 100000 in
set_option maxHeartbeats 2000000 in
/-- slices.SortedFunc over the keys of a map of lots. -/
theorem sortedW_any (c : Nat) (ds : List Int) (D : DataW Unit) (B1 B2 bm m : Nat) (w : World) (hB1 : B1 < w.heap.size) (hB2 : B2 < w.heap.size) (h1 : w.cell? ⟨B1, 0, none⟩ = some (.map (some bm))) (h2 : w.cell? ⟨B2, 0, none⟩ = some (.map (some bm))) (hown : w.ownsMap Tryd.prog 3 lotR bm m D) (hH : HoldsL c D ds) (hn : ds.Nodup) (hd : ∀ d ∈ ds, 1 ≤ d ∧ d ≤ 4096) (hl : ds.length ≤ 1000000) :
    Calls Tryd.prog 21 #[.func (.func 30) #[] #[.pointer (some ⟨B1, 0, none⟩)], .func (.func 23) #[] #[.pointer (some ⟨B2, 0, none⟩)]] w fun e w' => ∃ v, e = .returned v ∧ OwnZ w' w.heap.size v (sortW c ds) ∧ Below w.heap.size w w' := by
  have hsz : Maps.size D = ds.length := hH.size
  have hseq : SeqGives Fence.wide 4 Tryd.prog 30 #[.pointer (some ⟨B1, 0, none⟩)] encZ (fun ss => ss.Perm (intKeys D)) (Maps.size D) w :=
    AnyZI.keys_gives (ρ := keysA_ren) { keysA with } Fence.wide _ trivial rfl (by omega) B1 bm m D w hB1 h1 hown
  have cC := (callsIn_wide (n := 6)).1 (AnyZI.collect_in collectA Fence.wide 6 trivial trivial rfl (by omega) 30 #[.pointer (some ⟨B1, 0, none⟩)] trivial (enters_of Tryd.func30 (by kernel_rfl) rfl) _ (Maps.size D) (by unfold maxLen; omega) (by omega) w hseq)
  change Calls Tryd.prog 28 _ _ _ at cC
  have HC : Hid (Calls Tryd.prog 28 #[.func (.func 30) #[] #[.pointer (some ⟨B1, 0, none⟩)]] w fun e w' => ∃ (v : Value) (ss : List Int), e = .returned v ∧ ss.Perm (intKeys D) ∧ w'.ownsRow w.heap.size 3 1 v ss.length (ss.map encZ) ∧ (v = .slice none 0 0 ↔ ss = []) ∧ Below w.heap.size w w') := cC
  have HP : Hid (ds.Perm (intKeys D)) := hH.perm hown hn
  have HOW : Hid (w.ownsMap Tryd.prog 3 lotR bm m D) := hown
  have HHH : Hid (HoldsL c D ds) := hH
  have hbl := hown.lt
  have eg : ∀ args w, (callFunc 23 args).run Tryd.prog w = .ok (.enter 23 args) w := enters_of Tryd.func23 (by kernel_rfl) rfl
  clear cC hseq hown hH h1
  go_enter Tryd.func21, Tryd.ntmps21
  go_wp2_with fail
  refine HC.out.mono ?_
  rintro e W ⟨v, ss, rfl, hS, hrow, hnil, hb⟩
  have hpd : ss.Perm ds := hS.trans HP.out.symm
  have hsd : ∀ x ∈ ss, 1 ≤ x ∧ x ≤ 4096 := fun x hx => hd x (hpd.mem_iff.1 hx)
  rcases hrow.2 with ⟨rfl, hz⟩ | ⟨gb, cap, cur, rfl, hbase, hgb, r1, r2, r3, r4⟩
  · have hss : ss = [] := List.eq_nil_of_length_eq_zero hz
    subst hss
    have hdn : ds = [] := hpd.symm.eq_nil
    have cN := AnyF.slices_SortFunc_none (P := Tryd.prog) (ρ := sortA_ren) { sortA with } none 0 (.func (.func 23) #[] #[.pointer (some ⟨B2, 0, none⟩)]) W
    change Calls Tryd.prog 29 _ _ _ at cN
    go_wp2_with (go_at_call 29; refine cN.mono ?_; rintro e w' ⟨rfl, rfl⟩)
    go_ret
    subst hdn
    have hO0 : OwnZ w' w.heap.size (.slice none 0 0) (sortW c []) := by
      rw [show sortW c [] = [] by unfold sortW; simp]; exact OwnZ.nil _ _
    exact ⟨_, rfl, hO0, hb⟩
  · have hgl : gb < W.heap.size := (Array.getElem?_eq_some_iff.1 hgb).1
    have hH0 : Holds encZ W gb 0 ss.toArray := holds_of_block_i hgb (by simpa using r4)
    have hHc : Holds encC W gb 0 ss.toArray := fun j hj => by
      have := hH0 j hj
      refine ⟨?_, this.2⟩
      rw [this.1]
      have hj' : j < ss.length := by simpa using hj
      show some (vI ss.toArray[j]!) = some (vI (clampW ss.toArray[j]!))
      rw [getElem!_pos _ j hj, clampW_id (hsd _ (by simp))]
    have hcmp : CmpLays1 Tryd.prog 23 #[.pointer (some ⟨B2, 0, none⟩)] encC (cfW c ds) gb 0 ss.toArray.size W := fun n os dk _ x y => by
      have hg := grownBy_sort (w := W) encC (g := gb) (n := n) (os := os) dk
      have hch : Chg (fun q => q = gb) W (sortWorld encC W gb 0 n dk os) := Chg.of_grown hg (fun k e => (Option.some.inj e).symm)
      have hchw : Chg (fun q => q = gb) w (sortWorld encC W gb 0 n dk os) := (Chg.of_below hb (Nat.le_refl _)).trans hch (fun k hk e => by omega)
      have hO : (sortWorld encC W gb 0 n dk os).ownsMap Tryd.prog 3 lotR bm m D := own_chgL HOW.out hchw (by omega)
      have hc2 : (sortWorld encC W gb 0 n dk os).cell? ⟨B2, 0, none⟩ = some (.map (some bm)) := by
        rw [World.cell?_of_block (w := w) (a := ⟨B2, 0, none⟩) (hchw.2 B2 hB2 (by omega))]; exact h2
      exact cmpW_any c ds D B2 bm m _ (clampW x) (clampW y) (clampW_in x) (clampW_in y) hc2 hO HHH.out
    have cS := Any.slices_SortFunc sortA encC (fun _ => rfl) (cfW c ds) (cfW_swo c ds) 23 #[.pointer (some ⟨B2, 0, none⟩)] gb 0 cap ss.toArray W eg hcmp hHc hgl (by have := hpd.length_eq; simp; omega)
    rw [show ss.toArray.size = ss.length by simp] at cS
    have HS : Hid (Calls Tryd.prog 29 #[.slice (some ⟨gb, 0, none⟩) ss.length cap, .func (.func 23) #[] #[.pointer (some ⟨B2, 0, none⟩)]] W fun e w' => e = .returned (.tuple #[]) ∧ ∃ d' n os, PermIn 0 ss.length ss.toArray d' ∧ SortedIn (ltOf (cfW c ds)) 0 ss.length d' ∧ w' = sortWorld encC W gb 0 n d' os) := cS
    clear cS hcmp hHc hH0 eg
    go_wp2_with fail
    refine HS.out.mono ?_
    rintro e w2 ⟨rfl, d', n, os, hp, hs, rfl⟩
    have hdl : d'.size = ss.length := by have := hp.1; simpa using this
    have hpl : d'.toList.Perm ss := by
      have := hp.2.2
      simp only [Array.toList_extract, List.extract_eq_take_drop, List.drop_zero, Nat.sub_zero] at this
      rw [List.take_of_length_le (by simp; omega), List.take_of_length_le (by simp)] at this
      exact this
    have hd' : ∀ x ∈ d'.toList, 1 ≤ x ∧ x ≤ 4096 := fun x hx => hsd x (hpl.mem_iff.1 hx)
    have hsrt : d'.toList = sortW c ds := by
      refine sortW_uniq c (hpl.trans hpd) ?_
      rw [List.pairwise_iff_getElem]
      intro i j hi hj hij
      have hi' : i < d'.size := by simpa using hi
      have hj' : j < d'.size := by simpa using hj
      have := hs i j (Nat.zero_le _) hij (by omega)
      rw [getElem!_list d' i hi', getElem!_list d' j hj'] at this
      exact cfW_le ((hpl.trans hpd).mem_iff.1 (List.getElem_mem _)) ((hpl.trans hpd).mem_iff.1 (List.getElem_mem _)) hd this
    have hw2 : sortWorld encC W gb 0 n d' os = grow (putRow encZ (Sort.ahead W n) gb 0 (sortW c ds).toArray) os := by
      rw [sortC W gb n d' os hd', ← hsrt]; rfl
    have hB2' : Below w.heap.size w (sortWorld encC W gb 0 n d' os) := hb.grown (grownBy_sort encC d') hb.size (fun j hj => by cases hj; exact hbase)
    have hlen : (sortW c ds).length = ss.length := by rw [sortW_len, hpd.length_eq]
    have hO : OwnZ (sortWorld encC W gb 0 n d' os) w.heap.size (.slice (some ⟨gb, 0, none⟩) ss.length cap) (sortW c ds) := by
      rw [hw2]
      have := ownsRow_sorted_i (w := W) (n := n) (e := 3) (os := os) (ss := ss) (ts := sortW c ds) hlen hbase hgb r1 r2 r3
      unfold OwnZ
      rw [hlen]
      exact this
    clear hw2 hsrt hs hp hpl hd'
    generalize sortWorld encC W gb 0 n d' os = W9 at *
    go_wp2
    go_ret
    exact ⟨_, rfl, hO, hB2'⟩
set_option maxRecDepth 100000 in
set_option maxHeartbeats 1000000 in
theorem inOrder_any (c : Nat) (ds : List Int) (D : DataW Unit) (bm m : Nat) (w : World) (hown : w.ownsMap Tryd.prog 3 lotR bm m D) (hH : HoldsL c D ds) (hn : ds.Nodup) (hd : ∀ d ∈ ds, 1 ≤ d ∧ d ≤ 4096) (hl : ds.length ≤ 1000000) :
    Calls Tryd.prog 14 #[.map (some bm)] w fun e w' => ∃ v, e = .returned v ∧ OwnZ w' w.heap.size v (sortW c ds) ∧ Below w.heap.size w w' := by
  have hb1 : Below w.heap.size w (w.alloc (.cells #[.map (some bm)] 36)) := (Below.refl _ _).alloc (Nat.le_refl _) _
  have hb2 : Below w.heap.size w ((w.alloc (.cells #[.map (some bm)] 36)).alloc (.cells #[.map (some bm)] 36)) := hb1.alloc hb1.size _
  have k1 := (Blk.new w 36 #[.map (some bm)]).alloc (.cells #[.map (some bm)] 36)
  have k2 := Blk.new (w.alloc (.cells #[.map (some bm)] 36)) 36 #[.map (some bm)]
  have HS : Hid (Calls Tryd.prog 21 #[.func (.func 30) #[] #[.pointer (some ⟨w.heap.size + 1, 0, none⟩)], .func (.func 23) #[] #[.pointer (some ⟨w.heap.size, 0, none⟩)]] ((w.alloc (.cells #[.map (some bm)] 36)).alloc (.cells #[.map (some bm)] 36)) fun e w' => ∃ v, e = .returned v ∧ OwnZ w' w.heap.size v (sortW c ds) ∧ Below w.heap.size w w') := by
    refine (sortedW_any c ds D (w.heap.size + 1) w.heap.size bm m _ (by simp) (by simp; omega) ?_ (k1.cell rfl) (own_chgL (S := fun _ => False) hown (Chg.of_below hb2 (Nat.le_refl _)) id) hH hn hd hl).mono ?_
    · simp
    · rintro e w' ⟨v, rfl, h1, h2⟩
      exact ⟨v, rfl, h1.mono hb2.size, hb2.trans (h2.mono hb2.size)⟩
  have cK : ∀ mb W, Calls Tryd.prog 22 #[.map mb] W fun e w' => e = .returned (.func (.func 30) #[] #[.pointer (some ⟨W.heap.size, 0, none⟩)]) ∧ w' = W.alloc (.cells #[.map mb] 36) := fun mb W => (callsIn_wide (n := 5)).1 (AnyZI.keys_in keysA Fence.wide 5 trivial rfl mb W)
  clear hown hH k1 k2 hb1 hb2
  go_enter Tryd.func14, Tryd.ntmps14
  go_wp2_with fail
  refine (cK _ _).mono ?_
  rintro e w' ⟨rfl, rfl⟩
  simp only [World.size_alloc]
  go_wp2_with fail
  refine HS.out.mono ?_
  rintro e w' ⟨v, rfl, h1, h2⟩
  go_wp2
  go_ret
  exact ⟨v, rfl, h1, h2⟩
end Go.Proofs.YtnagdgkkkkpekabDoor
