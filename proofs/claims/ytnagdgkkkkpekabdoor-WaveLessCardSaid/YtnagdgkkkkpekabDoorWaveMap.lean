/-
  What is proved here: the map of devices' lots, and how two devices compare by it.
  Conditions: those that each fact names.
-/
import Derived.Test.YtnagdgkkkkpekabDoorWaveLot
import Derived.Maps.OwnSet
import Derived.Lib.SlKeysI
namespace Go.Proofs.YtnagdgkkkkpekabDoor
open Go.RowKit Go.Maps

noncomputable abbrev lotR : Value → Option (DataW Unit × List MemPlace) := plainElem Tryd.prog 43
theorem keyL : Keyed Tryd.prog 3 := int_keyed Tryd.underlying3
theorem key_intL (k : Int) (h1 : -9223372036854775808 ≤ k) (h2 : k ≤ 9223372036854775807) : keyOf Tryd.prog 3 (.int .i64 k) = some (.int .i64 k) := keyOf_int_mk Tryd.underlying3 (WalkArith.wf_i64 (by omega))
theorem lotR_mk (s : BitVec 32) : lotR (v32 s) = some (.lit (.int .u32 (n32 s)), []) := plainElem_int Tryd.underlying43 (WalkArith.wf_u32 (by unfold n32; omega))
theorem zeroU (w : World) : (zeroValue 43).run Tryd.prog w = .ok (v32 0#32) w := by kernel_rfl
/-- What a map of lots holds. -/
structure HoldsL (c : Int) (D : DataW Unit) (l : List Int) : Prop where
  has : ∀ q : Int, Maps.has D (.int .i64 q) = decide (q ∈ l)
  is : ∀ d ∈ l, ∀ z, D.atKey (.int .i64 d) z = .lit (.int .u32 (n32 (lotW c d)))
  size : Maps.size D = l.length
theorem HoldsL.nil (c : Int) : HoldsL c (.map []) [] := ⟨fun _ => rfl, (fun e he => by cases he), rfl⟩
theorem HoldsL.put {c : Int} {D : DataW Unit} {l : List Int} (h : HoldsL c D l) (hT : Tidy D) (d : Int) (hk : WideAt.IsKeyLit (.int .i64 d)) (hl : d ∉ l) : HoldsL c (D.put (.int .i64 d) (.lit (.int .u32 (n32 (lotW c d))))) (l ++ [d]) := by
  refine ⟨fun q => ?_, fun y hy z => ?_, ?_⟩
  · by_cases hq : q = d
    · subst hq
      rw [has_put_same hT.isMap hk]
      simp
    · rw [has_put_other (by simpa using hq), h.has q]
      simp [hq]
  · by_cases hq : y = d
    · subst hq
      rw [atKey_put_same hT.isMap hk]
    · rw [atKey_put_other (by simpa using hq)]
      refine h.is y ?_ z
      simpa [hq] using hy
  · rw [size_put hT, h.has, decide_eq_false hl, if_neg (by decide), h.size, List.length_append]
    rfl
theorem own_chgL {S : Nat → Prop} {w w' : World} {b m : Nat} {D : DataW Unit} (h : w.ownsMap Tryd.prog 3 lotR b m D) (hc : Chg S w w') (hb : ¬ S b) : w'.ownsMap Tryd.prog 3 lotR b m D := by
  have hl := h.lt
  obtain ⟨es, clock, h1, r⟩ := h
  exact ⟨es, clock, (hc.2 b hl hb).trans h1, r⟩
/-- What a look at the map tells. -/
def lotF (c : Int) (l : List Int) (q : Int) : BitVec 32 := if q ∈ l then lotW c q else 0#32
theorem v32_inj {a b : BitVec 32} (h : n32 a = n32 b) : a = b := by
  unfold n32 at h
  exact BitVec.eq_of_toNat_eq (by omega)
theorem look_okL {w : World} {b m : Nat} {D : DataW Unit} {c : Int} {l : List Int} (hown : w.ownsMap Tryd.prog 3 lotR b m D) (hH : HoldsL c D l) (q : Int) (h1 : -9223372036854775808 ≤ q) (h2 : q ≤ 9223372036854775807) :
    (Instr.lookup 36 (.map (some b)) (.int .i64 q) true).run Tryd.prog w = .ok (.tuple #[v32 (lotF c l q), .bool (decide (q ∈ l))]) w := by
  obtain ⟨v, ps, hrun, hv⟩ := hown.look_ok keyL Tryd.underlying36 (zeroU w) (lotR_mk _) (key_intL q h1 h2)
  obtain ⟨a, rfl, e, _⟩ := plainElem_int_inv Tryd.underlying43 hv
  rw [hrun, hH.has]
  unfold lotF
  by_cases hq : q ∈ l
  · rw [hH.is q hq] at e
    have : n32 (lotW c q) = a := (by simpa using e : n32 (lotW c q) = a ∧ ps = []).1
    rw [if_pos hq, ← this]
  · rw [atKey_of_not_has (by rw [hH.has, decide_eq_false hq])] at e
    have : n32 0#32 = a := (by simpa using e : n32 0#32 = a ∧ ps = []).1
    rw [if_neg hq, ← this]
theorem lookL {w : World} {b m : Nat} {D : DataW Unit} {c : Int} {l : List Int} (hown : w.ownsMap Tryd.prog 3 lotR b m D) (hH : HoldsL c D l) (q : Int) (h1 : -9223372036854775808 ≤ q) (h2 : q ≤ 9223372036854775807) :
    (Instr.lookup 36 (.map (some b)) (.int .i64 q) false).run Tryd.prog w = .ok (v32 (lotF c l q)) w := by
  obtain ⟨v, ps, hrun, hv⟩ := hown.lookup keyL Tryd.underlying36 (zeroU w) (lotR_mk _) (key_intL q h1 h2)
  obtain ⟨a, rfl, e, _⟩ := plainElem_int_inv Tryd.underlying43 hv
  rw [hrun]
  unfold lotF
  by_cases hq : q ∈ l
  · rw [hH.is q hq] at e
    have : n32 (lotW c q) = a := (by simpa using e : n32 (lotW c q) = a ∧ ps = []).1
    rw [if_pos hq, ← this]
  · rw [atKey_of_not_has (by rw [hH.has, decide_eq_false hq])] at e
    have : n32 0#32 = a := (by simpa using e : n32 0#32 = a ∧ ps = []).1
    rw [if_neg hq, ← this]
theorem HoldsL.perm {w : World} {b m : Nat} {D : DataW Unit} {c : Int} {l : List Int} (h : HoldsL c D l) (hown : w.ownsMap Tryd.prog 3 lotR b m D) (hn : l.Nodup) : l.Perm (intKeys D) := by
  obtain ⟨es, hD, hpw, _⟩ := hown.entries keyL
  obtain ⟨es', hD', hko⟩ := hown.keysOf
  obtain rfl : es = es' := by rw [hD] at hD'; simpa using hD'
  subst hD
  refine perm_intKeys hpw (fun p hp => by obtain ⟨v, hv⟩ := hko p hp; obtain ⟨x, _, hx, _⟩ := Maps.keyOf_i64 Tryd.underlying3 hv; exact ⟨x, hx⟩) hn (fun x => ?_)
  rw [h.has x, decide_eq_true_iff]

set_option maxRecDepth 100000 in
set_option maxHeartbeats 1000000 in
/-- The lots of devices, and whether each comes once. -/
theorem lotsOf_any (c : Nat) (x : Value) (ds : List Int) (w : World) (hgf : 0 < w.heap.size) (hf : Tab w 0 (fours.map v32)) (hc : c ≤ 1073741824) (hd : ∀ d ∈ ds, 1 ≤ d ∧ d ≤ 4096) (hl : ds.length ≤ 1000000) (hI : IntsI w x ds) :
    Calls Tryd.prog 12 #[.int .i64 (c : Int), x] w fun e w' => ((ds.Nodup ∧ ∃ b, e = .returned (.tuple #[.map (some b), .bool true]) ∧ w.heap.size ≤ b ∧ ∃ m D, w'.ownsMap Tryd.prog 3 lotR b m D ∧ HoldsL c D ds) ∨ (¬ ds.Nodup ∧ e = .returned (.tuple #[.map none, .bool false]))) ∧ Below w.heap.size w w' := by
  have HR : Hid (0 < ds.length → ∃ b off c, x = .slice (some ⟨b, off, none⟩) ds.length c ∧ ds.length ≤ c ∧ b < w.heap.size ∧ ∀ (j : Nat) z, ds[j]? = some z → w.cell? ⟨b, off + j, none⟩ = some (vI z)) := fun h => hI.form h
  obtain ⟨ao, cp, rfl⟩ := hI.shape
  have HLO : Hid (∀ (d : Nat) (W : World), Below w.heap.size w W → d ≤ 1073741824 → Calls Tryd.prog 19 #[.int .i64 (c : Int), .int .i64 (d : Int)] W fun e w' => e = .returned (v32 (lotW c d)) ∧ Below W.heap.size W w') := fun d W hB h => lotOf_any c d W (Nat.lt_of_lt_of_le hgf hB.size) (hf.below hB hgf) hc h
  clear hI hgf hf
  have hown0 : (w.alloc (.map #[] 0)).ownsMap Tryd.prog 3 lotR w.heap.size 0 (.map []) := World.ownsMap_made (H := Unit) w Tryd.prog 3 lotR
  have hB0 : Below w.heap.size w (w.alloc (.map #[] 0)) := (Below.refl _ _).alloc (Nat.le_refl _) _
  have hmm := @run_makeMap Tryd.prog
  obtain ⟨bm, hbm⟩ : ∃ b, b = w.heap.size := ⟨_, rfl⟩
  have HBM : Hid (bm = w.heap.size) := hbm
  go_enter Tryd.func12, Tryd.ntmps12
  go_wp2_with fail
  rw [← hbm] at hown0 ⊢
  generalize w.alloc (.map #[] 0) = w5 at *
  clear hbm hmm
  go_loopw [14] (fun i wr => ∃ (k m : Nat) (D : DataW Unit), k ≤ ds.length ∧ i = .int .i64 (k : Int) ∧ Below w.heap.size w wr ∧ wr.ownsMap Tryd.prog 3 lotR bm m D ∧ m ≤ k ∧ HoldsL c D (ds.take k) ∧ Hid (ds.take k).Nodup) (fun i _ => ds.length - (Go.RowKit.intOf i).toNat)
  case atStart => exact ⟨0, 0, _, Nat.zero_le _, rfl, hB0, hown0, Nat.le_refl _, HoldsL.nil _, List.nodup_nil⟩
  case round =>
    clear hown0 hB0
    obtain ⟨k, m, D, hk, rfl, hB, hown, hmk, hH, HN⟩ := hrel
    by_cases hlt : k < ds.length
    · obtain ⟨b, off, c', hx, _, hb, hr⟩ := HR.out (by omega)
      cases hx
      have hc1 := hr k _ (List.getElem?_eq_getElem hlt)
      have ix := fun w => index_intsI b off ds.length cp k w hlt
      have hdd := hd ds[k] (List.getElem_mem hlt)
      obtain ⟨y, hy⟩ : ∃ y, y = ds[k] := ⟨_, rfl⟩
      rw [← hy] at hc1 hdd
      have HY : Hid (y = ds[k]) := hy
      clear hy hr
      obtain ⟨d, rfl⟩ := Int.eq_ofNat_of_zero_le (show 0 ≤ y by omega)
      have hc2 : wr.cell? ⟨b, off + k, none⟩ = some (vI d) := (hB.cell (p := ⟨b, off + k, none⟩) hb).trans hc1
      have hlk := look_okL hown hH d (by omega) (by omega)
      have HDT : Hid (ds.take (k + 1) = ds.take k ++ [(d : Int)]) := by
        rw [List.take_add_one, List.getElem?_eq_getElem hlt, ← HY.out]; rfl
      have HOW : Hid (wr.ownsMap Tryd.prog 3 lotR bm m D) := hown
      have HHH : Hid (HoldsL c D (ds.take k)) := hH
      clear hown hH
      by_cases hm2 : (d : Int) ∈ ds.take k
      · have hdec : decide ((d : Int) ∈ ds.take k) = true := decide_eq_true hm2
        rw [hdec] at hlk
        have HND : Hid (¬ ds.Nodup) := fun hnd => by
          have h1 : (ds.take (k + 1)).Nodup := hnd.sublist (List.take_sublist _ _)
          rw [HDT.out, List.nodup_append] at h1
          exact h1.2.2 _ hm2 _ (List.mem_singleton.2 rfl) rfl
        generalize lotF c (ds.take k) d = LF at *
        clear hdec hm2
        go_wp2
        go_ret2
        exact ⟨.inr ⟨HND.out, rfl⟩, hB⟩
      · have hdec : decide ((d : Int) ∈ ds.take k) = false := decide_eq_false hm2
        rw [hdec] at hlk
        have HNM : Hid (¬ (d : Int) ∈ ds.take k) := hm2
        generalize lotF c (ds.take k) d = LF at *
        clear hdec hm2
        go_wp2_with fail
        refine (HLO.out d wr hB (by omega)).mono ?_
        rintro e w1 ⟨rfl, hb1⟩
        have hB1 : Below w.heap.size w w1 := hB.trans (hb1.mono hB.size)
        have HO1 : Hid (w1.ownsMap Tryd.prog 3 lotR bm m D) := own_chgL (S := fun _ => False) HOW.out (Chg.of_below hb1 (Nat.le_refl _)) id
        have HK : Hid (keyOf Tryd.prog 3 (.int .i64 (d : Int)) = some (.int .i64 (d : Int))) := key_intL d (by omega) (by omega)
        have HML : Hid (m < maxLen) := by show m < maxLen; unfold maxLen; omega
        go_wp2_with (at_mapUpdate; refine wpList_mapUpdate_own _ rfl _ _ _ 36 rfl 3 43 keyL Tryd.underlying36 lotR bm m D rfl HO1.out HML.out _ _ _ rfl rfl HK.out (.lit (.int .u32 (n32 (lotW c d)))) [] (lotR_mk _) ?_; intro w7 hown7 hg7)
        have hB7 : Below w.heap.size w w7 := hB1.grown hg7 hB1.size (fun j hj => by cases hj; rw [HBM.out]; exact Nat.le_refl _)
        have hH7 : HoldsL c (D.put (.int .i64 (d : Int)) (.lit (.int .u32 (n32 (lotW c d))))) (ds.take (k + 1)) := by
          rw [HDT.out]
          exact HHH.out.put (HO1.out.tidy keyL) d (keyL.key HK.out) HNM.out
        go_roundw
        case rel =>
          refine ⟨k + 1, m + 1, _, hlt, by go_num, hB7, hown7, by omega, hH7, ?_⟩
          show (ds.take (k + 1)).Nodup
          rw [HDT.out, List.nodup_append]
          exact ⟨HN.out, by simp, fun a ha b hb => by rw [List.mem_singleton.1 hb]; rintro rfl; exact HNM.out ha⟩
        case measure => simp [Go.RowKit.intOf]; omega
    · have hkl : k = ds.length := by omega
      have HH2 : Hid (HoldsL c D ds ∧ ds.Nodup) := by
        rw [hkl, List.take_length] at hH HN
        exact ⟨hH, HN.out⟩
      have hni : ¬ (k : Int) < (ds.length : Int) := by omega
      clear hH HN hkl
      go_wp2
      go_ret2
      exact ⟨.inl ⟨HH2.out.2, bm, rfl, by rw [HBM.out]; exact Nat.le_refl _, m, D, hown, HH2.out.1⟩, hB⟩
end Go.Proofs.YtnagdgkkkkpekabDoor
