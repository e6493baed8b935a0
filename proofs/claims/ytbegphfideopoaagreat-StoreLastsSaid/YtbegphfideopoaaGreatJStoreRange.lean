/-
  What is proved here: what Range tells.
  Conditions: the store lies in memory.
-/
import Derived.Test.YtbegphfideopoaaGreatJStorePairs
namespace Go.Proofs.YtbegphfideopoaaGreat
open Go.RowKit Go.Maps

/-- What Range answers. -/
def RangeOk (w : World) (l : PM) (e : Ending) (w' : World) : Prop := ∃ v cells, e = .returned v ∧ Pairs8 w' w.heap.size v cells l ∧ Below w.heap.size w w'
theorem range_mem {begin : List UInt8} {m : PM} {p : List UInt8 × List UInt8} (h : p ∈ rangeM begin m) : p ∈ m := (List.mem_filter.1 h).1
set_option maxRecDepth 100000 in
set_option maxHeartbeats 4000000 in
theorem range_any8 {w : World} {SG : Nat} {L : PLay} {C : Nat → Prop} {x : SS} (h : PSt w SG L C x) (bv : Value) (begin : List UInt8) (hk : Seg w bv begin) (most : Int) :
    Calls Tryz.prog 18 #[.pointer (some ⟨SG, 0, none⟩), bv, .int .i64 most] w fun e w' => RangeOk w ((rangeM begin x.m).take most.toNat) e w' := by
  obtain ⟨G, Mb, CL, CV, hP, -⟩ := h.body
  have hpr := h.pairs
  have hml := h.len
  have hM := hP.map
  have hbd : Below w.heap.size w w.drew := (Below.refl _ _).drew
  have HC1 : Hid (∀ V, Below w.heap.size w V → V.cell? ⟨SG, 1, none⟩ = some (.map (some Mb))) := fun V hV => Blk.cell (Blk.below hP.st hV hP.st.lt) (j := 1) rfl
  obtain ⟨ka, kc, rfl⟩ := hk.shapeD
  have HK1 : Hid (∀ V, Below w.heap.size w V → (convert 34 9 (.slice ka begin.length kc)).run Tryz.prog V = .ok (.string ⟨begin.toArray⟩) V) := fun V hV => seg_stringD (hk.below hV (Nat.le_refl _)) 9 Tryz.underlying9
  have HKY : Hid (Calls Tryz.prog 41 #[.map (some Mb), .string ⟨begin.toArray⟩] w.drew fun e w' => ∃ v, e = .returned v ∧ w'.ownsRow w.drew.heap.size 9 1 v (keysB begin x.m).length ((keysB begin x.m).map encStr) ∧ Below w.drew.heap.size w.drew w') := keys_any Mb CV x.m begin w.drew (hM.after hbd) (by omega)
  have HM : Hid (∀ W, Below w.heap.size w W → MapP W CV Mb x.m) := fun W hW => hM.after hW
  have hrise := hM.rise
  rw [keysB_range] at HKY
  have hRm : Hid (∀ p ∈ rangeM begin x.m, lookM x.m p.1 = some p.2 ∧ p.1.length ≤ 64 ∧ p.2.length ≤ 1024) := fun p hp => ⟨mem_look hrise (range_mem hp), (hpr p (range_mem hp)).2⟩
  have hRl : (rangeM begin x.m).length ≤ 4000 := Nat.le_trans (List.length_filter_le ..) hml
  obtain ⟨R, hR⟩ : ∃ R, R = rangeM begin x.m := ⟨_, rfl⟩
  rw [← hR] at HKY hRm hRl ⊢
  obtain ⟨m, hmm⟩ : ∃ m, m = x.m := ⟨_, rfl⟩
  rw [← hmm] at HM hRm
  clear hR hmm hP h hpr hml hM hk hrise
  obtain ⟨N, hN, hNt⟩ : ∃ N : Nat, min (R.length : Int) (max most 0) = (N : Int) ∧ R.take most.toNat = R.take N ∧ N ≤ R.length := by
    refine ⟨min R.length most.toNat, by omega, ?_, Nat.min_le_left _ _⟩
    rw [List.take_eq_take_iff]
    omega
  rw [hNt.1]
  have hNl := hNt.2
  clear hNt
  go_enter Tryz.func18, Tryz.ntmps18
  go_wp2_with fail
  refine held_begin (fun V => Below w.heap.size w V) (by kernel_rfl) ?_
  refine held_take 0 11 _ (.pointer (some ⟨SG, 0, none⟩)) rfl rfl (by kernel_rfl) (by kernel_rfl) (by kernel_rfl) rfl hbd (fun _ _ => rfl) ?_
  simp only [Act.put, List.setIfInBounds_toArray, List.set_cons_succ, List.set_cons_zero]
  refine held_take 1 12 _ (.pointer (some ⟨SG, 0, none⟩)) rfl rfl (by kernel_rfl) (by kernel_rfl) (by kernel_rfl) rfl hbd (fun _ _ => rfl) ?_
  simp only [Act.put, List.setIfInBounds_toArray, List.set_cons_succ, List.set_cons_zero]
  refine held_take 2 13 _ (.pointer (some ⟨SG, 1, none⟩)) rfl rfl (by kernel_rfl) (by kernel_rfl) (by kernel_rfl) rfl hbd (fun _ _ => rfl) ?_
  simp only [Act.put, List.setIfInBounds_toArray, List.set_cons_succ, List.set_cons_zero]
  refine held_take 3 14 _ (.map (some Mb)) rfl rfl (by kernel_rfl) (by kernel_rfl) (by kernel_rfl) rfl hbd (fun V hV => exec_loadc 71 _ rfl _ _ rfl (load_one 71 (fun _ => by kernel_rfl) V _ _ _ (HC1.out V hV))) ?_
  simp only [Act.put, List.setIfInBounds_toArray, List.set_cons_succ, List.set_cons_zero]
  refine held_take 4 15 _ (.slice ka begin.length kc) rfl rfl (by kernel_rfl) (by kernel_rfl) (by kernel_rfl) rfl hbd (fun _ _ => rfl) ?_
  simp only [Act.put, List.setIfInBounds_toArray, List.set_cons_succ, List.set_cons_zero]
  refine held_take 5 16 _ (.string ⟨begin.toArray⟩) rfl rfl (by kernel_rfl) (by kernel_rfl) (by kernel_rfl) rfl hbd (fun V hV => exec_conv _ _ _ rfl _ _ rfl (HK1.out V hV)) ?_
  simp only [Act.put, List.setIfInBounds_toArray, List.set_cons_succ, List.set_cons_zero]
  refine held_all1 6 (by kernel_rfl) (op_call 6 17 _ 41 #[.map (some Mb), .string ⟨begin.toArray⟩] rfl rfl rfl (exec_two8 41 _ _ _ rfl _ _ rfl rfl Tryz.call41) (HKY.out.mono ?_))
  rintro e w4 ⟨kv, rfl, hK4, hb4⟩
  have hS4 : Below w.heap.size w w4 := blift hbd hb4 hbd.size
  refine ⟨_, rfl, hS4, ?_⟩
  simp only [Act.put, List.setIfInBounds_toArray, List.set_cons_succ, List.set_cons_zero]
  refine held_all1 7 (by kernel_rfl) (op_value 7 7 _ (kv) _ rfl rfl rfl (rfl) ⟨hS4, ?_⟩)
  simp only [Act.put, List.setIfInBounds_toArray, List.set_cons_succ, List.set_cons_zero]
  refine wpAnyH_done (by kernel_rfl) ?_ _
  refine NoPanic.normal ?_
  rw [List.length_map] at hK4
  have hB4 : Below w.heap.size w w4 := blift hbd hb4 hbd.size
  have hksl : ∃ ra rc, kv = .slice ra R.length rc := by
    rcases hK4.2 with ⟨rfl, h0⟩ | ⟨g, cap, cur, rfl, _⟩
    · exact ⟨none, 0, by rw [h0]⟩
    · exact ⟨_, _, rfl⟩
  obtain ⟨ra, rc, rfl⟩ := hksl
  clear HKY
  have hcap : N ≤ rc := by
    rcases hK4.2 with ⟨e, h0⟩ | ⟨g, cap, cur, e, _, _, hc, _⟩
    · omega
    · cases e; omega
  have hsl := slice_strs ra R.length rc N hcap w4
  go_wp2_with fail
  go_loopw [8, 26] (fun sv i wr => ∃ (I : Nat) (cells : List Value), i = .int .i64 (I : Int) ∧ I ≤ N ∧ Pairs8 wr w.heap.size sv cells (R.take I) ∧ wr.ownsRow w.drew.heap.size 9 1 (.slice ra R.length rc) R.length ((R.map (·.1)).map encStr) ∧ Below w.heap.size w wr) (fun _ i _ => N - (intOf i).toNat)
  case atStart => exact ⟨0, [], rfl, Nat.zero_le _, Pairs8.nil _ _, hK4, hB4⟩
  case round =>
    clear hsl hK4 hB4 hb4
    obtain ⟨I, cells, rfl, hI, hQ, hK, hB⟩ := hrel
    by_cases hlt : I < N
    · have i1 : (I : Int) < (N : Int) := by omega
      have hIR : I < R.length := by omega
      have hg : R[I]? = some R[I] := List.getElem?_eq_getElem hIR
      obtain ⟨p, hpp⟩ : ∃ p, R[I] = p := ⟨_, rfl⟩
      rw [hpp] at hg
      clear hpp
      obtain ⟨hlook, hp1, hp2⟩ := hRm.out p (List.mem_of_getElem? hg)
      obtain ⟨kg, rfl⟩ : ∃ kg, ra = some ⟨kg, 0, none⟩ := by
        rcases hK.2 with ⟨_, h0⟩ | ⟨g, cap, cur, e, _⟩
        · omega
        · cases e; exact ⟨g, rfl⟩
      have hkc : wr.cell? ⟨kg, I, none⟩ = some (.string ⟨p.1.toArray⟩) := by
        rw [hK.cellAt I (by omega), List.getElem?_map, List.getElem?_map, hg]
        rfl
      obtain ⟨cc, w5, hr5, hs5, hb5⟩ := conv_sb p.1 wr
      have hB5 := blift hB hb5 hB.size
      have hM5 := HM.out w5 hB5
      have c5 := HC1.out w5 hB5
      obtain ⟨va, vc, hr6, hs6⟩ : ∃ va vc, (Instr.lookup 71 (.map (some Mb)) (.string ⟨p.1.toArray⟩) false).run Tryz.prog w5 = .ok (.slice va p.2.length vc) w5 ∧ Seg w5 (.slice va p.2.length vc) p.2 := by
        obtain ⟨v, h1, h2⟩ := hM5.look p.1 (by unfold maxLen; omega) false
        rw [hlook] at h2
        obtain ⟨va, vc, rfl⟩ := h2.1.shapeD
        exact ⟨va, vc, h1, h2.1⟩
      have HT : Hid (R.take (I + 1) = R.take I ++ [p]) := by rw [Hid, List.take_add_one, hg]; rfl
      have hQl : (R.take I).length ≤ 1000000 := by rw [List.length_take]; omega
      obtain ⟨l, hl⟩ : ∃ l, l = R.take I := ⟨_, rfl⟩
      rw [← hl] at hQ HT hQl
      clear hlook hg hl hM5
      go_wp2_with fail
      refine (bclone_any _ p.2 w5 (by omega) hs6).mono ?_
      rintro e w6 ⟨v6, rfl, hO6, hb6⟩
      obtain ⟨xa, xc, rfl⟩ := Seg.shapeD hO6.seg
      have hb7 := (Below.refl w6.heap.size w6).alloc (Nat.le_refl _) (.cells #[.slice (some ⟨wr.heap.size, 0, none⟩) p.1.length cc, .slice xa p.2.length xc] 56)
      have hk7 := Blk.new w6 56 #[.slice (some ⟨wr.heap.size, 0, none⟩) p.1.length cc, .slice xa p.2.length xc]
      have hb56 := blift hb5 hb6 hb5.size
      have hb57 := blift hb56 hb7 hb56.size
      have hQ7 := hQ.below hb57
      have hQlt := fun q hq => (World.ownsRow.lt hQ.own q hq).2
      obtain ⟨v8, w8, hr8, hQ8, hg8⟩ := app_pair hQ7 w6.heap.size 1 p (some ⟨wr.heap.size, 0, none⟩) xa cc xc (hk7.cell (j := 0) rfl) (hk7.cell (j := 1) rfl)
        ⟨(hs5.below hb6 (Nat.le_refl _)).below hb7 (Nat.le_refl _), fun _ q hq => by have e3 : wr.heap.size = q := Option.some.inj hq; have h3 := hB.size; exact ⟨by omega, fun e => by have := hQlt q e; omega⟩⟩
        ⟨hO6.seg.below hb7 (Nat.le_refl _), fun _ q hq => by have h1 := (hO6.blocks q hq).1; have h2 := hb5.size; have h3 := hB.size; exact ⟨by omega, fun e => by have := hQlt q e; omega⟩⟩
        hQl (Nat.le_trans hB.size hb57.size)
      have hB7 := blift hB hb57 hB.size
      have hB8 : Below w.heap.size w w8 := below_grown hB7 hg8 hB7.size (fun q hq => (World.ownsRow.lt hQ.own q hq).1)
      have hK8 := World.ownsRow.kept (ownsRow_chg8 hK (Chg.of_below (S := fun _ => False) hb57 (Nat.le_refl _)) (fun _ _ h => h)) hg8 (row_ne_row (by decide) (ownsRow_chg8 hK (Chg.of_below (S := fun _ => False) hb57 (Nat.le_refl _)) (fun _ _ h => h)) hQ7.own)
      clear hb7 hk7 hb57 hb56 hQ7 hB7 hr5 hr6 hQ hK
      have hr8 : Hid (∀ ty, _ = _) := hr8
      go_wp2_with (at_builtin; refine app_ran _ w8 rfl (.tmp 30) (.tmp 41) 32 rfl _ _ v8 rfl rfl hr8.out ?_)
      go_roundw
      case rel => exact ⟨I + 1, _, by go_num, by omega, by rw [HT.out]; exact hQ8, hK8, hB8⟩
      case measure => simp [intOf]; omega
    · have i1 : ¬ (I : Int) < (N : Int) := by omega
      obtain hIN : I = N := by omega
      subst hIN
      clear hK
      go_wp2_with fail
      go_ret
      exact ⟨_, cells, rfl, hQ, hB⟩
end Go.Proofs.YtbegphfideopoaaGreat
