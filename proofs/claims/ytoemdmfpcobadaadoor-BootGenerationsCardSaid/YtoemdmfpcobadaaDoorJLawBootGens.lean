/-
  What is proved here: BootGenerations: each Save that is OK has one generation more, also behind openings between; the record is that of the last one.
  Conditions: the variable fourBits holds the sixteen words.
-/
import Derived.Test.YtoemdmfpcobadaaDoorJBootKG
import Derived.Test.YtoemdmfpcobadaaDoorJBootBoots
namespace Go.Proofs.YtoemdmfpcobadaaDoor
open Go.RowKit

theorem index_boots (b off len c I : Nat) (w : World) (h : I < len) : (Instr.indexAt 55 (.slice (some ⟨b, off, none⟩) len c) (.int .i64 (I : Int))).run Tryd.prog w = .ok (.pointer (some ⟨b, off + I * 5, none⟩)) w := by
  have hs : ∀ w, (sizeOf 40).run Tryd.prog w = .ok 5 w := fun w => by kernel_rfl
  have hi : (0 : Int) ≤ (I : Int) ∧ (I : Int) < (len : Int) := by omega
  simp [Instr.indexAt, asIntOf, run_underlying Tryd.underlying55, hs, hi, Addr.add_mid]
  intro h2
  omega
theorem neq_same9 (z : Int) (w : World) : (binOp .neq 3 (.int .i64 z) (.int .i64 z)).run Tryd.prog w = .ok (.bool false) w := by
  have h : (binOp .neq 3 (.int .i64 z) (.int .i64 z)).run Tryd.prog w = .ok (.bool (!(z == z))) w := by kernel_rfl
  rw [h]
  simp
/-- What a law holds between two openings. -/
structure Stand (w W : World) (L : PLay6) (n e G : Nat) (R : BR) (s : FS) : Prop where
  fl : PFlash W L s
  well : Well s n e
  last : Last9 s 0 G R
  there : 0 < G → ∃ wh i : Nat, wh ≤ 1 ∧ i < 32 ∧ decE (plB s (0 + wh) i) = some (G, R)

set_option maxRecDepth 100000 in
set_option maxHeartbeats 8000000 in
theorem bootGenerations_any (v : Value) (l : List BR) (w : World) (hl : Boots w v l) (hgf : 1 < w.heap.size) (hf : Tab w 1 (fours.map v32)) : Calls Tryd.prog 4 #[v] w fun e w' => e = .returned (.bool true) ∧ Below w.heap.size w w' := by
  obtain ⟨ao, c, rfl, hmx, hcs⟩ := hl
  have HCS : Hid (∀ i b, l[i]? = some b → ∃ g off, ao = some ⟨g, off, none⟩ ∧ g < w.heap.size ∧ ∀ (j : Nat) x, (brL b)[j]? = some x → w.cell? ⟨g, off + i * 5 + j, none⟩ = some x) := hcs
  clear hcs
  have hll : (l.length : Int) ≤ 9223372036854775807 := by unfold maxLen at hmx; omega
  clear hmx
  have HA : Hid (Calls Tryd.prog 5 #[] w fun e w' => e = .returned (.bool true) ∧ Below w.heap.size w w') := awake9_any _ hgf hf
  have HNW : Hid (∀ W : World, Calls Tryd.prog 7 #[.int .i64 2, .int .i64 10000] W fun e w' => ∃ L : PLay6, e = .returned (.tuple #[.pointer (some ⟨L.g, 0, none⟩), .int .i64 0]) ∧ L.n = 2 ∧ PFlash w' L (newF 2 10000) ∧ Below W.heap.size W w' ∧ (∀ q, L.T q → W.heap.size ≤ q)) := fun W => thePF.new_any 2 10000 W (by decide) (by decide) (by decide) (by decide)
  have HRG : Hid (∀ (b : BR) W, Calls Tryd.prog 25 #[brV b] W fun e w' => e = .returned (.bool (rightR b)) ∧ Below W.heap.size W w') := fun b W => right9_any b W
  have HF : Hid (Tab w 1 (fours.map v32)) := hf
  clear hf
  go_enter Tryd.func4, Tryd.ntmps4
  go_wp2_with fail
  refine HA.out.mono ?_
  rintro e w1 ⟨rfl, hB1⟩
  clear HA
  go_wp2_with fail
  refine (HNW.out _).mono ?_
  rintro e w3 ⟨L, rfl, hn, hD3, hb3, hT3⟩
  clear HNW
  have hB3 : Below w.heap.size w w3 := hB1.trans (hb3.mono hB1.size)
  have HOW : Hid (∀ q, L.T q → w.heap.size ≤ q) := fun q hq => Nat.le_trans hB1.size (hT3 q hq)
  have HLN : Hid (L.n = 2) := hn
  clear hb3 hB1 hT3 hn
  by_cases h150 : 150 < l.length
  · have i1 : (150 : Int) < (l.length : Int) := by omega
    go_wp2
    go_ret
    exact ⟨rfl, hB3⟩
  have i1 : ¬ (150 : Int) < (l.length : Int) := by omega
  have hb4 := (Below.refl w3.heap.size w3).alloc (Nat.le_refl _) (.cells (brL BR.zero) 40)
  have k7 := Blk.new w3 40 (brL BR.zero)
  have hD4 := thePF.after hD3 hb4
  have hB4 : Below w.heap.size w (w3.alloc (.cells (brL BR.zero) 40)) := hB3.trans (hb4.mono hB3.size)
  obtain ⟨B7, hB7⟩ : ∃ B7, B7 = w3.heap.size := ⟨_, rfl⟩
  rw [← hB7] at k7
  have hB7w : w.heap.size ≤ B7 := by have := hB3.size; omega
  have hB7T : ¬ L.T B7 := fun h => by have := hD3.lt B7 h; omega
  have HST : Hid (Stand w (w3.alloc (.cells (brL BR.zero) 40)) L 2 0 0 BR.zero (newF 2 10000)) := ⟨hD4, new_well 2 (by decide) (by decide), new_last 2 0 (by decide), fun h => by cases h⟩
  have HK7 : Hid (Blk (w3.alloc (.cells (brL BR.zero) 40)) B7 40 (brL BR.zero)) := k7
  clear hD4 hD3 hb4 k7 hB3
  go_wp2_with fail
  rw [← hB7]
  clear hB7
  go_loopw [6, 8] (fun nv iv wr => ∃ (N I : Nat) (R : BR) (s : FS), nv = .int .i64 (N : Int) ∧ iv = .int .i64 (I : Int) ∧ N ≤ I ∧ I ≤ l.length ∧ Stand w wr L 2 I N R s ∧ Blk wr B7 40 (brL R) ∧ Below w.heap.size w wr) (fun _ iv _ => l.length - (intOf iv).toNat)
  case atStart => exact ⟨0, 0, BR.zero, _, rfl, rfl, Nat.le_refl _, Nat.zero_le _, HST.out, HK7.out, hB4⟩
  case round =>
    clear HST HK7 hB4
    obtain ⟨N, I, R, s, rfl, rfl, hNI, hIl, hST, y7, hBr⟩ := hrel
    by_cases hlt : I < l.length
    case neg =>
      have j1 : ¬ (I : Int) < (l.length : Int) := by omega
      go_wp2
      go_ret
      exact ⟨rfl, hBr⟩
    have j1 : (I : Int) < (l.length : Int) := by omega
    obtain ⟨b, hb⟩ : ∃ b, l[I]? = some b := ⟨l[I], List.getElem?_eq_getElem hlt⟩
    obtain ⟨gb, off, rfl, hgb, hce⟩ := HCS.out I b hb
    have HCE : Hid (∀ W, Below w.heap.size w W → ∀ (j : Nat) x, (brL b)[j]? = some x → W.cell? ⟨gb, off + I * 5 + j, none⟩ = some x) := fun W hW j x hx => (hW.cell (p := ⟨gb, off + I * 5 + j, none⟩) hgb).trans (hce j x hx)
    have hix := fun W => index_boots gb off l.length c I W hlt
    clear hce hb
    have HOP : Hid (Calls Tryd.prog 9 #[.pointer (some ⟨L.g, 0, none⟩), .int .i64 0] wr fun e' W' => ∃ g k, e' = .returned (.tuple #[.pointer (some ⟨g, 0, none⟩), .int .i64 0]) ∧ KG w W' L g 0 2 I k s ∧ k.gen = N ∧ k.r = R ∧ Below wr.heap.size wr W' ∧ wr.heap.size ≤ g) := open_kg hST.fl hST.well HLN.out HOW.out hST.last hST.there hBr (by decide) hgf HF.out
    clear hST
    go_wp2_with fail
    refine HOP.out.mono ?_
    rintro e w4 ⟨g, k, rfl, hKG, hkg, hkr, hb4, hgw⟩
    clear HOP
    have x7 := y7.below hb4 y7.lt
    have hB4 : Below w.heap.size w w4 := hBr.trans (hb4.mono hBr.size)
    have hB7g : B7 ≠ g := by have := y7.lt; omega
    have HGN : Hid (∀ W, Below w4.heap.size w4 W → Calls Tryd.prog 22 #[.pointer (some ⟨g, 0, none⟩)] W fun e w' => e = .returned (.int .i64 (N : Int)) ∧ w' = W) := fun W hW => by have h9 := gen9_any L g 0 k W (hKG.blk.below hW hKG.blk.lt); rw [hkg] at h9; exact h9
    have HRC : Hid (∀ W, Below w4.heap.size w4 W → Calls Tryd.prog 21 #[.pointer (some ⟨g, 0, none⟩)] W fun e w' => e = .returned (brV R) ∧ Below W.heap.size W w') := fun W hW => by have h9 := record9_any L g 0 k W (hKG.blk.below hW hKG.blk.lt); rw [hkr] at h9; exact h9
    have HKN : Hid (k.gen = N) := hkg
    have HKR : Hid (k.r = R) := hkr
    clear hkg hkr hb4 hgw y7 hBr
    have HNE : Hid (∀ w, (binOp .neq 40 (brV R) (brV R)).run Tryd.prog w = .ok (.bool false) w) := fun w => by unfold brV brL; rw [ne_br]; simp
    go_wp2_with fail
    have HCL : Hid (∀ V, Below w4.heap.size w4 V → V.rangeAt B7 0 (brL R).toList) := fun V hV => (x7.below hV x7.lt).range'
    have hx0 : Below w4.heap.size w4 w4.drew := (Below.refl _ _).drew
    have hS0 := HCL.out w4.drew hx0
    refine held_begin (fun V => V.rangeAt B7 0 (brL R).toList) (by kernel_rfl) ?_
    refine held_take 0 50 _ (.int .i64 0) rfl rfl (by kernel_rfl) (by kernel_rfl) (by kernel_rfl) rfl hS0 (fun _ _ => rfl) ?_
    simp only [Act.put, List.setIfInBounds_toArray, List.set_cons_succ, List.set_cons_zero]
    refine held_take 1 51 _ (.bool false) rfl rfl (by kernel_rfl) (by kernel_rfl) (by kernel_rfl) rfl hS0 (fun V _ => exec_cmp .neq 26 26 _ _ rfl (.inl rfl) (.int .i64 0) (.int .i64 0) (.bool false) rfl rfl (by kernel_rfl) (by kernel_rfl)) ?_
    simp only [Act.put, List.setIfInBounds_toArray, List.set_cons_succ, List.set_cons_zero]
    refine held_take 2 52 _ (.bool false) rfl rfl (by kernel_rfl) (by kernel_rfl) (by kernel_rfl) rfl hS0 (fun _ _ => rfl) ?_
    simp only [Act.put, List.setIfInBounds_toArray, List.set_cons_succ, List.set_cons_zero]
    refine held_take 3 53 _ (.pointer (some ⟨g, 0, none⟩)) rfl rfl (by kernel_rfl) (by kernel_rfl) (by kernel_rfl) rfl hS0 (fun _ _ => rfl) ?_
    simp only [Act.put, List.setIfInBounds_toArray, List.set_cons_succ, List.set_cons_zero]
    refine held_take 4 54 _ (.bool false) rfl rfl (by kernel_rfl) (by kernel_rfl) (by kernel_rfl) rfl hS0 (fun V _ => exec_cmp .eql 32 32 _ _ rfl (.inr rfl) (.pointer (some ⟨g, 0, none⟩)) (.pointer none) (.bool false) rfl rfl (by kernel_rfl) (by kernel_rfl)) ?_
    simp only [Act.put, List.setIfInBounds_toArray, List.set_cons_succ, List.set_cons_zero]
    refine held_take 5 55 _ (.bool false) rfl rfl (by kernel_rfl) (by kernel_rfl) (by kernel_rfl) rfl hS0 (fun _ _ => rfl) ?_
    simp only [Act.put, List.setIfInBounds_toArray, List.set_cons_succ, List.set_cons_zero]
    refine held_take 6 56 _ (.bool false) rfl rfl (by kernel_rfl) (by kernel_rfl) (by kernel_rfl) rfl hS0 (fun _ _ => rfl) ?_
    simp only [Act.put, List.setIfInBounds_toArray, List.set_cons_succ, List.set_cons_zero]
    refine held_take 7 57 _ (.pointer (some ⟨g, 0, none⟩)) rfl rfl (by kernel_rfl) (by kernel_rfl) (by kernel_rfl) rfl hS0 (fun _ _ => rfl) ?_
    simp only [Act.put, List.setIfInBounds_toArray, List.set_cons_succ, List.set_cons_zero]
    refine held_take 9 59 _ (.int .i64 (N : Int)) rfl rfl (by kernel_rfl) (by kernel_rfl) (by kernel_rfl) rfl hS0 (fun _ _ => rfl) ?_
    simp only [Act.put, List.setIfInBounds_toArray, List.set_cons_succ, List.set_cons_zero]
    refine held_all1 8 (by kernel_rfl) (op_call 8 58 _ 22 #[.pointer (some ⟨g, 0, none⟩)] rfl rfl rfl (exec_one 22 _ _ rfl _ rfl Tryd.call22) ((HGN.out _ hx0).mono ?_))
    rintro e W5 ⟨rfl, rfl⟩
    refine ⟨_, rfl, hS0, ?_⟩
    simp only [Act.put, List.setIfInBounds_toArray, List.set_cons_succ, List.set_cons_zero]
    refine held_take 10 60 _ (.bool false) rfl rfl (by kernel_rfl) (by kernel_rfl) (by kernel_rfl) rfl hS0 (fun V _ => exec_cmp .neq 3 3 _ _ rfl (.inl rfl) (.int .i64 (N : Int)) (.int .i64 (N : Int)) (.bool false) rfl rfl (by kernel_rfl) (neq_same9 (N : Int) V)) ?_
    simp only [Act.put, List.setIfInBounds_toArray, List.set_cons_succ, List.set_cons_zero]
    refine held_take 11 61 _ (.bool false) rfl rfl (by kernel_rfl) (by kernel_rfl) (by kernel_rfl) rfl hS0 (fun _ _ => rfl) ?_
    simp only [Act.put, List.setIfInBounds_toArray, List.set_cons_succ, List.set_cons_zero]
    refine held_take 12 62 _ (.bool false) rfl rfl (by kernel_rfl) (by kernel_rfl) (by kernel_rfl) rfl hS0 (fun _ _ => rfl) ?_
    simp only [Act.put, List.setIfInBounds_toArray, List.set_cons_succ, List.set_cons_zero]
    refine held_take 13 63 _ (.pointer (some ⟨g, 0, none⟩)) rfl rfl (by kernel_rfl) (by kernel_rfl) (by kernel_rfl) rfl hS0 (fun _ _ => rfl) ?_
    simp only [Act.put, List.setIfInBounds_toArray, List.set_cons_succ, List.set_cons_zero]
    refine held_take 15 65 _ (brV R) rfl rfl (by kernel_rfl) (by kernel_rfl) (by kernel_rfl) rfl hS0 (fun V hV => exec_loads 40 _ rfl B7 0 rfl (brL R).toList _ hV Tryd.underlying40 rfl info_boot9) ?_
    simp only [Act.put, List.setIfInBounds_toArray, List.set_cons_succ, List.set_cons_zero]
    refine held_all1 14 (by kernel_rfl) (op_call 14 64 _ 21 #[.pointer (some ⟨g, 0, none⟩)] rfl rfl rfl (exec_one 21 _ _ rfl _ rfl Tryd.call21) ((HRC.out _ hx0).mono ?_))
    rintro e W6 ⟨rfl, hb6⟩
    have hx6 : Below w4.heap.size w4 W6 := hx0.trans hb6
    have hS6 := HCL.out W6 hx6
    refine ⟨_, rfl, hS6, ?_⟩
    simp only [Act.put, List.setIfInBounds_toArray, List.set_cons_succ, List.set_cons_zero]
    refine held_take 16 66 _ (.bool false) rfl rfl (by kernel_rfl) (by kernel_rfl) (by kernel_rfl) rfl hS6 (fun V _ => exec_cmp .neq 40 40 _ _ rfl (.inl rfl) (brV R) (brV R) (.bool false) rfl rfl (run_eqGuard_agg V .neq 40 _ _ _ _ (by kernel_rfl)) (HNE.out V)) ?_
    simp only [Act.put, List.setIfInBounds_toArray, List.set_cons_succ, List.set_cons_zero]
    refine held_take 17 67 _ (.bool false) rfl rfl (by kernel_rfl) (by kernel_rfl) (by kernel_rfl) rfl hS6 (fun _ _ => rfl) ?_
    simp only [Act.put, List.setIfInBounds_toArray, List.set_cons_succ, List.set_cons_zero]
    refine wpAnyH_done (by kernel_rfl) ?_ _
    refine NoPanic.normal ?_
    have z7 := x7.below hx6 x7.lt
    have hB6 : Below w.heap.size w W6 := hB4.trans (hx6.mono hB4.size)
    have hKG6 := hKG.chg (Chg.of_below (S := fun _ => False) hx6 (Nat.le_refl _)) (fun _ h => h.elim)
    clear hS0 hS6 hx0 hx6 hb6 HCL HGN HRC HNE x7 hKG hB4
    have c0 : W6.cell? ⟨gb, off + I * 5, none⟩ = some (.int .i64 b.active) := HCE.out W6 hB6 0 _ rfl
    have c1 : W6.cell? ⟨gb, off + I * 5 + 1, none⟩ = some (.int .i64 b.trial) := HCE.out W6 hB6 1 _ rfl
    have c2 : W6.cell? ⟨gb, off + I * 5 + 2, none⟩ = some (.int .i64 b.tries) := HCE.out W6 hB6 2 _ rfl
    have c3 : W6.cell? ⟨gb, off + I * 5 + 3, none⟩ = some (.int .i64 b.v0) := HCE.out W6 hB6 3 _ rfl
    have c4 : W6.cell? ⟨gb, off + I * 5 + 4, none⟩ = some (.int .i64 b.v1) := HCE.out W6 hB6 4 _ rfl
    cases hrr : rightR b with
    | true =>
      have hrg := HRG.out b
      rw [hrr] at hrg
      have HR2 : Hid (∀ W, Calls Tryd.prog 25 #[.agg #[.int .i64 b.active, .int .i64 b.trial, .int .i64 b.tries, .int .i64 b.v0, .int .i64 b.v1]] W fun e w' => e = .returned (.bool true) ∧ Below W.heap.size W w') := hrg
      clear hrg HRG
      have hbok : b.ok := of_decide_eq_true hrr
      have HSV : Hid (Calls Tryd.prog 19 #[.pointer (some ⟨g, 0, none⟩), .agg #[.int .i64 b.active, .int .i64 b.trial, .int .i64 b.tries, .int .i64 b.v0, .int .i64 b.v1]] W6 fun e' W' => e' = .returned (.int .i64 0) ∧ ∃ k' s', KG w W' L g 0 2 (I + 1) k' s' ∧ k'.gen = k.gen + 1 ∧ k'.r = b ∧ Chg (kT L g) W6 W') := hKG6.save hB6 (by decide) (by omega) b hbok (by rw [HKN.out]; omega) hgf HF.out
      clear hbok hrr
      go_wp2_with fail
      refine HSV.out.mono ?_
      rintro e w7 ⟨rfl, k', s', hKG7, hg7, hr7, hc7⟩
      have HK7 : Hid (k'.gen = N + 1 ∧ k'.r = b) := ⟨by rw [hg7, HKN.out], hr7⟩
      clear hg7 hr7
      clear HSV c0 c1 c2 c3 c4 hKG6
      have u7 := z7.chg hc7 (fun h => by rcases h with h | h; exact hB7T h; exact hB7g h)
      have hB7' : Below w.heap.size w w7 := hB6.trans (hc7.below (fun q hq => by rcases hq with h | h; exact HOW.out q h; rw [h]; exact hKG7.gw) hB6.size)
      clear z7 hc7 hB6
      have c0 : w7.cell? ⟨gb, off + I * 5, none⟩ = some (.int .i64 b.active) := HCE.out w7 hB7' 0 _ rfl
      have c1 : w7.cell? ⟨gb, off + I * 5 + 1, none⟩ = some (.int .i64 b.trial) := HCE.out w7 hB7' 1 _ rfl
      have c2 : w7.cell? ⟨gb, off + I * 5 + 2, none⟩ = some (.int .i64 b.tries) := HCE.out w7 hB7' 2 _ rfl
      have c3 : w7.cell? ⟨gb, off + I * 5 + 3, none⟩ = some (.int .i64 b.v0) := HCE.out w7 hB7' 3 _ rfl
      have c4 : w7.cell? ⟨gb, off + I * 5 + 4, none⟩ = some (.int .i64 b.v1) := HCE.out w7 hB7' 4 _ rfl
      go_wp2_with fail
      refine (HR2.out _).mono ?_
      rintro e w8 ⟨rfl, hb8⟩
      clear HR2 c0 c1 c2 c3 c4
      have u8 := u7.below hb8 u7.lt
      have hB8 : Below w.heap.size w w8 := hB7'.trans (hb8.mono hB7'.size)
      have hKG8 := hKG7.chg (Chg.of_below (S := fun _ => False) hb8 (Nat.le_refl _)) (fun _ h => h.elim)
      clear u7 hb8 hB7' hKG7
      have c0 : w8.cell? ⟨gb, off + I * 5, none⟩ = some (.int .i64 b.active) := HCE.out w8 hB8 0 _ rfl
      have c1 : w8.cell? ⟨gb, off + I * 5 + 1, none⟩ = some (.int .i64 b.trial) := HCE.out w8 hB8 1 _ rfl
      have c2 : w8.cell? ⟨gb, off + I * 5 + 2, none⟩ = some (.int .i64 b.tries) := HCE.out w8 hB8 2 _ rfl
      have c3 : w8.cell? ⟨gb, off + I * 5 + 3, none⟩ = some (.int .i64 b.v0) := HCE.out w8 hB8 3 _ rfl
      have c4 : w8.cell? ⟨gb, off + I * 5 + 4, none⟩ = some (.int .i64 b.v1) := HCE.out w8 hB8 4 _ rfl
      go_wp2_with (refine store_blk rfl 40 _ _ rfl rfl B7 (brL b) rfl rfl 40 _ u8 info_boot9 rfl (by simp [brL, Value.oneCell']) ?_; intro w9 u9 hg9 hs9)
      have hc9 : Chg (fun q => q = B7) w8 w9 := Chg.of_grown hg9 (fun k e => by cases e; rfl)
      have hKG9 := hKG8.chg hc9 (fun q hq => by subst hq; exact ⟨hB7T, hB7g⟩)
      have hB9 : Below w.heap.size w w9 := hB8.trans (hc9.below (fun q hq => by omega) hB8.size)
      have hL9 := hKG9.keeps.last
      have hE9 := hKG9.keeps.there
      rw [HK7.out.1, HK7.out.2] at hL9 hE9
      go_roundw
      case rel => exact ⟨N + 1, I + 1, b, s', by go_num, by go_num, by omega, hlt, ⟨hKG9.fl, hKG9.well, hL9, hE9⟩, u9, hB9⟩
      case measure => simp [intOf]; omega
    | false =>
      have hrg := HRG.out b
      rw [hrr] at hrg
      have HR2 : Hid (∀ W, Calls Tryd.prog 25 #[.agg #[.int .i64 b.active, .int .i64 b.trial, .int .i64 b.tries, .int .i64 b.v0, .int .i64 b.v1]] W fun e w' => e = .returned (.bool false) ∧ Below W.heap.size W w') := hrg
      clear hrg HRG
      have HSV : Hid (Calls Tryd.prog 19 #[.pointer (some ⟨g, 0, none⟩), .agg #[.int .i64 b.active, .int .i64 b.trial, .int .i64 b.tries, .int .i64 b.v0, .int .i64 b.v1]] W6 fun e' W' => e' = .returned (.int .i64 1) ∧ KG w W' L g 0 2 I k s ∧ Chg (kT L g) W6 W') := hKG6.bad hB6 (by decide) b hrr (by rw [HKN.out]; omega) hgf HF.out
      clear hrr
      go_wp2_with fail
      refine HSV.out.mono ?_
      rintro e w7 ⟨rfl, hKG7, hc7⟩
      clear HSV c0 c1 c2 c3 c4 hKG6
      have u7 := z7.chg hc7 (fun h => by rcases h with h | h; exact hB7T h; exact hB7g h)
      have hB7' : Below w.heap.size w w7 := hB6.trans (hc7.below (fun q hq => by rcases hq with h | h; exact HOW.out q h; rw [h]; exact hKG7.gw) hB6.size)
      clear z7 hc7 hB6
      have c0 : w7.cell? ⟨gb, off + I * 5, none⟩ = some (.int .i64 b.active) := HCE.out w7 hB7' 0 _ rfl
      have c1 : w7.cell? ⟨gb, off + I * 5 + 1, none⟩ = some (.int .i64 b.trial) := HCE.out w7 hB7' 1 _ rfl
      have c2 : w7.cell? ⟨gb, off + I * 5 + 2, none⟩ = some (.int .i64 b.tries) := HCE.out w7 hB7' 2 _ rfl
      have c3 : w7.cell? ⟨gb, off + I * 5 + 3, none⟩ = some (.int .i64 b.v0) := HCE.out w7 hB7' 3 _ rfl
      have c4 : w7.cell? ⟨gb, off + I * 5 + 4, none⟩ = some (.int .i64 b.v1) := HCE.out w7 hB7' 4 _ rfl
      go_wp2_with fail
      refine (HR2.out _).mono ?_
      rintro e w8 ⟨rfl, hb8⟩
      clear HR2 c0 c1 c2 c3 c4
      have u8 := u7.below hb8 u7.lt
      have hB8 : Below w.heap.size w w8 := hB7'.trans (hb8.mono hB7'.size)
      have hKG8 := hKG7.chg (Chg.of_below (S := fun _ => False) hb8 (Nat.le_refl _)) (fun _ h => h.elim)
      clear u7 hb8 hB7' hKG7
      have hL9 := hKG8.keeps.last
      have hE9 := hKG8.keeps.there
      rw [HKN.out] at hL9 hE9
      have HRR : Hid (k.r = R) := HKR.out
      rw [HRR.out] at hL9 hE9
      go_wp2
      go_roundw
      case rel => exact ⟨N, I + 1, R, s, rfl, by go_num, by omega, hlt, ⟨hKG8.fl, hKG8.well.more, hL9, hE9⟩, u8, hB8⟩
      case measure => simp [intOf]; omega
end Go.Proofs.YtoemdmfpcobadaaDoor
