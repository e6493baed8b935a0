/-
  What is proved here: Keeper.put programs an entry at a free place; Keeper.Save puts a record in the last one's place; Keeper.Record and Keeper.Generation tell it. Keeper.Save puts a record in the last one's place; Keeper.Record and Keeper.Generation tell it; boot.Open is a keeper of what there is. boot.Next and the document's own tell what comes of a record when a device begins; the document's Right whether it may be.
  Conditions: the keeper and its flash lie in memory, the two blocks are there; the variable fourBits holds the sixteen words. the numbers are of 64 bits.
-/
import Derived.Test.YtbdhkkdombdnkaaDoorJBootEntries
import Derived.Lib.MinMax
namespace Go.Proofs.YtbdhkkdombdnkaaDoor
open Go.RowKit

def progE (k : KS) (j : Nat) (r : BR) (R : (Nat × Nat) × Int × FS) : Int × FS := programF R.2.2 (((j : Int) + (R.1.1 : Int)) * 1024 + (R.1.2 : Int) * 32) (entB (k.gen + 1) r)
def putE (k : KS) (j : Nat) (s : FS) (r : BR) : Int × KS × FS := if (roomE k j s).2.1 ≠ 0 then ((roomE k j s).2.1, k, (roomE k j s).2.2) else if (progE k j r (roomE k j s)).1 ≠ 0 then ((progE k j r (roomE k j s)).1, k, (progE k j r (roomE k j s)).2) else (0, ⟨k.gen + 1, r, (roomE k j s).1.1, ((roomE k j s).1.2 : Int), k.br⟩, (progE k j r (roomE k j s)).2)
def saveE (k : KS) (j : Nat) (s : FS) (r : BR) : Int × KS × FS := if k.br then (10, k, s) else if rightR r = false then (1, k, s) else if k.gen = 1073741824 then (3, k, s) else ((putE k j s r).1, ⟨(putE k j s r).2.1.gen, (putE k j s r).2.1.r, (putE k j s r).2.1.wh, (putE k j s r).2.1.la, decide ((putE k j s r).1 ≠ 0)⟩, (putE k j s r).2.2)
theorem roomE_le {k : KS} (hw : k.wh ≤ 1) (j : Nat) (s : FS) : (roomE k j s).1.1 ≤ 1 ∧ (roomE k j s).1.2 ≤ 31 := by
  unfold roomE
  split
  · exact ⟨Nat.zero_le _, Nat.zero_le _⟩
  · split
    · rename_i i hi
      refine ⟨hw, ?_⟩
      unfold roomI at hi
      have := List.mem_of_find?_eq_some hi
      have := List.mem_range.1 this
      show i ≤ 31
      omega
    · exact ⟨by show 1 - k.wh ≤ 1; omega, Nat.zero_le _⟩
/-- Blocks that a keeper's change writes. -/
def kT (L : PLay6) (g q : Nat) : Prop := L.T q ∨ q = g

set_option maxRecDepth 100000 in
set_option maxHeartbeats 8000000 in
theorem put9_any (L : PLay6) (s : FS) (g j : Nat) (k : KS) (r : BR) (w : World) (hK : Blk w g 71 (kpC L j k)) (hgT : ¬ L.T g) (hD : PFlash w L s) (hj : j + 1 < L.n) (hw : k.wh ≤ 1) (hgen : k.gen + 1 ≤ 1073741824) (hr : r.ok) (hgf : 1 < w.heap.size) (hf : Tab w 1 (fours.map v32)) (hgL : ¬ L.T 1) :
    Calls Tryd.prog 39 #[.pointer (some ⟨g, 0, none⟩), enV (k.gen + 1) r] w fun e w' => e = .returned (.int .i64 (putE k j s r).1) ∧ Blk w' g 71 (kpC L j (putE k j s r).2.1) ∧ PFlash w' L (putE k j s r).2.2 ∧ Chg (kT L g) w w' := by
  have hcap := hD.ok.cap
  have hok := hD.ok
  have hglt := hK.lt
  obtain ⟨Bx, hBx⟩ : ∃ Bx, Bx = w.heap.size := ⟨_, rfl⟩
  have hbA := (Below.refl w.heap.size w).alloc (Nat.le_refl _) (.cells (enL (k.gen + 1) r) 65)
  have hkE := Blk.new w 65 (enL (k.gen + 1) r)
  rw [← hBx] at hkE
  have hKA := hK.below hbA hK.lt
  have hDA := thePF.after hD hbA
  have hfA := hf.below hbA hgf
  have hTlt := hD.lt
  have HRM : Hid (Calls Tryd.prog 52 #[.pointer (some ⟨g, 0, none⟩)] (w.alloc (.cells (enL (k.gen + 1) r) 65)) fun e w' => e = .returned (.tuple #[.agg #[.int .i64 ((roomE k j s).1.1 : Int), .int .i64 ((roomE k j s).1.2 : Int)], .int .i64 (roomE k j s).2.1]) ∧ PFlash w' L (roomE k j s).2.2 ∧ Chg L.T (w.alloc (.cells (enL (k.gen + 1) r) 65)) w') := room9_any L s g j k _ hKA hgT hDA hj hw
  have hle := roomE_le hw j s
  have HPE : Hid (putE k j s r = if (roomE k j s).2.1 ≠ 0 then ((roomE k j s).2.1, k, (roomE k j s).2.2) else if (progE k j r (roomE k j s)).1 ≠ 0 then ((progE k j r (roomE k j s)).1, k, (progE k j r (roomE k j s)).2) else (0, ⟨k.gen + 1, r, (roomE k j s).1.1, ((roomE k j s).1.2 : Int), k.br⟩, (progE k j r (roomE k j s)).2)) := rfl
  generalize putE k j s r = PE at *
  have HPG : Hid (progE k j r (roomE k j s) = programF (roomE k j s).2.2 (((j : Int) + ((roomE k j s).1.1 : Int)) * 1024 + ((roomE k j s).1.2 : Int) * 32) (entB (k.gen + 1) r)) := rfl
  generalize progE k j r (roomE k j s) = PG at *
  generalize roomE k j s = R at *
  obtain ⟨⟨wn, ix⟩, cd, s1⟩ := R
  dsimp only at hle HRM HPE HPG
  have HEN : Hid (∀ W, 1 < W.heap.size → Tab W 1 (fours.map v32) → Calls Tryd.prog 53 #[enV (k.gen + 1) r] W fun e w' => ∃ v, e = .returned v ∧ Own w' W.heap.size v (entB (k.gen + 1) r) ∧ Below W.heap.size W w') := fun W h1 h2 => encode9_any (k.gen + 1) r W hgen hr h1 h2
  have HEL : Hid ((entB (k.gen + 1) r).length = 32) := entB_len _ _
  have hEK : Hid (enL (k.gen + 1) r = #[.int .i64 ((k.gen + 1 : Nat) : Int), .int .i64 r.active, .int .i64 r.trial, .int .i64 r.tries, .int .i64 r.v0, .int .i64 r.v1]) := rfl
  generalize k.gen + 1 = gn at *
  generalize entB gn r = EB at *
  unfold enV at *
  unfold enL at *
  clear hK hD hf hEK
  go_enter Tryd.func39, Tryd.ntmps39
  go_wp2_with fail
  refine HRM.out.mono ?_
  rintro e W1 ⟨rfl, hD1, hc1⟩
  clear HRM
  have hBg : Bx ≠ g := by omega
  have hBT : ¬ L.T Bx := fun h => by have := hTlt Bx h; omega
  have hE1 := hkE.chg hc1 hBT
  have hK1 := hKA.chg hc1 hgT
  have hf1 := hfA.chg hc1 (Nat.lt_of_lt_of_le hgf hbA.size) hgL
  have hcW1 : Chg (kT L g) w W1 := (Chg.of_below (S := kT L g) hbA (Nat.le_refl _)).trans hc1 (fun _ _ h => .inl h)
  rw [← hBx]
  have hBw : w.heap.size ≤ Bx := by omega
  clear hKA hDA hfA hkE hbA hc1 hBx
  obtain ⟨P5, hP5⟩ : ∃ P5, P5 = W1.heap.size := ⟨_, rfl⟩
  have hb2 := (Below.refl W1.heap.size W1).alloc (Nat.le_refl _) (.cells #[.int .i64 (wn : Int), .int .i64 (ix : Int)] 68)
  have hk5 := Blk.new W1 68 #[.int .i64 (wn : Int), .int .i64 (ix : Int)]
  rw [← hP5] at hk5
  have hE2 := hE1.below hb2 hE1.lt
  have hK2 := hK1.below hb2 hK1.lt
  have hD2 := thePF.after hD1 hb2
  have hf2 := hf1.below hb2 (by have := hcW1.size; omega)
  have hcW2 : Chg (kT L g) w (W1.alloc (.cells #[.int .i64 (wn : Int), .int .i64 (ix : Int)] 68)) := hcW1.trans (Chg.of_below (S := kT L g) hb2 (Nat.le_refl _)) (fun _ _ h => h)
  have hP5w : w.heap.size ≤ P5 := by have := hcW1.size; omega
  have hPg : P5 ≠ g := by have := hK1.lt; omega
  have hTl2 : ∀ q, L.T q → q < w.heap.size := hTlt
  clear hE1 hK1 hD1 hf1 hcW1 hb2
  by_cases hcd : cd ≠ 0
  · have hne : (cd != 0) = true := by simpa using hcd
    rw [if_pos hcd] at HPE
    go_wp2
    go_ret
    rw [HPE.out]
    exact ⟨rfl, hK2, hD2, hcW2⟩
  have hcd0 : cd = 0 := by omega
  rw [if_neg hcd] at HPE
  subst hcd0
  clear hcd
  go_wp2_with fail
  rw [← hP5]
  generalize W1.alloc (.cells #[.int .i64 (wn : Int), .int .i64 (ix : Int)] 68) = W2 at *
  clear hP5
  have hS0 : W2.drew.cell? ⟨g, 1, none⟩ = some (.int .i64 (j : Int)) ∧ W2.drew.cell? ⟨P5, 0, none⟩ = some (.int .i64 (wn : Int)) ∧ W2.drew.cell? ⟨P5, 1, none⟩ = some (.int .i64 (ix : Int)) := ⟨hK2.drew.cell (j := 1) rfl, hk5.drew.cell (j := 0) rfl, hk5.drew.cell (j := 1) rfl⟩
  refine held_begin (fun V => V.cell? ⟨g, 1, none⟩ = some (.int .i64 (j : Int)) ∧ V.cell? ⟨P5, 0, none⟩ = some (.int .i64 (wn : Int)) ∧ V.cell? ⟨P5, 1, none⟩ = some (.int .i64 (ix : Int))) (by kernel_rfl) ?_
  refine held_take 0 17 _ (.pointer (some ⟨g, 0, none⟩)) rfl rfl (by kernel_rfl) (by kernel_rfl) (by kernel_rfl) rfl hS0 (fun _ _ => rfl) ?_
  simp only [Act.put, List.setIfInBounds_toArray, List.set_cons_succ, List.set_cons_zero]
  refine held_take 1 18 _ (.pointer (some ⟨g, 0, none⟩)) rfl rfl (by kernel_rfl) (by kernel_rfl) (by kernel_rfl) rfl hS0 (fun _ _ => rfl) ?_
  simp only [Act.put, List.setIfInBounds_toArray, List.set_cons_succ, List.set_cons_zero]
  refine held_take 2 19 _ (.pointer (some ⟨g, 1, none⟩)) rfl rfl (by kernel_rfl) (by kernel_rfl) (by kernel_rfl) rfl hS0 (fun _ _ => rfl) ?_
  simp only [Act.put, List.setIfInBounds_toArray, List.set_cons_succ, List.set_cons_zero]
  refine held_take 3 20 _ (.int .i64 (j : Int)) rfl rfl (by kernel_rfl) (by kernel_rfl) (by kernel_rfl) rfl hS0 (fun V hV => exec_loadc 3 _ rfl _ _ rfl (load_one 3 (fun _ => by kernel_rfl) V _ _ _ hV.1)) ?_
  simp only [Act.put, List.setIfInBounds_toArray, List.set_cons_succ, List.set_cons_zero]
  refine held_take 4 21 _ (.pointer (some ⟨P5, 0, none⟩)) rfl rfl (by kernel_rfl) (by kernel_rfl) (by kernel_rfl) rfl hS0 (fun _ _ => rfl) ?_
  simp only [Act.put, List.setIfInBounds_toArray, List.set_cons_succ, List.set_cons_zero]
  refine held_take 5 22 _ (.int .i64 (wn : Int)) rfl rfl (by kernel_rfl) (by kernel_rfl) (by kernel_rfl) rfl hS0 (fun V hV => exec_loadc 3 _ rfl _ _ rfl (load_one 3 (fun _ => by kernel_rfl) V _ _ _ hV.2.1)) ?_
  simp only [Act.put, List.setIfInBounds_toArray, List.set_cons_succ, List.set_cons_zero]
  refine held_take 6 23 _ (.int .i64 ((j : Int) + (wn : Int))) rfl rfl (by kernel_rfl) (by kernel_rfl) (by kernel_rfl) rfl hS0 (fun V _ => exec_add9 3 _ _ rfl (j : Int) (wn : Int) rfl rfl (by omega) (by omega)) ?_
  simp only [Act.put, List.setIfInBounds_toArray, List.set_cons_succ, List.set_cons_zero]
  refine held_take 7 24 _ (.int .i64 (((j : Int) + (wn : Int)) * 1024)) rfl rfl (by kernel_rfl) (by kernel_rfl) (by kernel_rfl) rfl hS0 (fun V _ => exec_mul9 3 _ _ rfl ((j : Int) + (wn : Int)) 1024 rfl rfl (by omega) (by omega)) ?_
  simp only [Act.put, List.setIfInBounds_toArray, List.set_cons_succ, List.set_cons_zero]
  refine held_take 8 25 _ (.pointer (some ⟨P5, 1, none⟩)) rfl rfl (by kernel_rfl) (by kernel_rfl) (by kernel_rfl) rfl hS0 (fun _ _ => rfl) ?_
  simp only [Act.put, List.setIfInBounds_toArray, List.set_cons_succ, List.set_cons_zero]
  refine held_take 9 26 _ (.int .i64 (ix : Int)) rfl rfl (by kernel_rfl) (by kernel_rfl) (by kernel_rfl) rfl hS0 (fun V hV => exec_loadc 3 _ rfl _ _ rfl (load_one 3 (fun _ => by kernel_rfl) V _ _ _ hV.2.2)) ?_
  simp only [Act.put, List.setIfInBounds_toArray, List.set_cons_succ, List.set_cons_zero]
  refine held_take 10 27 _ (.int .i64 ((ix : Int) * 32)) rfl rfl (by kernel_rfl) (by kernel_rfl) (by kernel_rfl) rfl hS0 (fun V _ => exec_mul9 3 _ _ rfl (ix : Int) 32 rfl rfl (by omega) (by omega)) ?_
  simp only [Act.put, List.setIfInBounds_toArray, List.set_cons_succ, List.set_cons_zero]
  refine held_take 11 28 _ (.int .i64 (((j : Int) + (wn : Int)) * 1024 + (ix : Int) * 32)) rfl rfl (by kernel_rfl) (by kernel_rfl) (by kernel_rfl) rfl hS0 (fun V _ => exec_add9 3 _ _ rfl (((j : Int) + (wn : Int)) * 1024) ((ix : Int) * 32) rfl rfl (by omega) (by omega)) ?_
  simp only [Act.put, List.setIfInBounds_toArray, List.set_cons_succ, List.set_cons_zero]
  refine held_take 12 7 _ (.int .i64 (((j : Int) + (wn : Int)) * 1024 + (ix : Int) * 32)) rfl rfl (by kernel_rfl) (by kernel_rfl) (by kernel_rfl) rfl hS0 (fun _ _ => rfl) ?_
  simp only [Act.put, List.setIfInBounds_toArray, List.set_cons_succ, List.set_cons_zero]
  refine wpAnyH_done (by kernel_rfl) ?_ _
  refine NoPanic.normal ?_
  clear hS0
  obtain ⟨AT, hAT⟩ : ∃ AT, AT = (((j : Int) + (wn : Int)) * 1024 + (ix : Int) * 32) := ⟨_, rfl⟩
  rw [← hAT] at HPG ⊢
  clear hAT
  go_wp2_with fail
  have HCL : Hid (∀ V, Blk V g 71 (kpC L j k) → Blk V Bx 65 #[.int .i64 (gn : Int), .int .i64 r.active, .int .i64 r.trial, .int .i64 r.tries, .int .i64 r.v0, .int .i64 r.v1] → V.cell? ⟨g, 0, none⟩ = some (.pointer (some ⟨L.g, 0, none⟩)) ∧ V.rangeAt Bx 0 [.int .i64 (gn : Int), .int .i64 r.active, .int .i64 r.trial, .int .i64 r.tries, .int .i64 r.v0, .int .i64 r.v1]) := fun V h1 h2 => ⟨h1.cell (j := 0) rfl, h2.range'⟩
  have hS0 := HCL.out W2.drew.drew hK2.drew.drew hE2.drew.drew
  refine held_begin (fun V => V.cell? ⟨g, 0, none⟩ = some (.pointer (some ⟨L.g, 0, none⟩)) ∧ V.rangeAt Bx 0 [.int .i64 (gn : Int), .int .i64 r.active, .int .i64 r.trial, .int .i64 r.tries, .int .i64 r.v0, .int .i64 r.v1]) (by kernel_rfl) ?_
  refine held_take 0 29 _ (.pointer (some ⟨g, 0, none⟩)) rfl rfl (by kernel_rfl) (by kernel_rfl) (by kernel_rfl) rfl hS0 (fun _ _ => rfl) ?_
  simp only [Act.put, List.setIfInBounds_toArray, List.set_cons_succ, List.set_cons_zero]
  refine held_take 1 30 _ (.pointer (some ⟨g, 0, none⟩)) rfl rfl (by kernel_rfl) (by kernel_rfl) (by kernel_rfl) rfl hS0 (fun _ _ => rfl) ?_
  simp only [Act.put, List.setIfInBounds_toArray, List.set_cons_succ, List.set_cons_zero]
  refine held_take 2 31 _ (.pointer (some ⟨g, 0, none⟩)) rfl rfl (by kernel_rfl) (by kernel_rfl) (by kernel_rfl) rfl hS0 (fun _ _ => rfl) ?_
  simp only [Act.put, List.setIfInBounds_toArray, List.set_cons_succ, List.set_cons_zero]
  refine held_take 3 32 _ (.pointer (some ⟨L.g, 0, none⟩)) rfl rfl (by kernel_rfl) (by kernel_rfl) (by kernel_rfl) rfl hS0 (fun V hV => exec_loadc 25 _ rfl _ _ rfl (load_one 25 (fun _ => by kernel_rfl) V _ _ _ hV.1)) ?_
  simp only [Act.put, List.setIfInBounds_toArray, List.set_cons_succ, List.set_cons_zero]
  refine held_take 4 33 _ (.int .i64 AT) rfl rfl (by kernel_rfl) (by kernel_rfl) (by kernel_rfl) rfl hS0 (fun _ _ => rfl) ?_
  simp only [Act.put, List.setIfInBounds_toArray, List.set_cons_succ, List.set_cons_zero]
  refine held_take 5 34 _ (.agg #[.int .i64 (gn : Int), .int .i64 r.active, .int .i64 r.trial, .int .i64 r.tries, .int .i64 r.v0, .int .i64 r.v1]) rfl rfl (by kernel_rfl) (by kernel_rfl) (by kernel_rfl) rfl hS0 (fun V hV => exec_loads 65 _ rfl Bx 0 rfl [.int .i64 (gn : Int), .int .i64 r.active, .int .i64 r.trial, .int .i64 r.tries, .int .i64 r.v0, .int .i64 r.v1] _ hV.2 Tryd.underlying65 rfl info_ent9) ?_
  simp only [Act.put, List.setIfInBounds_toArray, List.set_cons_succ, List.set_cons_zero]
  refine held_all1 6 (by kernel_rfl) (op_call 6 35 _ 53 #[.agg #[.int .i64 (gn : Int), .int .i64 r.active, .int .i64 r.trial, .int .i64 r.tries, .int .i64 r.v0, .int .i64 r.v1]] rfl rfl rfl (exec_one 53 _ _ rfl _ rfl Tryd.call53) ((HEN.out _ (by have := hcW2.size; exact Nat.lt_of_lt_of_le hgf this) (by exact hf2)).mono ?_))
  rintro e W3 ⟨v3, rfl, ho3, hb3⟩
  have hb3' : Below W2.heap.size W2 W3 := (((Below.refl W2.heap.size W2).drew).drew).trans hb3
  have hK3 := hK2.below hb3' hK2.lt
  have hE3 := hE2.below hb3' hE2.lt
  have h53 := hk5.below hb3' hk5.lt
  have hD3 := thePF.after hD2 hb3'
  have hS3 := HCL.out W3 hK3 hE3
  refine ⟨_, rfl, hS3, ?_⟩
  simp only [Act.put, List.setIfInBounds_toArray, List.set_cons_succ, List.set_cons_zero]
  refine held_all1 7 (by kernel_rfl) (op_call 7 36 _ 15 #[.pointer (some ⟨L.g, 0, none⟩), .int .i64 AT, v3] rfl rfl rfl (exec_three8 15 _ _ _ _ rfl _ _ _ rfl rfl rfl Tryd.call15) ((program6_any L s1 AT v3 EB W3 hD3 ho3.seg (fun _ q hq h => by have h1 : W2.heap.size ≤ q := (ho3.blocks q hq).1; have h2 := hTl2 q h; have h3 := hcW2.size; omega)).mono ?_))
  rw [← HPG.out]
  rintro e W4 ⟨rfl, hD4, hc4⟩
  have hK4 := hK3.chg hc4 hgT
  have hE4 := hE3.chg hc4 hBT
  have h54 := h53.chg hc4 (fun h => by have := hTl2 P5 h; omega)
  have hS4 := HCL.out W4 hK4 hE4
  have hcW4 : Chg (kT L g) w W4 := (hcW2.trans (Chg.of_below (S := kT L g) hb3' (Nat.le_refl _)) (fun _ _ h => h)).trans hc4 (fun _ _ h => .inl h)
  refine ⟨_, rfl, hS4, ?_⟩
  simp only [Act.put, List.setIfInBounds_toArray, List.set_cons_succ, List.set_cons_zero]
  refine held_take 8 8 _ (.int .i64 PG.1) rfl rfl (by kernel_rfl) (by kernel_rfl) (by kernel_rfl) rfl hS4 (fun _ _ => rfl) ?_
  simp only [Act.put, List.setIfInBounds_toArray, List.set_cons_succ, List.set_cons_zero]
  refine wpAnyH_done (by kernel_rfl) ?_ _
  refine NoPanic.normal ?_
  clear hS0 hS3 hS4 HCL hK2 hE2 hk5 hD2 hf2 hcW2 hK3 hE3 h53 hD3 hb3 hb3' ho3 hc4 HPG HEN HEL
  obtain ⟨pc, ps⟩ := PG
  dsimp only at *
  by_cases hpc : pc ≠ 0
  · have hne : (pc != 0) = true := by simpa using hpc
    rw [if_pos hpc] at HPE
    go_wp2
    go_ret
    rw [HPE.out]
    exact ⟨rfl, hK4, hD4, hcW4⟩
  rw [if_neg hpc] at HPE
  obtain rfl : pc = 0 := by omega
  clear hpc
  go_wp2_with fail
  have HCL : Hid (∀ V, Chg (fun q => q = g) W4.drew V → V.rangeAt Bx 0 [.int .i64 (gn : Int), .int .i64 r.active, .int .i64 r.trial, .int .i64 r.tries, .int .i64 r.v0, .int .i64 r.v1] ∧ V.rangeAt P5 0 [.int .i64 (wn : Int), .int .i64 (ix : Int)]) := fun V hc => ⟨(hE4.drew.chg hc hBg).range', (h54.drew.chg hc hPg).range'⟩
  have hS0 := HCL.out W4.drew (Chg.refl _ _)
  refine held_begin (fun V => V.rangeAt Bx 0 [.int .i64 (gn : Int), .int .i64 r.active, .int .i64 r.trial, .int .i64 r.tries, .int .i64 r.v0, .int .i64 r.v1] ∧ V.rangeAt P5 0 [.int .i64 (wn : Int), .int .i64 (ix : Int)]) (by kernel_rfl) ?_
  refine held_take 0 40 _ (.pointer (some ⟨g, 0, none⟩)) rfl rfl (by kernel_rfl) (by kernel_rfl) (by kernel_rfl) rfl hS0 (fun _ _ => rfl) ?_
  simp only [Act.put, List.setIfInBounds_toArray, List.set_cons_succ, List.set_cons_zero]
  refine held_take 1 41 _ (.pointer (some ⟨g, 0, none⟩)) rfl rfl (by kernel_rfl) (by kernel_rfl) (by kernel_rfl) rfl hS0 (fun _ _ => rfl) ?_
  simp only [Act.put, List.setIfInBounds_toArray, List.set_cons_succ, List.set_cons_zero]
  refine held_take 2 42 _ (.agg #[.int .i64 (gn : Int), .int .i64 r.active, .int .i64 r.trial, .int .i64 r.tries, .int .i64 r.v0, .int .i64 r.v1]) rfl rfl (by kernel_rfl) (by kernel_rfl) (by kernel_rfl) rfl hS0 (fun V hV => exec_loads 65 _ rfl Bx 0 rfl [.int .i64 (gn : Int), .int .i64 r.active, .int .i64 r.trial, .int .i64 r.tries, .int .i64 r.v0, .int .i64 r.v1] _ hV.1 Tryd.underlying65 rfl info_ent9) ?_
  simp only [Act.put, List.setIfInBounds_toArray, List.set_cons_succ, List.set_cons_zero]
  refine held_take 3 43 _ (.agg #[.int .i64 (wn : Int), .int .i64 (ix : Int)]) rfl rfl (by kernel_rfl) (by kernel_rfl) (by kernel_rfl) rfl hS0 (fun V hV => exec_loads 68 _ rfl P5 0 rfl [.int .i64 (wn : Int), .int .i64 (ix : Int)] _ hV.2 Tryd.underlying68 rfl info_place9) ?_
  simp only [Act.put, List.setIfInBounds_toArray, List.set_cons_succ, List.set_cons_zero]
  refine held_take 4 44 _ (.pointer (some ⟨g, 0, none⟩)) rfl rfl (by kernel_rfl) (by kernel_rfl) (by kernel_rfl) rfl hS0 (fun _ _ => rfl) ?_
  simp only [Act.put, List.setIfInBounds_toArray, List.set_cons_succ, List.set_cons_zero]
  refine held_take 5 45 _ (.pointer (some ⟨g, 2, none⟩)) rfl rfl (by kernel_rfl) (by kernel_rfl) (by kernel_rfl) rfl hS0 (fun _ _ => rfl) ?_
  simp only [Act.put, List.setIfInBounds_toArray, List.set_cons_succ, List.set_cons_zero]
  refine held_all1 6 (by kernel_rfl) (op_mid9 6 _ rfl rfl rfl 65 _ _ rfl g 2 #[.int .i64 (gn : Int), .int .i64 r.active, .int .i64 r.trial, .int .i64 r.tries, .int .i64 r.v0, .int .i64 r.v1] rfl rfl 71 _ #[.pointer (some ⟨L.g, 0, none⟩), .int .i64 (j : Int), .int .i64 (gn : Int), .int .i64 r.active, .int .i64 r.trial, .int .i64 r.tries, .int .i64 r.v0, .int .i64 r.v1, .int .i64 (k.wh : Int), .int .i64 k.la, .bool k.br] hK4.drew info_ent9 (by show 8 ≤ 11; decide) (by simp [Value.oneCell']) (by simp [kpC, splice]) ?_)
  intro W8 hb8 hg8
  have hc8 : Chg (fun q => q = g) W4.drew W8 := Chg.of_grown hg8 (fun k e => by cases e; rfl)
  have hS8 := HCL.out W8 hc8
  refine ⟨hS8, ?_⟩
  refine held_take 7 46 _ (.pointer (some ⟨g, 0, none⟩)) rfl rfl (by kernel_rfl) (by kernel_rfl) (by kernel_rfl) rfl hS8 (fun _ _ => rfl) ?_
  simp only [Act.put, List.setIfInBounds_toArray, List.set_cons_succ, List.set_cons_zero]
  refine held_take 8 47 _ (.pointer (some ⟨g, 8, none⟩)) rfl rfl (by kernel_rfl) (by kernel_rfl) (by kernel_rfl) rfl hS8 (fun _ _ => rfl) ?_
  simp only [Act.put, List.setIfInBounds_toArray, List.set_cons_succ, List.set_cons_zero]
  refine held_all1 9 (by kernel_rfl) (op_mid9 9 _ rfl rfl rfl 68 _ _ rfl g 8 #[.int .i64 (wn : Int), .int .i64 (ix : Int)] rfl rfl 71 _ (kpC L j ⟨gn, r, wn, (ix : Int), k.br⟩) hb8 info_place9 (by show 10 ≤ 11; decide) (by simp [Value.oneCell']) (by simp [kpC, splice]) ?_)
  intro W9 hb9 hg9
  have hc9 : Chg (fun q => q = g) W4.drew W9 := hc8.trans (Chg.of_grown (S := fun q => q = g) hg9 (fun k e => by cases e; rfl)) (fun _ _ h => h)
  refine ⟨HCL.out W9 hc9, ?_⟩
  refine wpAnyH_done (by kernel_rfl) ?_ _
  refine NoPanic.normal ?_
  go_wp2
  go_ret
  rw [HPE.out]
  exact ⟨rfl, hb9, (thePF.after hD4 (Below.refl _ _).drew).chg hc9 (fun q hq e => hgT (e ▸ hq)), (hcW4.drew).trans hc9 (fun _ _ h => .inr h)⟩
end Go.Proofs.YtbdhkkdombdnkaaDoor
namespace Go.Proofs.YtbdhkkdombdnkaaDoor
open Go.RowKit

set_option maxRecDepth 100000 in
theorem gen9_any (L : PLay6) (g j : Nat) (k : KS) (w : World) (hK : Blk w g 71 (kpC L j k)) : Calls Tryd.prog 22 #[.pointer (some ⟨g, 0, none⟩)] w fun e w' => e = .returned (.int .i64 (k.gen : Int)) ∧ w' = w := by
  have d2 : w.cell? ⟨g, 2, none⟩ = some (.int .i64 (k.gen : Int)) := hK.cell (j := 2) rfl
  clear hK
  go_enter Tryd.func22, Tryd.ntmps22
  go_wp2
  go_ret
  exact ⟨rfl, rfl⟩
set_option maxRecDepth 100000 in
theorem record9_any (L : PLay6) (g j : Nat) (k : KS) (w : World) (hK : Blk w g 71 (kpC L j k)) : Calls Tryd.prog 21 #[.pointer (some ⟨g, 0, none⟩)] w fun e w' => e = .returned (brV k.r) ∧ Below w.heap.size w w' := by
  have hb := fun x => (Below.refl w.heap.size w).alloc (Nat.le_refl _) (.cells x 40)
  have hKA := fun x => hK.below (hb x) hK.lt
  have d3 : ∀ x, (w.alloc (.cells x 40)).cell? ⟨g, 3, none⟩ = some (.int .i64 k.r.active) := fun x => (hKA x).cell (j := 3) rfl
  have d4 : ∀ x, (w.alloc (.cells x 40)).cell? ⟨g, 4, none⟩ = some (.int .i64 k.r.trial) := fun x => (hKA x).cell (j := 4) rfl
  have d5 : ∀ x, (w.alloc (.cells x 40)).cell? ⟨g, 5, none⟩ = some (.int .i64 k.r.tries) := fun x => (hKA x).cell (j := 5) rfl
  have d6 : ∀ x, (w.alloc (.cells x 40)).cell? ⟨g, 6, none⟩ = some (.int .i64 k.r.v0) := fun x => (hKA x).cell (j := 6) rfl
  have d7 : ∀ x, (w.alloc (.cells x 40)).cell? ⟨g, 7, none⟩ = some (.int .i64 k.r.v1) := fun x => (hKA x).cell (j := 7) rfl
  clear hK hKA
  go_enter Tryd.func21, Tryd.ntmps21
  go_wp2
  refine bodyPost_ret (v := brV k.r) (results_cell_row Tryd.results21 _ _ w.heap.size 40 (brL k.r) (0, 0) _ rfl (Blk.new _ _ _) Tryd.underlying40 rfl info_boot9) rfl ⟨rfl, ?_⟩
  exact hb _
set_option maxRecDepth 100000 in
theorem firstE_any (w : World) : Calls Tryd.prog 28 #[] w fun e w' => e = .returned (.agg #[.int .i64 0, .int .i64 0, .int .i64 (-1), .int .i64 0, .int .i64 0, .int .i64 0]) ∧ Below w.heap.size w w' := by
  have hb := fun x => (Below.refl w.heap.size w).alloc (Nat.le_refl _) (.cells x 65)
  go_enter Tryd.func28, Tryd.ntmps28
  go_wp2
  refine bodyPost_ret (v := .agg #[.int .i64 0, .int .i64 0, .int .i64 (-1), .int .i64 0, .int .i64 0, .int .i64 0]) (results_cell_row Tryd.results28 _ _ w.heap.size 65 #[.int .i64 0, .int .i64 0, .int .i64 (-1), .int .i64 0, .int .i64 0, .int .i64 0] (0, 0) _ rfl (Blk.new _ _ _) Tryd.underlying65 rfl info_ent9) rfl ⟨rfl, ?_⟩
  exact hb _
set_option maxRecDepth 100000 in
theorem firstP_any (w : World) : Calls Tryd.prog 29 #[] w fun e w' => e = .returned (.agg #[.int .i64 0, .int .i64 (-1)]) ∧ Below w.heap.size w w' := by
  have hb := fun x => (Below.refl w.heap.size w).alloc (Nat.le_refl _) (.cells x 68)
  go_enter Tryd.func29, Tryd.ntmps29
  go_wp2
  refine bodyPost_ret (v := .agg #[.int .i64 0, .int .i64 (-1)]) (results_cell_row Tryd.results29 _ _ w.heap.size 68 #[.int .i64 0, .int .i64 (-1)] (0, 0) _ rfl (Blk.new _ _ _) Tryd.underlying68 rfl info_place9) rfl ⟨rfl, ?_⟩
  exact hb _

set_option maxRecDepth 100000 in
set_option maxHeartbeats 4000000 in
theorem open9_bad (L : PLay6) (s : FS) (bl : Int) (w : World) (hD : PFlash w L s) (hb : bl < 0 ∨ (L.n : Int) - 2 < bl) : Calls Tryd.prog 9 #[.pointer (some ⟨L.g, 0, none⟩), .int .i64 bl] w fun e w' => e = .returned (.tuple #[.pointer none, .int .i64 1]) ∧ w' = w := by
  have hcap := hD.ok.cap
  have HL : Hid (Calls Tryd.prog 27 #[.pointer (some ⟨L.g, 0, none⟩)] w fun e w' => e = .returned (.int .i64 (L.n : Int)) ∧ w = w') := len6_any L s w hD
  have hw2 : IntKind.i64.wrap ((L.n : Int) - 2) = (L.n : Int) - 2 := by rw [IntKind.wrap_i64]; omega
  clear hD
  by_cases h0 : bl < 0
  · go_enter Tryd.func9, Tryd.ntmps9
    go_wp2
    go_ret2
    exact ⟨rfl, rfl⟩
  · have h1 : (L.n : Int) - 2 < bl := by omega
    clear hb
    go_enter Tryd.func9, Tryd.ntmps9
    go_wp2_with fail
    refine HL.out.mono ?_
    rintro e w1 ⟨rfl, rfl⟩
    go_wp2
    go_ret2
    exact ⟨rfl, rfl⟩
theorem kpC_first (L : PLay6) (j : Nat) : kpC L j KS.first = #[.pointer (some ⟨L.g, 0, none⟩), .int .i64 (j : Int), .int .i64 0, .int .i64 0, .int .i64 (-1), .int .i64 0, .int .i64 0, .int .i64 0, .int .i64 0, .int .i64 (-1), .bool false] := rfl
set_option maxRecDepth 100000 in
set_option maxHeartbeats 4000000 in
theorem open9_any (L : PLay6) (s : FS) (j : Nat) (w : World) (hD : PFlash w L s) (hj : j + 1 < L.n) (hgf : 1 < w.heap.size) (hf : Tab w 1 (fours.map v32)) : Calls Tryd.prog 9 #[.pointer (some ⟨L.g, 0, none⟩), .int .i64 (j : Int)] w fun e w' => Below w.heap.size w w' ∧ (if s.down then e = .returned (.tuple #[.pointer none, .int .i64 7]) else ∃ g, e = .returned (.tuple #[.pointer (some ⟨g, 0, none⟩), .int .i64 0]) ∧ Blk w' g 71 (kpC L j (findK s j)) ∧ w.heap.size ≤ g) := by
  have hcap := hD.ok.cap
  have hTlt := hD.lt
  have HL : Hid (Calls Tryd.prog 27 #[.pointer (some ⟨L.g, 0, none⟩)] w fun e w' => e = .returned (.int .i64 (L.n : Int)) ∧ w = w') := len6_any L s w hD
  have hw2 : IntKind.i64.wrap ((L.n : Int) - 2) = (L.n : Int) - 2 := by rw [IntKind.wrap_i64]; omega
  have h0 : ¬ (j : Int) < 0 := by omega
  have h1 : ¬ (L.n : Int) - 2 < (j : Int) := by omega
  go_enter Tryd.func9, Tryd.ntmps9
  go_wp2_with fail
  refine HL.out.mono ?_
  rintro e w1 ⟨rfl, rfl⟩
  clear HL
  go_wp2_with fail
  refine (firstE_any w).mono ?_
  rintro e w2 ⟨rfl, hb2⟩
  go_wp2_with fail
  refine (firstP_any w2).mono ?_
  rintro e w3 ⟨rfl, hb3⟩
  have hB3 : Below w.heap.size w w3 := hb2.trans (hb3.mono hb2.size)
  obtain ⟨g, hg⟩ : ∃ g, g = w3.heap.size := ⟨_, rfl⟩
  have hbK := (Below.refl w3.heap.size w3).alloc (Nat.le_refl _) (.cells (kpC L j KS.first) 71)
  have hkK := Blk.new w3 71 (kpC L j KS.first)
  rw [← hg] at hkK
  have hB4 : Below w.heap.size w (w3.alloc (.cells (kpC L j KS.first) 71)) := hB3.trans (hbK.mono hB3.size)
  have hgw : w.heap.size ≤ g := by have := hB3.size; omega
  have HF : Hid (Calls Tryd.prog 30 #[.pointer (some ⟨g, 0, none⟩)] (w3.alloc (.cells (kpC L j KS.first) 71)) fun e w' => e = .returned (.int .i64 (lookE s)) ∧ Blk w' g 71 (kpC L j (if s.down then KS.first else seeB 1 (blkB s (j + 1)) (seeB 0 (blkB s j) KS.first))) ∧ Chg (fun q => q = g) (w3.alloc (.cells (kpC L j KS.first) 71)) w') := find9_any L s g j KS.first _ hkK (fun h => by have := hTlt g h; omega) (thePF.after hD hB4) hj (Nat.lt_of_lt_of_le hgf hB4.size) (hf.below hB4 hgf) (by omega)
  rw [kpC_first] at HF hB4
  clear hkK hbK hb2 hb3 hD hf
  go_wp2_with fail
  rw [← hg]
  refine HF.out.mono ?_
  rintro e w5 ⟨rfl, hK5, hc5⟩
  have hB5 : Below w.heap.size w w5 := hB4.trans (hc5.below (fun q hq => by omega) hB4.size)
  clear HF hB4 hB3 hc5 hg
  by_cases hdn : s.down = true
  · have e1 : lookE s = 7 := by unfold lookE; rw [if_pos hdn]
    rw [e1]
    clear e1
    go_wp2
    go_ret2
    exact ⟨hB5, rfl⟩
  · have e1 : lookE s = 0 := by unfold lookE; rw [if_neg hdn]
    rw [e1]
    clear e1
    rw [if_neg hdn] at hK5
    have HK5 : Hid (Blk w5 g 71 (kpC L j (findK s j))) := hK5
    clear hK5
    go_wp2
    go_ret2
    exact ⟨hB5, g, rfl, HK5.out, hgw⟩

set_option maxRecDepth 100000 in
set_option maxHeartbeats 8000000 in
theorem save9_any (L : PLay6) (s : FS) (g j : Nat) (k : KS) (r : BR) (w : World) (hK : Blk w g 71 (kpC L j k)) (hgT : ¬ L.T g) (hD : PFlash w L s) (hj : j + 1 < L.n) (hw : k.wh ≤ 1) (hgen : k.gen ≤ 1073741824) (hgf : 1 < w.heap.size) (hf : Tab w 1 (fours.map v32)) (hgL : ¬ L.T 1) :
    Calls Tryd.prog 19 #[.pointer (some ⟨g, 0, none⟩), brV r] w fun e w' => e = .returned (.int .i64 (saveE k j s r).1) ∧ Blk w' g 71 (kpC L j (saveE k j s r).2.1) ∧ PFlash w' L (saveE k j s r).2.2 ∧ Chg (kT L g) w w' := by
  have hglt := hK.lt
  have hTlt := hD.lt
  have HSE : Hid (saveE k j s r = if k.br then (10, k, s) else if rightR r = false then (1, k, s) else if k.gen = 1073741824 then (3, k, s) else ((putE k j s r).1, ⟨(putE k j s r).2.1.gen, (putE k j s r).2.1.r, (putE k j s r).2.1.wh, (putE k j s r).2.1.la, decide ((putE k j s r).1 ≠ 0)⟩, (putE k j s r).2.2)) := rfl
  generalize saveE k j s r = SE at *
  obtain ⟨Bx, hBx⟩ : ∃ Bx, Bx = w.heap.size := ⟨_, rfl⟩
  have hbA := (Below.refl w.heap.size w).alloc (Nat.le_refl _) (.cells (brL r) 40)
  have hkE := Blk.new w 40 (brL r)
  rw [← hBx] at hkE
  have hKA := hK.below hbA hK.lt
  have hDA := thePF.after hD hbA
  have hfA := hf.below hbA hgf
  have hcA : Chg (kT L g) w (w.alloc (.cells (brL r) 40)) := (Chg.refl _ _).alloc _
  have d10 : (w.alloc (.cells (brL r) 40)).cell? ⟨g, 10, none⟩ = some (.bool k.br) := hKA.cell (j := 10) rfl
  have HRG : Hid (Calls Tryd.prog 25 #[brV r] (w.alloc (.cells (brL r) 40)) fun e w' => e = .returned (.bool (rightR r)) ∧ Below (w.alloc (.cells (brL r) 40)).heap.size (w.alloc (.cells (brL r) 40)) w') := right9_any r _
  have HBL : Hid (brL r = #[.int .i64 r.active, .int .i64 r.trial, .int .i64 r.tries, .int .i64 r.v0, .int .i64 r.v1]) := rfl
  have HROK : Hid (rightR r = true → r.ok) := fun h => of_decide_eq_true h
  clear hK hD hf
  unfold brV at *
  unfold brL at *
  cases hbr : k.br with
  | true =>
    rw [hbr] at HSE d10
    rw [if_pos rfl] at HSE
    go_enter Tryd.func19, Tryd.ntmps19
    go_wp2
    go_ret
    rw [HSE.out]
    exact ⟨rfl, hKA, hDA, hcA⟩
  | false =>
  rw [hbr] at HSE d10
  rw [if_neg (by decide)] at HSE
  go_enter Tryd.func19, Tryd.ntmps19
  go_wp2_with fail
  refine HRG.out.mono ?_
  rintro e w2 ⟨rfl, hb2⟩
  clear HRG d10
  rw [← hBx]
  have hE2 := hkE.below hb2 hkE.lt
  have hK2 := hKA.below hb2 hKA.lt
  have hD2 := thePF.after hDA hb2
  have hf2 := hfA.below hb2 (Nat.lt_of_lt_of_le hgf hbA.size)
  have hc2 : Chg (kT L g) w w2 := hcA.trans (Chg.of_below (S := kT L g) hb2 (Nat.le_refl _)) (fun _ _ h => h)
  have hBw : w.heap.size ≤ Bx := by omega
  have hBg : Bx ≠ g := by omega
  clear hkE hKA hDA hfA hcA hb2 hbA hBx
  cases hrr : rightR r with
  | false =>
    rw [hrr] at HSE
    rw [if_pos rfl] at HSE
    go_wp2
    go_ret
    rw [HSE.out]
    exact ⟨rfl, hK2, hD2, hc2⟩
  | true =>
  have hrok := HROK.out hrr
  rw [hrr] at HSE
  rw [if_neg (by decide)] at HSE
  have d2 : w2.cell? ⟨g, 2, none⟩ = some (.int .i64 (k.gen : Int)) := hK2.cell (j := 2) rfl
  by_cases hmx : k.gen = 1073741824
  · rw [if_pos hmx] at HSE
    have hbx : ((k.gen : Int) == 1073741824) = true := by rw [hmx]; rfl
    clear hmx hgen
    go_wp2
    go_ret
    rw [HSE.out]
    exact ⟨rfl, hK2, hD2, hc2⟩
  rw [if_neg hmx] at HSE
  have hbx : ((k.gen : Int) == 1073741824) = false := by rw [beq_eq_false_iff_ne]; omega
  have HG1 : Hid (k.gen + 1 ≤ 1073741824) := by show _ ≤ _; omega
  clear hmx hgen
  have HPU : Hid (∀ W, Below w2.heap.size w2 W → Calls Tryd.prog 39 #[.pointer (some ⟨g, 0, none⟩), .agg #[.int .i64 ((k.gen : Int) + 1), .int .i64 r.active, .int .i64 r.trial, .int .i64 r.tries, .int .i64 r.v0, .int .i64 r.v1]] W fun e w' => e = .returned (.int .i64 (putE k j s r).1) ∧ Blk w' g 71 (kpC L j (putE k j s r).2.1) ∧ PFlash w' L (putE k j s r).2.2 ∧ Chg (kT L g) W w') := fun W hW => put9_any L s g j k r W (hK2.below hW hK2.lt) hgT (thePF.after hD2 hW) hj hw HG1.out hrok (by have := hc2.size; have := hW.size; omega) (hf2.below hW (by have := hc2.size; omega)) hgL
  have hwg : IntKind.i64.wrap ((k.gen : Int) + 1) = (k.gen : Int) + 1 := by rw [IntKind.wrap_i64]; have := HG1.out; omega
  go_wp2_with fail
  refine region_tail 9 (by kernel_rfl) (by kernel_rfl) ?_
  simp only [List.take_succ_cons, List.take_zero, List.drop_succ_cons, List.drop_zero]
  repeat still_step
  refine still_load rfl 40 _ rfl Bx 0 rfl [.int .i64 r.active, .int .i64 r.trial, .int .i64 r.tries, .int .i64 r.v0, .int .i64 r.v1] _ hE2.range' Tryd.underlying40 rfl info_boot9 ?_
  repeat still_step
  refine wpStill_nil ?_
  clear hwg hbx d2
  go_wp2_with fail
  refine (HPU.out _ (Below.refl _ _).drew).mono ?_
  rintro e W5 ⟨rfl, hK5, hD5, hc5⟩
  clear HPU hK2 hE2 hD2 hf2
  have hcW5 : Chg (kT L g) w W5 := (hc2.drew).trans hc5 (fun _ _ h => h)
  generalize putE k j s r = PE at *
  obtain ⟨pc, pk, ps⟩ := PE
  dsimp only at *
  have d10 : W5.cell? ⟨g, 10, none⟩ = some (.bool pk.br) := hK5.cell (j := 10) rfl
  have f10 := hK5.frozen 10
  have hcS : ∀ b, Chg (kT L g) W5 (W5.setCell ⟨g, 10, none⟩ (.bool b)) := fun b => (Chg.refl (kT L g) W5).setCell g 10 _ (fun _ => .inr rfl)
  have hcG : ∀ b, Chg (fun q => q = g) W5 (W5.setCell ⟨g, 10, none⟩ (.bool b)) := fun b => (Chg.refl _ W5).setCell g 10 _ (fun _ => rfl)
  have hKS : ∀ b, Blk (W5.setCell ⟨g, 10, none⟩ (.bool b)) g 71 (kpC L j ⟨pk.gen, pk.r, pk.wh, pk.la, b⟩) := fun b => (hK5.set 10 (.bool b)).of_eq rfl
  have HDS : Hid (∀ b, PFlash (W5.setCell ⟨g, 10, none⟩ (.bool b)) L ps) := fun b => hD5.chg (hcG b) (fun q hq e => hgT (e ▸ hq))
  have HKS : Hid (∀ b, Blk (W5.setCell ⟨g, 10, none⟩ (.bool b)) g 71 (kpC L j ⟨pk.gen, pk.r, pk.wh, pk.la, b⟩)) := hKS
  have HCS : Hid (∀ b, Chg (kT L g) W5 (W5.setCell ⟨g, 10, none⟩ (.bool b))) := hcS
  clear hcS hcG hKS hK5 hD5
  by_cases hpc : pc = 0
  · subst hpc
    go_wp2
    go_ret
    rw [HSE.out]
    exact ⟨rfl, HKS.out false, HDS.out _, hcW5.trans (HCS.out _) (fun _ _ h => h)⟩
  · have hne : (pc != 0) = true := by simpa using hpc
    rw [decide_eq_true hpc] at HSE
    clear hpc
    go_wp2
    go_ret
    rw [HSE.out]
    exact ⟨rfl, HKS.out true, HDS.out _, hcW5.trans (HCS.out _) (fun _ _ h => h)⟩
end Go.Proofs.YtbdhkkdombdnkaaDoor
namespace Go.Proofs.YtbdhkkdombdnkaaDoor
open Go.RowKit



end Go.Proofs.YtbdhkkdombdnkaaDoor
