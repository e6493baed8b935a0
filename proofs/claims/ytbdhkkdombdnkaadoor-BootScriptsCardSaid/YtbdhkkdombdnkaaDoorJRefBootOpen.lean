/-
  What is proved here: the document's Open finds what the plain search finds.
  Conditions: the flash lies in memory, and the two blocks are there, or are not.
-/
import Derived.Test.YtbdhkkdombdnkaaDoorJRefBootSave
namespace Go.Proofs.YtbdhkkdombdnkaaDoor
open Go.RowKit

theorem seeK_told (wh : Nat) (b : List UInt8) (k : KS) (i : Nat) : seeK wh b k i = if k.gen < (toldE (cellB b i)).1 then ⟨(toldE (cellB b i)).1, (toldE (cellB b i)).2, wh, i, k.br⟩ else k := by
  unfold seeK toldE
  cases decE (cellB b i) with
  | none => simp
  | some p => rfl
def seenI (wh : Nat) (b : List UInt8) (k : KS) (I : Nat) : KS := (List.range I).foldl (seeK wh b) k
theorem seenI_step (wh : Nat) (b : List UInt8) (k : KS) (I : Nat) : seenI wh b k (I + 1) = if (seenI wh b k I).gen < (toldE (cellB b I)).1 then ⟨(toldE (cellB b I)).1, (toldE (cellB b I)).2, wh, I, (seenI wh b k I).br⟩ else seenI wh b k I := by
  have h : seenI wh b k (I + 1) = seeK wh b (seenI wh b k I) I := by unfold seenI; rw [List.range_succ, List.foldl_append]; rfl
  rw [h, seeK_told]
def seenW (s : FS) (j : Nat) : Nat → KS
  | 0 => KS.first
  | W + 1 => seenI W (blkB s (j + W)) (seenW s j W) 32
theorem seenW_two (s : FS) (j : Nat) : seenW s j 2 = findK s j := rfl
theorem kpR_first (L : FLay) (j : Nat) : kpR L j KS.first = #[.pointer (some ⟨L.g, 0, none⟩), .int .i64 (j : Int), .int .i64 0, .int .i64 0, .int .i64 (-1), .int .i64 0, .int .i64 0, .int .i64 0, .int .i64 0, .int .i64 (-1), .bool false] := rfl
theorem toldE_le (c : List UInt8) (h : c.length = 32) : (toldE c).1 ≤ 1073741824 := by
  unfold toldE
  cases hd : decE c with
  | none => exact Nat.zero_le _
  | some p => exact (decE_back h (show decE c = some (p.1, p.2) from hd)).2.1
set_option maxRecDepth 100000 in
theorem ropen9_bad (L : FLay) (s : FS) (bl : Int) (w : World) (hD : RFlash w L s) (hb : bl < 0 ∨ (L.n : Int) - 2 < bl) : Calls Tryd.prog 10 #[.pointer (some ⟨L.g, 0, none⟩), .int .i64 bl] w fun e w' => e = .returned (.tuple #[.pointer none, .int .i64 1]) ∧ w' = w := by
  have hcap := hD.ok.cap
  have hh := hD.head
  unfold FLay.head at hh
  have c1 := hh.cell (j := 1) rfl
  have hw2 : IntKind.i64.wrap ((L.n : Int) - 2) = (L.n : Int) - 2 := by rw [IntKind.wrap_i64]; omega
  clear hh hD
  by_cases h0 : bl < 0
  · go_enter Tryd.func10, Tryd.ntmps10
    go_wp2
    go_ret2
    exact ⟨rfl, rfl⟩
  · have h1 : (L.n : Int) - 2 < bl := by omega
    go_enter Tryd.func10, Tryd.ntmps10
    go_wp2
    go_ret2
    exact ⟨rfl, rfl⟩
set_option maxRecDepth 100000 in
set_option maxHeartbeats 4000000 in
theorem ropen9_any (L : FLay) (s : FS) (j : Nat) (w : World) (hD : RFlash w L s) (hj : j + 1 < L.n) : Calls Tryd.prog 10 #[.pointer (some ⟨L.g, 0, none⟩), .int .i64 (j : Int)] w fun e w' => Below w.heap.size w w' ∧ (if s.down then e = .returned (.tuple #[.pointer none, .int .i64 7]) else ∃ g, e = .returned (.tuple #[.pointer (some ⟨g, 0, none⟩), .int .i64 0]) ∧ Blk w' g 50 (kpR L j (findK s j)) ∧ w.heap.size ≤ g) := by
  have hcap := hD.ok.cap
  have hTlt := hD.lt
  have hh := hD.head
  unfold FLay.head at hh
  have c1 := hh.cell (j := 1) rfl
  have c5 := hh.cell (j := 5) rfl
  have hw2 : IntKind.i64.wrap ((L.n : Int) - 2) = (L.n : Int) - 2 := by rw [IntKind.wrap_i64]; omega
  have h0 : ¬ (j : Int) < 0 := by omega
  have h1 : ¬ (L.n : Int) - 2 < (j : Int) := by omega
  cases hdn : s.down with
  | true =>
    rw [hdn] at c5
    clear hh hdn hD
    go_enter Tryd.func10, Tryd.ntmps10
    go_wp2
    go_ret2
    exact ⟨Below.refl _ _, rfl⟩
  | false =>
    rw [hdn] at c5
    have HF2 : Hid (seenW s j 2 = findK s j) := seenW_two s j
    obtain ⟨g, hg⟩ : ∃ g, g = w.heap.size := ⟨_, rfl⟩
    have hkK := Blk.new w 50 (kpR L j KS.first)
    have hbK := (Below.refl w.heap.size w).alloc (Nat.le_refl _) (.cells (kpR L j KS.first) 50)
    rw [← hg] at hkK
    rw [kpR_first] at hkK hbK
    have HD : Hid (RFlash w L s) := hD
    have HDN : Hid (s.down = false) := hdn
    clear hdn
    clear hh hD
    go_enter Tryd.func10, Tryd.ntmps10
    go_wp2_with fail
    rw [← hg]
    have hgw : w.heap.size ≤ g := by omega
    clear hg c1 c5
    go_loopw [7] (fun iv wr => ∃ W : Nat, W ≤ 2 ∧ iv = .int .i64 (W : Int) ∧ Blk wr g 50 (kpR L j (seenW s j W)) ∧ Below w.heap.size w wr) (fun iv _ => 2 - (intOf iv).toNat)
    case atStart => exact ⟨0, Nat.zero_le _, rfl, hkK, hbK⟩
    case round =>
      obtain ⟨W, hW, rfl, hKo, hBo⟩ := hrel
      obtain ⟨wo, rfl⟩ : ∃ wo, wo = wr := ⟨_, rfl⟩
      clear hkK hbK
      by_cases hlt : W < 2
      · have i1 : (W : Int) < 2 := by omega
        go_wp2_with fail
        go_loopw [8] (fun iv wr => ∃ I : Nat, I ≤ 32 ∧ iv = .int .i64 (I : Int) ∧ Blk wr g 50 (kpR L j (seenI W (blkB s (j + W)) (seenW s j W) I)) ∧ Below w.heap.size w wr) (fun iv _ => 32 - (intOf iv).toNat)
        case atStart => exact ⟨0, Nat.zero_le _, rfl, hKo, hBo⟩
        case round =>
          obtain ⟨I, hI, rfl, hK, hB⟩ := hrel
          obtain ⟨wi, rfl⟩ : ∃ wi, wi = wr := ⟨_, rfl⟩
          clear hKo hBo
          by_cases hlt2 : I < 32
          · have i2 : (I : Int) < 32 := by omega
            obtain ⟨K, hKK⟩ : ∃ K, K = seenI W (blkB s (j + W)) (seenW s j W) I := ⟨_, rfl⟩
            obtain ⟨C, hC⟩ : ∃ C, C = cellB (blkB s (j + W)) I := ⟨_, rfl⟩
            have hCl : C.length = 32 := by rw [hC]; exact cell_len9 HD.out.ok (by omega) hlt2
            obtain ⟨G, R, hGR⟩ : ∃ G R, toldE C = (G, R) := ⟨_, _, rfl⟩
            have hGl : G ≤ 1073741824 := by have := toldE_le C hCl; rw [hGR] at this; exact this
            have HST : Hid (seenI W (blkB s (j + W)) (seenW s j W) (I + 1) = if K.gen < G then ⟨G, R, W, I, K.br⟩ else K) := by show _ = _; rw [seenI_step, ← hC, hGR, ← hKK]
            have HR : Hid (Calls Tryd.prog 24 #[.pointer (some ⟨L.g, 0, none⟩), .int .i64 (((j : Int) + (W : Int)) * 1024 + (I : Int) * 32), .int .i64 32] wi fun e w' => ∃ v, e = .returned (.tuple #[v, .int .i64 0]) ∧ Own w' wi.heap.size v C ∧ Below wi.heap.size wi w') := by
              have := ref6Read_any L s (((j : Int) + (W : Int)) * 1024 + (I : Int) * 32) 32 wi (HD.out.after hB)
              rw [read_cell HD.out.ok (by omega) hlt2] at this
              unfold lookC lookE at this
              rw [HDN.out, ← hC] at this
              exact this
            have HTL : Hid (∀ v V, Seg V v C → Calls Tryd.prog 31 #[v] V fun e w' => e = .returned (.tuple #[.int .i64 (G : Int), .agg #[.int .i64 R.active, .int .i64 R.trial, .int .i64 R.tries, .int .i64 R.v0, .int .i64 R.v1]]) ∧ Below V.heap.size V w') := fun v V h => by
              have := rtold9_any v C V h hCl
              rw [hGR] at this
              exact this
            rw [← hKK] at hK
            have e1 : IntKind.i64.wrap ((j : Int) + (W : Int)) = (j : Int) + (W : Int) := by rw [IntKind.wrap_i64]; omega
            have e2 : IntKind.i64.wrap (((j : Int) + (W : Int)) * 1024) = ((j : Int) + (W : Int)) * 1024 := by rw [IntKind.wrap_i64]; omega
            have e3 : IntKind.i64.wrap ((I : Int) * 32) = (I : Int) * 32 := by rw [IntKind.wrap_i64]; omega
            have e4 : IntKind.i64.wrap (((j : Int) + (W : Int)) * 1024 + (I : Int) * 32) = ((j : Int) + (W : Int)) * 1024 + (I : Int) * 32 := by rw [IntKind.wrap_i64]; omega
            have HGL : Hid (G ≤ 1073741824) := hGl
            clear hKK hC hCl hGR hGl
            go_upto_region 14 with (first | (go_at_call 24; refine HR.out.mono ?_; rintro e w1 ⟨v1, rfl, ho1, hb1⟩; obtain ⟨a1, n1, hv1⟩ := ho1.seg.shapeD; subst hv1) | (go_at_call 31; refine (HTL.out _ _ ho1.seg).mono ?_; rintro e w2 ⟨rfl, hb2⟩) | (refine store_blk rfl 40 _ _ rfl rfl w2.heap.size #[.int .i64 R.active, .int .i64 R.trial, .int .i64 R.tries, .int .i64 R.v0, .int .i64 R.v1] rfl rfl 40 _ (Blk.new _ _ _) info_boot9 rfl (by simp [Value.oneCell']) ?_; intro w3 hE3 hg3 hs3) | fail)
            have hB2 : Below wi.heap.size wi w2 := hb1.trans (hb2.mono hb1.size)
            have hB3 : Below wi.heap.size wi w3 := below_grown (hB2.alloc hB2.size _) hg3 (by rw [World.size_alloc]; have := hB2.size; omega) (fun q hq => by have h2 := Option.some.inj hq; have := hB2.size; omega)
            have hK3 := hK.below hB3 hK.lt
            have hBg : w2.heap.size ≠ g := by have := hK.lt; have := hB2.size; omega
            have hBw : Below w.heap.size w w3 := hB.trans (hB3.mono hB.size)
            obtain ⟨Bx, hBx⟩ : ∃ Bx, Bx = w2.heap.size := ⟨_, rfl⟩
            rw [← hBx] at hE3 hBg ⊢
            clear HR HTL e1 e2 e3 e4 hb1 hb2 hg3 hs3 hB2 hB3 ho1 hK hB hBx
            obtain ⟨GI, hGI⟩ : ∃ GI : Int, (K.gen : Int) = GI := ⟨_, rfl⟩
            have d2 : w3.cell? ⟨g, 2, none⟩ = some (.int .i64 GI) := by rw [← hGI]; exact hK3.cell (j := 2) rfl
            have z2 := hK3.frozen 2
            by_cases hgt : K.gen < G
            · have j1 : GI < (G : Int) := by omega
              rw [if_pos hgt] at HST
              clear hgt hGI
              go_upto_region 16 with fail
              have hK4 : Blk (w3.setCell ⟨g, 2, none⟩ (.int .i64 (G : Int))) g 50 #[.pointer (some ⟨L.g, 0, none⟩), .int .i64 (j : Int), .int .i64 (G : Int), .int .i64 K.r.active, .int .i64 K.r.trial, .int .i64 K.r.tries, .int .i64 K.r.v0, .int .i64 K.r.v1, .int .i64 (K.wh : Int), .int .i64 K.la, .bool K.br] := hK3.set 2 _
              have hE4 := hE3.setOther ⟨g, 2, none⟩ (.int .i64 (G : Int)) hBg
              have hB4 : Below w.heap.size w (w3.setCell ⟨g, 2, none⟩ (.int .i64 (G : Int))) := hBw.setCell (p := ⟨g, 2, none⟩) hgw _
              clear d2 z2 hK3 hE3 hBw
              generalize w3.setCell ⟨g, 2, none⟩ (.int .i64 (G : Int)) = w4 at hK4 hE4 hB4 ⊢
              have f0 : w4.cell? ⟨Bx, 0, none⟩ = some (.int .i64 R.active) := hE4.cell (j := 0) rfl
              have f1 : w4.cell? ⟨Bx, 1, none⟩ = some (.int .i64 R.trial) := hE4.cell (j := 1) rfl
              have f2 : w4.cell? ⟨Bx, 2, none⟩ = some (.int .i64 R.tries) := hE4.cell (j := 2) rfl
              have f3 : w4.cell? ⟨Bx, 3, none⟩ = some (.int .i64 R.v0) := hE4.cell (j := 3) rfl
              have f4 : w4.cell? ⟨Bx, 4, none⟩ = some (.int .i64 R.v1) := hE4.cell (j := 4) rfl
              go_wp2_with (refine store_mid9 rfl 40 _ _ rfl rfl g 3 #[.int .i64 R.active, .int .i64 R.trial, .int .i64 R.tries, .int .i64 R.v0, .int .i64 R.v1] rfl rfl 50 _ #[.pointer (some ⟨L.g, 0, none⟩), .int .i64 (j : Int), .int .i64 (G : Int), .int .i64 R.active, .int .i64 R.trial, .int .i64 R.tries, .int .i64 R.v0, .int .i64 R.v1, .int .i64 (K.wh : Int), .int .i64 K.la, .bool K.br] hK4 info_boot9 (by show 8 ≤ 11; decide) (by simp [Value.oneCell']) (by simp [splice]) ?_; intro w9 hK9 hg9; have x8 : w9.cell? ⟨g, 8, none⟩ = some (.int .i64 (K.wh : Int)) := hK9.cell (j := 8) rfl; have x9 : w9.cell? ⟨g, 9, none⟩ = some (.int .i64 K.la) := hK9.cell (j := 9) rfl; have z8 := hK9.frozen 8; have z9 := hK9.frozen 9; clear f0 f1 f2 f3 f4)
              go_roundw
              case rel =>
                have hB9 : Below w.heap.size w w9 := below_grown hB4 hg9 hB4.size (fun q hq => by have h2 := Option.some.inj hq; omega)
                exact ⟨I + 1, hlt2, by go_num, by rw [HST.out]; exact ((hK9.set 8 _).set 9 _).of_eq (by simp [kpR]), (hB9.setCell (p := ⟨g, 8, none⟩) hgw _).setCell (p := ⟨g, 9, none⟩) hgw _⟩
              case measure => simp [intOf]; omega
            · have j1 : ¬ GI < (G : Int) := by omega
              rw [if_neg hgt] at HST
              clear hgt hGI
              go_wp2
              go_roundw
              case rel => exact ⟨I + 1, hlt2, by go_num, by rw [HST.out]; exact hK3, hBw⟩
              case measure => simp [intOf]; omega
          · have i2 : ¬ (I : Int) < 32 := by omega
            have hI2 : I = 32 := by omega
            have HKF : Hid (Blk wi g 50 (kpR L j (seenW s j (W + 1)))) := by rw [hI2] at hK; exact hK
            clear hI2 hK
            go_wp2
            go_roundw
            case rel => exact ⟨W + 1, hlt, by go_num, HKF.out, hB⟩
            case measure => simp [intOf]; omega
      · have i1 : ¬ (W : Int) < 2 := by omega
        have hW2 : W = 2 := by omega
        have HKF : Hid (Blk wo g 50 (kpR L j (findK s j))) := by rw [hW2, HF2.out] at hKo; exact hKo
        clear hW2 hKo
        go_wp2
        go_ret2
        exact ⟨hBo, g, rfl, HKF.out, hgw⟩
end Go.Proofs.YtbdhkkdombdnkaaDoor
