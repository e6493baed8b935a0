/-
  What is proved here: of every block, every wear and all steps the statement BootScripts answers true: a keeper does any saves as the document says.
  Conditions: the variable fourBits holds the sixteen words.
-/
import Derived.Test.YtbdhkkdombdnkaaDoorJBootPair
import Derived.Test.YtbdhkkdombdnkaaDoorJFlashI
namespace Go.Proofs.YtbdhkkdombdnkaaDoor
open Go.RowKit

def stL (a : St9) (cv : Value) : List Value := [.int .i64 a.act, .int .i64 a.b.active, .int .i64 a.b.trial, .int .i64 a.b.tries, .int .i64 a.b.v0, .int .i64 a.b.v1, .int .i64 a.n, .int .i64 a.k, cv]
theorem Cells9.range {w : World} {q off : Nat} {a : St9} (h : Cells9 w q off a) : ∃ cv, w.rangeAt q off (stL a cv) ∧ At9 w cv a := by
  obtain ⟨cv, h8, hat⟩ := h.c
  refine ⟨cv, fun j u hu => ?_, hat⟩
  have hj : j < 9 := by have := (List.getElem?_eq_some_iff.1 hu).1; simpa [stL] using this
  match j, hj with
  | 0, _ => cases hu; exact h.act
  | 1, _ => cases hu; exact h.b0
  | 2, _ => cases hu; exact h.b1
  | 3, _ => cases hu; exact h.b2
  | 4, _ => cases hu; exact h.b3
  | 5, _ => cases hu; exact h.b4
  | 6, _ => cases hu; exact h.n
  | 7, _ => cases hu; exact h.k
  | 8, _ => cases hu; exact h8
theorem info_step9 : (Tryd.prog.info? 43).map (·.size) = some 9 := by kernel_rfl
set_option maxRecDepth 100000 in
set_option maxHeartbeats 8000000 in
theorem bootScripts_any (bl y : Int) (v : Value) (l : List St9) (w : World) (hl : Steps9 w v l) (hgf : 1 < w.heap.size) (hf : Tab w 1 (fours.map v32)) : Calls Tryd.prog 3 #[.int .i64 bl, .int .i64 y, v] w fun e w' => e = .returned (.bool true) ∧ Below w.heap.size w w' := by
  obtain ⟨ao, c, rfl, hlm, hlc⟩ := id hl
  have HLC : Hid (∀ (i : Nat) a, l[i]? = some a → ∃ q off, ao = some ⟨q, off, none⟩ ∧ Cells9 w q (off + i * 9) a) := hlc
  unfold maxLen at hlm
  have HA : Hid (Calls Tryd.prog 5 #[] w fun e w' => e = .returned (.bool true) ∧ Below w.heap.size w w') := awake9_any _ hgf hf
  have HMU : Hid (∀ W, Below w.heap.size w W → Calls Tryd.prog 6 #[.slice ao l.length c] W fun e w' => IsBool9 e ∧ W = w') := fun W hW => much9_any _ l W (hl.below hW (Nat.le_refl _))
  have HF : Hid (Tab w 1 (fours.map v32)) := hf
  clear hf hlc hl
  go_enter Tryd.func3, Tryd.ntmps3
  go_wp2_with fail
  refine HA.out.mono ?_
  rintro e w1 ⟨rfl, hB1⟩
  go_wp2_with fail
  refine (HMU.out w1 hB1).mono ?_
  rintro e w2 ⟨⟨mb, rfl⟩, rfl⟩
  clear HA HMU
  cases mb with
  | true =>
    go_wp2
    go_ret
    exact ⟨rfl, hB1⟩
  | false =>
  by_cases hy1 : y < 1
  · go_wp2
    go_ret
    exact ⟨rfl, hB1⟩
  by_cases hy2 : 100 < y
  · go_wp2
    go_ret
    exact ⟨rfl, hB1⟩
  obtain ⟨u, rfl⟩ : ∃ u : Nat, y = (u : Int) := ⟨y.toNat, by omega⟩
  have HNW : Hid (∀ W, Calls Tryd.prog 7 #[.int .i64 4, .int .i64 (u : Int)] W fun e w' => ∃ L : PLay6, e = .returned (.tuple #[.pointer (some ⟨L.g, 0, none⟩), .int .i64 0]) ∧ L.n = 4 ∧ PFlash w' L (newF 4 u) ∧ Below W.heap.size W w' ∧ (∀ q, L.T q → W.heap.size ≤ q)) := fun W => new6_any 4 u W (by decide) (by decide) (by omega) (by omega)
  have HNR : Hid (∀ W, Calls Tryd.prog 8 #[.int .i64 4, .int .i64 (u : Int)] W fun e w' => ∃ M : FLay, e = .returned (.tuple #[.pointer (some ⟨M.g, 0, none⟩), .int .i64 0]) ∧ M.n = 4 ∧ RFlash w' M (newF 4 u) ∧ Below W.heap.size W w' ∧ (∀ q, M.T q → W.heap.size ≤ q)) := fun W => ref6New_any 4 u W (by decide) (by decide) (by omega) (by omega)
  go_wp2_with fail
  refine (HNW.out _).mono ?_
  rintro e w3 ⟨L, rfl, hLn, hD3, hb3, hT3⟩
  go_wp2_with fail
  refine (HNR.out _).mono ?_
  rintro e w4 ⟨M, rfl, hMn, hR4, hb4, hT4⟩
  have hB3 : Below w.heap.size w w3 := hB1.trans (hb3.mono hB1.size)
  have hFP : FP9 w w4 L M (newF 4 u) := ⟨hD3.after hb4, hR4, fun q h1 h2 => by have := hD3.lt q h1; have := hT4 q h2; omega, fun q h => Nat.le_trans hB1.size (hT3 q h), fun q h => Nat.le_trans hB3.size (hT4 q h), hB3.trans (hb4.mono hB3.size)⟩
  clear hD3 hb3 hT3 hR4 hb4 hT4 hB3 hB1 HNW HNR
  by_cases hbl : bl < 0 ∨ 2 < bl
  · have HO : Hid (∀ W s, PFlash W L s → Calls Tryd.prog 9 #[.pointer (some ⟨L.g, 0, none⟩), .int .i64 bl] W fun e w' => e = .returned (.tuple #[.pointer none, .int .i64 1]) ∧ w' = W) := fun W s h => open9_bad L s bl W h (by rw [hLn]; omega)
    have HP : Hid (∀ W s, RFlash W M s → Calls Tryd.prog 10 #[.pointer (some ⟨M.g, 0, none⟩), .int .i64 bl] W fun e w' => e = .returned (.tuple #[.pointer none, .int .i64 1]) ∧ w' = W) := fun W s h => ropen9_bad M s bl W h (by rw [hMn]; omega)
    clear hbl hLn hMn hy1 hy2
    go_wp2_with (first | (go_at_call 9; refine (HO.out w4 _ hFP.p).mono ?_; rintro e w5 ⟨rfl, rfl⟩) | (go_at_call 10; refine (HP.out _ _ hFP.r).mono ?_; rintro e w6 ⟨rfl, rfl⟩) | fail)
    go_loopw [10, 13, 14, 15, 16] (fun ev kv xv gv iv wr => ev = .int .i64 1 ∧ kv = .pointer none ∧ xv = .pointer none ∧ gv = .int .i64 1 ∧ ∃ (I : Nat) (s : FS), iv = .int .i64 (I : Int) ∧ I ≤ l.length ∧ I ≤ 150 ∧ FP9 w wr L M s) (fun _ _ _ _ iv _ => 150 - (intOf iv).toNat)
    case atStart => exact ⟨rfl, rfl, rfl, rfl, 0, _, rfl, Nat.zero_le _, by omega, hFP⟩
    case round =>
      obtain ⟨rfl, rfl, rfl, rfl, I, s, rfl, hI, hI1, hP⟩ := hrel
      clear hFP
      by_cases hgo : I < l.length ∧ I < 150
      · obtain ⟨h1, h2⟩ := hgo
        have i1 : (I : Int) < (l.length : Int) := by omega
        have i2 : (I : Int) < 150 := by omega
        obtain ⟨A, hA⟩ : ∃ A, l[I]? = some A := ⟨_, List.getElem?_eq_getElem h1⟩
        obtain ⟨q, off, rfl, hcells⟩ := HLC.out I A hA
        obtain ⟨cv, hrg, hat⟩ := hcells.range
        have hrgr : wr.rangeAt q (off + I * 9) (stL A cv) := fun j u hu => by
          rw [hP.b.cell (p := ⟨q, off + I * 9 + j, none⟩) hcells.lt]
          exact hrg j u hu
        have ix := index_steps9 q off l.length c I h1
        have hap : 0 < A.c.length → ∀ b, cv.ownBlock = some b → b < w.heap.size := fun h b hb => by
          obtain ⟨ab, cb, rfl⟩ := Seg.shapeD hat.c
          obtain ⟨qb, qo, rfl, _, _, hlt⟩ := hat.c.formD h
          cases hb
          exact hlt
        have HAT : Hid (At9 w cv A) := hat
        have HN : Hid (R64 A.n ∧ R64 A.k) := ⟨hat.n, hat.k⟩
        obtain ⟨ac, cc, rfl⟩ := Seg.shapeD hat.c
        clear hrg hcells hA hat HLC
        go_upto_region 17 with (first | (refine wpList_load_mid rfl 43 _ rfl q (off + I * 9) rfl (stL A (.slice ac A.c.length cc)) _ hrgr Tryd.underlying43 rfl info_step9 ?_) | (refine store_blk rfl 43 _ _ rfl rfl wr.heap.size (stL A (.slice ac A.c.length cc)).toArray rfl rfl 43 _ (Blk.new _ _ _) info_step9 rfl (by simp [Value.oneCell', stL]) ?_; intro w5 hE5 hg5 hs5) | fail)
        have hb5 : Below wr.heap.size wr w5 := below_grown ((Below.refl wr.heap.size wr).alloc (Nat.le_refl _) _) hg5 (by rw [World.size_alloc]; omega) (fun b hb => by have h2 := Option.some.inj hb; omega)
        obtain ⟨Bx, hBx⟩ : ∃ Bx, Bx = wr.heap.size := ⟨_, rfl⟩
        rw [← hBx] at hE5 ⊢
        have hBL : ¬ L.T Bx := fun h => by have := hP.p.lt Bx h; omega
        have hP5 := hP.after hb5
        clear hP hrgr ix hg5 hs5 hb5 hBx
        have d0 : w5.cell? ⟨Bx, 0, none⟩ = some (.int .i64 A.act) := hE5.cell (j := 0) rfl
        by_cases a1 : A.act = 1
        · have b1 : (A.act == 1) = true := by simpa using a1
          have x65 : w5.cell? ⟨Bx, 6, none⟩ = some (.int .i64 A.n) := hE5.cell (j := 6) rfl
          have x75 : w5.cell? ⟨Bx, 7, none⟩ = some (.int .i64 A.k) := hE5.cell (j := 7) rfl
          clear a1
          go_wp2_with (first | (go_at_call 11; refine (arm6_any L s A.n A.k w5 hP5.p HN.out.1 HN.out.2).mono ?_; rintro e w6 ⟨rfl, hp6, hc6⟩; have hE6 := hE5.chg hc6 hBL; have x66 : w6.cell? ⟨Bx, 6, none⟩ = some (.int .i64 A.n) := hE6.cell (j := 6) rfl; have x76 : w6.cell? ⟨Bx, 7, none⟩ = some (.int .i64 A.k) := hE6.cell (j := 7) rfl) | (go_at_call 12; refine (ref6Arm_any M s A.n A.k w6 (hP5.still hc6) HN.out.1.2 HN.out.2.2).mono ?_; rintro e w7 ⟨rfl, hr7, hc7⟩) | fail)
          refine held_begin (fun _ => True) (by kernel_rfl) ?_
          refine held_take 0 169 _ (.pointer none) rfl rfl (by kernel_rfl) (by kernel_rfl) (by kernel_rfl) rfl trivial (fun _ _ => rfl) ?_
          simp only [Act.put, List.setIfInBounds_toArray, List.set_cons_succ, List.set_cons_zero]
          refine held_take 1 170 _ (.bool false) rfl rfl (by kernel_rfl) (by kernel_rfl) (by kernel_rfl) rfl trivial (fun _ _ => rfl) ?_
          simp only [Act.put, List.setIfInBounds_toArray, List.set_cons_succ, List.set_cons_zero]
          refine held_take 2 171 _ (.bool false) rfl rfl (by kernel_rfl) (by kernel_rfl) (by kernel_rfl) rfl trivial (fun _ _ => rfl) ?_
          simp only [Act.put, List.setIfInBounds_toArray, List.set_cons_succ, List.set_cons_zero]
          refine held_pass 3 172 _ rfl rfl (by kernel_rfl) (by kernel_rfl) (by kernel_rfl) rfl trivial ?_
          simp only [Act.put, List.setIfInBounds_toArray, List.set_cons_succ, List.set_cons_zero]
          refine held_pass 4 173 _ rfl rfl (by kernel_rfl) (by kernel_rfl) (by kernel_rfl) rfl trivial ?_
          simp only [Act.put, List.setIfInBounds_toArray, List.set_cons_succ, List.set_cons_zero]
          refine held_take 5 174 _ (.bool false) rfl rfl (by kernel_rfl) (by kernel_rfl) (by kernel_rfl) rfl trivial (fun _ _ => rfl) ?_
          simp only [Act.put, List.setIfInBounds_toArray, List.set_cons_succ, List.set_cons_zero]
          refine held_take 6 175 _ (.bool false) rfl rfl (by kernel_rfl) (by kernel_rfl) (by kernel_rfl) rfl trivial (fun _ _ => rfl) ?_
          simp only [Act.put, List.setIfInBounds_toArray, List.set_cons_succ, List.set_cons_zero]
          refine held_pass 7 176 _ rfl rfl (by kernel_rfl) (by kernel_rfl) (by kernel_rfl) rfl trivial ?_
          simp only [Act.put, List.setIfInBounds_toArray, List.set_cons_succ, List.set_cons_zero]
          refine held_pass 8 177 _ rfl rfl (by kernel_rfl) (by kernel_rfl) (by kernel_rfl) rfl trivial ?_
          simp only [Act.put, List.setIfInBounds_toArray, List.set_cons_succ, List.set_cons_zero]
          refine held_pass 9 178 _ rfl rfl (by kernel_rfl) (by kernel_rfl) (by kernel_rfl) rfl trivial ?_
          simp only [Act.put, List.setIfInBounds_toArray, List.set_cons_succ, List.set_cons_zero]
          refine held_pass 10 179 _ rfl rfl (by kernel_rfl) (by kernel_rfl) (by kernel_rfl) rfl trivial ?_
          simp only [Act.put, List.setIfInBounds_toArray, List.set_cons_succ, List.set_cons_zero]
          refine held_pass 11 180 _ rfl rfl (by kernel_rfl) (by kernel_rfl) (by kernel_rfl) rfl trivial ?_
          simp only [Act.put, List.setIfInBounds_toArray, List.set_cons_succ, List.set_cons_zero]
          refine held_pass 12 181 _ rfl rfl (by kernel_rfl) (by kernel_rfl) (by kernel_rfl) rfl trivial ?_
          simp only [Act.put, List.setIfInBounds_toArray, List.set_cons_succ, List.set_cons_zero]
          refine held_pass 13 182 _ rfl rfl (by kernel_rfl) (by kernel_rfl) (by kernel_rfl) rfl trivial ?_
          simp only [Act.put, List.setIfInBounds_toArray, List.set_cons_succ, List.set_cons_zero]
          refine held_pass 14 183 _ rfl rfl (by kernel_rfl) (by kernel_rfl) (by kernel_rfl) rfl trivial ?_
          simp only [Act.put, List.setIfInBounds_toArray, List.set_cons_succ, List.set_cons_zero]
          refine held_pass 15 184 _ rfl rfl (by kernel_rfl) (by kernel_rfl) (by kernel_rfl) rfl trivial ?_
          simp only [Act.put, List.setIfInBounds_toArray, List.set_cons_succ, List.set_cons_zero]
          refine held_pass 16 185 _ rfl rfl (by kernel_rfl) (by kernel_rfl) (by kernel_rfl) rfl trivial ?_
          simp only [Act.put, List.setIfInBounds_toArray, List.set_cons_succ, List.set_cons_zero]
          refine held_pass 17 186 _ rfl rfl (by kernel_rfl) (by kernel_rfl) (by kernel_rfl) rfl trivial ?_
          simp only [Act.put, List.setIfInBounds_toArray, List.set_cons_succ, List.set_cons_zero]
          refine held_pass 18 187 _ rfl rfl (by kernel_rfl) (by kernel_rfl) (by kernel_rfl) rfl trivial ?_
          simp only [Act.put, List.setIfInBounds_toArray, List.set_cons_succ, List.set_cons_zero]
          refine held_pass 19 188 _ rfl rfl (by kernel_rfl) (by kernel_rfl) (by kernel_rfl) rfl trivial ?_
          simp only [Act.put, List.setIfInBounds_toArray, List.set_cons_succ, List.set_cons_zero]
          refine held_pass 20 189 _ rfl rfl (by kernel_rfl) (by kernel_rfl) (by kernel_rfl) rfl trivial ?_
          simp only [Act.put, List.setIfInBounds_toArray, List.set_cons_succ, List.set_cons_zero]
          refine held_pass 21 190 _ rfl rfl (by kernel_rfl) (by kernel_rfl) (by kernel_rfl) rfl trivial ?_
          simp only [Act.put, List.setIfInBounds_toArray, List.set_cons_succ, List.set_cons_zero]
          refine held_pass 22 191 _ rfl rfl (by kernel_rfl) (by kernel_rfl) (by kernel_rfl) rfl trivial ?_
          simp only [Act.put, List.setIfInBounds_toArray, List.set_cons_succ, List.set_cons_zero]
          refine held_take 23 192 _ (.bool false) rfl rfl (by kernel_rfl) (by kernel_rfl) (by kernel_rfl) rfl trivial (fun _ _ => rfl) ?_
          simp only [Act.put, List.setIfInBounds_toArray, List.set_cons_succ, List.set_cons_zero]
          refine wpAnyH_done (by kernel_rfl) ?_ _
          refine NoPanic.normal ?_
          go_wp2_with fail
          go_roundw
          case rel => exact ⟨rfl, rfl, rfl, rfl, I + 1, _, by go_num, h1, h2, (hP5.both hp6 hc6 hr7 hc7).after (Below.refl _ _).drew⟩
          case measure => simp [intOf]; omega
        have b1 : (A.act == 1) = false := by simpa using a1
        by_cases a2 : A.act = 2
        · have b2 : (A.act == 2) = true := by simpa using a2
          clear a2
          go_wp2_with (first | (go_at_call 13; refine (power6_any L s w5 hP5.p).mono ?_; rintro e w6 ⟨rfl, hp6, hc6⟩; have hE6 := hE5.chg hc6 hBL) | (go_at_call 14; refine (ref6Power_any M s w6 (hP5.still hc6)).mono ?_; rintro e w7 ⟨rfl, hr7, hc7⟩; have hP7 := hP5.both hp6 hc6 hr7 hc7) | (go_at_call 9; refine (HO.out w7 _ hP7.p).mono ?_; rintro e w8 ⟨rfl, rfl⟩) | (go_at_call 10; refine (HP.out _ _ hP7.r).mono ?_; rintro e w9 ⟨rfl, rfl⟩) | fail)
          refine held_begin (fun _ => True) (by kernel_rfl) ?_
          refine held_take 0 169 _ (.pointer none) rfl rfl (by kernel_rfl) (by kernel_rfl) (by kernel_rfl) rfl trivial (fun _ _ => rfl) ?_
          simp only [Act.put, List.setIfInBounds_toArray, List.set_cons_succ, List.set_cons_zero]
          refine held_take 1 170 _ (.bool false) rfl rfl (by kernel_rfl) (by kernel_rfl) (by kernel_rfl) rfl trivial (fun _ _ => rfl) ?_
          simp only [Act.put, List.setIfInBounds_toArray, List.set_cons_succ, List.set_cons_zero]
          refine held_take 2 171 _ (.bool false) rfl rfl (by kernel_rfl) (by kernel_rfl) (by kernel_rfl) rfl trivial (fun _ _ => rfl) ?_
          simp only [Act.put, List.setIfInBounds_toArray, List.set_cons_succ, List.set_cons_zero]
          refine held_pass 3 172 _ rfl rfl (by kernel_rfl) (by kernel_rfl) (by kernel_rfl) rfl trivial ?_
          simp only [Act.put, List.setIfInBounds_toArray, List.set_cons_succ, List.set_cons_zero]
          refine held_pass 4 173 _ rfl rfl (by kernel_rfl) (by kernel_rfl) (by kernel_rfl) rfl trivial ?_
          simp only [Act.put, List.setIfInBounds_toArray, List.set_cons_succ, List.set_cons_zero]
          refine held_take 5 174 _ (.bool false) rfl rfl (by kernel_rfl) (by kernel_rfl) (by kernel_rfl) rfl trivial (fun _ _ => rfl) ?_
          simp only [Act.put, List.setIfInBounds_toArray, List.set_cons_succ, List.set_cons_zero]
          refine held_take 6 175 _ (.bool false) rfl rfl (by kernel_rfl) (by kernel_rfl) (by kernel_rfl) rfl trivial (fun _ _ => rfl) ?_
          simp only [Act.put, List.setIfInBounds_toArray, List.set_cons_succ, List.set_cons_zero]
          refine held_pass 7 176 _ rfl rfl (by kernel_rfl) (by kernel_rfl) (by kernel_rfl) rfl trivial ?_
          simp only [Act.put, List.setIfInBounds_toArray, List.set_cons_succ, List.set_cons_zero]
          refine held_pass 8 177 _ rfl rfl (by kernel_rfl) (by kernel_rfl) (by kernel_rfl) rfl trivial ?_
          simp only [Act.put, List.setIfInBounds_toArray, List.set_cons_succ, List.set_cons_zero]
          refine held_pass 9 178 _ rfl rfl (by kernel_rfl) (by kernel_rfl) (by kernel_rfl) rfl trivial ?_
          simp only [Act.put, List.setIfInBounds_toArray, List.set_cons_succ, List.set_cons_zero]
          refine held_pass 10 179 _ rfl rfl (by kernel_rfl) (by kernel_rfl) (by kernel_rfl) rfl trivial ?_
          simp only [Act.put, List.setIfInBounds_toArray, List.set_cons_succ, List.set_cons_zero]
          refine held_pass 11 180 _ rfl rfl (by kernel_rfl) (by kernel_rfl) (by kernel_rfl) rfl trivial ?_
          simp only [Act.put, List.setIfInBounds_toArray, List.set_cons_succ, List.set_cons_zero]
          refine held_pass 12 181 _ rfl rfl (by kernel_rfl) (by kernel_rfl) (by kernel_rfl) rfl trivial ?_
          simp only [Act.put, List.setIfInBounds_toArray, List.set_cons_succ, List.set_cons_zero]
          refine held_pass 13 182 _ rfl rfl (by kernel_rfl) (by kernel_rfl) (by kernel_rfl) rfl trivial ?_
          simp only [Act.put, List.setIfInBounds_toArray, List.set_cons_succ, List.set_cons_zero]
          refine held_pass 14 183 _ rfl rfl (by kernel_rfl) (by kernel_rfl) (by kernel_rfl) rfl trivial ?_
          simp only [Act.put, List.setIfInBounds_toArray, List.set_cons_succ, List.set_cons_zero]
          refine held_pass 15 184 _ rfl rfl (by kernel_rfl) (by kernel_rfl) (by kernel_rfl) rfl trivial ?_
          simp only [Act.put, List.setIfInBounds_toArray, List.set_cons_succ, List.set_cons_zero]
          refine held_pass 16 185 _ rfl rfl (by kernel_rfl) (by kernel_rfl) (by kernel_rfl) rfl trivial ?_
          simp only [Act.put, List.setIfInBounds_toArray, List.set_cons_succ, List.set_cons_zero]
          refine held_pass 17 186 _ rfl rfl (by kernel_rfl) (by kernel_rfl) (by kernel_rfl) rfl trivial ?_
          simp only [Act.put, List.setIfInBounds_toArray, List.set_cons_succ, List.set_cons_zero]
          refine held_pass 18 187 _ rfl rfl (by kernel_rfl) (by kernel_rfl) (by kernel_rfl) rfl trivial ?_
          simp only [Act.put, List.setIfInBounds_toArray, List.set_cons_succ, List.set_cons_zero]
          refine held_pass 19 188 _ rfl rfl (by kernel_rfl) (by kernel_rfl) (by kernel_rfl) rfl trivial ?_
          simp only [Act.put, List.setIfInBounds_toArray, List.set_cons_succ, List.set_cons_zero]
          refine held_pass 20 189 _ rfl rfl (by kernel_rfl) (by kernel_rfl) (by kernel_rfl) rfl trivial ?_
          simp only [Act.put, List.setIfInBounds_toArray, List.set_cons_succ, List.set_cons_zero]
          refine held_pass 21 190 _ rfl rfl (by kernel_rfl) (by kernel_rfl) (by kernel_rfl) rfl trivial ?_
          simp only [Act.put, List.setIfInBounds_toArray, List.set_cons_succ, List.set_cons_zero]
          refine held_pass 22 191 _ rfl rfl (by kernel_rfl) (by kernel_rfl) (by kernel_rfl) rfl trivial ?_
          simp only [Act.put, List.setIfInBounds_toArray, List.set_cons_succ, List.set_cons_zero]
          refine held_take 23 192 _ (.bool false) rfl rfl (by kernel_rfl) (by kernel_rfl) (by kernel_rfl) rfl trivial (fun _ _ => rfl) ?_
          simp only [Act.put, List.setIfInBounds_toArray, List.set_cons_succ, List.set_cons_zero]
          refine wpAnyH_done (by kernel_rfl) ?_ _
          refine NoPanic.normal ?_
          go_wp2_with fail
          go_roundw
          case rel => exact ⟨rfl, rfl, rfl, rfl, I + 1, _, by go_num, h1, h2, hP7.after (Below.refl _ _).drew⟩
          case measure => simp [intOf]; omega
        have b2 : (A.act == 2) = false := by simpa using a2
        by_cases a3 : A.act = 3
        · have b3 : (A.act == 3) = true := by simpa using a3
          have x65 : w5.cell? ⟨Bx, 6, none⟩ = some (.int .i64 A.n) := hE5.cell (j := 6) rfl
          have x85 : w5.cell? ⟨Bx, 8, none⟩ = some (.slice ac A.c.length cc) := hE5.cell (j := 8) rfl
          clear a3
          go_wp2_with (first | (go_at_call 15; refine (program6_any L s A.n (.slice ac A.c.length cc) A.c w5 hP5.p (HAT.out.c.below hP5.b (Nat.le_refl _)) (fun h b hb ht => by have := hap h b hb; have := hP5.lp b ht; omega)).mono ?_; rintro e w6 ⟨rfl, hp6, hc6⟩; have hE6 := hE5.chg hc6 hBL; have x66 : w6.cell? ⟨Bx, 6, none⟩ = some (.int .i64 A.n) := hE6.cell (j := 6) rfl; have x86 : w6.cell? ⟨Bx, 8, none⟩ = some (.slice ac A.c.length cc) := hE6.cell (j := 8) rfl) | (go_at_call 16; refine (ref6Program_any M s A.n (.slice ac A.c.length cc) A.c w6 (hP5.still hc6) (HAT.out.c.below (hP5.b.trans (hc6.below hP5.lp hP5.b.size)) (Nat.le_refl _)) (fun h b hb ht => by have := hap h b hb; have := hP5.lr b ht; omega)).mono ?_; rintro e w7 ⟨rfl, hr7, hc7⟩) | fail)
          refine held_begin (fun _ => True) (by kernel_rfl) ?_
          refine held_take 0 169 _ (.pointer none) rfl rfl (by kernel_rfl) (by kernel_rfl) (by kernel_rfl) rfl trivial (fun _ _ => rfl) ?_
          simp only [Act.put, List.setIfInBounds_toArray, List.set_cons_succ, List.set_cons_zero]
          refine held_take 1 170 _ (.bool false) rfl rfl (by kernel_rfl) (by kernel_rfl) (by kernel_rfl) rfl trivial (fun _ _ => rfl) ?_
          simp only [Act.put, List.setIfInBounds_toArray, List.set_cons_succ, List.set_cons_zero]
          refine held_take 2 171 _ (.bool false) rfl rfl (by kernel_rfl) (by kernel_rfl) (by kernel_rfl) rfl trivial (fun _ _ => rfl) ?_
          simp only [Act.put, List.setIfInBounds_toArray, List.set_cons_succ, List.set_cons_zero]
          refine held_pass 3 172 _ rfl rfl (by kernel_rfl) (by kernel_rfl) (by kernel_rfl) rfl trivial ?_
          simp only [Act.put, List.setIfInBounds_toArray, List.set_cons_succ, List.set_cons_zero]
          refine held_pass 4 173 _ rfl rfl (by kernel_rfl) (by kernel_rfl) (by kernel_rfl) rfl trivial ?_
          simp only [Act.put, List.setIfInBounds_toArray, List.set_cons_succ, List.set_cons_zero]
          refine held_take 5 174 _ (.bool false) rfl rfl (by kernel_rfl) (by kernel_rfl) (by kernel_rfl) rfl trivial (fun _ _ => rfl) ?_
          simp only [Act.put, List.setIfInBounds_toArray, List.set_cons_succ, List.set_cons_zero]
          refine held_take 6 175 _ (.bool false) rfl rfl (by kernel_rfl) (by kernel_rfl) (by kernel_rfl) rfl trivial (fun _ _ => rfl) ?_
          simp only [Act.put, List.setIfInBounds_toArray, List.set_cons_succ, List.set_cons_zero]
          refine held_pass 7 176 _ rfl rfl (by kernel_rfl) (by kernel_rfl) (by kernel_rfl) rfl trivial ?_
          simp only [Act.put, List.setIfInBounds_toArray, List.set_cons_succ, List.set_cons_zero]
          refine held_pass 8 177 _ rfl rfl (by kernel_rfl) (by kernel_rfl) (by kernel_rfl) rfl trivial ?_
          simp only [Act.put, List.setIfInBounds_toArray, List.set_cons_succ, List.set_cons_zero]
          refine held_pass 9 178 _ rfl rfl (by kernel_rfl) (by kernel_rfl) (by kernel_rfl) rfl trivial ?_
          simp only [Act.put, List.setIfInBounds_toArray, List.set_cons_succ, List.set_cons_zero]
          refine held_pass 10 179 _ rfl rfl (by kernel_rfl) (by kernel_rfl) (by kernel_rfl) rfl trivial ?_
          simp only [Act.put, List.setIfInBounds_toArray, List.set_cons_succ, List.set_cons_zero]
          refine held_pass 11 180 _ rfl rfl (by kernel_rfl) (by kernel_rfl) (by kernel_rfl) rfl trivial ?_
          simp only [Act.put, List.setIfInBounds_toArray, List.set_cons_succ, List.set_cons_zero]
          refine held_pass 12 181 _ rfl rfl (by kernel_rfl) (by kernel_rfl) (by kernel_rfl) rfl trivial ?_
          simp only [Act.put, List.setIfInBounds_toArray, List.set_cons_succ, List.set_cons_zero]
          refine held_pass 13 182 _ rfl rfl (by kernel_rfl) (by kernel_rfl) (by kernel_rfl) rfl trivial ?_
          simp only [Act.put, List.setIfInBounds_toArray, List.set_cons_succ, List.set_cons_zero]
          refine held_pass 14 183 _ rfl rfl (by kernel_rfl) (by kernel_rfl) (by kernel_rfl) rfl trivial ?_
          simp only [Act.put, List.setIfInBounds_toArray, List.set_cons_succ, List.set_cons_zero]
          refine held_pass 15 184 _ rfl rfl (by kernel_rfl) (by kernel_rfl) (by kernel_rfl) rfl trivial ?_
          simp only [Act.put, List.setIfInBounds_toArray, List.set_cons_succ, List.set_cons_zero]
          refine held_pass 16 185 _ rfl rfl (by kernel_rfl) (by kernel_rfl) (by kernel_rfl) rfl trivial ?_
          simp only [Act.put, List.setIfInBounds_toArray, List.set_cons_succ, List.set_cons_zero]
          refine held_pass 17 186 _ rfl rfl (by kernel_rfl) (by kernel_rfl) (by kernel_rfl) rfl trivial ?_
          simp only [Act.put, List.setIfInBounds_toArray, List.set_cons_succ, List.set_cons_zero]
          refine held_pass 18 187 _ rfl rfl (by kernel_rfl) (by kernel_rfl) (by kernel_rfl) rfl trivial ?_
          simp only [Act.put, List.setIfInBounds_toArray, List.set_cons_succ, List.set_cons_zero]
          refine held_pass 19 188 _ rfl rfl (by kernel_rfl) (by kernel_rfl) (by kernel_rfl) rfl trivial ?_
          simp only [Act.put, List.setIfInBounds_toArray, List.set_cons_succ, List.set_cons_zero]
          refine held_pass 20 189 _ rfl rfl (by kernel_rfl) (by kernel_rfl) (by kernel_rfl) rfl trivial ?_
          simp only [Act.put, List.setIfInBounds_toArray, List.set_cons_succ, List.set_cons_zero]
          refine held_pass 21 190 _ rfl rfl (by kernel_rfl) (by kernel_rfl) (by kernel_rfl) rfl trivial ?_
          simp only [Act.put, List.setIfInBounds_toArray, List.set_cons_succ, List.set_cons_zero]
          refine held_pass 22 191 _ rfl rfl (by kernel_rfl) (by kernel_rfl) (by kernel_rfl) rfl trivial ?_
          simp only [Act.put, List.setIfInBounds_toArray, List.set_cons_succ, List.set_cons_zero]
          refine held_take 23 192 _ (.bool false) rfl rfl (by kernel_rfl) (by kernel_rfl) (by kernel_rfl) rfl trivial (fun _ _ => rfl) ?_
          simp only [Act.put, List.setIfInBounds_toArray, List.set_cons_succ, List.set_cons_zero]
          refine wpAnyH_done (by kernel_rfl) ?_ _
          refine NoPanic.normal ?_
          go_wp2_with fail
          go_roundw
          case rel => exact ⟨rfl, rfl, rfl, rfl, I + 1, _, by go_num, h1, h2, (hP5.both hp6 hc6 hr7 hc7).after (Below.refl _ _).drew⟩
          case measure => simp [intOf]; omega
        have b3 : (A.act == 3) = false := by simpa using a3
        by_cases a4 : A.act = 4
        · have b4 : (A.act == 4) = true := by simpa using a4
          have x65 : w5.cell? ⟨Bx, 6, none⟩ = some (.int .i64 A.n) := hE5.cell (j := 6) rfl
          clear a4
          go_wp2_with (first | (go_at_call 17; refine (erase6_any L s A.n w5 hP5.p).mono ?_; rintro e w6 ⟨rfl, hp6, hc6⟩; have hE6 := hE5.chg hc6 hBL; have x66 : w6.cell? ⟨Bx, 6, none⟩ = some (.int .i64 A.n) := hE6.cell (j := 6) rfl) | (go_at_call 18; refine (ref6Erase_any M s A.n w6 (hP5.still hc6)).mono ?_; rintro e w7 ⟨rfl, hr7, hc7⟩) | fail)
          refine held_begin (fun _ => True) (by kernel_rfl) ?_
          refine held_take 0 169 _ (.pointer none) rfl rfl (by kernel_rfl) (by kernel_rfl) (by kernel_rfl) rfl trivial (fun _ _ => rfl) ?_
          simp only [Act.put, List.setIfInBounds_toArray, List.set_cons_succ, List.set_cons_zero]
          refine held_take 1 170 _ (.bool false) rfl rfl (by kernel_rfl) (by kernel_rfl) (by kernel_rfl) rfl trivial (fun _ _ => rfl) ?_
          simp only [Act.put, List.setIfInBounds_toArray, List.set_cons_succ, List.set_cons_zero]
          refine held_take 2 171 _ (.bool false) rfl rfl (by kernel_rfl) (by kernel_rfl) (by kernel_rfl) rfl trivial (fun _ _ => rfl) ?_
          simp only [Act.put, List.setIfInBounds_toArray, List.set_cons_succ, List.set_cons_zero]
          refine held_pass 3 172 _ rfl rfl (by kernel_rfl) (by kernel_rfl) (by kernel_rfl) rfl trivial ?_
          simp only [Act.put, List.setIfInBounds_toArray, List.set_cons_succ, List.set_cons_zero]
          refine held_pass 4 173 _ rfl rfl (by kernel_rfl) (by kernel_rfl) (by kernel_rfl) rfl trivial ?_
          simp only [Act.put, List.setIfInBounds_toArray, List.set_cons_succ, List.set_cons_zero]
          refine held_take 5 174 _ (.bool false) rfl rfl (by kernel_rfl) (by kernel_rfl) (by kernel_rfl) rfl trivial (fun _ _ => rfl) ?_
          simp only [Act.put, List.setIfInBounds_toArray, List.set_cons_succ, List.set_cons_zero]
          refine held_take 6 175 _ (.bool false) rfl rfl (by kernel_rfl) (by kernel_rfl) (by kernel_rfl) rfl trivial (fun _ _ => rfl) ?_
          simp only [Act.put, List.setIfInBounds_toArray, List.set_cons_succ, List.set_cons_zero]
          refine held_pass 7 176 _ rfl rfl (by kernel_rfl) (by kernel_rfl) (by kernel_rfl) rfl trivial ?_
          simp only [Act.put, List.setIfInBounds_toArray, List.set_cons_succ, List.set_cons_zero]
          refine held_pass 8 177 _ rfl rfl (by kernel_rfl) (by kernel_rfl) (by kernel_rfl) rfl trivial ?_
          simp only [Act.put, List.setIfInBounds_toArray, List.set_cons_succ, List.set_cons_zero]
          refine held_pass 9 178 _ rfl rfl (by kernel_rfl) (by kernel_rfl) (by kernel_rfl) rfl trivial ?_
          simp only [Act.put, List.setIfInBounds_toArray, List.set_cons_succ, List.set_cons_zero]
          refine held_pass 10 179 _ rfl rfl (by kernel_rfl) (by kernel_rfl) (by kernel_rfl) rfl trivial ?_
          simp only [Act.put, List.setIfInBounds_toArray, List.set_cons_succ, List.set_cons_zero]
          refine held_pass 11 180 _ rfl rfl (by kernel_rfl) (by kernel_rfl) (by kernel_rfl) rfl trivial ?_
          simp only [Act.put, List.setIfInBounds_toArray, List.set_cons_succ, List.set_cons_zero]
          refine held_pass 12 181 _ rfl rfl (by kernel_rfl) (by kernel_rfl) (by kernel_rfl) rfl trivial ?_
          simp only [Act.put, List.setIfInBounds_toArray, List.set_cons_succ, List.set_cons_zero]
          refine held_pass 13 182 _ rfl rfl (by kernel_rfl) (by kernel_rfl) (by kernel_rfl) rfl trivial ?_
          simp only [Act.put, List.setIfInBounds_toArray, List.set_cons_succ, List.set_cons_zero]
          refine held_pass 14 183 _ rfl rfl (by kernel_rfl) (by kernel_rfl) (by kernel_rfl) rfl trivial ?_
          simp only [Act.put, List.setIfInBounds_toArray, List.set_cons_succ, List.set_cons_zero]
          refine held_pass 15 184 _ rfl rfl (by kernel_rfl) (by kernel_rfl) (by kernel_rfl) rfl trivial ?_
          simp only [Act.put, List.setIfInBounds_toArray, List.set_cons_succ, List.set_cons_zero]
          refine held_pass 16 185 _ rfl rfl (by kernel_rfl) (by kernel_rfl) (by kernel_rfl) rfl trivial ?_
          simp only [Act.put, List.setIfInBounds_toArray, List.set_cons_succ, List.set_cons_zero]
          refine held_pass 17 186 _ rfl rfl (by kernel_rfl) (by kernel_rfl) (by kernel_rfl) rfl trivial ?_
          simp only [Act.put, List.setIfInBounds_toArray, List.set_cons_succ, List.set_cons_zero]
          refine held_pass 18 187 _ rfl rfl (by kernel_rfl) (by kernel_rfl) (by kernel_rfl) rfl trivial ?_
          simp only [Act.put, List.setIfInBounds_toArray, List.set_cons_succ, List.set_cons_zero]
          refine held_pass 19 188 _ rfl rfl (by kernel_rfl) (by kernel_rfl) (by kernel_rfl) rfl trivial ?_
          simp only [Act.put, List.setIfInBounds_toArray, List.set_cons_succ, List.set_cons_zero]
          refine held_pass 20 189 _ rfl rfl (by kernel_rfl) (by kernel_rfl) (by kernel_rfl) rfl trivial ?_
          simp only [Act.put, List.setIfInBounds_toArray, List.set_cons_succ, List.set_cons_zero]
          refine held_pass 21 190 _ rfl rfl (by kernel_rfl) (by kernel_rfl) (by kernel_rfl) rfl trivial ?_
          simp only [Act.put, List.setIfInBounds_toArray, List.set_cons_succ, List.set_cons_zero]
          refine held_pass 22 191 _ rfl rfl (by kernel_rfl) (by kernel_rfl) (by kernel_rfl) rfl trivial ?_
          simp only [Act.put, List.setIfInBounds_toArray, List.set_cons_succ, List.set_cons_zero]
          refine held_take 23 192 _ (.bool false) rfl rfl (by kernel_rfl) (by kernel_rfl) (by kernel_rfl) rfl trivial (fun _ _ => rfl) ?_
          simp only [Act.put, List.setIfInBounds_toArray, List.set_cons_succ, List.set_cons_zero]
          refine wpAnyH_done (by kernel_rfl) ?_ _
          refine NoPanic.normal ?_
          go_wp2_with fail
          go_roundw
          case rel => exact ⟨rfl, rfl, rfl, rfl, I + 1, _, by go_num, h1, h2, (hP5.both hp6 hc6 hr7 hc7).after (Below.refl _ _).drew⟩
          case measure => simp [intOf]; omega
        have b4 : (A.act == 4) = false := by simpa using a4
        clear a1 a2 a3 a4
        go_wp2_with fail
        refine held_begin (fun _ => True) (by kernel_rfl) ?_
        refine held_take 0 169 _ (.pointer none) rfl rfl (by kernel_rfl) (by kernel_rfl) (by kernel_rfl) rfl trivial (fun _ _ => rfl) ?_
        simp only [Act.put, List.setIfInBounds_toArray, List.set_cons_succ, List.set_cons_zero]
        refine held_take 1 170 _ (.bool false) rfl rfl (by kernel_rfl) (by kernel_rfl) (by kernel_rfl) rfl trivial (fun _ _ => rfl) ?_
        simp only [Act.put, List.setIfInBounds_toArray, List.set_cons_succ, List.set_cons_zero]
        refine held_take 2 171 _ (.bool false) rfl rfl (by kernel_rfl) (by kernel_rfl) (by kernel_rfl) rfl trivial (fun _ _ => rfl) ?_
        simp only [Act.put, List.setIfInBounds_toArray, List.set_cons_succ, List.set_cons_zero]
        refine held_pass 3 172 _ rfl rfl (by kernel_rfl) (by kernel_rfl) (by kernel_rfl) rfl trivial ?_
        simp only [Act.put, List.setIfInBounds_toArray, List.set_cons_succ, List.set_cons_zero]
        refine held_pass 4 173 _ rfl rfl (by kernel_rfl) (by kernel_rfl) (by kernel_rfl) rfl trivial ?_
        simp only [Act.put, List.setIfInBounds_toArray, List.set_cons_succ, List.set_cons_zero]
        refine held_take 5 174 _ (.bool false) rfl rfl (by kernel_rfl) (by kernel_rfl) (by kernel_rfl) rfl trivial (fun _ _ => rfl) ?_
        simp only [Act.put, List.setIfInBounds_toArray, List.set_cons_succ, List.set_cons_zero]
        refine held_take 6 175 _ (.bool false) rfl rfl (by kernel_rfl) (by kernel_rfl) (by kernel_rfl) rfl trivial (fun _ _ => rfl) ?_
        simp only [Act.put, List.setIfInBounds_toArray, List.set_cons_succ, List.set_cons_zero]
        refine held_pass 7 176 _ rfl rfl (by kernel_rfl) (by kernel_rfl) (by kernel_rfl) rfl trivial ?_
        simp only [Act.put, List.setIfInBounds_toArray, List.set_cons_succ, List.set_cons_zero]
        refine held_pass 8 177 _ rfl rfl (by kernel_rfl) (by kernel_rfl) (by kernel_rfl) rfl trivial ?_
        simp only [Act.put, List.setIfInBounds_toArray, List.set_cons_succ, List.set_cons_zero]
        refine held_pass 9 178 _ rfl rfl (by kernel_rfl) (by kernel_rfl) (by kernel_rfl) rfl trivial ?_
        simp only [Act.put, List.setIfInBounds_toArray, List.set_cons_succ, List.set_cons_zero]
        refine held_pass 10 179 _ rfl rfl (by kernel_rfl) (by kernel_rfl) (by kernel_rfl) rfl trivial ?_
        simp only [Act.put, List.setIfInBounds_toArray, List.set_cons_succ, List.set_cons_zero]
        refine held_pass 11 180 _ rfl rfl (by kernel_rfl) (by kernel_rfl) (by kernel_rfl) rfl trivial ?_
        simp only [Act.put, List.setIfInBounds_toArray, List.set_cons_succ, List.set_cons_zero]
        refine held_pass 12 181 _ rfl rfl (by kernel_rfl) (by kernel_rfl) (by kernel_rfl) rfl trivial ?_
        simp only [Act.put, List.setIfInBounds_toArray, List.set_cons_succ, List.set_cons_zero]
        refine held_pass 13 182 _ rfl rfl (by kernel_rfl) (by kernel_rfl) (by kernel_rfl) rfl trivial ?_
        simp only [Act.put, List.setIfInBounds_toArray, List.set_cons_succ, List.set_cons_zero]
        refine held_pass 14 183 _ rfl rfl (by kernel_rfl) (by kernel_rfl) (by kernel_rfl) rfl trivial ?_
        simp only [Act.put, List.setIfInBounds_toArray, List.set_cons_succ, List.set_cons_zero]
        refine held_pass 15 184 _ rfl rfl (by kernel_rfl) (by kernel_rfl) (by kernel_rfl) rfl trivial ?_
        simp only [Act.put, List.setIfInBounds_toArray, List.set_cons_succ, List.set_cons_zero]
        refine held_pass 16 185 _ rfl rfl (by kernel_rfl) (by kernel_rfl) (by kernel_rfl) rfl trivial ?_
        simp only [Act.put, List.setIfInBounds_toArray, List.set_cons_succ, List.set_cons_zero]
        refine held_pass 17 186 _ rfl rfl (by kernel_rfl) (by kernel_rfl) (by kernel_rfl) rfl trivial ?_
        simp only [Act.put, List.setIfInBounds_toArray, List.set_cons_succ, List.set_cons_zero]
        refine held_pass 18 187 _ rfl rfl (by kernel_rfl) (by kernel_rfl) (by kernel_rfl) rfl trivial ?_
        simp only [Act.put, List.setIfInBounds_toArray, List.set_cons_succ, List.set_cons_zero]
        refine held_pass 19 188 _ rfl rfl (by kernel_rfl) (by kernel_rfl) (by kernel_rfl) rfl trivial ?_
        simp only [Act.put, List.setIfInBounds_toArray, List.set_cons_succ, List.set_cons_zero]
        refine held_pass 20 189 _ rfl rfl (by kernel_rfl) (by kernel_rfl) (by kernel_rfl) rfl trivial ?_
        simp only [Act.put, List.setIfInBounds_toArray, List.set_cons_succ, List.set_cons_zero]
        refine held_pass 21 190 _ rfl rfl (by kernel_rfl) (by kernel_rfl) (by kernel_rfl) rfl trivial ?_
        simp only [Act.put, List.setIfInBounds_toArray, List.set_cons_succ, List.set_cons_zero]
        refine held_pass 22 191 _ rfl rfl (by kernel_rfl) (by kernel_rfl) (by kernel_rfl) rfl trivial ?_
        simp only [Act.put, List.setIfInBounds_toArray, List.set_cons_succ, List.set_cons_zero]
        refine held_take 23 192 _ (.bool false) rfl rfl (by kernel_rfl) (by kernel_rfl) (by kernel_rfl) rfl trivial (fun _ _ => rfl) ?_
        simp only [Act.put, List.setIfInBounds_toArray, List.set_cons_succ, List.set_cons_zero]
        refine wpAnyH_done (by kernel_rfl) ?_ _
        refine NoPanic.normal ?_
        go_wp2_with fail
        go_roundw
        case rel => exact ⟨rfl, rfl, rfl, rfl, I + 1, _, by go_num, h1, h2, hP5.after (Below.refl _ _).drew⟩
        case measure => simp [intOf]; omega
      · have HPW : Hid (Calls Tryd.prog 13 #[.pointer (some ⟨L.g, 0, none⟩)] wr fun e w' => e = .returned (.tuple #[]) ∧ PFlash w' L (powerF s) ∧ Chg L.T wr w') := power6_any L s wr hP.p
        clear HO HP HLC HF
        by_cases h1 : I < l.length
        · have i1 : (I : Int) < (l.length : Int) := by omega
          have i2 : ¬ (I : Int) < 150 := by omega
          go_wp2_with (first | (go_at_call 13; refine HPW.out.mono ?_; rintro e w6 ⟨rfl, hp6, hc6⟩) | (go_at_call 14; refine (ref6Power_any M s w6 (hP.still hc6)).mono ?_; rintro e w7 ⟨rfl, hr7, hc7⟩; have hP7 := hP.both hp6 hc6 hr7 hc7) | (go_at_call 23; refine (read6_any L (powerF s) 0 4096 w7 hP7.p).mono ?_; rintro e w8 ⟨v8, rfl, ho8, hb8⟩; have hP8 := hP7.after hb8) | (go_at_call 24; refine (ref6Read_any M (powerF s) 0 4096 w8 hP8.r).mono ?_; rintro e w9 ⟨v9, rfl, ho9, hb9⟩; have hP9 := hP8.after hb9; have k1 := seg_stringD (ho8.seg.below hb9 (Nat.le_refl _)) 9 Tryd.underlying9; have k2 := seg_stringD ho9.seg 9 Tryd.underlying9; obtain ⟨a8, c8, hv8⟩ := ho8.seg.shapeD; obtain ⟨a9, c9, hv9⟩ := ho9.seg.shapeD; subst hv8 hv9; generalize (readF (powerF s) 0 4096).1 = RB at *) | fail)
          go_ret
          exact ⟨rfl, hP9.b⟩
        · have i1 : ¬ (I : Int) < (l.length : Int) := by omega
          go_wp2_with (first | (go_at_call 13; refine HPW.out.mono ?_; rintro e w6 ⟨rfl, hp6, hc6⟩) | (go_at_call 14; refine (ref6Power_any M s w6 (hP.still hc6)).mono ?_; rintro e w7 ⟨rfl, hr7, hc7⟩; have hP7 := hP.both hp6 hc6 hr7 hc7) | (go_at_call 23; refine (read6_any L (powerF s) 0 4096 w7 hP7.p).mono ?_; rintro e w8 ⟨v8, rfl, ho8, hb8⟩; have hP8 := hP7.after hb8) | (go_at_call 24; refine (ref6Read_any M (powerF s) 0 4096 w8 hP8.r).mono ?_; rintro e w9 ⟨v9, rfl, ho9, hb9⟩; have hP9 := hP8.after hb9; have k1 := seg_stringD (ho8.seg.below hb9 (Nat.le_refl _)) 9 Tryd.underlying9; have k2 := seg_stringD ho9.seg 9 Tryd.underlying9; obtain ⟨a8, c8, hv8⟩ := ho8.seg.shapeD; obtain ⟨a9, c9, hv9⟩ := ho9.seg.shapeD; subst hv8 hv9; generalize (readF (powerF s) 0 4096).1 = RB at *) | fail)
          go_ret
          exact ⟨rfl, hP9.b⟩
  · obtain ⟨j, rfl⟩ : ∃ j : Nat, bl = (j : Int) := ⟨bl.toNat, by omega⟩
    have hjL : j + 1 < L.n := by rw [hLn]; omega
    have hjM : j + 1 < M.n := by rw [hMn]; omega
    have HO : Hid (∀ W s, Below w.heap.size w W → PFlash W L s → s.down = false → Calls Tryd.prog 9 #[.pointer (some ⟨L.g, 0, none⟩), .int .i64 (j : Int)] W fun e w' => Below W.heap.size W w' ∧ ∃ g, e = .returned (.tuple #[.pointer (some ⟨g, 0, none⟩), .int .i64 0]) ∧ Blk w' g 71 (kpC L j (findK s j)) ∧ W.heap.size ≤ g) := fun W s hb h hd => (open9_any L s j W h hjL (Nat.lt_of_lt_of_le hgf hb.size) (HF.out.below hb hgf)).mono (by rintro e w' ⟨h1, h2⟩; rw [if_neg (by rw [hd]; decide)] at h2; exact ⟨h1, h2⟩)
    have HP : Hid (∀ W s, RFlash W M s → s.down = false → Calls Tryd.prog 10 #[.pointer (some ⟨M.g, 0, none⟩), .int .i64 (j : Int)] W fun e w' => Below W.heap.size W w' ∧ ∃ g, e = .returned (.tuple #[.pointer (some ⟨g, 0, none⟩), .int .i64 0]) ∧ Blk w' g 50 (kpR M j (findK s j)) ∧ W.heap.size ≤ g) := fun W s h hd => (ropen9_any M s j W h hjM).mono (by rintro e w' ⟨h1, h2⟩; rw [if_neg (by rw [hd]; decide)] at h2; exact ⟨h1, h2⟩)
    clear hbl hLn hMn hy1 hy2
    go_wp2_with (first | (go_at_call 9; refine (HO.out w4 _ hFP.b hFP.p rfl).mono ?_; rintro e w5 ⟨hb5, g, rfl, hk5, hg5⟩) | (go_at_call 10; refine (HP.out _ _ (hFP.after hb5).r rfl).mono ?_; rintro e w6 ⟨hb6, x, rfl, hx6, hy6⟩) | fail)
    have HKP : Hid (KP9 w w6 L M j (newF 4 u) (findK (newF 4 u) j) g x) := hFP.opened hjL hb5 hk5 hg5 hb6 hx6 hy6
    clear hFP hb5 hk5 hg5 hb6 hx6 hy6
    go_loopw [10, 13, 14, 15, 16] (fun ev kv xv gv iv wr => ev = .int .i64 0 ∧ gv = .int .i64 0 ∧ ∃ (I g x : Nat) (s : FS) (K : KS), kv = .pointer (some ⟨g, 0, none⟩) ∧ xv = .pointer (some ⟨x, 0, none⟩) ∧ iv = .int .i64 (I : Int) ∧ I ≤ l.length ∧ I ≤ 150 ∧ KP9 w wr L M j s K g x) (fun _ _ _ _ iv _ => 150 - (intOf iv).toNat)
    case atStart => exact ⟨rfl, rfl, 0, g, x, _, _, rfl, rfl, rfl, Nat.zero_le _, by omega, HKP.out⟩
    case round =>
      clear HKP
      obtain ⟨rfl, rfl, I, g, x, s, K, rfl, rfl, rfl, hI, hI1, hP⟩ := hrel
      by_cases hgo : I < l.length ∧ I < 150
      · obtain ⟨h1, h2⟩ := hgo
        have i1 : (I : Int) < (l.length : Int) := by omega
        have i2 : (I : Int) < 150 := by omega
        obtain ⟨A, hA⟩ : ∃ A, l[I]? = some A := ⟨_, List.getElem?_eq_getElem h1⟩
        obtain ⟨q, off, rfl, hcells⟩ := HLC.out I A hA
        obtain ⟨cv, hrg, hat⟩ := hcells.range
        have hrgr : wr.rangeAt q (off + I * 9) (stL A cv) := fun j u hu => by
          rw [hP.f.b.cell (p := ⟨q, off + I * 9 + j, none⟩) hcells.lt]
          exact hrg j u hu
        have ix := index_steps9 q off l.length c I h1
        have hap : 0 < A.c.length → ∀ b, cv.ownBlock = some b → b < w.heap.size := fun h b hb => by
          obtain ⟨ab, cb, rfl⟩ := Seg.shapeD hat.c
          obtain ⟨qb, qo, rfl, _, _, hlt⟩ := hat.c.formD h
          cases hb
          exact hlt
        have HAT : Hid (At9 w cv A) := hat
        have HN : Hid (R64 A.n ∧ R64 A.k) := ⟨hat.n, hat.k⟩
        obtain ⟨ac, cc, rfl⟩ := Seg.shapeD hat.c
        clear hrg hcells hA hat HLC
        go_upto_region 17 with (first | (refine wpList_load_mid rfl 43 _ rfl q (off + I * 9) rfl (stL A (.slice ac A.c.length cc)) _ hrgr Tryd.underlying43 rfl info_step9 ?_) | (refine store_blk rfl 43 _ _ rfl rfl wr.heap.size (stL A (.slice ac A.c.length cc)).toArray rfl rfl 43 _ (Blk.new _ _ _) info_step9 rfl (by simp [Value.oneCell', stL]) ?_; intro w5 hE5 hg5 hs5) | fail)
        have hb5 : Below wr.heap.size wr w5 := below_grown ((Below.refl wr.heap.size wr).alloc (Nat.le_refl _) _) hg5 (by rw [World.size_alloc]; omega) (fun b hb => by have h2 := Option.some.inj hb; omega)
        obtain ⟨Bx, hBx⟩ : ∃ Bx, Bx = wr.heap.size := ⟨_, rfl⟩
        rw [← hBx] at hE5 ⊢
        have hBL : ¬ L.T Bx := fun h => by have := hP.f.p.lt Bx h; omega
        have hBg : Bx ≠ g := fun h => by have := hP.k.lt; omega
        have hP5 := hP.after hb5
        clear hP hrgr ix hg5 hs5 hb5 hBx
        have d0 : w5.cell? ⟨Bx, 0, none⟩ = some (.int .i64 A.act) := hE5.cell (j := 0) rfl
        by_cases a1 : A.act = 1
        · have b1 : (A.act == 1) = true := by simpa using a1
          have x65 : w5.cell? ⟨Bx, 6, none⟩ = some (.int .i64 A.n) := hE5.cell (j := 6) rfl
          have x75 : w5.cell? ⟨Bx, 7, none⟩ = some (.int .i64 A.k) := hE5.cell (j := 7) rfl
          clear a1
          go_wp2_with (first | (go_at_call 11; refine (arm6_any L s A.n A.k w5 hP5.f.p HN.out.1 HN.out.2).mono ?_; rintro e w6 ⟨rfl, hp6, hc6⟩; have hE6 := hE5.chg hc6 hBL; have x66 : w6.cell? ⟨Bx, 6, none⟩ = some (.int .i64 A.n) := hE6.cell (j := 6) rfl; have x76 : w6.cell? ⟨Bx, 7, none⟩ = some (.int .i64 A.k) := hE6.cell (j := 7) rfl) | (go_at_call 12; refine (ref6Arm_any M s A.n A.k w6 (hP5.f.still hc6) HN.out.1.2 HN.out.2.2).mono ?_; rintro e w7 ⟨rfl, hr7, hc7⟩) | fail)
          have hP7 := hP5.both hp6 hc6 hr7 hc7
          have hkk := KP9.k hP7
          have hxx := KP9.x hP7
          have HRC : Hid (∀ V, Below w7.heap.size w7 V → Calls Tryd.prog 21 #[.pointer (some ⟨g, 0, none⟩)] V fun e w' => e = .returned (.agg #[.int .i64 K.r.active, .int .i64 K.r.trial, .int .i64 K.r.tries, .int .i64 K.r.v0, .int .i64 K.r.v1]) ∧ Below V.heap.size V w') := fun V hV => record9_any L g j _ V (hkk.below hV hkk.lt)
          have HGN : Hid (∀ V, Below w7.heap.size w7 V → Calls Tryd.prog 22 #[.pointer (some ⟨g, 0, none⟩)] V fun e w' => e = .returned (.int .i64 (K.gen : Int)) ∧ w' = V) := fun V hV => gen9_any L g j _ V (hkk.below hV hkk.lt)
          have HRB : Hid (∀ V, Below w7.heap.size w7 V → V.rangeAt x 3 [.int .i64 K.r.active, .int .i64 K.r.trial, .int .i64 K.r.tries, .int .i64 K.r.v0, .int .i64 K.r.v1]) := fun V hV => fun i z hz => by have h3 := hxx.below hV hxx.lt; match i, hz with | 0, hz => cases hz; exact h3.cell (j := 3) rfl | 1, hz => cases hz; exact h3.cell (j := 4) rfl | 2, hz => cases hz; exact h3.cell (j := 5) rfl | 3, hz => cases hz; exact h3.cell (j := 6) rfl | 4, hz => cases hz; exact h3.cell (j := 7) rfl
          have HXG : Hid (∀ V, Below w7.heap.size w7 V → V.cell? ⟨x, 2, none⟩ = some (.int .i64 (K.gen : Int))) := fun V hV => (hxx.below hV hxx.lt).cell (j := 2) rfl
          have HNE : Hid (∀ V, (binOp .neq 40 (.agg #[.int .i64 K.r.active, .int .i64 K.r.trial, .int .i64 K.r.tries, .int .i64 K.r.v0, .int .i64 K.r.v1]) (.agg #[.int .i64 K.r.active, .int .i64 K.r.trial, .int .i64 K.r.tries, .int .i64 K.r.v0, .int .i64 K.r.v1])).run Tryd.prog V = .ok (.bool false) V) := fun V => by rw [ne_br]; simp
          have HNI : Hid (∀ V, (binOp .neq 3 (.int .i64 (K.gen : Int)) (.int .i64 (K.gen : Int))).run Tryd.prog V = .ok (.bool false) V) := fun V => by simp [go_sem]
          clear hkk hxx
          have hX0 : Below w7.heap.size w7 w7.drew := (Below.refl _ _).drew
          refine held_begin (fun V => Below w7.heap.size w7 V) (by kernel_rfl) ?_
          refine held_take 0 169 _ (.pointer (some ⟨g, 0, none⟩)) rfl rfl (by kernel_rfl) (by kernel_rfl) (by kernel_rfl) rfl hX0 (fun _ _ => rfl) ?_
          simp only [Act.put, List.setIfInBounds_toArray, List.set_cons_succ, List.set_cons_zero]
          refine held_take 1 170 _ (.bool true) rfl rfl (by kernel_rfl) (by kernel_rfl) (by kernel_rfl) rfl hX0 (fun _ _ => rfl) ?_
          simp only [Act.put, List.setIfInBounds_toArray, List.set_cons_succ, List.set_cons_zero]
          refine held_take 2 171 _ (.bool true) rfl rfl (by kernel_rfl) (by kernel_rfl) (by kernel_rfl) rfl hX0 (fun _ _ => rfl) ?_
          simp only [Act.put, List.setIfInBounds_toArray, List.set_cons_succ, List.set_cons_zero]
          refine held_take 3 172 _ (.pointer (some ⟨x, 0, none⟩)) rfl rfl (by kernel_rfl) (by kernel_rfl) (by kernel_rfl) rfl hX0 (fun _ _ => rfl) ?_
          simp only [Act.put, List.setIfInBounds_toArray, List.set_cons_succ, List.set_cons_zero]
          refine held_take 4 173 _ (.bool true) rfl rfl (by kernel_rfl) (by kernel_rfl) (by kernel_rfl) rfl hX0 (fun _ _ => rfl) ?_
          simp only [Act.put, List.setIfInBounds_toArray, List.set_cons_succ, List.set_cons_zero]
          refine held_take 5 174 _ (.bool true) rfl rfl (by kernel_rfl) (by kernel_rfl) (by kernel_rfl) rfl hX0 (fun _ _ => rfl) ?_
          simp only [Act.put, List.setIfInBounds_toArray, List.set_cons_succ, List.set_cons_zero]
          refine held_take 6 175 _ (.bool true) rfl rfl (by kernel_rfl) (by kernel_rfl) (by kernel_rfl) rfl hX0 (fun _ _ => rfl) ?_
          simp only [Act.put, List.setIfInBounds_toArray, List.set_cons_succ, List.set_cons_zero]
          refine held_take 7 176 _ (.pointer (some ⟨g, 0, none⟩)) rfl rfl (by kernel_rfl) (by kernel_rfl) (by kernel_rfl) rfl hX0 (fun _ _ => rfl) ?_
          simp only [Act.put, List.setIfInBounds_toArray, List.set_cons_succ, List.set_cons_zero]
          refine held_take 9 178 _ (.pointer (some ⟨x, 0, none⟩)) rfl rfl (by kernel_rfl) (by kernel_rfl) (by kernel_rfl) rfl hX0 (fun _ _ => rfl) ?_
          simp only [Act.put, List.setIfInBounds_toArray, List.set_cons_succ, List.set_cons_zero]
          refine held_take 10 179 _ (.pointer (some ⟨x, 0, none⟩)) rfl rfl (by kernel_rfl) (by kernel_rfl) (by kernel_rfl) rfl hX0 (fun _ _ => rfl) ?_
          simp only [Act.put, List.setIfInBounds_toArray, List.set_cons_succ, List.set_cons_zero]
          refine held_take 11 180 _ (.pointer (some ⟨x, 3, none⟩)) rfl rfl (by kernel_rfl) (by kernel_rfl) (by kernel_rfl) rfl hX0 (fun _ _ => rfl) ?_
          simp only [Act.put, List.setIfInBounds_toArray, List.set_cons_succ, List.set_cons_zero]
          refine held_take 12 181 _ (.agg #[.int .i64 K.r.active, .int .i64 K.r.trial, .int .i64 K.r.tries, .int .i64 K.r.v0, .int .i64 K.r.v1]) rfl rfl (by kernel_rfl) (by kernel_rfl) (by kernel_rfl) rfl hX0 (fun V hV => exec_loads 40 _ rfl x 3 rfl [.int .i64 K.r.active, .int .i64 K.r.trial, .int .i64 K.r.tries, .int .i64 K.r.v0, .int .i64 K.r.v1] _ (HRB.out V hV) Tryd.underlying40 rfl info_boot9) ?_
          simp only [Act.put, List.setIfInBounds_toArray, List.set_cons_succ, List.set_cons_zero]
          refine held_all1 8 (by kernel_rfl) (op_call 8 177 _ 21 #[.pointer (some ⟨g, 0, none⟩)] rfl rfl rfl (exec_one 21 _ _ rfl _ rfl Tryd.call21) ((HRC.out _ hX0).mono ?_))
          rintro e v1 ⟨rfl, hc1⟩
          have hX1 : Below w7.heap.size w7 v1 := Below.trans hX0 (hc1.mono (Below.size hX0))
          refine ⟨_, rfl, hX1, ?_⟩
          simp only [Act.put, List.setIfInBounds_toArray, List.set_cons_succ, List.set_cons_zero]
          refine held_take 13 182 _ (.bool false) rfl rfl (by kernel_rfl) (by kernel_rfl) (by kernel_rfl) rfl hX1 (fun V _ => exec_cmp .neq 40 40 _ _ rfl (.inl rfl) (.agg #[.int .i64 K.r.active, .int .i64 K.r.trial, .int .i64 K.r.tries, .int .i64 K.r.v0, .int .i64 K.r.v1]) (.agg #[.int .i64 K.r.active, .int .i64 K.r.trial, .int .i64 K.r.tries, .int .i64 K.r.v0, .int .i64 K.r.v1]) (.bool false) rfl rfl (by kernel_rfl) (HNE.out V)) ?_
          simp only [Act.put, List.setIfInBounds_toArray, List.set_cons_succ, List.set_cons_zero]
          refine held_take 14 183 _ (.bool false) rfl rfl (by kernel_rfl) (by kernel_rfl) (by kernel_rfl) rfl hX1 (fun _ _ => rfl) ?_
          simp only [Act.put, List.setIfInBounds_toArray, List.set_cons_succ, List.set_cons_zero]
          refine held_take 15 184 _ (.pointer (some ⟨g, 0, none⟩)) rfl rfl (by kernel_rfl) (by kernel_rfl) (by kernel_rfl) rfl hX1 (fun _ _ => rfl) ?_
          simp only [Act.put, List.setIfInBounds_toArray, List.set_cons_succ, List.set_cons_zero]
          refine held_take 17 186 _ (.pointer (some ⟨x, 0, none⟩)) rfl rfl (by kernel_rfl) (by kernel_rfl) (by kernel_rfl) rfl hX1 (fun _ _ => rfl) ?_
          simp only [Act.put, List.setIfInBounds_toArray, List.set_cons_succ, List.set_cons_zero]
          refine held_take 18 187 _ (.pointer (some ⟨x, 0, none⟩)) rfl rfl (by kernel_rfl) (by kernel_rfl) (by kernel_rfl) rfl hX1 (fun _ _ => rfl) ?_
          simp only [Act.put, List.setIfInBounds_toArray, List.set_cons_succ, List.set_cons_zero]
          refine held_take 19 188 _ (.pointer (some ⟨x, 2, none⟩)) rfl rfl (by kernel_rfl) (by kernel_rfl) (by kernel_rfl) rfl hX1 (fun _ _ => rfl) ?_
          simp only [Act.put, List.setIfInBounds_toArray, List.set_cons_succ, List.set_cons_zero]
          refine held_take 20 189 _ (.int .i64 (K.gen : Int)) rfl rfl (by kernel_rfl) (by kernel_rfl) (by kernel_rfl) rfl hX1 (fun V hV => exec_load1 3 _ rfl (fun _ => by kernel_rfl) x 2 rfl _ (HXG.out V hV)) ?_
          simp only [Act.put, List.setIfInBounds_toArray, List.set_cons_succ, List.set_cons_zero]
          refine held_all1 16 (by kernel_rfl) (op_call 16 185 _ 22 #[.pointer (some ⟨g, 0, none⟩)] rfl rfl rfl (exec_one 22 _ _ rfl _ rfl Tryd.call22) ((HGN.out _ hX1).mono ?_))
          rintro e v2 ⟨rfl, rfl⟩
          refine ⟨_, rfl, hX1, ?_⟩
          simp only [Act.put, List.setIfInBounds_toArray, List.set_cons_succ, List.set_cons_zero]
          refine held_take 21 190 _ (.bool false) rfl rfl (by kernel_rfl) (by kernel_rfl) (by kernel_rfl) rfl hX1 (fun V _ => exec_cmp .neq 3 3 _ _ rfl (.inl rfl) (.int .i64 (K.gen : Int)) (.int .i64 (K.gen : Int)) (.bool false) rfl rfl (by kernel_rfl) (HNI.out V)) ?_
          simp only [Act.put, List.setIfInBounds_toArray, List.set_cons_succ, List.set_cons_zero]
          refine held_take 22 191 _ (.bool false) rfl rfl (by kernel_rfl) (by kernel_rfl) (by kernel_rfl) rfl hX1 (fun _ _ => rfl) ?_
          simp only [Act.put, List.setIfInBounds_toArray, List.set_cons_succ, List.set_cons_zero]
          refine held_take 23 192 _ (.bool false) rfl rfl (by kernel_rfl) (by kernel_rfl) (by kernel_rfl) rfl hX1 (fun _ _ => rfl) ?_
          simp only [Act.put, List.setIfInBounds_toArray, List.set_cons_succ, List.set_cons_zero]
          refine wpAnyH_done (by kernel_rfl) ?_ _
          refine NoPanic.normal ?_
          go_wp2_with fail
          go_roundw
          case rel => exact ⟨rfl, rfl, I + 1, _, _, _, _, rfl, rfl, by go_num, h1, h2, KP9.after hP7 hX1⟩
          case measure => simp [intOf]; omega
        have b1 : (A.act == 1) = false := by simpa using a1
        by_cases a2 : A.act = 2
        · have b2 : (A.act == 2) = true := by simpa using a2
          clear a2
          go_wp2_with (first | (go_at_call 13; refine (power6_any L s w5 hP5.f.p).mono ?_; rintro e w6 ⟨rfl, hp6, hc6⟩; have hE6 := hE5.chg hc6 hBL) | (go_at_call 14; refine (ref6Power_any M s w6 (hP5.f.still hc6)).mono ?_; rintro e w7 ⟨rfl, hr7, hc7⟩; have hP7 := hP5.f.both hp6 hc6 hr7 hc7) | (go_at_call 9; refine (HO.out w7 _ hP7.b hP7.p rfl).mono ?_; rintro e w8 ⟨hb8, g8, rfl, hk8, hg8⟩) | (go_at_call 10; refine (HP.out _ _ (hP7.after hb8).r rfl).mono ?_; rintro e w9 ⟨hb9, x9, rfl, hx9, hy9⟩) | fail)
          have hP9 := hP7.opened hjL hb8 hk8 hg8 hb9 hx9 hy9
          clear hb8 hk8 hg8 hb9 hx9 hy9 hP5 hP7
          generalize findK (powerF s) j = K9 at *
          have hkk := KP9.k hP9
          have hxx := KP9.x hP9
          have HRC : Hid (∀ V, Below w9.heap.size w9 V → Calls Tryd.prog 21 #[.pointer (some ⟨g8, 0, none⟩)] V fun e w' => e = .returned (.agg #[.int .i64 K9.r.active, .int .i64 K9.r.trial, .int .i64 K9.r.tries, .int .i64 K9.r.v0, .int .i64 K9.r.v1]) ∧ Below V.heap.size V w') := fun V hV => record9_any L g8 j _ V (hkk.below hV hkk.lt)
          have HGN : Hid (∀ V, Below w9.heap.size w9 V → Calls Tryd.prog 22 #[.pointer (some ⟨g8, 0, none⟩)] V fun e w' => e = .returned (.int .i64 (K9.gen : Int)) ∧ w' = V) := fun V hV => gen9_any L g8 j _ V (hkk.below hV hkk.lt)
          have HRB : Hid (∀ V, Below w9.heap.size w9 V → V.rangeAt x9 3 [.int .i64 K9.r.active, .int .i64 K9.r.trial, .int .i64 K9.r.tries, .int .i64 K9.r.v0, .int .i64 K9.r.v1]) := fun V hV => fun i z hz => by have h3 := hxx.below hV hxx.lt; match i, hz with | 0, hz => cases hz; exact h3.cell (j := 3) rfl | 1, hz => cases hz; exact h3.cell (j := 4) rfl | 2, hz => cases hz; exact h3.cell (j := 5) rfl | 3, hz => cases hz; exact h3.cell (j := 6) rfl | 4, hz => cases hz; exact h3.cell (j := 7) rfl
          have HXG : Hid (∀ V, Below w9.heap.size w9 V → V.cell? ⟨x9, 2, none⟩ = some (.int .i64 (K9.gen : Int))) := fun V hV => (hxx.below hV hxx.lt).cell (j := 2) rfl
          have HNE : Hid (∀ V, (binOp .neq 40 (.agg #[.int .i64 K9.r.active, .int .i64 K9.r.trial, .int .i64 K9.r.tries, .int .i64 K9.r.v0, .int .i64 K9.r.v1]) (.agg #[.int .i64 K9.r.active, .int .i64 K9.r.trial, .int .i64 K9.r.tries, .int .i64 K9.r.v0, .int .i64 K9.r.v1])).run Tryd.prog V = .ok (.bool false) V) := fun V => by rw [ne_br]; simp
          have HNI : Hid (∀ V, (binOp .neq 3 (.int .i64 (K9.gen : Int)) (.int .i64 (K9.gen : Int))).run Tryd.prog V = .ok (.bool false) V) := fun V => by simp [go_sem]
          clear hkk hxx
          have hX0 : Below w9.heap.size w9 w9.drew := (Below.refl _ _).drew
          refine held_begin (fun V => Below w9.heap.size w9 V) (by kernel_rfl) ?_
          refine held_take 0 169 _ (.pointer (some ⟨g8, 0, none⟩)) rfl rfl (by kernel_rfl) (by kernel_rfl) (by kernel_rfl) rfl hX0 (fun _ _ => rfl) ?_
          simp only [Act.put, List.setIfInBounds_toArray, List.set_cons_succ, List.set_cons_zero]
          refine held_take 1 170 _ (.bool true) rfl rfl (by kernel_rfl) (by kernel_rfl) (by kernel_rfl) rfl hX0 (fun _ _ => rfl) ?_
          simp only [Act.put, List.setIfInBounds_toArray, List.set_cons_succ, List.set_cons_zero]
          refine held_take 2 171 _ (.bool true) rfl rfl (by kernel_rfl) (by kernel_rfl) (by kernel_rfl) rfl hX0 (fun _ _ => rfl) ?_
          simp only [Act.put, List.setIfInBounds_toArray, List.set_cons_succ, List.set_cons_zero]
          refine held_take 3 172 _ (.pointer (some ⟨x9, 0, none⟩)) rfl rfl (by kernel_rfl) (by kernel_rfl) (by kernel_rfl) rfl hX0 (fun _ _ => rfl) ?_
          simp only [Act.put, List.setIfInBounds_toArray, List.set_cons_succ, List.set_cons_zero]
          refine held_take 4 173 _ (.bool true) rfl rfl (by kernel_rfl) (by kernel_rfl) (by kernel_rfl) rfl hX0 (fun _ _ => rfl) ?_
          simp only [Act.put, List.setIfInBounds_toArray, List.set_cons_succ, List.set_cons_zero]
          refine held_take 5 174 _ (.bool true) rfl rfl (by kernel_rfl) (by kernel_rfl) (by kernel_rfl) rfl hX0 (fun _ _ => rfl) ?_
          simp only [Act.put, List.setIfInBounds_toArray, List.set_cons_succ, List.set_cons_zero]
          refine held_take 6 175 _ (.bool true) rfl rfl (by kernel_rfl) (by kernel_rfl) (by kernel_rfl) rfl hX0 (fun _ _ => rfl) ?_
          simp only [Act.put, List.setIfInBounds_toArray, List.set_cons_succ, List.set_cons_zero]
          refine held_take 7 176 _ (.pointer (some ⟨g8, 0, none⟩)) rfl rfl (by kernel_rfl) (by kernel_rfl) (by kernel_rfl) rfl hX0 (fun _ _ => rfl) ?_
          simp only [Act.put, List.setIfInBounds_toArray, List.set_cons_succ, List.set_cons_zero]
          refine held_take 9 178 _ (.pointer (some ⟨x9, 0, none⟩)) rfl rfl (by kernel_rfl) (by kernel_rfl) (by kernel_rfl) rfl hX0 (fun _ _ => rfl) ?_
          simp only [Act.put, List.setIfInBounds_toArray, List.set_cons_succ, List.set_cons_zero]
          refine held_take 10 179 _ (.pointer (some ⟨x9, 0, none⟩)) rfl rfl (by kernel_rfl) (by kernel_rfl) (by kernel_rfl) rfl hX0 (fun _ _ => rfl) ?_
          simp only [Act.put, List.setIfInBounds_toArray, List.set_cons_succ, List.set_cons_zero]
          refine held_take 11 180 _ (.pointer (some ⟨x9, 3, none⟩)) rfl rfl (by kernel_rfl) (by kernel_rfl) (by kernel_rfl) rfl hX0 (fun _ _ => rfl) ?_
          simp only [Act.put, List.setIfInBounds_toArray, List.set_cons_succ, List.set_cons_zero]
          refine held_take 12 181 _ (.agg #[.int .i64 K9.r.active, .int .i64 K9.r.trial, .int .i64 K9.r.tries, .int .i64 K9.r.v0, .int .i64 K9.r.v1]) rfl rfl (by kernel_rfl) (by kernel_rfl) (by kernel_rfl) rfl hX0 (fun V hV => exec_loads 40 _ rfl x9 3 rfl [.int .i64 K9.r.active, .int .i64 K9.r.trial, .int .i64 K9.r.tries, .int .i64 K9.r.v0, .int .i64 K9.r.v1] _ (HRB.out V hV) Tryd.underlying40 rfl info_boot9) ?_
          simp only [Act.put, List.setIfInBounds_toArray, List.set_cons_succ, List.set_cons_zero]
          refine held_all1 8 (by kernel_rfl) (op_call 8 177 _ 21 #[.pointer (some ⟨g8, 0, none⟩)] rfl rfl rfl (exec_one 21 _ _ rfl _ rfl Tryd.call21) ((HRC.out _ hX0).mono ?_))
          rintro e v1 ⟨rfl, hc1⟩
          have hX1 : Below w9.heap.size w9 v1 := Below.trans hX0 (hc1.mono (Below.size hX0))
          refine ⟨_, rfl, hX1, ?_⟩
          simp only [Act.put, List.setIfInBounds_toArray, List.set_cons_succ, List.set_cons_zero]
          refine held_take 13 182 _ (.bool false) rfl rfl (by kernel_rfl) (by kernel_rfl) (by kernel_rfl) rfl hX1 (fun V _ => exec_cmp .neq 40 40 _ _ rfl (.inl rfl) (.agg #[.int .i64 K9.r.active, .int .i64 K9.r.trial, .int .i64 K9.r.tries, .int .i64 K9.r.v0, .int .i64 K9.r.v1]) (.agg #[.int .i64 K9.r.active, .int .i64 K9.r.trial, .int .i64 K9.r.tries, .int .i64 K9.r.v0, .int .i64 K9.r.v1]) (.bool false) rfl rfl (by kernel_rfl) (HNE.out V)) ?_
          simp only [Act.put, List.setIfInBounds_toArray, List.set_cons_succ, List.set_cons_zero]
          refine held_take 14 183 _ (.bool false) rfl rfl (by kernel_rfl) (by kernel_rfl) (by kernel_rfl) rfl hX1 (fun _ _ => rfl) ?_
          simp only [Act.put, List.setIfInBounds_toArray, List.set_cons_succ, List.set_cons_zero]
          refine held_take 15 184 _ (.pointer (some ⟨g8, 0, none⟩)) rfl rfl (by kernel_rfl) (by kernel_rfl) (by kernel_rfl) rfl hX1 (fun _ _ => rfl) ?_
          simp only [Act.put, List.setIfInBounds_toArray, List.set_cons_succ, List.set_cons_zero]
          refine held_take 17 186 _ (.pointer (some ⟨x9, 0, none⟩)) rfl rfl (by kernel_rfl) (by kernel_rfl) (by kernel_rfl) rfl hX1 (fun _ _ => rfl) ?_
          simp only [Act.put, List.setIfInBounds_toArray, List.set_cons_succ, List.set_cons_zero]
          refine held_take 18 187 _ (.pointer (some ⟨x9, 0, none⟩)) rfl rfl (by kernel_rfl) (by kernel_rfl) (by kernel_rfl) rfl hX1 (fun _ _ => rfl) ?_
          simp only [Act.put, List.setIfInBounds_toArray, List.set_cons_succ, List.set_cons_zero]
          refine held_take 19 188 _ (.pointer (some ⟨x9, 2, none⟩)) rfl rfl (by kernel_rfl) (by kernel_rfl) (by kernel_rfl) rfl hX1 (fun _ _ => rfl) ?_
          simp only [Act.put, List.setIfInBounds_toArray, List.set_cons_succ, List.set_cons_zero]
          refine held_take 20 189 _ (.int .i64 (K9.gen : Int)) rfl rfl (by kernel_rfl) (by kernel_rfl) (by kernel_rfl) rfl hX1 (fun V hV => exec_load1 3 _ rfl (fun _ => by kernel_rfl) x9 2 rfl _ (HXG.out V hV)) ?_
          simp only [Act.put, List.setIfInBounds_toArray, List.set_cons_succ, List.set_cons_zero]
          refine held_all1 16 (by kernel_rfl) (op_call 16 185 _ 22 #[.pointer (some ⟨g8, 0, none⟩)] rfl rfl rfl (exec_one 22 _ _ rfl _ rfl Tryd.call22) ((HGN.out _ hX1).mono ?_))
          rintro e v2 ⟨rfl, rfl⟩
          refine ⟨_, rfl, hX1, ?_⟩
          simp only [Act.put, List.setIfInBounds_toArray, List.set_cons_succ, List.set_cons_zero]
          refine held_take 21 190 _ (.bool false) rfl rfl (by kernel_rfl) (by kernel_rfl) (by kernel_rfl) rfl hX1 (fun V _ => exec_cmp .neq 3 3 _ _ rfl (.inl rfl) (.int .i64 (K9.gen : Int)) (.int .i64 (K9.gen : Int)) (.bool false) rfl rfl (by kernel_rfl) (HNI.out V)) ?_
          simp only [Act.put, List.setIfInBounds_toArray, List.set_cons_succ, List.set_cons_zero]
          refine held_take 22 191 _ (.bool false) rfl rfl (by kernel_rfl) (by kernel_rfl) (by kernel_rfl) rfl hX1 (fun _ _ => rfl) ?_
          simp only [Act.put, List.setIfInBounds_toArray, List.set_cons_succ, List.set_cons_zero]
          refine held_take 23 192 _ (.bool false) rfl rfl (by kernel_rfl) (by kernel_rfl) (by kernel_rfl) rfl hX1 (fun _ _ => rfl) ?_
          simp only [Act.put, List.setIfInBounds_toArray, List.set_cons_succ, List.set_cons_zero]
          refine wpAnyH_done (by kernel_rfl) ?_ _
          refine NoPanic.normal ?_
          go_wp2_with fail
          go_roundw
          case rel => exact ⟨rfl, rfl, I + 1, _, _, _, _, rfl, rfl, by go_num, h1, h2, KP9.after hP9 hX1⟩
          case measure => simp [intOf]; omega
        have b2 : (A.act == 2) = false := by simpa using a2
        by_cases a3 : A.act = 3
        · have b3 : (A.act == 3) = true := by simpa using a3
          have x65 : w5.cell? ⟨Bx, 6, none⟩ = some (.int .i64 A.n) := hE5.cell (j := 6) rfl
          have x85 : w5.cell? ⟨Bx, 8, none⟩ = some (.slice ac A.c.length cc) := hE5.cell (j := 8) rfl
          clear a3
          go_wp2_with (first | (go_at_call 15; refine (program6_any L s A.n (.slice ac A.c.length cc) A.c w5 hP5.f.p (HAT.out.c.below hP5.f.b (Nat.le_refl _)) (fun h b hb ht => by have := hap h b hb; have := hP5.f.lp b ht; omega)).mono ?_; rintro e w6 ⟨rfl, hp6, hc6⟩; have hE6 := hE5.chg hc6 hBL; have x66 : w6.cell? ⟨Bx, 6, none⟩ = some (.int .i64 A.n) := hE6.cell (j := 6) rfl; have x86 : w6.cell? ⟨Bx, 8, none⟩ = some (.slice ac A.c.length cc) := hE6.cell (j := 8) rfl) | (go_at_call 16; refine (ref6Program_any M s A.n (.slice ac A.c.length cc) A.c w6 (hP5.f.still hc6) (HAT.out.c.below (hP5.f.b.trans (hc6.below hP5.f.lp hP5.f.b.size)) (Nat.le_refl _)) (fun h b hb ht => by have := hap h b hb; have := hP5.f.lr b ht; omega)).mono ?_; rintro e w7 ⟨rfl, hr7, hc7⟩) | fail)
          have hP7 := hP5.both hp6 hc6 hr7 hc7
          have hkk := KP9.k hP7
          have hxx := KP9.x hP7
          have HRC : Hid (∀ V, Below w7.heap.size w7 V → Calls Tryd.prog 21 #[.pointer (some ⟨g, 0, none⟩)] V fun e w' => e = .returned (.agg #[.int .i64 K.r.active, .int .i64 K.r.trial, .int .i64 K.r.tries, .int .i64 K.r.v0, .int .i64 K.r.v1]) ∧ Below V.heap.size V w') := fun V hV => record9_any L g j _ V (hkk.below hV hkk.lt)
          have HGN : Hid (∀ V, Below w7.heap.size w7 V → Calls Tryd.prog 22 #[.pointer (some ⟨g, 0, none⟩)] V fun e w' => e = .returned (.int .i64 (K.gen : Int)) ∧ w' = V) := fun V hV => gen9_any L g j _ V (hkk.below hV hkk.lt)
          have HRB : Hid (∀ V, Below w7.heap.size w7 V → V.rangeAt x 3 [.int .i64 K.r.active, .int .i64 K.r.trial, .int .i64 K.r.tries, .int .i64 K.r.v0, .int .i64 K.r.v1]) := fun V hV => fun i z hz => by have h3 := hxx.below hV hxx.lt; match i, hz with | 0, hz => cases hz; exact h3.cell (j := 3) rfl | 1, hz => cases hz; exact h3.cell (j := 4) rfl | 2, hz => cases hz; exact h3.cell (j := 5) rfl | 3, hz => cases hz; exact h3.cell (j := 6) rfl | 4, hz => cases hz; exact h3.cell (j := 7) rfl
          have HXG : Hid (∀ V, Below w7.heap.size w7 V → V.cell? ⟨x, 2, none⟩ = some (.int .i64 (K.gen : Int))) := fun V hV => (hxx.below hV hxx.lt).cell (j := 2) rfl
          have HNE : Hid (∀ V, (binOp .neq 40 (.agg #[.int .i64 K.r.active, .int .i64 K.r.trial, .int .i64 K.r.tries, .int .i64 K.r.v0, .int .i64 K.r.v1]) (.agg #[.int .i64 K.r.active, .int .i64 K.r.trial, .int .i64 K.r.tries, .int .i64 K.r.v0, .int .i64 K.r.v1])).run Tryd.prog V = .ok (.bool false) V) := fun V => by rw [ne_br]; simp
          have HNI : Hid (∀ V, (binOp .neq 3 (.int .i64 (K.gen : Int)) (.int .i64 (K.gen : Int))).run Tryd.prog V = .ok (.bool false) V) := fun V => by simp [go_sem]
          clear hkk hxx
          have hX0 : Below w7.heap.size w7 w7.drew := (Below.refl _ _).drew
          refine held_begin (fun V => Below w7.heap.size w7 V) (by kernel_rfl) ?_
          refine held_take 0 169 _ (.pointer (some ⟨g, 0, none⟩)) rfl rfl (by kernel_rfl) (by kernel_rfl) (by kernel_rfl) rfl hX0 (fun _ _ => rfl) ?_
          simp only [Act.put, List.setIfInBounds_toArray, List.set_cons_succ, List.set_cons_zero]
          refine held_take 1 170 _ (.bool true) rfl rfl (by kernel_rfl) (by kernel_rfl) (by kernel_rfl) rfl hX0 (fun _ _ => rfl) ?_
          simp only [Act.put, List.setIfInBounds_toArray, List.set_cons_succ, List.set_cons_zero]
          refine held_take 2 171 _ (.bool true) rfl rfl (by kernel_rfl) (by kernel_rfl) (by kernel_rfl) rfl hX0 (fun _ _ => rfl) ?_
          simp only [Act.put, List.setIfInBounds_toArray, List.set_cons_succ, List.set_cons_zero]
          refine held_take 3 172 _ (.pointer (some ⟨x, 0, none⟩)) rfl rfl (by kernel_rfl) (by kernel_rfl) (by kernel_rfl) rfl hX0 (fun _ _ => rfl) ?_
          simp only [Act.put, List.setIfInBounds_toArray, List.set_cons_succ, List.set_cons_zero]
          refine held_take 4 173 _ (.bool true) rfl rfl (by kernel_rfl) (by kernel_rfl) (by kernel_rfl) rfl hX0 (fun _ _ => rfl) ?_
          simp only [Act.put, List.setIfInBounds_toArray, List.set_cons_succ, List.set_cons_zero]
          refine held_take 5 174 _ (.bool true) rfl rfl (by kernel_rfl) (by kernel_rfl) (by kernel_rfl) rfl hX0 (fun _ _ => rfl) ?_
          simp only [Act.put, List.setIfInBounds_toArray, List.set_cons_succ, List.set_cons_zero]
          refine held_take 6 175 _ (.bool true) rfl rfl (by kernel_rfl) (by kernel_rfl) (by kernel_rfl) rfl hX0 (fun _ _ => rfl) ?_
          simp only [Act.put, List.setIfInBounds_toArray, List.set_cons_succ, List.set_cons_zero]
          refine held_take 7 176 _ (.pointer (some ⟨g, 0, none⟩)) rfl rfl (by kernel_rfl) (by kernel_rfl) (by kernel_rfl) rfl hX0 (fun _ _ => rfl) ?_
          simp only [Act.put, List.setIfInBounds_toArray, List.set_cons_succ, List.set_cons_zero]
          refine held_take 9 178 _ (.pointer (some ⟨x, 0, none⟩)) rfl rfl (by kernel_rfl) (by kernel_rfl) (by kernel_rfl) rfl hX0 (fun _ _ => rfl) ?_
          simp only [Act.put, List.setIfInBounds_toArray, List.set_cons_succ, List.set_cons_zero]
          refine held_take 10 179 _ (.pointer (some ⟨x, 0, none⟩)) rfl rfl (by kernel_rfl) (by kernel_rfl) (by kernel_rfl) rfl hX0 (fun _ _ => rfl) ?_
          simp only [Act.put, List.setIfInBounds_toArray, List.set_cons_succ, List.set_cons_zero]
          refine held_take 11 180 _ (.pointer (some ⟨x, 3, none⟩)) rfl rfl (by kernel_rfl) (by kernel_rfl) (by kernel_rfl) rfl hX0 (fun _ _ => rfl) ?_
          simp only [Act.put, List.setIfInBounds_toArray, List.set_cons_succ, List.set_cons_zero]
          refine held_take 12 181 _ (.agg #[.int .i64 K.r.active, .int .i64 K.r.trial, .int .i64 K.r.tries, .int .i64 K.r.v0, .int .i64 K.r.v1]) rfl rfl (by kernel_rfl) (by kernel_rfl) (by kernel_rfl) rfl hX0 (fun V hV => exec_loads 40 _ rfl x 3 rfl [.int .i64 K.r.active, .int .i64 K.r.trial, .int .i64 K.r.tries, .int .i64 K.r.v0, .int .i64 K.r.v1] _ (HRB.out V hV) Tryd.underlying40 rfl info_boot9) ?_
          simp only [Act.put, List.setIfInBounds_toArray, List.set_cons_succ, List.set_cons_zero]
          refine held_all1 8 (by kernel_rfl) (op_call 8 177 _ 21 #[.pointer (some ⟨g, 0, none⟩)] rfl rfl rfl (exec_one 21 _ _ rfl _ rfl Tryd.call21) ((HRC.out _ hX0).mono ?_))
          rintro e v1 ⟨rfl, hc1⟩
          have hX1 : Below w7.heap.size w7 v1 := Below.trans hX0 (hc1.mono (Below.size hX0))
          refine ⟨_, rfl, hX1, ?_⟩
          simp only [Act.put, List.setIfInBounds_toArray, List.set_cons_succ, List.set_cons_zero]
          refine held_take 13 182 _ (.bool false) rfl rfl (by kernel_rfl) (by kernel_rfl) (by kernel_rfl) rfl hX1 (fun V _ => exec_cmp .neq 40 40 _ _ rfl (.inl rfl) (.agg #[.int .i64 K.r.active, .int .i64 K.r.trial, .int .i64 K.r.tries, .int .i64 K.r.v0, .int .i64 K.r.v1]) (.agg #[.int .i64 K.r.active, .int .i64 K.r.trial, .int .i64 K.r.tries, .int .i64 K.r.v0, .int .i64 K.r.v1]) (.bool false) rfl rfl (by kernel_rfl) (HNE.out V)) ?_
          simp only [Act.put, List.setIfInBounds_toArray, List.set_cons_succ, List.set_cons_zero]
          refine held_take 14 183 _ (.bool false) rfl rfl (by kernel_rfl) (by kernel_rfl) (by kernel_rfl) rfl hX1 (fun _ _ => rfl) ?_
          simp only [Act.put, List.setIfInBounds_toArray, List.set_cons_succ, List.set_cons_zero]
          refine held_take 15 184 _ (.pointer (some ⟨g, 0, none⟩)) rfl rfl (by kernel_rfl) (by kernel_rfl) (by kernel_rfl) rfl hX1 (fun _ _ => rfl) ?_
          simp only [Act.put, List.setIfInBounds_toArray, List.set_cons_succ, List.set_cons_zero]
          refine held_take 17 186 _ (.pointer (some ⟨x, 0, none⟩)) rfl rfl (by kernel_rfl) (by kernel_rfl) (by kernel_rfl) rfl hX1 (fun _ _ => rfl) ?_
          simp only [Act.put, List.setIfInBounds_toArray, List.set_cons_succ, List.set_cons_zero]
          refine held_take 18 187 _ (.pointer (some ⟨x, 0, none⟩)) rfl rfl (by kernel_rfl) (by kernel_rfl) (by kernel_rfl) rfl hX1 (fun _ _ => rfl) ?_
          simp only [Act.put, List.setIfInBounds_toArray, List.set_cons_succ, List.set_cons_zero]
          refine held_take 19 188 _ (.pointer (some ⟨x, 2, none⟩)) rfl rfl (by kernel_rfl) (by kernel_rfl) (by kernel_rfl) rfl hX1 (fun _ _ => rfl) ?_
          simp only [Act.put, List.setIfInBounds_toArray, List.set_cons_succ, List.set_cons_zero]
          refine held_take 20 189 _ (.int .i64 (K.gen : Int)) rfl rfl (by kernel_rfl) (by kernel_rfl) (by kernel_rfl) rfl hX1 (fun V hV => exec_load1 3 _ rfl (fun _ => by kernel_rfl) x 2 rfl _ (HXG.out V hV)) ?_
          simp only [Act.put, List.setIfInBounds_toArray, List.set_cons_succ, List.set_cons_zero]
          refine held_all1 16 (by kernel_rfl) (op_call 16 185 _ 22 #[.pointer (some ⟨g, 0, none⟩)] rfl rfl rfl (exec_one 22 _ _ rfl _ rfl Tryd.call22) ((HGN.out _ hX1).mono ?_))
          rintro e v2 ⟨rfl, rfl⟩
          refine ⟨_, rfl, hX1, ?_⟩
          simp only [Act.put, List.setIfInBounds_toArray, List.set_cons_succ, List.set_cons_zero]
          refine held_take 21 190 _ (.bool false) rfl rfl (by kernel_rfl) (by kernel_rfl) (by kernel_rfl) rfl hX1 (fun V _ => exec_cmp .neq 3 3 _ _ rfl (.inl rfl) (.int .i64 (K.gen : Int)) (.int .i64 (K.gen : Int)) (.bool false) rfl rfl (by kernel_rfl) (HNI.out V)) ?_
          simp only [Act.put, List.setIfInBounds_toArray, List.set_cons_succ, List.set_cons_zero]
          refine held_take 22 191 _ (.bool false) rfl rfl (by kernel_rfl) (by kernel_rfl) (by kernel_rfl) rfl hX1 (fun _ _ => rfl) ?_
          simp only [Act.put, List.setIfInBounds_toArray, List.set_cons_succ, List.set_cons_zero]
          refine held_take 23 192 _ (.bool false) rfl rfl (by kernel_rfl) (by kernel_rfl) (by kernel_rfl) rfl hX1 (fun _ _ => rfl) ?_
          simp only [Act.put, List.setIfInBounds_toArray, List.set_cons_succ, List.set_cons_zero]
          refine wpAnyH_done (by kernel_rfl) ?_ _
          refine NoPanic.normal ?_
          go_wp2_with fail
          go_roundw
          case rel => exact ⟨rfl, rfl, I + 1, _, _, _, _, rfl, rfl, by go_num, h1, h2, KP9.after hP7 hX1⟩
          case measure => simp [intOf]; omega
        have b3 : (A.act == 3) = false := by simpa using a3
        by_cases a4 : A.act = 4
        · have b4 : (A.act == 4) = true := by simpa using a4
          have x65 : w5.cell? ⟨Bx, 6, none⟩ = some (.int .i64 A.n) := hE5.cell (j := 6) rfl
          clear a4
          go_wp2_with (first | (go_at_call 17; refine (erase6_any L s A.n w5 hP5.f.p).mono ?_; rintro e w6 ⟨rfl, hp6, hc6⟩; have hE6 := hE5.chg hc6 hBL; have x66 : w6.cell? ⟨Bx, 6, none⟩ = some (.int .i64 A.n) := hE6.cell (j := 6) rfl) | (go_at_call 18; refine (ref6Erase_any M s A.n w6 (hP5.f.still hc6)).mono ?_; rintro e w7 ⟨rfl, hr7, hc7⟩) | fail)
          have hP7 := hP5.both hp6 hc6 hr7 hc7
          have hkk := KP9.k hP7
          have hxx := KP9.x hP7
          have HRC : Hid (∀ V, Below w7.heap.size w7 V → Calls Tryd.prog 21 #[.pointer (some ⟨g, 0, none⟩)] V fun e w' => e = .returned (.agg #[.int .i64 K.r.active, .int .i64 K.r.trial, .int .i64 K.r.tries, .int .i64 K.r.v0, .int .i64 K.r.v1]) ∧ Below V.heap.size V w') := fun V hV => record9_any L g j _ V (hkk.below hV hkk.lt)
          have HGN : Hid (∀ V, Below w7.heap.size w7 V → Calls Tryd.prog 22 #[.pointer (some ⟨g, 0, none⟩)] V fun e w' => e = .returned (.int .i64 (K.gen : Int)) ∧ w' = V) := fun V hV => gen9_any L g j _ V (hkk.below hV hkk.lt)
          have HRB : Hid (∀ V, Below w7.heap.size w7 V → V.rangeAt x 3 [.int .i64 K.r.active, .int .i64 K.r.trial, .int .i64 K.r.tries, .int .i64 K.r.v0, .int .i64 K.r.v1]) := fun V hV => fun i z hz => by have h3 := hxx.below hV hxx.lt; match i, hz with | 0, hz => cases hz; exact h3.cell (j := 3) rfl | 1, hz => cases hz; exact h3.cell (j := 4) rfl | 2, hz => cases hz; exact h3.cell (j := 5) rfl | 3, hz => cases hz; exact h3.cell (j := 6) rfl | 4, hz => cases hz; exact h3.cell (j := 7) rfl
          have HXG : Hid (∀ V, Below w7.heap.size w7 V → V.cell? ⟨x, 2, none⟩ = some (.int .i64 (K.gen : Int))) := fun V hV => (hxx.below hV hxx.lt).cell (j := 2) rfl
          have HNE : Hid (∀ V, (binOp .neq 40 (.agg #[.int .i64 K.r.active, .int .i64 K.r.trial, .int .i64 K.r.tries, .int .i64 K.r.v0, .int .i64 K.r.v1]) (.agg #[.int .i64 K.r.active, .int .i64 K.r.trial, .int .i64 K.r.tries, .int .i64 K.r.v0, .int .i64 K.r.v1])).run Tryd.prog V = .ok (.bool false) V) := fun V => by rw [ne_br]; simp
          have HNI : Hid (∀ V, (binOp .neq 3 (.int .i64 (K.gen : Int)) (.int .i64 (K.gen : Int))).run Tryd.prog V = .ok (.bool false) V) := fun V => by simp [go_sem]
          clear hkk hxx
          have hX0 : Below w7.heap.size w7 w7.drew := (Below.refl _ _).drew
          refine held_begin (fun V => Below w7.heap.size w7 V) (by kernel_rfl) ?_
          refine held_take 0 169 _ (.pointer (some ⟨g, 0, none⟩)) rfl rfl (by kernel_rfl) (by kernel_rfl) (by kernel_rfl) rfl hX0 (fun _ _ => rfl) ?_
          simp only [Act.put, List.setIfInBounds_toArray, List.set_cons_succ, List.set_cons_zero]
          refine held_take 1 170 _ (.bool true) rfl rfl (by kernel_rfl) (by kernel_rfl) (by kernel_rfl) rfl hX0 (fun _ _ => rfl) ?_
          simp only [Act.put, List.setIfInBounds_toArray, List.set_cons_succ, List.set_cons_zero]
          refine held_take 2 171 _ (.bool true) rfl rfl (by kernel_rfl) (by kernel_rfl) (by kernel_rfl) rfl hX0 (fun _ _ => rfl) ?_
          simp only [Act.put, List.setIfInBounds_toArray, List.set_cons_succ, List.set_cons_zero]
          refine held_take 3 172 _ (.pointer (some ⟨x, 0, none⟩)) rfl rfl (by kernel_rfl) (by kernel_rfl) (by kernel_rfl) rfl hX0 (fun _ _ => rfl) ?_
          simp only [Act.put, List.setIfInBounds_toArray, List.set_cons_succ, List.set_cons_zero]
          refine held_take 4 173 _ (.bool true) rfl rfl (by kernel_rfl) (by kernel_rfl) (by kernel_rfl) rfl hX0 (fun _ _ => rfl) ?_
          simp only [Act.put, List.setIfInBounds_toArray, List.set_cons_succ, List.set_cons_zero]
          refine held_take 5 174 _ (.bool true) rfl rfl (by kernel_rfl) (by kernel_rfl) (by kernel_rfl) rfl hX0 (fun _ _ => rfl) ?_
          simp only [Act.put, List.setIfInBounds_toArray, List.set_cons_succ, List.set_cons_zero]
          refine held_take 6 175 _ (.bool true) rfl rfl (by kernel_rfl) (by kernel_rfl) (by kernel_rfl) rfl hX0 (fun _ _ => rfl) ?_
          simp only [Act.put, List.setIfInBounds_toArray, List.set_cons_succ, List.set_cons_zero]
          refine held_take 7 176 _ (.pointer (some ⟨g, 0, none⟩)) rfl rfl (by kernel_rfl) (by kernel_rfl) (by kernel_rfl) rfl hX0 (fun _ _ => rfl) ?_
          simp only [Act.put, List.setIfInBounds_toArray, List.set_cons_succ, List.set_cons_zero]
          refine held_take 9 178 _ (.pointer (some ⟨x, 0, none⟩)) rfl rfl (by kernel_rfl) (by kernel_rfl) (by kernel_rfl) rfl hX0 (fun _ _ => rfl) ?_
          simp only [Act.put, List.setIfInBounds_toArray, List.set_cons_succ, List.set_cons_zero]
          refine held_take 10 179 _ (.pointer (some ⟨x, 0, none⟩)) rfl rfl (by kernel_rfl) (by kernel_rfl) (by kernel_rfl) rfl hX0 (fun _ _ => rfl) ?_
          simp only [Act.put, List.setIfInBounds_toArray, List.set_cons_succ, List.set_cons_zero]
          refine held_take 11 180 _ (.pointer (some ⟨x, 3, none⟩)) rfl rfl (by kernel_rfl) (by kernel_rfl) (by kernel_rfl) rfl hX0 (fun _ _ => rfl) ?_
          simp only [Act.put, List.setIfInBounds_toArray, List.set_cons_succ, List.set_cons_zero]
          refine held_take 12 181 _ (.agg #[.int .i64 K.r.active, .int .i64 K.r.trial, .int .i64 K.r.tries, .int .i64 K.r.v0, .int .i64 K.r.v1]) rfl rfl (by kernel_rfl) (by kernel_rfl) (by kernel_rfl) rfl hX0 (fun V hV => exec_loads 40 _ rfl x 3 rfl [.int .i64 K.r.active, .int .i64 K.r.trial, .int .i64 K.r.tries, .int .i64 K.r.v0, .int .i64 K.r.v1] _ (HRB.out V hV) Tryd.underlying40 rfl info_boot9) ?_
          simp only [Act.put, List.setIfInBounds_toArray, List.set_cons_succ, List.set_cons_zero]
          refine held_all1 8 (by kernel_rfl) (op_call 8 177 _ 21 #[.pointer (some ⟨g, 0, none⟩)] rfl rfl rfl (exec_one 21 _ _ rfl _ rfl Tryd.call21) ((HRC.out _ hX0).mono ?_))
          rintro e v1 ⟨rfl, hc1⟩
          have hX1 : Below w7.heap.size w7 v1 := Below.trans hX0 (hc1.mono (Below.size hX0))
          refine ⟨_, rfl, hX1, ?_⟩
          simp only [Act.put, List.setIfInBounds_toArray, List.set_cons_succ, List.set_cons_zero]
          refine held_take 13 182 _ (.bool false) rfl rfl (by kernel_rfl) (by kernel_rfl) (by kernel_rfl) rfl hX1 (fun V _ => exec_cmp .neq 40 40 _ _ rfl (.inl rfl) (.agg #[.int .i64 K.r.active, .int .i64 K.r.trial, .int .i64 K.r.tries, .int .i64 K.r.v0, .int .i64 K.r.v1]) (.agg #[.int .i64 K.r.active, .int .i64 K.r.trial, .int .i64 K.r.tries, .int .i64 K.r.v0, .int .i64 K.r.v1]) (.bool false) rfl rfl (by kernel_rfl) (HNE.out V)) ?_
          simp only [Act.put, List.setIfInBounds_toArray, List.set_cons_succ, List.set_cons_zero]
          refine held_take 14 183 _ (.bool false) rfl rfl (by kernel_rfl) (by kernel_rfl) (by kernel_rfl) rfl hX1 (fun _ _ => rfl) ?_
          simp only [Act.put, List.setIfInBounds_toArray, List.set_cons_succ, List.set_cons_zero]
          refine held_take 15 184 _ (.pointer (some ⟨g, 0, none⟩)) rfl rfl (by kernel_rfl) (by kernel_rfl) (by kernel_rfl) rfl hX1 (fun _ _ => rfl) ?_
          simp only [Act.put, List.setIfInBounds_toArray, List.set_cons_succ, List.set_cons_zero]
          refine held_take 17 186 _ (.pointer (some ⟨x, 0, none⟩)) rfl rfl (by kernel_rfl) (by kernel_rfl) (by kernel_rfl) rfl hX1 (fun _ _ => rfl) ?_
          simp only [Act.put, List.setIfInBounds_toArray, List.set_cons_succ, List.set_cons_zero]
          refine held_take 18 187 _ (.pointer (some ⟨x, 0, none⟩)) rfl rfl (by kernel_rfl) (by kernel_rfl) (by kernel_rfl) rfl hX1 (fun _ _ => rfl) ?_
          simp only [Act.put, List.setIfInBounds_toArray, List.set_cons_succ, List.set_cons_zero]
          refine held_take 19 188 _ (.pointer (some ⟨x, 2, none⟩)) rfl rfl (by kernel_rfl) (by kernel_rfl) (by kernel_rfl) rfl hX1 (fun _ _ => rfl) ?_
          simp only [Act.put, List.setIfInBounds_toArray, List.set_cons_succ, List.set_cons_zero]
          refine held_take 20 189 _ (.int .i64 (K.gen : Int)) rfl rfl (by kernel_rfl) (by kernel_rfl) (by kernel_rfl) rfl hX1 (fun V hV => exec_load1 3 _ rfl (fun _ => by kernel_rfl) x 2 rfl _ (HXG.out V hV)) ?_
          simp only [Act.put, List.setIfInBounds_toArray, List.set_cons_succ, List.set_cons_zero]
          refine held_all1 16 (by kernel_rfl) (op_call 16 185 _ 22 #[.pointer (some ⟨g, 0, none⟩)] rfl rfl rfl (exec_one 22 _ _ rfl _ rfl Tryd.call22) ((HGN.out _ hX1).mono ?_))
          rintro e v2 ⟨rfl, rfl⟩
          refine ⟨_, rfl, hX1, ?_⟩
          simp only [Act.put, List.setIfInBounds_toArray, List.set_cons_succ, List.set_cons_zero]
          refine held_take 21 190 _ (.bool false) rfl rfl (by kernel_rfl) (by kernel_rfl) (by kernel_rfl) rfl hX1 (fun V _ => exec_cmp .neq 3 3 _ _ rfl (.inl rfl) (.int .i64 (K.gen : Int)) (.int .i64 (K.gen : Int)) (.bool false) rfl rfl (by kernel_rfl) (HNI.out V)) ?_
          simp only [Act.put, List.setIfInBounds_toArray, List.set_cons_succ, List.set_cons_zero]
          refine held_take 22 191 _ (.bool false) rfl rfl (by kernel_rfl) (by kernel_rfl) (by kernel_rfl) rfl hX1 (fun _ _ => rfl) ?_
          simp only [Act.put, List.setIfInBounds_toArray, List.set_cons_succ, List.set_cons_zero]
          refine held_take 23 192 _ (.bool false) rfl rfl (by kernel_rfl) (by kernel_rfl) (by kernel_rfl) rfl hX1 (fun _ _ => rfl) ?_
          simp only [Act.put, List.setIfInBounds_toArray, List.set_cons_succ, List.set_cons_zero]
          refine wpAnyH_done (by kernel_rfl) ?_ _
          refine NoPanic.normal ?_
          go_wp2_with fail
          go_roundw
          case rel => exact ⟨rfl, rfl, I + 1, _, _, _, _, rfl, rfl, by go_num, h1, h2, KP9.after hP7 hX1⟩
          case measure => simp [intOf]; omega
        have b4 : (A.act == 4) = false := by simpa using a4
        clear a1 a2 a3 a4 HO HP
        have hsd : saveD K j s A.b = saveE K j s A.b := saveD_is A.b hP5.f.p.ok hjL hP5.ok.wh
        have hko := kok_saveD hP5.ok j s A.b
        have HSV : Hid (Calls Tryd.prog 19 #[.pointer (some ⟨g, 0, none⟩), .agg #[.int .i64 A.b.active, .int .i64 A.b.trial, .int .i64 A.b.tries, .int .i64 A.b.v0, .int .i64 A.b.v1]] w5 fun e w' => e = .returned (.int .i64 (saveE K j s A.b).1) ∧ Blk w' g 71 (kpC L j (saveE K j s A.b).2.1) ∧ PFlash w' L (saveE K j s A.b).2.2 ∧ Chg (kT L g) w5 w') := save9_any L s g j K A.b w5 hP5.k hP5.gL hP5.f.p hjL hP5.ok.wh hP5.ok.gen (Nat.lt_of_lt_of_le hgf hP5.f.b.size) (HF.out.below hP5.f.b hgf) (fun h => by have := hP5.f.lp _ h; omega)
        have HRS : Hid (∀ W, Blk W x 50 (kpR M j K) → RFlash W M s → Calls Tryd.prog 20 #[.pointer (some ⟨x, 0, none⟩), .agg #[.int .i64 A.b.active, .int .i64 A.b.trial, .int .i64 A.b.tries, .int .i64 A.b.v0, .int .i64 A.b.v1]] W fun e w' => e = .returned (.int .i64 (saveD K j s A.b).1) ∧ Blk w' x 50 (kpR M j (saveD K j s A.b).2.1) ∧ RFlash w' M (saveD K j s A.b).2.2 ∧ Chg (kTR M x) W w') := fun W h3 h4 => rsave9_any M s x j K A.b W h3 hP5.qM h4 hjM hP5.ok.wh hP5.ok.la hP5.ok.gen
        rw [hsd] at HRS hko
        clear hsd
        generalize saveE K j s A.b = SE at *
        obtain ⟨e1, K1, s1⟩ := SE
        dsimp only at HSV HRS hko
        have hne1 : (e1 == e1) = true := by simp
        have rg5 : w5.rangeAt Bx 1 [.int .i64 A.b.active, .int .i64 A.b.trial, .int .i64 A.b.tries, .int .i64 A.b.v0, .int .i64 A.b.v1] := fun i z hz => by match i, hz with | 0, hz => cases hz; exact hE5.cell (j := 1) rfl | 1, hz => cases hz; exact hE5.cell (j := 2) rfl | 2, hz => cases hz; exact hE5.cell (j := 3) rfl | 3, hz => cases hz; exact hE5.cell (j := 4) rfl | 4, hz => cases hz; exact hE5.cell (j := 5) rfl
        go_wp2_with (first | (go_at_call 19; refine HSV.out.mono ?_; rintro e w6 ⟨rfl, hk6, hp6, hc6⟩; have hm6 := hP5.mid hc6; have hE6 := hE5.chg hc6 (fun e => by rcases e with e | e; exact hBL e; exact hBg e); have rg6 : w6.rangeAt Bx 1 [.int .i64 A.b.active, .int .i64 A.b.trial, .int .i64 A.b.tries, .int .i64 A.b.v0, .int .i64 A.b.v1] := fun i z hz => by match i, hz with | 0, hz => cases hz; exact hE6.cell (j := 1) rfl | 1, hz => cases hz; exact hE6.cell (j := 2) rfl | 2, hz => cases hz; exact hE6.cell (j := 3) rfl | 3, hz => cases hz; exact hE6.cell (j := 4) rfl | 4, hz => cases hz; exact hE6.cell (j := 5) rfl) | (go_at_call 20; refine (HRS.out w6 hm6.1 hm6.2).mono ?_; rintro e w7 ⟨rfl, hx7, hr7, hc7⟩) | (refine wpList_load_mid rfl 40 _ rfl Bx 1 rfl [.int .i64 A.b.active, .int .i64 A.b.trial, .int .i64 A.b.tries, .int .i64 A.b.v0, .int .i64 A.b.v1] _ rg6 Tryd.underlying40 rfl info_boot9 ?_) | (refine wpList_load_mid rfl 40 _ rfl Bx 1 rfl [.int .i64 A.b.active, .int .i64 A.b.trial, .int .i64 A.b.tries, .int .i64 A.b.v0, .int .i64 A.b.v1] _ rg5 Tryd.underlying40 rfl info_boot9 ?_) | fail)
        have hP7 := hP5.saved hk6 hp6 hc6 hx7 hr7 hc7 hko
        have hkk := KP9.k hP7
        have hxx := KP9.x hP7
        have HRC : Hid (∀ V, Below w7.heap.size w7 V → Calls Tryd.prog 21 #[.pointer (some ⟨g, 0, none⟩)] V fun e w' => e = .returned (.agg #[.int .i64 K1.r.active, .int .i64 K1.r.trial, .int .i64 K1.r.tries, .int .i64 K1.r.v0, .int .i64 K1.r.v1]) ∧ Below V.heap.size V w') := fun V hV => record9_any L g j _ V (hkk.below hV hkk.lt)
        have HGN : Hid (∀ V, Below w7.heap.size w7 V → Calls Tryd.prog 22 #[.pointer (some ⟨g, 0, none⟩)] V fun e w' => e = .returned (.int .i64 (K1.gen : Int)) ∧ w' = V) := fun V hV => gen9_any L g j _ V (hkk.below hV hkk.lt)
        have HRB : Hid (∀ V, Below w7.heap.size w7 V → V.rangeAt x 3 [.int .i64 K1.r.active, .int .i64 K1.r.trial, .int .i64 K1.r.tries, .int .i64 K1.r.v0, .int .i64 K1.r.v1]) := fun V hV => fun i z hz => by have h3 := hxx.below hV hxx.lt; match i, hz with | 0, hz => cases hz; exact h3.cell (j := 3) rfl | 1, hz => cases hz; exact h3.cell (j := 4) rfl | 2, hz => cases hz; exact h3.cell (j := 5) rfl | 3, hz => cases hz; exact h3.cell (j := 6) rfl | 4, hz => cases hz; exact h3.cell (j := 7) rfl
        have HXG : Hid (∀ V, Below w7.heap.size w7 V → V.cell? ⟨x, 2, none⟩ = some (.int .i64 (K1.gen : Int))) := fun V hV => (hxx.below hV hxx.lt).cell (j := 2) rfl
        have HNE : Hid (∀ V, (binOp .neq 40 (.agg #[.int .i64 K1.r.active, .int .i64 K1.r.trial, .int .i64 K1.r.tries, .int .i64 K1.r.v0, .int .i64 K1.r.v1]) (.agg #[.int .i64 K1.r.active, .int .i64 K1.r.trial, .int .i64 K1.r.tries, .int .i64 K1.r.v0, .int .i64 K1.r.v1])).run Tryd.prog V = .ok (.bool false) V) := fun V => by rw [ne_br]; simp
        have HNI : Hid (∀ V, (binOp .neq 3 (.int .i64 (K1.gen : Int)) (.int .i64 (K1.gen : Int))).run Tryd.prog V = .ok (.bool false) V) := fun V => by simp [go_sem]
        clear hkk hxx
        have hX0 : Below w7.heap.size w7 w7.drew := (Below.refl _ _).drew
        refine held_begin (fun V => Below w7.heap.size w7 V) (by kernel_rfl) ?_
        refine held_take 0 169 _ (.pointer (some ⟨g, 0, none⟩)) rfl rfl (by kernel_rfl) (by kernel_rfl) (by kernel_rfl) rfl hX0 (fun _ _ => rfl) ?_
        simp only [Act.put, List.setIfInBounds_toArray, List.set_cons_succ, List.set_cons_zero]
        refine held_take 1 170 _ (.bool true) rfl rfl (by kernel_rfl) (by kernel_rfl) (by kernel_rfl) rfl hX0 (fun _ _ => rfl) ?_
        simp only [Act.put, List.setIfInBounds_toArray, List.set_cons_succ, List.set_cons_zero]
        refine held_take 2 171 _ (.bool true) rfl rfl (by kernel_rfl) (by kernel_rfl) (by kernel_rfl) rfl hX0 (fun _ _ => rfl) ?_
        simp only [Act.put, List.setIfInBounds_toArray, List.set_cons_succ, List.set_cons_zero]
        refine held_take 3 172 _ (.pointer (some ⟨x, 0, none⟩)) rfl rfl (by kernel_rfl) (by kernel_rfl) (by kernel_rfl) rfl hX0 (fun _ _ => rfl) ?_
        simp only [Act.put, List.setIfInBounds_toArray, List.set_cons_succ, List.set_cons_zero]
        refine held_take 4 173 _ (.bool true) rfl rfl (by kernel_rfl) (by kernel_rfl) (by kernel_rfl) rfl hX0 (fun _ _ => rfl) ?_
        simp only [Act.put, List.setIfInBounds_toArray, List.set_cons_succ, List.set_cons_zero]
        refine held_take 5 174 _ (.bool true) rfl rfl (by kernel_rfl) (by kernel_rfl) (by kernel_rfl) rfl hX0 (fun _ _ => rfl) ?_
        simp only [Act.put, List.setIfInBounds_toArray, List.set_cons_succ, List.set_cons_zero]
        refine held_take 6 175 _ (.bool true) rfl rfl (by kernel_rfl) (by kernel_rfl) (by kernel_rfl) rfl hX0 (fun _ _ => rfl) ?_
        simp only [Act.put, List.setIfInBounds_toArray, List.set_cons_succ, List.set_cons_zero]
        refine held_take 7 176 _ (.pointer (some ⟨g, 0, none⟩)) rfl rfl (by kernel_rfl) (by kernel_rfl) (by kernel_rfl) rfl hX0 (fun _ _ => rfl) ?_
        simp only [Act.put, List.setIfInBounds_toArray, List.set_cons_succ, List.set_cons_zero]
        refine held_take 9 178 _ (.pointer (some ⟨x, 0, none⟩)) rfl rfl (by kernel_rfl) (by kernel_rfl) (by kernel_rfl) rfl hX0 (fun _ _ => rfl) ?_
        simp only [Act.put, List.setIfInBounds_toArray, List.set_cons_succ, List.set_cons_zero]
        refine held_take 10 179 _ (.pointer (some ⟨x, 0, none⟩)) rfl rfl (by kernel_rfl) (by kernel_rfl) (by kernel_rfl) rfl hX0 (fun _ _ => rfl) ?_
        simp only [Act.put, List.setIfInBounds_toArray, List.set_cons_succ, List.set_cons_zero]
        refine held_take 11 180 _ (.pointer (some ⟨x, 3, none⟩)) rfl rfl (by kernel_rfl) (by kernel_rfl) (by kernel_rfl) rfl hX0 (fun _ _ => rfl) ?_
        simp only [Act.put, List.setIfInBounds_toArray, List.set_cons_succ, List.set_cons_zero]
        refine held_take 12 181 _ (.agg #[.int .i64 K1.r.active, .int .i64 K1.r.trial, .int .i64 K1.r.tries, .int .i64 K1.r.v0, .int .i64 K1.r.v1]) rfl rfl (by kernel_rfl) (by kernel_rfl) (by kernel_rfl) rfl hX0 (fun V hV => exec_loads 40 _ rfl x 3 rfl [.int .i64 K1.r.active, .int .i64 K1.r.trial, .int .i64 K1.r.tries, .int .i64 K1.r.v0, .int .i64 K1.r.v1] _ (HRB.out V hV) Tryd.underlying40 rfl info_boot9) ?_
        simp only [Act.put, List.setIfInBounds_toArray, List.set_cons_succ, List.set_cons_zero]
        refine held_all1 8 (by kernel_rfl) (op_call 8 177 _ 21 #[.pointer (some ⟨g, 0, none⟩)] rfl rfl rfl (exec_one 21 _ _ rfl _ rfl Tryd.call21) ((HRC.out _ hX0).mono ?_))
        rintro e v1 ⟨rfl, hc1⟩
        have hX1 : Below w7.heap.size w7 v1 := Below.trans hX0 (hc1.mono (Below.size hX0))
        refine ⟨_, rfl, hX1, ?_⟩
        simp only [Act.put, List.setIfInBounds_toArray, List.set_cons_succ, List.set_cons_zero]
        refine held_take 13 182 _ (.bool false) rfl rfl (by kernel_rfl) (by kernel_rfl) (by kernel_rfl) rfl hX1 (fun V _ => exec_cmp .neq 40 40 _ _ rfl (.inl rfl) (.agg #[.int .i64 K1.r.active, .int .i64 K1.r.trial, .int .i64 K1.r.tries, .int .i64 K1.r.v0, .int .i64 K1.r.v1]) (.agg #[.int .i64 K1.r.active, .int .i64 K1.r.trial, .int .i64 K1.r.tries, .int .i64 K1.r.v0, .int .i64 K1.r.v1]) (.bool false) rfl rfl (by kernel_rfl) (HNE.out V)) ?_
        simp only [Act.put, List.setIfInBounds_toArray, List.set_cons_succ, List.set_cons_zero]
        refine held_take 14 183 _ (.bool false) rfl rfl (by kernel_rfl) (by kernel_rfl) (by kernel_rfl) rfl hX1 (fun _ _ => rfl) ?_
        simp only [Act.put, List.setIfInBounds_toArray, List.set_cons_succ, List.set_cons_zero]
        refine held_take 15 184 _ (.pointer (some ⟨g, 0, none⟩)) rfl rfl (by kernel_rfl) (by kernel_rfl) (by kernel_rfl) rfl hX1 (fun _ _ => rfl) ?_
        simp only [Act.put, List.setIfInBounds_toArray, List.set_cons_succ, List.set_cons_zero]
        refine held_take 17 186 _ (.pointer (some ⟨x, 0, none⟩)) rfl rfl (by kernel_rfl) (by kernel_rfl) (by kernel_rfl) rfl hX1 (fun _ _ => rfl) ?_
        simp only [Act.put, List.setIfInBounds_toArray, List.set_cons_succ, List.set_cons_zero]
        refine held_take 18 187 _ (.pointer (some ⟨x, 0, none⟩)) rfl rfl (by kernel_rfl) (by kernel_rfl) (by kernel_rfl) rfl hX1 (fun _ _ => rfl) ?_
        simp only [Act.put, List.setIfInBounds_toArray, List.set_cons_succ, List.set_cons_zero]
        refine held_take 19 188 _ (.pointer (some ⟨x, 2, none⟩)) rfl rfl (by kernel_rfl) (by kernel_rfl) (by kernel_rfl) rfl hX1 (fun _ _ => rfl) ?_
        simp only [Act.put, List.setIfInBounds_toArray, List.set_cons_succ, List.set_cons_zero]
        refine held_take 20 189 _ (.int .i64 (K1.gen : Int)) rfl rfl (by kernel_rfl) (by kernel_rfl) (by kernel_rfl) rfl hX1 (fun V hV => exec_load1 3 _ rfl (fun _ => by kernel_rfl) x 2 rfl _ (HXG.out V hV)) ?_
        simp only [Act.put, List.setIfInBounds_toArray, List.set_cons_succ, List.set_cons_zero]
        refine held_all1 16 (by kernel_rfl) (op_call 16 185 _ 22 #[.pointer (some ⟨g, 0, none⟩)] rfl rfl rfl (exec_one 22 _ _ rfl _ rfl Tryd.call22) ((HGN.out _ hX1).mono ?_))
        rintro e v2 ⟨rfl, rfl⟩
        refine ⟨_, rfl, hX1, ?_⟩
        simp only [Act.put, List.setIfInBounds_toArray, List.set_cons_succ, List.set_cons_zero]
        refine held_take 21 190 _ (.bool false) rfl rfl (by kernel_rfl) (by kernel_rfl) (by kernel_rfl) rfl hX1 (fun V _ => exec_cmp .neq 3 3 _ _ rfl (.inl rfl) (.int .i64 (K1.gen : Int)) (.int .i64 (K1.gen : Int)) (.bool false) rfl rfl (by kernel_rfl) (HNI.out V)) ?_
        simp only [Act.put, List.setIfInBounds_toArray, List.set_cons_succ, List.set_cons_zero]
        refine held_take 22 191 _ (.bool false) rfl rfl (by kernel_rfl) (by kernel_rfl) (by kernel_rfl) rfl hX1 (fun _ _ => rfl) ?_
        simp only [Act.put, List.setIfInBounds_toArray, List.set_cons_succ, List.set_cons_zero]
        refine held_take 23 192 _ (.bool false) rfl rfl (by kernel_rfl) (by kernel_rfl) (by kernel_rfl) rfl hX1 (fun _ _ => rfl) ?_
        simp only [Act.put, List.setIfInBounds_toArray, List.set_cons_succ, List.set_cons_zero]
        refine wpAnyH_done (by kernel_rfl) ?_ _
        refine NoPanic.normal ?_
        go_wp2_with fail
        go_roundw
        case rel => exact ⟨rfl, rfl, I + 1, _, _, _, _, rfl, rfl, by go_num, h1, h2, KP9.after hP7 hX1⟩
        case measure => simp [intOf]; omega
      · have HPW : Hid (Calls Tryd.prog 13 #[.pointer (some ⟨L.g, 0, none⟩)] wr fun e w' => e = .returned (.tuple #[]) ∧ PFlash w' L (powerF s) ∧ Chg L.T wr w') := power6_any L s wr hP.f.p
        have hPf := hP.f
        clear HO HP HLC HF hP
        by_cases h1 : I < l.length
        · have i1 : (I : Int) < (l.length : Int) := by omega
          have i2 : ¬ (I : Int) < 150 := by omega
          go_wp2_with (first | (go_at_call 13; refine HPW.out.mono ?_; rintro e w6 ⟨rfl, hp6, hc6⟩) | (go_at_call 14; refine (ref6Power_any M s w6 (hPf.still hc6)).mono ?_; rintro e w7 ⟨rfl, hr7, hc7⟩; have hP7 := hPf.both hp6 hc6 hr7 hc7) | (go_at_call 23; refine (read6_any L (powerF s) 0 4096 w7 hP7.p).mono ?_; rintro e w8 ⟨v8, rfl, ho8, hb8⟩; have hP8 := hP7.after hb8) | (go_at_call 24; refine (ref6Read_any M (powerF s) 0 4096 w8 hP8.r).mono ?_; rintro e w9 ⟨v9, rfl, ho9, hb9⟩; have hP9 := hP8.after hb9; have k1 := seg_stringD (ho8.seg.below hb9 (Nat.le_refl _)) 9 Tryd.underlying9; have k2 := seg_stringD ho9.seg 9 Tryd.underlying9; obtain ⟨a8, c8, hv8⟩ := ho8.seg.shapeD; obtain ⟨a9, c9, hv9⟩ := ho9.seg.shapeD; subst hv8 hv9; generalize (readF (powerF s) 0 4096).1 = RB at *) | fail)
          go_ret
          exact ⟨rfl, hP9.b⟩
        · have i1 : ¬ (I : Int) < (l.length : Int) := by omega
          go_wp2_with (first | (go_at_call 13; refine HPW.out.mono ?_; rintro e w6 ⟨rfl, hp6, hc6⟩) | (go_at_call 14; refine (ref6Power_any M s w6 (hPf.still hc6)).mono ?_; rintro e w7 ⟨rfl, hr7, hc7⟩; have hP7 := hPf.both hp6 hc6 hr7 hc7) | (go_at_call 23; refine (read6_any L (powerF s) 0 4096 w7 hP7.p).mono ?_; rintro e w8 ⟨v8, rfl, ho8, hb8⟩; have hP8 := hP7.after hb8) | (go_at_call 24; refine (ref6Read_any M (powerF s) 0 4096 w8 hP8.r).mono ?_; rintro e w9 ⟨v9, rfl, ho9, hb9⟩; have hP9 := hP8.after hb9; have k1 := seg_stringD (ho8.seg.below hb9 (Nat.le_refl _)) 9 Tryd.underlying9; have k2 := seg_stringD ho9.seg 9 Tryd.underlying9; obtain ⟨a8, c8, hv8⟩ := ho8.seg.shapeD; obtain ⟨a9, c9, hv9⟩ := ho9.seg.shapeD; subst hv8 hv9; generalize (readF (powerF s) 0 4096).1 = RB at *) | fail)
          go_ret
          exact ⟨rfl, hP9.b⟩
end Go.Proofs.YtbdhkkdombdnkaaDoor
