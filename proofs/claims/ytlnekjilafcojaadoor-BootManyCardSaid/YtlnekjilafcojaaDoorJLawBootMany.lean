/-
  What is proved here: BootMany: however many records are saved, the last one is found.
  Conditions: the variable fourBits holds the sixteen words.
-/
import Derived.Test.YtlnekjilafcojaaDoorJBootKept
import Derived.Test.YtlnekjilafcojaaDoorJBootEq
namespace Go.Proofs.YtlnekjilafcojaaDoor
open Go.RowKit

theorem exec_eqb9' {a : Act} {o : Oper} {w : World} (t : TypeId) (x y : Operand) (ho : o.op = .binOp .eql t x y t) (u v r : Value) (hx : a.eval x = u) (hy : a.eval y = v) (hg : ∀ w, (eqGuard .eql t x y u v).run Tryd.prog w = .ok () w) (h : ∀ w, (binOp .eql t u v).run Tryd.prog w = .ok r w) : (execOp a.eval o).run Tryd.prog w = .ok (.value r) w := exec_cmp .eql t t x y ho (.inr rfl) u v r hx hy (hg w) (h w)
/-- A keeper and its flash, as a law holds them. -/
structure KF (w W : World) (L : PLay6) (g j n e : Nat) (k : KS) (s : FS) : Prop where
  blk : Blk W g 74 (kpC L j k)
  fl : PFlash W L s
  keeps : Keeps9 s j k
  well : Well s n e
  lay : L.n = n
  own : ∀ q, L.T q → w.heap.size ≤ q
  gw : w.heap.size ≤ g
  gT : ¬ L.T g
/-- A Save. -/
theorem KF.save {w W : World} {L : PLay6} {g j n e : Nat} {k : KS} {s : FS} (h : KF w W L g j n e k s) (hB : Below w.heap.size w W) (hj : j + 1 < n) (he : e < 10000) (r : BR) (hr : r.ok) (hG : k.gen + 1 ≤ 1073741824) (hgf : 1 < w.heap.size) (hf : Tab w 1 (fours.map v32)) :
    Calls Tryd.prog 27 #[.pointer (some ⟨g, 0, none⟩), brV r] W fun e' W' => e' = .returned (.int .i64 0) ∧ ∃ k' s', KF w W' L g j n (e + 1) k' s' ∧ k'.gen = k.gen + 1 ∧ k'.r = r ∧ Chg (kT L g) W W' := by
  obtain ⟨s1, s2, s3, s4, s5⟩ := save_keeps h.well h.keeps hj he r hr hG
  refine (save9_any L s g j k r W h.blk h.gT h.fl (by rw [h.lay]; exact hj) h.keeps.wh (by omega) (Nat.lt_of_lt_of_le hgf hB.size) (hf.below hB hgf) (fun hx => by have := h.own _ hx; omega)).mono ?_
  rintro e' W' ⟨rfl, hb, hfl, hc⟩
  rw [s1]
  exact ⟨rfl, _, _, ⟨hb, hfl, s2, s5, h.lay, h.own, h.gw, h.gT⟩, s3, s4, hc⟩
/-- Opened. -/
theorem open_kf {w W : World} {L : PLay6} {j n e : Nat} {s : FS} {G : Nat} {R : BR} (hfl : PFlash W L s) (hw : Well s n e) (hl : L.n = n) (own : ∀ q, L.T q → w.heap.size ≤ q) (hL : Last9 s j G R) (hE : 0 < G → ∃ wh i : Nat, wh ≤ 1 ∧ i < 32 ∧ decE (plB s (j + wh) i) = some (G, R)) (hB : Below w.heap.size w W) (hj : j + 1 < n) (hgf : 1 < w.heap.size) (hf : Tab w 1 (fours.map v32)) :
    Calls Tryd.prog 17 #[.pointer (some ⟨L.g, 0, none⟩), .int .i64 (j : Int)] W fun e' W' => ∃ g k, e' = .returned (.tuple #[.pointer (some ⟨g, 0, none⟩), .int .i64 0]) ∧ KF w W' L g j n e k s ∧ k.gen = G ∧ k.r = R ∧ Below W.heap.size W W' ∧ W.heap.size ≤ g := by
  obtain ⟨f1, f2, f3⟩ := find_keeps hL hE
  refine (open9_any L s j W hfl (by rw [hl]; exact hj) (Nat.lt_of_lt_of_le hgf hB.size) (hf.below hB hgf)).mono ?_
  rintro e' W' ⟨hb, hx⟩
  rw [if_neg (by rw [hw.up]; decide)] at hx
  obtain ⟨g, rfl, hk, hg⟩ := hx
  exact ⟨g, _, rfl, ⟨hk, thePF.after hfl hb, f1, hw, hl, own, Nat.le_trans hB.size hg, fun h => by have := hfl.lt g h; omega⟩, f2, f3, hb, hg⟩
theorem Keeps9.ex {s : FS} {j : Nat} {k : KS} (h : Keeps9 s j k) : 0 < k.gen → ∃ wh i : Nat, wh ≤ 1 ∧ i < 32 ∧ decE (plB s (j + wh) i) = some (k.gen, k.r) := fun h0 => by
  rcases h.at_ with h1 | ⟨i, h1, _, h3⟩
  · omega
  · exact ⟨k.wh, i, h.wh, h1, h3⟩
theorem KF.chg {w W W' : World} {L : PLay6} {g j n e : Nat} {k : KS} {s : FS} {S : Nat → Prop} (h : KF w W L g j n e k s) (hc : Chg S W W') (hS : ∀ q, S q → ¬ L.T q ∧ q ≠ g) : KF w W' L g j n e k s :=
  ⟨h.blk.chg hc (fun hx => (hS g hx).2 rfl), h.fl.chg hc (fun q hq hx => (hS q hx).1 hq), h.keeps, h.well, h.lay, h.own, h.gw, h.gT⟩
theorem ok_ver {a t r v0 v1 : Int} (h : BR.ok ⟨a, t, r, v0, v1⟩) (z : Nat) (hz : z ≤ 200) : BR.ok ⟨a, t, r, (z : Int), v1⟩ := by
  obtain ⟨k1, k2, k3, k4, k5⟩ := h
  exact ⟨k1, k2, ⟨by show (0 : Int) ≤ (z : Int); omega, by show (z : Int) ≤ 1073741824; omega⟩, k4, k5⟩

set_option maxRecDepth 100000 in
set_option maxHeartbeats 8000000 in
theorem bootMany_any (many : Int) (b : BR) (w : World) (hgf : 1 < w.heap.size) (hf : Tab w 1 (fours.map v32)) : Calls Tryd.prog 7 #[.int .i64 many, brV b] w fun e w' => e = .returned (.bool true) ∧ Below w.heap.size w w' := by
  have hB0 := (Below.refl w.heap.size w).alloc (Nat.le_refl _) (.cells (brL b) 24)
  have k2 := Blk.new w 24 (brL b)
  have HA : Hid (Calls Tryd.prog 9 #[] (w.alloc (.cells (brL b) 24)) fun e w' => e = .returned (.bool true) ∧ Below (w.alloc (.cells (brL b) 24)).heap.size (w.alloc (.cells (brL b) 24)) w') := awake9_any _ (Nat.lt_of_lt_of_le hgf hB0.size) (hf.below hB0 hgf)
  have HRG : Hid (∀ W, Calls Tryd.prog 12 #[brV b] W fun e w' => e = .returned (.bool (rightR b)) ∧ Below W.heap.size W w') := fun W => right9_any b W
  have HNW : Hid (∀ W : World, Calls Tryd.prog 15 #[.int .i64 3, .int .i64 10000] W fun e w' => ∃ L : PLay6, e = .returned (.tuple #[.pointer (some ⟨L.g, 0, none⟩), .int .i64 0]) ∧ L.n = 3 ∧ PFlash w' L (newF 3 10000) ∧ Below W.heap.size W w' ∧ (∀ q, L.T q → W.heap.size ≤ q)) := fun W => thePF.new_any 3 10000 W (by decide) (by decide) (by decide) (by decide)
  have HOK : Hid (rightR b = true → b.ok) := fun h => of_decide_eq_true h
  have HF : Hid (Tab w 1 (fours.map v32)) := hf
  clear hf
  generalize rightR b = RB at *
  obtain ⟨a, t, r, v0, v1⟩ := b
  unfold brV brL at *
  simp only at *
  go_enter Tryd.func7, Tryd.ntmps7
  go_wp2_with fail
  refine HA.out.mono ?_
  rintro e w1 ⟨rfl, hb1⟩
  clear HA
  have m2 := k2.below hb1 k2.lt
  have hB1 : Below w.heap.size w w1 := hB0.trans (hb1.mono hB0.size)
  obtain ⟨B3, hBe⟩ : ∃ B3, B3 = w.heap.size := ⟨_, rfl⟩
  have hBw : w.heap.size ≤ B3 := by omega
  rw [← hBe] at m2 ⊢
  clear hBe k2 hb1 hB0
  have c0 : w1.cell? ⟨B3, 0, none⟩ = some (.int .i64 a) := m2.cell (j := 0) rfl
  have c1 : w1.cell? ⟨B3, 1, none⟩ = some (.int .i64 t) := m2.cell (j := 1) rfl
  have c2 : w1.cell? ⟨B3, 2, none⟩ = some (.int .i64 r) := m2.cell (j := 2) rfl
  have c3 : w1.cell? ⟨B3, 3, none⟩ = some (.int .i64 v0) := m2.cell (j := 3) rfl
  have c4 : w1.cell? ⟨B3, 4, none⟩ = some (.int .i64 v1) := m2.cell (j := 4) rfl
  go_wp2_with fail
  refine (HRG.out _).mono ?_
  rintro e w2 ⟨rfl, hb2⟩
  clear HRG c0 c1 c2 c3 c4
  have n2 := m2.below hb2 m2.lt
  have hB2 : Below w.heap.size w w2 := hB1.trans (hb2.mono hB1.size)
  clear m2 hb2 hB1
  go_wp2_with fail
  refine (HNW.out _).mono ?_
  rintro e w3 ⟨L, rfl, hn, hD3, hb3, hT3⟩
  clear HNW
  have q2 := n2.below hb3 n2.lt
  have hB3 : Below w.heap.size w w3 := hB2.trans (hb3.mono hB2.size)
  have HOW : Hid (∀ q, L.T q → w.heap.size ≤ q) := fun q hq => Nat.le_trans hB2.size (hT3 q hq)
  have hBT : ¬ L.T B3 := fun h => by have := hT3 B3 h; have := n2.lt; omega
  have HLN : Hid (L.n = 3) := hn
  clear n2 hb3 hB2 hT3 hn
  cases RB with
  | false =>
    go_wp2
    go_ret
    exact ⟨rfl, hB3⟩
  | true =>
    have HBOK : Hid (BR.ok ⟨a, t, r, v0, v1⟩) := HOK.out rfl
    clear HOK
    by_cases hm0 : many < 0
    · go_wp2
      go_ret
      exact ⟨rfl, hB3⟩
    by_cases hm1 : 200 < many
    · go_wp2
      go_ret
      exact ⟨rfl, hB3⟩
    obtain ⟨m, rfl⟩ : ∃ m : Nat, many = (m : Int) := ⟨many.toNat, by omega⟩
    have HOP : Hid (Calls Tryd.prog 17 #[.pointer (some ⟨L.g, 0, none⟩), .int .i64 1] w3 fun e' W' => ∃ g k, e' = .returned (.tuple #[.pointer (some ⟨g, 0, none⟩), .int .i64 0]) ∧ KF w W' L g 1 3 0 k (newF 3 10000) ∧ k.gen = 0 ∧ k.r = BR.zero ∧ Below w3.heap.size w3 W' ∧ w3.heap.size ≤ g) := open_kf hD3 (new_well 3 (by decide) (by decide)) HLN.out HOW.out (new_last 3 1 (by decide)) (fun h => by cases h) hB3 (by decide) hgf HF.out
    go_wp2_with fail
    refine HOP.out.mono ?_
    rintro e w4 ⟨g, k0, rfl, hKF, hk1, hk2, hb4, hgw⟩
    clear HOP hD3
    have hB4 : Below w.heap.size w w4 := hB3.trans (hb4.mono hB3.size)
    have r2 := q2.below hb4 q2.lt
    have hBg : B3 ≠ g := by have := q2.lt; omega
    clear q2 hb4 hB3
    have HK0 : Hid (k0.gen = 0 ∧ k0.r = BR.zero) := ⟨hk1, hk2⟩
    clear hk1 hk2
    go_wp2_with fail
    go_loopw [10] (fun i wr => ∃ (I : Nat) (z : Int) (k : KS) (s : FS), i = .int .i64 (I : Int) ∧ I ≤ m ∧ k.gen = I ∧ (0 < I → k.r = ⟨a, t, r, z, v1⟩) ∧ (I = 0 → k.r = BR.zero) ∧ KF w wr L g 1 3 I k s ∧ Blk wr B3 24 #[.int .i64 a, .int .i64 t, .int .i64 r, .int .i64 z, .int .i64 v1] ∧ Below w.heap.size w wr) (fun i _ => m - (intOf i).toNat)
    case atStart => exact ⟨0, v0, k0, _, rfl, Nat.zero_le _, HK0.out.1, (fun h => by cases h), fun _ => HK0.out.2, hKF, r2, hB4⟩
    case round =>
      clear r2 hB4 hKF HK0
      obtain ⟨I, z, k, s, rfl, hI, hk1, hk2, hk3, hKF, y3, hBr⟩ := hrel
      have HKI : Hid (k.gen = I ∧ (0 < I → k.r = ⟨a, t, r, z, v1⟩) ∧ (I = 0 → k.r = BR.zero)) := ⟨hk1, hk2, hk3⟩
      clear hk1 hk2 hk3
      by_cases hlt : I < m
      · have i1 : (I : Int) < (m : Int) := by omega
        have hcS : Chg (fun q => q = B3) wr (wr.setCell ⟨B3, 3, none⟩ (.int .i64 (I : Int))) := (Chg.refl (fun q => q = B3) wr).setCell B3 3 _ (fun _ => rfl)
        have x3 : Blk (wr.setCell ⟨B3, 3, none⟩ (.int .i64 (I : Int))) B3 24 #[.int .i64 a, .int .i64 t, .int .i64 r, .int .i64 (I : Int), .int .i64 v1] := y3.set 3 (.int .i64 (I : Int))
        have hKS := hKF.chg hcS (fun q hq => by subst hq; exact ⟨hBT, hBg⟩)
        have hBS : Below w.heap.size w (wr.setCell ⟨B3, 3, none⟩ (.int .i64 (I : Int))) := hBr.trans (hcS.below (fun q hq => by omega) hBr.size)
        have c3 : wr.cell? ⟨B3, 3, none⟩ = some (.int .i64 z) := y3.cell (j := 3) rfl
        have f3 := y3.frozen 3
        have d0 : (wr.setCell ⟨B3, 3, none⟩ (.int .i64 (I : Int))).cell? ⟨B3, 0, none⟩ = some (.int .i64 a) := x3.cell (j := 0) rfl
        have d1 : (wr.setCell ⟨B3, 3, none⟩ (.int .i64 (I : Int))).cell? ⟨B3, 1, none⟩ = some (.int .i64 t) := x3.cell (j := 1) rfl
        have d2 : (wr.setCell ⟨B3, 3, none⟩ (.int .i64 (I : Int))).cell? ⟨B3, 2, none⟩ = some (.int .i64 r) := x3.cell (j := 2) rfl
        have d3 : (wr.setCell ⟨B3, 3, none⟩ (.int .i64 (I : Int))).cell? ⟨B3, 3, none⟩ = some (.int .i64 (I : Int)) := x3.cell (j := 3) rfl
        have d4 : (wr.setCell ⟨B3, 3, none⟩ (.int .i64 (I : Int))).cell? ⟨B3, 4, none⟩ = some (.int .i64 v1) := x3.cell (j := 4) rfl
        have HSV : Hid (Calls Tryd.prog 27 #[.pointer (some ⟨g, 0, none⟩), .agg #[.int .i64 a, .int .i64 t, .int .i64 r, .int .i64 (I : Int), .int .i64 v1]] (wr.setCell ⟨B3, 3, none⟩ (.int .i64 (I : Int))) fun e' W' => e' = .returned (.int .i64 0) ∧ ∃ k' s', KF w W' L g 1 3 (I + 1) k' s' ∧ k'.gen = k.gen + 1 ∧ k'.r = ⟨a, t, r, (I : Int), v1⟩ ∧ Chg (kT L g) (wr.setCell ⟨B3, 3, none⟩ (.int .i64 (I : Int))) W') := hKS.save hBS (by decide) (by omega) ⟨a, t, r, (I : Int), v1⟩ (ok_ver HBOK.out I (by omega)) (by rw [HKI.out.1]; omega) hgf HF.out
        clear hKS hKF
        go_wp2_with fail
        refine HSV.out.mono ?_
        rintro e w6 ⟨rfl, k', s', hKF6, hg6, hr6, hc6⟩
        clear HSV d0 d1 d2 d3 d4 c3 f3 y3 hcS
        have HK6 : Hid (k'.gen = I + 1 ∧ k'.r = ⟨a, t, r, (I : Int), v1⟩) := ⟨by rw [hg6, HKI.out.1], hr6⟩
        clear hg6 hr6
        have x6 := x3.chg hc6 (fun h => by rcases h with h | h; exact hBT h; exact hBg h)
        have hB6 : Below w.heap.size w w6 := hBS.trans (hc6.below (fun q hq => by rcases hq with h | h; exact HOW.out q h; rw [h]; exact hKF6.gw) hBS.size)
        clear x3 hBS hc6
        go_wp2
        go_roundw
        case rel => exact ⟨I + 1, (I : Int), k', s', by go_num, hlt, HK6.out.1, (fun _ => HK6.out.2), (fun h => by omega), hKF6, x6, hB6⟩
        case measure => simp [intOf]; omega
      · have i1 : ¬ (I : Int) < (m : Int) := by omega
        obtain rfl : I = m := by omega
        clear hlt hI
        have HOP : Hid (Calls Tryd.prog 17 #[.pointer (some ⟨L.g, 0, none⟩), .int .i64 1] wr fun e' W' => ∃ g' k', e' = .returned (.tuple #[.pointer (some ⟨g', 0, none⟩), .int .i64 0]) ∧ KF w W' L g' 1 3 I k' s ∧ k'.gen = k.gen ∧ k'.r = k.r ∧ Below wr.heap.size wr W' ∧ wr.heap.size ≤ g') := open_kf hKF.fl hKF.well HLN.out HOW.out hKF.keeps.last hKF.keeps.ex hBr (by decide) hgf HF.out
        clear hKF
        go_wp2_with fail
        refine HOP.out.mono ?_
        rintro e w7 ⟨g7, k7, rfl, hKF7, hg7, hr7, hb7, -⟩
        clear HOP
        have x7 := y3.below hb7 y3.lt
        have hB7 : Below w.heap.size w w7 := hBr.trans (hb7.mono hBr.size)
        have HGN : Hid (Calls Tryd.prog 30 #[.pointer (some ⟨g7, 0, none⟩)] w7 fun e w' => e = .returned (.int .i64 (I : Int)) ∧ w' = w7) := by have h9 := gen9_any L g7 1 k7 w7 hKF7.blk; rw [hg7, HKI.out.1] at h9; exact h9
        have HRC : Hid (∀ W, Below w7.heap.size w7 W → Calls Tryd.prog 29 #[.pointer (some ⟨g7, 0, none⟩)] W fun e w' => e = .returned (brV k.r) ∧ Below W.heap.size W w') := fun W hW => by have h9 := record9_any L g7 1 k7 W (hKF7.blk.below hW hKF7.blk.lt); rw [hr7] at h9; exact h9
        clear hKF7 hg7 hr7 y3 hBr hb7
        go_wp2_with fail
        refine HGN.out.mono ?_
        rintro e w8 ⟨rfl, hw8⟩
        subst hw8
        clear HGN
        go_wp2_with fail
        have HCL : Hid (∀ V, Below w8.heap.size w8 V → V.rangeAt B3 0 [.int .i64 a, .int .i64 t, .int .i64 r, .int .i64 z, .int .i64 v1]) := fun V hV => (x7.below hV x7.lt).range'
        have hx0 : Below w8.heap.size w8 w8.drew := (Below.refl _ _).drew
        have hS0 := HCL.out w8.drew hx0
        by_cases hz : I = 0
        · have hkr := HKI.out.2.2 hz
          subst hz
          have HR2 : Hid (∀ W, Below w8.heap.size w8 W → Calls Tryd.prog 29 #[.pointer (some ⟨g7, 0, none⟩)] W fun e w' => e = .returned (.agg #[.int .i64 0, .int .i64 (-1), .int .i64 0, .int .i64 0, .int .i64 0]) ∧ Below W.heap.size W w') := fun W hW => by have h9 := HRC.out W hW; rw [hkr] at h9; exact h9
          clear HRC hkr HKI
          refine held_begin (fun V => V.rangeAt B3 0 [.int .i64 a, .int .i64 t, .int .i64 r, .int .i64 z, .int .i64 v1]) (by kernel_rfl) ?_
          refine held_take 0 82 _ (.int .i64 0) rfl rfl (by kernel_rfl) (by kernel_rfl) (by kernel_rfl) rfl hS0 (fun _ _ => rfl) ?_
          simp only [Act.put, List.setIfInBounds_toArray, List.set_cons_succ, List.set_cons_zero]
          refine held_take 1 83 _ (.bool true) rfl rfl (by kernel_rfl) (by kernel_rfl) (by kernel_rfl) rfl hS0 (fun V _ => exec_eql7 3 _ _ rfl 0 0 _ rfl rfl (fun _ => by kernel_rfl) rfl) ?_
          simp only [Act.put, List.setIfInBounds_toArray, List.set_cons_succ, List.set_cons_zero]
          refine held_take 2 84 _ (.bool true) rfl rfl (by kernel_rfl) (by kernel_rfl) (by kernel_rfl) rfl hS0 (fun _ _ => rfl) ?_
          simp only [Act.put, List.setIfInBounds_toArray, List.set_cons_succ, List.set_cons_zero]
          refine held_take 3 85 _ (.pointer (some ⟨g7, 0, none⟩)) rfl rfl (by kernel_rfl) (by kernel_rfl) (by kernel_rfl) rfl hS0 (fun _ _ => rfl) ?_
          simp only [Act.put, List.setIfInBounds_toArray, List.set_cons_succ, List.set_cons_zero]
          refine held_take 5 87 _ (.agg #[.int .i64 0, .int .i64 (-1), .int .i64 0, .int .i64 0, .int .i64 0]) rfl rfl (by kernel_rfl) (by kernel_rfl) (by kernel_rfl) rfl hS0 (fun _ _ => by kernel_rfl) ?_
          simp only [Act.put, List.setIfInBounds_toArray, List.set_cons_succ, List.set_cons_zero]
          refine held_all1 4 (by kernel_rfl) (op_call 4 86 _ 29 #[.pointer (some ⟨g7, 0, none⟩)] rfl rfl rfl (exec_one 29 _ _ rfl _ rfl Tryd.call29) ((HR2.out _ hx0).mono ?_))
          rintro e W9 ⟨rfl, hb9⟩
          have hx9 : Below w8.heap.size w8 W9 := hx0.trans hb9
          have hS9 := HCL.out W9 hx9
          refine ⟨_, rfl, hS9, ?_⟩
          simp only [Act.put, List.setIfInBounds_toArray, List.set_cons_succ, List.set_cons_zero]
          refine held_take 6 88 _ (.bool true) rfl rfl (by kernel_rfl) (by kernel_rfl) (by kernel_rfl) rfl hS9 (fun V _ => exec_eqb9' 24 _ _ rfl (.agg #[.int .i64 0, .int .i64 (-1), .int .i64 0, .int .i64 0, .int .i64 0]) (.agg #[.int .i64 0, .int .i64 (-1), .int .i64 0, .int .i64 0, .int .i64 0]) (.bool true) rfl rfl (fun w => run_eqGuard_agg w .eql 24 _ _ _ _ (by kernel_rfl)) (fun w => by kernel_rfl)) ?_
          simp only [Act.put, List.setIfInBounds_toArray, List.set_cons_succ, List.set_cons_zero]
          refine held_take 7 89 _ (.bool true) rfl rfl (by kernel_rfl) (by kernel_rfl) (by kernel_rfl) rfl hS9 (fun _ _ => rfl) ?_
          simp only [Act.put, List.setIfInBounds_toArray, List.set_cons_succ, List.set_cons_zero]
          refine held_take 8 90 _ (.bool true) rfl rfl (by kernel_rfl) (by kernel_rfl) (by kernel_rfl) rfl hS9 (fun _ _ => rfl) ?_
          simp only [Act.put, List.setIfInBounds_toArray, List.set_cons_succ, List.set_cons_zero]
          refine held_pass 9 91 _ rfl rfl (by kernel_rfl) (by kernel_rfl) (by kernel_rfl) rfl hS9 ?_
          simp only [Act.put, List.setIfInBounds_toArray, List.set_cons_succ, List.set_cons_zero]
          refine held_pass 10 92 _ rfl rfl (by kernel_rfl) (by kernel_rfl) (by kernel_rfl) rfl hS9 ?_
          simp only [Act.put, List.setIfInBounds_toArray, List.set_cons_succ, List.set_cons_zero]
          refine held_pass 11 93 _ rfl rfl (by kernel_rfl) (by kernel_rfl) (by kernel_rfl) rfl hS9 ?_
          simp only [Act.put, List.setIfInBounds_toArray, List.set_cons_succ, List.set_cons_zero]
          refine held_pass 12 94 _ rfl rfl (by kernel_rfl) (by kernel_rfl) (by kernel_rfl) rfl hS9 ?_
          simp only [Act.put, List.setIfInBounds_toArray, List.set_cons_succ, List.set_cons_zero]
          refine held_pass 13 95 _ rfl rfl (by kernel_rfl) (by kernel_rfl) (by kernel_rfl) rfl hS9 ?_
          simp only [Act.put, List.setIfInBounds_toArray, List.set_cons_succ, List.set_cons_zero]
          refine held_pass 14 96 _ rfl rfl (by kernel_rfl) (by kernel_rfl) (by kernel_rfl) rfl hS9 ?_
          simp only [Act.put, List.setIfInBounds_toArray, List.set_cons_succ, List.set_cons_zero]
          refine held_pass 15 97 _ rfl rfl (by kernel_rfl) (by kernel_rfl) (by kernel_rfl) rfl hS9 ?_
          simp only [Act.put, List.setIfInBounds_toArray, List.set_cons_succ, List.set_cons_zero]
          refine held_pass 16 98 _ rfl rfl (by kernel_rfl) (by kernel_rfl) (by kernel_rfl) rfl hS9 ?_
          simp only [Act.put, List.setIfInBounds_toArray, List.set_cons_succ, List.set_cons_zero]
          refine held_take 17 99 _ (.bool true) rfl rfl (by kernel_rfl) (by kernel_rfl) (by kernel_rfl) rfl hS9 (fun _ _ => rfl) ?_
          simp only [Act.put, List.setIfInBounds_toArray, List.set_cons_succ, List.set_cons_zero]
          refine held_take 18 4 _ (.bool true) rfl rfl (by kernel_rfl) (by kernel_rfl) (by kernel_rfl) rfl hS9 (fun _ _ => rfl) ?_
          simp only [Act.put, List.setIfInBounds_toArray, List.set_cons_succ, List.set_cons_zero]
          refine wpAnyH_done (by kernel_rfl) ?_ _
          refine NoPanic.normal ?_
          go_wp2
          go_ret
          exact ⟨rfl, hB7.trans (hx9.mono hB7.size)⟩
        · have hkr := HKI.out.2.1 (by omega)
          have HR2 : Hid (∀ W, Below w8.heap.size w8 W → Calls Tryd.prog 29 #[.pointer (some ⟨g7, 0, none⟩)] W fun e w' => e = .returned (.agg #[.int .i64 a, .int .i64 t, .int .i64 r, .int .i64 z, .int .i64 v1]) ∧ Below W.heap.size W w') := fun W hW => by have h9 := HRC.out W hW; rw [hkr] at h9; exact h9
          have HEB : Hid (∀ w, (binOp .eql 24 (.agg #[.int .i64 a, .int .i64 t, .int .i64 r, .int .i64 z, .int .i64 v1]) (.agg #[.int .i64 a, .int .i64 t, .int .i64 r, .int .i64 z, .int .i64 v1])).run Tryd.prog w = .ok (.bool true) w) := fun w => by rw [eq_br]; simp
          have hz1 : ((I : Int) == 0) = false := by rw [beq_eq_false_iff_ne]; omega
          have hz2 : decide ((0 : Int) < (I : Int)) = true := decide_eq_true (by omega)
          clear HRC hkr HKI
          refine held_begin (fun V => V.rangeAt B3 0 [.int .i64 a, .int .i64 t, .int .i64 r, .int .i64 z, .int .i64 v1]) (by kernel_rfl) ?_
          refine held_take 0 82 _ (.int .i64 (I : Int)) rfl rfl (by kernel_rfl) (by kernel_rfl) (by kernel_rfl) rfl hS0 (fun _ _ => rfl) ?_
          simp only [Act.put, List.setIfInBounds_toArray, List.set_cons_succ, List.set_cons_zero]
          refine held_take 1 83 _ (.bool false) rfl rfl (by kernel_rfl) (by kernel_rfl) (by kernel_rfl) rfl hS0 (fun V _ => exec_eql7 3 _ _ rfl (I : Int) 0 _ rfl rfl (fun _ => by kernel_rfl) hz1) ?_
          simp only [Act.put, List.setIfInBounds_toArray, List.set_cons_succ, List.set_cons_zero]
          refine held_take 2 84 _ (.bool false) rfl rfl (by kernel_rfl) (by kernel_rfl) (by kernel_rfl) rfl hS0 (fun _ _ => rfl) ?_
          simp only [Act.put, List.setIfInBounds_toArray, List.set_cons_succ, List.set_cons_zero]
          refine held_pass 3 85 _ rfl rfl (by kernel_rfl) (by kernel_rfl) (by kernel_rfl) rfl hS0 ?_
          simp only [Act.put, List.setIfInBounds_toArray, List.set_cons_succ, List.set_cons_zero]
          refine held_pass 4 86 _ rfl rfl (by kernel_rfl) (by kernel_rfl) (by kernel_rfl) rfl hS0 ?_
          simp only [Act.put, List.setIfInBounds_toArray, List.set_cons_succ, List.set_cons_zero]
          refine held_pass 5 87 _ rfl rfl (by kernel_rfl) (by kernel_rfl) (by kernel_rfl) rfl hS0 ?_
          simp only [Act.put, List.setIfInBounds_toArray, List.set_cons_succ, List.set_cons_zero]
          refine held_pass 6 88 _ rfl rfl (by kernel_rfl) (by kernel_rfl) (by kernel_rfl) rfl hS0 ?_
          simp only [Act.put, List.setIfInBounds_toArray, List.set_cons_succ, List.set_cons_zero]
          refine held_take 7 89 _ (.bool false) rfl rfl (by kernel_rfl) (by kernel_rfl) (by kernel_rfl) rfl hS0 (fun _ _ => rfl) ?_
          simp only [Act.put, List.setIfInBounds_toArray, List.set_cons_succ, List.set_cons_zero]
          refine held_take 8 90 _ (.bool false) rfl rfl (by kernel_rfl) (by kernel_rfl) (by kernel_rfl) rfl hS0 (fun _ _ => rfl) ?_
          simp only [Act.put, List.setIfInBounds_toArray, List.set_cons_succ, List.set_cons_zero]
          refine held_take 9 91 _ (.int .i64 (I : Int)) rfl rfl (by kernel_rfl) (by kernel_rfl) (by kernel_rfl) rfl hS0 (fun _ _ => rfl) ?_
          simp only [Act.put, List.setIfInBounds_toArray, List.set_cons_succ, List.set_cons_zero]
          refine held_take 10 92 _ (.bool true) rfl rfl (by kernel_rfl) (by kernel_rfl) (by kernel_rfl) rfl hS0 (fun V _ => exec_gtr7 3 _ _ rfl (I : Int) 0 _ rfl rfl hz2) ?_
          simp only [Act.put, List.setIfInBounds_toArray, List.set_cons_succ, List.set_cons_zero]
          refine held_take 11 93 _ (.bool true) rfl rfl (by kernel_rfl) (by kernel_rfl) (by kernel_rfl) rfl hS0 (fun _ _ => rfl) ?_
          simp only [Act.put, List.setIfInBounds_toArray, List.set_cons_succ, List.set_cons_zero]
          refine held_take 12 94 _ (.pointer (some ⟨g7, 0, none⟩)) rfl rfl (by kernel_rfl) (by kernel_rfl) (by kernel_rfl) rfl hS0 (fun _ _ => rfl) ?_
          simp only [Act.put, List.setIfInBounds_toArray, List.set_cons_succ, List.set_cons_zero]
          refine held_take 14 96 _ (.agg #[.int .i64 a, .int .i64 t, .int .i64 r, .int .i64 z, .int .i64 v1]) rfl rfl (by kernel_rfl) (by kernel_rfl) (by kernel_rfl) rfl hS0 (fun V hV => exec_loads 24 _ rfl B3 0 rfl [.int .i64 a, .int .i64 t, .int .i64 r, .int .i64 z, .int .i64 v1] _ hV Tryd.underlying24 rfl info_boot9) ?_
          simp only [Act.put, List.setIfInBounds_toArray, List.set_cons_succ, List.set_cons_zero]
          refine held_all1 13 (by kernel_rfl) (op_call 13 95 _ 29 #[.pointer (some ⟨g7, 0, none⟩)] rfl rfl rfl (exec_one 29 _ _ rfl _ rfl Tryd.call29) ((HR2.out _ hx0).mono ?_))
          rintro e W9 ⟨rfl, hb9⟩
          have hx9 : Below w8.heap.size w8 W9 := hx0.trans hb9
          have hS9 := HCL.out W9 hx9
          refine ⟨_, rfl, hS9, ?_⟩
          simp only [Act.put, List.setIfInBounds_toArray, List.set_cons_succ, List.set_cons_zero]
          refine held_take 15 97 _ (.bool true) rfl rfl (by kernel_rfl) (by kernel_rfl) (by kernel_rfl) rfl hS9 (fun V _ => exec_eqb9' 24 _ _ rfl (.agg #[.int .i64 a, .int .i64 t, .int .i64 r, .int .i64 z, .int .i64 v1]) (.agg #[.int .i64 a, .int .i64 t, .int .i64 r, .int .i64 z, .int .i64 v1]) (.bool true) rfl rfl (fun w => run_eqGuard_agg w .eql 24 _ _ _ _ (by kernel_rfl)) HEB.out) ?_
          simp only [Act.put, List.setIfInBounds_toArray, List.set_cons_succ, List.set_cons_zero]
          refine held_take 16 98 _ (.bool true) rfl rfl (by kernel_rfl) (by kernel_rfl) (by kernel_rfl) rfl hS9 (fun _ _ => rfl) ?_
          simp only [Act.put, List.setIfInBounds_toArray, List.set_cons_succ, List.set_cons_zero]
          refine held_take 17 99 _ (.bool true) rfl rfl (by kernel_rfl) (by kernel_rfl) (by kernel_rfl) rfl hS9 (fun _ _ => rfl) ?_
          simp only [Act.put, List.setIfInBounds_toArray, List.set_cons_succ, List.set_cons_zero]
          refine held_take 18 4 _ (.bool true) rfl rfl (by kernel_rfl) (by kernel_rfl) (by kernel_rfl) rfl hS9 (fun _ _ => rfl) ?_
          simp only [Act.put, List.setIfInBounds_toArray, List.set_cons_succ, List.set_cons_zero]
          refine wpAnyH_done (by kernel_rfl) ?_ _
          refine NoPanic.normal ?_
          go_wp2
          go_ret
          exact ⟨rfl, hB7.trans (hx9.mono hB7.size)⟩
end Go.Proofs.YtlnekjilafcojaaDoor
