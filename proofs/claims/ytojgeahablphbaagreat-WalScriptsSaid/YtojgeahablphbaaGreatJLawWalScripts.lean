/-
  What is proved here: of every number of sectors and all steps the statement WalScripts answers true: a log does any steps as the document says.
  Conditions: none.
-/
import Derived.Test.YtojgeahablphbaaGreatJWalOpened
import Derived.Test.YtojgeahablphbaaGreatJRefDiskNew
namespace Go.Proofs.YtojgeahablphbaaGreat
open Go.RowKit

def actL7 (a : ActP) (bv sv : Value) : List Value := [.int .i64 a.act, .int .i64 a.k, .int .i64 a.n, bv, sv]
theorem ActCells.range7 {W : World} {q off : Nat} {a : ActP} (h : ActCells W q off a) : ∃ bv sv, W.rangeAt q off (actL7 a bv sv) ∧ ActAt W bv sv a := by
  obtain ⟨_, h0, h1, h2, bv, sv, h3, h4, h5⟩ := h
  refine ⟨bv, sv, fun j v hj => ?_, h5⟩
  unfold actL7 at hj
  match j, hj with
  | 0, hj => cases hj; exact h0
  | 1, hj => cases hj; exact h1
  | 2, hj => cases hj; exact h2
  | 3, hj => cases hj; exact h3
  | 4, hj => cases hj; exact h4
  | (j + 5), hj => simp at hj
theorem exec_loadW {a : Act} {o : Oper} {w : World} (ty : TypeId) (x : Operand) (ho : o.op = .load ty x) (hag : ∀ w, (isAgg ty).run Tryz.prog w = .ok false w)
    (b off : Nat) (hx : a.eval x = .pointer (some ⟨b, off, none⟩)) (v : Value) (hc : w.cell? ⟨b, off, none⟩ = some v) : (execOp a.eval o).run Tryz.prog w = .ok (.value v) w := by
  unfold execOp
  simp [ho, hx, Instr.loadAt, Instr.sureAddr, loadVar, hag, hc]
theorem info_step7 : (Tryz.prog.info? 43).map (·.size) = some 5 := by kernel_rfl
theorem index_steps7 (b off len c : Nat) (I : Nat) (h : I < len) (w : World) : (Instr.indexAt 22 (.slice (some ⟨b, off, none⟩) len c) (.int .i64 (I : Int))).run Tryz.prog w = .ok (.pointer (some ⟨b, off + I * 5, none⟩)) w := by
  have hi : (0 : Int) ≤ (I : Int) ∧ (I : Int) < (len : Int) := by omega
  simp [Instr.indexAt, asIntOf, run_underlying Tryz.underlying22, hi, Addr.add_mid]
  first | rfl | (intro h'; omega)
theorem size_now {s t : DS} (h : t.now.length = s.now.length) : sizeS t = sizeS s := by unfold sizeS halfS; rw [h]
theorem seg_nil7 (w : World) : Seg w (.slice none 0 0) [] := .inl ⟨rfl, none, 0, rfl, fun _ => rfl⟩
theorem rows_nil7 (w : World) : RowsV w (.slice none 0 0) [] := ⟨none, 0, rfl, Nat.zero_le _, fun i r h => by simp at h⟩
set_option maxRecDepth 100000 in
set_option maxHeartbeats 16000000 in
theorem walScripts_any (y : Int) (v : Value) (l : List ActP) (w : World) (hl : ActsIn w v l) : Calls Tryz.prog 3 #[.int .i64 y, v] w fun e w' => e = .returned (.bool true) ∧ Below w.heap.size w w' := by
  obtain ⟨ao, c, rfl, hlm, hlc⟩ := id hl
  have HLC : Hid (∀ (i : Nat) a, l[i]? = some a → ∃ q off, ao = some ⟨q, off, none⟩ ∧ ActCells w q (off + 5 * i) a) := hlc
  unfold maxLen at hlm
  have HA : Hid (Calls Tryz.prog 4 #[] w fun e w' => e = .returned (.bool true) ∧ Below w.heap.size w w') := awake7_any w
  have HMW : Hid (∀ W, Below w.heap.size w W → Calls Tryz.prog 5 #[.slice ao l.length c] W fun e w' => Much7 l e ∧ w' = W) := fun W hW => much7_any _ l W (hl.below hW (Nat.le_refl _))
  clear hlc hl
  go_enter Tryz.func3, Tryz.ntmps3
  go_wp2_with fail
  refine HA.out.mono ?_
  rintro e w1 ⟨rfl, hB1⟩
  go_wp2_with fail
  refine (HMW.out w1 hB1).mono ?_
  rintro e w2 ⟨⟨mb, rfl, hmu⟩, rfl⟩
  clear HA HMW
  cases mb with
  | true =>
    go_wp2
    go_ret
    exact ⟨rfl, hB1⟩
  | false =>
  have HMU : Hid (∀ (i : Nat) a, l[i]? = some a → i < 100 → a.b.length ≤ 6000 ∧ a.stay.length ≤ 5000) := hmu rfl
  clear hmu
  by_cases hy1 : y < 1
  · go_wp2
    go_ret
    exact ⟨rfl, hB1⟩
  by_cases hy2 : 120 < y
  · go_wp2
    go_ret
    exact ⟨rfl, hB1⟩
  obtain ⟨n, rfl⟩ : ∃ n : Nat, y = (n : Int) := ⟨y.toNat, by omega⟩
  have HNW : Hid (∀ W, Calls Tryz.prog 6 #[.int .i64 (n : Int)] W fun e w' => ∃ L : PLay, e = .returned (.tuple #[.pointer (some ⟨L.g, 0, none⟩), .int .i64 0]) ∧ OD w' L L.T (newS n) ∧ Below W.heap.size W w' ∧ (∀ q, L.T q → W.heap.size ≤ q) ∧ L.n = n) := fun W => od_new n W (by omega) (by omega)
  have HNR : Hid (∀ W : World, Calls Tryz.prog 7 #[.int .i64 (n : Int)] W fun e w' => ∃ L : RLay, e = .returned (.tuple #[.pointer (some ⟨L.g, 0, none⟩), .int .i64 0]) ∧ L.n = n ∧ L.E = (fun q => q < W.heap.size) ∧ RDisk w' L (newS n) ∧ Below W.heap.size W w' ∧ ∀ q, L.T q → W.heap.size ≤ q) := fun W => refNew_any n W (by omega) (by omega) (fun q => q < W.heap.size) (fun _ h => h)
  go_wp2_with fail
  refine (HNW.out _).mono ?_
  rintro e w3 ⟨L, rfl, hD3, hb3, hT3, hLn⟩
  go_wp2_with fail
  refine (HNR.out _).mono ?_
  rintro e w4 ⟨M, rfl, hMn, hME, hR4, hb4, hT4⟩
  have hB3 : Below w.heap.size w w3 := hB1.trans (hb3.mono hB1.size)
  have hDP : DP7 w w4 L L.T M (fun q => w3.heap.size ≤ q ∧ q < w4.heap.size) (newS n) := ⟨hD3.after hb4, OR.new hR4 hME hT4, fun q h1 h2 => by have := hD3.lt q h1; omega, fun q h => Nat.le_trans hB1.size (hT3 q h), fun q h => by have := hB3.size; omega, hB3.trans (hb4.mono hB3.size)⟩
  clear hD3 hb3 hT3 hLn hMn hME hR4 hb4 hT4 hB3 hB1 HNW HNR hy1 hy2
  generalize (fun q => w3.heap.size ≤ q ∧ q < w4.heap.size) = D0 at hDP
  by_cases hsz : sizeS (newS n) < 256
  · have HOB : Hid (∀ W C s, OD W L C s → sizeS s < 256 → Calls Tryz.prog 8 #[.pointer (some ⟨L.g, 0, none⟩)] W fun e w' => e = .returned (.tuple #[.pointer none, .slice none 0 0, .slice none 0 0, .int .i64 1]) ∧ Below W.heap.size W w') := fun W C s h hs => by have he : openE s = 1 := if_pos hs; have h2 := open_bad L C s W h (by rw [he]; decide); rw [he] at h2; exact h2
    have HRB : Hid (∀ W D s, OR W M D s → sizeS s < 256 → Calls Tryz.prog 9 #[.pointer (some ⟨M.g, 0, none⟩)] W fun e w' => e = .returned (.tuple #[.pointer none, .slice none 0 0, .slice none 0 0, .int .i64 1]) ∧ Below W.heap.size W w') := fun W D s h hs => by have he : openE s = 1 := if_pos hs; have h2 := open7_bad (M.off W D) s W h.d (by rw [he]; decide); rw [he] at h2; exact h2
    have HSM : Hid (∀ W : World, Calls Tryz.prog 10 #[.slice none 0 0, .slice none 0 0] W fun e w' => e = .returned (.bool true) ∧ Below W.heap.size W w') := fun W => same7_any _ _ [] [] W (rows_nil7 W) (rows_nil7 W)
    go_wp2_with (first | (go_at_call 8; refine (HOB.out w4 _ _ hDP.p hsz).mono ?_; rintro e w5 ⟨rfl, hb5⟩; have hD5 := hDP.after hb5) | (go_at_call 9; refine (HRB.out w5 _ _ hD5.r hsz).mono ?_; rintro e w6 ⟨rfl, hb6⟩; have hD6 := hD5.after hb6) | fail)
    clear hDP hD5 hb5 hb6
    go_loopw [8, 11, 12, 13, 14, 15, 16, 17, 18] (fun ev lv sv bv xv tv cv fv iv wr => ev = .int .i64 1 ∧ lv = .pointer none ∧ sv = .slice none 0 0 ∧ bv = .slice none 0 0 ∧ xv = .pointer none ∧ tv = .slice none 0 0 ∧ cv = .slice none 0 0 ∧ fv = .int .i64 1 ∧ ∃ (I : Nat) (C D : Nat → Prop) (s : DS), iv = .int .i64 (I : Int) ∧ I ≤ l.length ∧ I ≤ 60 ∧ sizeS s < 256 ∧ DP7 w wr L C M D s) (fun _ _ _ _ _ _ _ _ iv _ => 60 - (intOf iv).toNat)
    case atStart => exact ⟨rfl, rfl, rfl, rfl, rfl, rfl, rfl, rfl, 0, _, _, _, rfl, Nat.zero_le _, by omega, hsz, hD6⟩
    case round =>
      clear hD6 hsz
      obtain ⟨rfl, rfl, rfl, rfl, rfl, rfl, rfl, rfl, I, C, D, s, rfl, hI, hI1, hsz, hP⟩ := hrel
      by_cases hgo : I < l.length ∧ I < 60
      · obtain ⟨h1, h2⟩ := hgo
        have i1 : (I : Int) < (l.length : Int) := by omega
        have i2 : (I : Int) < 60 := by omega
        obtain ⟨A, hA⟩ : ∃ A, l[I]? = some A := ⟨_, List.getElem?_eq_getElem h1⟩
        obtain ⟨q, off, rfl, hcells⟩ := HLC.out I A hA
        have hbd := HMU.out I A hA (by omega)
        have hq := hcells.1
        obtain ⟨bvI, svI, hrg, hat⟩ := hcells.range7
        rw [Nat.mul_comm 5 I] at hrg
        have HRG : Hid (∀ V, Below w.heap.size w V → V.rangeAt q (off + I * 5) (actL7 A bvI svI)) := fun V hV j u hu => by rw [hV.cell (p := ⟨q, off + I * 5 + j, none⟩) hq]; exact hrg j u hu
        have HCE : Hid (∀ V, Below w.heap.size w V → V.cell? ⟨q, off + I * 5, none⟩ = some (.int .i64 A.act) ∧ V.cell? ⟨q, off + I * 5 + 1, none⟩ = some (.int .i64 A.k) ∧ V.cell? ⟨q, off + I * 5 + 2, none⟩ = some (.int .i64 A.n) ∧ V.cell? ⟨q, off + I * 5 + 4, none⟩ = some svI) := fun V hV => ⟨HRG.out V hV 0 _ rfl, HRG.out V hV 1 _ rfl, HRG.out V hV 2 _ rfl, HRG.out V hV 4 _ rfl⟩
        have HIX : Hid (∀ V, (Instr.indexAt 22 (.slice (some ⟨q, off, none⟩) l.length c) (.int .i64 (I : Int))).run Tryz.prog V = .ok (.pointer (some ⟨q, off + I * 5, none⟩)) V) := fun V => index_steps7 q off l.length c I h1 V
        have HAT : Hid (ActAt w bvI svI A) := hat
        have hsl : A.stay.length ≤ 1000000 := by omega
        clear hrg hcells hA hat HLC hq
        by_cases a4 : A.act = 4
        · have b4 : (A.act == 4) = true := by simpa using a4
          clear a4
          go_upto_region 18 with (first | (go_at_call 10; refine (HSM.out wr).mono ?_; rintro e w5 ⟨rfl, hb5⟩; have hP5 := hP.after hb5; have k1 := seg_stringD (seg_nil7 w5) 9 Tryz.underlying9; have hcs := (HCE.out w5 hP5.b).1) | fail)
          clear hcs k1 hP hb5
          have hX0 : Below w.heap.size w w5.drew := hP5.b.drew
          have hP6 := hP5.after (Below.refl _ _).drew
          refine held_begin (fun V => Below w.heap.size w V) (by kernel_rfl) ?_
          refine held_take 0 110 _ (.pointer (some ⟨L.g, 0, none⟩)) rfl rfl (by kernel_rfl) (by kernel_rfl) (by kernel_rfl) rfl hX0 (fun _ _ => rfl) ?_
          simp only [Act.put, List.setIfInBounds_toArray, List.set_cons_succ, List.set_cons_zero]
          refine held_take 1 111 _ (.slice (some ⟨q, off, none⟩) l.length c) rfl rfl (by kernel_rfl) (by kernel_rfl) (by kernel_rfl) rfl hX0 (fun _ _ => rfl) ?_
          simp only [Act.put, List.setIfInBounds_toArray, List.set_cons_succ, List.set_cons_zero]
          refine held_take 2 112 _ (.int .i64 (I : Int)) rfl rfl (by kernel_rfl) (by kernel_rfl) (by kernel_rfl) rfl hX0 (fun _ _ => rfl) ?_
          simp only [Act.put, List.setIfInBounds_toArray, List.set_cons_succ, List.set_cons_zero]
          refine held_take 3 113 _ (.pointer (some ⟨q, off + I * 5, none⟩)) rfl rfl (by kernel_rfl) (by kernel_rfl) (by kernel_rfl) rfl hX0 (fun V _ => exec_indexat 22 _ _ rfl (.slice (some ⟨q, off, none⟩) l.length c) (.int .i64 (I : Int)) _ rfl rfl (HIX.out V)) ?_
          simp only [Act.put, List.setIfInBounds_toArray, List.set_cons_succ, List.set_cons_zero]
          refine held_take 4 114 _ (.pointer (some ⟨q, off + I * 5 + 4, none⟩)) rfl rfl (by kernel_rfl) (by kernel_rfl) (by kernel_rfl) rfl hX0 (fun _ _ => rfl) ?_
          simp only [Act.put, List.setIfInBounds_toArray, List.set_cons_succ, List.set_cons_zero]
          refine held_take 5 115 _ (svI) rfl rfl (by kernel_rfl) (by kernel_rfl) (by kernel_rfl) rfl hX0 (fun V hV => exec_loadW 41 _ rfl (fun _ => by kernel_rfl) q (off + I * 5 + 4) rfl _ (HCE.out V hV).2.2.2) ?_
          simp only [Act.put, List.setIfInBounds_toArray, List.set_cons_succ, List.set_cons_zero]
          refine held_take 6 116 _ (.slice (some ⟨q, off, none⟩) l.length c) rfl rfl (by kernel_rfl) (by kernel_rfl) (by kernel_rfl) rfl hX0 (fun _ _ => rfl) ?_
          simp only [Act.put, List.setIfInBounds_toArray, List.set_cons_succ, List.set_cons_zero]
          refine held_take 7 117 _ (.int .i64 (I : Int)) rfl rfl (by kernel_rfl) (by kernel_rfl) (by kernel_rfl) rfl hX0 (fun _ _ => rfl) ?_
          simp only [Act.put, List.setIfInBounds_toArray, List.set_cons_succ, List.set_cons_zero]
          refine held_take 8 118 _ (.pointer (some ⟨q, off + I * 5, none⟩)) rfl rfl (by kernel_rfl) (by kernel_rfl) (by kernel_rfl) rfl hX0 (fun V _ => exec_indexat 22 _ _ rfl (.slice (some ⟨q, off, none⟩) l.length c) (.int .i64 (I : Int)) _ rfl rfl (HIX.out V)) ?_
          simp only [Act.put, List.setIfInBounds_toArray, List.set_cons_succ, List.set_cons_zero]
          refine held_take 9 119 _ (.pointer (some ⟨q, off + I * 5 + 1, none⟩)) rfl rfl (by kernel_rfl) (by kernel_rfl) (by kernel_rfl) rfl hX0 (fun _ _ => rfl) ?_
          simp only [Act.put, List.setIfInBounds_toArray, List.set_cons_succ, List.set_cons_zero]
          refine held_take 10 120 _ (.int .i64 A.k) rfl rfl (by kernel_rfl) (by kernel_rfl) (by kernel_rfl) rfl hX0 (fun V hV => exec_loadW 3 _ rfl (fun _ => by kernel_rfl) q (off + I * 5 + 1) rfl _ (HCE.out V hV).2.1) ?_
          simp only [Act.put, List.setIfInBounds_toArray, List.set_cons_succ, List.set_cons_zero]
          refine held_take 11 121 _ (.slice (some ⟨q, off, none⟩) l.length c) rfl rfl (by kernel_rfl) (by kernel_rfl) (by kernel_rfl) rfl hX0 (fun _ _ => rfl) ?_
          simp only [Act.put, List.setIfInBounds_toArray, List.set_cons_succ, List.set_cons_zero]
          refine held_take 12 122 _ (.int .i64 (I : Int)) rfl rfl (by kernel_rfl) (by kernel_rfl) (by kernel_rfl) rfl hX0 (fun _ _ => rfl) ?_
          simp only [Act.put, List.setIfInBounds_toArray, List.set_cons_succ, List.set_cons_zero]
          refine held_take 13 123 _ (.pointer (some ⟨q, off + I * 5, none⟩)) rfl rfl (by kernel_rfl) (by kernel_rfl) (by kernel_rfl) rfl hX0 (fun V _ => exec_indexat 22 _ _ rfl (.slice (some ⟨q, off, none⟩) l.length c) (.int .i64 (I : Int)) _ rfl rfl (HIX.out V)) ?_
          simp only [Act.put, List.setIfInBounds_toArray, List.set_cons_succ, List.set_cons_zero]
          refine held_take 14 124 _ (.pointer (some ⟨q, off + I * 5 + 2, none⟩)) rfl rfl (by kernel_rfl) (by kernel_rfl) (by kernel_rfl) rfl hX0 (fun _ _ => rfl) ?_
          simp only [Act.put, List.setIfInBounds_toArray, List.set_cons_succ, List.set_cons_zero]
          refine held_take 15 125 _ (.int .i64 A.n) rfl rfl (by kernel_rfl) (by kernel_rfl) (by kernel_rfl) rfl hX0 (fun V hV => exec_loadW 3 _ rfl (fun _ => by kernel_rfl) q (off + I * 5 + 2) rfl _ (HCE.out V hV).2.2.1) ?_
          simp only [Act.put, List.setIfInBounds_toArray, List.set_cons_succ, List.set_cons_zero]
          refine held_all1 16 (by kernel_rfl) (op_call 16 126 _ 11 #[.pointer (some ⟨L.g, 0, none⟩), svI, .int .i64 A.k, .int .i64 A.n] rfl rfl rfl (exec_four8 11 _ _ _ _ _ rfl _ _ _ _ rfl rfl rfl rfl Tryz.call11) ((d7_crash hP6 svI A.stay A.k A.n (HAT.out.s.apart hX0 hP6.lc)).mono ?_))
          rintro e w6 ⟨rfl, ho6, hc6⟩
          have hX6 : Below w.heap.size w w6 := hX0.trans (hc6.below hP6.lc hX0.size)
          refine ⟨_, rfl, hX6, ?_⟩
          simp only [Act.put, List.setIfInBounds_toArray, List.set_cons_succ, List.set_cons_zero]
          refine wpAnyH_done (by kernel_rfl) ?_ _
          refine NoPanic.normal ?_
          go_upto_region 19 with fail
          have hO6 := (hP6.mid hc6).after (Below.refl _ _).drew
          have hX7 : Below w.heap.size w w6.drew := hX6.drew
          have ho7 := ho6.after (Below.refl _ _).drew
          refine held_begin (fun V => Below w.heap.size w V) (by kernel_rfl) ?_
          refine held_take 0 127 _ (.pointer (some ⟨M.g, 0, none⟩)) rfl rfl (by kernel_rfl) (by kernel_rfl) (by kernel_rfl) rfl hX7 (fun _ _ => rfl) ?_
          simp only [Act.put, List.setIfInBounds_toArray, List.set_cons_succ, List.set_cons_zero]
          refine held_take 1 128 _ (.slice (some ⟨q, off, none⟩) l.length c) rfl rfl (by kernel_rfl) (by kernel_rfl) (by kernel_rfl) rfl hX7 (fun _ _ => rfl) ?_
          simp only [Act.put, List.setIfInBounds_toArray, List.set_cons_succ, List.set_cons_zero]
          refine held_take 2 129 _ (.int .i64 (I : Int)) rfl rfl (by kernel_rfl) (by kernel_rfl) (by kernel_rfl) rfl hX7 (fun _ _ => rfl) ?_
          simp only [Act.put, List.setIfInBounds_toArray, List.set_cons_succ, List.set_cons_zero]
          refine held_take 3 130 _ (.pointer (some ⟨q, off + I * 5, none⟩)) rfl rfl (by kernel_rfl) (by kernel_rfl) (by kernel_rfl) rfl hX7 (fun V _ => exec_indexat 22 _ _ rfl (.slice (some ⟨q, off, none⟩) l.length c) (.int .i64 (I : Int)) _ rfl rfl (HIX.out V)) ?_
          simp only [Act.put, List.setIfInBounds_toArray, List.set_cons_succ, List.set_cons_zero]
          refine held_take 4 131 _ (.pointer (some ⟨q, off + I * 5 + 4, none⟩)) rfl rfl (by kernel_rfl) (by kernel_rfl) (by kernel_rfl) rfl hX7 (fun _ _ => rfl) ?_
          simp only [Act.put, List.setIfInBounds_toArray, List.set_cons_succ, List.set_cons_zero]
          refine held_take 5 132 _ (svI) rfl rfl (by kernel_rfl) (by kernel_rfl) (by kernel_rfl) rfl hX7 (fun V hV => exec_loadW 41 _ rfl (fun _ => by kernel_rfl) q (off + I * 5 + 4) rfl _ (HCE.out V hV).2.2.2) ?_
          simp only [Act.put, List.setIfInBounds_toArray, List.set_cons_succ, List.set_cons_zero]
          refine held_take 6 133 _ (.slice (some ⟨q, off, none⟩) l.length c) rfl rfl (by kernel_rfl) (by kernel_rfl) (by kernel_rfl) rfl hX7 (fun _ _ => rfl) ?_
          simp only [Act.put, List.setIfInBounds_toArray, List.set_cons_succ, List.set_cons_zero]
          refine held_take 7 134 _ (.int .i64 (I : Int)) rfl rfl (by kernel_rfl) (by kernel_rfl) (by kernel_rfl) rfl hX7 (fun _ _ => rfl) ?_
          simp only [Act.put, List.setIfInBounds_toArray, List.set_cons_succ, List.set_cons_zero]
          refine held_take 8 135 _ (.pointer (some ⟨q, off + I * 5, none⟩)) rfl rfl (by kernel_rfl) (by kernel_rfl) (by kernel_rfl) rfl hX7 (fun V _ => exec_indexat 22 _ _ rfl (.slice (some ⟨q, off, none⟩) l.length c) (.int .i64 (I : Int)) _ rfl rfl (HIX.out V)) ?_
          simp only [Act.put, List.setIfInBounds_toArray, List.set_cons_succ, List.set_cons_zero]
          refine held_take 9 136 _ (.pointer (some ⟨q, off + I * 5 + 1, none⟩)) rfl rfl (by kernel_rfl) (by kernel_rfl) (by kernel_rfl) rfl hX7 (fun _ _ => rfl) ?_
          simp only [Act.put, List.setIfInBounds_toArray, List.set_cons_succ, List.set_cons_zero]
          refine held_take 10 137 _ (.int .i64 A.k) rfl rfl (by kernel_rfl) (by kernel_rfl) (by kernel_rfl) rfl hX7 (fun V hV => exec_loadW 3 _ rfl (fun _ => by kernel_rfl) q (off + I * 5 + 1) rfl _ (HCE.out V hV).2.1) ?_
          simp only [Act.put, List.setIfInBounds_toArray, List.set_cons_succ, List.set_cons_zero]
          refine held_take 11 138 _ (.slice (some ⟨q, off, none⟩) l.length c) rfl rfl (by kernel_rfl) (by kernel_rfl) (by kernel_rfl) rfl hX7 (fun _ _ => rfl) ?_
          simp only [Act.put, List.setIfInBounds_toArray, List.set_cons_succ, List.set_cons_zero]
          refine held_take 12 139 _ (.int .i64 (I : Int)) rfl rfl (by kernel_rfl) (by kernel_rfl) (by kernel_rfl) rfl hX7 (fun _ _ => rfl) ?_
          simp only [Act.put, List.setIfInBounds_toArray, List.set_cons_succ, List.set_cons_zero]
          refine held_take 13 140 _ (.pointer (some ⟨q, off + I * 5, none⟩)) rfl rfl (by kernel_rfl) (by kernel_rfl) (by kernel_rfl) rfl hX7 (fun V _ => exec_indexat 22 _ _ rfl (.slice (some ⟨q, off, none⟩) l.length c) (.int .i64 (I : Int)) _ rfl rfl (HIX.out V)) ?_
          simp only [Act.put, List.setIfInBounds_toArray, List.set_cons_succ, List.set_cons_zero]
          refine held_take 14 141 _ (.pointer (some ⟨q, off + I * 5 + 2, none⟩)) rfl rfl (by kernel_rfl) (by kernel_rfl) (by kernel_rfl) rfl hX7 (fun _ _ => rfl) ?_
          simp only [Act.put, List.setIfInBounds_toArray, List.set_cons_succ, List.set_cons_zero]
          refine held_take 15 142 _ (.int .i64 A.n) rfl rfl (by kernel_rfl) (by kernel_rfl) (by kernel_rfl) rfl hX7 (fun V hV => exec_loadW 3 _ rfl (fun _ => by kernel_rfl) q (off + I * 5 + 2) rfl _ (HCE.out V hV).2.2.1) ?_
          simp only [Act.put, List.setIfInBounds_toArray, List.set_cons_succ, List.set_cons_zero]
          refine held_all1 16 (by kernel_rfl) (op_call 16 143 _ 12 #[.pointer (some ⟨M.g, 0, none⟩), svI, .int .i64 A.k, .int .i64 A.n] rfl rfl rfl (exec_four8 12 _ _ _ _ _ rfl _ _ _ _ rfl rfl rfl rfl Tryz.call12) ((r7_crash hO6 svI A.stay A.k A.n (HAT.out.s.apart hX7 hP6.ld) hsl).mono ?_))
          rintro e w8 ⟨rfl, ho8, hc8⟩
          have hX8 : Below w.heap.size w w8 := hX7.trans (hc8.below hP6.ld hX7.size)
          refine ⟨_, rfl, hX8, ?_⟩
          simp only [Act.put, List.setIfInBounds_toArray, List.set_cons_succ, List.set_cons_zero]
          refine wpAnyH_done (by kernel_rfl) ?_ _
          refine NoPanic.normal ?_
          have hD8 := dp7_crashed hP6 ho6 hc6 ho8 hc8
          have hs8 : sizeS (crashS s A.stay A.k A.n) < 256 := by rw [size_now (crash_now s A.stay A.k A.n).1]; exact hsz
          clear hP5 hP6 ho6 hc6 hO6 ho7 ho8 hc8 hX0 hX6 hX7 hX8
          go_wp2_with (first | (go_at_call 8; refine (HOB.out w8 _ _ hD8.p hs8).mono ?_; rintro e w9 ⟨rfl, hb9⟩; have hD9 := hD8.after hb9) | (go_at_call 9; refine (HRB.out w9 _ _ hD9.r hs8).mono ?_; rintro e w10 ⟨rfl, hb10⟩; have hD10 := hD9.after hb10) | fail)
          go_roundw
          case rel => exact ⟨rfl, rfl, rfl, rfl, rfl, rfl, rfl, rfl, I + 1, _, _, _, by go_num, h1, h2, hs8, hD10⟩
          case measure => simp [intOf]; omega
        · have b4 : (A.act == 4) = false := by simpa using a4
          clear a4
          go_wp2_with (first | (go_at_call 10; refine (HSM.out wr).mono ?_; rintro e w5 ⟨rfl, hb5⟩; have hP5 := hP.after hb5; have k1 := seg_stringD (seg_nil7 w5) 9 Tryz.underlying9; have hcs := (HCE.out w5 hP5.b).1) | fail)
          go_roundw
          case rel => exact ⟨rfl, rfl, rfl, rfl, rfl, rfl, rfl, rfl, I + 1, _, _, _, by go_num, h1, h2, hsz, hP5⟩
          case measure => simp [intOf]; omega
      · have SM := HSM.out wr
        clear HOB HRB HLC HMU SM
        by_cases h1 : I < l.length
        · have i1 : (I : Int) < (l.length : Int) := by omega
          have i2 : ¬ (I : Int) < 60 := by omega
          go_wp2_with (first | (go_at_call 10; refine (HSM.out wr).mono ?_; rintro e w5 ⟨rfl, hb5⟩; have hP5 := hP.after hb5; have k1 := seg_stringD (seg_nil7 w5) 9 Tryz.underlying9) | fail)
          go_ret
          exact ⟨rfl, hP5.b⟩
        · have i1 : ¬ (I : Int) < (l.length : Int) := by omega
          go_wp2_with (first | (go_at_call 10; refine (HSM.out wr).mono ?_; rintro e w5 ⟨rfl, hb5⟩; have hP5 := hP.after hb5; have k1 := seg_stringD (seg_nil7 w5) 9 Tryz.underlying9) | fail)
          go_ret
          exact ⟨rfl, hP5.b⟩
  · have HOG : Hid (∀ W C s, OD W L C s → openE s = 0 → Calls Tryz.prog 8 #[.pointer (some ⟨L.g, 0, none⟩)] W fun e w' => ∃ G sv rv vs, e = .returned (.tuple #[.pointer (some ⟨G, 0, none⟩), sv, rv, .int .i64 0]) ∧ PB w' G L (fun q => C q ∨ q = G) s (openL s) ∧ W.heap.size ≤ G ∧ Own w' W.heap.size sv (foundS s).1 ∧ Gat w' W.heap.size rv vs (foundS s).2 ∧ Below W.heap.size W w') := fun W C s h he => open_any L C s W h he
    have HRG7 : Hid (∀ W D s, OR W M D s → openE s = 0 → Calls Tryz.prog 9 #[.pointer (some ⟨M.g, 0, none⟩)] W fun e w' => ∃ G sv rv vs, e = .returned (.tuple #[.pointer (some ⟨G, 0, none⟩), sv, rv, .int .i64 0]) ∧ RB w' G M (fun q => D q ∨ q = G) s (openL s) ∧ W.heap.size ≤ G ∧ Own w' W.heap.size sv (foundS s).1 ∧ Gat w' W.heap.size rv vs (foundS s).2 ∧ Below W.heap.size W w') := fun W D s h he => rb_open h he
    have he0 : openE (newS n) = 0 := by unfold openE; rw [if_neg hsz]; rfl
    go_wp2_with (first | (go_at_call 8; refine (HOG.out w4 _ _ hDP.p he0).mono ?_; rintro e w5 ⟨G1, sv1, rv1, vs1, rfl, hp1, hg1, ho1, ht1, hb1⟩) | (go_at_call 9; refine (HRG7.out w5 _ _ (hDP.after hb1).r he0).mono ?_; rintro e w6 ⟨H1, sv2, rv2, vs2, rfl, hp2, hg2, ho2, ht2, hb2⟩) | fail)
    have HWP : Hid (WP7 w w6 G1 L _ H1 M _ (newS n) _) := hDP.opened hp1 hg1 hb1 hp2 hg2 hb2
    have HTD : Hid (Told7 w6 _ sv1 sv2 rv1 rv2 _ _) := told7_of hDP hp1 hb1 hp2 hb2 (by have := foundS_recs hDP.r.d; unfold maxLen; omega) ho1 ht1 ho2 ht2
    clear hDP hp1 hg1 hb1 hp2 hg2 hb2 ho1 ht1 ho2 ht2 he0
    go_loopw [8, 11, 12, 13, 14, 15, 16, 17, 18] (fun ev lv sv bv xv tv cv fv iv wr => ev = .int .i64 0 ∧ fv = .int .i64 0 ∧ ∃ (I G H : Nat) (C D : Nat → Prop) (s : DS) (k : LS) (st : List UInt8) (rs : List (List UInt8)), lv = .pointer (some ⟨G, 0, none⟩) ∧ xv = .pointer (some ⟨H, 0, none⟩) ∧ iv = .int .i64 (I : Int) ∧ I ≤ l.length ∧ I ≤ 60 ∧ ¬ sizeS s < 256 ∧ WP7 w wr G L C H M D s k ∧ Told7 wr (fun q => C q ∨ D q) sv tv bv cv st rs) (fun _ _ _ _ _ _ _ _ iv _ => 60 - (intOf iv).toNat)
    case atStart => exact ⟨rfl, rfl, 0, G1, H1, _, _, _, _, _, _, rfl, rfl, rfl, Nat.zero_le _, by omega, hsz, HWP.out, HTD.out⟩
    case round =>
      clear HWP HTD hsz
      obtain ⟨rfl, rfl, I, G, H, C, D, s, k, st, rs, rfl, rfl, rfl, hI, hI1, hsz, hP, hT⟩ := hrel
      have hBV := hT.b
      have hCV := hT.c
      obtain ⟨as_, cs_, rfl⟩ := Seg.shapeD hT.s.1
      obtain ⟨at_, ct_, rfl⟩ := Seg.shapeD hT.t.1
      obtain ⟨ab_, cb_, rfl, -⟩ := hBV
      obtain ⟨ac_, cc_, rfl, -⟩ := hCV
      have HSM : Hid (Calls Tryz.prog 10 #[.slice ab_ rs.length cb_, .slice ac_ rs.length cc_] wr fun e w' => e = .returned (.bool true) ∧ Below wr.heap.size wr w') := (same7_any _ _ rs rs wr hT.b.rowsV hT.c.rowsV).mono (by rintro e w' ⟨rfl, h2⟩; exact ⟨by simp, h2⟩)
      by_cases hgo : I < l.length ∧ I < 60
      · obtain ⟨h1, h2⟩ := hgo
        have i1 : (I : Int) < (l.length : Int) := by omega
        have i2 : (I : Int) < 60 := by omega
        obtain ⟨A, hA⟩ : ∃ A, l[I]? = some A := ⟨_, List.getElem?_eq_getElem h1⟩
        obtain ⟨q, off, rfl, hcells⟩ := HLC.out I A hA
        have hbd := HMU.out I A hA (by omega)
        have hq := hcells.1
        obtain ⟨bvI, svI, hrg, hat⟩ := hcells.range7
        rw [Nat.mul_comm 5 I] at hrg
        have HRG : Hid (∀ V, Below w.heap.size w V → V.rangeAt q (off + I * 5) (actL7 A bvI svI)) := fun V hV j u hu => by rw [hV.cell (p := ⟨q, off + I * 5 + j, none⟩) hq]; exact hrg j u hu
        have HCE : Hid (∀ V, Below w.heap.size w V → V.cell? ⟨q, off + I * 5, none⟩ = some (.int .i64 A.act) ∧ V.cell? ⟨q, off + I * 5 + 1, none⟩ = some (.int .i64 A.k) ∧ V.cell? ⟨q, off + I * 5 + 2, none⟩ = some (.int .i64 A.n) ∧ V.cell? ⟨q, off + I * 5 + 4, none⟩ = some svI) := fun V hV => ⟨HRG.out V hV 0 _ rfl, HRG.out V hV 1 _ rfl, HRG.out V hV 2 _ rfl, HRG.out V hV 4 _ rfl⟩
        have HIX : Hid (∀ V, (Instr.indexAt 22 (.slice (some ⟨q, off, none⟩) l.length c) (.int .i64 (I : Int))).run Tryz.prog V = .ok (.pointer (some ⟨q, off + I * 5, none⟩)) V) := fun V => index_steps7 q off l.length c I h1 V
        have HAT : Hid (ActAt w bvI svI A) := hat
        have hsl : A.stay.length ≤ 1000000 := by omega
        clear hrg hcells hA hat HLC hq
        by_cases a4 : A.act = 4
        · have b4 : (A.act == 4) = true := by simpa using a4
          clear a4
          go_upto_region 18 with (first | (go_at_call 10; refine HSM.out.mono ?_; rintro e w5 ⟨rfl, hb5⟩; have hP5 := hP.after hb5; have hT5 := hT.after hb5; have k1 := seg_stringD hT5.s.1 9 Tryz.underlying9; have k2 := seg_stringD hT5.t.1 9 Tryz.underlying9; generalize (⟨st.toArray⟩ : ByteArray) = X at k1 k2; have hcs := (HCE.out w5 hP5.b).1) | fail)
          clear hcs k1 k2 hP hb5 HSM hT hT5
          obtain ⟨CD, hQ5, -⟩ := hP5.disks
          have hX0 : Below w.heap.size w w5.drew := hP5.b.drew
          have hP6 := hQ5.after (Below.refl _ _).drew
          refine held_begin (fun V => Below w.heap.size w V) (by kernel_rfl) ?_
          refine held_take 0 110 _ (.pointer (some ⟨L.g, 0, none⟩)) rfl rfl (by kernel_rfl) (by kernel_rfl) (by kernel_rfl) rfl hX0 (fun _ _ => rfl) ?_
          simp only [Act.put, List.setIfInBounds_toArray, List.set_cons_succ, List.set_cons_zero]
          refine held_take 1 111 _ (.slice (some ⟨q, off, none⟩) l.length c) rfl rfl (by kernel_rfl) (by kernel_rfl) (by kernel_rfl) rfl hX0 (fun _ _ => rfl) ?_
          simp only [Act.put, List.setIfInBounds_toArray, List.set_cons_succ, List.set_cons_zero]
          refine held_take 2 112 _ (.int .i64 (I : Int)) rfl rfl (by kernel_rfl) (by kernel_rfl) (by kernel_rfl) rfl hX0 (fun _ _ => rfl) ?_
          simp only [Act.put, List.setIfInBounds_toArray, List.set_cons_succ, List.set_cons_zero]
          refine held_take 3 113 _ (.pointer (some ⟨q, off + I * 5, none⟩)) rfl rfl (by kernel_rfl) (by kernel_rfl) (by kernel_rfl) rfl hX0 (fun V _ => exec_indexat 22 _ _ rfl (.slice (some ⟨q, off, none⟩) l.length c) (.int .i64 (I : Int)) _ rfl rfl (HIX.out V)) ?_
          simp only [Act.put, List.setIfInBounds_toArray, List.set_cons_succ, List.set_cons_zero]
          refine held_take 4 114 _ (.pointer (some ⟨q, off + I * 5 + 4, none⟩)) rfl rfl (by kernel_rfl) (by kernel_rfl) (by kernel_rfl) rfl hX0 (fun _ _ => rfl) ?_
          simp only [Act.put, List.setIfInBounds_toArray, List.set_cons_succ, List.set_cons_zero]
          refine held_take 5 115 _ (svI) rfl rfl (by kernel_rfl) (by kernel_rfl) (by kernel_rfl) rfl hX0 (fun V hV => exec_loadW 41 _ rfl (fun _ => by kernel_rfl) q (off + I * 5 + 4) rfl _ (HCE.out V hV).2.2.2) ?_
          simp only [Act.put, List.setIfInBounds_toArray, List.set_cons_succ, List.set_cons_zero]
          refine held_take 6 116 _ (.slice (some ⟨q, off, none⟩) l.length c) rfl rfl (by kernel_rfl) (by kernel_rfl) (by kernel_rfl) rfl hX0 (fun _ _ => rfl) ?_
          simp only [Act.put, List.setIfInBounds_toArray, List.set_cons_succ, List.set_cons_zero]
          refine held_take 7 117 _ (.int .i64 (I : Int)) rfl rfl (by kernel_rfl) (by kernel_rfl) (by kernel_rfl) rfl hX0 (fun _ _ => rfl) ?_
          simp only [Act.put, List.setIfInBounds_toArray, List.set_cons_succ, List.set_cons_zero]
          refine held_take 8 118 _ (.pointer (some ⟨q, off + I * 5, none⟩)) rfl rfl (by kernel_rfl) (by kernel_rfl) (by kernel_rfl) rfl hX0 (fun V _ => exec_indexat 22 _ _ rfl (.slice (some ⟨q, off, none⟩) l.length c) (.int .i64 (I : Int)) _ rfl rfl (HIX.out V)) ?_
          simp only [Act.put, List.setIfInBounds_toArray, List.set_cons_succ, List.set_cons_zero]
          refine held_take 9 119 _ (.pointer (some ⟨q, off + I * 5 + 1, none⟩)) rfl rfl (by kernel_rfl) (by kernel_rfl) (by kernel_rfl) rfl hX0 (fun _ _ => rfl) ?_
          simp only [Act.put, List.setIfInBounds_toArray, List.set_cons_succ, List.set_cons_zero]
          refine held_take 10 120 _ (.int .i64 A.k) rfl rfl (by kernel_rfl) (by kernel_rfl) (by kernel_rfl) rfl hX0 (fun V hV => exec_loadW 3 _ rfl (fun _ => by kernel_rfl) q (off + I * 5 + 1) rfl _ (HCE.out V hV).2.1) ?_
          simp only [Act.put, List.setIfInBounds_toArray, List.set_cons_succ, List.set_cons_zero]
          refine held_take 11 121 _ (.slice (some ⟨q, off, none⟩) l.length c) rfl rfl (by kernel_rfl) (by kernel_rfl) (by kernel_rfl) rfl hX0 (fun _ _ => rfl) ?_
          simp only [Act.put, List.setIfInBounds_toArray, List.set_cons_succ, List.set_cons_zero]
          refine held_take 12 122 _ (.int .i64 (I : Int)) rfl rfl (by kernel_rfl) (by kernel_rfl) (by kernel_rfl) rfl hX0 (fun _ _ => rfl) ?_
          simp only [Act.put, List.setIfInBounds_toArray, List.set_cons_succ, List.set_cons_zero]
          refine held_take 13 123 _ (.pointer (some ⟨q, off + I * 5, none⟩)) rfl rfl (by kernel_rfl) (by kernel_rfl) (by kernel_rfl) rfl hX0 (fun V _ => exec_indexat 22 _ _ rfl (.slice (some ⟨q, off, none⟩) l.length c) (.int .i64 (I : Int)) _ rfl rfl (HIX.out V)) ?_
          simp only [Act.put, List.setIfInBounds_toArray, List.set_cons_succ, List.set_cons_zero]
          refine held_take 14 124 _ (.pointer (some ⟨q, off + I * 5 + 2, none⟩)) rfl rfl (by kernel_rfl) (by kernel_rfl) (by kernel_rfl) rfl hX0 (fun _ _ => rfl) ?_
          simp only [Act.put, List.setIfInBounds_toArray, List.set_cons_succ, List.set_cons_zero]
          refine held_take 15 125 _ (.int .i64 A.n) rfl rfl (by kernel_rfl) (by kernel_rfl) (by kernel_rfl) rfl hX0 (fun V hV => exec_loadW 3 _ rfl (fun _ => by kernel_rfl) q (off + I * 5 + 2) rfl _ (HCE.out V hV).2.2.1) ?_
          simp only [Act.put, List.setIfInBounds_toArray, List.set_cons_succ, List.set_cons_zero]
          refine held_all1 16 (by kernel_rfl) (op_call 16 126 _ 11 #[.pointer (some ⟨L.g, 0, none⟩), svI, .int .i64 A.k, .int .i64 A.n] rfl rfl rfl (exec_four8 11 _ _ _ _ _ rfl _ _ _ _ rfl rfl rfl rfl Tryz.call11) ((d7_crash hP6 svI A.stay A.k A.n (HAT.out.s.apart hX0 hP6.lc)).mono ?_))
          rintro e w6 ⟨rfl, ho6, hc6⟩
          have hX6 : Below w.heap.size w w6 := hX0.trans (hc6.below hP6.lc hX0.size)
          refine ⟨_, rfl, hX6, ?_⟩
          simp only [Act.put, List.setIfInBounds_toArray, List.set_cons_succ, List.set_cons_zero]
          refine wpAnyH_done (by kernel_rfl) ?_ _
          refine NoPanic.normal ?_
          go_upto_region 19 with fail
          have hO6 := (hP6.mid hc6).after (Below.refl _ _).drew
          have hX7 : Below w.heap.size w w6.drew := hX6.drew
          refine held_begin (fun V => Below w.heap.size w V) (by kernel_rfl) ?_
          refine held_take 0 127 _ (.pointer (some ⟨M.g, 0, none⟩)) rfl rfl (by kernel_rfl) (by kernel_rfl) (by kernel_rfl) rfl hX7 (fun _ _ => rfl) ?_
          simp only [Act.put, List.setIfInBounds_toArray, List.set_cons_succ, List.set_cons_zero]
          refine held_take 1 128 _ (.slice (some ⟨q, off, none⟩) l.length c) rfl rfl (by kernel_rfl) (by kernel_rfl) (by kernel_rfl) rfl hX7 (fun _ _ => rfl) ?_
          simp only [Act.put, List.setIfInBounds_toArray, List.set_cons_succ, List.set_cons_zero]
          refine held_take 2 129 _ (.int .i64 (I : Int)) rfl rfl (by kernel_rfl) (by kernel_rfl) (by kernel_rfl) rfl hX7 (fun _ _ => rfl) ?_
          simp only [Act.put, List.setIfInBounds_toArray, List.set_cons_succ, List.set_cons_zero]
          refine held_take 3 130 _ (.pointer (some ⟨q, off + I * 5, none⟩)) rfl rfl (by kernel_rfl) (by kernel_rfl) (by kernel_rfl) rfl hX7 (fun V _ => exec_indexat 22 _ _ rfl (.slice (some ⟨q, off, none⟩) l.length c) (.int .i64 (I : Int)) _ rfl rfl (HIX.out V)) ?_
          simp only [Act.put, List.setIfInBounds_toArray, List.set_cons_succ, List.set_cons_zero]
          refine held_take 4 131 _ (.pointer (some ⟨q, off + I * 5 + 4, none⟩)) rfl rfl (by kernel_rfl) (by kernel_rfl) (by kernel_rfl) rfl hX7 (fun _ _ => rfl) ?_
          simp only [Act.put, List.setIfInBounds_toArray, List.set_cons_succ, List.set_cons_zero]
          refine held_take 5 132 _ (svI) rfl rfl (by kernel_rfl) (by kernel_rfl) (by kernel_rfl) rfl hX7 (fun V hV => exec_loadW 41 _ rfl (fun _ => by kernel_rfl) q (off + I * 5 + 4) rfl _ (HCE.out V hV).2.2.2) ?_
          simp only [Act.put, List.setIfInBounds_toArray, List.set_cons_succ, List.set_cons_zero]
          refine held_take 6 133 _ (.slice (some ⟨q, off, none⟩) l.length c) rfl rfl (by kernel_rfl) (by kernel_rfl) (by kernel_rfl) rfl hX7 (fun _ _ => rfl) ?_
          simp only [Act.put, List.setIfInBounds_toArray, List.set_cons_succ, List.set_cons_zero]
          refine held_take 7 134 _ (.int .i64 (I : Int)) rfl rfl (by kernel_rfl) (by kernel_rfl) (by kernel_rfl) rfl hX7 (fun _ _ => rfl) ?_
          simp only [Act.put, List.setIfInBounds_toArray, List.set_cons_succ, List.set_cons_zero]
          refine held_take 8 135 _ (.pointer (some ⟨q, off + I * 5, none⟩)) rfl rfl (by kernel_rfl) (by kernel_rfl) (by kernel_rfl) rfl hX7 (fun V _ => exec_indexat 22 _ _ rfl (.slice (some ⟨q, off, none⟩) l.length c) (.int .i64 (I : Int)) _ rfl rfl (HIX.out V)) ?_
          simp only [Act.put, List.setIfInBounds_toArray, List.set_cons_succ, List.set_cons_zero]
          refine held_take 9 136 _ (.pointer (some ⟨q, off + I * 5 + 1, none⟩)) rfl rfl (by kernel_rfl) (by kernel_rfl) (by kernel_rfl) rfl hX7 (fun _ _ => rfl) ?_
          simp only [Act.put, List.setIfInBounds_toArray, List.set_cons_succ, List.set_cons_zero]
          refine held_take 10 137 _ (.int .i64 A.k) rfl rfl (by kernel_rfl) (by kernel_rfl) (by kernel_rfl) rfl hX7 (fun V hV => exec_loadW 3 _ rfl (fun _ => by kernel_rfl) q (off + I * 5 + 1) rfl _ (HCE.out V hV).2.1) ?_
          simp only [Act.put, List.setIfInBounds_toArray, List.set_cons_succ, List.set_cons_zero]
          refine held_take 11 138 _ (.slice (some ⟨q, off, none⟩) l.length c) rfl rfl (by kernel_rfl) (by kernel_rfl) (by kernel_rfl) rfl hX7 (fun _ _ => rfl) ?_
          simp only [Act.put, List.setIfInBounds_toArray, List.set_cons_succ, List.set_cons_zero]
          refine held_take 12 139 _ (.int .i64 (I : Int)) rfl rfl (by kernel_rfl) (by kernel_rfl) (by kernel_rfl) rfl hX7 (fun _ _ => rfl) ?_
          simp only [Act.put, List.setIfInBounds_toArray, List.set_cons_succ, List.set_cons_zero]
          refine held_take 13 140 _ (.pointer (some ⟨q, off + I * 5, none⟩)) rfl rfl (by kernel_rfl) (by kernel_rfl) (by kernel_rfl) rfl hX7 (fun V _ => exec_indexat 22 _ _ rfl (.slice (some ⟨q, off, none⟩) l.length c) (.int .i64 (I : Int)) _ rfl rfl (HIX.out V)) ?_
          simp only [Act.put, List.setIfInBounds_toArray, List.set_cons_succ, List.set_cons_zero]
          refine held_take 14 141 _ (.pointer (some ⟨q, off + I * 5 + 2, none⟩)) rfl rfl (by kernel_rfl) (by kernel_rfl) (by kernel_rfl) rfl hX7 (fun _ _ => rfl) ?_
          simp only [Act.put, List.setIfInBounds_toArray, List.set_cons_succ, List.set_cons_zero]
          refine held_take 15 142 _ (.int .i64 A.n) rfl rfl (by kernel_rfl) (by kernel_rfl) (by kernel_rfl) rfl hX7 (fun V hV => exec_loadW 3 _ rfl (fun _ => by kernel_rfl) q (off + I * 5 + 2) rfl _ (HCE.out V hV).2.2.1) ?_
          simp only [Act.put, List.setIfInBounds_toArray, List.set_cons_succ, List.set_cons_zero]
          refine held_all1 16 (by kernel_rfl) (op_call 16 143 _ 12 #[.pointer (some ⟨M.g, 0, none⟩), svI, .int .i64 A.k, .int .i64 A.n] rfl rfl rfl (exec_four8 12 _ _ _ _ _ rfl _ _ _ _ rfl rfl rfl rfl Tryz.call12) ((r7_crash hO6 svI A.stay A.k A.n (HAT.out.s.apart hX7 hP6.ld) hsl).mono ?_))
          rintro e w8 ⟨rfl, ho8, hc8⟩
          have hX8 : Below w.heap.size w w8 := hX7.trans (hc8.below hP6.ld hX7.size)
          refine ⟨_, rfl, hX8, ?_⟩
          simp only [Act.put, List.setIfInBounds_toArray, List.set_cons_succ, List.set_cons_zero]
          refine wpAnyH_done (by kernel_rfl) ?_ _
          refine NoPanic.normal ?_
          have hD8 := dp7_crashed hP6 ho6 hc6 ho8 hc8
          have hs8 : ¬ sizeS (crashS s A.stay A.k A.n) < 256 := by rw [size_now (crash_now s A.stay A.k A.n).1]; exact hsz
          have he8 : openE (crashS s A.stay A.k A.n) = 0 := by rw [openE_crash, if_neg hsz]
          generalize crashS s A.stay A.k A.n = s8 at *
          clear hP5 hQ5 hP6 ho6 hc6 hO6 ho8 hc8 hX0 hX6 hX7 hX8
          go_wp2_with (first | (go_at_call 8; refine (HOG.out w8 _ _ hD8.p he8).mono ?_; rintro e w9 ⟨G1, sv1, rv1, vs1, rfl, hp1, hg1, ho1, ht1, hb1⟩) | (go_at_call 9; refine (HRG7.out w9 _ _ (hD8.after hb1).r he8).mono ?_; rintro e w10 ⟨H1, sv2, rv2, vs2, rfl, hp2, hg2, ho2, ht2, hb2⟩) | fail)
          have hTD := told7_of hD8 hp1 hb1 hp2 hb2 (by have := foundS_recs hD8.r.d; unfold maxLen; omega) ho1 ht1 ho2 ht2
          have hWP := hD8.opened hp1 hg1 hb1 hp2 hg2 hb2
          clear hD8 hp1 hg1 hb1 hp2 hg2 hb2 ho1 ht1 ho2 ht2 he8
          go_roundw
          case rel => exact ⟨rfl, rfl, I + 1, G1, H1, _, _, _, _, _, _, rfl, rfl, by go_num, h1, h2, hs8, hWP, hTD⟩
          case measure => simp [intOf]; omega
        · have b4 : (A.act == 4) = false := by simpa using a4
          clear a4 HOG HRG7
          have HDO : Hid (∀ W, WP7 w W G L C H M D s k → Calls Tryz.prog 13 #[.pointer (some ⟨L.g, 0, none⟩), .pointer (some ⟨M.g, 0, none⟩), .pointer (some ⟨G, 0, none⟩), .pointer (some ⟨H, 0, none⟩), .agg (actL7 A bvI svI).toArray] W fun e w' => e = .returned (.bool true) ∧ ∃ C' D' s' l', Did7 w W w' G L C H M D C' D' s' l') := fun W hW => do7_any w G L C H M D s k A bvI svI W hW HAT.out.b hbd.1
          go_upto_region 25 with (first | (go_at_call 10; refine HSM.out.mono ?_; rintro e w5 ⟨rfl, hb5⟩; have hP5 := hP.after hb5; have hT5 := hT.after hb5; have k1 := seg_stringD hT5.s.1 9 Tryz.underlying9; have k2 := seg_stringD hT5.t.1 9 Tryz.underlying9; generalize (⟨st.toArray⟩ : ByteArray) = X at k1 k2; have hcs := (HCE.out w5 hP5.b).1) | (go_at_call 13; refine (HDO.out w5 hP5).mono ?_; rintro e w6 ⟨rfl, C1, D1, s1, k1', hDD⟩; obtain ⟨CD1, hDP1, -⟩ := hDD.p.disks) | (go_at_call 14; refine (alike7_any w L CD1 M D1 s1 w6 hDP1).mono ?_; rintro e w7 ⟨rfl, hb7⟩) | (refine wpList_load_mid rfl 43 _ rfl q (off + I * 5) rfl (actL7 A bvI svI) _ (HRG.out w5 hP5.b) Tryz.underlying43 rfl info_step7 ?_) | fail)
          have hP7 := hDD.p.after hb7
          have hT7 := (hT5.keep hDD.c (fun q h _ => h) hDD.z).after hb7
          have hs7 : ¬ sizeS s1 < 256 := by rw [size_now (hP7.p.now.trans hP5.p.now.symm)]; exact hsz
          clear hcs k1 k2 HSM hT hT5 hP hP5 hb5 hDD hDP1 hb7 HDO
          have HRM : Hid (∀ V, Below w7.heap.size w7 V → Calls Tryz.prog 15 #[.pointer (some ⟨G, 0, none⟩)] V fun e w' => e = .returned (.int .i64 (roomW s1 k1')) ∧ Below V.heap.size V w') := fun V hV => pb_room (hP7.p.after hV)
          have HRR : Hid (∀ V, Below w7.heap.size w7 V → Calls Tryz.prog 16 #[.pointer (some ⟨H, 0, none⟩)] V fun e w' => e = .returned (.int .i64 (roomW s1 k1')) ∧ Below V.heap.size V w') := fun V hV => rb_room (hP7.r.after hV)
          have HSP : Hid (∀ V, Below w7.heap.size w7 V → Calls Tryz.prog 17 #[.pointer (some ⟨G, 0, none⟩)] V fun e w' => e = .returned (.int .i64 (sizeS s1 : Int)) ∧ Below V.heap.size V w') := fun V hV => (pb_size (hP7.p.after hV)).mono (by rintro e w' ⟨h1, rfl⟩; exact ⟨h1, Below.refl _ _⟩)
          have HSR : Hid (∀ V, Below w7.heap.size w7 V → Calls Tryz.prog 18 #[.pointer (some ⟨H, 0, none⟩)] V fun e w' => e = .returned (.int .i64 (sizeS s1 : Int)) ∧ Below V.heap.size V w') := fun V hV => (rb_size (hP7.r.after hV)).mono (by rintro e w' ⟨h1, rfl⟩; exact ⟨h1, Below.refl _ _⟩)
          have HBR : Hid (∀ V, Below w7.heap.size w7 V → Calls Tryz.prog 19 #[.pointer (some ⟨G, 0, none⟩)] V fun e w' => e = .returned (.bool k1'.broke) ∧ Below V.heap.size V w') := fun V hV => (pb_broken (hP7.p.after hV)).mono (by rintro e w' ⟨h1, rfl⟩; exact ⟨h1, Below.refl _ _⟩)
          have HBC : Hid (∀ V, Below w7.heap.size w7 V → V.cell? ⟨H, 6, none⟩ = some (.bool k1'.broke)) := fun V hV => (hP7.r.after hV).broke
          generalize roomW s1 k1' = RM at HRM HRR
          obtain ⟨SZ, hSZ⟩ : ∃ SZ : Int, (sizeS s1 : Int) = SZ := ⟨_, rfl⟩
          rw [hSZ] at HSP HSR
          clear hSZ
          obtain ⟨BR, hBR⟩ : ∃ BR, k1'.broke = BR := ⟨_, rfl⟩
          rw [hBR] at HBR HBC
          clear hBR
          have HNI : Hid (∀ (Z : Int) V, (binOp .neq 3 (.int .i64 Z) (.int .i64 Z)).run Tryz.prog V = .ok (.bool false) V) := fun Z V => by simp [go_sem]
          have hX0 : Below w7.heap.size w7 w7.drew := (Below.refl _ _).drew
          refine held_begin (fun V => Below w7.heap.size w7 V) (by kernel_rfl) ?_
          refine held_take 0 172 _ (.bool true) rfl rfl (by kernel_rfl) (by kernel_rfl) (by kernel_rfl) rfl hX0 (fun _ _ => rfl) ?_
          simp only [Act.put, List.setIfInBounds_toArray, List.set_cons_succ, List.set_cons_zero]
          refine held_take 1 173 _ (.bool false) rfl rfl (by kernel_rfl) (by kernel_rfl) (by kernel_rfl) rfl hX0 (fun _ _ => rfl) ?_
          simp only [Act.put, List.setIfInBounds_toArray, List.set_cons_succ, List.set_cons_zero]
          refine held_take 2 174 _ (.bool false) rfl rfl (by kernel_rfl) (by kernel_rfl) (by kernel_rfl) rfl hX0 (fun _ _ => rfl) ?_
          simp only [Act.put, List.setIfInBounds_toArray, List.set_cons_succ, List.set_cons_zero]
          refine held_take 3 175 _ (.bool true) rfl rfl (by kernel_rfl) (by kernel_rfl) (by kernel_rfl) rfl hX0 (fun _ _ => rfl) ?_
          simp only [Act.put, List.setIfInBounds_toArray, List.set_cons_succ, List.set_cons_zero]
          refine held_take 4 176 _ (.bool false) rfl rfl (by kernel_rfl) (by kernel_rfl) (by kernel_rfl) rfl hX0 (fun _ _ => rfl) ?_
          simp only [Act.put, List.setIfInBounds_toArray, List.set_cons_succ, List.set_cons_zero]
          refine held_take 5 177 _ (.bool false) rfl rfl (by kernel_rfl) (by kernel_rfl) (by kernel_rfl) rfl hX0 (fun _ _ => rfl) ?_
          simp only [Act.put, List.setIfInBounds_toArray, List.set_cons_succ, List.set_cons_zero]
          refine held_take 6 178 _ (.bool false) rfl rfl (by kernel_rfl) (by kernel_rfl) (by kernel_rfl) rfl hX0 (fun _ _ => rfl) ?_
          simp only [Act.put, List.setIfInBounds_toArray, List.set_cons_succ, List.set_cons_zero]
          refine held_take 7 179 _ (.pointer (some ⟨G, 0, none⟩)) rfl rfl (by kernel_rfl) (by kernel_rfl) (by kernel_rfl) rfl hX0 (fun _ _ => rfl) ?_
          simp only [Act.put, List.setIfInBounds_toArray, List.set_cons_succ, List.set_cons_zero]
          refine held_take 9 181 _ (.pointer (some ⟨H, 0, none⟩)) rfl rfl (by kernel_rfl) (by kernel_rfl) (by kernel_rfl) rfl hX0 (fun _ _ => rfl) ?_
          simp only [Act.put, List.setIfInBounds_toArray, List.set_cons_succ, List.set_cons_zero]
          refine held_all1 8 (by kernel_rfl) (op_call 8 180 _ 15 #[.pointer (some ⟨G, 0, none⟩)] rfl rfl rfl (exec_one 15 _ _ rfl _ rfl Tryz.call15) ((HRM.out _ hX0).mono ?_))
          rintro e v1 ⟨rfl, hc1⟩
          have hX1 : Below w7.heap.size w7 v1 := Below.trans hX0 (hc1.mono (Below.size hX0))
          refine ⟨_, rfl, hX1, ?_⟩
          simp only [Act.put, List.setIfInBounds_toArray, List.set_cons_succ, List.set_cons_zero]
          refine held_all1 10 (by kernel_rfl) (op_call 10 182 _ 16 #[.pointer (some ⟨H, 0, none⟩)] rfl rfl rfl (exec_one 16 _ _ rfl _ rfl Tryz.call16) ((HRR.out _ hX1).mono ?_))
          rintro e v2 ⟨rfl, hc2⟩
          have hX2 : Below w7.heap.size w7 v2 := Below.trans hX1 (hc2.mono (Below.size hX1))
          refine ⟨_, rfl, hX2, ?_⟩
          simp only [Act.put, List.setIfInBounds_toArray, List.set_cons_succ, List.set_cons_zero]
          refine held_take 11 183 _ (.bool false) rfl rfl (by kernel_rfl) (by kernel_rfl) (by kernel_rfl) rfl hX2 (fun V _ => exec_cmp .neq 3 3 _ _ rfl (.inl rfl) (.int .i64 RM) (.int .i64 RM) (.bool false) rfl rfl (by kernel_rfl) (HNI.out RM V)) ?_
          simp only [Act.put, List.setIfInBounds_toArray, List.set_cons_succ, List.set_cons_zero]
          refine held_take 12 184 _ (.bool false) rfl rfl (by kernel_rfl) (by kernel_rfl) (by kernel_rfl) rfl hX2 (fun _ _ => rfl) ?_
          simp only [Act.put, List.setIfInBounds_toArray, List.set_cons_succ, List.set_cons_zero]
          refine held_take 13 185 _ (.bool false) rfl rfl (by kernel_rfl) (by kernel_rfl) (by kernel_rfl) rfl hX2 (fun _ _ => rfl) ?_
          simp only [Act.put, List.setIfInBounds_toArray, List.set_cons_succ, List.set_cons_zero]
          refine held_take 14 186 _ (.pointer (some ⟨G, 0, none⟩)) rfl rfl (by kernel_rfl) (by kernel_rfl) (by kernel_rfl) rfl hX2 (fun _ _ => rfl) ?_
          simp only [Act.put, List.setIfInBounds_toArray, List.set_cons_succ, List.set_cons_zero]
          refine held_take 16 188 _ (.pointer (some ⟨H, 0, none⟩)) rfl rfl (by kernel_rfl) (by kernel_rfl) (by kernel_rfl) rfl hX2 (fun _ _ => rfl) ?_
          simp only [Act.put, List.setIfInBounds_toArray, List.set_cons_succ, List.set_cons_zero]
          refine held_all1 15 (by kernel_rfl) (op_call 15 187 _ 17 #[.pointer (some ⟨G, 0, none⟩)] rfl rfl rfl (exec_one 17 _ _ rfl _ rfl Tryz.call17) ((HSP.out _ hX2).mono ?_))
          rintro e v3 ⟨rfl, hc3⟩
          have hX3 : Below w7.heap.size w7 v3 := Below.trans hX2 (hc3.mono (Below.size hX2))
          refine ⟨_, rfl, hX3, ?_⟩
          simp only [Act.put, List.setIfInBounds_toArray, List.set_cons_succ, List.set_cons_zero]
          refine held_all1 17 (by kernel_rfl) (op_call 17 189 _ 18 #[.pointer (some ⟨H, 0, none⟩)] rfl rfl rfl (exec_one 18 _ _ rfl _ rfl Tryz.call18) ((HSR.out _ hX3).mono ?_))
          rintro e v4 ⟨rfl, hc4⟩
          have hX4 : Below w7.heap.size w7 v4 := Below.trans hX3 (hc4.mono (Below.size hX3))
          refine ⟨_, rfl, hX4, ?_⟩
          simp only [Act.put, List.setIfInBounds_toArray, List.set_cons_succ, List.set_cons_zero]
          refine held_take 18 190 _ (.bool false) rfl rfl (by kernel_rfl) (by kernel_rfl) (by kernel_rfl) rfl hX4 (fun V _ => exec_cmp .neq 3 3 _ _ rfl (.inl rfl) (.int .i64 SZ) (.int .i64 SZ) (.bool false) rfl rfl (by kernel_rfl) (HNI.out SZ V)) ?_
          simp only [Act.put, List.setIfInBounds_toArray, List.set_cons_succ, List.set_cons_zero]
          refine held_take 19 191 _ (.bool false) rfl rfl (by kernel_rfl) (by kernel_rfl) (by kernel_rfl) rfl hX4 (fun _ _ => rfl) ?_
          simp only [Act.put, List.setIfInBounds_toArray, List.set_cons_succ, List.set_cons_zero]
          refine held_take 20 192 _ (.bool false) rfl rfl (by kernel_rfl) (by kernel_rfl) (by kernel_rfl) rfl hX4 (fun _ _ => rfl) ?_
          simp only [Act.put, List.setIfInBounds_toArray, List.set_cons_succ, List.set_cons_zero]
          refine held_take 21 193 _ (.pointer (some ⟨G, 0, none⟩)) rfl rfl (by kernel_rfl) (by kernel_rfl) (by kernel_rfl) rfl hX4 (fun _ _ => rfl) ?_
          simp only [Act.put, List.setIfInBounds_toArray, List.set_cons_succ, List.set_cons_zero]
          refine held_take 23 195 _ (.pointer (some ⟨H, 0, none⟩)) rfl rfl (by kernel_rfl) (by kernel_rfl) (by kernel_rfl) rfl hX4 (fun _ _ => rfl) ?_
          simp only [Act.put, List.setIfInBounds_toArray, List.set_cons_succ, List.set_cons_zero]
          refine held_take 24 196 _ (.pointer (some ⟨H, 0, none⟩)) rfl rfl (by kernel_rfl) (by kernel_rfl) (by kernel_rfl) rfl hX4 (fun _ _ => rfl) ?_
          simp only [Act.put, List.setIfInBounds_toArray, List.set_cons_succ, List.set_cons_zero]
          refine held_take 25 197 _ (.pointer (some ⟨H, 6, none⟩)) rfl rfl (by kernel_rfl) (by kernel_rfl) (by kernel_rfl) rfl hX4 (fun _ _ => rfl) ?_
          simp only [Act.put, List.setIfInBounds_toArray, List.set_cons_succ, List.set_cons_zero]
          refine held_take 26 198 _ (.bool BR) rfl rfl (by kernel_rfl) (by kernel_rfl) (by kernel_rfl) rfl hX4 (fun V hV => exec_loadW 4 _ rfl (fun _ => by kernel_rfl) H 6 rfl _ (HBC.out V hV)) ?_
          simp only [Act.put, List.setIfInBounds_toArray, List.set_cons_succ, List.set_cons_zero]
          refine held_all1 22 (by kernel_rfl) (op_call 22 194 _ 19 #[.pointer (some ⟨G, 0, none⟩)] rfl rfl rfl (exec_one 19 _ _ rfl _ rfl Tryz.call19) ((HBR.out _ hX4).mono ?_))
          rintro e v5 ⟨rfl, hc5⟩
          have hX5 : Below w7.heap.size w7 v5 := Below.trans hX4 (hc5.mono (Below.size hX4))
          refine ⟨_, rfl, hX5, ?_⟩
          simp only [Act.put, List.setIfInBounds_toArray, List.set_cons_succ, List.set_cons_zero]
          refine held_take 27 199 _ (.bool false) rfl rfl (by kernel_rfl) (by kernel_rfl) (by kernel_rfl) rfl hX5 (fun V _ => exec_cmp .neq 4 4 _ _ rfl (.inl rfl) (.bool BR) (.bool BR) (.bool false) rfl rfl (by kernel_rfl) (by cases BR <;> kernel_rfl)) ?_
          simp only [Act.put, List.setIfInBounds_toArray, List.set_cons_succ, List.set_cons_zero]
          refine held_take 28 200 _ (.bool false) rfl rfl (by kernel_rfl) (by kernel_rfl) (by kernel_rfl) rfl hX5 (fun _ _ => rfl) ?_
          simp only [Act.put, List.setIfInBounds_toArray, List.set_cons_succ, List.set_cons_zero]
          refine wpAnyH_done (by kernel_rfl) ?_ _
          refine NoPanic.normal ?_
          go_wp2_with fail
          go_roundw
          case rel => exact ⟨rfl, rfl, I + 1, G, H, _, _, _, _, _, _, rfl, rfl, by go_num, h1, h2, hs7, hP7.after hX5, hT7.after hX5⟩
          case measure => simp [intOf]; omega
      · clear HOG HRG7 HLC HMU
        by_cases h1 : I < l.length
        · have i1 : (I : Int) < (l.length : Int) := by omega
          have i2 : ¬ (I : Int) < 60 := by omega
          go_wp2_with (first | (go_at_call 10; refine HSM.out.mono ?_; rintro e w5 ⟨rfl, hb5⟩; have hP5 := hP.after hb5; have hT5 := hT.after hb5; have k1 := seg_stringD hT5.s.1 9 Tryz.underlying9; have k2 := seg_stringD hT5.t.1 9 Tryz.underlying9; generalize (⟨st.toArray⟩ : ByteArray) = X at k1 k2) | fail)
          go_ret
          exact ⟨rfl, hP5.b⟩
        · have i1 : ¬ (I : Int) < (l.length : Int) := by omega
          go_wp2_with (first | (go_at_call 10; refine HSM.out.mono ?_; rintro e w5 ⟨rfl, hb5⟩; have hP5 := hP.after hb5; have hT5 := hT.after hb5; have k1 := seg_stringD hT5.s.1 9 Tryz.underlying9; have k2 := seg_stringD hT5.t.1 9 Tryz.underlying9; generalize (⟨st.toArray⟩ : ByteArray) = X at k1 k2) | fail)
          go_ret
          exact ⟨rfl, hP5.b⟩
end Go.Proofs.YtojgeahablphbaaGreat
