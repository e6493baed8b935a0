/-
  What is proved here: of all numbers of sectors and changes, the statement StoreFull answers true: what does not fit is refused, and did nothing.
  Conditions: none.
-/
import Derived.Test.YtghbkbhoeffphaaGreatJStoreAgain
import Derived.Test.YtghbkbhoeffphaaGreatJStoreAwake
import Derived.Test.YtghbkbhoeffphaaGreatJLawStoreAtOnce
namespace Go.Proofs.YtghbkbhoeffphaaGreat
open Go.RowKit Go.Maps

theorem steps_two {w : World} {b : Nat} {t : TypeId} {u1 u2 : Value} {c1 c2 : List (List OpB)} (hk : Blk w b t #[.int .i64 0, u1, .int .i64 0, .int .i64 0, .slice none 0 0, .slice none 0 0, .int .i64 0, u2, .int .i64 0, .int .i64 0, .slice none 0 0, .slice none 0 0]) (h1 : ChgsV w u1 c1) (h2 : ChgsV w u2 c2) : StepsV w (.slice (some ⟨b, 0, none⟩) 2 2) [⟨c1, 0, 0⟩, ⟨c2, 0, 0⟩] := by
  refine ⟨_, 2, rfl, (by show 2 ≤ maxLen; decide), fun i s hs => ?_⟩
  match i, hs with
  | 0, hs =>
    cases hs
    exact ⟨b, 0, rfl, ⟨_, hk.cell (j := 1) rfl, h1⟩, ⟨_, _, hk.cell (j := 4) rfl⟩, ⟨_, _, hk.cell (j := 5) rfl⟩⟩
  | 1, hs =>
    cases hs
    exact ⟨b, 0, rfl, ⟨_, hk.cell (j := 7) rfl, h2⟩, ⟨_, _, hk.cell (j := 10) rfl⟩, ⟨_, _, hk.cell (j := 11) rfl⟩⟩
  | (i + 2), hs => cases hs
theorem chgs_one {w : World} {b c : Nat} {t : TypeId} {u : Value} {ops : List OpB} (hk : Blk w b t #[u]) (h : OpsV w u ops) : ChgsV w (.slice (some ⟨b, 0, none⟩) 1 c) [ops] := by
  refine ⟨_, c, rfl, (by show 1 ≤ maxLen; decide), fun i o ho => ?_⟩
  match i, ho with
  | 0, ho => cases ho; exact ⟨b, 0, rfl, hk.lt, u, hk.cell (j := 0) rfl, h⟩
  | (i + 1), ho => cases ho
set_option maxRecDepth 100000 in
set_option maxHeartbeats 16000000 in
theorem storeFull_any (z0 : Int) (v : Value) (cs : List (List OpB)) (bv : Value) (bo : List OpB) (w : World) (h : ChgsV w v cs) (hb : OpsV w bv bo) :
    Calls Tryz.prog 4 #[.int .i64 z0, v, bv] w fun e w' => e = .returned (.bool true) ∧ Below w.heap.size w w' := by
  have HV : Hid (ChgsV w v cs) := h
  have HBV : Hid (OpsV w bv bo) := hb
  obtain ⟨ao, c, rfl, hcm, -⟩ := h
  obtain ⟨ba, bc, rfl, hbm, -⟩ := hb
  unfold maxLen at hcm hbm
  go_enter Tryz.func4, Tryz.ntmps4
  go_wp2_with fail
  refine (awake8_any w).mono ?_
  rintro e w1 ⟨rfl, hB1⟩
  go_wp2_with fail
  have hbA := (Below.refl w1.heap.size w1).alloc (Nat.le_refl _) (.cells #[.slice ba bo.length bc] 40)
  have hkA := Blk.new w1 40 #[.slice ba bo.length bc]
  have hbC := hbA.alloc hbA.size (.cells #[.int .i64 0, .slice ao cs.length c, .int .i64 0, .int .i64 0, .slice none 0 0, .slice none 0 0, .int .i64 0, .slice (some ⟨w1.heap.size, 0, none⟩) 1 1, .int .i64 0, .int .i64 0, .slice none 0 0, .slice none 0 0] 37)
  have hkA2 := hkA.alloc (.cells #[.int .i64 0, .slice ao cs.length c, .int .i64 0, .int .i64 0, .slice none 0 0, .slice none 0 0, .int .i64 0, .slice (some ⟨w1.heap.size, 0, none⟩) 1 1, .int .i64 0, .int .i64 0, .slice none 0 0, .slice none 0 0] 37)
  have hkC : Blk ((w1.alloc (.cells #[.slice ba bo.length bc] 40)).alloc (.cells #[.int .i64 0, .slice ao cs.length c, .int .i64 0, .int .i64 0, .slice none 0 0, .slice none 0 0, .int .i64 0, .slice (some ⟨w1.heap.size, 0, none⟩) 1 1, .int .i64 0, .int .i64 0, .slice none 0 0, .slice none 0 0] 37)) (w1.heap.size + 1) 37 _ := Blk.newAt _ _ _ _ (by simp)
  obtain ⟨w2, hw2⟩ : ∃ W, W = (w1.alloc (.cells #[.slice ba bo.length bc] 40)).alloc (.cells #[.int .i64 0, .slice ao cs.length c, .int .i64 0, .int .i64 0, .slice none 0 0, .slice none 0 0, .int .i64 0, .slice (some ⟨w1.heap.size, 0, none⟩) 1 1, .int .i64 0, .int .i64 0, .slice none 0 0, .slice none 0 0] 37) := ⟨_, rfl⟩
  rw [← hw2] at hbC hkA2 hkC ⊢
  clear hw2 hbA hkA
  have hB2 := blift hB1 hbC hB1.size
  refine (much8_any _ [⟨cs, 0, 0⟩, ⟨[bo], 0, 0⟩] w2 (steps_two hkC (HV.out.below hB2 (Nat.le_refl _)) (chgs_one hkA2 (HBV.out.below hB2 (Nat.le_refl _))))).mono ?_
  rintro e w2' ⟨r, rfl, hfew, hw⟩
  obtain rfl := hw.symm
  clear hw hbC hkC hkA2 hB1
  cases r with
  | true =>
    clear hfew
    go_wp2_with fail
    go_ret
    exact ⟨rfl, hB2⟩
  | false =>
  have hf1 := hfew rfl 0 ⟨cs, 0, 0⟩ rfl (by omega)
  have hf2 := hfew rfl 1 ⟨[bo], 0, 0⟩ rfl (by omega)
  clear hfew
  have hc30 : cs.length ≤ 30 := hf1.1
  have HFC : Hid (∀ c ∈ cs, chgFew c) := hf1.2
  have HFB : Hid (chgFew bo) := hf2.2 bo List.mem_cons_self
  clear hf1 hf2
  by_cases hlo : z0 < 40
  · go_wp2_with fail
    go_ret
    exact ⟨rfl, hB2⟩
  by_cases hhi : 200 < z0
  · go_wp2_with fail
    go_ret
    exact ⟨rfl, hB2⟩
  obtain ⟨n, rfl⟩ : ∃ n : Nat, z0 = n := ⟨z0.toNat, (Int.toNat_of_nonneg (by omega)).symm⟩
  have hn1 : 40 ≤ n := by omega
  have hn2 : n ≤ 200 := by omega
  obtain ⟨x, hx, hxm, hxs, HOP⟩ := open_new n (by rw [newS_size]; omega) (by omega)
  rw [newS_size] at hxs
  obtain ⟨SZ, hSZ⟩ : ∃ SZ, SZ = (n - 2) / 2 * 128 := ⟨_, rfl⟩
  have hSZ1 : 256 ≤ SZ ∧ SZ ≤ 16000 := by omega
  rw [← hSZ] at hxs
  obtain ⟨Q, hQ⟩ : ∃ Q, Q = SZ / 4 := ⟨_, rfl⟩
  have hq1 : ((n : Int) - 2) / 2 * 128 / 4 = (Q : Int) := by rw [hQ, hSZ]; omega
  obtain ⟨MW, hMW⟩ : ∃ MW, MW = (SZ - 2048) / 2 := ⟨_, rfl⟩
  have HMW : Hid (∀ s : DS, sizeS s = SZ → mostW s = MW ∧ sizeS s / 4 = Q) := fun s hs => by unfold mostW; rw [hs, hMW, hQ]; exact ⟨rfl, rfl⟩
  have hx2 : Hid (CalmS x n 1 ∧ x.m = [] ∧ sizeS x.s = SZ) := ⟨hx, hxm, hxs⟩
  have HOP : Hid (∀ (w : World) (L : PLay) (C : Nat → Prop), OD w L C (newS n) → Calls Tryz.prog 12 #[.pointer (some ⟨L.g, 0, none⟩)] w fun e w' => Opened w L C x e w') := HOP
  have HSZ : Hid (256 ≤ SZ ∧ SZ ≤ 16000) := hSZ1
  clear hx hxm hxs hSZ hQ hMW hSZ1
  go_wp2_with fail
  refine (od_new n w2 (by omega) (by omega)).mono ?_
  rintro e w3 ⟨L, rfl, hD3, hb3, hT3, -⟩
  have hB3 := blift hB2 hb3 hB2.size
  go_wp2_with fail
  refine (HOP.out w3 L L.T hD3).mono ?_
  rintro e w5 ⟨SG, rfl, hS5, -, hc5⟩
  have hT2 : ∀ q, L.T q → w.heap.size ≤ q := fun q hq => by have := hT3 q hq; have := hB2.size; omega
  have hB5 : Below w.heap.size w w5 := hB3.trans (hc5.below hT2 hB3.size)
  have hC5 : ∀ q, Fr L.T w3 w5 q → w.heap.size ≤ q := fr_from hT2 hB3.size
  obtain ⟨C5, hCC⟩ : ∃ C, C = Fr L.T w3 w5 := ⟨_, rfl⟩
  rw [← hCC] at hS5 hC5
  have hS5 : Hid (PSt w5 SG L C5 x) := hS5
  have hC5 : Hid (∀ q, C5 q → w.heap.size ≤ q) := hC5
  clear hCC hc5 hD3 hb3 hT3 hT2 hB3 hB2 HOP
  go_wp2_with fail
  go_loopw [12, 13] (fun nv i wr => ∃ (I : Nat) (X : Nat → Prop) (z : SS), i = .int .i64 (I : Int) ∧ I ≤ cs.length ∧ PSt wr SG L X z ∧ CalmS z n (1 + I) ∧ sizeS z.s = SZ ∧ (∀ q, X q → w.heap.size ≤ q) ∧ PairsB w wr nv z.m ∧ (∀ q, nv.ownBlock = some q → ¬ X q ∧ q < wr.heap.size) ∧ Below w.heap.size w wr ∧ z.m.length ≤ 50 * I) (fun _ i _ => cs.length - (intOf i).toNat)
  case atStart => exact ⟨0, C5, x, rfl, Nat.zero_le _, hS5.out, hx2.out.1, hx2.out.2.2, hC5.out, by rw [hx2.out.2.1]; exact PairsB.nil _ _, fun q hq => (by cases hq), hB5, by rw [hx2.out.2.1]; exact Nat.zero_le _⟩
  case round =>
    clear hB5 hS5 hC5 hx2
    obtain ⟨I, X, z, rfl, hI, hX, hz, hzs, hXd, hP, hPb, hB, hml⟩ := hrel
    have hsz := HSZ.out
    obtain ⟨na, nc, rfl, -⟩ := id hP
    by_cases hlt : I < cs.length
    · have i1 : (I : Int) < (cs.length : Int) := by omega
      have i2 : (I : Int) < 30 := by omega
      have hg : cs[I]? = some cs[I] := List.getElem?_eq_getElem hlt
      obtain ⟨o, ho⟩ : ∃ o, cs[I] = o := ⟨_, rfl⟩
      rw [ho] at hg
      clear ho
      obtain ⟨ao', c', he, -, hat⟩ := HV.out
      cases he
      obtain ⟨b, off, rfl, hbl, u, c0, hu⟩ := hat I o hg
      have HCF : Hid ((chgB o).length ≤ 200000) := chgB_few (HFC.out o (List.mem_of_getElem? hg))
      obtain ⟨ho50, hofew⟩ := HFC.out o (List.mem_of_getElem? hg)
      obtain ⟨uo, uc, rfl, -, -⟩ := id hu
      have hix := index_chgs b off cs.length c I hlt
      have HCU : Hid (∀ V, Below w.heap.size w V → V.cell? ⟨b, off + I, none⟩ = some (.slice uo o.length uc)) := fun V hV => (hV.cell (p := ⟨b, off + I, none⟩) hbl).trans c0
      have HU : Hid (OpsV w (.slice uo o.length uc) o) := hu
      have hr := hX.rise8
      obtain ⟨cd, z', hcd, hbr, hzz, HCZ0, hcase⟩ := one_calm hz (by omega) (by omega) (by omega) (by omega) hX.pairs hr o
      rw [(HMW.out z.s hzs).1, (HMW.out z.s hzs).2] at hcase
      have hzs' : sizeS z'.s = SZ := by rw [hzz, hzs]
      have HCZ : Hid (CalmS z' n (1 + (I + 1))) := by rw [show 1 + (I + 1) = 1 + I + 1 by omega]; exact HCZ0
      have hcd : Hid (allA z [o] = (cd, z')) := hcd
      have hbr : Hid (z'.br = false) := hbr
      have hr : Hid (RiseM z.m) := hr
      have HPF : Hid (PairsF (doM z.m o)) := few_do o hX.pairs.few (fun y hy => by have := hofew y hy; unfold opFew at this; omega)
      have HDL : Hid ((doM z.m o).length ≤ z.m.length + o.length) := len_do o z.m
      have HKB : Hid (∀ y ∈ o, y.key.length ≤ 65535 ∧ y.val.length ≤ 65535) := fun y hy => by have := hofew y hy; unfold opFew at this; omega
      have hX : Hid (PSt wr SG L X z) := hX
      have hXd : Hid (∀ q, X q → w.heap.size ≤ q) := hXd
      have hP : Hid (PairsB w wr (.slice na z.m.length nc) z.m) := hP
      have hPb : Hid (∀ q, (Value.slice na z.m.length nc).ownBlock = some q → ¬ X q ∧ q < wr.heap.size) := hPb
      have cu := HCU.out wr hB
      have hcase : Hid _ := hcase
      clear hat hz hg hzz hu c0 HCZ0 hofew HV HFC
      go_wp2_with fail
      refine (commit_any8 hX.out _ o (HU.out.below hB (Nat.le_refl _))).mono ?_
      rintro e w8 ⟨rfl, hX8, hc8⟩
      rw [hcd.out] at hX8 ⊢
      have hB8 : Below w.heap.size w w8 := hB.trans (hc8.below hXd.out hB.size)
      have hP8 : Hid (PairsB w w8 (.slice na z.m.length nc) z.m) := hP.out.chg hc8 (fun _ q hq => (hPb.out q hq).1)
      have HXd : Hid (∀ q, Fr X wr w8 q → w.heap.size ≤ q) := fr_from hXd.out hB.size
      have HPb8 : Hid (∀ q, (Value.slice na z.m.length nc).ownBlock = some q → ¬ Fr X wr w8 q ∧ q < w8.heap.size) := fun q hq => by
        have h1 := hPb.out q hq
        have h2 := hc8.size
        exact ⟨fun e => by rcases e with e | e; exact h1.1 e; omega, by omega⟩
      have hX8 : Hid (PSt w8 SG L (Fr X wr w8) z') := hX8
      have cu8 := HCU.out w8 hB8
      clear hc8 cu hX hXd hP hPb hB
      go_wp2_with fail
      refine (do8_from w _ z.m _ o w8 hP8.out HU.out hB8 hr.out (by omega)).mono ?_
      rintro e w9 ⟨xv, rfl, hN9, hb9, hxo⟩
      have hB9 := blift hB8 hb9 hB8.size
      have HN9 : Hid (PairsB w w9 xv (doM z.m o)) := hN9
      have HNb9 : Hid (∀ q, xv.ownBlock = some q → ¬ Fr X wr w8 q ∧ q < w9.heap.size) := fun q hq => by
        have h2 := hb9.size
        rcases hxo q hq with h1 | h1
        · have h3 := HPb8.out q h1
          exact ⟨h3.1, by omega⟩
        · exact ⟨fun e => by have := hX8.out.lt q e; omega, h1.2⟩
      have HPb9 : Hid (∀ q, (Value.slice na z.m.length nc).ownBlock = some q → ¬ Fr X wr w8 q ∧ q < w9.heap.size) := fun q hq => by have h1 := HPb8.out q hq; have h2 := hb9.size; exact ⟨h1.1, by omega⟩
      obtain ⟨xa, xc, rfl, -⟩ := hN9
      have hX9 : Hid (PSt w9 SG L (Fr X wr w8) z') := hX8.out.after hb9
      have hP9 : Hid (PairsB w w9 (.slice na z.m.length nc) z.m) := hP8.out.after hb9
      have cu9 := HCU.out w9 hB9
      clear hb9 hxo cu8 hX8 hP8 hB8
      go_wp2_with fail
      refine (right8_any _ o w9 (HU.out.below hB9 (Nat.le_refl _))).mono ?_
      rintro e w10 ⟨rfl, hw10⟩
      obtain rfl := hw10.symm
      clear hw10
      go_wp2_with fail
      refine (change8_any _ o w9 (HU.out.below hB9 (Nat.le_refl _)) (by omega) HKB.out).mono ?_
      rintro e w11 ⟨kv, rfl, ho11, hb11⟩
      obtain ⟨ka, kc, rfl⟩ := ho11.seg.shapeD
      have hB11 := blift hB9 hb11 hB9.size
      have s11 := hb11.size
      have hX11 : Hid (PSt w11 SG L (Fr X wr w8) z') := hX9.out.after hb11
      have hP11 : Hid (PairsB w w11 (.slice na z.m.length nc) z.m) := hP9.out.after hb11
      have hN11 : Hid (PairsB w w11 (.slice xa (doM z.m o).length xc) (doM z.m o)) := HN9.out.after hb11
      clear ho11 hb11 cu9 hX9 hP9 HN9 hB9
      go_wp2_with fail
      refine (state8_few _ (doM z.m o) w11 (hN11.out.toIn hB11) HPF.out (by have := HDL.out; omega)).mono ?_
      rintro e w12 ⟨sv, rfl, ho12, hb12⟩
      obtain ⟨sa, sc, rfl⟩ := ho12.seg.shapeD
      have hB13 := blift hB11 hb12 hB11.size
      have s12 := hb12.size
      have HNb : Hid (∀ q, (Value.slice xa (doM z.m o).length xc).ownBlock = some q → ¬ Fr X wr w8 q ∧ q < w12.heap.size) := fun q hq => by have h1 := HNb9.out q hq; exact ⟨h1.1, by omega⟩
      have HPb : Hid (∀ q, (Value.slice na z.m.length nc).ownBlock = some q → ¬ Fr X wr w8 q ∧ q < w12.heap.size) := fun q hq => by have h1 := HPb9.out q hq; exact ⟨h1.1, by omega⟩
      have hX13 : Hid (PSt w12 SG L (Fr X wr w8) z') := hX11.out.after hb12
      have HP13 : Hid (PairsB w w12 (.slice na z.m.length nc) z.m) := hP11.out.after hb12
      have HN13 : Hid (PairsB w w12 (.slice xa (doM z.m o).length xc) (doM z.m o)) := hN11.out.after hb12
      have cb13 : w12.cell? ⟨SG, 2, none⟩ = some (.bool false) := by
        obtain ⟨_, _, _, _, hcb, _⟩ := hX13.out.od
        rw [hbr.out] at hcb
        exact hcb
      have HMO : Hid (Calls Tryz.prog 24 #[.pointer (some ⟨SG, 0, none⟩)] w12 fun e w' => e = .returned (.int .i64 (MW : Int)) ∧ w' = w12) := by
        obtain ⟨G, Mb, CL, CV, hPP, -⟩ := hX13.out.body
        have := most_any8 hPP
        rw [(HMW.out z'.s hzs').1] at this
        exact this
      rw [stateM_len]
      have hdl := HDL.out
      have HSL : Hid (sizeM (doM z.m o) ≤ 100000000) := by
        show _ ≤ _
        have := sizeM_few HPF.out
        omega
      have HLNB : Hid ((chgB o).length ≤ 200000) := HCF.out
      have hcase := hcase.out
      clear ho12 hb12 hX11 hP11 hN11 hB11 HU HKB HPF
      generalize sizeM (doM z.m o) = SM at *
      generalize (chgB o).length = LN at *
      have hs9 := HSL.out
      have hl9 := HLNB.out
      go_wp2_with fail
      refine HMO.out.mono ?_
      rintro e w13 ⟨rfl, hw13⟩
      obtain rfl := hw13.symm
      clear hw13 HMO
      by_cases a1 : SM ≤ MW
      · by_cases a2 : LN ≤ 4096
        · by_cases a3 : LN + 24 ≤ Q
          · have j1 : ((SM : Nat) : Int) ≤ ((MW : Nat) : Int) := by omega
            have j2 : ((LN : Nat) : Int) ≤ 4096 := by omega
            have j3 : ((LN : Nat) : Int) + 24 ≤ ((Q : Nat) : Int) := by omega
            rcases hcase with ⟨rfl, hR, hzm0⟩ | ⟨rfl, hR, hzm0, hno⟩ | ⟨rfl, hR, hzm0, hy1, hy2, hy3⟩
            · rw [hR]
              have hzm' : Hid (z'.m = z.m) := hzm0
              clear hzm0
              go_wp2_with fail
              refine (broken_cell cb13).mono ?_
              rintro e w14 ⟨rfl, hw14⟩
              obtain rfl := hw14.symm
              clear hw14
              go_wp2_with fail
              go_roundw
              case rel => exact ⟨I + 1, _, z', by go_num, hlt, hX13.out, HCZ.out, hzs', HXd.out, by rw [hzm'.out]; exact HP13.out, HPb.out, hB13, by rw [hzm'.out]; omega⟩
              case measure => simp [intOf]; omega
            · exact absurd ⟨a1, a2, a3⟩ hno
            · rw [hR]
              have hzm' : Hid (z'.m = doM z.m o) := hzm0
              clear hzm0
              go_wp2_with fail
              refine (broken_cell cb13).mono ?_
              rintro e w14 ⟨rfl, hw14⟩
              obtain rfl := hw14.symm
              clear hw14
              go_wp2_with fail
              go_roundw
              case rel => exact ⟨I + 1, _, z', by go_num, hlt, hX13.out, HCZ.out, hzs', HXd.out, by rw [hzm'.out]; exact HN13.out, HNb.out, hB13, by rw [hzm'.out]; omega⟩
              case measure => simp [intOf]; omega
          · have j1 : ((SM : Nat) : Int) ≤ ((MW : Nat) : Int) := by omega
            have j2 : ((LN : Nat) : Int) ≤ 4096 := by omega
            have j3 : ¬ ((LN : Nat) : Int) + 24 ≤ ((Q : Nat) : Int) := by omega
            rcases hcase with ⟨rfl, hR, hzm0⟩ | ⟨rfl, hR, hzm0, hno⟩ | ⟨rfl, hR, hzm0, hy1, hy2, hy3⟩
            · rw [hR]
              have hzm' : Hid (z'.m = z.m) := hzm0
              clear hzm0
              go_wp2_with fail
              refine (broken_cell cb13).mono ?_
              rintro e w14 ⟨rfl, hw14⟩
              obtain rfl := hw14.symm
              clear hw14
              go_wp2_with fail
              go_roundw
              case rel => exact ⟨I + 1, _, z', by go_num, hlt, hX13.out, HCZ.out, hzs', HXd.out, by rw [hzm'.out]; exact HP13.out, HPb.out, hB13, by rw [hzm'.out]; omega⟩
              case measure => simp [intOf]; omega
            · rw [hR]
              have hzm' : Hid (z'.m = z.m) := hzm0
              clear hzm0
              clear hno
              go_wp2_with fail
              refine (broken_cell cb13).mono ?_
              rintro e w14 ⟨rfl, hw14⟩
              obtain rfl := hw14.symm
              clear hw14
              go_wp2_with fail
              go_roundw
              case rel => exact ⟨I + 1, _, z', by go_num, hlt, hX13.out, HCZ.out, hzs', HXd.out, by rw [hzm'.out]; exact HP13.out, HPb.out, hB13, by rw [hzm'.out]; omega⟩
              case measure => simp [intOf]; omega
            · exact absurd hy3 a3
        · have j1 : ((SM : Nat) : Int) ≤ ((MW : Nat) : Int) := by omega
          have j2 : ¬ ((LN : Nat) : Int) ≤ 4096 := by omega
          rcases hcase with ⟨rfl, hR, hzm0⟩ | ⟨rfl, hR, hzm0, hno⟩ | ⟨rfl, hR, hzm0, hy1, hy2, hy3⟩
          · rw [hR]
            have hzm' : Hid (z'.m = z.m) := hzm0
            clear hzm0
            go_wp2_with fail
            refine (broken_cell cb13).mono ?_
            rintro e w14 ⟨rfl, hw14⟩
            obtain rfl := hw14.symm
            clear hw14
            go_wp2_with fail
            go_roundw
            case rel => exact ⟨I + 1, _, z', by go_num, hlt, hX13.out, HCZ.out, hzs', HXd.out, by rw [hzm'.out]; exact HP13.out, HPb.out, hB13, by rw [hzm'.out]; omega⟩
            case measure => simp [intOf]; omega
          · rw [hR]
            have hzm' : Hid (z'.m = z.m) := hzm0
            clear hzm0
            clear hno
            go_wp2_with fail
            refine (broken_cell cb13).mono ?_
            rintro e w14 ⟨rfl, hw14⟩
            obtain rfl := hw14.symm
            clear hw14
            go_wp2_with fail
            go_roundw
            case rel => exact ⟨I + 1, _, z', by go_num, hlt, hX13.out, HCZ.out, hzs', HXd.out, by rw [hzm'.out]; exact HP13.out, HPb.out, hB13, by rw [hzm'.out]; omega⟩
            case measure => simp [intOf]; omega
          · exact absurd hy2 a2
      · have j1 : ¬ ((SM : Nat) : Int) ≤ ((MW : Nat) : Int) := by omega
        rcases hcase with ⟨rfl, hR, hzm0⟩ | ⟨rfl, hR, hzm0, hno⟩ | ⟨rfl, hR, hzm0, hy1, hy2, hy3⟩
        · rw [hR]
          have hzm' : Hid (z'.m = z.m) := hzm0
          clear hzm0
          go_wp2_with fail
          refine (broken_cell cb13).mono ?_
          rintro e w14 ⟨rfl, hw14⟩
          obtain rfl := hw14.symm
          clear hw14
          go_wp2_with fail
          go_roundw
          case rel => exact ⟨I + 1, _, z', by go_num, hlt, hX13.out, HCZ.out, hzs', HXd.out, by rw [hzm'.out]; exact HP13.out, HPb.out, hB13, by rw [hzm'.out]; omega⟩
          case measure => simp [intOf]; omega
        · rw [hR]
          have hzm' : Hid (z'.m = z.m) := hzm0
          clear hzm0
          clear hno
          go_wp2_with fail
          refine (broken_cell cb13).mono ?_
          rintro e w14 ⟨rfl, hw14⟩
          obtain rfl := hw14.symm
          clear hw14
          go_wp2_with fail
          go_roundw
          case rel => exact ⟨I + 1, _, z', by go_num, hlt, hX13.out, HCZ.out, hzs', HXd.out, by rw [hzm'.out]; exact HP13.out, HPb.out, hB13, by rw [hzm'.out]; omega⟩
          case measure => simp [intOf]; omega
        · exact absurd hy1 a1
    · obtain rfl : I = cs.length := by omega
      have i1 : ¬ (cs.length : Int) < (cs.length : Int) := by omega
      have hr := hX.rise8
      obtain ⟨ho50, hofew⟩ := HFB.out
      obtain ⟨cd, z', hcd, hbr, hzz, hcz, hcase⟩ := one_calm hz (by omega) (by omega) (by omega) (by omega) hX.pairs hr bo
      have hzs' : sizeS z'.s = SZ := by rw [hzz, hzs]
      have hcd : Hid (allA z [bo] = (cd, z')) := hcd
      have hcz : Hid (CalmS z' n (1 + cs.length + 1)) := hcz
      have hbr : Hid (z'.br = false) := hbr
      have hr : Hid (RiseM z.m) := hr
      have hX : Hid (PSt wr SG L X z) := hX
      have hXd : Hid (∀ q, X q → w.heap.size ≤ q) := hXd
      have hP : Hid (PairsB w wr (.slice na z.m.length nc) z.m) := hP
      have hPb : Hid (∀ q, (Value.slice na z.m.length nc).ownBlock = some q → ¬ X q ∧ q < wr.heap.size) := hPb
      have hcase : Hid _ := hcase
      clear hz hzz hofew HV HFC HFB
      go_wp2_with fail
      refine (commit_any8 hX.out _ bo (HBV.out.below hB (Nat.le_refl _))).mono ?_
      rintro e w8 ⟨rfl, hX8, hc8⟩
      rw [hcd.out] at hX8 ⊢
      have hB8 : Below w.heap.size w w8 := hB.trans (hc8.below hXd.out hB.size)
      have hP8 : Hid (PairsB w w8 (.slice na z.m.length nc) z.m) := hP.out.chg hc8 (fun _ q hq => (hPb.out q hq).1)
      have HXd : Hid (∀ q, Fr X wr w8 q → w.heap.size ≤ q) := fr_from hXd.out hB.size
      have HPb8 : Hid (∀ q, (Value.slice na z.m.length nc).ownBlock = some q → ¬ Fr X wr w8 q ∧ q < w8.heap.size) := fun q hq => by
        have h1 := hPb.out q hq
        have h2 := hc8.size
        exact ⟨fun e => by rcases e with e | e; exact h1.1 e; omega, by omega⟩
      have hXh : Hid (PSt w8 SG L (Fr X wr w8) z') := hX8
      clear hX8 hc8 hX hXd hP hPb hB
      rcases hcase.out with h13 | h13 | ⟨rfl, hR, hzm0, -⟩
      · obtain ⟨rfl, hR, hzm0⟩ := h13
        obtain ⟨y, hy, hym, hyz, HAG⟩ := hcz.out.again (by omega) (by omega) (by omega) hXh.out.pairs hXh.out.rise8 hXh.out.size
        obtain ⟨CD, hOD, hCD, hSGn, hcb, hSGl⟩ := hXh.out.od
        rw [hbr.out] at hcb
        have HAG := HAG w8 L CD hOD
        have hsm : Hid (y.m = z.m ∧ y.m.length ≤ 4000) := ⟨by rw [hym, hzm0], by rw [hym]; exact hXh.out.len⟩
        have HCD : Hid (∀ q, CD q → Fr X wr w8 q) := hCD
        clear hzm0 hy hym hyz hOD hcase hXh hCD
        go_wp2_with fail
        refine HAG.mono ?_
        rintro e w9 ⟨SX, rfl, hY9, -, hc9⟩
        have hB9 : Below w.heap.size w w9 := hB8.trans (hc9.below (fun q hq => HXd.out q (HCD.out q hq)) hB8.size)
        have hP9 : Hid (PairsB w w9 (.slice na z.m.length nc) z.m) := hP8.out.chg hc9 (fun _ q hq e => (HPb8.out q hq).1 (HCD.out q e))
        have cb9 : w9.cell? ⟨SG, 2, none⟩ = some (.bool false) := (World.cell?_of_block (w := w8) (a := ⟨SG, 2, none⟩) (hc9.2 SG hSGl hSGn)).trans hcb
        have hSl9 : SG < w9.heap.size := Nat.lt_of_lt_of_le hSGl hc9.size
        have HRG : Hid (Calls Tryz.prog 18 #[.pointer (some ⟨SX, 0, none⟩), .slice none 0 0, .int .i64 5000] w9 fun e w' => RangeOk w9 y.m e w') := range_all hY9 (Below.refl _ _)
        clear HAG hY9 hc9 hcb hP8 HPb8 HXd HCD hB8 hSGl
        go_wp2_with fail
        refine HRG.out.mono ?_
        rintro e wa ⟨va, ca, rfl, hPa, hba⟩
        obtain ⟨aa, naa, rfl⟩ := hPa.sl
        have hBa := blift hB9 hba hB9.size
        have HPI : Hid (PairsIn wa _ y.m) := hPa.read
        have HNI : Hid (PairsIn wa _ z.m) := (hP9.out.after hba).toIn hBa
        have cba : wa.cell? ⟨SG, 2, none⟩ = some (.bool false) := (hba.cell (p := ⟨SG, 2, none⟩) hSl9).trans cb9
        have hSla : SG < wa.heap.size := Nat.lt_of_lt_of_le hSl9 hba.size
        clear hba hPa hP9 cb9 hSl9 hB9 HRG
        go_wp2_with fail
        refine (same8_any _ _ y.m z.m wa HPI.out HNI.out (by have := hsm.out.2; omega)).mono ?_
        rintro e wb ⟨rfl, hbb⟩
        rw [decide_eq_true hsm.out.1]
        have hBb := blift hBa hbb hBa.size
        have cbb : wb.cell? ⟨SG, 2, none⟩ = some (.bool false) := (hbb.cell (p := ⟨SG, 2, none⟩) hSla).trans cba
        clear hbb cba HPI HNI hBa
        go_wp2_with fail
        refine (broken_cell cbb).mono ?_
        rintro e wc ⟨rfl, hwc⟩
        obtain rfl := hwc.symm
        go_wp2_with fail
        go_ret
        exact ⟨rfl, hBb⟩
      · obtain ⟨rfl, hR, hzm0, -⟩ := h13
        obtain ⟨y, hy, hym, hyz, HAG⟩ := hcz.out.again (by omega) (by omega) (by omega) hXh.out.pairs hXh.out.rise8 hXh.out.size
        obtain ⟨CD, hOD, hCD, hSGn, hcb, hSGl⟩ := hXh.out.od
        rw [hbr.out] at hcb
        have HAG := HAG w8 L CD hOD
        have hsm : Hid (y.m = z.m ∧ y.m.length ≤ 4000) := ⟨by rw [hym, hzm0], by rw [hym]; exact hXh.out.len⟩
        have HCD : Hid (∀ q, CD q → Fr X wr w8 q) := hCD
        clear hzm0 hy hym hyz hOD hcase hXh hCD
        go_wp2_with fail
        refine HAG.mono ?_
        rintro e w9 ⟨SX, rfl, hY9, -, hc9⟩
        have hB9 : Below w.heap.size w w9 := hB8.trans (hc9.below (fun q hq => HXd.out q (HCD.out q hq)) hB8.size)
        have hP9 : Hid (PairsB w w9 (.slice na z.m.length nc) z.m) := hP8.out.chg hc9 (fun _ q hq e => (HPb8.out q hq).1 (HCD.out q e))
        have cb9 : w9.cell? ⟨SG, 2, none⟩ = some (.bool false) := (World.cell?_of_block (w := w8) (a := ⟨SG, 2, none⟩) (hc9.2 SG hSGl hSGn)).trans hcb
        have hSl9 : SG < w9.heap.size := Nat.lt_of_lt_of_le hSGl hc9.size
        have HRG : Hid (Calls Tryz.prog 18 #[.pointer (some ⟨SX, 0, none⟩), .slice none 0 0, .int .i64 5000] w9 fun e w' => RangeOk w9 y.m e w') := range_all hY9 (Below.refl _ _)
        clear HAG hY9 hc9 hcb hP8 HPb8 HXd HCD hB8 hSGl
        go_wp2_with fail
        refine HRG.out.mono ?_
        rintro e wa ⟨va, ca, rfl, hPa, hba⟩
        obtain ⟨aa, naa, rfl⟩ := hPa.sl
        have hBa := blift hB9 hba hB9.size
        have HPI : Hid (PairsIn wa _ y.m) := hPa.read
        have HNI : Hid (PairsIn wa _ z.m) := (hP9.out.after hba).toIn hBa
        have cba : wa.cell? ⟨SG, 2, none⟩ = some (.bool false) := (hba.cell (p := ⟨SG, 2, none⟩) hSl9).trans cb9
        have hSla : SG < wa.heap.size := Nat.lt_of_lt_of_le hSl9 hba.size
        clear hba hPa hP9 cb9 hSl9 hB9 HRG
        go_wp2_with fail
        refine (same8_any _ _ y.m z.m wa HPI.out HNI.out (by have := hsm.out.2; omega)).mono ?_
        rintro e wb ⟨rfl, hbb⟩
        rw [decide_eq_true hsm.out.1]
        have hBb := blift hBa hbb hBa.size
        have cbb : wb.cell? ⟨SG, 2, none⟩ = some (.bool false) := (hbb.cell (p := ⟨SG, 2, none⟩) hSla).trans cba
        clear hbb cba HPI HNI hBa
        go_wp2_with fail
        refine (broken_cell cbb).mono ?_
        rintro e wc ⟨rfl, hwc⟩
        obtain rfl := hwc.symm
        go_wp2_with fail
        go_ret
        exact ⟨rfl, hBb⟩
      · have hzm' : Hid (z'.m = doM z.m bo) := hzm0
        have HRG : Hid (Calls Tryz.prog 18 #[.pointer (some ⟨SG, 0, none⟩), .slice none 0 0, .int .i64 5000] w8 fun e w' => RangeOk w8 z'.m e w') := range_all hXh.out (Below.refl _ _)
        have hl4 : Hid (z'.m.length ≤ 4000) := hXh.out.len
        clear hzm0 hcase hXh HPb8 HXd
        go_wp2_with fail
        refine HRG.out.mono ?_
        rintro e wa ⟨va, ca, rfl, hPa, hba⟩
        obtain ⟨aa, naa, rfl⟩ := hPa.sl
        have hBa := blift hB8 hba hB8.size
        have hPn : Hid (PairsB w wa (.slice na z.m.length nc) z.m) := hP8.out.after hba
        have hPa : Hid _ := hPa
        clear hba hP8 hB8 HRG
        go_wp2_with fail
        refine (do8_from w _ z.m _ bo wa hPn.out HBV.out hBa hr.out (by omega)).mono ?_
        rintro e wb ⟨xv, rfl, hNb, hbb, -⟩
        have hBb := blift hBa hbb hBa.size
        have HNI : Hid (PairsIn wb xv (doM z.m bo)) := hNb.toIn hBb
        obtain ⟨xa, xc, rfl, -⟩ := hNb
        have HPI : Hid (PairsIn wb _ z'.m) := (hPa.out.below hbb).read
        clear hbb hPn hPa hBa
        go_wp2_with fail
        refine (same8_any _ _ z'.m (doM z.m bo) wb HPI.out HNI.out (by have := hl4.out; omega)).mono ?_
        rintro e wc ⟨rfl, hbc⟩
        rw [decide_eq_true hzm'.out]
        have hBc := blift hBb hbc hBb.size
        clear hbc hBb HPI HNI
        go_wp2_with fail
        go_ret
        exact ⟨rfl, hBc⟩
end Go.Proofs.YtghbkbhoeffphaaGreat
