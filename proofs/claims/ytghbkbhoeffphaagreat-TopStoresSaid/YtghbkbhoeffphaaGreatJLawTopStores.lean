/-
  What is proved here: of all changes and booleans, the statement TopStores answers true: changes are all there behind crashes that lose all that they may.
  Conditions: none.
-/
import Derived.Test.YtghbkbhoeffphaaGreatJStoreAgain
import Derived.Test.YtghbkbhoeffphaaGreatJStoreAwake
import Derived.Test.YtghbkbhoeffphaaGreatJLawStoreAtOnce
import Derived.Test.YtghbkbhoeffphaaGreatJBoolsIn8
import Derived.Deep.QuietTactic
import Derived.BigQuiet
namespace Go.Proofs.YtghbkbhoeffphaaGreat
open Go.RowKit Go.Maps

set_option maxRecDepth 100000 in
set_option maxHeartbeats 16000000 in
theorem topStores_any (v : Value) (cs : List (List OpB)) (sv : Value) (stay : List Bool) (w : World) (h : ChgsV w v cs) (hs : BoolsIn8 w sv stay) :
    Calls Tryz.prog 8 #[v, sv] w fun e w' => e = .returned (.bool true) ∧ Below w.heap.size w w' := by
  have HV : Hid (ChgsV w v cs) := h
  have HS : Hid (BoolsIn8 w sv stay) := hs
  obtain ⟨ao, c, rfl, hcm, -⟩ := h
  obtain ⟨ta, tc, rfl, -⟩ := hs
  unfold maxLen at hcm
  obtain ⟨x, hx, hxm, hxs, HOP⟩ := open_new 200 (by rw [newS_size]; decide) (by decide)
  rw [newS_size] at hxs
  have hx2 : Hid (CalmS x 200 1 ∧ x.m = [] ∧ sizeS x.s = 12672) := ⟨hx, hxm, hxs⟩
  have HOP : Hid (∀ (w : World) (L : PLay) (C : Nat → Prop), OD w L C (newS 200) → Calls Tryz.prog 12 #[.pointer (some ⟨L.g, 0, none⟩)] w fun e w' => Opened w L C x e w') := HOP
  clear hx hxm hxs
  go_enter Tryz.func8, Tryz.ntmps8
  go_wp2_with fail
  refine (od_new 200 w (by decide) (by decide)).mono ?_
  rintro e w3 ⟨L, rfl, hD3, hB3, hT3, -⟩
  by_cases hst : 5000 < stay.length
  · have j1 : (5000 : Int) < (stay.length : Int) := by omega
    go_wp2_with fail
    go_ret
    exact ⟨rfl, hB3⟩
  have j1 : ¬ (5000 : Int) < (stay.length : Int) := by omega
  go_wp2_with fail
  refine (HOP.out w3 L L.T hD3).mono ?_
  rintro e w5 ⟨SG, rfl, hS5, -, hc5⟩
  have hB5 : Below w.heap.size w w5 := hB3.trans (hc5.below hT3 hB3.size)
  have hC5 : ∀ q, Fr L.T w3 w5 q → w.heap.size ≤ q := fr_from hT3 hB3.size
  obtain ⟨C5, hCC⟩ : ∃ C, C = Fr L.T w3 w5 := ⟨_, rfl⟩
  rw [← hCC] at hS5 hC5
  have hS5 : Hid (PSt w5 SG L C5 x) := hS5
  have hC5 : Hid (∀ q, C5 q → w.heap.size ≤ q) := hC5
  have HTT : Hid (∀ q, L.T q → w.heap.size ≤ q) := hT3
  clear hCC hc5 hD3 hT3 hB3 HOP
  go_wp2_with fail
  go_loopw [7, 8, 9, 10, 11] (fun pv f nv sz i wr => ∃ (I ZN SG : Nat) (X : Nat → Prop) (z : SS), pv = .pointer (some ⟨SG, 0, none⟩) ∧ f = .int .i64 0 ∧ sz = .int .i64 (ZN : Int) ∧ ZN ≤ 36000 ∧ i = .int .i64 (I : Int) ∧ I ≤ cs.length ∧ I ≤ 40 ∧ PSt wr SG L X z ∧ CalmS z 200 (1 + 2 * I) ∧ sizeS z.s = 12672 ∧ (∀ q, X q → w.heap.size ≤ q) ∧ PairsB w wr nv z.m ∧ (∀ q, nv.ownBlock = some q → ¬ X q ∧ q < wr.heap.size) ∧ Below w.heap.size w wr) (fun _ _ _ _ i _ => cs.length - (intOf i).toNat)
  case atStart => exact ⟨0, 0, SG, C5, x, rfl, rfl, rfl, Nat.zero_le _, rfl, Nat.zero_le _, Nat.zero_le _, hS5.out, hx2.out.1, hx2.out.2.2, hC5.out, by rw [hx2.out.2.1]; exact PairsB.nil _ _, fun q hq => (by cases hq), hB5⟩
  case round =>
    clear hB5 hS5 hC5 hx2
    obtain ⟨I, ZN, SG, X, z, rfl, rfl, rfl, hZN, rfl, hI, hI40, hX, hz, hzs, hXd, hP, hPb, hB⟩ := hrel
    obtain ⟨na, nc, rfl, -⟩ := id hP
    by_cases hlt : I < cs.length
    case neg =>
      have i1 : ¬ (I : Int) < (cs.length : Int) := by omega
      clear hX hz hP hPb
      go_wp2_with fail
      go_ret
      exact ⟨rfl, hB⟩
    have i1 : (I : Int) < (cs.length : Int) := by omega
    by_cases h40 : I < 40
    case neg =>
      have i2 : ¬ (I : Int) < 40 := by omega
      clear hX hz hP hPb
      go_wp2_with fail
      go_ret
      exact ⟨rfl, hB⟩
    have i2 : (I : Int) < 40 := by omega
    have hg : cs[I]? = some cs[I] := List.getElem?_eq_getElem hlt
    obtain ⟨o, ho⟩ : ∃ o, cs[I] = o := ⟨_, rfl⟩
    rw [ho] at hg
    clear ho
    obtain ⟨ao', c', he, -, hat⟩ := HV.out
    cases he
    obtain ⟨b, off, rfl, hbl, u, c0, hu⟩ := hat I o hg
    obtain ⟨uo, uc, rfl, hol, huat⟩ := id hu
    have hix := index_chgs b off cs.length c I hlt
    have HCU : Hid (∀ V, Below w.heap.size w V → V.cell? ⟨b, off + I, none⟩ = some (.slice uo o.length uc)) := fun V hV => (hV.cell (p := ⟨b, off + I, none⟩) hbl).trans c0
    have HU : Hid (OpsV w (.slice uo o.length uc) o) := hu
    have cu := HCU.out wr hB
    clear hat hg hu c0 HV
    by_cases h100 : 100 < o.length
    · have i3 : (100 : Int) < (o.length : Int) := by omega
      clear hX hz hP hPb huat
      go_wp2_with fail
      go_ret
      exact ⟨rfl, hB⟩
    have i3 : ¬ (100 : Int) < (o.length : Int) := by omega
    have hr := hX.rise8
    have hl4 := hX.len
    obtain ⟨cd, z', hcd, hbr, hzz, hcz, hcase⟩ := one_calm hz (by omega) (by omega) (by omega) (by omega) hX.pairs hr o
    have hzs' : sizeS z'.s = 12672 := by rw [hzz, hzs]
    have hcd : Hid (allA z [o] = (cd, z')) := hcd
    have hcz : Hid (CalmS z' 200 (1 + 2 * I + 1)) := hcz
    have hcase : Hid (((cd == 0) = false ∧ z'.m = z.m) ∨ (cd = 0 ∧ z'.m = doM z.m o)) := by
      rcases hcase with ⟨rfl, _, h3⟩ | ⟨rfl, _, h3, _⟩ | ⟨rfl, _, h3, _⟩
      · exact .inl ⟨rfl, h3⟩
      · exact .inl ⟨rfl, h3⟩
      · exact .inr ⟨rfl, h3⟩
    have hr : Hid (RiseM z.m) := hr
    have hX : Hid (PSt wr SG L X z) := hX
    have hXd : Hid (∀ q, X q → w.heap.size ≤ q) := hXd
    have hP : Hid (PairsB w wr (.slice na z.m.length nc) z.m) := hP
    have hPb : Hid (∀ q, (Value.slice na z.m.length nc).ownBlock = some q → ¬ X q ∧ q < wr.heap.size) := hPb
    have HUA : Hid (∀ (K : Nat) y, o[K]? = some y → ∃ b off, uo = some ⟨b, off, none⟩ ∧ b < w.heap.size ∧ OpAt w b (off + K * 3) y) := huat
    obtain ⟨wi, hwi⟩ : ∃ wi : World, wi = wr := ⟨_, rfl⟩
    rw [← hwi] at hX hP hPb hB cu ⊢
    clear hwi hz hzz hbr huat
    go_wp2_with fail
    go_loopw [10, 12] (fun sz k wr => ∃ (K ZN m : Nat), sz = .int .i64 (ZN : Int) ∧ ZN ≤ 36000 ∧ k = .int .i64 (K : Int) ∧ K ≤ o.length ∧ wr = wi.drewN m) (fun _ k _ => o.length - (intOf k).toNat)
    case atStart => exact ⟨0, ZN, 0, rfl, hZN, rfl, Nat.zero_le _, rfl⟩
    case round =>
      obtain ⟨K, ZM, m, rfl, hZM, rfl, hK, rfl⟩ := hrel
      have hBm : Below w.heap.size w (wi.drewN m) := Below.drewN hB m
      have cum := HCU.out _ hBm
      by_cases hkl : K < o.length
      · obtain ⟨y, hy⟩ : ∃ y, o[K]? = some y := ⟨o[K], List.getElem?_eq_getElem hkl⟩
        obtain ⟨ob, oo, rfl, hobl, ka, kc, va, vc, d0, d1, d2, -⟩ := HUA.out K y hy
        have k1 : (K : Int) < (o.length : Int) := by omega
        have e0 : wi.cell? ⟨ob, oo + K * 3, none⟩ = some (.slice ka y.key.length kc) := (hB.cell (p := ⟨ob, oo + K * 3, none⟩) hobl).trans d0
        have e2 : wi.cell? ⟨ob, oo + K * 3 + 2, none⟩ = some (.slice va y.val.length vc) := (hB.cell (p := ⟨ob, oo + K * 3 + 2, none⟩) hobl).trans d2
        have cuw : wi.cell? ⟨b, off + I, none⟩ = some (.slice (some ⟨ob, oo, none⟩) o.length uc) := HCU.out _ hB
        have hio := index_ops ob oo o.length uc K hkl
        clear d0 d1 d2 cum cu hy HCU
        by_cases a1 : 1000 < y.key.length
        · have j2 : (1000 : Int) < (y.key.length : Int) := by omega
          go_wp2_with fail
          go_ret
          exact ⟨rfl, hBm⟩
        have j2 : ¬ (1000 : Int) < (y.key.length : Int) := by omega
        by_cases a2 : 5000 < y.val.length
        · have j3 : (5000 : Int) < (y.val.length : Int) := by omega
          go_wp2_with fail
          go_ret
          exact ⟨rfl, hBm⟩
        have j3 : ¬ (5000 : Int) < (y.val.length : Int) := by omega
        by_cases a3 : 30000 < ZM
        · have j4 : (30000 : Int) < (ZM : Int) := by omega
          go_wp2_with fail
          go_ret
          exact ⟨rfl, hBm⟩
        have j4 : ¬ (30000 : Int) < (ZM : Int) := by omega
        go_wp2_with fail
        go_quiet (fail)
        go_wp2
        go_roundw
        case rel => exact ⟨K + 1, ZM + y.key.length + y.val.length, _, by go_num, by omega, by go_num, hkl, rfl⟩
        case measure => simp [intOf]; omega
      · obtain rfl : K = o.length := by omega
        have k1 : ¬ (o.length : Int) < (o.length : Int) := by omega
        obtain ⟨wj, hwj⟩ : ∃ W, W = wi.drewN m := ⟨_, rfl⟩
        have hbj : Below wi.heap.size wi wj := by rw [hwj]; exact Below.drewN (Below.refl _ _) m
        rw [← hwj] at hBm cum ⊢
        have hXj : Hid (PSt wj SG L X z) := hX.out.after hbj
        have hPj : Hid (PairsB w wj (.slice na z.m.length nc) z.m) := hP.out.after hbj
        have hPbj : Hid (∀ q, (Value.slice na z.m.length nc).ownBlock = some q → ¬ X q ∧ q < wj.heap.size) := fun q hq => by have h1 := hPb.out q hq; have h2 := hbj.size; exact ⟨h1.1, by omega⟩
        clear hwj hbj hX hP hPb hB cu HUA
        go_wp2_with fail
        refine (commit_any8 hXj.out _ o (HU.out.below hBm (Nat.le_refl _))).mono ?_
        rintro e w8 ⟨rfl, hX8, hc8⟩
        rw [hcd.out] at hX8 ⊢
        have hB8 : Below w.heap.size w w8 := hBm.trans (hc8.below hXd.out hBm.size)
        have hP8 : Hid (PairsB w w8 (.slice na z.m.length nc) z.m) := hPj.out.chg hc8 (fun _ q hq => (hPbj.out q hq).1)
        have HXd8 : Hid (∀ q, Fr X wj w8 q → w.heap.size ≤ q) := fr_from hXd.out hBm.size
        have HPb8 : Hid (∀ q, (Value.slice na z.m.length nc).ownBlock = some q → ¬ Fr X wj w8 q ∧ q < w8.heap.size) := fun q hq => by
          have h1 := hPbj.out q hq
          have h2 := hc8.size
          exact ⟨fun e => by rcases e with e | e; exact h1.1 e; omega, by omega⟩
        have hXh : Hid (PSt w8 SG L (Fr X wj w8) z') := hX8
        have cu8 := HCU.out w8 hB8
        clear hX8 hc8 hXj hPj hPbj hXd hBm cum hcd
        rcases hcase.out with ⟨hne, hzm⟩ | ⟨rfl, hzm⟩
        · clear hcase
          have hPc : Hid (PairsB w w8 (.slice na z.m.length nc) z'.m) := by show PairsB w w8 _ z'.m; rw [hzm]; exact hP8.out
          have hXc : Hid (PSt w8 SG L (Fr X wj w8) z') := hXh.out
          clear hXh hP8 hzm cu8
          by_cases hm : I % 5 = 4
          · have hm5 : ((I : Int) % 5 == 4) = true := by simp; omega
            obtain ⟨y, hy, hym, hyz, HAG⟩ := hcz.out.again (by omega) (by omega) (by omega) hXc.out.pairs hXc.out.rise8 hXc.out.size
            obtain ⟨CD, hOD, hCD, hSGn, -, -⟩ := hXc.out.od
            have hcl := crash_clean hcz.out.stand.calm hcz.out.stand.clean stay (-1) 0
            have HAG : Hid (∀ (w : World) (L : PLay) (C : Nat → Prop), OD w L C z'.s → Calls Tryz.prog 12 #[.pointer (some ⟨L.g, 0, none⟩)] w fun e w' => Opened w L C y e w') := HAG
            have hPy : Hid (PairsB w w8 (.slice na z.m.length nc) y.m) := by show PairsB w w8 _ y.m; rw [hym]; exact hPc.out
            have HCR := od_crash L CD z'.s _ stay (-1) 0 w8 hOD (HS.out.apart hB8 HTT.out)
            rw [hcl] at HCR
            have hy : Hid (CalmS y 200 (1 + 2 * I + 1 + 1)) := hy
            have HCD : Hid (∀ q, CD q → Fr X wj w8 q) := hCD
            have hyz : sizeS y.s = 12672 := by rw [hyz]; exact hzs'
            clear hcl hOD hCD hym hPc hXc hcz hzs'
            go_wp2_with fail
            refine HCR.mono ?_
            rintro e w10 ⟨rfl, hD10, hc10⟩
            have hB10 : Below w.heap.size w w10 := hB8.trans (hc10.below (fun q hq => HXd8.out q (HCD.out q hq)) hB8.size)
            have hP10 : Hid (PairsB w w10 (.slice na z.m.length nc) y.m) := hPy.out.chg hc10 (fun _ q hq e => (HPb8.out q hq).1 (HCD.out q e))
            have HPb10 : Hid (∀ q, (Value.slice na z.m.length nc).ownBlock = some q → ¬ Fr CD w8 w10 q ∧ q < w10.heap.size) := fun q hq => by
              have h1 := HPb8.out q hq
              have h2 := hc10.size
              exact ⟨fun e => by rcases e with e | e; exact h1.1 (HCD.out q e); omega, by omega⟩
            have HXd10 : Hid (∀ q, Fr CD w8 w10 q → w.heap.size ≤ q) := fr_from (fun q hq => HXd8.out q (HCD.out q hq)) hB8.size
            have HOP := HAG.out w10 L _ hD10
            clear HCR hD10 hc10 hPy HAG HCD
            go_wp2_with fail
            refine HOP.mono ?_
            rintro e w11 ⟨SX, rfl, hY11, -, hc11⟩
            have hB11 : Below w.heap.size w w11 := hB10.trans (hc11.below HXd10.out hB10.size)
            have hP11 : Hid (PairsB w w11 (.slice na z.m.length nc) y.m) := hP10.out.chg hc11 (fun _ q hq e => (HPb10.out q hq).1 e)
            have HPb11 : Hid (∀ q, (Value.slice na z.m.length nc).ownBlock = some q → ¬ Fr (Fr CD w8 w10) w10 w11 q ∧ q < w11.heap.size) := fun q hq => by
              have h1 := HPb10.out q hq
              have h2 := hc11.size
              exact ⟨fun e => by rcases e with e | e; exact h1.1 e; omega, by omega⟩
            have HXd11 : Hid (∀ q, Fr (Fr CD w8 w10) w10 w11 q → w.heap.size ≤ q) := fr_from HXd10.out hB10.size
            have hY : Hid (PSt w11 SX L (Fr (Fr CD w8 w10) w10 w11) y) := hY11
            clear HOP hY11 hc11 hP10 HPb10 HXd10 hB10
            have HRG : Hid (Calls Tryz.prog 18 #[.pointer (some ⟨SX, 0, none⟩), .slice none 0 0, .int .i64 5000] w11 fun e w' => RangeOk w11 y.m e w') := range_all hY.out (Below.refl _ _)
            have hl5 : Hid (y.m.length ≤ 4000) := hY.out.len
            go_wp2_with fail
            refine HRG.out.mono ?_
            rintro e wa ⟨va, ca, rfl, hPa, hba⟩
            obtain ⟨aa, naa, rfl⟩ := hPa.sl
            have hBa := blift hB11 hba hB11.size
            have HPI : Hid (PairsIn wa _ y.m) := hPa.read
            have HPn : Hid (PairsB w wa (.slice na z.m.length nc) y.m) := hP11.out.after hba
            have HNI : Hid (PairsIn wa _ y.m) := HPn.out.toIn hBa
            have hSa : Hid (PSt wa SX L (Fr (Fr CD w8 w10) w10 w11) y) := hY.out.after hba
            have sa := hba.size
            clear hba hPa HRG
            go_wp2_with fail
            refine (same8_any _ _ y.m y.m wa HPI.out HNI.out (by have := hl5.out; omega)).mono ?_
            rintro e wb ⟨rfl, hbb⟩
            rw [decide_eq_true rfl]
            have hBb := blift hBa hbb hBa.size
            have HPm : Hid (PairsB w wb (.slice na z.m.length nc) y.m) := HPn.out.after hbb
            have hSb : Hid (PSt wb SX L (Fr (Fr CD w8 w10) w10 w11) y) := hSa.out.after hbb
            have sb := hbb.size
            clear hbb HPI HNI HPn hSa hBa
            go_wp2_with fail
            go_roundw
            case rel => exact ⟨I + 1, ZM, SX, _, y, rfl, rfl, rfl, hZM, by go_num, hlt, by omega, hSb.out, hy.out.later (by omega), hyz, HXd11.out, HPm.out, fun q hq => ⟨(HPb11.out q hq).1, by have := (HPb11.out q hq).2; omega⟩, hBb⟩
            case measure => simp [intOf]; omega
          · have hm5 : ((I : Int) % 5 == 4) = false := by simp; omega
            have HRG : Hid (Calls Tryz.prog 18 #[.pointer (some ⟨SG, 0, none⟩), .slice none 0 0, .int .i64 5000] w8 fun e w' => RangeOk w8 z'.m e w') := range_all hXc.out (Below.refl _ _)
            have hl5 : Hid (z'.m.length ≤ 4000) := hXc.out.len
            go_wp2_with fail
            refine HRG.out.mono ?_
            rintro e wa ⟨va, ca, rfl, hPa, hba⟩
            obtain ⟨aa, naa, rfl⟩ := hPa.sl
            have hBa := blift hB8 hba hB8.size
            have HPI : Hid (PairsIn wa _ z'.m) := hPa.read
            have HPn : Hid (PairsB w wa (.slice na z.m.length nc) z'.m) := hPc.out.after hba
            have HNI : Hid (PairsIn wa _ z'.m) := HPn.out.toIn hBa
            have hSa : Hid (PSt wa SG L (Fr X wj w8) z') := hXc.out.after hba
            have sa := hba.size
            clear hba hPa HRG
            go_wp2_with fail
            refine (same8_any _ _ z'.m z'.m wa HPI.out HNI.out (by have := hl5.out; omega)).mono ?_
            rintro e wb ⟨rfl, hbb⟩
            rw [decide_eq_true rfl]
            have hBb := blift hBa hbb hBa.size
            have HPm : Hid (PairsB w wb (.slice na z.m.length nc) z'.m) := HPn.out.after hbb
            have hSb : Hid (PSt wb SG L (Fr X wj w8) z') := hSa.out.after hbb
            have sb := hbb.size
            clear hbb HPI HNI HPn hSa hBa
            go_wp2_with fail
            go_roundw
            case rel => exact ⟨I + 1, ZM, SG, _, z', rfl, rfl, rfl, hZM, by go_num, hlt, by omega, hSb.out, hcz.out.later (by omega), hzs', HXd8.out, HPm.out, fun q hq => ⟨(HPb8.out q hq).1, by have := (HPb8.out q hq).2; omega⟩, hBb⟩
            case measure => simp [intOf]; omega
        · clear hcase
          go_wp2_with fail
          refine (do8_from w _ z.m _ o w8 hP8.out HU.out hB8 hr.out (by omega)).mono ?_
          rintro e w9 ⟨xv, rfl, hN9, hb9, hxo⟩
          have hB9 := blift hB8 hb9 hB8.size
          have HPb9 : Hid (∀ q, xv.ownBlock = some q → ¬ Fr X wj w8 q ∧ q < w9.heap.size) := fun q hq => by
            have h2 := hb9.size
            rcases hxo q hq with h1 | h1
            · have h3 := HPb8.out q h1
              exact ⟨h3.1, by omega⟩
            · exact ⟨fun e => by have := hXh.out.lt q e; omega, h1.2⟩
          have hPc : Hid (PairsB w w9 xv z'.m) := by show PairsB w w9 xv z'.m; rw [hzm]; exact hN9
          obtain ⟨xa, xc, rfl, -⟩ := hN9
          have hXc : Hid (PSt w9 SG L (Fr X wj w8) z') := hXh.out.after hb9
          clear hb9 hxo hXh hP8 HPb8 hB8 cu8 hzm
          by_cases hm : I % 5 = 4
          · have hm5 : ((I : Int) % 5 == 4) = true := by simp; omega
            obtain ⟨y, hy, hym, hyz, HAG⟩ := hcz.out.again (by omega) (by omega) (by omega) hXc.out.pairs hXc.out.rise8 hXc.out.size
            obtain ⟨CD, hOD, hCD, hSGn, -, -⟩ := hXc.out.od
            have hcl := crash_clean hcz.out.stand.calm hcz.out.stand.clean stay (-1) 0
            have HAG : Hid (∀ (w : World) (L : PLay) (C : Nat → Prop), OD w L C z'.s → Calls Tryz.prog 12 #[.pointer (some ⟨L.g, 0, none⟩)] w fun e w' => Opened w L C y e w') := HAG
            have hPy : Hid (PairsB w w9 (.slice xa (doM z.m o).length xc) y.m) := by show PairsB w w9 _ y.m; rw [hym]; exact hPc.out
            have HCR := od_crash L CD z'.s _ stay (-1) 0 w9 hOD (HS.out.apart hB9 HTT.out)
            rw [hcl] at HCR
            have hy : Hid (CalmS y 200 (1 + 2 * I + 1 + 1)) := hy
            have HCD : Hid (∀ q, CD q → Fr X wj w8 q) := hCD
            have hyz : sizeS y.s = 12672 := by rw [hyz]; exact hzs'
            clear hcl hOD hCD hym hPc hXc hcz hzs'
            go_wp2_with fail
            refine HCR.mono ?_
            rintro e w10 ⟨rfl, hD10, hc10⟩
            have hB10 : Below w.heap.size w w10 := hB9.trans (hc10.below (fun q hq => HXd8.out q (HCD.out q hq)) hB9.size)
            have hP10 : Hid (PairsB w w10 (.slice xa (doM z.m o).length xc) y.m) := hPy.out.chg hc10 (fun _ q hq e => (HPb9.out q hq).1 (HCD.out q e))
            have HPb10 : Hid (∀ q, (Value.slice xa (doM z.m o).length xc).ownBlock = some q → ¬ Fr CD w9 w10 q ∧ q < w10.heap.size) := fun q hq => by
              have h1 := HPb9.out q hq
              have h2 := hc10.size
              exact ⟨fun e => by rcases e with e | e; exact h1.1 (HCD.out q e); omega, by omega⟩
            have HXd10 : Hid (∀ q, Fr CD w9 w10 q → w.heap.size ≤ q) := fr_from (fun q hq => HXd8.out q (HCD.out q hq)) hB9.size
            have HOP := HAG.out w10 L _ hD10
            clear HCR hD10 hc10 hPy HAG HCD
            go_wp2_with fail
            refine HOP.mono ?_
            rintro e w11 ⟨SX, rfl, hY11, -, hc11⟩
            have hB11 : Below w.heap.size w w11 := hB10.trans (hc11.below HXd10.out hB10.size)
            have hP11 : Hid (PairsB w w11 (.slice xa (doM z.m o).length xc) y.m) := hP10.out.chg hc11 (fun _ q hq e => (HPb10.out q hq).1 e)
            have HPb11 : Hid (∀ q, (Value.slice xa (doM z.m o).length xc).ownBlock = some q → ¬ Fr (Fr CD w9 w10) w10 w11 q ∧ q < w11.heap.size) := fun q hq => by
              have h1 := HPb10.out q hq
              have h2 := hc11.size
              exact ⟨fun e => by rcases e with e | e; exact h1.1 e; omega, by omega⟩
            have HXd11 : Hid (∀ q, Fr (Fr CD w9 w10) w10 w11 q → w.heap.size ≤ q) := fr_from HXd10.out hB10.size
            have hY : Hid (PSt w11 SX L (Fr (Fr CD w9 w10) w10 w11) y) := hY11
            clear HOP hY11 hc11 hP10 HPb10 HXd10 hB10
            have HRG : Hid (Calls Tryz.prog 18 #[.pointer (some ⟨SX, 0, none⟩), .slice none 0 0, .int .i64 5000] w11 fun e w' => RangeOk w11 y.m e w') := range_all hY.out (Below.refl _ _)
            have hl5 : Hid (y.m.length ≤ 4000) := hY.out.len
            go_wp2_with fail
            refine HRG.out.mono ?_
            rintro e wa ⟨va, ca, rfl, hPa, hba⟩
            obtain ⟨aa, naa, rfl⟩ := hPa.sl
            have hBa := blift hB11 hba hB11.size
            have HPI : Hid (PairsIn wa _ y.m) := hPa.read
            have HPn : Hid (PairsB w wa (.slice xa (doM z.m o).length xc) y.m) := hP11.out.after hba
            have HNI : Hid (PairsIn wa _ y.m) := HPn.out.toIn hBa
            have hSa : Hid (PSt wa SX L (Fr (Fr CD w9 w10) w10 w11) y) := hY.out.after hba
            have sa := hba.size
            clear hba hPa HRG
            go_wp2_with fail
            refine (same8_any _ _ y.m y.m wa HPI.out HNI.out (by have := hl5.out; omega)).mono ?_
            rintro e wb ⟨rfl, hbb⟩
            rw [decide_eq_true rfl]
            have hBb := blift hBa hbb hBa.size
            have HPm : Hid (PairsB w wb (.slice xa (doM z.m o).length xc) y.m) := HPn.out.after hbb
            have hSb : Hid (PSt wb SX L (Fr (Fr CD w9 w10) w10 w11) y) := hSa.out.after hbb
            have sb := hbb.size
            clear hbb HPI HNI HPn hSa hBa
            go_wp2_with fail
            go_roundw
            case rel => exact ⟨I + 1, ZM, SX, _, y, rfl, rfl, rfl, hZM, by go_num, hlt, by omega, hSb.out, hy.out.later (by omega), hyz, HXd11.out, HPm.out, fun q hq => ⟨(HPb11.out q hq).1, by have := (HPb11.out q hq).2; omega⟩, hBb⟩
            case measure => simp [intOf]; omega
          · have hm5 : ((I : Int) % 5 == 4) = false := by simp; omega
            have HRG : Hid (Calls Tryz.prog 18 #[.pointer (some ⟨SG, 0, none⟩), .slice none 0 0, .int .i64 5000] w9 fun e w' => RangeOk w9 z'.m e w') := range_all hXc.out (Below.refl _ _)
            have hl5 : Hid (z'.m.length ≤ 4000) := hXc.out.len
            go_wp2_with fail
            refine HRG.out.mono ?_
            rintro e wa ⟨va, ca, rfl, hPa, hba⟩
            obtain ⟨aa, naa, rfl⟩ := hPa.sl
            have hBa := blift hB9 hba hB9.size
            have HPI : Hid (PairsIn wa _ z'.m) := hPa.read
            have HPn : Hid (PairsB w wa (.slice xa (doM z.m o).length xc) z'.m) := hPc.out.after hba
            have HNI : Hid (PairsIn wa _ z'.m) := HPn.out.toIn hBa
            have hSa : Hid (PSt wa SG L (Fr X wj w8) z') := hXc.out.after hba
            have sa := hba.size
            clear hba hPa HRG
            go_wp2_with fail
            refine (same8_any _ _ z'.m z'.m wa HPI.out HNI.out (by have := hl5.out; omega)).mono ?_
            rintro e wb ⟨rfl, hbb⟩
            rw [decide_eq_true rfl]
            have hBb := blift hBa hbb hBa.size
            have HPm : Hid (PairsB w wb (.slice xa (doM z.m o).length xc) z'.m) := HPn.out.after hbb
            have hSb : Hid (PSt wb SG L (Fr X wj w8) z') := hSa.out.after hbb
            have sb := hbb.size
            clear hbb HPI HNI HPn hSa hBa
            go_wp2_with fail
            go_roundw
            case rel => exact ⟨I + 1, ZM, SG, _, z', rfl, rfl, rfl, hZM, by go_num, hlt, by omega, hSb.out, hcz.out.later (by omega), hzs', HXd8.out, HPm.out, fun q hq => ⟨(HPb9.out q hq).1, by have := (HPb9.out q hq).2; omega⟩, hBb⟩
            case measure => simp [intOf]; omega
end Go.Proofs.YtghbkbhoeffphaaGreat
