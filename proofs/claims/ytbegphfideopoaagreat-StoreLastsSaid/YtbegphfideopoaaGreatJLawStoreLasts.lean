/-
  What is proved here: of all numbers of sectors and steps, the statement StoreLasts answers true.
  Conditions: none.
-/
import Derived.Test.YtbegphfideopoaaGreatJStorePlan
namespace Go.Proofs.YtbegphfideopoaaGreat
open Go.RowKit Go.Maps

theorem Steps8.below {w w' : World} {v : Value} {l : List St8} (h : Steps8 w v l) (hb : Below w.heap.size w w') : Steps8 w' v l := by
  obtain ⟨ao, c, rfl, hm, hat⟩ := h
  refine ⟨ao, c, rfl, hm, fun i a ha => ?_⟩
  obtain ⟨q, off, u, bv, sv, e, hq, hc, hA⟩ := hat i a ha
  refine ⟨q, off, u, bv, sv, e, Nat.lt_of_lt_of_le hq hb.size, fun j x hx => (hb.cell (p := ⟨q, off + i * 6 + j, none⟩) hq).trans (hc j x hx), hA.cs.below hb (Nat.le_refl _), hA.b.below hb (Nat.le_refl _), ?_⟩
  obtain ⟨sa, sc, h1, h2⟩ := hA.stay
  refine ⟨sa, sc, h1, fun j b hj => ?_⟩
  obtain ⟨q, off, e, hq, hc⟩ := h2 j b hj
  exact ⟨q, off, e, Nat.lt_of_lt_of_le hq hb.size, (hb.cell (p := ⟨q, off + j, none⟩) hq).trans hc⟩
theorem doM_len : ∀ (ops : List OpB) (m : PM), (doM m ops).length ≤ m.length + ops.length
  | [], _ => Nat.le_refl _
  | o :: ops, m => by
    have h1 := doM_len ops (doOp m o)
    have h2 := do_len8 m o
    show (doM (doOp m o) ops).length ≤ m.length + (ops.length + 1)
    omega
theorem doAll_take (m : PM) {cs : List (List OpB)} {K : Nat} {o : List OpB} (h : cs[K]? = some o) : doAll m (cs.take (K + 1)) = doM (doAll m (cs.take K)) o := by
  rw [List.take_add_one, h]
  exact doAll_app m (cs.take K) [o]
/-- What a round finds, and leaves. -/
structure LastI (w wr : World) (n : Nat) (L : PLay) (SG : Nat) (X : Nat → Prop) (x : SS) (nv : Value) (g : Nat) (os : List (List OpB)) : Prop where
  st : PSt wr SG L X x
  off : ∀ q, X q → w.heap.size ≤ q
  ps : PairsO wr X nv x.m
  b : Below w.heap.size w wr
  is : (x.br = false ∧ SoundS x n g) ∨ (x.br = true ∧ BrokeS x.s n g x.m (doAll x.m os))
theorem LastI.rise {w wr : World} {n : Nat} {L : PLay} {SG : Nat} {X : Nat → Prop} {x : SS} {nv : Value} {g : Nat} {os : List (List OpB)} (h : LastI w wr n L SG X x nv g os) : RiseM x.m := by
  obtain ⟨G, Mb, CL, CV, hP, -⟩ := h.st.body
  exact hP.map.rise
theorem LastI.after {w wr W : World} {n : Nat} {L : PLay} {SG : Nat} {X : Nat → Prop} {x : SS} {nv : Value} {g : Nat} {os : List (List OpB)} (h : LastI w wr n L SG X x nv g os) (hb : Below wr.heap.size wr W) : LastI w W n L SG X x nv g os :=
  ⟨h.st.after hb, h.off, h.ps.after hb, blift h.b hb h.b.size, h.is⟩
theorem LastI.later {w wr : World} {n : Nat} {L : PLay} {SG : Nat} {X : Nat → Prop} {x : SS} {nv : Value} {g g' : Nat} {os : List (List OpB)} (h : LastI w wr n L SG X x nv g os) (hg : g ≤ g') : LastI w wr n L SG X x nv g' os :=
  ⟨h.st, h.off, h.ps, h.b, h.is.elim (fun e => .inl ⟨e.1, e.2.later hg⟩) (fun e => .inr ⟨e.1, e.2.1, fun stay torn cut => (e.2.2 stay torn cut).elim (fun k => .inl (k.later hg)) (fun k => .inr (k.later hg))⟩)⟩

set_option maxRecDepth 100000 in
set_option maxHeartbeats 16000000 in
theorem storeLasts_any (z0 : Int) (v : Value) (l : List St8) (w : World) (h : Steps8 w v l) :
    Calls Tryz.prog 3 #[.int .i64 z0, v] w fun e w' => e = .returned (.bool true) ∧ Below w.heap.size w w' := by
  have HV : Hid (Steps8 w v l) := h
  obtain ⟨ao, c, rfl, hlm, -⟩ := h
  unfold maxLen at hlm
  go_enter Tryz.func3, Tryz.ntmps3
  go_wp2_with fail
  refine (awake8_any w).mono ?_
  rintro e w1 ⟨rfl, hB1⟩
  have HMU : Hid (Calls Tryz.prog 10 #[.slice ao l.length c] w1 fun e w' => MuchOk (l.map St8.q) e w1 w') := much8_any _ (l.map St8.q) w1 (HV.out.below hB1).toQ
  go_wp2_with fail
  refine HMU.out.mono ?_
  rintro e w1' ⟨r, rfl, hfew, hw⟩
  obtain rfl := hw.symm
  clear hw HMU
  cases r with
  | true =>
    clear hfew
    go_wp2_with fail
    go_ret
    exact ⟨rfl, hB1⟩
  | false =>
  have HFEW : Hid (∀ (i : Nat) a, l[i]? = some a → i < 100 → stepFew a.q) := fun i a ha hi => hfew rfl i a.q (by rw [List.getElem?_map, ha]; rfl) hi
  clear hfew
  by_cases hlo : z0 < 40
  · go_wp2_with fail
    go_ret
    exact ⟨rfl, hB1⟩
  by_cases hhi : 200 < z0
  · go_wp2_with fail
    go_ret
    exact ⟨rfl, hB1⟩
  obtain ⟨n, rfl⟩ : ∃ n : Nat, z0 = n := ⟨z0.toNat, (Int.toNat_of_nonneg (by omega)).symm⟩
  have hn1 : 40 ≤ n := by omega
  have hn2 : n ≤ 200 := by omega
  obtain ⟨x, hx, hxm, hxs, HOP⟩ := fresh_open (new_fresh n (by omega)) (by omega) (by rw [newS_size]; omega) (by omega) (Nat.zero_le _)
  have hx2 : Hid (SoundS x n 1 ∧ x.m = []) := ⟨hx, hxm⟩
  have HOP : Hid (∀ (w : World) (L : PLay) (C : Nat → Prop), OD w L C (newS n) → Calls Tryz.prog 12 #[.pointer (some ⟨L.g, 0, none⟩)] w fun e w' => Opened w L C x e w') := HOP
  have HSZ : Hid (∀ s : DS, s.ok n → 256 ≤ sizeS s) := fun s hs => by unfold sizeS halfS; rw [hs.now]; omega
  clear hx hxm hxs
  go_wp2_with fail
  refine (od_new n w1 (by omega) (by omega)).mono ?_
  rintro e w3 ⟨L, rfl, hD3, hb3, hT3, -⟩
  have hB3 := blift hB1 hb3 hB1.size
  go_wp2_with fail
  refine (HOP.out w3 L L.T hD3).mono ?_
  rintro e w5 ⟨SG, rfl, hS5, -, hc5⟩
  have hT2 : ∀ q, L.T q → w.heap.size ≤ q := fun q hq => by have := hT3 q hq; have := hB1.size; omega
  have HTT : Hid (∀ q, L.T q → w.heap.size ≤ q) := hT2
  have HL5 : Hid (LastI w w5 n L SG (Fr L.T w3 w5) x (.slice none 0 0) 1 []) := ⟨hS5, fr_from hT2 hB3.size, by rw [hx2.out.2]; exact PairsO.nil _ _, hB3.trans (hc5.below hT2 hB3.size), .inl ⟨hx2.out.1.br, hx2.out.1⟩⟩
  clear hc5 hD3 hb3 hT3 hT2 hB3 hB1 HOP hS5
  go_wp2_with fail
  go_loopw [8, 9, 10, 11, 12] (fun ev pv nv ov iv wr => ∃ (I SG : Nat) (X : Nat → Prop) (x : SS) (os : List (List OpB)), ev = .int .i64 0 ∧ pv = .pointer (some ⟨SG, 0, none⟩) ∧ iv = .int .i64 (I : Int) ∧ I ≤ l.length ∧ I ≤ 60 ∧ ChgsV w ov os ∧ os.length ≤ 30 ∧ (∀ c ∈ os, c.length ≤ 50) ∧ LastI w wr n L SG X x nv (1 + 2 * I) os) (fun _ _ _ _ iv _ => 60 - (intOf iv).toNat)
  case atStart => exact ⟨0, SG, _, x, [], rfl, rfl, rfl, Nat.zero_le _, Nat.zero_le _, ⟨none, 0, rfl, Nat.zero_le _, fun i p h => by simp at h⟩, Nat.zero_le _, (fun c hc => by cases hc), HL5.out⟩
  case round =>
    clear HL5 hx2
    obtain ⟨I, SG, X, x, os, rfl, rfl, rfl, hI, hI60, hos, hos30, hos50, hLI⟩ := hrel
    obtain ⟨na, nc, hnv⟩ := hLI.ps.sl
    subst hnv
    obtain ⟨oa, oc, hov, hom, -⟩ := id hos
    subst hov
    have HOS : Hid (ChgsV w (.slice oa os.length oc) os ∧ os.length ≤ 30 ∧ (∀ c ∈ os, c.length ≤ 50)) := ⟨hos, hos30, hos50⟩
    clear hos
    have HL0 : Hid (LastI w wr n L SG X x (.slice na x.m.length nc) (1 + 2 * I) os) := hLI
    clear hom hos50 hLI
    by_cases hlt : I < l.length
    case neg =>
      have i1 : ¬ (I : Int) < (l.length : Int) := by omega
      go_wp2_with fail
      go_ret
      exact ⟨rfl, HL0.out.b⟩
    have i1 : (I : Int) < (l.length : Int) := by omega
    by_cases h60 : I < 60
    case neg =>
      have i2 : ¬ (I : Int) < 60 := by omega
      go_wp2_with fail
      go_ret
      exact ⟨rfl, HL0.out.b⟩
    have i2 : (I : Int) < 60 := by omega
    obtain ⟨A, hA⟩ : ∃ A, l[I]? = some A := ⟨l[I], List.getElem?_eq_getElem hlt⟩
    have HFW : Hid (stepFew A.q) := HFEW.out I A hA (by omega)
    obtain ⟨ao', c', he, -, hat⟩ := HV.out
    cases he
    obtain ⟨q, off, u, bv, sv, rfl, hql, hcs, hAt⟩ := hat I A hA
    have HAT : Hid (At8 w u bv sv A) := hAt
    obtain ⟨ua, uc, rfl, hum, -⟩ := id hAt.cs
    obtain ⟨ba, bc, rfl⟩ := Seg.shapeD hAt.b
    obtain ⟨sa, sc, rfl, -⟩ := id hAt.stay
    have hB := HL0.out.b
    have e0 := (hB.cell (p := ⟨q, off + I * 6 + 0, none⟩) hql).trans (hcs 0 _ rfl)
    have e1 := (hB.cell (p := ⟨q, off + I * 6 + 1, none⟩) hql).trans (hcs 1 _ rfl)
    have e2 := (hB.cell (p := ⟨q, off + I * 6 + 2, none⟩) hql).trans (hcs 2 _ rfl)
    have e3 := (hB.cell (p := ⟨q, off + I * 6 + 3, none⟩) hql).trans (hcs 3 _ rfl)
    have e4 := (hB.cell (p := ⟨q, off + I * 6 + 4, none⟩) hql).trans (hcs 4 _ rfl)
    have e5 := (hB.cell (p := ⟨q, off + I * 6 + 5, none⟩) hql).trans (hcs 5 _ rfl)
    rw [Nat.add_zero] at e0
    have hix := index_steps q off l.length c I hlt
    have hba := (Below.refl wr.heap.size wr).alloc (Nat.le_refl _) (.cells #[.int .i64 A.act, .slice ua A.cs.length uc, .int .i64 A.k, .int .i64 A.n, .slice ba A.b.length bc, .slice sa A.stay.length sc] 37)
    have hkb := Blk.new wr 37 #[.int .i64 A.act, .slice ua A.cs.length uc, .int .i64 A.k, .int .i64 A.n, .slice ba A.b.length bc, .slice sa A.stay.length sc]
    have HL1 : Hid (LastI w (wr.alloc (.cells #[.int .i64 A.act, .slice ua A.cs.length uc, .int .i64 A.k, .int .i64 A.n, .slice ba A.b.length bc, .slice sa A.stay.length sc] 37)) n L SG X x (.slice na x.m.length nc) (1 + 2 * I) os) := HL0.out.after hba
    have HXM : Hid (x.m.length ≤ 4000 ∧ RiseM x.m) := ⟨HL0.out.st.len, HL0.out.rise⟩
    have HNX : Hid (¬ X wr.heap.size) := fun e => by have := HL0.out.st.lt _ e; omega
    clear hat hA hcs hAt hba hum
    by_cases a0 : A.act = 0
    · have b0 : (A.act == 0) = true := by simpa using a0
      clear a0
      have HDB : Hid (∀ V S, Chg S (wr.alloc (.cells #[.int .i64 A.act, .slice ua A.cs.length uc, .int .i64 A.k, .int .i64 A.n, .slice ba A.b.length bc, .slice sa A.stay.length sc] 37)) V → ¬ S wr.heap.size → V.cell? ⟨wr.heap.size, 1, none⟩ = some (.slice ua A.cs.length uc)) := fun V S hV hS => (Blk.chg hkb hV hS).cell (j := 1) rfl
      have hbl : wr.heap.size < (wr.alloc (.cells #[.int .i64 A.act, .slice ua A.cs.length uc, .int .i64 A.k, .int .i64 A.n, .slice ba A.b.length bc, .slice sa A.stay.length sc] 37)).heap.size := by rw [World.size_alloc]; omega
      clear hkb
      go_wp2_with fail
      generalize wr.alloc (.cells #[.int .i64 A.act, .slice ua A.cs.length uc, .int .i64 A.k, .int .i64 A.n, .slice ba A.b.length bc, .slice sa A.stay.length sc] 37) = W at *
      obtain ⟨Bx, hBx⟩ : ∃ Bx, Bx = wr.heap.size := ⟨_, rfl⟩
      rw [← hBx] at HDB HNX hbl ⊢
      have d1 := HDB.out W (fun _ => False) (Chg.of_below (Below.refl _ _) (Nat.le_refl _)) id
      clear hBx e0 e1 e2 e3 e4 e5 HL0 hB hix
      obtain ⟨CD, -, -, -, cbr, -⟩ := HL1.out.st.od
      refine (broken_cell cbr).mono ?_
      rintro e W' ⟨rfl, hW'⟩
      obtain rfl := hW'.symm
      clear hW' cbr
      have HAL : Hid (Calls Tryz.prog 14 #[.pointer (some ⟨SG, 0, none⟩), .slice ua A.cs.length uc] W fun e w' => e = .returned (.int .i64 (allA x A.cs).1) ∧ PSt w' SG L (Fr X W w') (allA x A.cs).2 ∧ Chg X W w') := all_any HL1.out.st _ A.cs (HAT.out.cs.below HL1.out.b (Nat.le_refl _))
      rcases HL1.out.is with ⟨hbr, hS⟩ | ⟨hbr, hK⟩
      · rw [hbr]
        rcases all_last hS (by omega) (HSZ.out _ hS.sound.rest.ok) (by omega) A.cs with ⟨cd, hcd, hal⟩ | ⟨y, hal, hSy, hym, -⟩ | ⟨cd, y, hcd, hal, hyb, hym, hBy⟩
        · rw [hal] at HAL
          have hne : (cd == 0) = false := by rcases hcd with rfl | rfl <;> rfl
          have HSS : Hid (x.br = false ∧ SoundS x n (1 + 2 * I)) := ⟨hbr, hS⟩
          clear hal hcd hS hbr
          go_wp2_with fail
          refine HAL.out.mono ?_
          rintro e w4 ⟨rfl, hX4, hc4⟩
          have HL4 : Hid (LastI w w4 n L SG (Fr X W w4) x (.slice na x.m.length nc) (1 + 2 * I) os) := ⟨hX4, fr_from HL1.out.off HL1.out.b.size, HL1.out.ps.step hc4, HL1.out.b.trans (hc4.below HL1.out.off HL1.out.b.size), .inl HSS.out⟩
          clear hX4 hc4 HAL d1
          generalize Fr X W w4 = X4 at *
          obtain ⟨CD, -, -, -, cbr, -⟩ := HL4.out.st.od
          rw [HSS.out.1] at cbr
          go_wp2_with fail
          refine (broken_cell cbr).mono ?_
          rintro e W' ⟨rfl, hW'⟩
          obtain rfl := hW'.symm
          clear hW' cbr
          have HRG : Hid (Calls Tryz.prog 18 #[.pointer (some ⟨SG, 0, none⟩), .slice none 0 0, .int .i64 5000] w4 fun e w' => RangeOk w4 x.m e w') := range_all HL4.out.st (Below.refl _ _)
          (try go_wp2_with fail)
          refine HRG.out.mono ?_
          rintro e wa ⟨va, ca, rfl, hPa, hba⟩
          obtain ⟨aa, naa, rfl⟩ := hPa.sl
          have HPI : Hid (PairsIn wa _ x.m) := hPa.read
          have HLa := HL4.out.after hba
          have HLa : Hid (LastI w wa n L SG X4 x _ _ _) := HLa
          clear HRG hPa hba
          go_wp2_with fail
          refine (same8_any _ _ x.m x.m wa HPI.out HLa.out.ps.read (by have := HLa.out.st.len; omega)).mono ?_
          rintro e wb ⟨rfl, hbb⟩
          rw [decide_eq_true rfl]
          have HLb := HLa.out.after hbb
          have HLb : Hid (LastI w wb n L SG X4 x _ _ _) := HLb
          clear hbb HLa HPI
          go_wp2_with fail
          go_roundw
          case rel => exact ⟨I + 1, SG, X4, x, _, rfl, rfl, by go_num, hlt, by omega, HOS.out.1, HOS.out.2.1, HOS.out.2.2, HLb.out.later (by omega)⟩
          case measure => simp [intOf]; omega
        · rw [hal] at HAL
          have HSS : Hid (y.br = false ∧ SoundS y n (1 + 2 * I + 1)) := ⟨hSy.br, hSy⟩
          have HYM : Hid (y.m = doAll x.m A.cs) := hym
          have HRX : Hid (RiseM x.m ∧ x.m.length ≤ 4000) := ⟨hS.rise, hS.len⟩
          have hc30 : A.cs.length ≤ 30 := HFW.out.1.1
          clear hal hSy hym hS hbr
          go_wp2_with fail
          refine HAL.out.mono ?_
          rintro e w4 ⟨rfl, hX4, hc4⟩
          have HX4 : Hid (PSt w4 SG L (Fr X W w4) y) := hX4
          have HO4 : Hid (∀ q, Fr X W w4 q → w.heap.size ≤ q) := fr_from HL1.out.off HL1.out.b.size
          have HP4 : Hid (PairsO w4 (Fr X W w4) (.slice na x.m.length nc) x.m) := HL1.out.ps.step hc4
          have HB4 : Hid (Below w.heap.size w w4) := HL1.out.b.trans (hc4.below HL1.out.off HL1.out.b.size)
          have HD4 : Hid (∀ V, Below w4.heap.size w4 V → V.cell? ⟨Bx, 1, none⟩ = some (.slice ua A.cs.length uc)) := fun V hV => (hV.cell (p := ⟨Bx, 1, none⟩) (Nat.lt_of_lt_of_le hbl hc4.size)).trans (HDB.out w4 _ hc4 HNX.out)
          clear hX4 hc4 HAL d1 HL1 HDB HNX hbl
          generalize Fr X W w4 = X4 at *
          clear W
          go_wp2_with fail
          go_loopw [10, 16] (fun nv kv wq => ∃ K : Nat, kv = .int .i64 (K : Int) ∧ K ≤ A.cs.length ∧ PairsO wq X4 nv (doAll x.m (A.cs.take K)) ∧ (doAll x.m (A.cs.take K)).length ≤ 4000 + 50 * K ∧ Below w4.heap.size w4 wq) (fun _ kv _ => A.cs.length - (intOf kv).toNat)
          case atStart => exact ⟨0, rfl, Nat.zero_le _, HP4.out, (by have := HRX.out.2; show x.m.length ≤ _; omega), Below.refl _ _⟩
          case round =>
            obtain ⟨K, rfl, hK, hPk, hlk, hBk⟩ := hrel
            obtain ⟨pa, pc, hnv⟩ := hPk.sl
            subst hnv
            have dk := HD4.out _ hBk
            by_cases hkl : K < A.cs.length
            · have k1 : (K : Int) < (A.cs.length : Int) := by omega
              obtain ⟨o, ho⟩ : ∃ o, A.cs[K]? = some o := ⟨A.cs[K], List.getElem?_eq_getElem hkl⟩
              have ho50 : o.length ≤ 50 := (HFW.out.1.2 o (List.mem_of_getElem? ho)).1
              obtain ⟨ua', uc', he', -, hct⟩ := HAT.out.cs
              cases he'
              obtain ⟨cb, coff, rfl, hcl, cu, hcc, hop⟩ := hct K o ho
              obtain ⟨pu, pcu, hcu, -⟩ := id hop
              subst hcu
              have hix2 := index_chgs cb coff A.cs.length uc K hkl
              have hBw := blift HB4.out hBk HB4.out.size
              have ec := (hBw.cell (p := ⟨cb, coff + K, none⟩) hcl).trans hcc
              have HTK : Hid (doAll x.m (A.cs.take (K + 1)) = doM (doAll x.m (A.cs.take K)) o) := doAll_take x.m ho
              have HRK : Hid (RiseM (doAll x.m (A.cs.take K))) := rise_all _ HRX.out.1
              generalize doAll x.m (A.cs.take K) = mk at *
              have hdl := doM_len o mk
              have HDO : Hid (Calls Tryz.prog 15 #[.slice pa mk.length pc, .slice pu o.length pcu] wr fun e w' => ∃ u, e = .returned u ∧ PairsO w' X4 u (doM mk o) ∧ Below wr.heap.size wr w') := do8_off hPk hop hBw HO4.out (fun q hq => Nat.lt_of_lt_of_le (HX4.out.lt q hq) hBk.size) HRK.out (by omega)
              clear hct hop ho hcc hPk HRK
              go_wp2_with fail
              refine HDO.out.mono ?_
              rintro e w6 ⟨u6, rfl, hP6, hb6⟩
              have hB6 := blift hBk hb6 hBk.size
              clear HDO hb6
              go_wp2_with fail
              go_roundw
              case rel => exact ⟨K + 1, by go_num, hkl, by rw [HTK.out]; exact hP6, by rw [HTK.out]; omega, hB6⟩
              case measure => simp [intOf]; omega
            · have k1 : ¬ (K : Int) < (A.cs.length : Int) := by omega
              have hKK : K = A.cs.length := by omega
              subst hKK
              have hPy : PairsO wr X4 (.slice pa (doAll x.m (A.cs.take A.cs.length)).length pc) y.m := by
                rw [HYM.out]
                rw [List.take_length] at hPk ⊢
                exact hPk
              clear hPk hlk
              generalize (doAll x.m (A.cs.take A.cs.length)).length = LN at *
              have hPk := hPy
              clear hPy
              have HL6 : Hid (LastI w wr n L SG X4 y (.slice pa LN pc) (1 + 2 * I + 1) os) := ⟨HX4.out.after hBk, HO4.out, hPk, blift HB4.out hBk HB4.out.size, .inl HSS.out⟩
              clear hPk hBk HX4 HP4 HSS HRX
              have HRG : Hid (Calls Tryz.prog 18 #[.pointer (some ⟨SG, 0, none⟩), .slice none 0 0, .int .i64 5000] wr fun e w' => RangeOk wr y.m e w') := range_all HL6.out.st (Below.refl _ _)
              (try go_wp2_with fail)
              refine HRG.out.mono ?_
              rintro e wa ⟨va, ca, rfl, hPa, hba⟩
              obtain ⟨aa, naa, rfl⟩ := hPa.sl
              have HPI : Hid (PairsIn wa _ y.m) := hPa.read
              have HLa := HL6.out.after hba
              have HLa : Hid (LastI w wa n L SG X4 y _ _ _) := HLa
              clear HRG hPa hba
              go_wp2_with fail
              refine (same8_any _ _ y.m y.m wa HPI.out HLa.out.ps.read (by have := HLa.out.st.len; omega)).mono ?_
              rintro e wb ⟨rfl, hbb⟩
              rw [decide_eq_true rfl]
              have HLb := HLa.out.after hbb
              have HLb : Hid (LastI w wb n L SG X4 y _ _ _) := HLb
              clear hbb HLa HPI
              go_wp2_with fail
              go_roundw
              case rel => exact ⟨I + 1, SG, X4, y, _, rfl, rfl, by go_num, hlt, by omega, HOS.out.1, HOS.out.2.1, HOS.out.2.2, HLb.out.later (by omega)⟩
              case measure => simp [intOf]; omega
        · rw [hal] at HAL
          have hne : (cd == 0) = false := by rcases hcd with rfl | rfl <;> rfl
          have HSS : Hid (y.br = true ∧ BrokeS y.s n (1 + 2 * I + 1) y.m (doAll y.m A.cs)) := ⟨hyb, by rw [hym]; exact hBy⟩
          have HYM : Hid (y.m = x.m) := hym
          clear hal hcd hS hbr hBy hyb hym
          go_wp2_with fail
          refine HAL.out.mono ?_
          rintro e w4 ⟨rfl, hX4, hc4⟩
          have HL4 : Hid (LastI w w4 n L SG (Fr X W w4) y (.slice na x.m.length nc) (1 + 2 * I + 1) A.cs) := ⟨hX4, fr_from HL1.out.off HL1.out.b.size, by rw [HYM.out]; exact HL1.out.ps.step hc4, HL1.out.b.trans (hc4.below HL1.out.off HL1.out.b.size), .inr HSS.out⟩
          have HO4 : Hid (ChgsV w (.slice ua A.cs.length uc) A.cs ∧ A.cs.length ≤ 30 ∧ (∀ c ∈ A.cs, c.length ≤ 50)) := ⟨HAT.out.cs, HFW.out.1.1, fun c hc => (HFW.out.1.2 c hc).1⟩
          have d4 := HDB.out w4 _ hc4 HNX.out
          clear hX4 hc4 HAL d1
          generalize Fr X W w4 = X4 at *
          obtain ⟨CD, -, -, -, cbr, -⟩ := HL4.out.st.od
          rw [HSS.out.1] at cbr
          go_wp2_with fail
          refine (broken_cell cbr).mono ?_
          rintro e W' ⟨rfl, hW'⟩
          obtain rfl := hW'.symm
          clear hW' cbr
          have HRG : Hid (Calls Tryz.prog 18 #[.pointer (some ⟨SG, 0, none⟩), .slice none 0 0, .int .i64 5000] w4 fun e w' => RangeOk w4 y.m e w') := range_all HL4.out.st (Below.refl _ _)
          (try go_wp2_with fail)
          refine HRG.out.mono ?_
          rintro e wa ⟨va, ca, rfl, hPa, hba⟩
          obtain ⟨aa, naa, rfl⟩ := hPa.sl
          have HPI : Hid (PairsIn wa _ y.m) := hPa.read
          have HLa := HL4.out.after hba
          have HLa : Hid (LastI w wa n L SG X4 y _ _ _) := HLa
          clear HRG hPa hba
          go_wp2_with fail
          refine (same8_any _ _ y.m y.m wa HPI.out HLa.out.ps.read (by have := HLa.out.st.len; omega)).mono ?_
          rintro e wb ⟨rfl, hbb⟩
          rw [decide_eq_true rfl]
          have HLb := HLa.out.after hbb
          have HLb : Hid (LastI w wb n L SG X4 y _ _ _) := HLb
          clear hbb HLa HPI
          go_wp2_with fail
          go_roundw
          case rel => exact ⟨I + 1, SG, X4, y, _, rfl, rfl, by go_num, hlt, by omega, HO4.out.1, HO4.out.2.1, HO4.out.2.2, HLb.out.later (by omega)⟩
          case measure => simp [intOf]; omega
      · have hal : allA x A.cs = (10, x) := by
          unfold allA
          rw [hbr]
          rfl
        rw [hbr]
        rw [hal] at HAL
        have HSS : Hid (x.br = true ∧ BrokeS x.s n (1 + 2 * I) x.m (doAll x.m os)) := ⟨hbr, hK⟩
        clear hal hK hbr
        go_wp2_with fail
        refine HAL.out.mono ?_
        rintro e w4 ⟨rfl, hX4, hc4⟩
        have HL4 : Hid (LastI w w4 n L SG (Fr X W w4) x (.slice na x.m.length nc) (1 + 2 * I) os) := ⟨hX4, fr_from HL1.out.off HL1.out.b.size, HL1.out.ps.step hc4, HL1.out.b.trans (hc4.below HL1.out.off HL1.out.b.size), .inr HSS.out⟩
        clear hX4 hc4 HAL d1
        generalize Fr X W w4 = X4 at *
        have HRG : Hid (Calls Tryz.prog 18 #[.pointer (some ⟨SG, 0, none⟩), .slice none 0 0, .int .i64 5000] w4 fun e w' => RangeOk w4 x.m e w') := range_all HL4.out.st (Below.refl _ _)
        (try go_wp2_with fail)
        refine HRG.out.mono ?_
        rintro e wa ⟨va, ca, rfl, hPa, hba⟩
        obtain ⟨aa, naa, rfl⟩ := hPa.sl
        have HPI : Hid (PairsIn wa _ x.m) := hPa.read
        have HLa := HL4.out.after hba
        have HLa : Hid (LastI w wa n L SG X4 x _ _ _) := HLa
        clear HRG hPa hba
        go_wp2_with fail
        refine (same8_any _ _ x.m x.m wa HPI.out HLa.out.ps.read (by have := HLa.out.st.len; omega)).mono ?_
        rintro e wb ⟨rfl, hbb⟩
        rw [decide_eq_true rfl]
        have HLb := HLa.out.after hbb
        have HLb : Hid (LastI w wb n L SG X4 x _ _ _) := HLb
        clear hbb HLa HPI
        go_wp2_with fail
        go_roundw
        case rel => exact ⟨I + 1, SG, X4, x, _, rfl, rfl, by go_num, hlt, by omega, HOS.out.1, HOS.out.2.1, HOS.out.2.2, HLb.out.later (by omega)⟩
        case measure => simp [intOf]; omega
    by_cases a1 : A.act = 1
    · have b0 : (A.act == 0) = false := by simpa using a0
      have b1 : (A.act == 1) = true := by simpa using a1
      clear a0 a1
      have HPL : Hid (Calls Tryz.prog 16 #[.pointer (some ⟨L.g, 0, none⟩), .slice ba A.b.length bc] (wr.alloc (.cells #[.int .i64 A.act, .slice ua A.cs.length uc, .int .i64 A.k, .int .i64 A.n, .slice ba A.b.length bc, .slice sa A.stay.length sc] 37)) fun e w' => e = .returned (.tuple #[]) ∧ LastI w w' n L SG (Fr X (wr.alloc (.cells #[.int .i64 A.act, .slice ua A.cs.length uc, .int .i64 A.k, .int .i64 A.n, .slice ba A.b.length bc, .slice sa A.stay.length sc] 37)) w') { x with s := { x.s with next := A.b } } (.slice na x.m.length nc) (1 + 2 * I) os) := by
        refine (plan_any8 HL1.out.st _ A.b (HAT.out.b.below HL1.out.b (Nat.le_refl _)) (by have h9 : A.b.length ≤ 1000 := HFW.out.2; omega)).mono ?_
        rintro e w' ⟨h1, h2, h3⟩
        refine ⟨h1, h2, fr_from HL1.out.off HL1.out.b.size, HL1.out.ps.step h3, HL1.out.b.trans (h3.below HL1.out.off HL1.out.b.size), ?_⟩
        rcases HL1.out.is with ⟨k1, k2⟩ | ⟨k1, k2⟩
        · exact .inl ⟨k1, k2.plan A.b⟩
        · exact .inr ⟨k1, k2.plan A.b⟩
      go_wp2_with fail
      refine HPL.out.mono ?_
      rintro e w4 ⟨rfl, hL4⟩
      clear HPL
      generalize wr.alloc (.cells #[.int .i64 A.act, .slice ua A.cs.length uc, .int .i64 A.k, .int .i64 A.n, .slice ba A.b.length bc, .slice sa A.stay.length sc] 37) = W at *
      obtain ⟨X4, hX4⟩ : ∃ X4, X4 = Fr X W w4 := ⟨_, rfl⟩
      obtain ⟨x4, hx4⟩ : ∃ x4 : SS, x4 = { x with s := { x.s with next := A.b } } := ⟨_, rfl⟩
      rw [← hX4, ← hx4] at hL4
      have HL4 : Hid (LastI w w4 n L SG X4 x4 (.slice na x.m.length nc) (1 + 2 * I) os) := hL4
      clear hL4 hX4 hx4
      have HRG : Hid (Calls Tryz.prog 18 #[.pointer (some ⟨SG, 0, none⟩), .slice none 0 0, .int .i64 5000] w4 fun e w' => RangeOk w4 x4.m e w') := range_all HL4.out.st (Below.refl _ _)
      (try go_wp2_with fail)
      refine HRG.out.mono ?_
      rintro e wa ⟨va, ca, rfl, hPa, hba⟩
      obtain ⟨aa, naa, rfl⟩ := hPa.sl
      have HPI : Hid (PairsIn wa _ x4.m) := hPa.read
      have HLa := HL4.out.after hba
      have HLa : Hid (LastI w wa n L SG X4 x4 _ _ _) := HLa
      clear HRG hPa hba
      go_wp2_with fail
      refine (same8_any _ _ x4.m x4.m wa HPI.out HLa.out.ps.read (by have := HLa.out.st.len; omega)).mono ?_
      rintro e wb ⟨rfl, hbb⟩
      rw [decide_eq_true rfl]
      have HLb := HLa.out.after hbb
      have HLb : Hid (LastI w wb n L SG X4 x4 _ _ _) := HLb
      clear hbb HLa HPI
      go_wp2_with fail
      go_roundw
      case rel => exact ⟨I + 1, SG, X4, x4, _, rfl, rfl, by go_num, hlt, by omega, HOS.out.1, HOS.out.2.1, HOS.out.2.2, HLb.out.later (by omega)⟩
      case measure => simp [intOf]; omega
    by_cases a2 : A.act = 2
    · have b0 : (A.act == 0) = false := by simpa using a0
      have b1 : (A.act == 1) = false := by simpa using a1
      have b2 : (A.act == 2) = true := by simpa using a2
      clear a0 a1 a2
      obtain ⟨cs', hcs'⟩ : ∃ c : DS, c = crashS x.s A.stay A.k A.n := ⟨_, rfl⟩
      have hFR : ∃ m, (m = x.m ∨ m = doAll x.m os) ∧ Fresh8 cs' n (1 + 2 * I) m := by
        rw [hcs']
        rcases HL1.out.is with ⟨k1, k2⟩ | ⟨k1, k2⟩
        · exact ⟨x.m, .inl rfl, k2.crash (by omega) A.stay A.k A.n⟩
        · rcases k2.2 A.stay A.k A.n with k3 | k3
          · exact ⟨x.m, .inl rfl, k3⟩
          · exact ⟨doAll x.m os, .inr rfl, k3⟩
      obtain ⟨m, hm, hF⟩ := hFR
      obtain ⟨y, hy, hym, -, hop⟩ := fresh_open hF (by omega) (HSZ.out _ hF.ok) (by omega) (by have h1 := hF.fits; have h2 := size_lt hF.ok (by omega); unfold mostW at h1; omega)
      have HOPY : Hid (∀ (w : World) (C : Nat → Prop), OD w L C cs' → Calls Tryz.prog 12 #[.pointer (some ⟨L.g, 0, none⟩)] w fun e w' => Opened w L C y e w') := fun w C h => hop w L C h
      have HSY : Hid (SoundS y n (1 + 2 * I + 1)) := hy
      have HYM : Hid (y.m = x.m ∨ y.m = doAll x.m os) := by
        show _ ∨ _
        rw [hym]; exact hm
      have HCR : Hid (Calls Tryz.prog 17 #[.pointer (some ⟨L.g, 0, none⟩), .slice sa A.stay.length sc, .int .i64 A.k, .int .i64 A.n] (wr.alloc (.cells #[.int .i64 A.act, .slice ua A.cs.length uc, .int .i64 A.k, .int .i64 A.n, .slice ba A.b.length bc, .slice sa A.stay.length sc] 37)) fun e w' => e = .returned (.tuple #[]) ∧ ∃ C4 : Nat → Prop, OD w' L C4 cs' ∧ (∀ q, C4 q → w.heap.size ≤ q) ∧ (∀ q, C4 q → q < w'.heap.size) ∧ PairsO w' C4 (.slice na x.m.length nc) x.m ∧ Below w.heap.size w w') := by
        obtain ⟨CD, hD, hCX, -⟩ := HL1.out.st.od
        refine (od_crash L CD x.s _ A.stay A.k A.n _ hD (HAT.out.stay.apart HL1.out.b HTT.out)).mono ?_
        rintro e w' ⟨h1, h2, h3⟩
        have hCw : ∀ q, CD q → w.heap.size ≤ q := fun q hq => HL1.out.off q (hCX q hq)
        refine ⟨h1, _, by rw [hcs']; exact h2, fr_from hCw HL1.out.b.size, h2.lt, HL1.out.ps.chg h3 hCX (fun q hq e => ?_), HL1.out.b.trans (h3.below hCw HL1.out.b.size)⟩
        rcases e with e | e
        · exact hCX q e
        · omega
      clear hF hm hym hy hop hcs'
      go_wp2_with fail
      refine HCR.out.mono ?_
      rintro e w4 ⟨rfl, C4, hD4, hC4, hCl4, hP4, hB4⟩
      clear HCR HL1 HL0 hB e0 e1 e2 e3 e4 e5 hkb hix HNX
      generalize wr.alloc (.cells #[.int .i64 A.act, .slice ua A.cs.length uc, .int .i64 A.k, .int .i64 A.n, .slice ba A.b.length bc, .slice sa A.stay.length sc] 37) = W at *
      go_wp2_with fail
      refine (HOPY.out w4 C4 hD4).mono ?_
      rintro e w5 ⟨SG5, rfl, hS5, -, hc5⟩
      have HS5 : Hid (PSt w5 SG5 L (Fr C4 w4 w5) y) := hS5
      have HO5 : Hid (∀ q, Fr C4 w4 w5 q → w.heap.size ≤ q) := fr_from hC4 hB4.size
      have HP5 : Hid (PairsO w5 (Fr C4 w4 w5) (.slice na x.m.length nc) x.m) := hP4.step hc5
      have hB5 : Below w.heap.size w w5 := hB4.trans (hc5.below hC4 hB4.size)
      have HL5 : Hid (∀ q, Fr C4 w4 w5 q → q < w5.heap.size) := hS5.lt
      clear hS5 hc5 hP4 hB4 hD4 hC4 hCl4 HOPY
      generalize Fr C4 w4 w5 = X5 at *
      have HRG : Hid (Calls Tryz.prog 18 #[.pointer (some ⟨SG5, 0, none⟩), .slice none 0 0, .int .i64 5000] w5 fun e w' => RangeOk w5 y.m e w') := range_all HS5.out (Below.refl _ _)
      go_wp2_with fail
      refine HRG.out.mono ?_
      rintro e w6 ⟨vg, cg, rfl, hPg, hb6⟩
      obtain ⟨ag, kg, rfl⟩ := hPg.sl
      have HPG : Hid (PairsO w6 X5 (.slice ag y.m.length kg) y.m) := hPg.off HL5.out
      have HRY : Hid (y.m.length ≤ 4000 ∧ x.m.length ≤ 4000 ∧ RiseM x.m) := ⟨HS5.out.len, HXM.out.1, HXM.out.2⟩
      have HP6 : Hid (PairsO w6 X5 (.slice na x.m.length nc) x.m) := HP5.out.after hb6
      have hB6 : Below w.heap.size w w6 := blift hB5 hb6 hB5.size
      have HS6 : Hid (PSt w6 SG5 L X5 y) := HS5.out.after hb6
      have HL6 : Hid (∀ q, X5 q → q < w6.heap.size) := HS6.out.lt
      clear HRG hPg hb6 HP5 HS5 HL5 hB5
      go_wp2_with fail
      refine (same8_any _ _ y.m x.m w6 HPG.out.read HP6.out.read (by have := HRY.out.1; omega)).mono ?_
      rintro e w7 ⟨rfl, hb7⟩
      have HP7 : Hid (PairsO w7 X5 (.slice na x.m.length nc) x.m) := HP6.out.after hb7
      have HPG7 : Hid (PairsO w7 X5 (.slice ag y.m.length kg) y.m) := HPG.out.after hb7
      have hB7 : Below w.heap.size w w7 := blift hB6 hb7 hB6.size
      have HS7 : Hid (PSt w7 SG5 L X5 y) := HS6.out.after hb7
      clear hb7 HP6 HPG HS6 HL6 hB6
      obtain ⟨F, hFd⟩ : ∃ F : Bool, F = decide (y.m = x.m) := ⟨_, rfl⟩
      rw [← hFd]
      have HFD : Hid (F = decide (y.m = doAll x.m (os.take 0))) := hFd
      clear hFd
      have HB7 : Hid (Below w.heap.size w w7) := hB7
      clear hB7
      go_wp2_with fail
      go_loopw [10, 18, 19] (fun nv fv kv wq => ∃ (K : Nat) (F : Bool), kv = .int .i64 (K : Int) ∧ K ≤ os.length ∧ fv = .bool F ∧ Hid (F = decide (y.m = doAll x.m (os.take K)) ∧ (K = 0 ∨ y.m ≠ x.m) ∧ (doAll x.m (os.take K)).length ≤ 4000 + 50 * K) ∧ PairsO wq X5 nv (doAll x.m (os.take K)) ∧ Below w7.heap.size w7 wq) (fun _ _ kv _ => os.length - (intOf kv).toNat)
      case atStart => exact ⟨0, F, rfl, Nat.zero_le _, rfl, ⟨HFD.out, .inl rfl, (by have := HRY.out.2.1; show x.m.length ≤ _; omega)⟩, HP7.out, Below.refl _ _⟩
      case round =>
        clear HFD HP7
        obtain ⟨K, F, rfl, hK, rfl, HI, hPk, hBk⟩ := hrel
        obtain ⟨pa, pc, hnv⟩ := hPk.sl
        subst hnv
        have hBw : Below w.heap.size w wr := blift HB7.out hBk HB7.out.size
        cases F with
        | true =>
          have hye := HI.out.1
          have HL8 : Hid (LastI w wr n L SG5 X5 y (.slice ag y.m.length kg) (1 + 2 * I + 1) []) := ⟨HS7.out.after hBk, HO5.out, HPG7.out.after hBk, hBw, .inl ⟨HSY.out.br, HSY.out⟩⟩
          have HOE : Hid (ChgsV w (.slice none 0 0) [] ∧ ([] : List (List OpB)).length ≤ 30 ∧ (∀ c ∈ ([] : List (List OpB)), c.length ≤ 50)) := ⟨⟨none, 0, rfl, Nat.zero_le _, fun i p h => by simp at h⟩, Nat.zero_le _, (fun c hc => by cases hc)⟩
          clear hye hPk HI hBw hBk HPG7 HS7
          generalize (doAll x.m (os.take K)).length = LN at *
          by_cases hkl : K < os.length
          · have k1 : (K : Int) < (os.length : Int) := by omega
            have HRG : Hid (Calls Tryz.prog 18 #[.pointer (some ⟨SG5, 0, none⟩), .slice none 0 0, .int .i64 5000] wr fun e w' => RangeOk wr y.m e w') := range_all HL8.out.st (Below.refl _ _)
            (try go_wp2_with fail)
            refine HRG.out.mono ?_
            rintro e wa ⟨va, ca, rfl, hPa, hba⟩
            obtain ⟨aa, naa, rfl⟩ := hPa.sl
            have HPI : Hid (PairsIn wa _ y.m) := hPa.read
            have HLa := HL8.out.after hba
            have HLa : Hid (LastI w wa n L SG5 X5 y _ _ _) := HLa
            clear HRG hPa hba
            go_wp2_with fail
            refine (same8_any _ _ y.m y.m wa HPI.out HLa.out.ps.read (by have := HLa.out.st.len; omega)).mono ?_
            rintro e wb ⟨rfl, hbb⟩
            rw [decide_eq_true rfl]
            have HLb := HLa.out.after hbb
            have HLb : Hid (LastI w wb n L SG5 X5 y _ _ _) := HLb
            clear hbb HLa HPI
            go_wp2_with fail
            go_roundw
            case rel => exact ⟨I + 1, SG5, X5, y, _, rfl, rfl, by go_num, hlt, by omega, HOE.out.1, HOE.out.2.1, HOE.out.2.2, HLb.out.later (by omega)⟩
            case measure => simp [intOf]; omega
          · have k1 : ¬ (K : Int) < (os.length : Int) := by omega
            have HRG : Hid (Calls Tryz.prog 18 #[.pointer (some ⟨SG5, 0, none⟩), .slice none 0 0, .int .i64 5000] wr fun e w' => RangeOk wr y.m e w') := range_all HL8.out.st (Below.refl _ _)
            (try go_wp2_with fail)
            refine HRG.out.mono ?_
            rintro e wa ⟨va, ca, rfl, hPa, hba⟩
            obtain ⟨aa, naa, rfl⟩ := hPa.sl
            have HPI : Hid (PairsIn wa _ y.m) := hPa.read
            have HLa := HL8.out.after hba
            have HLa : Hid (LastI w wa n L SG5 X5 y _ _ _) := HLa
            clear HRG hPa hba
            go_wp2_with fail
            refine (same8_any _ _ y.m y.m wa HPI.out HLa.out.ps.read (by have := HLa.out.st.len; omega)).mono ?_
            rintro e wb ⟨rfl, hbb⟩
            rw [decide_eq_true rfl]
            have HLb := HLa.out.after hbb
            have HLb : Hid (LastI w wb n L SG5 X5 y _ _ _) := HLb
            clear hbb HLa HPI
            go_wp2_with fail
            go_roundw
            case rel => exact ⟨I + 1, SG5, X5, y, _, rfl, rfl, by go_num, hlt, by omega, HOE.out.1, HOE.out.2.1, HOE.out.2.2, HLb.out.later (by omega)⟩
            case measure => simp [intOf]; omega
        | false =>
          have hne : y.m ≠ doAll x.m (os.take K) := of_decide_eq_false HI.out.1.symm
          have hnx : y.m ≠ x.m := by
            rcases HI.out.2.1 with e | e
            · subst e
              rw [List.take_zero] at hne
              exact hne
            · exact e
          have hya : y.m = doAll x.m os := HYM.out.resolve_left hnx
          have hkl : K < os.length := by
            rcases Nat.lt_or_ge K os.length with e | e
            · exact e
            · exact absurd hya (by rw [List.take_of_length_le e] at hne; exact hne)
          have k1 : (K : Int) < (os.length : Int) := by omega
          have HNX2 : Hid (y.m ≠ x.m) := hnx
          obtain ⟨o, ho⟩ : ∃ o, os[K]? = some o := ⟨os[K], List.getElem?_eq_getElem hkl⟩
          have ho50 : o.length ≤ 50 := HOS.out.2.2 o (List.mem_of_getElem? ho)
          obtain ⟨ua', uc', he', -, hct⟩ := HOS.out.1
          cases he'
          obtain ⟨cb, coff, rfl, hcl, cu, hcc, hop⟩ := hct K o ho
          obtain ⟨pu, pcu, hcu, -⟩ := id hop
          subst hcu
          have hix2 := index_chgs cb coff os.length oc K hkl
          have ec := (hBw.cell (p := ⟨cb, coff + K, none⟩) hcl).trans hcc
          have HTK : Hid (doAll x.m (os.take (K + 1)) = doM (doAll x.m (os.take K)) o) := doAll_take x.m ho
          have HRK : Hid (RiseM (doAll x.m (os.take K))) := rise_all _ HRY.out.2.2
          have hlk := HI.out.2.2
          clear hne hnx hya HI
          generalize doAll x.m (os.take K) = mk at *
          have hdl := doM_len o mk
          have HDO : Hid (Calls Tryz.prog 15 #[.slice pa mk.length pc, .slice pu o.length pcu] wr fun e w' => ∃ u, e = .returned u ∧ PairsO w' X5 u (doM mk o) ∧ Below wr.heap.size wr w') := do8_off hPk hop hBw HO5.out (fun q hq => Nat.lt_of_lt_of_le (HS7.out.lt q hq) hBk.size) HRK.out (by have := HOS.out.2.1; omega)
          have HLN : Hid ((doM mk o).length ≤ 4000 + 50 * (K + 1)) := (by omega : (doM mk o).length ≤ 4000 + 50 * (K + 1))
          clear hct hop ho hcc hPk HRK hdl hlk
          go_wp2_with fail
          refine HDO.out.mono ?_
          rintro e w8 ⟨u8, rfl, hP8, hb8⟩
          obtain ⟨p8, c8, rfl⟩ := hP8.sl
          have HB8 : Hid (Below w7.heap.size w7 w8) := blift hBk hb8 hBk.size
          have HP8 : Hid (PairsO w8 X5 (.slice p8 (doM mk o).length c8) (doM mk o)) := hP8
          clear HDO hb8 hP8 hBk hBw ec
          go_wp2_with fail
          refine (same8_any _ _ y.m (doM mk o) w8 (HPG7.out.after HB8.out).read HP8.out.read (by have := HRY.out.1; omega)).mono ?_
          rintro e w9 ⟨rfl, hb9⟩
          have HB9 : Hid (Below w7.heap.size w7 w9) := blift HB8.out hb9 HB8.out.size
          have HP9 : Hid (PairsO w9 X5 (.slice p8 (doM mk o).length c8) (doM mk o)) := HP8.out.after hb9
          clear hb9 HB8 HP8
          go_wp2_with fail
          go_roundw
          case rel => exact ⟨K + 1, _, by go_num, hkl, rfl, ⟨by rw [HTK.out], .inr HNX2.out, by rw [HTK.out]; exact HLN.out⟩, by rw [HTK.out]; exact HP9.out, HB9.out⟩
          case measure => simp [intOf]; omega
    have b0 : (A.act == 0) = false := by simpa using a0
    have b1 : (A.act == 1) = false := by simpa using a1
    have b2 : (A.act == 2) = false := by simpa using a2
    go_wp2_with fail
    generalize wr.alloc (.cells #[.int .i64 A.act, .slice ua A.cs.length uc, .int .i64 A.k, .int .i64 A.n, .slice ba A.b.length bc, .slice sa A.stay.length sc] 37) = W at *
    have HRG : Hid (Calls Tryz.prog 18 #[.pointer (some ⟨SG, 0, none⟩), .slice none 0 0, .int .i64 5000] W fun e w' => RangeOk W x.m e w') := range_all HL1.out.st (Below.refl _ _)
    (try go_wp2_with fail)
    refine HRG.out.mono ?_
    rintro e wa ⟨va, ca, rfl, hPa, hba⟩
    obtain ⟨aa, naa, rfl⟩ := hPa.sl
    have HPI : Hid (PairsIn wa _ x.m) := hPa.read
    have HLa := HL1.out.after hba
    have HLa : Hid (LastI w wa n L SG X x _ _ _) := HLa
    clear HRG hPa hba
    go_wp2_with fail
    refine (same8_any _ _ x.m x.m wa HPI.out HLa.out.ps.read (by have := HLa.out.st.len; omega)).mono ?_
    rintro e wb ⟨rfl, hbb⟩
    rw [decide_eq_true rfl]
    have HLb := HLa.out.after hbb
    have HLb : Hid (LastI w wb n L SG X x _ _ _) := HLb
    clear hbb HLa HPI
    go_wp2_with fail
    go_roundw
    case rel => exact ⟨I + 1, SG, X, x, _, rfl, rfl, by go_num, hlt, by omega, HOS.out.1, HOS.out.2.1, HOS.out.2.2, HLb.out.later (by omega)⟩
    case measure => simp [intOf]; omega
end Go.Proofs.YtbegphfideopoaaGreat
