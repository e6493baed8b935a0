/-
  What is proved here: the statement WaveOrder is true of any devices and any two parts.
  Conditions: they lie in memory; the variable fourBits holds the sixteen words.
-/
import Derived.Test.YtnagdgkkkkpekaaDoorLawWaveTurned
namespace Go.Proofs.YtnagdgkkkkpekaaDoor
open Go.RowKit

set_option maxRecDepth 100000 in
set_option maxHeartbeats 8000000 in
theorem waveOrder_any (c : Int) (x y z : Value) (ds ps qs : List Int) (w : World) (hx : IntsI w x ds) (hy : IntsI w y ps) (hz : IntsI w z qs) (hgf : 0 < w.heap.size) (hf : Tab w 0 (fours.map v32)) :
    Calls Tryd.prog 8 #[.int .i64 c, x, .agg #[y, z]] w fun e w' => e = .returned (.bool true) ∧ Below w.heap.size w w' := by
  obtain ⟨ax, cx, rfl⟩ := hx.shape
  obtain ⟨ay, cy, rfl⟩ := hy.shape
  obtain ⟨az, cz, rfl⟩ := hz.shape
  have hb0 : Below w.heap.size w (w.alloc (.cells #[.slice ay ps.length cy, .slice az qs.length cz] 38)) := (Below.refl _ _).alloc (Nat.le_refl _) _
  have HA : Hid (Calls Tryd.prog 9 #[] (w.alloc (.cells #[.slice ay ps.length cy, .slice az qs.length cz] 38)) fun e w' => e = .returned (.bool true) ∧ Below (w.heap.size + 1) (w.alloc (.cells #[.slice ay ps.length cy, .slice az qs.length cz] 38)) w') := by
    have := awake15_any (w.alloc (.cells #[.slice ay ps.length cy, .slice az qs.length cz] 38)) (Nat.lt_of_lt_of_le hgf hb0.size) (hf.below hb0 hgf)
    rw [World.size_alloc] at this
    exact this
  have k := Blk.new w 38 #[.slice ay ps.length cy, .slice az qs.length cz]
  have HF : Hid (0 < w.heap.size ∧ Tab w 0 (fours.map v32)) := ⟨hgf, hf⟩
  have HP : Hid (∀ ay cy ps, IntsI w (.slice ay ps.length cy) ps → ds.length ≤ 500 → ∀ W, Below w.heap.size w W → Calls Tryd.prog 10 #[.int .i64 c, .slice ax ds.length cx, .slice ay ps.length cy] W fun e w' => ∃ v, e = .returned (.tuple #[v, .int .i64 (planW c ds ps).2]) ∧ PlanZ w' W.heap.size v (planW c ds ps).1 ∧ Below W.heap.size W w') := fun ay cy ps hy hl W hW =>
    plan_any15 c _ _ ds ps W (Nat.lt_of_lt_of_le HF.out.1 hW.size) (HF.out.2.below hW HF.out.1) (hx.below hW (Nat.le_refl _)) (hy.below hW (Nat.le_refl _)) (by omega)
  have HY : Hid (IntsI w (.slice ay ps.length cy) ps) := hy
  have HZ : Hid (IntsI w (.slice az qs.length cz) qs) := hz
  clear hx hy hz hgf hf HF
  go_enter Tryd.func8, Tryd.ntmps8
  go_wp2_with fail
  refine HA.out.mono ?_
  rintro e w1 ⟨rfl, hb1⟩
  have c0 : w1.cell? ⟨w.heap.size, 0, none⟩ = some (.slice ay ps.length cy) := (hb1.cell (p := ⟨w.heap.size, 0, none⟩) (by simp)).trans (k.cell rfl)
  have c1 : w1.cell? ⟨w.heap.size, 1, none⟩ = some (.slice az qs.length cz) := (hb1.cell (p := ⟨w.heap.size, 1, none⟩) (by simp)).trans (k.cell rfl)
  have hB : Below w.heap.size w w1 := hb0.trans (hb1.mono (by omega))
  have HW1 : Hid (w.heap.size < w1.heap.size) := (by have := hb1.size; simp at this; omega : w.heap.size < w1.heap.size)
  clear k hb0 hb1 HA
  by_cases hd : 300 < ds.length
  · have D : decide ((300 : Int) < (ds.length : Int)) = true := decide_eq_true (by omega)
    clear hd
    go_wp2
    go_ret
    exact ⟨rfl, hB⟩
  have D : decide ((300 : Int) < (ds.length : Int)) = false := decide_eq_false (by omega)
  by_cases hp : 100 < ps.length
  · have D1 : decide ((100 : Int) < (ps.length : Int)) = true := decide_eq_true (by omega)
    clear hd hp
    go_wp2
    go_ret
    exact ⟨rfl, hB⟩
  have D1 : decide ((100 : Int) < (ps.length : Int)) = false := decide_eq_false (by omega)
  by_cases hq : 100 < qs.length
  · have D2 : decide ((100 : Int) < (qs.length : Int)) = true := decide_eq_true (by omega)
    clear hd hp hq
    go_wp2
    go_ret
    exact ⟨rfl, hB⟩
  have D2 : decide ((100 : Int) < (qs.length : Int)) = false := decide_eq_false (by omega)
  have HL : Hid (ds.length ≤ 300 ∧ ps.length ≤ 100 ∧ qs.length ≤ 100) := ⟨by omega, by omega, by omega⟩
  clear hd hp hq
  go_wp2_with fail
  refine (HP.out ay cy ps HY.out (by have := HL.out; omega) _ hB).mono ?_
  rintro e W1 ⟨v1, rfl, hp1, hb1⟩
  have hB1 : Below w.heap.size w W1 := hB.trans (hb1.mono hB.size)
  have c2 : W1.cell? ⟨w.heap.size, 1, none⟩ = some (.slice az qs.length cz) := (hb1.cell (p := ⟨w.heap.size, 1, none⟩) HW1.out).trans c1
  have HP1 : Hid (PlanZ W1 w1.heap.size v1 (planW c ds ps).1) := hp1
  clear c0 c1 hb1 hp1 D D1 D2
  go_wp2_with fail
  refine (HP.out az cz qs HZ.out (by have := HL.out; omega) _ hB1).mono ?_
  rintro e W2 ⟨v2, rfl, hp2, hb2⟩
  have hB2 : Below w.heap.size w W2 := hB1.trans (hb2.mono hB1.size)
  have HP2 : Hid (PlanZ W2 W1.heap.size v2 (planW c ds qs).1) := hp2
  have HQ1 : Hid (PlanZ W2 w1.heap.size v1 (planW c ds ps).1) := HP1.out.below hb2 (Nat.le_refl _)
  clear hp2 c2 HP1
  by_cases e1 : (planW c ds ps).2 = 0
  · by_cases e2 : (planW c ds qs).2 = 0
    · rw [e1, e2]
      have HR1 : Hid (RowsI W2 v1 (planW c ds ps).1) := HQ1.out.rows (planW_rows _ _ _ (by have := HL.out; omega))
      have HR2 : Hid (RowsI W2 v2 (planW c ds qs).1) := HP2.out.rows (planW_rows _ _ _ (by have := HL.out; omega))
      have HF1 : Hid ((planW c ds ps).1.flatten = sortW c ds) := plan_flat e1
      have HF2 : Hid ((planW c ds qs).1.flatten = sortW c ds) := plan_flat e2
      have HN : Hid ((sortW c ds).length ≤ 300) := (by rw [sortW_len]; exact HL.out.1 : (sortW c ds).length ≤ 300)
      obtain ⟨rs, hrs⟩ : ∃ rs, rs = (planW c ds ps).1 := ⟨_, rfl⟩
      obtain ⟨ts, hts⟩ : ∃ ts, ts = (planW c ds qs).1 := ⟨_, rfl⟩
      rw [← hrs] at HR1 HF1
      rw [← hts] at HR2 HF2
      obtain ⟨S, hS⟩ : ∃ S, S = sortW c ds := ⟨_, rfl⟩
      rw [← hS] at HF1 HF2 HN
      obtain ⟨a1, c1, rfl⟩ := HR1.out.shape
      obtain ⟨a2, c2, rfl⟩ := HR2.out.shape
      clear hrs hts hS e1 e2 HP2 HQ1 HP
      have HST : Hid (∀ (rs : List (List Int)) (k : Nat) (h : k < rs.length), rs.flatten = S → (rs.take k).flatten.length + rs[k].length ≤ 300 ∧ (rs.take (k + 1)).flatten = (rs.take k).flatten ++ rs[k]) := fun rs k h hf => by
        have e : (rs.take (k + 1)).flatten = (rs.take k).flatten ++ rs[k] := by rw [List.take_add_one, List.getElem?_eq_getElem h, List.flatten_append]; simp
        refine ⟨?_, e⟩
        have h2 : (rs.take (k + 1)).flatten.length ≤ rs.flatten.length := by
          conv => rhs; rw [← List.take_append_drop (k + 1) rs]
          rw [List.flatten_append, List.length_append]; omega
        rw [e, List.length_append, hf] at h2
        have := HN.out
        omega
      have HWW : Hid (w.heap.size ≤ W2.heap.size) := hB2.size
      have hm1 : rs.length ≤ 1000000 := by obtain ⟨_, _, _, h, _⟩ := HR1.out; exact h
      have hm2 : ts.length ≤ 1000000 := by obtain ⟨_, _, _, h, _⟩ := HR2.out; exact h
      go_wp2_with fail
      go_loopw [12, 14] (fun v i wr => ∃ k : Nat, k ≤ rs.length ∧ i = .int .i64 (k : Int) ∧ OwnZ wr W2.heap.size v (rs.take k).flatten ∧ Below w.heap.size w wr ∧ Below W2.heap.size W2 wr) (fun _ i _ => rs.length - (Go.RowKit.intOf i).toNat)
      case atStart => exact ⟨0, Nat.zero_le _, rfl, OwnZ.nil _ _, hB2, Below.refl _ _⟩
      case round =>
        clear hB2
        obtain ⟨k, hk, rfl, hO, hB, hBW⟩ := hrel
        by_cases hlt : k < rs.length
        · have i1 : (k : Int) < (rs.length : Int) := by omega
          obtain ⟨_, _, e0, hml, hrow⟩ := HR1.out
          cases e0
          obtain ⟨pb, ra, rc, rfl, hpb, hrc, hri⟩ := hrow k _ (List.getElem?_eq_getElem hlt)
          have ixs := fun w => index_intss pb rs.length c1 k w hlt
          obtain ⟨n1, n2⟩ := HST.out rs k hlt HF1.out
          have d1 : wr.cell? ⟨pb, k, none⟩ = some (.slice ra rs[k].length rc) := (hBW.cell (p := ⟨pb, k, none⟩) hpb).trans hrc
          have HIX : Hid (IntsI wr (.slice ra rs[k].length rc) rs[k]) := hri.below hBW (Nat.le_refl _)
          have HLK : Hid ((rs.take k).flatten.length + rs[k].length ≤ 1000000000) := (by omega : (rs.take k).flatten.length + rs[k].length ≤ 1000000000)
          have HN2 : Hid ((rs.take (k + 1)).flatten = (rs.take k).flatten ++ rs[k]) := n2
          have HOO : Hid (OwnZ wr W2.heap.size u12 (rs.take k).flatten) := hO
          have HPB : Hid (∀ q, (u12).ownBlock = some q → W2.heap.size ≤ q) := fun q hq => (hO.blocks q hq).1
          have HSZ : Hid (W2.heap.size ≤ wr.heap.size) := hBW.size
          clear hO hrc hri hrow n1 n2
          generalize rs[k] = r at *
          go_wp2_with (at_builtin; refine app_ints _ rfl (.tmp 65) (.tmp 69) rfl (W2.heap.size) _ (rs.take k).flatten rfl (by exact HOO.out) _ r rfl (by exact HIX.out) (by exact HLK.out) (by exact HSZ.out) ?_; intro v2 w2 ho2 hg2 hv2)
          have hB3 : Below w.heap.size w w2 := hB.grown hg2 hB.size (fun q hq => Nat.le_trans HWW.out (HPB.out q hq))
          have hBW3 : Below W2.heap.size W2 w2 := hBW.grown hg2 hBW.size HPB.out
          go_roundw
          case rel => exact ⟨k + 1, hlt, by go_num, by rw [HN2.out]; exact ho2, hB3, hBW3⟩
          case measure => simp [Go.RowKit.intOf] <;> omega
        · have hkl : k = rs.length := by omega
          have i1 : ¬ (k : Int) < (rs.length : Int) := by omega
          have HO1 : Hid (IntsI wr u12 S) := by
            have h := hO.ints
            rw [hkl, List.take_length, HF1.out] at h
            exact h
          have HWW3 : Hid (w.heap.size ≤ wr.heap.size) := hB.size
          have HB2 : Hid (Below W2.heap.size W2 wr) := hBW
          clear hO hkl hlt hBW
          obtain ⟨a5, c5, rfl⟩ := HO1.out.shape
          obtain ⟨W3, hW3⟩ : ∃ W3, W3 = wr := ⟨_, rfl⟩
          subst hW3
          go_wp2_with fail
          go_loopw [13, 15] (fun v i wr => ∃ k : Nat, k ≤ ts.length ∧ i = .int .i64 (k : Int) ∧ OwnZ wr W3.heap.size v (ts.take k).flatten ∧ Below w.heap.size w wr ∧ Below W3.heap.size W3 wr) (fun _ i _ => ts.length - (Go.RowKit.intOf i).toNat)
          case atStart => exact ⟨0, Nat.zero_le _, rfl, OwnZ.nil _ _, hB, Below.refl _ _⟩
          case round =>
            clear hB
            obtain ⟨k, hk, rfl, hO, hB, hBW⟩ := hrel
            have hBX : Below W2.heap.size W2 wr := HB2.out.trans (hBW.mono HB2.out.size)
            by_cases hlt : k < ts.length
            · have i1 : (k : Int) < (ts.length : Int) := by omega
              obtain ⟨_, _, e0, hml, hrow⟩ := HR2.out
              cases e0
              obtain ⟨pb, ra, rc, rfl, hpb, hrc, hri⟩ := hrow k _ (List.getElem?_eq_getElem hlt)
              have ixs := fun w => index_intss pb ts.length c2 k w hlt
              obtain ⟨n1, n2⟩ := HST.out ts k hlt HF2.out
              have d1 : wr.cell? ⟨pb, k, none⟩ = some (.slice ra ts[k].length rc) := (hBX.cell (p := ⟨pb, k, none⟩) hpb).trans hrc
              have HIX : Hid (IntsI wr (.slice ra ts[k].length rc) ts[k]) := hri.below hBX (Nat.le_refl _)
              have HLK : Hid ((ts.take k).flatten.length + ts[k].length ≤ 1000000000) := (by omega : (ts.take k).flatten.length + ts[k].length ≤ 1000000000)
              have HN2 : Hid ((ts.take (k + 1)).flatten = (ts.take k).flatten ++ ts[k]) := n2
              have HOO : Hid (OwnZ wr W3.heap.size u13 (ts.take k).flatten) := hO
              have HPB : Hid (∀ q, (u13).ownBlock = some q → W3.heap.size ≤ q) := fun q hq => (hO.blocks q hq).1
              have HSZ : Hid (W3.heap.size ≤ wr.heap.size) := hBW.size
              clear hO hrc hri hrow n1 n2
              generalize ts[k] = r at *
              go_wp2_with (at_builtin; refine app_ints _ rfl (.tmp 77) (.tmp 81) rfl (W3.heap.size) _ (ts.take k).flatten rfl (by exact HOO.out) _ r rfl (by exact HIX.out) (by exact HLK.out) (by exact HSZ.out) ?_; intro v2 w2 ho2 hg2 hv2)
              have hB3 : Below w.heap.size w w2 := hB.grown hg2 hB.size (fun q hq => Nat.le_trans HWW3.out (HPB.out q hq))
              have hBW3 : Below W3.heap.size W3 w2 := hBW.grown hg2 hBW.size HPB.out
              go_roundw
              case rel => exact ⟨k + 1, hlt, by go_num, by rw [HN2.out]; exact ho2, hB3, hBW3⟩
              case measure => simp [Go.RowKit.intOf] <;> omega
            · have hkl : k = ts.length := by omega
              have i1 : ¬ (k : Int) < (ts.length : Int) := by omega
              have HO2 : Hid (IntsI wr u13 S) := by
                have h := hO.ints
                rw [hkl, List.take_length, HF2.out] at h
                exact h
              have HO3 : Hid (IntsI wr (.slice a5 S.length c5) S) := HO1.out.below hBW (Nat.le_refl _)
              clear hO hkl hlt hBX hBW
              obtain ⟨a6, c6, rfl⟩ := HO2.out.shape
              have HS : Hid (Calls Tryd.prog 17 #[.slice a5 S.length c5, .slice a6 S.length c6] wr fun e w' => e = .returned (.bool true) ∧ Below wr.heap.size wr w') := by
                have := sameI_any _ _ S S wr HO3.out HO2.out
                rw [decide_eq_true rfl] at this
                exact this
              go_wp2_with fail
              refine HS.out.mono ?_
              rintro e W4 ⟨rfl, hb4⟩
              go_wp2
              go_ret
              exact ⟨rfl, hB.trans (hb4.mono hB.size)⟩
    · have hn : ((planW c ds qs).2 != 0) = true := by simpa using e2
      rw [e1]
      clear e1 e2
      generalize (planW c ds qs).2 = E at *
      go_wp2
      go_ret
      exact ⟨rfl, hB2⟩
  · have hn : ((planW c ds ps).2 != 0) = true := by simpa using e1
    clear e1
    generalize (planW c ds ps).2 = E at *
    go_wp2
    go_ret
    exact ⟨rfl, hB2⟩
end Go.Proofs.YtnagdgkkkkpekaaDoor
