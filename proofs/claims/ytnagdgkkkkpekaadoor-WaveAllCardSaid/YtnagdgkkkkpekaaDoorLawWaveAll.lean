/-
  What is proved here: the statement WaveAll is true of any devices and parts.
  Conditions: they lie in memory; the variable fourBits holds the sixteen words.
-/
import Derived.Test.YtnagdgkkkkpekaaDoorWaveAwake
import Derived.Test.YtnagdgkkkkpekaaDoorWaveSame
import Derived.Test.YtnagdgkkkkpekaaDoorWaveLawP
import Derived.Test.YtnagdgkkkkpekaaDoorWaveSet
namespace Go.Proofs.YtnagdgkkkkpekaaDoor
open Go.RowKit Go.Maps

theorem cntW_at (rs : List (List Int)) (k j : Nat) (r : List Int) (hk : rs[k]? = some r) (hj : j < r.length) : rs.flatten[cntW rs k + j]? = some r[j] := by
  obtain ⟨hkl, rfl⟩ := List.getElem?_eq_some_iff.1 hk
  have e : rs.flatten = (rs.take k).flatten ++ (rs[k] ++ (rs.drop (k + 1)).flatten) := by
    conv => lhs; rw [← List.take_append_drop k rs]
    rw [List.flatten_append, List.drop_eq_getElem_cons hkl, List.flatten_cons]
  rw [e, cntW_flat, List.getElem?_append_right (by omega), Nat.add_sub_cancel_left, List.getElem?_append_left hj, List.getElem?_eq_getElem hj]
theorem cntW_le (rs : List (List Int)) (k : Nat) : cntW rs k ≤ rs.flatten.length := by
  rw [cntW_flat]
  conv => rhs; rw [← List.take_append_drop k rs]
  rw [List.flatten_append, List.length_append]
  omega
theorem cntW_all (rs : List (List Int)) : cntW rs rs.length = rs.flatten.length := by
  rw [cntW_flat, List.take_length]
set_option maxRecDepth 100000 in
set_option maxHeartbeats 8000000 in
theorem waveAll_any (c : Int) (x y : Value) (ds ps : List Int) (w : World) (hx : IntsI w x ds) (hy : IntsI w y ps) (hgf : 0 < w.heap.size) (hf : Tab w 0 (fours.map v32)) :
    Calls Tryd.prog 5 #[.int .i64 c, x, y] w fun e w' => e = .returned (.bool true) ∧ Below w.heap.size w w' := by
  have HX : Hid (IntsI w x ds) := hx
  have HY : Hid (IntsI w y ps) := hy
  have HF : Hid (0 < w.heap.size ∧ Tab w 0 (fours.map v32)) := ⟨hgf, hf⟩
  have HR : Hid (0 < ds.length → ∃ b off c, x = .slice (some ⟨b, off, none⟩) ds.length c ∧ ds.length ≤ c ∧ b < w.heap.size ∧ ∀ (j : Nat) z, ds[j]? = some z → w.cell? ⟨b, off + j, none⟩ = some (vI z)) := fun h => hx.form h
  have HP : Hid (0 < ps.length → ∃ b off c, y = .slice (some ⟨b, off, none⟩) ps.length c ∧ ps.length ≤ c ∧ b < w.heap.size ∧ ∀ (j : Nat) z, ps[j]? = some z → w.cell? ⟨b, off + j, none⟩ = some (vI z)) := fun h => hy.form h
  obtain ⟨ax, cx, rfl⟩ := hx.shape
  obtain ⟨ay, cy, rfl⟩ := hy.shape
  clear hx hy hgf hf
  go_enter Tryd.func5, Tryd.ntmps5
  go_wp2_with fail
  refine (awake15_any w HF.out.1 HF.out.2).mono ?_
  rintro e w1 ⟨rfl, hB1⟩
  by_cases hd : 500 < ds.length
  · have D : decide ((500 : Int) < (ds.length : Int)) = true := decide_eq_true (by omega)
    clear hd
    go_wp2
    go_ret
    exact ⟨rfl, hB1⟩
  have D : decide ((500 : Int) < (ds.length : Int)) = false := decide_eq_false (by omega)
  by_cases hp : 100 < ps.length
  · have D1 : decide ((100 : Int) < (ps.length : Int)) = true := decide_eq_true (by omega)
    clear hd hp
    go_wp2
    go_ret
    exact ⟨rfl, hB1⟩
  have D1 : decide ((100 : Int) < (ps.length : Int)) = false := decide_eq_false (by omega)
  have HL : Hid (ds.length ≤ 500 ∧ ps.length ≤ 100) := ⟨by omega, by omega⟩
  clear hd hp
  have HZ : Hid (Calls Tryd.prog 10 #[.int .i64 c, .slice ax ds.length cx, .slice ay ps.length cy] w1 fun e w' => ∃ v, e = .returned (.tuple #[v, .int .i64 (planW c ds ps).2]) ∧ PlanZ w' w1.heap.size v (planW c ds ps).1 ∧ Below w1.heap.size w1 w') :=
    plan_any15 c _ _ ds ps w1 (Nat.lt_of_lt_of_le HF.out.1 hB1.size) (HF.out.2.below hB1 HF.out.1) (HX.out.below hB1 (Nat.le_refl _)) (HY.out.below hB1 (Nat.le_refl _)) (by have := HL.out; omega)
  go_wp2_with fail
  refine HZ.out.mono ?_
  rintro e W1 ⟨v1, rfl, hp1, hb1⟩
  have hB : Below w.heap.size w W1 := hB1.trans (hb1.mono hB1.size)
  clear hb1 hB1 D D1 HZ
  by_cases hc : (planW c ds ps).2 = 0
  · obtain ⟨rs, hrs⟩ : ∃ rs, rs = (planW c ds ps).1 := ⟨_, rfl⟩
    have HFL : Hid (rs.flatten = sortW c ds) := by rw [hrs]; exact plan_flat hc
    have HCN : Hid (∀ k (hk : k < ps.length), cntW rs (k + 1) = upW ds.length ps[k] ∧ 1 ≤ ps[k] ∧ ps[k] ≤ 100) := fun k hk => by rw [hrs]; exact plan_count hc k hk
    have hlen : rs.length = ps.length := by rw [hrs]; exact plan_len hc
    obtain ⟨hnb, hnd, _⟩ := planW_ok hc
    have HND : Hid (sortW c ds).Nodup := (sortW_perm c ds).nodup_iff.2 hnd
    have HIN : Hid (∀ d ∈ ds, 1 ≤ d ∧ d ≤ 4096) := fun d hd => Classical.byContradiction fun h => hnb (.inr (.inl ⟨d, hd, h⟩))
    rw [hc]
    have HPZ : Hid (PlanZ W1 w1.heap.size v1 rs) := by rw [hrs]; exact hp1
    have HRI : Hid (RowsI W1 v1 rs) := by rw [hrs]; exact hp1.rows (by rw [← hrs, hlen]; have := HL.out; omega)
    have HLN : Hid (rs.length = ps.length) := hlen
    have hSL : (sortW c ds).length = ds.length := sortW_len c ds
    have HME : Hid (∀ d, d ∈ ds ↔ d ∈ sortW c ds) := fun d => (sortW_perm c ds).mem_iff.symm
    obtain ⟨S, hS⟩ : ∃ S, S = sortW c ds := ⟨_, rfl⟩
    rw [← hS] at HFL HND hSL HME
    have HSL : Hid (S.length = ds.length) := hSL
    obtain ⟨a1, c1, rfl⟩ := HRI.out.shape
    clear hp1 hrs hnb hnd hS hlen hSL hc
    have hown0 : (W1.alloc (.map #[] 0)).ownsMap Tryd.prog 3 boolR W1.heap.size 0 (.map []) := World.ownsMap_made (H := Unit) W1 Tryd.prog 3 boolR
    have hB0 : Below w.heap.size w (W1.alloc (.map #[] 0)) := hB.alloc hB.size _
    have hbW : Below W1.heap.size W1 (W1.alloc (.map #[] 0)) := (Below.refl _ _).alloc (Nat.le_refl _) _
    have hmm := @run_makeMap Tryd.prog
    go_wp2_with fail
    obtain ⟨bm, hbm⟩ : ∃ b, b = W1.heap.size := ⟨_, rfl⟩
    have HBM : Hid (w.heap.size ≤ bm ∧ bm = W1.heap.size) := ⟨by rw [hbm]; exact hB.size, hbm⟩
    rw [← hbm] at hown0 ⊢
    generalize W1.alloc (.map #[] 0) = w5 at *
    clear hbm hmm hB
    go_loopw [11, 12, 13] (fun n i _ wr => ∃ (k m : Nat) (D : DataW Unit), k ≤ ps.length ∧ i = .int .i64 (k : Int) ∧ n = .int .i64 ((cntW rs k : Nat) : Int) ∧ Below w.heap.size w wr ∧ Below W1.heap.size W1 wr ∧ wr.ownsMap Tryd.prog 3 boolR bm m D ∧ m ≤ cntW rs k ∧ HoldsB D (S.take (cntW rs k))) (fun _ i _ _ => ps.length - (Go.RowKit.intOf i).toNat)
    case atStart => exact ⟨0, 0, _, Nat.zero_le _, rfl, rfl, hB0, hbW, hown0, Nat.zero_le _, HoldsB.nil⟩
    case round =>
      clear hown0 hB0 hbW
      obtain ⟨wo, rfl⟩ : ∃ wo : World, wo = wr := ⟨_, rfl⟩
      obtain ⟨k, m, D, hk, rfl, rfl, hB, hBW, hown, hm, hH⟩ := hrel
      by_cases hlt : k < ps.length
      · have hkr : k < rs.length := by have := HLN.out; omega
        have i1 : (k : Int) < (ps.length : Int) := by omega
        have i2 : (k : Int) < (rs.length : Int) := by omega
        obtain ⟨_, _, e0, _, hrow⟩ := HRI.out
        cases e0
        obtain ⟨pb, ra, rc, rfl, hpb, hrc, hri⟩ := hrow k _ (List.getElem?_eq_getElem hkr)
        have ixs := fun w => index_intss pb rs.length c1 k w hkr
        obtain ⟨q, qo, cq, hyy, _, hql, hqc⟩ := HP.out (by omega)
        cases hyy
        have hpc := hqc k _ (List.getElem?_eq_getElem hlt)
        have ixp := fun w => index_intsI q qo ps.length cy k w hlt
        obtain ⟨g1, g2, g3⟩ := HCN.out k hlt
        have g4 := cntW_succ rs k hkr
        obtain ⟨r, hr⟩ : ∃ r, r = rs[k] := ⟨_, rfl⟩
        have HAT : Hid (∀ j (h : j < r.length), S[cntW rs k + j]? = some r[j]) := fun j h => by
          rw [← HFL.out]
          exact cntW_at rs k j r (by rw [hr]; exact List.getElem?_eq_getElem hkr) h
        have HS2 : Hid (cntW rs k + r.length ≤ S.length) := by
          show _ ≤ _
          rw [hr, ← g4, ← HFL.out]; exact cntW_le _ _
        rw [← hr] at hrc hri g4
        have hup := upW_part ds.length ps[k] (by omega)
        rw [← g1, g4] at hup
        have HS1 : Hid (cntW rs (k + 1) = cntW rs k + r.length) := g4
        obtain ⟨p, hp⟩ : ∃ p, p = ps[k] := ⟨_, rfl⟩
        rw [← hp] at hup hpc g2 g3
        have HUP : Hid (p * (ds.length : Int) ≤ 100 * ((cntW rs k + r.length : Nat) : Int) ∧ (100 * (((cntW rs k + r.length : Nat) : Int) - 1) < p * (ds.length : Int) ∨ cntW rs k + r.length = 0)) := hup
        have HG : Hid (1 ≤ p ∧ p ≤ 100) := ⟨g2, g3⟩
        have HRF : Hid (0 < r.length → ∃ b off c, (Value.slice ra r.length rc) = .slice (some ⟨b, off, none⟩) r.length c ∧ r.length ≤ c ∧ b < W1.heap.size ∧ ∀ (j : Nat) z, r[j]? = some z → W1.cell? ⟨b, off + j, none⟩ = some (vI z)) := fun h => hri.form h
        obtain ⟨n, hn⟩ : ∃ n, n = cntW rs k := ⟨_, rfl⟩
        rw [← hn] at HAT HS1 HS2 HUP hH hm ⊢
        clear hr hp hup g1 g2 g3 g4 hri hqc hrow hn
        have hpw : wo.cell? ⟨q, qo + k, none⟩ = some (vI p) := (hB.cell (p := ⟨q, qo + k, none⟩) hql).trans hpc
        go_wp2_with fail
        go_loopw [11, 13] (fun n' i wr => ∃ (j m' : Nat) (D' : DataW Unit), j ≤ r.length ∧ i = .int .i64 (j : Int) ∧ n' = .int .i64 ((n + j : Nat) : Int) ∧ Below w.heap.size w wr ∧ Below W1.heap.size W1 wr ∧ wr.ownsMap Tryd.prog 3 boolR bm m' D' ∧ m' ≤ n + j ∧ HoldsB D' (S.take (n + j))) (fun _ i _ => r.length - (Go.RowKit.intOf i).toNat)
        case atStart => exact ⟨0, m, D, Nat.zero_le _, rfl, rfl, hB, hBW, hown, hm, hH⟩
        case round =>
          clear hB hBW hown hm hH hpw
          obtain ⟨j, m, D, hj, rfl, rfl, hB, hBW, hown, hm, hH⟩ := hrel
          have d1 : wr.cell? ⟨pb, k, none⟩ = some (.slice ra r.length rc) := (hBW.cell (p := ⟨pb, k, none⟩) hpb).trans hrc
          have hr500 : r.length ≤ 500 := by have := HS2.out; have := HSL.out; have := HL.out; omega
          by_cases hjt : j < r.length
          · have j1 : (j : Int) < (r.length : Int) := by omega
            obtain ⟨g, go', cg, hx2, _, hgl, hgc⟩ := HRF.out (by omega)
            cases hx2
            have hzc : wr.cell? ⟨g, go' + j, none⟩ = some (vI r[j]) := (hBW.cell (p := ⟨g, go' + j, none⟩) hgl).trans (hgc j _ (List.getElem?_eq_getElem hjt))
            have jx := fun w => index_intsI g go' r.length rc j w hjt
            have hat := HAT.out j hjt
            obtain ⟨z, hz⟩ : ∃ z, z = r[j] := ⟨_, rfl⟩
            rw [← hz] at hzc hat
            clear hz hgc
            have hzS : z ∈ S := List.mem_of_getElem? hat
            have hzb := HIN.out z ((HME.out z).2 hzS)
            have HTK : Hid (S.take (n + (j + 1)) = S.take (n + j) ++ [z]) := by
              show _ = _
              rw [← Nat.add_assoc, List.take_add_one, hat]; rfl
            have HNM : Hid (¬ z ∈ S.take (n + j)) := fun hin => by
              have h1 : (S.take (n + (j + 1))).Nodup := HND.out.sublist (List.take_sublist _ _)
              rw [HTK.out, List.nodup_append] at h1
              exact h1.2.2 _ hin _ (List.mem_singleton.2 rfl) rfl
            have HK : Hid (keyOf Tryd.prog 3 (.int .i64 z) = some (.int .i64 z)) := key_intL z (by omega) (by omega)
            have HML : Hid (m < maxLen) := by
              have := HS2.out
              have := HSL.out
              have := HL.out
              show m < maxLen
              unfold maxLen; omega
            have HOW : Hid (wr.ownsMap Tryd.prog 3 boolR bm m D) := hown
            have HHH : Hid (HoldsB D (S.take (n + j))) := hH
            have hwn : IntKind.i64.wrap (((n + j : Nat) : Int) + 1) = ((n + (j + 1) : Nat) : Int) := by
              have := HS2.out
              have := HSL.out
              have := HL.out
              simp [IntKind.wrap, IntKind.bits, IntKind.signed]; omega
            clear hown hH hat hzS hzb
            obtain ⟨U, hU⟩ : ∃ U : Int, U = ((n + j : Nat) : Int) := ⟨_, rfl⟩
            obtain ⟨V, hV⟩ : ∃ V : Int, V = ((n + (j + 1) : Nat) : Int) := ⟨_, rfl⟩
            rw [← hU] at hwn ⊢
            rw [← hV] at hwn
            have HV : Hid (V = ((n + (j + 1) : Nat) : Int)) := hV
            clear hU hV
            go_wp2_with (at_mapUpdate; refine wpList_mapUpdate_own _ rfl _ _ _ 35 rfl 3 4 keyL Tryd.underlying35 boolR bm m D rfl HOW.out HML.out _ _ _ rfl rfl HK.out (.lit (.bool true)) [] (boolR_mk _) ?_; intro w7 hown7 hg7)
            have hB7 : Below w.heap.size w w7 := hB.grown hg7 hB.size (fun j hj => by cases hj; exact HBM.out.1)
            have hBW7 : Below W1.heap.size W1 w7 := hBW.grown hg7 hBW.size (fun j hj => by cases hj; rw [HBM.out.2]; exact Nat.le_refl _)
            have hH7 : HoldsB (D.put (.int .i64 z) (.lit (.bool true))) (S.take (n + (j + 1))) := by
              rw [HTK.out]
              exact HHH.out.put (HOW.out.tidy keyL) z (keyL.key HK.out) HNM.out
            go_roundw
            case rel => exact ⟨j + 1, m + 1, _, hjt, by go_num, by rw [HV.out], hB7, hBW7, hown7, by omega, hH7⟩
            case measure => simp [Go.RowKit.intOf]; omega
          · have hjl : j = r.length := by omega
            have j1 : ¬ (j : Int) < (r.length : Int) := by omega
            have hpw : wr.cell? ⟨q, qo + k, none⟩ = some (vI p) := (hB.cell (p := ⟨q, qo + k, none⟩) hql).trans hpc
            have HEND : Hid (k + 1 ≤ ps.length ∧ n + j = cntW rs (k + 1)) := ⟨hlt, by rw [HS1.out, hjl]⟩
            have hUP := HUP.out
            rw [← hjl] at hUP
            have hN := HSL.out
            have hN2 := HS2.out
            have hN3 := HL.out
            have hG := HG.out
            have q1 : 0 ≤ p * (ds.length : Int) := Int.mul_nonneg (by omega) (by omega)
            have q2 : p * (ds.length : Int) ≤ 100 * 500 := Int.mul_le_mul hG.2 (by omega) (by omega) (by omega)
            have HOW : Hid (wr.ownsMap Tryd.prog 3 boolR bm m D ∧ m ≤ n + j ∧ HoldsB D (S.take (n + j))) := ⟨hown, hm, hH⟩
            obtain ⟨U, hU⟩ : ∃ U : Int, U = ((n + j : Nat) : Int) := ⟨_, rfl⟩
            have hU0 : 0 ≤ U ∧ U ≤ 500 := by omega
            have HU : Hid (U = ((n + j : Nat) : Int)) := hU
            rw [← hU] at hUP ⊢
            have wr' : ∀ x : Int, -1000 ≤ x → x ≤ 107374182400 → IntKind.i64.wrap x = x := fun x h0 h1 => by
              simp [IntKind.wrap, IntKind.bits, IntKind.signed]; omega
            have w1 := wr' (100 * U) (by omega) (by omega)
            have w2 := wr' (p * (ds.length : Int)) (by omega) (by omega)
            have w3 := wr' (U - 1) (by omega) (by omega)
            have w4 := wr' (100 * (U - 1)) (by omega) (by omega)
            have D1 : decide (100 * U < p * (ds.length : Int)) = false := decide_eq_false (by omega)
            have D2 : decide (p * (ds.length : Int) ≤ 100 * (U - 1)) = false := decide_eq_false (by omega)
            clear hown hm hH hUP hN hN2 hN3 hG q1 q2 hU hU0 wr' hjl
            go_wp2
            go_roundw
            case rel => exact ⟨k + 1, m, D, HEND.out.1, by go_num, by rw [HU.out, HEND.out.2], hB, hBW, HOW.out.1, by rw [← HEND.out.2]; exact HOW.out.2.1, by rw [← HEND.out.2]; exact HOW.out.2.2⟩
            case measure => simp [Go.RowKit.intOf]; omega
      · have hkl : k = ps.length := by omega
        have hcn : cntW rs k = ds.length := by rw [hkl, ← HLN.out, cntW_all, HFL.out, HSL.out]
        rw [hcn] at hH ⊢
        rw [List.take_of_length_le (by rw [HSL.out]; exact Nat.le_refl _)] at hH
        have i1 : ¬ (k : Int) < (ps.length : Int) := by omega
        have i2 : ¬ (k : Int) < (rs.length : Int) := by have := HLN.out; omega
        have HLE : Hid (∀ ty, (Builtin.len_ #[35] ty #[.map (some bm)]).run Tryd.prog wo = .ok (.int .i64 (ds.length : Int)) wo) := fun ty => by
          have := hown.len Tryd.underlying35 ty
          rw [hH.size, HSL.out] at this
          exact this
        have HLK : Hid (∀ d ∈ ds, (Instr.lookup 35 (.map (some bm)) (.int .i64 d) false).run Tryd.prog wo = .ok (.bool true) wo) := fun d hd => by
          have hb := HIN.out d hd
          rw [lookB hown hH d (by omega) (by omega), decide_eq_true ((HME.out d).1 hd)]
        clear hown hH hm hcn hkl hlt
        go_wp2_with fail
        go_loop [14] (fun i => ∃ k : Nat, k ≤ ds.length ∧ i = .int .i64 (k : Int)) (fun i => ds.length - (Go.RowKit.intOf i).toNat)
        case atStart => exact ⟨0, Nat.zero_le _, rfl⟩
        case round =>
          obtain ⟨t, ht, rfl⟩ := hrel
          have hd500 : ds.length ≤ 500 := HL.out.1
          by_cases hlt : t < ds.length
          · obtain ⟨b, off, c', hxx, _, hb, hr⟩ := HR.out (by omega)
            cases hxx
            have hc1 : wo.cell? ⟨b, off + t, none⟩ = some (vI ds[t]) := (hB.cell (p := ⟨b, off + t, none⟩) hb).trans (hr t _ (List.getElem?_eq_getElem hlt))
            have ix := fun w => index_intsI b off ds.length cx t w hlt
            have hlk := HLK.out ds[t] (List.getElem_mem hlt)
            have t1 : (t : Int) < (ds.length : Int) := by omega
            generalize ds[t] = z at *
            clear hr
            go_wp2
            go_round
            case rel => exact ⟨t + 1, hlt, by go_num⟩
            case measure => simp [Go.RowKit.intOf]; omega
          · have t1 : ¬ (t : Int) < (ds.length : Int) := by omega
            have hle := HLE.out
            have hrl : ((rs.length : Int) == (ps.length : Int)) = true := by rw [HLN.out]; simp
            go_wp2
            go_ret
            exact ⟨rfl, hB⟩
  · have hno := planW_no hc
    have hn0 : ((planW c ds ps).2 != 0) = true := by simpa using hc
    rw [hno.1] at hp1
    obtain ⟨a1, c1, rfl⟩ := hp1.shape
    clear hp1 hc
    generalize (planW c ds ps).2 = E at *
    rcases hno.2 with rfl | rfl
    · clear hno
      go_wp2
      go_ret
      exact ⟨rfl, hB⟩
    · clear hno
      go_wp2
      go_ret
      exact ⟨rfl, hB⟩
end Go.Proofs.YtnagdgkkkkpekaaDoor
