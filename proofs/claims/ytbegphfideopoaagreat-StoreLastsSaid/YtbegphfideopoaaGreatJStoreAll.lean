/-
  What is proved here: a store's All and Commit do what the plain model does.
  Conditions: the store and the changes lie in memory.
-/
import Derived.Test.YtbegphfideopoaaGreatJStoreWrite
namespace Go.Proofs.YtbegphfideopoaaGreat
open Go.RowKit Go.Maps

theorem fullA_eq (s : DS) (next : PM) (rs : List (List UInt8)) : fullA s next rs = !((decide (sizeM next ≤ mostW s) && decide (next.length ≤ 4000)) && (!longB rs && decide (reckonB rs ≤ sizeS s / 4))) := by
  unfold fullA longB
  generalize rs.any (fun r => decide (4096 < r.length)) = b
  rw [Bool.eq_iff_iff]
  cases b <;> simp <;> omega
theorem PSt.fr {w w' : World} {SG : Nat} {L : PLay} {C : Nat → Prop} {x : SS} (h : PSt w SG L C x) (hb : Below w.heap.size w w') : PSt w' SG L (Fr C w w') x := by
  obtain ⟨G, Mb, CL, CV, hp, h1, h2, h3, h4⟩ := (h.after hb).body
  exact ⟨⟨G, Mb, CL, CV, hp, fun q hq => .inl (h1 q hq), fun q hq => .inl (h2 q hq), .inl h3, .inl h4⟩, fr_lt h.lt hb.size, h.pairs, h.len, h.size⟩
theorem chgB_le {cs : List (List OpB)} (h : cs.all chgR = true) : ∀ r ∈ cs.map chgB, r.length ≤ 1000000 := fun r hr => by
  obtain ⟨c, hc, rfl⟩ := List.mem_map.1 hr
  have h1 := chgR_facts (List.all_eq_true.1 h c hc)
  have := chgB_len c (fun o ho => by have := opR_facts (List.all_eq_true.1 h1.1 o ho); omega)
  omega
set_option maxRecDepth 100000 in
set_option maxHeartbeats 4000000 in
theorem all_any {w : World} {SG : Nat} {L : PLay} {C : Nat → Prop} {x : SS} (h : PSt w SG L C x) (v : Value) (cs : List (List OpB)) (hv : ChgsV w v cs) :
    Calls Tryz.prog 14 #[.pointer (some ⟨SG, 0, none⟩), v] w fun e w' => e = .returned (.int .i64 (allA x cs).1) ∧ PSt w' SG L (Fr C w w') (allA x cs).2 ∧ Chg C w w' := by
  obtain ⟨G, Mb, CL, CV, hP, hCL, hCV, hCS, hCM⟩ := id h.body
  have c1 : w.cell? ⟨SG, 1, none⟩ = some (.map (some Mb)) := Blk.cell hP.st (j := 1) rfl
  have c2 : w.cell? ⟨SG, 2, none⟩ = some (.bool x.br) := Blk.cell hP.st (j := 2) rfl
  have HB := hasBad_any v cs w hv
  have HV : Hid (∀ W, Below w.heap.size w W → ChgsV W v cs) := fun W hW => hv.below hW (Nat.le_refl _)
  obtain ⟨ao, c, rfl, hm, -⟩ := hv
  unfold maxLen at hm
  obtain ⟨R, hR⟩ : ∃ R, R = allA x cs := ⟨_, rfl⟩
  rw [← hR]
  unfold allA at hR
  cases hbr : x.br with
  | true =>
    rw [hbr] at c2 hR
    have HR : Hid (R = (10, x)) := hR
    clear hR HB
    go_enter Tryz.func14, Tryz.ntmps14
    go_wp2_with fail
    go_ret
    rw [HR.out]
    exact ⟨rfl, h.fr (Below.refl _ _), Chg.refl _ _⟩
  | false =>
  rw [hbr] at c2 hR
  rw [if_neg (by decide)] at hR
  have arg : ∀ W, Below w.heap.size w W → R = (1, x) → Ending.returned (.int .i64 1) = .returned (.int .i64 R.1) ∧ PSt W SG L (Fr C w W) R.2 ∧ Chg C w W := fun W hW e => by
    rw [e]
    exact ⟨rfl, h.fr hW, Chg.of_below hW (Nat.le_refl _)⟩
  have ARG : Hid (∀ W, Below w.heap.size w W → R = (1, x) → Ending.returned (.int .i64 1) = .returned (.int .i64 R.1) ∧ PSt W SG L (Fr C w W) R.2 ∧ Chg C w W) := arg
  clear arg
  by_cases h1 : cs.length < 1
  · have i1 : (cs.length : Int) < 1 := by omega
    have HR : Hid (R = (1, x)) := by show _ = _; rw [hR, if_pos (by simp [h1])]
    clear hR HB h1
    go_enter Tryz.func14, Tryz.ntmps14
    go_wp2_with fail
    go_ret
    exact ARG.out _ (Below.refl _ _) HR.out
  have i1 : ¬ (cs.length : Int) < 1 := by omega
  by_cases h2 : 16 < cs.length
  · have i2 : (16 : Int) < (cs.length : Int) := by omega
    have HR : Hid (R = (1, x)) := by show _ = _; rw [hR, if_pos (by simp [h2])]
    clear hR HB h1 h2
    go_enter Tryz.func14, Tryz.ntmps14
    go_wp2_with fail
    go_ret
    exact ARG.out _ (Below.refl _ _) HR.out
  have i2 : ¬ (16 : Int) < (cs.length : Int) := by omega
  cases hbad : cs.any (fun c => !chgR c) with
  | true =>
    rw [hbad] at HB
    have HB : Hid (Calls Tryz.prog 31 #[.slice ao cs.length c, .func (.func 32) #[] #[]] w fun e w' => e = .returned (.bool true) ∧ Below w.heap.size w w') := HB
    have HR : Hid (R = (1, x)) := by show _ = _; rw [hR, if_pos (by simp [hbad])]
    clear hR h1 h2 hbad
    go_enter Tryz.func14, Tryz.ntmps14
    go_wp2_with fail
    refine HB.out.mono ?_
    rintro e w1 ⟨rfl, hb1⟩
    go_wp2_with fail
    go_ret
    exact ARG.out _ hb1 HR.out
  | false =>
  rw [hbad] at HB
  have HB : Hid (Calls Tryz.prog 31 #[.slice ao cs.length c, .func (.func 32) #[] #[]] w fun e w' => e = .returned (.bool false) ∧ Below w.heap.size w w') := HB
  rw [if_neg (by rw [hbad, decide_eq_false h1, decide_eq_false h2]; decide)] at hR
  have hall : cs.all chgR = true := by
    rw [List.any_eq_false] at hbad
    exact List.all_eq_true.2 fun c hc => by simpa using hbad c hc
  have hcl : cs.length ≤ 16 := by omega
  have hln := len_all cs x.m hall
  have hpn := pairs_all cs h.pairs hall
  have hrl := chgB_le hall
  have hrn : (cs.map chgB).length ≤ 1000000 := by rw [List.length_map]; omega
  have hml := h.len
  rw [fullA_eq] at hR
  have HRR : Hid (R = _) := hR
  clear hR ARG h1 h2 hbad
  obtain ⟨next, hnx⟩ : ∃ m, m = doAll x.m cs := ⟨_, rfl⟩
  obtain ⟨rs, hrs⟩ : ∃ rs, rs = cs.map chgB := ⟨_, rfl⟩
  rw [← hnx, ← hrs] at HRR
  rw [← hnx] at hln hpn
  rw [← hrs] at hrl hrn
  have HNX : Hid (next = doAll x.m cs) := hnx
  have HRS : Hid (rs = cs.map chgB) := hrs
  clear hnx hrs
  go_enter Tryz.func14, Tryz.ntmps14
  go_wp2_with fail
  refine HB.out.mono ?_
  rintro e w1 ⟨rfl, hb1⟩
  have d1 : w1.cell? ⟨SG, 1, none⟩ = some (.map (some Mb)) := Blk.cell (hP.after hb1).st (j := 1) rfl
  have HBE := behind_any Mb CV x.m _ cs w1 (hP.after hb1).map (hP.after hb1).lv (HV.out w1 hb1) hall (by omega)
  rw [← HNX.out] at HBE
  clear c1 c2 HB
  go_wp2_with fail
  refine HBE.mono ?_
  rintro e w2 ⟨N, C', rfl, hN1, hN2, hCN, hC', hM2, hb2⟩
  have hB2 := blift hb1 hb2 hb1.size
  have HEC := encodeChanges_any _ cs w2 (HV.out w2 hB2) hall hcl
  rw [← HRS.out] at HEC
  clear HBE d1
  go_wp2_with fail
  refine HEC.mono ?_
  rintro e w3 ⟨rv, vs, rfl, hG3, hb3⟩
  have hB3 := blift hB2 hb3 hB2.size
  have hM3 := hM2.after hb3
  have hP3 := hP.after hB3
  clear HEC hM2
  go_wp2_with fail
  refine (mayHold_any hP3 hM3 hpn (by omega)).mono ?_
  rintro e w4 ⟨rfl, hb4⟩
  have hB4 := blift hB3 hb4 hB3.size
  have hM4 := hM3.after hb4
  have hP4 := hP3.after hb4
  have hG4 := hG3.below hb4 (Nat.le_refl _)
  clear hM3 hP3 hG3
  cases hH : (decide (sizeM next ≤ mostW x.s) && decide (next.length ≤ 4000)) with
  | false =>
    have HR : Hid (R = (3, x)) := by show _ = _; rw [HRR.out, hH, Bool.false_and]; exact if_pos rfl
    clear hH HRR
    go_wp2_with fail
    go_ret
    rw [HR.out]
    exact ⟨rfl, h.fr hB4, Chg.of_below hB4 (Nat.le_refl _)⟩
  | true =>
  have hH2 : sizeM next ≤ mostW x.s ∧ next.length ≤ 4000 := by simpa using hH
  rw [hH, Bool.true_and] at HRR
  clear hH
  obtain ⟨ra, rc, rfl⟩ := hG4.sl
  have HMW := mayWrite_any hP4 (hG4.rowsV (by unfold maxLen; omega)) hrl hrn
  go_wp2_with fail
  refine HMW.mono ?_
  rintro e w5 ⟨rfl, hb5⟩
  have hB5 := blift hB4 hb5 hB4.size
  have hM5 := hM4.after hb5
  have hP5 := hP4.after hb5
  have hG5 := hG4.below hb5 (Nat.le_refl _)
  clear hM4 hP4 hG4 HMW
  cases hW : (!longB rs && decide (reckonB rs ≤ sizeS x.s / 4)) with
  | false =>
    have HR : Hid (R = (3, x)) := by show _ = _; rw [HRR.out, hW]; exact if_pos rfl
    clear hW HRR
    go_wp2_with fail
    go_ret
    rw [HR.out]
    exact ⟨rfl, h.fr hB5, Chg.of_below hB5 (Nat.le_refl _)⟩
  | true =>
  rw [hW, if_neg (by decide)] at HRR
  clear hW
  have hclt : ∀ q, CL q → q < w.heap.size := hP.log.lt
  have HWR := write_any8 hP5 h.pairs h.len h.size hG5 (fun q hq => Nat.lt_of_lt_of_le (hclt q hq) hB2.size) hrl hrn
  have hsz := hP.log.size_le
  have hsg := hP.sg
  have hsgl : SG < w.heap.size := Blk.lt hP.st
  go_wp2_with fail
  refine HWR.mono ?_
  rintro e w6 ⟨rfl, hP6, hc6⟩
  obtain ⟨T, hT⟩ : ∃ T, T = writeA x.s x.l x.m rs := ⟨_, rfl⟩
  rw [← hT] at HRR hP6 ⊢
  clear hT HWR
  have hst6 : StB w6 SG G Mb x.br := Blk.chg hP5.st hc6 hsg.1
  have hmb6 : MapP w6 CV Mb x.m := hP5.map.chg hc6 hP5.mb.1 hP5.cv
  have hC6 : Chg C w w6 := (Chg.of_below (S := C) hB5 (Nat.le_refl _)).trans hc6 (fun q _ hq => hCL q hq)
  have hN6 : MapP w6 C' N next := hM5.chg hc6 (fun e => by have := hclt _ e; have := hb1.size; omega) (fun q hq e => by
    have := hclt _ e
    rcases hC' q hq with e2 | e2
    · exact hP.cv q e2 e
    · have := hb1.size; omega)
  have d1 : w6.cell? ⟨SG, 1, none⟩ = some (.map (some Mb)) := Blk.cell hst6 (j := 1) rfl
  have d2 : w6.cell? ⟨SG, 2, none⟩ = some (.bool x.br) := Blk.cell hst6 (j := 2) rfl
  have f1 := Blk.frozen hst6 1
  have f2 := Blk.frozen hst6 2
  obtain ⟨e1, s1, l1⟩ := T
  have frl : ∀ q, Fr CL w5 w6 q → Fr C w w6 q := fun q hq => by
    rcases hq with e | e
    · exact .inl (hCL q e)
    · exact .inr ⟨Nat.le_trans hB5.size e.1, e.2⟩
  have frn : ∀ q, q < w5.heap.size → ¬ CL q → ¬ Fr CL w5 w6 q := fun q h1 h2 e => by
    rcases e with e | e
    · exact h2 e
    · omega
  by_cases he : e1 = 0
  · subst he
    have HR : Hid (R = (0, ⟨s1, l1, next, false⟩)) := by show _ = _; rw [HRR.out]; exact if_neg (fun h => h rfl)
    have hc7 := (Chg.refl (fun q => q = SG) w6).setCell SG 1 (.map (some N)) (fun _ => rfl)
    have hst7 : StB (w6.setCell ⟨SG, 1, none⟩ (.map (some N))) SG G N false := by
      have := Blk.set hst6 1 (.map (some N))
      rw [hbr] at this
      exact this.of_eq rfl
    have hNC : ¬ CL N := fun e => by have := hclt _ e; have := hb1.size; omega
    have hCq : ∀ q, C' q → q < w5.heap.size ∧ ¬ CL q := fun q hq => by
      rcases hC' q hq with e2 | e2
      · exact ⟨Nat.lt_of_lt_of_le (hP.lv q e2) hB5.size, hP.cv q e2⟩
      · exact ⟨Nat.lt_of_lt_of_le e2.2 (Nat.le_trans hb3.size (Nat.le_trans hb4.size hb5.size)), fun e => by have := hclt _ e; have := hb1.size; omega⟩
    have hC's : ¬ C' SG := fun e => by
      rcases hC' _ e with e2 | e2
      · exact hsg.2 e2
      · have := hb1.size; omega
    have hN5 : N < w5.heap.size := Nat.lt_of_lt_of_le hN2 (Nat.le_trans hb3.size (Nat.le_trans hb4.size hb5.size))
    have HPS : Hid (PSt (w6.setCell ⟨SG, 1, none⟩ (.map (some N))) SG L (Fr C w (w6.setCell ⟨SG, 1, none⟩ (.map (some N)))) ⟨s1, l1, next, false⟩) := by
      refine ⟨⟨G, N, Fr CL w5 w6, C', ⟨hP6.chg hc7 (fun q hq e => ?_), hst7, hN6.chg hc7 (fun e => ?_) (fun q hq e => hC's (e ▸ hq)), fun q hq => frn q (hCq q hq).1 (hCq q hq).2, ⟨frn SG (Nat.lt_of_lt_of_le hsgl hB5.size) hsg.1, hC's⟩, ⟨frn N hN5 hNC, hCN⟩, fun q hq => Nat.lt_of_lt_of_le (hCq q hq).1 (Nat.le_trans hc6.size hc7.size)⟩, fun q hq => ?_, fun q hq => ?_, .inl hCS, ?_⟩, fr_lt h.lt (Nat.le_trans hC6.size hc7.size), hpn, hH2.2, ?_⟩
      · have e : q = SG := e
        subst e
        exact frn q (Nat.lt_of_lt_of_le hsgl hB5.size) hsg.1 hq
      · have e : N = SG := e
        have := hb1.size
        omega
      · exact (frl q hq).imp id (fun h => ⟨h.1, Nat.lt_of_lt_of_le h.2 hc7.size⟩)
      · rcases hC' q hq with e2 | e2
        · exact .inl (hCV q e2)
        · exact .inr ⟨Nat.le_trans hb1.size e2.1, Nat.lt_of_lt_of_le (hCq q hq).1 (Nat.le_trans hc6.size hc7.size)⟩
      · exact .inr ⟨Nat.le_trans hb1.size hN1, Nat.lt_of_lt_of_le hN5 (Nat.le_trans hc6.size hc7.size)⟩
      · have : mostW x.s ≤ 131008 := by unfold mostW; omega
        have := hH2.1
        show sizeM next ≤ 1000000
        omega
    have hC7 : Chg C w (w6.setCell ⟨SG, 1, none⟩ (.map (some N))) := hC6.trans hc7 (fun q _ hq => by have e : q = SG := hq; rw [e]; exact hCS)
    clear HRR hP6 hN6 hst7 hmb6 hP5 hM5 hG5
    go_wp2_with fail
    go_ret
    rw [HR.out]
    exact ⟨rfl, HPS.out, hC7⟩
  · have he' : (e1 == 0) = false := by simpa using he
    have HR : Hid (R = (e1, ⟨s1, l1, x.m, true⟩)) := by show _ = _; rw [HRR.out]; exact if_pos he
    have hc7 := (Chg.refl (fun q => q = SG) w6).setCell SG 2 (.bool true) (fun _ => rfl)
    have hst7 : StB (w6.setCell ⟨SG, 2, none⟩ (.bool true)) SG G Mb true := (Blk.set hst6 2 (.bool true)).of_eq rfl
    have HPS : Hid (PSt (w6.setCell ⟨SG, 2, none⟩ (.bool true)) SG L (Fr C w (w6.setCell ⟨SG, 2, none⟩ (.bool true))) ⟨s1, l1, x.m, true⟩) := by
      refine ⟨⟨G, Mb, Fr CL w5 w6, CV, ⟨hP6.chg hc7 (fun q hq e => ?_), hst7, hmb6.chg hc7 (fun e => hP.ne e.symm) (fun q hq e => hsg.2 (e ▸ hq)), fun q hq => frn q (Nat.lt_of_lt_of_le (hP.lv q hq) hB5.size) (hP.cv q hq), ⟨frn SG (Nat.lt_of_lt_of_le hsgl hB5.size) hsg.1, hsg.2⟩, ⟨frn Mb (Nat.lt_of_lt_of_le hP.map.lt hB5.size) hP.mb.1, hP.mb.2⟩, fun q hq => Nat.lt_of_lt_of_le (hP.lv q hq) (Nat.le_trans hC6.size hc7.size)⟩, fun q hq => ?_, fun q hq => .inl (hCV q hq), .inl hCS, .inl hCM⟩, fr_lt h.lt (Nat.le_trans hC6.size hc7.size), h.pairs, h.len, h.size⟩
      · have e : q = SG := e
        subst e
        exact frn q (Nat.lt_of_lt_of_le hsgl hB5.size) hsg.1 hq
      · exact (frl q hq).imp id (fun h => ⟨h.1, Nat.lt_of_lt_of_le h.2 hc7.size⟩)
    have hC7 : Chg C w (w6.setCell ⟨SG, 2, none⟩ (.bool true)) := hC6.trans hc7 (fun q _ hq => by have e : q = SG := hq; rw [e]; exact hCS)
    clear HRR hP6 hN6 hst7 hmb6 hP5 hM5 hG5 he
    go_wp2_with fail
    go_ret
    rw [HR.out]
    exact ⟨rfl, HPS.out, hC7⟩
set_option maxRecDepth 100000 in
theorem commit_any8 {w : World} {SG : Nat} {L : PLay} {C : Nat → Prop} {x : SS} (h : PSt w SG L C x) (v : Value) (ops : List OpB) (hv : OpsV w v ops) :
    Calls Tryz.prog 20 #[.pointer (some ⟨SG, 0, none⟩), v] w fun e w' => e = .returned (.int .i64 (allA x [ops]).1) ∧ PSt w' SG L (Fr C w w') (allA x [ops]).2 ∧ Chg C w w' := by
  obtain ⟨ao, c, rfl, -⟩ := id hv
  have hb1 := (Below.refl w.heap.size w).alloc (Nat.le_refl _) (.cells #[.slice ao ops.length c] 40)
  have hk1 := Blk.new w 40 #[.slice ao ops.length c]
  have hV : ChgsV (w.alloc (.cells #[.slice ao ops.length c] 40)) (.slice (some ⟨w.heap.size, 0, none⟩) 1 1) [ops] := by
    refine ⟨_, 1, rfl, (by show 1 ≤ maxLen; decide), fun i o hi => ?_⟩
    match i, hi with
    | 0, hi =>
      cases hi
      exact ⟨w.heap.size, 0, rfl, hk1.lt, _, hk1.cell rfl, hv.below hb1 (Nat.le_refl _)⟩
    | (i + 1), hi => cases hi
  have HA := all_any (h.after hb1) _ [ops] hV
  obtain ⟨R, hR⟩ : ∃ R, R = allA x [ops] := ⟨_, rfl⟩
  rw [← hR] at HA ⊢
  clear hR hV hk1 hv
  go_enter Tryz.func20, Tryz.ntmps20
  go_wp2_with fail
  obtain ⟨w1, hw1⟩ : ∃ W, W = w.alloc (.cells #[.slice ao ops.length c] 40) := ⟨_, rfl⟩
  rw [← hw1] at HA hb1 ⊢
  clear hw1
  refine HA.mono ?_
  rintro e w2 ⟨rfl, hP2, hc2⟩
  have hC2 : Chg C w w2 := (Chg.of_below (S := C) hb1 (Nat.le_refl _)).trans hc2 (fun _ _ h => h)
  obtain ⟨G, Mb, CL, CV, hp, q1, q2, q3, q4⟩ := hP2.body
  have im : ∀ q, Fr C w1 w2 q → Fr C w w2 q := fun q hq => hq.imp id (fun h => ⟨Nat.le_trans hb1.size h.1, h.2⟩)
  have HP : Hid (PSt w2 SG L (Fr C w w2) R.2) := ⟨⟨G, Mb, CL, CV, hp, fun q hq => im q (q1 q hq), fun q hq => im q (q2 q hq), im _ q3, im _ q4⟩, fr_lt h.lt hC2.size, hP2.pairs, hP2.len, hP2.size⟩
  clear hP2 HA hp
  go_wp2_with fail
  go_ret
  exact ⟨rfl, HP.out, hC2⟩
end Go.Proofs.YtbegphfideopoaaGreat
