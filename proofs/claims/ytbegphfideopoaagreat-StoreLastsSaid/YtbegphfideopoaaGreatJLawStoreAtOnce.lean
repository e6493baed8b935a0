/-
  What is proved here: of all changes, the statement StoreAtOnce answers true.
  Conditions: none.
-/
import Derived.Test.YtbegphfideopoaaGreatJStoreRange
import Derived.Test.YtbegphfideopoaaGreatJStoreSame
import Derived.Test.YtbegphfideopoaaGreatJStoreMuch
namespace Go.Proofs.YtbegphfideopoaaGreat
open Go.RowKit Go.Maps

theorem PSt.rise {w : World} {SG : Nat} {L : PLay} {C : Nat → Prop} {x : SS} (h : PSt w SG L C x) : RiseM x.m := by
  obtain ⟨G, Mb, CL, CV, hP, -⟩ := h.body
  exact hP.map.rise
theorem steps_one {w : World} {b : Nat} {t : TypeId} {ao : Option Addr} {n c : Nat} {cs : List (List OpB)} (hk : Blk w b t #[.int .i64 0, .slice ao n c, .int .i64 0, .int .i64 0, .slice none 0 0, .slice none 0 0]) (hc : ChgsV w (.slice ao n c) cs) : StepsV w (.slice (some ⟨b, 0, none⟩) 1 1) [⟨cs, 0, 0⟩] := by
  refine ⟨_, 1, rfl, (by show 1 ≤ maxLen; decide), fun i s hs => ?_⟩
  match i, hs with
  | 0, hs =>
    cases hs
    exact ⟨b, 0, rfl, ⟨_, hk.cell (j := 1) rfl, hc⟩, ⟨_, _, hk.cell (j := 4) rfl⟩, ⟨_, _, hk.cell (j := 5) rfl⟩⟩
  | (i + 1), hs => cases hs
theorem bad_one {cs : List (List OpB)} (h : badA cs = false) {I : Nat} {c : List OpB} (hc : cs[I]? = some c) : badA [c] = false := by
  unfold badA at h ⊢
  simp only [Bool.or_eq_false_iff] at h
  have := List.any_eq_false.1 h.2 c (List.mem_of_getElem? hc)
  simpa using this
theorem doAll_step (cs : List (List OpB)) {I : Nat} {c : List OpB} (hc : cs[I]? = some c) : doAll [] (cs.take (I + 1)) = doAll (doAll [] (cs.take I)) [c] := by
  rw [List.take_add_one, hc, ← doAll_app]
  rfl
theorem range_all {w W : World} {SG : Nat} {L : PLay} {C : Nat → Prop} {x : SS} (h : PSt w SG L C x) (hW : Below w.heap.size w W) : Calls Tryz.prog 18 #[.pointer (some ⟨SG, 0, none⟩), .slice none 0 0, .int .i64 5000] W fun e w' => RangeOk W x.m e w' := by
  have h1 := h.len
  have h2 := range_any8 (h.after hW) (.slice none 0 0) [] (.inl ⟨rfl, none, 0, rfl, fun _ => rfl⟩) 5000
  rw [range_nil, show ((5000 : Int).toNat) = 5000 from rfl, List.take_of_length_le (i := 5000) (l := x.m) (by omega)] at h2
  exact h2
set_option maxRecDepth 100000 in
set_option maxHeartbeats 8000000 in
theorem storeAtOnce_any (v : Value) (cs : List (List OpB)) (w : World) (h : ChgsV w v cs) :
    Calls Tryz.prog 5 #[v] w fun e w' => e = .returned (.bool true) ∧ Below w.heap.size w w' := by
  have HV : Hid (∀ W, Below w.heap.size w W → ChgsV W v cs) := fun W hW => h.below hW (Nat.le_refl _)
  obtain ⟨ao, c, rfl, hcm, -⟩ := h
  unfold maxLen at hcm
  obtain ⟨x, hx, hxm, hxs, HOP⟩ := open_new 200 (by rw [newS_size]; decide) (by decide)
  have hx2 : Hid (CalmS x 200 1 ∧ x.m = [] ∧ 256 ≤ sizeS x.s) := ⟨hx, hxm, by rw [hxs, newS_size]; decide⟩
  have HOP : Hid (∀ (w : World) (L : PLay) (C : Nat → Prop), OD w L C (newS 200) → Calls Tryz.prog 12 #[.pointer (some ⟨L.g, 0, none⟩)] w fun e w' => Opened w L C x e w') := HOP
  clear hx hxm hxs
  go_enter Tryz.func5, Tryz.ntmps5
  go_wp2_with fail
  refine (awake8_any w).mono ?_
  rintro e w1 ⟨rfl, hB1⟩
  go_wp2_with fail
  have hb2 := (Below.refl w1.heap.size w1).alloc (Nat.le_refl _) (.cells #[.int .i64 0, .slice ao cs.length c, .int .i64 0, .int .i64 0, .slice none 0 0, .slice none 0 0] 37)
  have hk2 := Blk.new w1 37 #[.int .i64 0, .slice ao cs.length c, .int .i64 0, .int .i64 0, .slice none 0 0, .slice none 0 0]
  obtain ⟨w2, hw2⟩ : ∃ W, W = w1.alloc (.cells #[.int .i64 0, .slice ao cs.length c, .int .i64 0, .int .i64 0, .slice none 0 0, .slice none 0 0] 37) := ⟨_, rfl⟩
  rw [← hw2] at hb2 hk2 ⊢
  clear hw2
  have hB2 := blift hB1 hb2 hB1.size
  refine (much8_any _ [⟨cs, 0, 0⟩] w2 (steps_one hk2 (HV.out w2 hB2))).mono ?_
  rintro e w2' ⟨r, rfl, -, hw⟩
  obtain rfl := hw.symm
  clear hw hb2 hk2 hB1
  cases r with
  | true =>
    go_wp2_with fail
    go_ret
    exact ⟨rfl, hB2⟩
  | false =>
  by_cases hl : 16 < cs.length
  · have j1 : (16 : Int) < (cs.length : Int) := by omega
    go_wp2_with fail
    go_ret
    exact ⟨rfl, hB2⟩
  have j1 : ¬ (16 : Int) < (cs.length : Int) := by omega
  go_wp2_with fail
  refine (od_new 200 w2 (by decide) (by decide)).mono ?_
  rintro e w3 ⟨L, rfl, hD3, hb3, hT3, -⟩
  have hB3 := blift hB2 hb3 hB2.size
  go_wp2_with fail
  refine (od_new 200 w3 (by decide) (by decide)).mono ?_
  rintro e w4 ⟨M, rfl, hE4, hb4, hU4, -⟩
  have hB4 := blift hB3 hb4 hB3.size
  have hTl : ∀ q, L.T q → q < w3.heap.size := hD3.lt
  have hD4 := hD3.after hb4
  clear hD3
  go_wp2_with fail
  refine (HOP.out w4 L L.T hD4).mono ?_
  rintro e w5 ⟨SG, rfl, hS5, -, hc5⟩
  have hE5 := hE4.chg hc5 (fun q hq e => by have := hU4 q hq; have := hTl q e; omega)
  have hT2 : ∀ q, L.T q → w.heap.size ≤ q := fun q hq => by have := hT3 q hq; have := hB2.size; omega
  have hB5 : Below w.heap.size w w5 := hB4.trans (hc5.below hT2 hB4.size)
  have hC5 : ∀ q, Fr L.T w4 w5 q → w.heap.size ≤ q := fr_from hT2 hB4.size
  have hU5 : ∀ q, M.T q → q < w4.heap.size := hE4.lt
  go_wp2_with fail
  refine (HOP.out w5 M M.T hE5).mono ?_
  rintro e w6 ⟨SX, rfl, hX6, -, hc6⟩
  have hS6 := hS5.chg hc6 (fun q hq e => by
    have h1 := hU4 q e
    have h2 := hU5 q e
    rcases hq with h3 | h3
    · have := hTl q h3; omega
    · omega)
  have hU2 : ∀ q, M.T q → w.heap.size ≤ q := fun q hq => by have := hU4 q hq; have := hB3.size; omega
  have hB6 : Below w.heap.size w w6 := hB5.trans (hc6.below hU2 hB5.size)
  have hD6 : ∀ q, Fr M.T w5 w6 q → w.heap.size ≤ q := fr_from hU2 hB5.size
  have hdis : ∀ q, Fr M.T w5 w6 q → ¬ Fr L.T w4 w5 q := fun q hq e => by
    have h5 := hS5.lt q e
    rcases hq with h3 | h3
    · have h1 := hU4 q h3
      have h2 := hU5 q h3
      rcases e with h4 | h4
      · have := hTl q h4; omega
      · omega
    · omega
  obtain ⟨C, hCC⟩ : ∃ C, C = Fr L.T w4 w5 := ⟨_, rfl⟩
  obtain ⟨D, hDD⟩ : ∃ D, D = Fr M.T w5 w6 := ⟨_, rfl⟩
  rw [← hCC] at hS6 hC5 hdis
  rw [← hDD] at hX6 hD6 hdis
  clear hCC hDD hS5 hE5 hE4 hc5 hc6 hT2 hU2 hU5 hU4 hTl hT3 hD4 hB5 hB4 hB3 hB2 hb3 hb4 HOP
  go_wp2_with fail
  refine (all_any hS6 _ cs (HV.out w6 hB6)).mono ?_
  rintro e w7 ⟨rfl, hS7, hc7⟩
  have hX7 := hX6.chg hc7 hdis
  have hB7 : Below w.heap.size w w7 := hB6.trans (hc7.below hC5 hB6.size)
  have hC7 : ∀ q, Fr C w6 w7 q → w.heap.size ≤ q := fr_from hC5 hB6.size
  have hdis7 : ∀ q, D q → ¬ Fr C w6 w7 q := fun q hq e => by
    rcases e with e | e
    · exact hdis q hq e
    · have := hX6.lt q hq; omega
  obtain ⟨E, hEE⟩ : ∃ E, E = Fr C w6 w7 := ⟨_, rfl⟩
  rw [← hEE] at hS7 hC7 hdis7
  have hall := all_calm hx2.out.1 (by decide) hx2.out.2.2 (by decide) (by rw [hx2.out.2.1]; intro p hp; cases hp) (by rw [hx2.out.2.1]; exact List.Pairwise.nil) cs
  clear hEE hc7 hdis hC5 hS6 hX6 hB6
  have hlen : ∀ {X : Nat → Prop} {z : SS}, PSt w7 SG L X z → Calls Tryz.prog 25 #[.pointer (some ⟨SG, 0, none⟩)] w7 fun e w' => e = .returned (.int .i64 (z.m.length : Int)) ∧ w' = w7 := fun {X z} hz => by
    obtain ⟨G, Mb, CL, CV, hP, -⟩ := hz.body
    exact len_any8 hP
  have hcode : ∃ cd y, allA x cs = (cd, y) ∧ (((cd = 1 ∨ cd = 3) ∧ y.m = []) ∨ (cd = 0 ∧ badA cs = false ∧ y.m = doAll [] cs)) := by
    rcases hall with ⟨_, e⟩ | ⟨_, _, e⟩ | ⟨hb, _, y, e, _, hy, _⟩
    · exact ⟨_, _, e, .inl ⟨.inl rfl, hx2.out.2.1⟩⟩
    · exact ⟨_, _, e, .inl ⟨.inr rfl, hx2.out.2.1⟩⟩
    · exact ⟨_, _, e, .inr ⟨rfl, hb, by rw [hy, hx2.out.2.1]⟩⟩
  obtain ⟨cd, y, hcd, hcase⟩ := hcode
  rw [hcd] at hS7 ⊢
  clear hall hcd
  rcases hcase with ⟨hc13, hy0⟩ | ⟨rfl, hbad0, hym0⟩
  · have HLN := hlen hS7
    rw [show (y.m.length : Int) = 0 by rw [hy0]; rfl] at HLN
    have HLN : Hid (Calls Tryz.prog 25 #[.pointer (some ⟨SG, 0, none⟩)] w7 fun e w' => e = .returned (.int .i64 0) ∧ w' = w7) := HLN
    clear hlen hS7 hX7 hy0
    rcases hc13 with rfl | rfl
    · go_wp2_with fail
      refine HLN.out.mono ?_
      rintro e w8 ⟨rfl, hw8⟩
      obtain rfl := hw8.symm
      go_wp2_with fail
      go_ret
      exact ⟨rfl, hB7⟩
    · go_wp2_with fail
      refine HLN.out.mono ?_
      rintro e w8 ⟨rfl, hw8⟩
      obtain rfl := hw8.symm
      go_wp2_with fail
      go_ret
      exact ⟨rfl, hB7⟩
  have hS7 : Hid (PSt w7 SG L E y) := hS7
  have hX7 : Hid (PSt w7 SX M D x) := hX7
  have hym : Hid (y.m = doAll [] cs) := hym0
  have hbad : Hid (badA cs = false) := hbad0
  clear hym0 hbad0
  have hCl : Hid (∀ q, E q → q < w7.heap.size) := hS7.out.lt
  have hdis7 : Hid (∀ q, D q → ¬ E q) := hdis7
  have hD6 : Hid (∀ q, D q → w.heap.size ≤ q) := hD6
  clear hlen hC7
  go_wp2_with fail
  go_loopw [12] (fun i wr => ∃ (I : Nat) (X : Nat → Prop) (z : SS), i = .int .i64 (I : Int) ∧ I ≤ cs.length ∧ PSt wr SX M X z ∧ CalmS z 200 (1 + I) ∧ z.m = doAll [] (cs.take I) ∧ 256 ≤ sizeS z.s ∧ (∀ q, X q → ¬ E q ∧ w.heap.size ≤ q) ∧ PSt wr SG L E y ∧ Below w.heap.size w wr) (fun i _ => cs.length - (intOf i).toNat)
  case atStart => exact ⟨0, D, x, rfl, Nat.zero_le _, hX7.out, hx2.out.1, hx2.out.2.1, hx2.out.2.2, fun q hq => ⟨hdis7.out q hq, hD6.out q hq⟩, hS7.out, hB7⟩
  case round =>
    clear hB7 hX7 hS7
    obtain ⟨I, X, z, rfl, hI, hX, hz, hzm, hzs, hXd, hS, hB⟩ := hrel
    by_cases hlt : I < cs.length
    · have i1 : (I : Int) < (cs.length : Int) := by omega
      have hg : cs[I]? = some cs[I] := List.getElem?_eq_getElem hlt
      obtain ⟨o, ho⟩ : ∃ o, cs[I] = o := ⟨_, rfl⟩
      rw [ho] at hg
      clear ho
      obtain ⟨ao', c', he, -, hat⟩ := HV.out wr hB
      cases he
      obtain ⟨b, off, rfl, -, u, c0, hu⟩ := hat I o hg
      have hix := index_chgs b off cs.length c I hlt
      have hall := all_calm hz (by decide) hzs (by omega) hX.pairs hX.rise [o]
      have hc1 : ∃ cd z', allA z [o] = (cd, z') ∧ (cd = 3 ∨ (cd = 0 ∧ CalmS z' 200 (1 + I + 1) ∧ z'.m = doAll [] (cs.take (I + 1)) ∧ 256 ≤ sizeS z'.s)) := by
        rcases hall with ⟨e, _⟩ | ⟨_, _, e⟩ | ⟨_, _, z', e, h1, h2, h3⟩
        · rw [bad_one hbad.out hg] at e; cases e
        · exact ⟨_, _, e, .inl rfl⟩
        · exact ⟨_, _, e, .inr ⟨rfl, h1, by rw [h2, hzm, doAll_step cs hg], by rw [h3]; exact hzs⟩⟩
      obtain ⟨cd, z', hcd, hcase⟩ := hc1
      have hX : Hid (PSt wr SX M X z) := hX
      have hS : Hid (PSt wr SG L E y) := hS
      have hcd : Hid (allA z [o] = (cd, z')) := hcd
      have hXd : Hid (∀ q, X q → ¬ E q ∧ w.heap.size ≤ q) := hXd
      obtain ⟨uo, uc, rfl, -, -⟩ := id hu
      clear hall hat hz hzm hzs hg
      go_wp2_with fail
      refine (commit_any8 hX.out _ o hu).mono ?_
      rintro e w8 ⟨rfl, hX8, hc8⟩
      rw [hcd.out] at hX8 ⊢
      have hB8 : Below w.heap.size w w8 := hB.trans (hc8.below (fun q hq => (hXd.out q hq).2) hB.size)
      have hS8 : Hid (PSt w8 SG L E y) := hS.out.chg hc8 (fun q hq e => (hXd.out q e).1 hq)
      have hXd8 : Hid (∀ q, Fr X wr w8 q → ¬ E q ∧ w.heap.size ≤ q) := fun q hq => by
        rcases hq with e | e
        · exact hXd.out q e
        · exact ⟨fun e2 => by have := hS.out.lt q e2; omega, by have := hB.size; omega⟩
      have hX8 : Hid (PSt w8 SX M (Fr X wr w8) z') := hX8
      clear hu hc8 c0
      rcases hcase with rfl | ⟨rfl, q1, q2, q3⟩
      · go_wp2_with fail
        go_ret
        exact ⟨rfl, hB8⟩
      · have q1 : Hid (CalmS z' 200 (1 + I + 1)) := q1
        have q2 : Hid (z'.m = doAll [] (cs.take (I + 1))) := q2
        go_wp2_with fail
        go_roundw
        case rel => exact ⟨I + 1, _, z', by go_num, hlt, hX8, q1.out, q2.out, q3, hXd8.out, hS8.out, hB8⟩
        case measure => simp [intOf]; omega
    · have i1 : ¬ (I : Int) < (cs.length : Int) := by omega
      have hII : I = cs.length := by omega
      subst hII
      rw [List.take_length] at hzm
      have hl1 := hS.len
      have HR1 := range_all hS (W := wr) (Below.refl _ _)
      have HR1 : Hid (Calls Tryz.prog 18 #[.pointer (some ⟨SG, 0, none⟩), .slice none 0 0, .int .i64 5000] wr fun e w' => RangeOk wr y.m e w') := HR1
      have HR2 : Hid (∀ W, Below wr.heap.size wr W → Calls Tryz.prog 18 #[.pointer (some ⟨SX, 0, none⟩), .slice none 0 0, .int .i64 5000] W fun e w' => RangeOk W z.m e w') := fun W hW => range_all hX hW
      have hsm : Hid (y.m = z.m ∧ y.m.length ≤ 4000) := ⟨by rw [hym.out, hzm], hl1⟩
      clear hX hz hzm hzs hXd hS hl1
      go_wp2_with fail
      refine HR1.out.mono ?_
      rintro e wa ⟨va, ca, rfl, hPa, hba⟩
      obtain ⟨aa, na, rfl⟩ := hPa.sl
      go_wp2_with fail
      refine (HR2.out wa hba).mono ?_
      rintro e wb ⟨vb, cb, rfl, hPb, hbb⟩
      obtain ⟨ab, nb, rfl⟩ := hPb.sl
      have hBb := blift (blift hB hba hB.size) hbb (Nat.le_trans hB.size hba.size)
      go_wp2_with fail
      refine (same8_any _ _ y.m z.m wb ((hPa.below hbb).read) hPb.read (by have := hsm.out.2; omega)).mono ?_
      rintro e wc ⟨rfl, hbc⟩
      rw [decide_eq_true hsm.out.1]
      have hBc := blift hBb hbc hBb.size
      clear hPa hPb hba hbb hbc
      go_wp2_with fail
      go_ret
      exact ⟨rfl, hBc⟩
end Go.Proofs.YtbegphfideopoaaGreat
