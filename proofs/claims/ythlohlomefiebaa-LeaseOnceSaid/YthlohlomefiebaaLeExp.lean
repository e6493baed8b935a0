/-
  What is proved here: Table.Expire ends the leases whose time is over, and tells them.
  Conditions: the table lies in memory as laws hold it.
-/
import Derived.Test.YthlohlomefiebaaLeVals
import Derived.Test.YthlohlomefiebaaLeAll
namespace Go.Proofs.Ythlohlomefiebaa
open Go.RowKit Go.Maps

/-- Behind the first so many open leases. -/
def stT (l : List LE) (now : Int) (k : Nat) : List LE := l.map (fun e => if e ∈ (opens l).take k ∧ e.u ≤ now then e.off else e)
def outT (l : List LE) (now : Int) (k : Nat) : List LE := ((opens l).take k).filter (fun e => decide (e.u ≤ now))
theorem stT_zero (l : List LE) (now : Int) : stT l now 0 = l := by
  unfold stT
  rw [show l.map (fun e => if e ∈ (opens l).take 0 ∧ e.u ≤ now then e.off else e) = l.map id from by
    apply List.map_congr_left
    intro e _
    simp]
  simp
theorem mem_opens {l : List LE} {e : LE} : e ∈ opens l ↔ e ∈ l ∧ 0 < e.u := by
  unfold opens
  simp
theorem stT_all (l : List LE) (now : Int) : stT l now (opens l).length = l.map (fun e => if overE now e then e.off else e) := by
  unfold stT
  apply List.map_congr_left
  intro e he
  rw [List.take_length]
  unfold overE
  by_cases h1 : 0 < e.u
  · by_cases h2 : e.u ≤ now
    · rw [if_pos ⟨mem_opens.2 ⟨he, h1⟩, h2⟩, if_pos (decide_eq_true ⟨h1, h2⟩)]
    · rw [if_neg (fun k => h2 k.2), if_neg (by simp [h2])]
  · rw [if_neg (fun k => h1 (mem_opens.1 k.1).2), if_neg (by simp [h1])]
theorem outT_all (l : List LE) (now : Int) : outT l now (opens l).length = l.filter (overE now) := by
  unfold outT opens overE
  rw [List.take_length, List.filter_filter]
  congr 1
  funext e
  by_cases h1 : 0 < e.u <;> by_cases h2 : e.u ≤ now <;> simp [h1, h2]
theorem opens_nodup {l : List LE} (ok : OkT l) : (opens l).Nodup := by
  have := nums_rise ok
  unfold numsT at this
  rw [List.pairwise_map] at this
  exact this.imp (fun h e => by subst e; omega)
theorem not_taken {l : List LE} (ok : OkT l) {k : Nat} {e : LE} (h : (opens l)[k]? = some e) : e ∉ (opens l).take k := by
  intro hm
  obtain ⟨j, hj⟩ := List.mem_iff_getElem?.1 hm
  have hjk : j < k := by
    have := (List.getElem?_eq_some_iff.1 hj).1
    rw [List.length_take] at this
    omega
  rw [List.getElem?_take_of_lt hjk] at hj
  have hn := opens_nodup ok
  unfold List.Nodup at hn
  rw [List.pairwise_iff_getElem] at hn
  obtain ⟨h1, h2⟩ := List.getElem?_eq_some_iff.1 hj
  obtain ⟨h3, h4⟩ := List.getElem?_eq_some_iff.1 h
  exact hn j k h1 h3 hjk (by rw [h2, h4])
theorem stT_at {l : List LE} (ok : OkT l) (now : Int) {k i : Nat} {e : LE} (h : (opens l)[k]? = some e) (hi : l[i]? = some e) : (stT l now k)[i]? = some e := by
  unfold stT
  rw [List.getElem?_map, hi]
  show some (if e ∈ (opens l).take k ∧ e.u ≤ now then e.off else e) = _
  rw [if_neg (fun k => not_taken ok h k.1)]
theorem take_more {l : List LE} {k : Nat} {e : LE} (h : (opens l)[k]? = some e) : (opens l).take (k + 1) = (opens l).take k ++ [e] := by
  rw [List.take_add_one, h]; rfl
theorem stT_yes {l : List LE} (ok : OkT l) (now : Int) {k i : Nat} {e : LE} (h : (opens l)[k]? = some e) (hi : l[i]? = some e) (hu : e.u ≤ now) : (stT l now k).set i e.off = stT l now (k + 1) := by
  apply List.ext_getElem?
  intro j
  have hil : i < l.length := (List.getElem?_eq_some_iff.1 hi).1
  unfold stT
  rw [List.getElem?_set, List.getElem?_map, List.getElem?_map, List.length_map]
  by_cases hij : i = j
  · subst hij
    rw [if_pos rfl, if_pos hil, hi]
    show _ = some (if e ∈ (opens l).take (k + 1) ∧ e.u ≤ now then e.off else e)
    rw [if_pos ⟨by rw [take_more h]; simp, hu⟩]
  · rw [if_neg hij]
    cases hj : l[j]? with
    | none => rfl
    | some f =>
      show some (if f ∈ (opens l).take k ∧ f.u ≤ now then f.off else f) = some (if f ∈ (opens l).take (k + 1) ∧ f.u ≤ now then f.off else f)
      have hne : f ≠ e := fun e2 => by
        subst e2
        have h1 := ok.num i f hi
        have h2 := ok.num j f hj
        omega
      rw [take_more h]
      simp [hne]
theorem stT_no {l : List LE} (now : Int) {k : Nat} {e : LE} (h : (opens l)[k]? = some e) (hu : ¬ e.u ≤ now) : stT l now (k + 1) = stT l now k := by
  unfold stT
  apply List.map_congr_left
  intro f hf
  rw [take_more h]
  by_cases hfe : f = e
  · subst hfe
    rw [if_neg (fun k => hu k.2), if_neg (fun k => hu k.2)]
  · simp [hfe]
theorem outT_yes {l : List LE} (now : Int) {k : Nat} {e : LE} (h : (opens l)[k]? = some e) (hu : e.u ≤ now) : outT l now (k + 1) = outT l now k ++ [e] := by
  unfold outT
  rw [take_more h, List.filter_append]
  simp [hu]
theorem outT_no {l : List LE} (now : Int) {k : Nat} {e : LE} (h : (opens l)[k]? = some e) (hu : ¬ e.u ≤ now) : outT l now (k + 1) = outT l now k := by
  unfold outT
  rw [take_more h, List.filter_append]
  simp [hu]
theorem index_n16 (b len c I : Nat) (w : World) (h : I < len) : (Instr.indexAt 56 (.slice (some ⟨b, 0, none⟩) len c) (.int .i64 (I : Int))).run Try.prog w = .ok (.pointer (some ⟨b, I, none⟩)) w := by
  have hs : ∀ w, (sizeOf 3).run Try.prog w = .ok 1 w := fun w => by kernel_rfl
  have hi : (0 : Int) ≤ (I : Int) ∧ (I : Int) < (len : Int) := by omega
  simp [Instr.indexAt, asIntOf, run_underlying Try.underlying56, hs, hi, Addr.add_mid]
  intro h2
  omega
set_option maxRecDepth 100000 in
set_option maxHeartbeats 4000000 in
theorem expire16_any {w : World} {lo G b : Nat} {v : Value} {l : List LE} (h : LeT w lo G b v l) (now : Int) : Calls Try.prog 19 #[.pointer (some ⟨G, 0, none⟩), .int .i64 now] w fun e w' => ∃ u, e = .returned (.tuple #[u, .int .i64 (expT l now).1.2]) ∧ LeT w' lo G b v (expT l now).2 ∧ LeR w' w.heap.size u (expT l now).1.1 ∧ Chg (LeM G b v) w w' := by
  have HM := (mom16_any now w).mono (fun e w' (h : e = .returned (.bool (moT now)) ∧ w' = w) => (⟨h.1, h.2.symm⟩ : e = .returned (.bool (moT now)) ∧ w = w'))
  unfold expT
  by_cases hmo : moT now = false
  · rw [if_pos hmo]
    rw [hmo] at HM
    have HT : Hid (LeT w lo G b v l) := h
    clear hmo h
    go_enter Try.func19, Try.ntmps19
    go_wp2_with (go_at_call 33; refine HM.mono ?_; rintro e w' ⟨rfl, rfl⟩)
    go_ret2
    exact ⟨_, rfl, HT.out, LeR.nil _ _, Chg.refl _ _⟩
  rw [if_neg hmo]
  have hmo1 : moT now = true := by simpa using hmo
  rw [hmo1] at HM
  have hgm : 0 ≤ now ∧ now ≤ 1099511627776 := of_decide_eq_true hmo1
  clear hmo hmo1
  have c1 : w.cell? ⟨G, 1, none⟩ = some (.map (some b)) := h.head.cell (j := 1) rfl
  have hB := below_newE w (.cells #[.map (some b)] 49)
  have kM := Blk.new w 49 #[.map (some b)]
  obtain ⟨m, D, hown, hH, hmD⟩ := h.map
  have HSO := sorted16_any w.heap.size b m D l (w.alloc (.cells #[.map (some b)] 49)) kM.lt (kM.cell (j := 0) rfl) (own_chgE hown (Chg.of_below hB (Nat.le_refl _)) (S := fun _ => False) id) hH h.ok
  have HT0 : Hid (LeT w lo G b v l) := h
  have HOK : Hid (OkT l) := h.ok
  have HGM : Hid (0 ≤ now ∧ now ≤ 1099511627776) := hgm
  have HB0 : Hid (Below w.heap.size w (w.alloc (.cells #[.map (some b)] 49))) := hB
  clear hown hH hmD kM h hgm hB
  go_enter Try.func19, Try.ntmps19
  go_wp2_with (first | (go_at_call 33; refine HM.mono ?_; rintro e w' ⟨rfl, rfl⟩) | (go_at_call 39; refine (vals16_any b _).mono ?_; rintro e w' ⟨rfl, rfl⟩))
  refine HSO.mono ?_
  rintro e W2 ⟨sv, rfl, hrow, hb2⟩
  have HB2 : Hid (Below w.heap.size w W2) := HB0.out.trans (hb2.mono HB0.out.size)
  have HT2 : Hid (LeT W2 lo G b v l) := HT0.out.after HB2.out (Nat.le_refl _)
  obtain ⟨aS, cs, hsv⟩ : ∃ a c, sv = .slice a (numsT l).length c := by
    rcases hrow.2 with ⟨h1, h2⟩ | ⟨g, cap, cur, h1, _⟩
    · exact ⟨none, 0, by rw [h1, h2]⟩
    · exact ⟨_, _, h1⟩
  have HR : Hid (∀ j x, (numsT l)[j]? = some x → ∃ g, aS = some ⟨g, 0, none⟩ ∧ g < W2.heap.size ∧ w.heap.size ≤ g ∧ W2.cell? ⟨g, j, none⟩ = some (.int .i64 x)) := fun j x hx => by
    rcases hrow.2 with ⟨h1, h2⟩ | ⟨g, cap, cur, h1, h2, h3, _⟩
    · have := (List.getElem?_eq_some_iff.1 hx).1
      omega
    · rw [h1] at hsv
      cases hsv
      have hc := World.ownsRow.cells hrow (g := g) (by rw [h1]; rfl) j (.int .i64 x) (by rw [List.getElem?_map, hx]; rfl)
      rw [Addr.add_mid, Nat.zero_add] at hc
      refine ⟨g, rfl, (Array.getElem?_eq_some_iff.1 h3).1, ?_, hc⟩
      have := HB0.out.size
      omega
  subst hsv
  have HLN : Hid ((numsT l).length = (opens l).length) := by show _ = _; unfold numsT; rw [List.length_map]
  have hNL : (numsT l).length ≤ 20000 := by
    rw [HLN.out]
    have := HOK.out.len
    have h2 : (opens l).length ≤ l.length := by unfold opens; exact List.length_filter_le _ _
    omega
  clear hrow hb2 HSO HM c1
  go_wp2_with fail
  go_loopw [6, 20] (fun u i wr => ∃ k : Nat, i = .int .i64 (k : Int) ∧ k ≤ (numsT l).length ∧ Hid (LeR wr W2.heap.size u (outT l now k) ∧ LeT wr lo G b v (stT l now k) ∧ Chg (LeM G b v) W2 wr)) (fun _ i _ => (numsT l).length - (Go.RowKit.intOf i).toNat)
  case atStart =>
    refine ⟨0, rfl, Nat.zero_le _, LeR.nil _ _, ?_, Chg.refl _ _⟩
    rw [stT_zero]
    exact HT2.out
  case round =>
    obtain ⟨k, rfl, hk, HI⟩ := hrel
    obtain ⟨hO, hT, hC⟩ := HI.out
    obtain ⟨au, cu, rfl⟩ := hO.shape
    by_cases hlt : k < (numsT l).length
    · have hko : k < (opens l).length := by rw [← HLN.out]; exact hlt
      obtain ⟨e, he⟩ : ∃ e, (opens l)[k]? = some e := ⟨_, List.getElem?_eq_getElem hko⟩
      have hx : (numsT l)[k]? = some e.n := by unfold numsT; rw [List.getElem?_map, he]; rfl
      obtain ⟨hel, heu⟩ := mem_opens.1 (List.mem_iff_getElem?.2 ⟨k, he⟩)
      obtain ⟨i, hi⟩ := List.mem_iff_getElem?.1 hel
      have hen := HOK.out.num i e hi
      have hil : i < l.length := (List.getElem?_eq_some_iff.1 hi).1
      have hll := HOK.out.len
      obtain ⟨g, rfl, hgl, hgw, hgc⟩ := HR.out k e.n hx
      have hgn : ¬ LeM G b v g := fun hq => by have := HT0.out.lt g hq; omega
      have n1 : wr.cell? ⟨g, k, none⟩ = some (.int .i64 ((i : Int) + 1)) := by rw [World.cell?_of_block (w := W2) (a := ⟨g, k, none⟩) (hC.2 g hgl hgn), hgc, hen]
      have ixn := fun w => index_n16 g (numsT l).length cs k w hlt
      have hst := stT_at HOK.out now he hi
      have hsl : (stT l now k).length = l.length := by unfold stT; rw [List.length_map]
      obtain ⟨B, c, hv, hBl, hBlo, hcell⟩ := hT.row.at hst
      subst hv
      have c0 : wr.cell? ⟨G, 0, none⟩ = some (.slice (some ⟨B, 0, none⟩) (stT l now k).length c) := hT.head.cell (j := 0) rfl
      have k0 : wr.cell? ⟨B, i * 3, none⟩ = some (.int .i64 e.n) := hcell 0 _ rfl
      have k1 : wr.cell? ⟨B, i * 3 + 1, none⟩ = some (.int .i64 e.d) := hcell 1 _ rfl
      have k2 : wr.cell? ⟨B, i * 3 + 2, none⟩ = some (.int .i64 e.u) := hcell 2 _ rfl
      have ix := fun w => index_le0 B (stT l now k).length c i w (by rw [hsl]; exact hil)
      have hw : wrap64 (i : Int) = (i : Int) := by unfold wrap64; omega
      have HT : Hid (LeT wr lo G b (.slice (some ⟨B, 0, none⟩) (stT l now k).length c) (stT l now k)) := hT
      have HO : Hid (LeR wr W2.heap.size (.slice au (outT l now k).length cu) (outT l now k)) := hO
      have HC : Hid (Chg (LeM G b (.slice (some ⟨B, 0, none⟩) (stT l now k).length c)) W2 wr) := hC
      have HIL : Hid ((opens l)[k]? = some e ∧ l[i]? = some e ∧ (stT l now k)[i]? = some e ∧ 0 < e.u) := ⟨he, hi, hst, heu⟩
      have HOL : Hid ((outT l now k).length ≤ 20000) := by
        show _ ≤ _
        unfold outT
        have h1 := List.length_filter_le (fun e => decide (e.u ≤ now)) ((opens l).take k)
        have h2 : ((opens l).take k).length ≤ (opens l).length := by rw [List.length_take]; omega
        have h3 : (opens l).length ≤ l.length := by unfold opens; exact List.length_filter_le _ _
        omega
      clear hx hel heu hi hgl hgw hgc hgn hst hsl hcell hBl hBlo hT hO hC he hko HI
      by_cases hov : e.u ≤ now
      · have dov : decide (e.u ≤ now) = true := decide_eq_true hov
        have HCL := close16_any (HT.out.after (below_newE wr (.cells #[.int .i64 e.n, .int .i64 e.d, .int .i64 e.u] 43)) (Nat.le_refl _)) HIL.out.2.2.1 HIL.out.2.2.2
        have HOV : Hid (e.u ≤ now) := hov
        have hbx := below_newE wr (.cells #[.int .i64 e.n, .int .i64 e.d, .int .i64 e.u] 43)
        have HBX : Hid (Below wr.heap.size wr (wr.alloc (.cells #[.int .i64 e.n, .int .i64 e.d, .int .i64 e.u] 43))) := hbx
        have HKX : Hid (Blk (wr.alloc (.cells #[.int .i64 e.n, .int .i64 e.d, .int .i64 e.u] 43)) wr.heap.size 43 #[.int .i64 e.n, .int .i64 e.d, .int .i64 e.u]) := Blk.new wr 43 _
        clear hov hbx
        obtain ⟨en, ed, eu⟩ := e
        dsimp only at *
        subst hen
        unfold leV leL at HCL
        dsimp only at HCL
        go_wp2_with fail
        refine HCL.mono ?_
        rintro e w5 ⟨rfl, hT5, hC5⟩
        have hX5 := HKX.out.chg hC5 (HT.out.fresh (Nat.le_refl _))
        have x0 : w5.cell? ⟨wr.heap.size, 0, none⟩ = some (.int .i64 ((i : Int) + 1)) := hX5.cell (j := 0) rfl
        have x1 : w5.cell? ⟨wr.heap.size, 1, none⟩ = some (.int .i64 ed) := hX5.cell (j := 1) rfl
        have x2 : w5.cell? ⟨wr.heap.size, 2, none⟩ = some (.int .i64 eu) := hX5.cell (j := 2) rfl
        have hO5 := (HO.out.after HBX.out (Nat.le_refl _)).chg hC5 (fun q e2 e3 => by
          have h1 := (HO.out.lt q e2).1
          have h2 := HT2.out.lt q (by
            rcases e3 with e4 | e4 | e4
            · exact .inl e4
            · exact .inr (.inl e4)
            · exact .inr (.inr e4))
          omega)
        have hC25 : Chg (LeM G b (.slice (some ⟨B, 0, none⟩) (stT l now k).length c)) W2 w5 := (HC.out.trans (S' := LeM G b (.slice (some ⟨B, 0, none⟩) (stT l now k).length c)) (Chg.of_below HBX.out (Nat.le_refl _)) (fun _ _ e => e)).trans (S' := LeM G b (.slice (some ⟨B, 0, none⟩) (stT l now k).length c)) hC5 (fun _ _ e => e)
        obtain ⟨v', W', happ, hO6, hn6, hC6⟩ := hO5.more ⟨(i : Int) + 1, ed, eu⟩ (by have := HOL.out; omega) hC25.size
        unfold leL at happ
        rw [stT_yes HOK.out now HIL.out.1 HIL.out.2.1 HOV.out] at hT5
        rw [← outT_yes now HIL.out.1 HOV.out] at hO6
        have HF : Hid (LeR W' W2.heap.size v' (outT l now (k + 1)) ∧ LeT W' lo G b (.slice (some ⟨B, 0, none⟩) (stT l now k).length c) (stT l now (k + 1)) ∧ Chg (LeM G b (.slice (some ⟨B, 0, none⟩) (stT l now k).length c)) W2 W') := by
          refine ⟨hO6, hT5.chg hC6 (fun q e2 e3 => ?_), hC25.trans (S' := fun q => (Value.slice au (outT l now k).length cu).ownBlock = some q) hC6 (fun q hq e2 => ?_)⟩
          · have h1 := (HO.out.lt q e3).1
            have h2 := HT2.out.lt q e2
            omega
          · have h1 := (HO.out.lt q e2).1
            omega
        clear hO6 hn6 hC6 hT5 hC5 hC25 hO5 hX5 HCL dov
        go_wp2_with (refine wp_appE rfl _ _ rfl _ _ v' rfl rfl happ ?_)
        go_roundw
        case rel => exact ⟨k + 1, by go_num, hlt, HF.out⟩
        case measure => simp [Go.RowKit.intOf]; omega
      · have dov : decide (e.u ≤ now) = false := decide_eq_false hov
        have hbx := below_newE wr (.cells #[.int .i64 e.n, .int .i64 e.d, .int .i64 e.u] 43)
        have HF : Hid (LeR (wr.alloc (.cells #[.int .i64 e.n, .int .i64 e.d, .int .i64 e.u] 43)) W2.heap.size (.slice au (outT l now k).length cu) (outT l now (k + 1)) ∧ LeT (wr.alloc (.cells #[.int .i64 e.n, .int .i64 e.d, .int .i64 e.u] 43)) lo G b (.slice (some ⟨B, 0, none⟩) (stT l now k).length c) (stT l now (k + 1)) ∧ Chg (LeM G b (.slice (some ⟨B, 0, none⟩) (stT l now k).length c)) W2 (wr.alloc (.cells #[.int .i64 e.n, .int .i64 e.d, .int .i64 e.u] 43))) := by
          rw [outT_no now HIL.out.1 hov, stT_no now HIL.out.1 hov]
          exact ⟨HO.out.after hbx (Nat.le_refl _), HT.out.after hbx (Nat.le_refl _), HC.out.trans (S' := LeM G b (.slice (some ⟨B, 0, none⟩) (stT l now k).length c)) (Chg.of_below hbx (Nat.le_refl _)) (fun _ _ e => e)⟩
        clear hov hbx
        obtain ⟨en, ed, eu⟩ := e
        dsimp only at *
        subst hen
        go_wp2
        go_roundw
        case rel => exact ⟨k + 1, by go_num, hlt, HF.out⟩
        case measure => simp [Go.RowKit.intOf]; omega
    · have hkl : k = (opens l).length := by rw [← HLN.out]; omega
      have hni : ¬ (k : Int) < ((numsT l).length : Int) := by omega
      have HF : Hid (LeR wr w.heap.size (.slice au (outT l now k).length cu) (l.filter (overE now)) ∧ LeT wr lo G b v (l.map (fun e => if overE now e then e.off else e)) ∧ Chg (LeM G b v) w wr) := by
        rw [← outT_all, ← stT_all, ← hkl]
        exact ⟨hO.mono HB2.out.size, hT, (Chg.of_below (S := LeM G b v) HB2.out (Nat.le_refl _)).trans (S' := LeM G b v) hC (fun _ _ e => e)⟩
      clear hO hT hC hkl HI hlt
      go_wp2
      go_ret2
      exact ⟨_, rfl, HF.out.2.1, HF.out.1, HF.out.2.2⟩
end Go.Proofs.Ythlohlomefiebaa
