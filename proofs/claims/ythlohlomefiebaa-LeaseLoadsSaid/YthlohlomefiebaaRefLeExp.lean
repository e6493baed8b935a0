/-
  What is proved here: the document's Expire ends the leases whose time is over, and tells them.
  Conditions: the table lies in memory.
-/
import Derived.Test.YthlohlomefiebaaRefLe
import Derived.Test.YthlohlomefiebaaLeAll
namespace Go.Proofs.Ythlohlomefiebaa
open Go.RowKit Go.Maps

def offE (now : Int) (e : LE) : LE := if overE now e then e.off else e
def stD (l : List LE) (now : Int) (k : Nat) : List LE := (l.take k).map (offE now) ++ l.drop k
def outD (l : List LE) (now : Int) (k : Nat) : List LE := (l.take k).filter (overE now)
theorem stD_len (l : List LE) (now : Int) (k : Nat) : (stD l now k).length = l.length := by
  unfold stD
  rw [List.length_append, List.length_map, List.length_take, List.length_drop]
  omega
theorem stD_at {l : List LE} (now : Int) {k : Nat} {e : LE} (h : l[k]? = some e) : (stD l now k)[k]? = some e := by
  have hk : k < l.length := (List.getElem?_eq_some_iff.1 h).1
  unfold stD
  rw [List.getElem?_append_right (by rw [List.length_map, List.length_take]; omega), List.length_map, List.length_take, Nat.min_eq_left (by omega), Nat.sub_self, List.getElem?_drop, Nat.add_zero]
  exact h
theorem stD_more {l : List LE} (now : Int) {k : Nat} {e : LE} (h : l[k]? = some e) : stD l now (k + 1) = (stD l now k).set k (offE now e) := by
  have hk : k < l.length := (List.getElem?_eq_some_iff.1 h).1
  have hl : ((l.take k).map (offE now)).length = k := by rw [List.length_map, List.length_take]; omega
  have hd : l.drop k = e :: l.drop (k + 1) := by rw [← (List.getElem?_eq_some_iff.1 h).2, List.getElem_cons_drop]
  unfold stD
  rw [List.set_append_right _ _ (by omega), hl, Nat.sub_self, hd, List.take_add_one, h, List.map_append]
  simp
theorem stD_no {l : List LE} (now : Int) {k : Nat} {e : LE} (h : l[k]? = some e) (ho : overE now e = false) : stD l now (k + 1) = stD l now k := by
  rw [stD_more now h]
  have := stD_at now h
  unfold offE
  rw [ho]
  apply List.ext_getElem?
  intro j
  rw [List.getElem?_set]
  by_cases hj : k = j
  · subst hj
    rw [if_pos rfl, this, if_pos (List.getElem?_eq_some_iff.1 this).1]
    rfl
  · rw [if_neg hj]
theorem outD_yes {l : List LE} (now : Int) {k : Nat} {e : LE} (h : l[k]? = some e) (ho : overE now e = true) : outD l now (k + 1) = outD l now k ++ [e] := by
  unfold outD
  rw [List.take_add_one, h, List.filter_append]
  simp [ho]
theorem outD_no {l : List LE} (now : Int) {k : Nat} {e : LE} (h : l[k]? = some e) (ho : overE now e = false) : outD l now (k + 1) = outD l now k := by
  unfold outD
  rw [List.take_add_one, h, List.filter_append]
  simp [ho]
set_option maxRecDepth 100000 in
set_option maxHeartbeats 4000000 in
theorem rexpire16_any {w : World} {lo G : Nat} {v : Value} {l : List LE} (h : RfT w lo G v l) (now : Int) : Calls Try.prog 25 #[.pointer (some ⟨G, 0, none⟩), .int .i64 now] w fun e w' => ∃ u, e = .returned (.tuple #[u, .int .i64 (expT l now).1.2]) ∧ RfT w' lo G v (expT l now).2 ∧ LeR w' w.heap.size u (expT l now).1.1 ∧ Chg (RfM G v) w w' := by
  have HM := (rmom16_any now w).mono (fun e w' (h : e = .returned (.bool (moT now)) ∧ w' = w) => (⟨h.1, h.2.symm⟩ : e = .returned (.bool (moT now)) ∧ w = w'))
  have hoke := exp_ok h.ok now
  unfold expT at hoke ⊢
  by_cases hmo : moT now = false
  · rw [if_pos hmo]
    rw [hmo] at HM
    have HT : Hid (RfT w lo G v l) := h
    clear hmo h hoke
    go_enter Try.func25, Try.ntmps25
    go_wp2_with (go_at_call 41; refine HM.mono ?_; rintro e w' ⟨rfl, rfl⟩)
    go_ret2
    exact ⟨_, rfl, HT.out, LeR.nil _ _, Chg.refl _ _⟩
  rw [if_neg hmo] at hoke ⊢
  have hmo1 : moT now = true := by simpa using hmo
  rw [hmo1] at HM
  dsimp only at hoke ⊢
  obtain ⟨ao, c, rfl⟩ := h.row.shape
  have hll := h.ok.len
  have HOKE : Hid (OkT (l.map (fun e => if overE now e then e.off else e))) := hoke
  have HT0 : Hid (RfT w lo G (.slice ao l.length c) l) := h
  clear hmo hmo1 hoke h
  go_enter Try.func25, Try.ntmps25
  go_wp2_with (go_at_call 41; refine HM.mono ?_; rintro e w' ⟨rfl, rfl⟩)
  go_loopw [7, 8] (fun u i wr => ∃ k : Nat, i = .int .i64 (k : Int) ∧ k ≤ l.length ∧ Hid (LeR wr w.heap.size u (outD l now k) ∧ LeR wr lo (.slice ao l.length c) (stD l now k) ∧ Blk wr G 29 #[.slice ao l.length c] ∧ Chg (RfM G (.slice ao l.length c)) w wr)) (fun _ i _ => l.length - (Go.RowKit.intOf i).toNat)
  case atStart => exact ⟨0, rfl, Nat.zero_le _, LeR.nil _ _, HT0.out.row, HT0.out.head, Chg.refl _ _⟩
  case round =>
    obtain ⟨k, rfl, hk, HI⟩ := hrel
    obtain ⟨hO, hR, hG, hC⟩ := HI.out
    obtain ⟨au, cu, rfl⟩ := hO.shape
    have c0 : wr.cell? ⟨G, 0, none⟩ = some (.slice ao l.length c) := hG.cell (j := 0) rfl
    by_cases hlt : k < l.length
    · obtain ⟨e, he⟩ : ∃ e, l[k]? = some e := ⟨_, List.getElem?_eq_getElem hlt⟩
      have hst := stD_at now he
      obtain ⟨B, c', hv, hBl, hBlo, hcell⟩ := hR.at hst
      rw [stD_len] at hv
      cases hv
      obtain ⟨k0, k1, k2⟩ := cells_le0 hcell
      have ix := fun w => index_le0 B l.length c k w hlt
      have HIL : Hid (l[k]? = some e) := he
      have HOL : Hid ((outD l now k).length ≤ 20000) := by
        show _ ≤ _
        unfold outD
        have h1 := List.length_filter_le (overE now) (l.take k)
        have h2 : (l.take k).length ≤ l.length := by rw [List.length_take]; omega
        omega
      clear hcell hst he
      by_cases hu : 0 < e.u
      · have du : decide (0 < e.u) = true := decide_eq_true hu
        by_cases hov : e.u ≤ now
        · have dov : decide (e.u ≤ now) = true := decide_eq_true hov
          have hoe : overE now e = true := decide_eq_true ⟨hu, hov⟩
          obtain ⟨v', W', happ, hO6, hn6, hC6⟩ := hO.more e (by have := HOL.out; omega) hC.size
          rw [← outD_yes now HIL.out hoe] at hO6
          have hnb : ∀ q, RfM G (.slice (some ⟨B, 0, none⟩) l.length c) q → ¬ (Value.slice au (outD l now k).length cu).ownBlock = some q := fun q e2 e3 => by
            have h1 := (hO.lt q e3).1
            have h2 := HT0.out.lt q e2
            omega
          have hR6 := hR.chg hC6 (fun q e2 e3 => hnb q (.inr e2) e3)
          have hG6 := hG.chg hC6 (fun e3 => hnb G (.inl rfl) e3)
          have hst := stD_at now HIL.out
          obtain ⟨B', c', hv, hBl', _, hcell⟩ := hR6.at hst
          rw [stD_len] at hv
          cases hv
          have k26 : W'.cell? ⟨B, k * 3 + 2, none⟩ = some (.int .i64 e.u) := hcell 2 _ rfl
          have c06 : W'.cell? ⟨G, 0, none⟩ = some (.slice (some ⟨B, 0, none⟩) l.length c) := hG6.cell (j := 0) rfl
          have hf : W'.frozen? ⟨B, k * 3 + 2, none⟩ = false := by
            obtain ⟨b', c', cur, f1, _, f3, _⟩ := hR6.blk (by rw [stD_len]; omega)
            rw [stD_len] at f1
            cases f1
            exact f3.frozen _
          have hrow7 : LeR (W'.setCell ⟨B, k * 3 + 2, none⟩ (.int .i64 0)) lo (.slice (some ⟨B, 0, none⟩) l.length c) (stD l now (k + 1)) := by
            rw [stD_more now HIL.out]
            unfold offE
            rw [hoe]
            have h8 : LeR W' lo (.slice (some ⟨B, 0, none⟩) (stD l now k).length c) (stD l now k) := by rw [stD_len]; exact hR6
            have := h8.until hst 0
            rw [stD_len] at this
            exact this
          have hc7 : Chg (fun q => q = B) W' (W'.setCell ⟨B, k * 3 + 2, none⟩ (.int .i64 0)) := (Chg.refl (fun q => q = B) _).setCell B _ _ (fun _ => rfl)
          have hcw : Chg (RfM G (.slice (some ⟨B, 0, none⟩) l.length c)) w W' := hC.trans (S' := fun q => (Value.slice au (outD l now k).length cu).ownBlock = some q) hC6 (fun q hq e2 => by
            have h1 := (hO.lt q e2).1
            omega)
          have HF : Hid (LeR (W'.setCell ⟨B, k * 3 + 2, none⟩ (.int .i64 0)) w.heap.size v' (outD l now (k + 1)) ∧ LeR (W'.setCell ⟨B, k * 3 + 2, none⟩ (.int .i64 0)) lo (.slice (some ⟨B, 0, none⟩) l.length c) (stD l now (k + 1)) ∧ Blk (W'.setCell ⟨B, k * 3 + 2, none⟩ (.int .i64 0)) G 29 #[.slice (some ⟨B, 0, none⟩) l.length c] ∧ Chg (RfM G (.slice (some ⟨B, 0, none⟩) l.length c)) w (W'.setCell ⟨B, k * 3 + 2, none⟩ (.int .i64 0))) := by
            refine ⟨hO6.chg hc7 (fun q e2 e3 => ?_), hrow7, hG6.chg hc7 (fun e3 => HT0.out.nG (by rw [e3]; rfl)), hcw.trans (S' := fun q => q = B) hc7 (fun q _ e2 => .inr (by rw [e2]; rfl))⟩
            have h1 := (hO6.lt q e2).1
            have h2 := HT0.out.lt B (.inr rfl)
            omega
          clear hO6 hn6 hC6 hnb hR6 hG6 hst hcell hrow7 hc7 hcw hO hR hG hC HI hBl hBlo hBl' hu hov hoe
          obtain ⟨en, ed, eu⟩ := e
          unfold leL at happ
          dsimp only at *
          go_wp2_with (refine wp_appE rfl _ _ rfl _ _ v' rfl rfl happ ?_)
          go_roundw
          case rel => exact ⟨k + 1, by go_num, hlt, HF.out⟩
          case measure => simp [Go.RowKit.intOf]; omega
        · have dov : decide (e.u ≤ now) = false := decide_eq_false hov
          have hoe : overE now e = false := by unfold overE; simp [hov]
          have HF : Hid (LeR wr w.heap.size (.slice au (outD l now k).length cu) (outD l now (k + 1)) ∧ LeR wr lo (.slice (some ⟨B, 0, none⟩) l.length c) (stD l now (k + 1)) ∧ Blk wr G 29 #[.slice (some ⟨B, 0, none⟩) l.length c] ∧ Chg (RfM G (.slice (some ⟨B, 0, none⟩) l.length c)) w wr) := by
            rw [outD_no now HIL.out hoe, stD_no now HIL.out hoe]
            exact ⟨hO, hR, hG, hC⟩
          clear hO hR hG hC HI hu hov hoe
          go_wp2
          go_roundw
          case rel => exact ⟨k + 1, by go_num, hlt, HF.out⟩
          case measure => simp [Go.RowKit.intOf]; omega
      · have du : decide (0 < e.u) = false := decide_eq_false hu
        have hoe : overE now e = false := by unfold overE; simp [hu]
        have HF : Hid (LeR wr w.heap.size (.slice au (outD l now k).length cu) (outD l now (k + 1)) ∧ LeR wr lo (.slice (some ⟨B, 0, none⟩) l.length c) (stD l now (k + 1)) ∧ Blk wr G 29 #[.slice (some ⟨B, 0, none⟩) l.length c] ∧ Chg (RfM G (.slice (some ⟨B, 0, none⟩) l.length c)) w wr) := by
          rw [outD_no now HIL.out hoe, stD_no now HIL.out hoe]
          exact ⟨hO, hR, hG, hC⟩
        clear hO hR hG hC HI hu hoe
        go_wp2
        go_roundw
        case rel => exact ⟨k + 1, by go_num, hlt, HF.out⟩
        case measure => simp [Go.RowKit.intOf]; omega
    · have hkl : k = l.length := by omega
      have hni : ¬ (k : Int) < (l.length : Int) := by omega
      have HF : Hid (LeR wr w.heap.size (.slice au (outD l now k).length cu) (l.filter (overE now)) ∧ RfT wr lo G (.slice ao l.length c) (l.map (fun e => if overE now e then e.off else e)) ∧ Chg (RfM G (.slice ao l.length c)) w wr) := by
        have e1 : outD l now k = l.filter (overE now) := by unfold outD; rw [hkl, List.take_length]
        have e2 : stD l now k = l.map (fun e => if overE now e then e.off else e) := by
          unfold stD
          rw [hkl, List.take_length, List.drop_length, List.append_nil]
          rfl
        rw [e2] at hR
        rw [← e1]
        exact ⟨hO, ⟨hG, hR, HOKE.out, HT0.out.gG, HT0.out.nG⟩, hC⟩
      clear hO hR hG hC hkl HI hlt
      go_wp2
      go_ret2
      exact ⟨_, rfl, HF.out.2.1, HF.out.1, HF.out.2.2⟩
end Go.Proofs.Ythlohlomefiebaa
