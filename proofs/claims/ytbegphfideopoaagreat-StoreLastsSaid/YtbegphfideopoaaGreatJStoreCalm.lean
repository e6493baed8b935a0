/-
  What is proved here: a store on a disk that does not fail: a change that may be, and fits, is done; others are refused, and do nothing.
  Conditions: those that each fact names.
-/
import Derived.Test.YtbegphfideopoaaGreatJStoreAll
namespace Go.Proofs.YtbegphfideopoaaGreat

theorem recs_len : ∀ rs : List (List UInt8), (recsB rs).length + 19 * rs.length = reckonB rs
  | [] => rfl
  | r :: rs => by
    have h := recs_len rs
    show (pieceB 3 r ++ recsB rs).length + 19 * (rs.length + 1) = r.length + 24 + reckonB rs
    rw [List.length_append, pieceB_len]
    omega
theorem appends_calm {s : DS} {n0 : Nat} : ∀ (rs : List (List UInt8)) (l : LS), Stand s n0 l → (∀ r ∈ rs, r.length ≤ 4096) → l.b.length + (recsB rs).length ≤ sizeS s → appendsW s l rs = (0, { l with b := l.b ++ recsB rs }) ∧ Stand s n0 { l with b := l.b ++ recsB rs }
  | [], l, h, _, _ => by
    have e : ({ l with b := l.b ++ recsB [] } : LS) = l := by
      show ({ l with b := l.b ++ [] } : LS) = l
      rw [List.append_nil]
    rw [e]
    exact ⟨rfl, h⟩
  | r :: rs, l, h, hl, hf => by
    have hr := hl r List.mem_cons_self
    have e1 : (recsB (r :: rs)).length = r.length + 5 + (recsB rs).length := by
      show (pieceB 3 r ++ recsB rs).length = _
      rw [List.length_append, pieceB_len]
    have ha := append_calm h r hr (by omega)
    have hs := append_stand h r (by omega)
    obtain ⟨k1, k2⟩ := appends_calm rs _ hs (fun q hq => hl q (List.mem_cons_of_mem _ hq)) (by show (l.b ++ pieceB 3 r).length + _ ≤ _; rw [List.length_append, pieceB_len]; omega)
    have e2 : ({ ({ l with b := l.b ++ pieceB 3 r } : LS) with b := ({ l with b := l.b ++ pieceB 3 r } : LS).b ++ recsB rs } : LS) = { l with b := l.b ++ recsB (r :: rs) } := by
      show ({ l with b := (l.b ++ pieceB 3 r) ++ recsB rs } : LS) = { l with b := l.b ++ (pieceB 3 r ++ recsB rs) }
      rw [List.append_assoc]
    rw [e2] at k1 k2
    refine ⟨?_, k2⟩
    show (if (appendW s l r).1 ≠ 0 then appendW s l r else appendsW s (appendW s l r).2 rs) = _
    rw [ha]
    exact (if_neg (fun h => h rfl)).trans k1
/-- A calm store: how it came about. -/
structure CalmS (x : SS) (n0 g : Nat) : Prop where
  stand : Stand x.s n0 x.l
  br : x.br = false
  fits : sizeM x.m ≤ mostW x.s
  len : x.m.length ≤ 4000
  synced : x.l.sure = x.l.b.length
  gen : x.l.gen ≤ g
  n : x.l.n ≤ 2 * g
  base : ∃ (m0 : PM) (css : List (List OpB)), x.l.b = stateB (stateM m0) ++ recsB (css.map chgB) ∧ x.m = doAll m0 css ∧ RiseM m0 ∧ PairsR m0 ∧ m0.length ≤ 4000 ∧ css.all chgR = true ∧ ∀ r ∈ css.map chgB, r.length ≤ 4096
def badA (cs : List (List OpB)) : Bool := decide (cs.length < 1) || decide (16 < cs.length) || cs.any (fun c => !chgR c)
theorem doAll_app (m : PM) (a b : List (List OpB)) : doAll m (a ++ b) = doAll (doAll m a) b := by unfold doAll; rw [List.foldl_append]
theorem recsB_app : ∀ (a b : List (List UInt8)), recsB (a ++ b) = recsB a ++ recsB b
  | [], _ => rfl
  | r :: a, b => by
    show pieceB 3 r ++ recsB (a ++ b) = (pieceB 3 r ++ recsB a) ++ recsB b
    rw [recsB_app a b, List.append_assoc]
theorem CalmS.told {x : SS} {n0 g : Nat} (h : CalmS x n0 g) : ∃ (m0 : PM) (css : List (List OpB)), foundS x.s = (stateM m0, css.map chgB) ∧ x.m = doAll m0 css ∧ RiseM m0 ∧ PairsR m0 ∧ m0.length ≤ 4000 ∧ css.all chgR = true := by
  obtain ⟨m0, css, h1, h2, h3, h4, h5, h6, h7⟩ := h.base
  refine ⟨m0, css, ?_, h2, h3, h4, h5, h6⟩
  rw [h.stand.found, h.synced, List.take_length, h1, told_put _ _ h7]
/-- What All does, by its cases. -/
theorem all_calm {x : SS} {n0 g : Nat} (h : CalmS x n0 g) (hm : n0 ≤ 4096) (h256 : 256 ≤ sizeS x.s) (hg : g ≤ 100000) (hp : PairsR x.m) (hr : RiseM x.m) (cs : List (List OpB)) :
    (badA cs = true ∧ allA x cs = (1, x)) ∨ (badA cs = false ∧ fullA x.s (doAll x.m cs) (cs.map chgB) = true ∧ allA x cs = (3, x)) ∨
    (badA cs = false ∧ fullA x.s (doAll x.m cs) (cs.map chgB) = false ∧ ∃ y, allA x cs = (0, y) ∧ CalmS y n0 (g + 1) ∧ y.m = doAll x.m cs ∧ sizeS y.s = sizeS x.s) := by
  have e : allA x cs = if badA cs then (1, x) else if fullA x.s (doAll x.m cs) (cs.map chgB) then (3, x)
      else if (writeA x.s x.l x.m (cs.map chgB)).1 ≠ 0 then ((writeA x.s x.l x.m (cs.map chgB)).1, ⟨(writeA x.s x.l x.m (cs.map chgB)).2.1, (writeA x.s x.l x.m (cs.map chgB)).2.2, x.m, true⟩)
      else (0, ⟨(writeA x.s x.l x.m (cs.map chgB)).2.1, (writeA x.s x.l x.m (cs.map chgB)).2.2, doAll x.m cs, false⟩) := by
    unfold allA
    rw [h.br]
    rfl
  rw [e]
  cases hb : badA cs with
  | true => exact .inl ⟨rfl, rfl⟩
  | false =>
  right
  cases hf : fullA x.s (doAll x.m cs) (cs.map chgB) with
  | true => exact .inl ⟨rfl, rfl, rfl⟩
  | false =>
  right
  refine ⟨rfl, rfl, ?_⟩
  rw [if_neg (by decide), if_neg (by decide)]
  unfold badA at hb
  simp only [Bool.or_eq_false_iff, decide_eq_false_iff_not] at hb
  have hall : cs.all chgR = true := by
    have := hb.2
    rw [List.any_eq_false] at this
    exact List.all_eq_true.2 fun c hc => by simpa using this c hc
  unfold fullA at hf
  simp only [Bool.or_eq_false_iff, decide_eq_false_iff_not] at hf
  obtain ⟨⟨⟨f1, f2⟩, f3⟩, f4⟩ := hf
  have hlong : ∀ r ∈ cs.map chgB, r.length ≤ 4096 := fun r hr => by
    rw [List.any_eq_false] at f3
    have := f3 r hr
    simp at this
    exact this
  have hrl := recs_len (cs.map chgB)
  have hsz := size_lt h.stand.ok hm
  have hfit := h.fits
  have hmost : mostW x.s = (sizeS x.s - 2048) / 2 := rfl
  have hst : (stateB (stateM x.m)).length + sizeS x.s / 4 ≤ sizeS x.s := by
    rw [stateB_len, stateM_len]
    omega
  have hgn := h.gen
  have hnn := h.n
  have key : ∀ (s : DS) (l : LS), Stand s n0 l → sizeS s = sizeS x.s → l.b.length + (recsB (cs.map chgB)).length ≤ sizeS s → l.gen ≤ g + 1 → l.n ≤ 2 * g + 1 → (∃ (m0 : PM) (css : List (List OpB)), l.b = stateB (stateM m0) ++ recsB (css.map chgB) ∧ x.m = doAll m0 css ∧ RiseM m0 ∧ PairsR m0 ∧ m0.length ≤ 4000 ∧ css.all chgR = true ∧ ∀ r ∈ css.map chgB, r.length ≤ 4096) →
      roomsW x.s x.l x.m (cs.map chgB) = (0, s, l) → ∃ y, (if (writeA x.s x.l x.m (cs.map chgB)).1 ≠ 0 then ((writeA x.s x.l x.m (cs.map chgB)).1, (⟨(writeA x.s x.l x.m (cs.map chgB)).2.1, (writeA x.s x.l x.m (cs.map chgB)).2.2, x.m, true⟩ : SS))
      else (0, ⟨(writeA x.s x.l x.m (cs.map chgB)).2.1, (writeA x.s x.l x.m (cs.map chgB)).2.2, doAll x.m cs, false⟩)) = (0, y) ∧ CalmS y n0 (g + 1) ∧ y.m = doAll x.m cs ∧ sizeS y.s = sizeS x.s := by
    intro s l hS hss hfit2 hgl hnl hbase hrooms
    obtain ⟨k1, k2⟩ := appends_calm (cs.map chgB) l hS hlong hfit2
    obtain ⟨t, l', hc, hS', hb', hs', _, hst', hg', hn'⟩ := commit_calm k2 hm (by rw [hss]; exact h256) (.inr (by show l.n < _; omega))
    have hw : writeA x.s x.l x.m (cs.map chgB) = (0, t, l') := by
      unfold writeA
      rw [hrooms]
      show (if (0 : Int) ≠ 0 then _ else if (appendsW s l (cs.map chgB)).1 ≠ 0 then _ else commitW s (appendsW s l (cs.map chgB)).2) = _
      rw [k1, if_neg (fun h => h rfl)]
      exact (if_neg (fun h => h rfl)).trans hc
    rw [hw]
    refine ⟨⟨t, l', doAll x.m cs, false⟩, if_neg (fun h => h rfl), ⟨hS', rfl, ?_, ?_, by rw [hs', hb'], ?_, ?_, ?_⟩, rfl, hst'.trans hss⟩
    · show sizeM (doAll x.m cs) ≤ mostW t
      have : mostW t = mostW x.s := by unfold mostW; rw [hst', hss]
      rw [this]; omega
    · show (doAll x.m cs).length ≤ 4000; omega
    · rw [hg']; exact hgl
    · have : l'.n ≤ l.n + 1 := hn'
      show l'.n ≤ 2 * (g + 1); omega
    · obtain ⟨m0, css, q1, q2, q3, q4, q5, q6, q7⟩ := hbase
      refine ⟨m0, css ++ cs, ?_, ?_, q3, q4, q5, ?_, ?_⟩
      · show l'.b = _
        rw [hb']
        show l.b ++ recsB (cs.map chgB) = _
        rw [q1, List.map_append, recsB_app, List.append_assoc]
      · show doAll x.m cs = _
        rw [doAll_app, ← q2]
      · rw [List.all_append, q6, hall]; rfl
      · intro r hr
        rw [List.map_append] at hr
        rcases List.mem_append.1 hr with e | e
        · exact q7 r e
        · exact hlong r e
  have hroom := room_stand h.stand
  by_cases hrm : roomW x.s x.l < (reckonB (cs.map chgB) : Int)
  · obtain ⟨t, ht, hSt, _, hzt⟩ := check_calm (st := stateM x.m) h.stand.calm h.stand.ok hm h256 h.stand.broke (by rw [h.stand.there]) (by omega) (by omega) (by omega)
    refine key t _ hSt hzt ?_ ?_ ?_ ⟨x.m, [], ?_, rfl, hr, hp, h.len, rfl, fun r hr => by cases hr⟩ ?_
    · show (stateB (stateM x.m)).length + _ ≤ _
      rw [hzt]; omega
    · show x.l.gen + 1 ≤ g + 1; omega
    · show x.l.n + 1 ≤ 2 * g + 1; omega
    · show stateB (stateM x.m) = _ ++ []
      rw [List.append_nil]
    · unfold roomsW
      rw [if_pos hrm]
      exact ht
  · refine key x.s x.l h.stand rfl ?_ (by omega) (by omega) h.base ?_
    · rw [hroom] at hrm; omega
    · unfold roomsW
      rw [if_neg hrm]
end Go.Proofs.YtbegphfideopoaaGreat
