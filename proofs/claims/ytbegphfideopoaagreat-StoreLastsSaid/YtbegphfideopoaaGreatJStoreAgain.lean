/-
  What is proved here: a store on a disk that did not fail is opened again as it was; what a change that is tried does, by its cases.
  Conditions: those that each fact names.
-/
import Derived.Test.YtbegphfideopoaaGreatJStoreBack
import Derived.Test.YtbegphfideopoaaGreatJRefStoreDo
import Derived.Test.YtbegphfideopoaaGreatJStoreCalm
import Derived.Test.YtbegphfideopoaaGreatJStoreRange
import Derived.Test.YtbegphfideopoaaGreatJStoreSame
import Derived.Test.YtbegphfideopoaaGreatJStoreMuch
import Derived.Test.YtbegphfideopoaaGreatJRefStore
namespace Go.Proofs.YtbegphfideopoaaGreat
open Go.RowKit Go.Maps

theorem CalmS.later {x : SS} {n0 g g' : Nat} (h : CalmS x n0 g) (hg : g ≤ g') : CalmS x n0 g' :=
  ⟨h.stand, h.br, h.fits, h.len, h.synced, Nat.le_trans h.gen hg, by have := h.n; omega, h.base⟩
theorem recs_many : ∀ rs : List (List UInt8), 5 * rs.length ≤ (recsB rs).length
  | [] => Nat.le_refl _
  | r :: rs => by
    have := recs_many rs
    show 5 * (rs.length + 1) ≤ (pieceB 3 r ++ recsB rs).length
    rw [List.length_append, pieceB_len]
    omega
/-- What is found makes the pairs. -/
theorem CalmS.replay {x : SS} {n0 g : Nat} (h : CalmS x n0 g) (hm : n0 ≤ 4096) : ReplayOk (foundS x.s).1 (foundS x.s).2 x.m := by
  obtain ⟨m0, css, h1, h2, h3, h4, h5, h6, h7⟩ := h.base
  have hf : foundS x.s = (stateM m0, css.map chgB) := by rw [h.stand.found, h.synced, List.take_length, h1, told_put _ _ h7]
  have hb := h.stand.size
  have hs := size_lt h.stand.ok hm
  have hr := recs_many (css.map chgB)
  have hl : (recsB (css.map chgB)).length ≤ x.l.b.length := by rw [h1, List.length_append]; omega
  rw [List.length_map] at hr
  rw [hf, h2]
  exact replay_any m0 css h3 h4 h5 h6 (by omega) (by rw [← h2]; exact h.len)
/-- A calm store's disk, opened again. -/
theorem CalmS.again {x : SS} {n0 g : Nat} (h : CalmS x n0 g) (hm : n0 ≤ 4096) (h256 : 256 ≤ sizeS x.s) (hg : g ≤ 100000) (hp : PairsR x.m) (hr : RiseM x.m) (hms : sizeM x.m ≤ 1000000) : ∃ y : SS, CalmS y n0 (g + 1) ∧ y.m = x.m ∧ sizeS y.s = sizeS x.s ∧ ∀ (w : World) (L : PLay) (C : Nat → Prop), OD w L C x.s → Calls Tryz.prog 12 #[.pointer (some ⟨L.g, 0, none⟩)] w fun e w' => Opened w L C y e w' := by
  have hgn := h.gen
  have hnn := h.n
  have hfit := h.fits
  have hmost : mostW x.s = (sizeS x.s - 2048) / 2 := rfl
  have hst : (stateB (stateM x.m)).length ≤ sizeS x.s := by
    rw [stateB_len, stateM_len]
    omega
  obtain ⟨t, ht, hS, _, hz⟩ := check_calm (st := stateM x.m) (l := ⟨x.l.n, x.l.gen, [], 0, false, false⟩) h.stand.calm h.stand.ok hm h256 rfl (by rw [h.stand.there]) (by show x.l.n < _; omega) (by show x.l.gen < _; omega) hst
  have hmw : mostW t = mostW x.s := by unfold mostW; rw [hz]
  refine ⟨⟨t, _, x.m, false⟩, ⟨hS, rfl, by show sizeM x.m ≤ mostW t; rw [hmw]; exact h.fits, h.len, rfl, (by show x.l.gen + 1 ≤ g + 1; omega), (by show x.l.n + 1 ≤ 2 * (g + 1); omega), ⟨x.m, [], ?_, rfl, hr, hp, h.len, rfl, (fun r hr => by cases hr)⟩⟩, rfl, hz, fun w L C hD => ?_⟩
  · show stateB (stateM x.m) = stateB (stateM x.m) ++ []
    rw [List.append_nil]
  · exact open_any8 hD (open_stand h.stand h256) (m := x.m) (h.replay hm) hp h.len hms (by rw [openL_stand h.stand]; exact ht)
theorem PSt.od {w : World} {SG : Nat} {L : PLay} {C : Nat → Prop} {x : SS} (h : PSt w SG L C x) : ∃ CD, OD w L CD x.s ∧ (∀ q, CD q → C q) ∧ ¬ CD SG ∧ w.cell? ⟨SG, 2, none⟩ = some (.bool x.br) ∧ SG < w.heap.size := by
  obtain ⟨G, Mb, CL, CV, hP, h1, _, _, _⟩ := h.body
  obtain ⟨CD, len, bg, tv, tb, d1, d2, _⟩ := hP.log.body
  exact ⟨CD, d1, fun q hq => h1 q (d2 q hq), fun e => hP.sg.1 (d2 _ e), Blk.cell hP.st (j := 2) rfl, Blk.lt hP.st⟩
theorem PSt.rise8 {w : World} {SG : Nat} {L : PLay} {C : Nat → Prop} {x : SS} (h : PSt w SG L C x) : RiseM x.m := by
  obtain ⟨G, Mb, CL, CV, hP, -⟩ := h.body
  exact hP.map.rise
set_option maxRecDepth 100000 in
theorem broken_cell {w : World} {SG : Nat} {N : Bool} (c1 : w.cell? ⟨SG, 2, none⟩ = some (.bool N)) :
    Calls Tryz.prog 13 #[.pointer (some ⟨SG, 0, none⟩)] w fun e w' => e = .returned (.bool N) ∧ w' = w := by
  go_enter Tryz.func13, Tryz.ntmps13
  go_wp2
  go_ret
  exact ⟨rfl, rfl⟩
theorem sizeM_least : ∀ {m : PM}, PairsR m → 5 * m.length ≤ sizeM m
  | [], _ => Nat.le_refl _
  | p :: m, h => by
    have h1 := sizeM_least (m := m) (fun q hq => h q (List.mem_cons_of_mem _ hq))
    have h2 := (h p List.mem_cons_self).1
    show 5 * (m.length + 1) ≤ (4 + p.1.length + p.2.length) + sizeM m
    omega
/-- What one change does to a calm store. -/
theorem one_calm {x : SS} {n0 g : Nat} (h : CalmS x n0 g) (hm : n0 ≤ 4096) (h256 : 256 ≤ sizeS x.s) (hsm : sizeS x.s ≤ 16000) (hg : g ≤ 100000) (hp : PairsR x.m) (hr : RiseM x.m) (o : List OpB) :
    ∃ cd y, allA x [o] = (cd, y) ∧ y.br = false ∧ sizeS y.s = sizeS x.s ∧ CalmS y n0 (g + 1) ∧
      ((cd = 1 ∧ chgR o = false ∧ y.m = x.m) ∨ (cd = 3 ∧ chgR o = true ∧ y.m = x.m ∧ ¬ (sizeM (doM x.m o) ≤ mostW x.s ∧ (chgB o).length ≤ 4096 ∧ (chgB o).length + 24 ≤ sizeS x.s / 4)) ∨ (cd = 0 ∧ chgR o = true ∧ y.m = doM x.m o ∧ sizeM (doM x.m o) ≤ mostW x.s ∧ (chgB o).length ≤ 4096 ∧ (chgB o).length + 24 ≤ sizeS x.s / 4)) := by
  have hbad : badA [o] = !chgR o := by
    unfold badA
    simp
  have hfull : chgR o = true → (fullA x.s (doAll x.m [o]) ([o].map chgB) = false ↔ (sizeM (doM x.m o) ≤ mostW x.s ∧ (chgB o).length ≤ 4096 ∧ (chgB o).length + 24 ≤ sizeS x.s / 4)) := fun hR => by
    have hl := sizeM_least (pairs_do o hp (chgR_parts hR).1)
    have hmw : mostW x.s = (sizeS x.s - 2048) / 2 := rfl
    have e : doAll x.m [o] = doM x.m o := rfl
    unfold fullA
    rw [e]
    have er : reckonB ([o].map chgB) = (chgB o).length + 24 := by simp [reckonB]
    rw [er]
    simp only [List.map_cons, List.map_nil, List.any_cons, List.any_nil, Bool.or_false, Bool.or_eq_false_iff, decide_eq_false_iff_not, Nat.not_lt]
    constructor
    · rintro ⟨⟨⟨a, b⟩, c⟩, d⟩
      exact ⟨a, c, d⟩
    · rintro ⟨a, c, d⟩
      exact ⟨⟨⟨a, by omega⟩, c⟩, d⟩
  rcases all_calm h hm h256 hg hp hr [o] with ⟨e1, e2⟩ | ⟨e1, e2, e3⟩ | ⟨e1, e2, y, e3, e4, e5, e6⟩
  · rw [hbad] at e1
    exact ⟨1, x, e2, h.br, rfl, h.later (Nat.le_succ _), .inl ⟨rfl, by simpa using e1, rfl⟩⟩
  · rw [hbad] at e1
    have hR : chgR o = true := by simpa using e1
    refine ⟨3, x, e3, h.br, rfl, h.later (Nat.le_succ _), .inr (.inl ⟨rfl, hR, rfl, fun hh => ?_⟩)⟩
    rw [(hfull hR).2 hh] at e2
    cases e2
  · rw [hbad] at e1
    have hR : chgR o = true := by simpa using e1
    exact ⟨0, y, e3, e4.br, e6, e4, .inr (.inr ⟨rfl, hR, e5, ((hfull hR).1 e2).1, ((hfull hR).1 e2).2⟩)⟩
theorem PairsB.chg {w W W' : World} {v : Value} {l : PM} {S : Nat → Prop} (h : PairsB w W v l) (hc : Chg S W W') (hS : 0 < l.length → ∀ q, v.ownBlock = some q → ¬ S q) : PairsB w W' v l := by
  obtain ⟨ao, c, rfl, h1⟩ := h
  refine ⟨ao, c, rfl, fun i p hp => ?_⟩
  obtain ⟨b, ka, kc, va, vc, rfl, e1, e2, e3, e4, e5⟩ := h1 i p hp
  have hb := hc.2 b e5 (hS (by have := (List.getElem?_eq_some_iff.1 hp).1; omega) b rfl)
  exact ⟨b, ka, kc, va, vc, rfl, (World.cell?_of_block (w := W) (a := ⟨b, i * 2, none⟩) hb).trans e1, (World.cell?_of_block (w := W) (a := ⟨b, i * 2 + 1, none⟩) hb).trans e2, e3, e4, Nat.lt_of_lt_of_le e5 hc.size⟩
theorem PairsB.after {w W W' : World} {v : Value} {l : PM} (h : PairsB w W v l) (hb : Below W.heap.size W W') : PairsB w W' v l := h.chg (S := fun _ => False) (Chg.of_below hb (Nat.le_refl _)) (fun _ _ _ => id)
theorem PairsB.lt {w W : World} {v : Value} {l : PM} (h : PairsB w W v l) (hl : 0 < l.length) (q : Nat) (hq : v.ownBlock = some q) : q < W.heap.size := by
  obtain ⟨ao, c, rfl, h1⟩ := h
  obtain ⟨b, _, _, _, _, rfl, _, _, _, _, e5⟩ := h1 0 l[0] (List.getElem?_eq_getElem hl)
  cases hq
  exact e5
theorem PairsB.nil (w W : World) : PairsB w W (.slice none 0 0) [] := ⟨none, 0, rfl, fun i p h => by simp at h⟩
/-- Pairs whose texts are few. -/
theorem few_op {m : PM} (h : PairsF m) {o : OpB} (h1 : o.key.length ≤ 4000 ∧ o.val.length ≤ 4000) : PairsF (doOp m o) := by
  intro p hp
  unfold doOp at hp
  split at hp
  · exact h p (mem_del hp)
  · rcases mem_put hp with rfl | hp
    · exact h1
    · exact h p hp
theorem few_do : ∀ (ops : List OpB) {m : PM}, PairsF m → (∀ o ∈ ops, o.key.length ≤ 4000 ∧ o.val.length ≤ 4000) → PairsF (doM m ops)
  | [], _, h, _ => h
  | o :: ops, m, h, ho => few_do ops (m := doOp m o) (few_op h (ho o List.mem_cons_self)) (fun x hx => ho x (List.mem_cons_of_mem _ hx))
theorem chgB_few {ops : List OpB} (h : chgFew ops) : (chgB ops).length ≤ 200000 := by
  obtain ⟨h1, h2⟩ := h
  have key : ∀ l : List OpB, (∀ o ∈ l, opFew o) → (l.flatMap opB).length ≤ 3205 * l.length := by
    intro l
    induction l with
    | nil => intro _; exact Nat.le_refl _
    | cons o l ih =>
      intro hl
      have := ih (fun y hy => hl y (List.mem_cons_of_mem _ hy))
      have h3 := hl o List.mem_cons_self
      unfold opFew at h3
      rw [List.flatMap_cons, List.length_append, opB_len, List.length_cons]
      omega
  have := key ops h2
  show (ops.flatMap opB).length + 1 ≤ _
  omega
end Go.Proofs.YtbegphfideopoaaGreat
