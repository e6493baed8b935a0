/-
  What is proved here: plain facts on a store whose disk fails at any change: behind any crash there is what was there, or what it was doing.
  Conditions: those that each fact names.
-/
import Derived.Test.YtbegphfideopoaaGreatJStoreCalm
import Derived.Test.YtbegphfideopoaaGreatJWalSound
namespace Go.Proofs.YtbegphfideopoaaGreat

/-- Where a state comes from. -/
def BaseB (b : List UInt8) (m : PM) : Prop := ∃ (m0 : PM) (css : List (List OpB)), b = stateB (stateM m0) ++ recsB (css.map chgB) ∧ m = doAll m0 css ∧ RiseM m0 ∧ PairsR m0 ∧ m0.length ≤ 4000 ∧ css.all chgR = true ∧ ∀ r ∈ css.map chgB, r.length ≤ 4096
/-- A store whose log is whole. -/
structure SoundS (x : SS) (n0 g : Nat) : Prop where
  sound : Sound x.s n0 x.l
  br : x.br = false
  fits : sizeM x.m ≤ mostW x.s
  len : x.m.length ≤ 4000
  synced : x.l.sure = x.l.b.length
  gen : x.l.gen ≤ g
  n : x.l.n ≤ 2 * g
  base : BaseB x.l.b x.m
  rise : RiseM x.m
  pairs : PairsR x.m
/-- A disk behind a crash, with what is found. -/
structure Fresh8 (c : DS) (n0 g : Nat) (m : PM) : Prop where
  calm : calmS c
  ok : c.ok n0
  tw : twin (c.now.getD ((thereS c).1 % 2) [])
  gen : (thereS c).2.1 ≤ g
  n : (thereS c).1 ≤ 2 * g
  fits : sizeM m ≤ mostW c
  len : m.length ≤ 4000
  rise : RiseM m
  pairs : PairsR m
  base : ∃ (m0 : PM) (css : List (List OpB)), foundS c = (stateM m0, css.map chgB) ∧ m = doAll m0 css ∧ RiseM m0 ∧ PairsR m0 ∧ m0.length ≤ 4000 ∧ css.all chgR = true ∧ css.length ≤ 1000000
/-- Behind any crash there is the one or the other. -/
def BrokeS (s : DS) (n0 g : Nat) (m m' : PM) : Prop := s.ok n0 ∧ ∀ (stay : List Bool) (torn cut : Int), Fresh8 (crashS s stay torn cut) n0 g m ∨ Fresh8 (crashS s stay torn cut) n0 g m'
theorem recs_manyL : ∀ rs : List (List UInt8), 5 * rs.length ≤ (recsB rs).length
  | [] => Nat.le_refl _
  | r :: rs => by
    have := recs_manyL rs
    show 5 * (rs.length + 1) ≤ (pieceB 3 r ++ recsB rs).length
    rw [List.length_append, pieceB_len]
    omega
theorem BaseB.found {b : List UInt8} {m : PM} (h : BaseB b m) (hl : b.length ≤ 1000000) : ∃ (m0 : PM) (css : List (List OpB)), toldB b = (stateM m0, css.map chgB) ∧ m = doAll m0 css ∧ RiseM m0 ∧ PairsR m0 ∧ m0.length ≤ 4000 ∧ css.all chgR = true ∧ css.length ≤ 1000000 := by
  obtain ⟨m0, css, h1, h2, h3, h4, h5, h6, h7⟩ := h
  have := recs_manyL (css.map chgB)
  rw [List.length_map] at this
  refine ⟨m0, css, ?_, h2, h3, h4, h5, h6, ?_⟩
  · rw [h1, told_put _ _ h7]
  · rw [h1, List.length_append] at hl
    omega
theorem BaseB.state {m : PM} (hr : RiseM m) (hp : PairsR m) (hl : m.length ≤ 4000) : BaseB (stateB (stateM m)) m := ⟨m, [], (by show _ = _ ++ []; rw [List.append_nil]), rfl, hr, hp, hl, rfl, fun r hr => by cases hr⟩
theorem BaseB.more {b : List UInt8} {m : PM} (h : BaseB b m) {cs : List (List OpB)} (hall : cs.all chgR = true) (hlong : ∀ r ∈ cs.map chgB, r.length ≤ 4096) : BaseB (b ++ recsB (cs.map chgB)) (doAll m cs) := by
  obtain ⟨m0, css, q1, q2, q3, q4, q5, q6, q7⟩ := h
  refine ⟨m0, css ++ cs, ?_, ?_, q3, q4, q5, ?_, ?_⟩
  · rw [q1, List.map_append, recsB_app, List.append_assoc]
  · rw [doAll_app, ← q2]
  · rw [List.all_append, q6, hall]; rfl
  · intro r hr
    rw [List.map_append] at hr
    rcases List.mem_append.1 hr with e | e
    · exact q7 r e
    · exact hlong r e
theorem fresh_of {c : DS} {n0 g n' g' L' : Nat} {b : List UInt8} {m : PM} (hc : calmS c) (ok : c.ok n0) (hth : thereS c = (n', g', L')) (h1 : 1 ≤ n') (hn : n' ≤ 2 * g) (hg : g' ≤ g) (hfo : foundS c = toldB b) (hb : BaseB b m) (hbl : b.length ≤ 1000000) (hfit : sizeM m ≤ mostW c) (hl : m.length ≤ 4000) (hr : RiseM m) (hp : PairsR m) : Fresh8 c n0 g m :=
  ⟨hc, ok, by rw [hth]; exact there_twin hth h1, by rw [hth]; exact hg, by rw [hth]; exact hn, hfit, hl, hr, hp, by rw [hfo]; exact hb.found hbl⟩
theorem SoundS.foundB {x : SS} {n0 g : Nat} (h : SoundS x n0 g) : foundS x.s = toldB x.l.b := by rw [h.sound.found, h.synced, List.take_length]
theorem SoundS.later {x : SS} {n0 g g' : Nat} (h : SoundS x n0 g) (hg : g ≤ g') : SoundS x n0 g' :=
  ⟨h.sound, h.br, h.fits, h.len, h.synced, Nat.le_trans h.gen hg, by have := h.n; omega, h.base, h.rise, h.pairs⟩
theorem Fresh8.later {c : DS} {n0 g g' : Nat} {m : PM} (h : Fresh8 c n0 g m) (hg : g ≤ g') : Fresh8 c n0 g' m :=
  ⟨h.calm, h.ok, h.tw, Nat.le_trans h.gen hg, by have := h.n; omega, h.fits, h.len, h.rise, h.pairs, h.base⟩
/-- A store at rest behind a crash. -/
theorem SoundS.crash {x : SS} {n0 g : Nat} (h : SoundS x n0 g) (hm : n0 ≤ 4096) (stay : List Bool) (torn cut : Int) : Fresh8 (crashS x.s stay torn cut) n0 g x.m := by
  obtain ⟨h1, h2⟩ := h.sound.crash stay torn cut
  have okc := h.sound.rest.ok.crash stay torn cut
  have hz : sizeS (crashS x.s stay torn cut) = sizeS x.s := by unfold sizeS; rw [halfS_of h.sound.rest.ok okc]
  have hsz := size_lt h.sound.rest.ok hm
  have hbz := h.sound.size
  exact fresh_of (crash_calm _ _ _ _) okc (h1.trans h.sound.there) h.sound.n1 h.n h.gen (h2.trans h.foundB) h.base (by omega) (by unfold mostW; rw [hz]; exact h.fits) h.len h.rise h.pairs
/-- A new plan changes nothing. -/
theorem Sound.plan {s : DS} {n0 : Nat} {l : LS} (h : Sound s n0 l) (p : List UInt8) : Sound { s with next := p } n0 l :=
  ⟨⟨⟨h.rest.ok.now, h.rest.ok.sure, h.rest.ok.dirt, h.rest.ok.nows, h.rest.ok.sures⟩, h.rest.clean, h.rest.same, h.rest.on⟩, h.there, h.part, h.rows, (found_like (t := { s with next := p }) h.rest.ok ⟨h.rest.ok.now, h.rest.ok.sure, h.rest.ok.dirt, h.rest.ok.nows, h.rest.ok.sures⟩ rfl (fun _ _ => rfl)).trans h.found, h.sure, h.size, h.gen1, h.gen2, h.n1, h.n2, h.begun, h.broke, h.tw⟩
theorem SoundS.plan {x : SS} {n0 g : Nat} (h : SoundS x n0 g) (p : List UInt8) : SoundS { x with s := { x.s with next := p } } n0 g :=
  ⟨h.sound.plan p, h.br, h.fits, h.len, h.synced, h.gen, h.n, h.base, h.rise, h.pairs⟩
theorem crashTo_next (N : Nat → Nat) (p : List UInt8) : ∀ (l : List Nat) (i : Nat) (s : DS), (crashTo N i l { s with next := p }) = { crashTo N i l s with next := p }
  | [], _, _ => rfl
  | _ :: l, i, s => crashTo_next N p l (i + 1) (crashOne s _ _)
theorem crash_plan (s : DS) (p : List UInt8) (stay : List Bool) (torn cut : Int) : crashS { s with next := p } stay torn cut = crashS s stay torn cut := by
  unfold crashS
  show ({ crashTo (stayN stay torn cut) 0 (dirtyS s) { s with next := p } with next := [], down := false } : DS) = _
  rw [crashTo_next]
theorem BrokeS.plan {s : DS} {n0 g : Nat} {m m' : PM} (h : BrokeS s n0 g m m') (p : List UInt8) : BrokeS { s with next := p } n0 g m m' :=
  ⟨⟨h.1.now, h.1.sure, h.1.dirt, h.1.nows, h.1.sures⟩, fun stay torn cut => by rw [crash_plan]; exact h.2 stay torn cut⟩
theorem appends_sound {s : DS} {n0 : Nat} : ∀ (rs : List (List UInt8)) (l : LS), Sound s n0 l → (∀ r ∈ rs, r.length ≤ 4096) → l.b.length + (recsB rs).length ≤ sizeS s → appendsW s l rs = (0, { l with b := l.b ++ recsB rs }) ∧ Sound s n0 { l with b := l.b ++ recsB rs }
  | [], l, h, _, _ => by
    have e : ({ l with b := l.b ++ recsB [] } : LS) = l := by
      show ({ l with b := l.b ++ [] } : LS) = l
      rw [List.append_nil]
    rw [e]
    exact ⟨rfl, h⟩
  | r :: rs, l, h, hl, hf => by
    have hr := hl r List.mem_cons_self
    have e1 : (recsB (r :: rs)).length = r.length + 5 + (recsB rs).length := by
      show (pieceB 3 r ++ recsB rs).length = _
      rw [List.length_append, pieceB_len]
    have ha := h.appends r hr (by omega)
    have hs := h.append r (by omega)
    obtain ⟨k1, k2⟩ := appends_sound rs _ hs (fun q hq => hl q (List.mem_cons_of_mem _ hq)) (by show (l.b ++ pieceB 3 r).length + _ ≤ _; rw [List.length_append, pieceB_len]; omega)
    have e2 : ({ ({ l with b := l.b ++ pieceB 3 r } : LS) with b := ({ l with b := l.b ++ pieceB 3 r } : LS).b ++ recsB rs } : LS) = { l with b := l.b ++ recsB (r :: rs) } := by
      show ({ l with b := (l.b ++ pieceB 3 r) ++ recsB rs } : LS) = { l with b := l.b ++ (pieceB 3 r ++ recsB rs) }
      rw [List.append_assoc]
    rw [e2] at k1 k2
    refine ⟨?_, k2⟩
    show (if (appendW s l r).1 ≠ 0 then appendW s l r else appendsW s (appendW s l r).2 rs) = _
    rw [ha]
    exact (if_neg (fun h => h rfl)).trans k1
/-- What All does, whatever the disk does. -/
theorem all_last {x : SS} {n0 g : Nat} (h : SoundS x n0 g) (hm : n0 ≤ 4096) (h256 : 256 ≤ sizeS x.s) (hg : g ≤ 100000) (cs : List (List OpB)) :
    (∃ e : Int, (e = 1 ∨ e = 3) ∧ allA x cs = (e, x)) ∨ (∃ y, allA x cs = (0, y) ∧ SoundS y n0 (g + 1) ∧ y.m = doAll x.m cs ∧ sizeS y.s = sizeS x.s) ∨
    (∃ (e : Int) (y : SS), (e = 6 ∨ e = 7) ∧ allA x cs = (e, y) ∧ y.br = true ∧ y.m = x.m ∧ BrokeS y.s n0 (g + 1) x.m (doAll x.m cs)) := by
  have e : allA x cs = if badA cs then (1, x) else if fullA x.s (doAll x.m cs) (cs.map chgB) then (3, x)
      else if (writeA x.s x.l x.m (cs.map chgB)).1 ≠ 0 then ((writeA x.s x.l x.m (cs.map chgB)).1, ⟨(writeA x.s x.l x.m (cs.map chgB)).2.1, (writeA x.s x.l x.m (cs.map chgB)).2.2, x.m, true⟩)
      else (0, ⟨(writeA x.s x.l x.m (cs.map chgB)).2.1, (writeA x.s x.l x.m (cs.map chgB)).2.2, doAll x.m cs, false⟩) := by
    unfold allA
    rw [h.br]
    rfl
  rw [e]
  cases hb : badA cs with
  | true => exact .inl ⟨1, .inl rfl, rfl⟩
  | false =>
  cases hf : fullA x.s (doAll x.m cs) (cs.map chgB) with
  | true => exact .inl ⟨3, .inr rfl, rfl⟩
  | false =>
  right
  rw [if_neg (by decide), if_neg (by decide)]
  unfold badA at hb
  simp only [Bool.or_eq_false_iff, decide_eq_false_iff_not] at hb
  have hall : cs.all chgR = true := by
    have := hb.2
    rw [List.any_eq_false] at this
    exact List.all_eq_true.2 fun c hc => by simpa using this c hc
  have hcs : 1 ≤ cs.length := by omega
  unfold fullA at hf
  simp only [Bool.or_eq_false_iff, decide_eq_false_iff_not] at hf
  obtain ⟨⟨⟨f1, f2⟩, f3⟩, f4⟩ := hf
  have hlong : ∀ r ∈ cs.map chgB, r.length ≤ 4096 := fun r hr => by
    rw [List.any_eq_false] at f3
    have := f3 r hr
    simp at this
    exact this
  have hrl := recs_len (cs.map chgB)
  have hrm1 := recs_manyL (cs.map chgB)
  rw [List.length_map] at hrm1
  have hsz := size_lt h.sound.rest.ok hm
  have hfit := h.fits
  have hmost : mostW x.s = (sizeS x.s - 2048) / 2 := rfl
  have hst : (stateB (stateM x.m)).length + sizeS x.s / 4 ≤ sizeS x.s := by
    rw [stateB_len, stateM_len]
    omega
  have hgn := h.gen
  have hnn := h.n
  have hrise2 := rise_all cs h.rise
  have hpairs2 := pairs_all cs h.pairs hall
  -- what a crash of a broken log leaves
  have hbroke : ∀ (t : DS) (n1 g1 L1 n2 g2 L2 : Nat) (b1 b2 : List UInt8) (m2 : PM), t.ok n0 → Either t ((n1, g1, L1), toldB b1) ((n2, g2, L2), toldB b2) → 1 ≤ n1 → 1 ≤ n2 → n1 ≤ 2 * (g + 1) → n2 ≤ 2 * (g + 1) → g1 ≤ g + 1 → g2 ≤ g + 1 → BaseB b1 x.m → BaseB b2 m2 → b1.length ≤ sizeS x.s → b2.length ≤ sizeS x.s → sizeM m2 ≤ mostW x.s → m2.length ≤ 4000 → RiseM m2 → PairsR m2 → BrokeS t n0 (g + 1) x.m m2 := by
    intro t n1 g1 L1 n2 g2 L2 b1 b2 m2 ok hE p1 p2 p3 p4 p5 p6 p7 p8 p9 p10 p11 p12 p13 p14
    refine ⟨ok, fun stay torn cut => ?_⟩
    have okc := ok.crash stay torn cut
    have hz : mostW (crashS t stay torn cut) = mostW x.s := by unfold mostW sizeS; rw [halfS_of h.sound.rest.ok okc]
    rcases hE stay torn cut with hE | hE
    · simp only [Prod.mk.injEq] at hE
      exact .inl (fresh_of (crash_calm _ _ _ _) okc hE.1 p1 p3 p5 hE.2 p7 (by omega) (by rw [hz]; exact h.fits) h.len h.rise h.pairs)
    · simp only [Prod.mk.injEq] at hE
      exact .inr (fresh_of (crash_calm _ _ _ _) okc hE.1 p2 p4 p6 hE.2 p8 (by omega) (by rw [hz]; exact p11) p12 p13 p14)
  have key : ∀ (s : DS) (l : LS), Sound s n0 l → sizeS s = sizeS x.s → l.sure = l.b.length → l.b.length + (recsB (cs.map chgB)).length ≤ sizeS s → l.gen ≤ g + 1 → l.n ≤ 2 * g + 1 → BaseB l.b x.m → roomsW x.s x.l x.m (cs.map chgB) = (0, s, l) →
      (∃ y, (if (writeA x.s x.l x.m (cs.map chgB)).1 ≠ 0 then ((writeA x.s x.l x.m (cs.map chgB)).1, (⟨(writeA x.s x.l x.m (cs.map chgB)).2.1, (writeA x.s x.l x.m (cs.map chgB)).2.2, x.m, true⟩ : SS))
      else (0, ⟨(writeA x.s x.l x.m (cs.map chgB)).2.1, (writeA x.s x.l x.m (cs.map chgB)).2.2, doAll x.m cs, false⟩)) = (0, y) ∧ SoundS y n0 (g + 1) ∧ y.m = doAll x.m cs ∧ sizeS y.s = sizeS x.s) ∨
      (∃ (e : Int) (y : SS), (e = 6 ∨ e = 7) ∧ (if (writeA x.s x.l x.m (cs.map chgB)).1 ≠ 0 then ((writeA x.s x.l x.m (cs.map chgB)).1, (⟨(writeA x.s x.l x.m (cs.map chgB)).2.1, (writeA x.s x.l x.m (cs.map chgB)).2.2, x.m, true⟩ : SS))
      else (0, ⟨(writeA x.s x.l x.m (cs.map chgB)).2.1, (writeA x.s x.l x.m (cs.map chgB)).2.2, doAll x.m cs, false⟩)) = (e, y) ∧ y.br = true ∧ y.m = x.m ∧ BrokeS y.s n0 (g + 1) x.m (doAll x.m cs)) := by
    intro s l hS hss hsync hfit2 hgl hnl hbase hrooms
    obtain ⟨k1, k2⟩ := appends_sound (cs.map chgB) l hS hlong hfit2
    have hfd : foundS s = toldB l.b := by rw [hS.found, hsync, List.take_length]
    have hw : writeA x.s x.l x.m (cs.map chgB) = commitW s { l with b := l.b ++ recsB (cs.map chgB) } := by
      unfold writeA
      rw [hrooms]
      show (if (0 : Int) ≠ 0 then _ else if (appendsW s l (cs.map chgB)).1 ≠ 0 then _ else commitW s (appendsW s l (cs.map chgB)).2) = _
      rw [k1, if_neg (fun h => h rfl)]
      exact if_neg (fun h => h rfl)
    have hbm := hbase.more hall hlong
    have hlen2 : (l.b ++ recsB (cs.map chgB)).length = l.b.length + (recsB (cs.map chgB)).length := List.length_append
    have hcom := k2.commit hm (by rw [hss]; exact h256) (by show l.sure ≠ (l.b ++ recsB (cs.map chgB)).length; omega) (by show l.n < _; omega)
    rw [hw]
    clear hw k1 k2
    generalize commitW s { l with b := l.b ++ recsB (cs.map chgB) } = T at hcom ⊢
    obtain ⟨e, t, l'⟩ := T
    dsimp only at hcom ⊢
    rcases hcom with ⟨c1, c2, c3, c4⟩ | ⟨c1, c2, c3⟩
    · left
      subst c1
      rw [if_neg (fun h => h rfl)]
      refine ⟨_, rfl, ⟨by rw [c2]; exact c3, rfl, ?_, ?_, ?_, ?_, ?_, ?_, hrise2, hpairs2⟩, rfl, c4.trans hss⟩
      · show sizeM (doAll x.m cs) ≤ mostW t
        unfold mostW
        rw [c4, hss]
        unfold mostW at f1
        omega
      · show (doAll x.m cs).length ≤ 4000; omega
      · show l'.sure = l'.b.length
        rw [c2]
      · show l'.gen ≤ g + 1
        rw [c2]; exact hgl
      · show l'.n ≤ 2 * (g + 1)
        rw [c2]; show l.n + 1 ≤ _; omega
      · show BaseB l'.b (doAll x.m cs)
        rw [c2]; exact hbm
    · right
      rw [if_pos (by rcases c1 with h1 | h1 <;> rw [h1] <;> decide)]
      refine ⟨_, _, c1, rfl, rfl, rfl, ?_⟩
      rw [hfd] at c3
      exact hbroke t l.n l.gen l.sure (l.n + 1) l.gen _ l.b (l.b ++ recsB (cs.map chgB)) (doAll x.m cs) c2 c3 hS.n1 (by omega) (by omega) (by omega) hgl hgl hbase hbm (by omega) (by omega) (by omega) (by omega) hrise2 hpairs2
  have hroom := h.sound.room
  by_cases hrm : roomW x.s x.l < (reckonB (cs.map chgB) : Int)
  · have er : roomsW x.s x.l x.m (cs.map chgB) = checkW x.s x.l (stateM x.m) := by
      unfold roomsW
      rw [if_pos hrm]
    have hbst := BaseB.state h.rise h.pairs h.len
    have hchk := h.sound.check (st := stateM x.m) hm h256 (by omega) (by omega) (by omega)
    generalize hT : checkW x.s x.l (stateM x.m) = T at hchk er
    obtain ⟨e, t, l'⟩ := T
    dsimp only at hchk
    rcases hchk with ⟨c1, c2, c3, c4⟩ | ⟨c1, c2, c3⟩
    · subst c1
      rw [c2] at er
      refine key t _ c3 c4 rfl ?_ ?_ ?_ hbst er
      · show (stateB (stateM x.m)).length + _ ≤ _
        rw [c4]; omega
      · show x.l.gen + 1 ≤ g + 1; omega
      · show x.l.n + 1 ≤ 2 * g + 1; omega
    · right
      have hne : e ≠ 0 := by rcases c1 with h1 | h1 <;> rw [h1] <;> decide
      have hw : writeA x.s x.l x.m (cs.map chgB) = (e, t, l') := by
        unfold writeA
        rw [er]
        exact if_pos hne
      rw [hw]
      dsimp only
      rw [if_pos hne]
      refine ⟨_, _, c1, rfl, rfl, rfl, ?_⟩
      rw [h.foundB] at c3
      have hB := hbroke t x.l.n x.l.gen x.l.sure (x.l.n + 1) (x.l.gen + 1) _ x.l.b (stateB (stateM x.m)) x.m c2 c3 h.sound.n1 (by omega) (by omega) (by omega) (by omega) (by omega) h.base hbst h.sound.size (by omega) h.fits h.len h.rise h.pairs
      exact ⟨hB.1, fun stay torn cut => .inl ((hB.2 stay torn cut).elim id id)⟩
  · refine key x.s x.l h.sound rfl h.synced ?_ (by omega) (by omega) h.base ?_
    · rw [hroom] at hrm; omega
    · unfold roomsW
      rw [if_neg hrm]
end Go.Proofs.YtbegphfideopoaaGreat
