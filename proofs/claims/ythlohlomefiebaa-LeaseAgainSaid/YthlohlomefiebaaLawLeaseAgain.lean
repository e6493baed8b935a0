/-
  What is proved here: the statement LeaseAgain is true of any steps.
  Conditions: they lie in memory.
-/
import Derived.Test.YthlohlomefiebaaLeStep
import Derived.Test.YthlohlomefiebaaRefLeLoad
namespace Go.Proofs.Ythlohlomefiebaa
open Go.RowKit Go.Maps

theorem can_of_ok {l : List LE} (ok : OkT l) : canT l = true := by
  rw [canT_iff]
  refine ⟨ok.len, fun i hi => ?_⟩
  have he : l[i]? = some (l.getD i noLE) := by rw [List.getD_eq_getElem?_getD, List.getElem?_eq_getElem hi]; rfl
  have hm : l.getD i noLE ∈ l := List.mem_iff_getElem?.2 ⟨i, he⟩
  rw [may_iff, List.length_take, Nat.min_eq_left (by omega)]
  refine ⟨ok.num i _ he, decide_eq_true (ok.dev _ hm), (ok.til _ hm).1, (ok.til _ hm).2, fun f hf k => ?_⟩
  obtain ⟨j, hj⟩ := List.mem_iff_getElem?.1 hf
  have hji : j < i := by
    have := (List.getElem?_eq_some_iff.1 hj).1
    rw [List.length_take] at this
    omega
  rw [List.getElem?_take_of_lt hji] at hj
  have := ok.one i j _ f he hj k.1 k.2.1 k.2.2
  omega
theorem LeT.mono {w : World} {lo lo' G b : Nat} {v : Value} {l : List LE} (h : LeT w lo G b v l) (hl : lo' ≤ lo) : LeT w lo' G b v l := ⟨h.head, h.row.mono hl, h.map, h.ok, Nat.le_trans hl h.gG, Nat.le_trans hl h.gb, h.nG, h.nb, h.ne⟩
/-- Three tables, apart from one another. -/
structure T3 (w : World) (lo Gx bx G' G b : Nat) (vx vr v : Value) (l : List LE) : Prop where
  tt : TT w lo Gx bx G' vx vr l l
  t : LeT w lo G b v l
  ap : ∀ q, LeM G b v q → ¬ (LeM Gx bx vx q ∨ RfM G' vr q)
theorem cells_sp {w : World} {b off : Nat} {s : SP} {i : Nat} (h : ∀ (j : Nat) u, (spL s)[j]? = some u → w.cell? ⟨b, off + i * 4 + j, none⟩ = some u) : w.cell? ⟨b, off + i * 4, none⟩ = some (.int .i64 s.o) ∧ w.cell? ⟨b, off + i * 4 + 1, none⟩ = some (.int .i64 s.n) ∧ w.cell? ⟨b, off + i * 4 + 2, none⟩ = some (.int .i64 s.t) ∧ w.cell? ⟨b, off + i * 4 + 3, none⟩ = some (.int .i64 s.f) := ⟨h 0 _ rfl, h 1 _ rfl, h 2 _ rfl, h 3 _ rfl⟩
theorem steps_at {w : World} {x : Value} {L : List SP} (hx : Steps16 w x L) {i : Nat} (hi : i < L.length) : ∃ b off c, x = .slice (some ⟨b, off, none⟩) L.length c ∧ ∀ V, Below w.heap.size w V → V.cell? ⟨b, off + i * 4, none⟩ = some (.int .i64 L[i].o) ∧ V.cell? ⟨b, off + i * 4 + 1, none⟩ = some (.int .i64 L[i].n) ∧ V.cell? ⟨b, off + i * 4 + 2, none⟩ = some (.int .i64 L[i].t) ∧ V.cell? ⟨b, off + i * 4 + 3, none⟩ = some (.int .i64 L[i].f) := by
  obtain ⟨b, off, c, h1, _, h2, h3⟩ := hx.1.form (by omega)
  refine ⟨b, off, c, h1, fun V hV => cells_sp (fun j u hu => ?_)⟩
  exact (hV.cell (p := ⟨b, off + i * 4 + j, none⟩) h2).trans (h3 i _ (List.getElem?_eq_getElem hi) j u hu)
/-- The loaded table's step, with the document's beside it. -/
theorem T3.first {w w' : World} {lo Gx bx G' G b : Nat} {vx vr v : Value} {l l2 : List LE} (h : T3 w lo Gx bx G' G b vx vr v l) (hP : PostB w lo Gx bx G' vx vr l2 l2 w') : ∃ v1 v2, TT w' lo Gx bx G' v1 v2 l2 l2 ∧ LeT w' lo G b v l ∧ (∀ q, LeM G b v q → ¬ (LeM Gx bx v1 q ∨ RfM G' v2 q)) ∧ Chg (fun q => LeM Gx bx vx q ∨ RfM G' vr q) w w' := by
  obtain ⟨v1, v2, h1, h2, h3, h4⟩ := hP
  refine ⟨v1, v2, h1, h.t.chg h4 (fun q hq e => h.ap q hq e), fun q hq e => ?_, h4⟩
  have hl := h.t.lt q hq
  rcases e with e | e
  · rcases h2 q e with k | k
    · exact h.ap q hq (.inl k)
    · omega
  · rcases h3 q e with k | k
    · exact h.ap q hq (.inr k)
    · omega
theorem t_fresh {w : World} {lo G b : Nat} {v : Value} {l : List LE} (h : LeT w lo G b v l) (hlo : lo ≤ w.heap.size) : TT (w.alloc (.cells #[.slice none 0 0] 29)) lo G b w.heap.size v (.slice none 0 0) l [] := by
  have hb := below_newE w (.cells #[.slice none 0 0] 29)
  refine ⟨h.after hb (Nat.le_refl _), ⟨(rfT_new w).head, LeR.nil _ _, OkT.nil, hlo, fun e => by cases e⟩, fun q hq hr => ?_, Nat.le_trans hlo hb.size⟩
  have h1 := h.lt q hq
  rcases hr with e | e
  · omega
  · cases e
theorem T3.next {w w2 w3 : World} {lo Gx bx G' G b : Nat} {vx vr v : Value} {l l2 lq : List LE} (hx : TT w lo Gx bx G' vx vr l2 l2) (ht : LeT w lo G b v l) (ha : ∀ q, LeM G b v q → ¬ (LeM Gx bx vx q ∨ RfM G' vr q)) (hw2 : w2 = w.alloc (.cells #[.slice none 0 0] 29)) (hP : PostB w2 lo G b w.heap.size v (.slice none 0 0) l2 lq w3) : ∃ v3, T3 w3 lo Gx bx G' G b vx vr v3 l2 ∧ Below lo w w3 := by
  subst hw2
  obtain ⟨v1, v2, h1, h2, h3, h4⟩ := hP
  have hb := below_newE w (.cells #[.slice none 0 0] 29)
  have hx2 := hx.after hb (Nat.le_refl _)
  have hnr : ∀ q, RfM w.heap.size (.slice none 0 0) q → q = w.heap.size := fun q e => by
    rcases e with e | e
    · exact e
    · cases e
  refine ⟨v1, ⟨hx2.chg h4 (fun q hq e => ?_) (fun q hq e => ?_), h1.t, fun q hq e => ?_⟩, (hb.mono hx.lo).trans (h4.below (fun q e => ?_) (Nat.le_trans hx.lo hb.size))⟩
  · rcases e with e | e
    · exact ha q e (.inl hq)
    · have := hx.t.lt q hq; have := hnr q e; omega
  · rcases e with e | e
    · exact ha q e (.inr hq)
    · have := hx.r.lt q hq; have := hnr q e; omega
  · rcases h2 q hq with k | k
    · exact ha q k e
    · have hs := hb.size
      rcases e with e | e
      · have := hx.t.lt q e; omega
      · have := hx.r.lt q e; omega
  · rcases e with e | e
    · exact ht.ge q e
    · have := hnr q e; have := hx.lo; omega
set_option maxRecDepth 100000 in
set_option maxHeartbeats 4000000 in
theorem leaseAgain_any (x y : Value) (L M : List SP) (w : World) (hx : Steps16 w x L) (hy : Steps16 w y M) : Calls Try.prog 6 #[x, y] w fun e w' => e = .returned (.bool true) ∧ Below w.heap.size w w' := by
  have HX : Hid (Steps16 w x L) := hx
  have HY : Hid (Steps16 w y M) := hy
  obtain ⟨ax, cx, rfl⟩ := hx.1.shape
  obtain ⟨ay, cy, rfl⟩ := hy.1.shape
  clear hx hy
  go_enter Try.func6, Try.ntmps6
  go_wp2_with fail
  refine (awake16_any w).mono ?_
  rintro e w1 ⟨rfl, hB1⟩
  go_wp2_with fail
  refine (new16_any w1).mono ?_
  rintro e w2 ⟨G, b, rfl, hT, hb2⟩
  have HTT : Hid (TT (w2.alloc (.cells #[.slice none 0 0] 29)) w1.heap.size G b w2.heap.size (.slice none 0 0) (.slice none 0 0) [] []) := t_fresh hT hb2.size
  have HS : Hid (w.heap.size ≤ w1.heap.size) := hB1.size
  have hB2 : Below w.heap.size w (w2.alloc (.cells #[.slice none 0 0] 29)) := low_new (hB1.trans (hb2.mono hB1.size)) _
  obtain ⟨LO, hLO⟩ : ∃ n, n = w1.heap.size := ⟨_, rfl⟩
  rw [← hLO] at HTT HS
  clear hT hb2 hB1 hLO
  go_wp2_with fail
  obtain ⟨G', hG'⟩ : ∃ g, g = w2.heap.size := ⟨_, rfl⟩
  rw [← hG'] at HTT ⊢
  clear hG'
  generalize w2.alloc (.cells #[.slice none 0 0] 29) = w3 at *
  go_loopw [8] (fun i wr => ∃ (k : Nat) (v v2 : Value) (l : List LE), i = .int .i64 (k : Int) ∧ k ≤ L.length ∧ k ≤ 100 ∧ Below w.heap.size w wr ∧ Hid (TT wr LO G b G' v v2 l l)) (fun i _ => 100 - (Go.RowKit.intOf i).toNat)
  case atStart => exact ⟨0, _, _, [], rfl, Nat.zero_le _, Nat.zero_le _, hB2, HTT.out⟩
  case round =>
    clear hB2 HTT
    obtain ⟨k, v, v2, l, rfl, hk, hk100, hB, HT⟩ := hrel
    by_cases hlt : k < L.length
    · by_cases h100 : k < 100
      · obtain ⟨bd, off, c', hxx, hr⟩ := steps_at HX.out hlt
        cases hxx
        have hgd := HX.out.2 L[k] (List.getElem_mem hlt)
        obtain ⟨k0, k1, k2, k3⟩ := hr wr hB
        generalize L[k] = s at *
        have HST : Hid (Calls Try.prog 11 #[.pointer (some ⟨G, 0, none⟩), .pointer (some ⟨G', 0, none⟩), spV s] wr fun e w' => PostS wr LO G b G' v v2 l l (doT l s) (doT l s) e w') := step16_any HT.out s hgd
        have HTL : Hid (∀ q, LeM G b v q ∨ RfM G' v2 q → w.heap.size ≤ q) := fun q hq => by
          have := HS.out
          rcases hq with e | e
          · have := HT.out.t.ge q e; omega
          · have := HT.out.r.ge q e; omega
        obtain ⟨so, sn, st, sf⟩ := s
        unfold spV spL at HST
        dsimp only at HST k0 k1 k2 k3
        have ix := fun w => index_s16 bd off L.length cx k w hlt
        have HB : Hid (Below w.heap.size w wr) := hB
        clear hr hgd hB
        go_wp2_with fail
        refine HST.out.mono ?_
        rintro e w4 ⟨bb, rfl, hbb, v3, v4, hT4, _, _, hC4⟩
        have HF : Hid (TT w4 LO G b G' v3 v4 (doT l ⟨so, sn, st, sf⟩) (doT l ⟨so, sn, st, sf⟩) ∧ Below w.heap.size w w4) := ⟨hT4, HB.out.trans (hC4.below HTL.out HB.out.size)⟩
        clear hT4 hC4 HST k0 k1 k2 k3 hbb
        go_wp2
        go_roundw
        case rel => exact ⟨k + 1, v3, v4, _, by go_num, hlt, h100, HF.out.2, HF.out.1⟩
        case measure => simp [Go.RowKit.intOf]; omega
      · have hni : ¬ (k : Int) < 100 := by omega
        clear h100
        have HB : Hid (Below w.heap.size w wr) := hB
        have HAL := all16_any HT.out.t
        clear hB
        go_wp2_with fail
        clear hni
        refine HAL.mono ?_
        rintro e w5 ⟨u, rfl, hu, hb5⟩
        have HLD : Hid (Calls Try.prog 14 #[u] w5 fun e w' => ∃ Gx bx vx, e = .returned (.tuple #[.pointer (some ⟨Gx, 0, none⟩), .int .i64 0]) ∧ LeT w' w5.heap.size Gx bx vx l ∧ Below w5.heap.size w5 w') := (load16_any hu.lies).mono (fun e w' ⟨h1, h2⟩ => by
          rcases h1 with ⟨_, Gx, bx, vx, h3, h4⟩ | ⟨h3, _⟩
          · exact ⟨Gx, bx, vx, h3, h4, h2⟩
          · rw [can_of_ok HT.out.t.ok] at h3; cases h3)
        have HT5 : Hid (TT w5 LO G b G' v v2 l l) := HT.out.after hb5 (Nat.le_refl _)
        have HB5 : Hid (Below w.heap.size w w5) := HB.out.trans (hb5.mono HB.out.size)
        clear hu hb5 HAL HB HT
        go_wp2_with fail
        refine HLD.out.mono ?_
        rintro e w6 ⟨Gx, bx, vx, rfl, hX6, hb6⟩
        have HT6 : Hid (T3 w6 LO Gx bx G' G b vx v2 v l) := by
          have h5 := HT5.out
          have h6 := h5.after hb6 (Nat.le_refl _)
          refine ⟨⟨hX6.mono h5.lo, h6.r, fun q hq hr => ?_, h6.lo⟩, h6.t, fun q hq e => ?_⟩
          · have h1 := hX6.ge q hq
            have h2 := h5.r.lt q hr
            omega
          · rcases e with e | e
            · have h1 := hX6.ge q e
              have h2 := h5.t.lt q hq
              omega
            · exact h5.ap q hq e
        have hB6 : Below w.heap.size w w6 := HB5.out.trans (hb6.mono HB5.out.size)
        clear hX6 hb6 HT5 HB5 HLD
        go_wp2_with fail
        go_loopw [11] (fun i wr => ∃ (k : Nat) (vx vr v : Value) (l : List LE), i = .int .i64 (k : Int) ∧ k ≤ M.length ∧ k ≤ 100 ∧ Below w.heap.size w wr ∧ Hid (T3 wr LO Gx bx G' G b vx vr v l)) (fun i _ => 100 - (Go.RowKit.intOf i).toNat)
        case atStart => exact ⟨0, _, _, _, _, rfl, Nat.zero_le _, Nat.zero_le _, hB6, HT6.out⟩
        case round =>
          clear hB6 HT6
          obtain ⟨k, vx, vr, v, l, rfl, hk, hk100, hB, HT⟩ := hrel
          by_cases hlt : k < M.length
          · by_cases h100 : k < 100
            · obtain ⟨bd, off, c', hxx, hr⟩ := steps_at HY.out hlt
              cases hxx
              have hgd := HY.out.2 M[k] (List.getElem_mem hlt)
              obtain ⟨k0, k1, k2, k3⟩ := hr wr hB
              generalize M[k] = s at *
              have HGD : Hid (s.good) := hgd
              have HCL : Hid (∀ V, Below w.heap.size w V → V.cell? ⟨bd, off + k * 4, none⟩ = some (.int .i64 s.o) ∧ V.cell? ⟨bd, off + k * 4 + 1, none⟩ = some (.int .i64 s.n) ∧ V.cell? ⟨bd, off + k * 4 + 2, none⟩ = some (.int .i64 s.t) ∧ V.cell? ⟨bd, off + k * 4 + 3, none⟩ = some (.int .i64 s.f)) := hr
              have HST : Hid (Calls Try.prog 11 #[.pointer (some ⟨Gx, 0, none⟩), .pointer (some ⟨G', 0, none⟩), spV s] wr fun e w' => PostS wr LO Gx bx G' vx vr l l (doT l s) (doT l s) e w') := step16_any HT.out.tt s hgd
              obtain ⟨so, sn, st, sf⟩ := s
              unfold spV spL at HST
              dsimp only at HST k0 k1 k2 k3
              have ix := fun w => index_s16 bd off M.length cy k w hlt
              have HB : Hid (Below w.heap.size w wr) := hB
              clear hr hgd hB
              go_wp2_with fail
              refine HST.out.mono ?_
              rintro e w4 ⟨bb, rfl, hbb, hP⟩
              obtain rfl : bb = true := hbb rfl
              obtain ⟨v1, v2', q1, q2, q3, q4⟩ := HT.out.first hP
              have HB4 : Hid (Below w.heap.size w w4) := HB.out.trans (q4.below (fun q e => by
                have := HS.out
                rcases e with e | e
                · have := HT.out.tt.t.ge q e; omega
                · have := HT.out.tt.r.ge q e; omega) HB.out.size)
              have HQ : Hid (TT w4 LO Gx bx G' v1 v2' (doT l ⟨so, sn, st, sf⟩) (doT l ⟨so, sn, st, sf⟩) ∧ LeT w4 LO G b v l ∧ ∀ q, LeM G b v q → ¬ (LeM Gx bx v1 q ∨ RfM G' v2' q)) := ⟨q1, q2, q3⟩
              have HSQ : Hid (Calls Try.prog 11 #[.pointer (some ⟨G, 0, none⟩), .pointer (some ⟨w4.heap.size, 0, none⟩), .agg #[.int .i64 so, .int .i64 sn, .int .i64 st, .int .i64 sf]] (w4.alloc (.cells #[.slice none 0 0] 29)) fun e w' => PostS (w4.alloc (.cells #[.slice none 0 0] 29)) LO G b w4.heap.size v (.slice none 0 0) l [] (doT l ⟨so, sn, st, sf⟩) (doT [] ⟨so, sn, st, sf⟩) e w') := step16_any (t_fresh q2 q1.lo) ⟨so, sn, st, sf⟩ HGD.out
              obtain ⟨j0, j1, j2, j3⟩ := HCL.out (w4.alloc (.cells #[.slice none 0 0] 29)) (low_new HB4.out _)
              clear q1 q2 q3 q4 hP hbb HST k0 k1 k2 k3 HB
              go_wp2_with fail
              refine HSQ.out.mono ?_
              rintro e w5 ⟨b2, rfl, _, hP2⟩
              obtain ⟨v3, hT5, hb5⟩ := T3.next HQ.out.1 HQ.out.2.1 HQ.out.2.2 rfl hP2
              have HF : Hid (T3 w5 LO Gx bx G' G b v1 v2' v3 (doT l ⟨so, sn, st, sf⟩) ∧ Below w.heap.size w w5) := ⟨hT5, HB4.out.trans (hb5.mono HS.out)⟩
              clear hT5 hb5 hP2 HSQ j0 j1 j2 j3 HQ HB4 HT
              go_wp2
              go_roundw
              case rel => exact ⟨k + 1, _, _, v3, _, by go_num, hlt, h100, HF.out.2, HF.out.1⟩
              case measure => simp [Go.RowKit.intOf]; omega
            · have hni : ¬ (k : Int) < 100 := by omega
              clear h100
              have HB : Hid (Below w.heap.size w wr) := hB
              have HAL := all16_any HT.out.tt.t
              clear hB
              go_wp2_with fail
              refine HAL.mono ?_
              rintro e w5 ⟨u, rfl, hu, hb5⟩
              have HU : Hid (LeR w5 wr.heap.size u l) := hu
              have HB5 : Hid (Below w.heap.size w w5) := HB.out.trans (hb5.mono HB.out.size)
              have HA2 := all16_any (HT.out.t.after hb5 (Nat.le_refl _))
              clear hu hb5 HAL HB
              go_wp2_with fail
              refine HA2.mono ?_
              rintro e w6 ⟨u2, rfl, hu2, hb6⟩
              have HSM : Hid (Calls Try.prog 12 #[u, u2] w6 fun e w' => e = .returned (.bool true) ∧ Below w6.heap.size w6 w') := by
                have := same16_any (HU.out.after hb6 (Nat.le_refl _)).lies hu2.lies
                rw [decide_eq_true rfl] at this
                exact this
              have hB6 : Below w.heap.size w w6 := HB5.out.trans (hb6.mono HB5.out.size)
              clear hu2 hb6 HA2
              go_wp2_with fail
              refine HSM.out.mono ?_
              rintro e w7 ⟨rfl, hb7⟩
              have hB7 := hB6.trans (hb7.mono hB6.size)
              clear hb7 hB6
              go_wp2
              go_ret
              exact ⟨rfl, hB7⟩
          · have hni : ¬ (k : Int) < (M.length : Int) := by omega
            clear hlt
            have HB : Hid (Below w.heap.size w wr) := hB
            have HAL := all16_any HT.out.tt.t
            clear hB
            go_wp2_with fail
            refine HAL.mono ?_
            rintro e w5 ⟨u, rfl, hu, hb5⟩
            have HU : Hid (LeR w5 wr.heap.size u l) := hu
            have HB5 : Hid (Below w.heap.size w w5) := HB.out.trans (hb5.mono HB.out.size)
            have HA2 := all16_any (HT.out.t.after hb5 (Nat.le_refl _))
            clear hu hb5 HAL HB
            go_wp2_with fail
            refine HA2.mono ?_
            rintro e w6 ⟨u2, rfl, hu2, hb6⟩
            have HSM : Hid (Calls Try.prog 12 #[u, u2] w6 fun e w' => e = .returned (.bool true) ∧ Below w6.heap.size w6 w') := by
              have := same16_any (HU.out.after hb6 (Nat.le_refl _)).lies hu2.lies
              rw [decide_eq_true rfl] at this
              exact this
            have hB6 : Below w.heap.size w w6 := HB5.out.trans (hb6.mono HB5.out.size)
            clear hu2 hb6 HA2
            go_wp2_with fail
            refine HSM.out.mono ?_
            rintro e w7 ⟨rfl, hb7⟩
            have hB7 := hB6.trans (hb7.mono hB6.size)
            clear hb7 hB6
            go_wp2
            go_ret
            exact ⟨rfl, hB7⟩
    · have hni : ¬ (k : Int) < (L.length : Int) := by omega
      clear hlt
      have HB : Hid (Below w.heap.size w wr) := hB
      have HAL := all16_any HT.out.t
      clear hB
      go_wp2_with fail
      clear hni
      refine HAL.mono ?_
      rintro e w5 ⟨u, rfl, hu, hb5⟩
      have HLD : Hid (Calls Try.prog 14 #[u] w5 fun e w' => ∃ Gx bx vx, e = .returned (.tuple #[.pointer (some ⟨Gx, 0, none⟩), .int .i64 0]) ∧ LeT w' w5.heap.size Gx bx vx l ∧ Below w5.heap.size w5 w') := (load16_any hu.lies).mono (fun e w' ⟨h1, h2⟩ => by
        rcases h1 with ⟨_, Gx, bx, vx, h3, h4⟩ | ⟨h3, _⟩
        · exact ⟨Gx, bx, vx, h3, h4, h2⟩
        · rw [can_of_ok HT.out.t.ok] at h3; cases h3)
      have HT5 : Hid (TT w5 LO G b G' v v2 l l) := HT.out.after hb5 (Nat.le_refl _)
      have HB5 : Hid (Below w.heap.size w w5) := HB.out.trans (hb5.mono HB.out.size)
      clear hu hb5 HAL HB HT
      go_wp2_with fail
      refine HLD.out.mono ?_
      rintro e w6 ⟨Gx, bx, vx, rfl, hX6, hb6⟩
      have HT6 : Hid (T3 w6 LO Gx bx G' G b vx v2 v l) := by
        have h5 := HT5.out
        have h6 := h5.after hb6 (Nat.le_refl _)
        refine ⟨⟨hX6.mono h5.lo, h6.r, fun q hq hr => ?_, h6.lo⟩, h6.t, fun q hq e => ?_⟩
        · have h1 := hX6.ge q hq
          have h2 := h5.r.lt q hr
          omega
        · rcases e with e | e
          · have h1 := hX6.ge q e
            have h2 := h5.t.lt q hq
            omega
          · exact h5.ap q hq e
      have hB6 : Below w.heap.size w w6 := HB5.out.trans (hb6.mono HB5.out.size)
      clear hX6 hb6 HT5 HB5 HLD
      go_wp2_with fail
      go_loopw [11] (fun i wr => ∃ (k : Nat) (vx vr v : Value) (l : List LE), i = .int .i64 (k : Int) ∧ k ≤ M.length ∧ k ≤ 100 ∧ Below w.heap.size w wr ∧ Hid (T3 wr LO Gx bx G' G b vx vr v l)) (fun i _ => 100 - (Go.RowKit.intOf i).toNat)
      case atStart => exact ⟨0, _, _, _, _, rfl, Nat.zero_le _, Nat.zero_le _, hB6, HT6.out⟩
      case round =>
        clear hB6 HT6
        obtain ⟨k, vx, vr, v, l, rfl, hk, hk100, hB, HT⟩ := hrel
        by_cases hlt : k < M.length
        · by_cases h100 : k < 100
          · obtain ⟨bd, off, c', hxx, hr⟩ := steps_at HY.out hlt
            cases hxx
            have hgd := HY.out.2 M[k] (List.getElem_mem hlt)
            obtain ⟨k0, k1, k2, k3⟩ := hr wr hB
            generalize M[k] = s at *
            have HGD : Hid (s.good) := hgd
            have HCL : Hid (∀ V, Below w.heap.size w V → V.cell? ⟨bd, off + k * 4, none⟩ = some (.int .i64 s.o) ∧ V.cell? ⟨bd, off + k * 4 + 1, none⟩ = some (.int .i64 s.n) ∧ V.cell? ⟨bd, off + k * 4 + 2, none⟩ = some (.int .i64 s.t) ∧ V.cell? ⟨bd, off + k * 4 + 3, none⟩ = some (.int .i64 s.f)) := hr
            have HST : Hid (Calls Try.prog 11 #[.pointer (some ⟨Gx, 0, none⟩), .pointer (some ⟨G', 0, none⟩), spV s] wr fun e w' => PostS wr LO Gx bx G' vx vr l l (doT l s) (doT l s) e w') := step16_any HT.out.tt s hgd
            obtain ⟨so, sn, st, sf⟩ := s
            unfold spV spL at HST
            dsimp only at HST k0 k1 k2 k3
            have ix := fun w => index_s16 bd off M.length cy k w hlt
            have HB : Hid (Below w.heap.size w wr) := hB
            clear hr hgd hB
            go_wp2_with fail
            refine HST.out.mono ?_
            rintro e w4 ⟨bb, rfl, hbb, hP⟩
            obtain rfl : bb = true := hbb rfl
            obtain ⟨v1, v2', q1, q2, q3, q4⟩ := HT.out.first hP
            have HB4 : Hid (Below w.heap.size w w4) := HB.out.trans (q4.below (fun q e => by
              have := HS.out
              rcases e with e | e
              · have := HT.out.tt.t.ge q e; omega
              · have := HT.out.tt.r.ge q e; omega) HB.out.size)
            have HQ : Hid (TT w4 LO Gx bx G' v1 v2' (doT l ⟨so, sn, st, sf⟩) (doT l ⟨so, sn, st, sf⟩) ∧ LeT w4 LO G b v l ∧ ∀ q, LeM G b v q → ¬ (LeM Gx bx v1 q ∨ RfM G' v2' q)) := ⟨q1, q2, q3⟩
            have HSQ : Hid (Calls Try.prog 11 #[.pointer (some ⟨G, 0, none⟩), .pointer (some ⟨w4.heap.size, 0, none⟩), .agg #[.int .i64 so, .int .i64 sn, .int .i64 st, .int .i64 sf]] (w4.alloc (.cells #[.slice none 0 0] 29)) fun e w' => PostS (w4.alloc (.cells #[.slice none 0 0] 29)) LO G b w4.heap.size v (.slice none 0 0) l [] (doT l ⟨so, sn, st, sf⟩) (doT [] ⟨so, sn, st, sf⟩) e w') := step16_any (t_fresh q2 q1.lo) ⟨so, sn, st, sf⟩ HGD.out
            obtain ⟨j0, j1, j2, j3⟩ := HCL.out (w4.alloc (.cells #[.slice none 0 0] 29)) (low_new HB4.out _)
            clear q1 q2 q3 q4 hP hbb HST k0 k1 k2 k3 HB
            go_wp2_with fail
            refine HSQ.out.mono ?_
            rintro e w5 ⟨b2, rfl, _, hP2⟩
            obtain ⟨v3, hT5, hb5⟩ := T3.next HQ.out.1 HQ.out.2.1 HQ.out.2.2 rfl hP2
            have HF : Hid (T3 w5 LO Gx bx G' G b v1 v2' v3 (doT l ⟨so, sn, st, sf⟩) ∧ Below w.heap.size w w5) := ⟨hT5, HB4.out.trans (hb5.mono HS.out)⟩
            clear hT5 hb5 hP2 HSQ j0 j1 j2 j3 HQ HB4 HT
            go_wp2
            go_roundw
            case rel => exact ⟨k + 1, _, _, v3, _, by go_num, hlt, h100, HF.out.2, HF.out.1⟩
            case measure => simp [Go.RowKit.intOf]; omega
          · have hni : ¬ (k : Int) < 100 := by omega
            clear h100
            have HB : Hid (Below w.heap.size w wr) := hB
            have HAL := all16_any HT.out.tt.t
            clear hB
            go_wp2_with fail
            refine HAL.mono ?_
            rintro e w5 ⟨u, rfl, hu, hb5⟩
            have HU : Hid (LeR w5 wr.heap.size u l) := hu
            have HB5 : Hid (Below w.heap.size w w5) := HB.out.trans (hb5.mono HB.out.size)
            have HA2 := all16_any (HT.out.t.after hb5 (Nat.le_refl _))
            clear hu hb5 HAL HB
            go_wp2_with fail
            refine HA2.mono ?_
            rintro e w6 ⟨u2, rfl, hu2, hb6⟩
            have HSM : Hid (Calls Try.prog 12 #[u, u2] w6 fun e w' => e = .returned (.bool true) ∧ Below w6.heap.size w6 w') := by
              have := same16_any (HU.out.after hb6 (Nat.le_refl _)).lies hu2.lies
              rw [decide_eq_true rfl] at this
              exact this
            have hB6 : Below w.heap.size w w6 := HB5.out.trans (hb6.mono HB5.out.size)
            clear hu2 hb6 HA2
            go_wp2_with fail
            refine HSM.out.mono ?_
            rintro e w7 ⟨rfl, hb7⟩
            have hB7 := hB6.trans (hb7.mono hB6.size)
            clear hb7 hB6
            go_wp2
            go_ret
            exact ⟨rfl, hB7⟩
        · have hni : ¬ (k : Int) < (M.length : Int) := by omega
          clear hlt
          have HB : Hid (Below w.heap.size w wr) := hB
          have HAL := all16_any HT.out.tt.t
          clear hB
          go_wp2_with fail
          refine HAL.mono ?_
          rintro e w5 ⟨u, rfl, hu, hb5⟩
          have HU : Hid (LeR w5 wr.heap.size u l) := hu
          have HB5 : Hid (Below w.heap.size w w5) := HB.out.trans (hb5.mono HB.out.size)
          have HA2 := all16_any (HT.out.t.after hb5 (Nat.le_refl _))
          clear hu hb5 HAL HB
          go_wp2_with fail
          refine HA2.mono ?_
          rintro e w6 ⟨u2, rfl, hu2, hb6⟩
          have HSM : Hid (Calls Try.prog 12 #[u, u2] w6 fun e w' => e = .returned (.bool true) ∧ Below w6.heap.size w6 w') := by
            have := same16_any (HU.out.after hb6 (Nat.le_refl _)).lies hu2.lies
            rw [decide_eq_true rfl] at this
            exact this
          have hB6 : Below w.heap.size w w6 := HB5.out.trans (hb6.mono HB5.out.size)
          clear hu2 hb6 HA2
          go_wp2_with fail
          refine HSM.out.mono ?_
          rintro e w7 ⟨rfl, hb7⟩
          have hB7 := hB6.trans (hb7.mono hB6.size)
          clear hb7 hB6
          go_wp2
          go_ret
          exact ⟨rfl, hB7⟩
end Go.Proofs.Ythlohlomefiebaa
