/-
  What is proved here: a step at a table of the program's and one of the document's.
  Conditions: both lie in memory, apart from each other; the step's number is an int.
-/
import Derived.Test.YthlohlomefiebaaLeBoth
import Derived.BigQuiet
import Derived.Deep.QuietTactic
namespace Go.Proofs.Ythlohlomefiebaa
open Go.RowKit Go.Maps

theorem PostP.keep {W w2 : World} {lo G b : Nat} {v : Value} {l2 : List LE} (h : PostP W lo G b v l2 w2) {q : Nat} {t : TypeId} {cs : Array Value} (hk : Blk W q t cs) (hq : ¬ LeM G b v q) : Blk w2 q t cs := by
  obtain ⟨v1, _, _, hc⟩ := h
  exact hk.chg hc hq
theorem PostR.keep {W w2 : World} {lo G : Nat} {v : Value} {l2 : List LE} (h : PostR W lo G v l2 w2) {q : Nat} {t : TypeId} {cs : Array Value} (hk : Blk W q t cs) (hq : ¬ RfM G v q) : Blk w2 q t cs := by
  obtain ⟨v1, _, _, hc⟩ := h
  exact hk.chg hc hq
theorem PostP.size {W w2 : World} {lo G b : Nat} {v : Value} {l2 : List LE} (h : PostP W lo G b v l2 w2) : W.heap.size ≤ w2.heap.size := by
  obtain ⟨v1, _, _, hc⟩ := h
  exact hc.size
/-- What a step does to both, and what it tells. -/
def PostS (w : World) (lo G b G' : Nat) (v v' : Value) (l lr l2 lr2 : List LE) (e : Ending) (w' : World) : Prop := ∃ bb, e = .returned (.bool bb) ∧ (l = lr → bb = true) ∧ PostB w lo G b G' v v' l2 lr2 w'
theorem postS {w : World} {lo G b G' : Nat} {v v' : Value} {l lr l2 lr2 : List LE} {e : Ending} {w' : World} (bb : Bool) (h1 : e = .returned (.bool bb)) (h2 : l = lr → bb = true) (h3 : PostB w lo G b G' v v' l2 lr2 w') : PostS w lo G b G' v v' l lr l2 lr2 e w' := ⟨bb, h1, h2, h3⟩
set_option maxRecDepth 100000 in
set_option maxHeartbeats 4000000 in
theorem step_grant {w : World} {lo G b G' : Nat} {v v' : Value} {l lr : List LE} (h : TT w lo G b G' v v' l lr) (so sn st sf : Int) (hg : -9223372036854775808 ≤ sn ∧ sn ≤ 9223372036854775807) (ho : so = 0) : Calls Try.prog 11 #[.pointer (some ⟨G, 0, none⟩), .pointer (some ⟨G', 0, none⟩), spV ⟨so, sn, st, sf⟩] w fun e w' => PostS w lo G b G' v v' l lr (doT l ⟨so, sn, st, sf⟩) (doT lr ⟨so, sn, st, sf⟩) e w' := by
  have hdo : ∀ x, doT x ⟨so, sn, st, sf⟩ = (grantT x sn st sf).2 := fun x => by
    unfold doT
    dsimp only
    rw [if_pos ho]
  rw [hdo, hdo]
  clear hdo
  have d0 : (so == 0) = true := beq_iff_eq.2 ho
  have hB0 := below_newE w (.cells #[.int .i64 so, .int .i64 sn, .int .i64 st, .int .i64 sf] 32)
  have HTT : Hid (TT w lo G b G' v v' l lr) := h
  have HB0 : Hid (Below w.heap.size w (w.alloc (.cells #[.int .i64 so, .int .i64 sn, .int .i64 st, .int .i64 sf] 32))) := hB0
  have HKS : Hid (Blk (w.alloc (.cells #[.int .i64 so, .int .i64 sn, .int .i64 st, .int .i64 sf] 32)) w.heap.size 32 #[.int .i64 so, .int .i64 sn, .int .i64 st, .int .i64 sf]) := Blk.new w 32 _
  have HN : Hid ((∀ q, w.heap.size ≤ q → ¬ LeM G b v q) ∧ ∀ q, w.heap.size ≤ q → ¬ RfM G' v' q) := ⟨fun q hq => h.t.fresh hq, fun q hq => h.r.fresh hq⟩
  have hT0 := (h.after hB0 (Nat.le_refl _)).t
  have hlo0 := (h.after hB0 (Nat.le_refl _)).lo
  obtain ⟨x, hx⟩ : ∃ x, x = (fun l => (grantT l sn st sf).1.1) l := ⟨_, rfl⟩
  obtain ⟨xe, hxe⟩ : ∃ x, x = (fun l => (grantT l sn st sf).1.2) l := ⟨_, rfl⟩
  obtain ⟨y, hy⟩ : ∃ x, x = (fun l => (grantT l sn st sf).1.1) lr := ⟨_, rfl⟩
  obtain ⟨ye, hye⟩ : ∃ x, x = (fun l => (grantT l sn st sf).1.2) lr := ⟨_, rfl⟩
  have HEX : Hid (l = lr → x = y ∧ xe = ye) := fun e => by rw [hx, hxe, hy, hye, e]; exact ⟨rfl, rfl⟩
  have HP : Hid (Calls Try.prog 16 #[.pointer (some ⟨G, 0, none⟩), .int .i64 sn, .int .i64 st, .int .i64 sf] (w.alloc (.cells #[.int .i64 so, .int .i64 sn, .int .i64 st, .int .i64 sf] 32)) fun e w' => e = .returned (.tuple #[leV x, .int .i64 xe]) ∧ PostP (w.alloc (.cells #[.int .i64 so, .int .i64 sn, .int .i64 st, .int .i64 sf] 32)) lo G b v ((fun l => (grantT l sn st sf).2) l) w') := by rw [hx, hxe]; exact grantP hT0 hlo0 sn st sf hg.1 hg.2
  have HR : Hid (∀ W, Mid w W lo G b G' v v' ((fun l => (grantT l sn st sf).2) l) lr → Calls Try.prog 22 #[.pointer (some ⟨G', 0, none⟩), .int .i64 sn, .int .i64 st, .int .i64 sf] W fun e w' => e = .returned (.tuple #[leV y, .int .i64 ye]) ∧ PostR W lo G' v' ((fun l => (grantT l sn st sf).2) lr) w') := fun W hM => by rw [hy, hye]; exact rgrantP hM.ref.1 hM.ref.2 sn st sf
  have hee : ∀ w, (binOp .eql 43 (.agg #[.int .i64 x.n, .int .i64 x.d, .int .i64 x.u]) (.agg #[.int .i64 y.n, .int .i64 y.d, .int .i64 y.u])).run Try.prog w = .ok (.bool (decide (x = y))) w := fun w => eql_le x y w
  have HDE : Hid (decide (x = y) = true → x = y) := fun h => of_decide_eq_true h
  have HDT : Hid (l = lr → decide (x = y) = true) := fun h => decide_eq_true (HEX.out h).1
  generalize decide (x = y) = B at *
  clear h hT0 hlo0 hB0 hg ho hx hxe hy hye
  unfold spV spL
  dsimp only
  go_enter Try.func11, Try.ntmps11
  go_wp2_with fail
  refine HP.out.mono ?_
  rintro e w2 ⟨rfl, hP⟩
  obtain ⟨xn, xd, xu⟩ := x
  obtain ⟨yn, yd, yu⟩ := y
  dsimp only at hee
  unfold leV leL
  dsimp only
  have HM : Hid (Mid w (w2.alloc (.cells #[.int .i64 xn, .int .i64 xd, .int .i64 xu] 43)) lo G b G' v v' ((fun l => (grantT l sn st sf).2) l) lr) := mid_of HTT.out HB0.out hP (below_newE w2 _)
  have kS2 := (hP.keep HKS.out (HN.out.1 _ (Nat.le_refl _)))
  have kS := kS2.below (below_newE w2 (.cells #[.int .i64 xn, .int .i64 xd, .int .i64 xu] 43)) kS2.lt
  have HX : Hid (Blk (w2.alloc (.cells #[.int .i64 xn, .int .i64 xd, .int .i64 xu] 43)) w2.heap.size 43 #[.int .i64 xn, .int .i64 xd, .int .i64 xu] ∧ w.heap.size ≤ w2.heap.size) := ⟨Blk.new w2 43 _, by have h1 := HB0.out.size; have h2 := hP.size; omega⟩
  have s1 : (w2.alloc (.cells #[.int .i64 xn, .int .i64 xd, .int .i64 xu] 43)).cell? ⟨w.heap.size, 1, none⟩ = some (.int .i64 sn) := kS.cell (j := 1) rfl
  have s2 : (w2.alloc (.cells #[.int .i64 xn, .int .i64 xd, .int .i64 xu] 43)).cell? ⟨w.heap.size, 2, none⟩ = some (.int .i64 st) := kS.cell (j := 2) rfl
  have s3 : (w2.alloc (.cells #[.int .i64 xn, .int .i64 xd, .int .i64 xu] 43)).cell? ⟨w.heap.size, 3, none⟩ = some (.int .i64 sf) := kS.cell (j := 3) rfl
  clear kS kS2 hP
  go_wp2_with fail
  refine (HR.out _ HM.out).mono ?_
  rintro e w3 ⟨rfl, hR⟩
  unfold leV leL
  dsimp only
  have HF : Hid (PostB w lo G b G' v v' ((fun l => (grantT l sn st sf).2) l) ((fun l => (grantT l sn st sf).2) lr) (w3.alloc (.cells #[.int .i64 yn, .int .i64 yd, .int .i64 yu] 43))) := end_of HM.out hR (below_newE w3 _)
  have kX2 := hR.keep HX.out.1 (HN.out.2 _ HX.out.2)
  have kX := kX2.below (below_newE w3 (.cells #[.int .i64 yn, .int .i64 yd, .int .i64 yu] 43)) kX2.lt
  have x0 : (w3.alloc (.cells #[.int .i64 yn, .int .i64 yd, .int .i64 yu] 43)).cell? ⟨w2.heap.size, 0, none⟩ = some (.int .i64 xn) := kX.cell (j := 0) rfl
  have x1 : (w3.alloc (.cells #[.int .i64 yn, .int .i64 yd, .int .i64 yu] 43)).cell? ⟨w2.heap.size, 1, none⟩ = some (.int .i64 xd) := kX.cell (j := 1) rfl
  have x2 : (w3.alloc (.cells #[.int .i64 yn, .int .i64 yd, .int .i64 yu] 43)).cell? ⟨w2.heap.size, 2, none⟩ = some (.int .i64 xu) := kX.cell (j := 2) rfl
  clear kX kX2 hR s1 s2 s3
  cases B with
  | true =>
    go_wp2
    go_ret
    exact postS _ rfl (fun hl => by rw [(HEX.out hl).2]; simp) HF.out
  | false =>
    go_wp2
    go_ret
    exact postS _ rfl (fun hl => absurd (HDT.out hl) (by decide)) HF.out
set_option maxRecDepth 100000 in
set_option maxHeartbeats 4000000 in
theorem step_renew {w : World} {lo G b G' : Nat} {v v' : Value} {l lr : List LE} (h : TT w lo G b G' v v' l lr) (so sn st sf : Int) (_hg : -9223372036854775808 ≤ sn ∧ sn ≤ 9223372036854775807) (ho : so = 1) : Calls Try.prog 11 #[.pointer (some ⟨G, 0, none⟩), .pointer (some ⟨G', 0, none⟩), spV ⟨so, sn, st, sf⟩] w fun e w' => PostS w lo G b G' v v' l lr (doT l ⟨so, sn, st, sf⟩) (doT lr ⟨so, sn, st, sf⟩) e w' := by
  have hdo : ∀ x, doT x ⟨so, sn, st, sf⟩ = (renewT x sn st sf).2 := fun x => by
    unfold doT
    dsimp only
    rw [if_neg (show ¬ so = 0 by omega), if_pos ho]
  rw [hdo, hdo]
  clear hdo
  have d0 : (so == 0) = false := beq_eq_false_iff_ne.2 (by omega)
  have d1 : (so == 1) = true := beq_iff_eq.2 ho
  have hB0 := below_newE w (.cells #[.int .i64 so, .int .i64 sn, .int .i64 st, .int .i64 sf] 32)
  have HTT : Hid (TT w lo G b G' v v' l lr) := h
  have HB0 : Hid (Below w.heap.size w (w.alloc (.cells #[.int .i64 so, .int .i64 sn, .int .i64 st, .int .i64 sf] 32))) := hB0
  have HKS : Hid (Blk (w.alloc (.cells #[.int .i64 so, .int .i64 sn, .int .i64 st, .int .i64 sf] 32)) w.heap.size 32 #[.int .i64 so, .int .i64 sn, .int .i64 st, .int .i64 sf]) := Blk.new w 32 _
  have HN : Hid ((∀ q, w.heap.size ≤ q → ¬ LeM G b v q) ∧ ∀ q, w.heap.size ≤ q → ¬ RfM G' v' q) := ⟨fun q hq => h.t.fresh hq, fun q hq => h.r.fresh hq⟩
  have hT0 := (h.after hB0 (Nat.le_refl _)).t
  have hlo0 := (h.after hB0 (Nat.le_refl _)).lo
  obtain ⟨x, hx⟩ : ∃ x, x = (fun l => (renewT l sn st sf).1.1) l := ⟨_, rfl⟩
  obtain ⟨xe, hxe⟩ : ∃ x, x = (fun l => (renewT l sn st sf).1.2) l := ⟨_, rfl⟩
  obtain ⟨y, hy⟩ : ∃ x, x = (fun l => (renewT l sn st sf).1.1) lr := ⟨_, rfl⟩
  obtain ⟨ye, hye⟩ : ∃ x, x = (fun l => (renewT l sn st sf).1.2) lr := ⟨_, rfl⟩
  have HEX : Hid (l = lr → x = y ∧ xe = ye) := fun e => by rw [hx, hxe, hy, hye, e]; exact ⟨rfl, rfl⟩
  have HP : Hid (Calls Try.prog 17 #[.pointer (some ⟨G, 0, none⟩), .int .i64 sn, .int .i64 st, .int .i64 sf] (w.alloc (.cells #[.int .i64 so, .int .i64 sn, .int .i64 st, .int .i64 sf] 32)) fun e w' => e = .returned (.tuple #[leV x, .int .i64 xe]) ∧ PostP (w.alloc (.cells #[.int .i64 so, .int .i64 sn, .int .i64 st, .int .i64 sf] 32)) lo G b v ((fun l => (renewT l sn st sf).2) l) w') := by rw [hx, hxe]; exact renewP hT0 sn st sf
  have HR : Hid (∀ W, Mid w W lo G b G' v v' ((fun l => (renewT l sn st sf).2) l) lr → Calls Try.prog 23 #[.pointer (some ⟨G', 0, none⟩), .int .i64 sn, .int .i64 st, .int .i64 sf] W fun e w' => e = .returned (.tuple #[leV y, .int .i64 ye]) ∧ PostR W lo G' v' ((fun l => (renewT l sn st sf).2) lr) w') := fun W hM => by rw [hy, hye]; exact rrenewP hM.ref.1 sn st sf
  have hee : ∀ w, (binOp .eql 43 (.agg #[.int .i64 x.n, .int .i64 x.d, .int .i64 x.u]) (.agg #[.int .i64 y.n, .int .i64 y.d, .int .i64 y.u])).run Try.prog w = .ok (.bool (decide (x = y))) w := fun w => eql_le x y w
  have HDE : Hid (decide (x = y) = true → x = y) := fun h => of_decide_eq_true h
  have HDT : Hid (l = lr → decide (x = y) = true) := fun h => decide_eq_true (HEX.out h).1
  generalize decide (x = y) = B at *
  clear h hT0 hlo0 hB0 _hg ho hx hxe hy hye
  unfold spV spL
  dsimp only
  go_enter Try.func11, Try.ntmps11
  go_wp2_with fail
  refine HP.out.mono ?_
  rintro e w2 ⟨rfl, hP⟩
  obtain ⟨xn, xd, xu⟩ := x
  obtain ⟨yn, yd, yu⟩ := y
  dsimp only at hee
  unfold leV leL
  dsimp only
  have HM : Hid (Mid w (w2.alloc (.cells #[.int .i64 xn, .int .i64 xd, .int .i64 xu] 43)) lo G b G' v v' ((fun l => (renewT l sn st sf).2) l) lr) := mid_of HTT.out HB0.out hP (below_newE w2 _)
  have kS2 := (hP.keep HKS.out (HN.out.1 _ (Nat.le_refl _)))
  have kS := kS2.below (below_newE w2 (.cells #[.int .i64 xn, .int .i64 xd, .int .i64 xu] 43)) kS2.lt
  have HX : Hid (Blk (w2.alloc (.cells #[.int .i64 xn, .int .i64 xd, .int .i64 xu] 43)) w2.heap.size 43 #[.int .i64 xn, .int .i64 xd, .int .i64 xu] ∧ w.heap.size ≤ w2.heap.size) := ⟨Blk.new w2 43 _, by have h1 := HB0.out.size; have h2 := hP.size; omega⟩
  have s1 : (w2.alloc (.cells #[.int .i64 xn, .int .i64 xd, .int .i64 xu] 43)).cell? ⟨w.heap.size, 1, none⟩ = some (.int .i64 sn) := kS.cell (j := 1) rfl
  have s2 : (w2.alloc (.cells #[.int .i64 xn, .int .i64 xd, .int .i64 xu] 43)).cell? ⟨w.heap.size, 2, none⟩ = some (.int .i64 st) := kS.cell (j := 2) rfl
  have s3 : (w2.alloc (.cells #[.int .i64 xn, .int .i64 xd, .int .i64 xu] 43)).cell? ⟨w.heap.size, 3, none⟩ = some (.int .i64 sf) := kS.cell (j := 3) rfl
  clear kS kS2 hP
  go_wp2_with fail
  refine (HR.out _ HM.out).mono ?_
  rintro e w3 ⟨rfl, hR⟩
  unfold leV leL
  dsimp only
  have HF : Hid (PostB w lo G b G' v v' ((fun l => (renewT l sn st sf).2) l) ((fun l => (renewT l sn st sf).2) lr) (w3.alloc (.cells #[.int .i64 yn, .int .i64 yd, .int .i64 yu] 43))) := end_of HM.out hR (below_newE w3 _)
  have kX2 := hR.keep HX.out.1 (HN.out.2 _ HX.out.2)
  have kX := kX2.below (below_newE w3 (.cells #[.int .i64 yn, .int .i64 yd, .int .i64 yu] 43)) kX2.lt
  have x0 : (w3.alloc (.cells #[.int .i64 yn, .int .i64 yd, .int .i64 yu] 43)).cell? ⟨w2.heap.size, 0, none⟩ = some (.int .i64 xn) := kX.cell (j := 0) rfl
  have x1 : (w3.alloc (.cells #[.int .i64 yn, .int .i64 yd, .int .i64 yu] 43)).cell? ⟨w2.heap.size, 1, none⟩ = some (.int .i64 xd) := kX.cell (j := 1) rfl
  have x2 : (w3.alloc (.cells #[.int .i64 yn, .int .i64 yd, .int .i64 yu] 43)).cell? ⟨w2.heap.size, 2, none⟩ = some (.int .i64 xu) := kX.cell (j := 2) rfl
  clear kX kX2 hR s1 s2 s3
  cases B with
  | true =>
    go_wp2
    go_ret
    exact postS _ rfl (fun hl => by rw [(HEX.out hl).2]; simp) HF.out
  | false =>
    go_wp2
    go_ret
    exact postS _ rfl (fun hl => absurd (HDT.out hl) (by decide)) HF.out
set_option maxRecDepth 100000 in
set_option maxHeartbeats 4000000 in
theorem step_of {w : World} {lo G b G' : Nat} {v v' : Value} {l lr : List LE} (h : TT w lo G b G' v v' l lr) (so sn st sf : Int) (hg : -9223372036854775808 ≤ sn ∧ sn ≤ 9223372036854775807) (ho : so = 4) : Calls Try.prog 11 #[.pointer (some ⟨G, 0, none⟩), .pointer (some ⟨G', 0, none⟩), spV ⟨so, sn, st, sf⟩] w fun e w' => PostS w lo G b G' v v' l lr (doT l ⟨so, sn, st, sf⟩) (doT lr ⟨so, sn, st, sf⟩) e w' := by
  have hdo : ∀ x, doT x ⟨so, sn, st, sf⟩ = x := fun x => by
    unfold doT
    dsimp only
    rw [if_neg (show ¬ so = 0 by omega), if_neg (show ¬ so = 1 by omega), if_neg (show ¬ so = 2 by omega), if_neg (show ¬ so = 3 by omega)]
  rw [hdo, hdo]
  clear hdo
  have d0 : (so == 0) = false := beq_eq_false_iff_ne.2 (by omega)
  have d1 : (so == 1) = false := beq_eq_false_iff_ne.2 (by omega)
  have d2 : (so == 2) = false := beq_eq_false_iff_ne.2 (by omega)
  have d3 : (so == 3) = false := beq_eq_false_iff_ne.2 (by omega)
  have d4 : (so == 4) = true := beq_iff_eq.2 ho
  have hB0 := below_newE w (.cells #[.int .i64 so, .int .i64 sn, .int .i64 st, .int .i64 sf] 32)
  have HTT : Hid (TT w lo G b G' v v' l lr) := h
  have HB0 : Hid (Below w.heap.size w (w.alloc (.cells #[.int .i64 so, .int .i64 sn, .int .i64 st, .int .i64 sf] 32))) := hB0
  have HKS : Hid (Blk (w.alloc (.cells #[.int .i64 so, .int .i64 sn, .int .i64 st, .int .i64 sf] 32)) w.heap.size 32 #[.int .i64 so, .int .i64 sn, .int .i64 st, .int .i64 sf]) := Blk.new w 32 _
  have HN : Hid ((∀ q, w.heap.size ≤ q → ¬ LeM G b v q) ∧ ∀ q, w.heap.size ≤ q → ¬ RfM G' v' q) := ⟨fun q hq => h.t.fresh hq, fun q hq => h.r.fresh hq⟩
  have hT0 := (h.after hB0 (Nat.le_refl _)).t
  have hlo0 := (h.after hB0 (Nat.le_refl _)).lo
  obtain ⟨x, hx⟩ : ∃ x, x = (fun l => (ofT l sn).1) l := ⟨_, rfl⟩
  obtain ⟨xe, hxe⟩ : ∃ x, x = (fun l => (ofT l sn).2) l := ⟨_, rfl⟩
  obtain ⟨y, hy⟩ : ∃ x, x = (fun l => (ofT l sn).1) lr := ⟨_, rfl⟩
  obtain ⟨ye, hye⟩ : ∃ x, x = (fun l => (ofT l sn).2) lr := ⟨_, rfl⟩
  have HEX : Hid (l = lr → x = y ∧ xe = ye) := fun e => by rw [hx, hxe, hy, hye, e]; exact ⟨rfl, rfl⟩
  have HP : Hid (Calls Try.prog 20 #[.pointer (some ⟨G, 0, none⟩), .int .i64 sn] (w.alloc (.cells #[.int .i64 so, .int .i64 sn, .int .i64 st, .int .i64 sf] 32)) fun e w' => e = .returned (.tuple #[leV x, .bool xe]) ∧ PostP (w.alloc (.cells #[.int .i64 so, .int .i64 sn, .int .i64 st, .int .i64 sf] 32)) lo G b v l w') := by rw [hx, hxe]; exact ofP hT0 sn hg.1 hg.2
  have HR : Hid (∀ W, Mid w W lo G b G' v v' l lr → Calls Try.prog 26 #[.pointer (some ⟨G', 0, none⟩), .int .i64 sn] W fun e w' => e = .returned (.tuple #[leV y, .bool ye]) ∧ PostR W lo G' v' (lr) w') := fun W hM => by rw [hy, hye]; exact rofP hM.ref.1 sn
  have hee : ∀ w, (binOp .eql 43 (.agg #[.int .i64 x.n, .int .i64 x.d, .int .i64 x.u]) (.agg #[.int .i64 y.n, .int .i64 y.d, .int .i64 y.u])).run Try.prog w = .ok (.bool (decide (x = y))) w := fun w => eql_le x y w
  have HDE : Hid (decide (x = y) = true → x = y) := fun h => of_decide_eq_true h
  have HDT : Hid (l = lr → decide (x = y) = true) := fun h => decide_eq_true (HEX.out h).1
  generalize decide (x = y) = B at *
  clear h hT0 hlo0 hB0 hg ho hx hxe hy hye
  unfold spV spL
  dsimp only
  go_enter Try.func11, Try.ntmps11
  go_wp2_with fail
  refine HP.out.mono ?_
  rintro e w2 ⟨rfl, hP⟩
  obtain ⟨xn, xd, xu⟩ := x
  obtain ⟨yn, yd, yu⟩ := y
  dsimp only at hee
  unfold leV leL
  dsimp only
  have HM : Hid (Mid w (w2.alloc (.cells #[.int .i64 xn, .int .i64 xd, .int .i64 xu] 43)) lo G b G' v v' l lr) := mid_of HTT.out HB0.out hP (below_newE w2 _)
  have kS2 := (hP.keep HKS.out (HN.out.1 _ (Nat.le_refl _)))
  have kS := kS2.below (below_newE w2 (.cells #[.int .i64 xn, .int .i64 xd, .int .i64 xu] 43)) kS2.lt
  have HX : Hid (Blk (w2.alloc (.cells #[.int .i64 xn, .int .i64 xd, .int .i64 xu] 43)) w2.heap.size 43 #[.int .i64 xn, .int .i64 xd, .int .i64 xu] ∧ w.heap.size ≤ w2.heap.size) := ⟨Blk.new w2 43 _, by have h1 := HB0.out.size; have h2 := hP.size; omega⟩
  have s1 : (w2.alloc (.cells #[.int .i64 xn, .int .i64 xd, .int .i64 xu] 43)).cell? ⟨w.heap.size, 1, none⟩ = some (.int .i64 sn) := kS.cell (j := 1) rfl
  have s2 : (w2.alloc (.cells #[.int .i64 xn, .int .i64 xd, .int .i64 xu] 43)).cell? ⟨w.heap.size, 2, none⟩ = some (.int .i64 st) := kS.cell (j := 2) rfl
  have s3 : (w2.alloc (.cells #[.int .i64 xn, .int .i64 xd, .int .i64 xu] 43)).cell? ⟨w.heap.size, 3, none⟩ = some (.int .i64 sf) := kS.cell (j := 3) rfl
  clear kS kS2 hP
  go_wp2_with fail
  refine (HR.out _ HM.out).mono ?_
  rintro e w3 ⟨rfl, hR⟩
  unfold leV leL
  dsimp only
  have HF : Hid (PostB w lo G b G' v v' l (lr) (w3.alloc (.cells #[.int .i64 yn, .int .i64 yd, .int .i64 yu] 43))) := end_of HM.out hR (below_newE w3 _)
  have kX2 := hR.keep HX.out.1 (HN.out.2 _ HX.out.2)
  have kX := kX2.below (below_newE w3 (.cells #[.int .i64 yn, .int .i64 yd, .int .i64 yu] 43)) kX2.lt
  have x0 : (w3.alloc (.cells #[.int .i64 yn, .int .i64 yd, .int .i64 yu] 43)).cell? ⟨w2.heap.size, 0, none⟩ = some (.int .i64 xn) := kX.cell (j := 0) rfl
  have x1 : (w3.alloc (.cells #[.int .i64 yn, .int .i64 yd, .int .i64 yu] 43)).cell? ⟨w2.heap.size, 1, none⟩ = some (.int .i64 xd) := kX.cell (j := 1) rfl
  have x2 : (w3.alloc (.cells #[.int .i64 yn, .int .i64 yd, .int .i64 yu] 43)).cell? ⟨w2.heap.size, 2, none⟩ = some (.int .i64 xu) := kX.cell (j := 2) rfl
  clear kX kX2 hR s1 s2 s3
  cases B with
  | true =>
    go_wp2
    go_ret
    exact postS _ rfl (fun hl => by rw [(HEX.out hl).2]; simp) HF.out
  | false =>
    go_wp2
    go_ret
    exact postS _ rfl (fun hl => absurd (HDT.out hl) (by decide)) HF.out
set_option maxRecDepth 100000 in
set_option maxHeartbeats 4000000 in
theorem step_at {w : World} {lo G b G' : Nat} {v v' : Value} {l lr : List LE} (h : TT w lo G b G' v v' l lr) (so sn st sf : Int) (_hg : -9223372036854775808 ≤ sn ∧ sn ≤ 9223372036854775807) (ho : so ≠ 0 ∧ so ≠ 1 ∧ so ≠ 2 ∧ so ≠ 3 ∧ so ≠ 4) : Calls Try.prog 11 #[.pointer (some ⟨G, 0, none⟩), .pointer (some ⟨G', 0, none⟩), spV ⟨so, sn, st, sf⟩] w fun e w' => PostS w lo G b G' v v' l lr (doT l ⟨so, sn, st, sf⟩) (doT lr ⟨so, sn, st, sf⟩) e w' := by
  have hdo : ∀ x, doT x ⟨so, sn, st, sf⟩ = x := fun x => by
    unfold doT
    dsimp only
    rw [if_neg (show ¬ so = 0 by omega), if_neg (show ¬ so = 1 by omega), if_neg (show ¬ so = 2 by omega), if_neg (show ¬ so = 3 by omega)]
  rw [hdo, hdo]
  clear hdo
  have d0 : (so == 0) = false := beq_eq_false_iff_ne.2 (by omega)
  have d1 : (so == 1) = false := beq_eq_false_iff_ne.2 (by omega)
  have d2 : (so == 2) = false := beq_eq_false_iff_ne.2 (by omega)
  have d3 : (so == 3) = false := beq_eq_false_iff_ne.2 (by omega)
  have d4 : (so == 4) = false := beq_eq_false_iff_ne.2 (by omega)
  have hB0 := below_newE w (.cells #[.int .i64 so, .int .i64 sn, .int .i64 st, .int .i64 sf] 32)
  have HTT : Hid (TT w lo G b G' v v' l lr) := h
  have HB0 : Hid (Below w.heap.size w (w.alloc (.cells #[.int .i64 so, .int .i64 sn, .int .i64 st, .int .i64 sf] 32))) := hB0
  have HKS : Hid (Blk (w.alloc (.cells #[.int .i64 so, .int .i64 sn, .int .i64 st, .int .i64 sf] 32)) w.heap.size 32 #[.int .i64 so, .int .i64 sn, .int .i64 st, .int .i64 sf]) := Blk.new w 32 _
  have HN : Hid ((∀ q, w.heap.size ≤ q → ¬ LeM G b v q) ∧ ∀ q, w.heap.size ≤ q → ¬ RfM G' v' q) := ⟨fun q hq => h.t.fresh hq, fun q hq => h.r.fresh hq⟩
  have hT0 := (h.after hB0 (Nat.le_refl _)).t
  have hlo0 := (h.after hB0 (Nat.le_refl _)).lo
  obtain ⟨x, hx⟩ : ∃ x, x = (fun l => (ansAt l sn).1) l := ⟨_, rfl⟩
  obtain ⟨xe, hxe⟩ : ∃ x, x = (fun l => (ansAt l sn).2) l := ⟨_, rfl⟩
  obtain ⟨y, hy⟩ : ∃ x, x = (fun l => (ansAt l sn).1) lr := ⟨_, rfl⟩
  obtain ⟨ye, hye⟩ : ∃ x, x = (fun l => (ansAt l sn).2) lr := ⟨_, rfl⟩
  have HEX : Hid (l = lr → x = y ∧ xe = ye) := fun e => by rw [hx, hxe, hy, hye, e]; exact ⟨rfl, rfl⟩
  have HP : Hid (Calls Try.prog 21 #[.pointer (some ⟨G, 0, none⟩), .int .i64 sn] (w.alloc (.cells #[.int .i64 so, .int .i64 sn, .int .i64 st, .int .i64 sf] 32)) fun e w' => e = .returned (.tuple #[leV x, .int .i64 xe]) ∧ PostP (w.alloc (.cells #[.int .i64 so, .int .i64 sn, .int .i64 st, .int .i64 sf] 32)) lo G b v l w') := by rw [hx, hxe]; exact atP hT0 sn
  have HR : Hid (∀ W, Mid w W lo G b G' v v' l lr → Calls Try.prog 27 #[.pointer (some ⟨G', 0, none⟩), .int .i64 sn] W fun e w' => e = .returned (.tuple #[leV y, .int .i64 ye]) ∧ PostR W lo G' v' (lr) w') := fun W hM => by rw [hy, hye]; exact ratP hM.ref.1 sn
  have hee : ∀ w, (binOp .eql 43 (.agg #[.int .i64 x.n, .int .i64 x.d, .int .i64 x.u]) (.agg #[.int .i64 y.n, .int .i64 y.d, .int .i64 y.u])).run Try.prog w = .ok (.bool (decide (x = y))) w := fun w => eql_le x y w
  have HDE : Hid (decide (x = y) = true → x = y) := fun h => of_decide_eq_true h
  have HDT : Hid (l = lr → decide (x = y) = true) := fun h => decide_eq_true (HEX.out h).1
  generalize decide (x = y) = B at *
  clear h hT0 hlo0 hB0 _hg ho hx hxe hy hye
  unfold spV spL
  dsimp only
  go_enter Try.func11, Try.ntmps11
  go_wp2_with fail
  refine HP.out.mono ?_
  rintro e w2 ⟨rfl, hP⟩
  obtain ⟨xn, xd, xu⟩ := x
  obtain ⟨yn, yd, yu⟩ := y
  dsimp only at hee
  unfold leV leL
  dsimp only
  have HM : Hid (Mid w (w2.alloc (.cells #[.int .i64 xn, .int .i64 xd, .int .i64 xu] 43)) lo G b G' v v' l lr) := mid_of HTT.out HB0.out hP (below_newE w2 _)
  have kS2 := (hP.keep HKS.out (HN.out.1 _ (Nat.le_refl _)))
  have kS := kS2.below (below_newE w2 (.cells #[.int .i64 xn, .int .i64 xd, .int .i64 xu] 43)) kS2.lt
  have HX : Hid (Blk (w2.alloc (.cells #[.int .i64 xn, .int .i64 xd, .int .i64 xu] 43)) w2.heap.size 43 #[.int .i64 xn, .int .i64 xd, .int .i64 xu] ∧ w.heap.size ≤ w2.heap.size) := ⟨Blk.new w2 43 _, by have h1 := HB0.out.size; have h2 := hP.size; omega⟩
  have s1 : (w2.alloc (.cells #[.int .i64 xn, .int .i64 xd, .int .i64 xu] 43)).cell? ⟨w.heap.size, 1, none⟩ = some (.int .i64 sn) := kS.cell (j := 1) rfl
  have s2 : (w2.alloc (.cells #[.int .i64 xn, .int .i64 xd, .int .i64 xu] 43)).cell? ⟨w.heap.size, 2, none⟩ = some (.int .i64 st) := kS.cell (j := 2) rfl
  have s3 : (w2.alloc (.cells #[.int .i64 xn, .int .i64 xd, .int .i64 xu] 43)).cell? ⟨w.heap.size, 3, none⟩ = some (.int .i64 sf) := kS.cell (j := 3) rfl
  clear kS kS2 hP
  go_wp2_with fail
  refine (HR.out _ HM.out).mono ?_
  rintro e w3 ⟨rfl, hR⟩
  unfold leV leL
  dsimp only
  have HF : Hid (PostB w lo G b G' v v' l (lr) (w3.alloc (.cells #[.int .i64 yn, .int .i64 yd, .int .i64 yu] 43))) := end_of HM.out hR (below_newE w3 _)
  have kX2 := hR.keep HX.out.1 (HN.out.2 _ HX.out.2)
  have kX := kX2.below (below_newE w3 (.cells #[.int .i64 yn, .int .i64 yd, .int .i64 yu] 43)) kX2.lt
  have x0 : (w3.alloc (.cells #[.int .i64 yn, .int .i64 yd, .int .i64 yu] 43)).cell? ⟨w2.heap.size, 0, none⟩ = some (.int .i64 xn) := kX.cell (j := 0) rfl
  have x1 : (w3.alloc (.cells #[.int .i64 yn, .int .i64 yd, .int .i64 yu] 43)).cell? ⟨w2.heap.size, 1, none⟩ = some (.int .i64 xd) := kX.cell (j := 1) rfl
  have x2 : (w3.alloc (.cells #[.int .i64 yn, .int .i64 yd, .int .i64 yu] 43)).cell? ⟨w2.heap.size, 2, none⟩ = some (.int .i64 xu) := kX.cell (j := 2) rfl
  clear kX kX2 hR s1 s2 s3
  cases B with
  | true =>
    go_wp2
    go_ret
    exact postS _ rfl (fun hl => by rw [(HEX.out hl).2]; simp) HF.out
  | false =>
    go_wp2
    go_ret
    exact postS _ rfl (fun hl => absurd (HDT.out hl) (by decide)) HF.out
set_option maxRecDepth 100000 in
set_option maxHeartbeats 4000000 in
theorem step_end {w : World} {lo G b G' : Nat} {v v' : Value} {l lr : List LE} (h : TT w lo G b G' v v' l lr) (so sn st sf : Int) (_hg : -9223372036854775808 ≤ sn ∧ sn ≤ 9223372036854775807) (ho : so = 2) : Calls Try.prog 11 #[.pointer (some ⟨G, 0, none⟩), .pointer (some ⟨G', 0, none⟩), spV ⟨so, sn, st, sf⟩] w fun e w' => PostS w lo G b G' v v' l lr (doT l ⟨so, sn, st, sf⟩) (doT lr ⟨so, sn, st, sf⟩) e w' := by
  have hdo : ∀ x, doT x ⟨so, sn, st, sf⟩ = (endT x sn).2 := fun x => by
    unfold doT
    dsimp only
    rw [if_neg (show ¬ so = 0 by omega), if_neg (show ¬ so = 1 by omega), if_pos ho]
  rw [hdo, hdo]
  clear hdo
  have d0 : (so == 0) = false := beq_eq_false_iff_ne.2 (by omega)
  have d1 : (so == 1) = false := beq_eq_false_iff_ne.2 (by omega)
  have d2 : (so == 2) = true := beq_iff_eq.2 ho
  have hB0 := below_newE w (.cells #[.int .i64 so, .int .i64 sn, .int .i64 st, .int .i64 sf] 32)
  have HTT : Hid (TT w lo G b G' v v' l lr) := h
  have HB0 : Hid (Below w.heap.size w (w.alloc (.cells #[.int .i64 so, .int .i64 sn, .int .i64 st, .int .i64 sf] 32))) := hB0
  have HKS : Hid (Blk (w.alloc (.cells #[.int .i64 so, .int .i64 sn, .int .i64 st, .int .i64 sf] 32)) w.heap.size 32 #[.int .i64 so, .int .i64 sn, .int .i64 st, .int .i64 sf]) := Blk.new w 32 _
  have HN : Hid ((∀ q, w.heap.size ≤ q → ¬ LeM G b v q) ∧ ∀ q, w.heap.size ≤ q → ¬ RfM G' v' q) := ⟨fun q hq => h.t.fresh hq, fun q hq => h.r.fresh hq⟩
  have hT0 := (h.after hB0 (Nat.le_refl _)).t
  have hlo0 := (h.after hB0 (Nat.le_refl _)).lo
  have HP : Hid (Calls Try.prog 18 #[.pointer (some ⟨G, 0, none⟩), .int .i64 sn] (w.alloc (.cells #[.int .i64 so, .int .i64 sn, .int .i64 st, .int .i64 sf] 32)) fun e w' => e = .returned (.int .i64 (endT l sn).1) ∧ PostP (w.alloc (.cells #[.int .i64 so, .int .i64 sn, .int .i64 st, .int .i64 sf] 32)) lo G b v (endT l sn).2 w') := endP hT0 sn
  have HR : Hid (∀ W, Mid w W lo G b G' v v' (endT l sn).2 lr → Calls Try.prog 24 #[.pointer (some ⟨G', 0, none⟩), .int .i64 sn] W fun e w' => e = .returned (.int .i64 (endT lr sn).1) ∧ PostR W lo G' v' (endT lr sn).2 w') := fun W hM => rendP hM.ref.1 sn
  have HEX : Hid (l = lr → (endT l sn).1 = (endT lr sn).1) := fun e => by rw [e]
  clear h hT0 hlo0 hB0 _hg ho
  unfold spV spL
  dsimp only
  go_enter Try.func11, Try.ntmps11
  go_wp2_with fail
  refine HP.out.mono ?_
  rintro e w2 ⟨rfl, hP⟩
  have HM : Hid (Mid w w2 lo G b G' v v' (endT l sn).2 lr) := mid_of HTT.out HB0.out hP (Below.refl _ _)
  have kS := (hP.keep HKS.out (HN.out.1 _ (Nat.le_refl _)))
  have s1 : w2.cell? ⟨w.heap.size, 1, none⟩ = some (.int .i64 sn) := kS.cell (j := 1) rfl
  clear kS hP
  generalize (endT l sn).1 = xe at *
  generalize (endT lr sn).1 = ye at *
  go_wp2_with fail
  refine (HR.out _ HM.out).mono ?_
  rintro e w3 ⟨rfl, hR⟩
  have HF : Hid (PostB w lo G b G' v v' (endT l sn).2 (endT lr sn).2 w3) := end_of HM.out hR (Below.refl _ _)
  clear hR s1
  go_wp2
  go_ret
  exact postS _ rfl (fun hl => by rw [HEX.out hl]; simp) HF.out
set_option maxRecDepth 100000 in
set_option maxHeartbeats 4000000 in
theorem step_expire {w : World} {lo G b G' : Nat} {v v' : Value} {l lr : List LE} (h : TT w lo G b G' v v' l lr) (so sn st sf : Int) (_hg : -9223372036854775808 ≤ sn ∧ sn ≤ 9223372036854775807) (ho : so = 3) : Calls Try.prog 11 #[.pointer (some ⟨G, 0, none⟩), .pointer (some ⟨G', 0, none⟩), spV ⟨so, sn, st, sf⟩] w fun e w' => PostS w lo G b G' v v' l lr (doT l ⟨so, sn, st, sf⟩) (doT lr ⟨so, sn, st, sf⟩) e w' := by
  have hdo : ∀ x, doT x ⟨so, sn, st, sf⟩ = (expT x st).2 := fun x => by
    unfold doT
    dsimp only
    rw [if_neg (show ¬ so = 0 by omega), if_neg (show ¬ so = 1 by omega), if_neg (show ¬ so = 2 by omega), if_pos ho]
  rw [hdo, hdo]
  clear hdo
  have d0 : (so == 0) = false := beq_eq_false_iff_ne.2 (by omega)
  have d1 : (so == 1) = false := beq_eq_false_iff_ne.2 (by omega)
  have d2 : (so == 2) = false := beq_eq_false_iff_ne.2 (by omega)
  have d3 : (so == 3) = true := beq_iff_eq.2 ho
  have hB0 := below_newE w (.cells #[.int .i64 so, .int .i64 sn, .int .i64 st, .int .i64 sf] 32)
  have HTT : Hid (TT w lo G b G' v v' l lr) := h
  have HB0 : Hid (Below w.heap.size w (w.alloc (.cells #[.int .i64 so, .int .i64 sn, .int .i64 st, .int .i64 sf] 32))) := hB0
  have HKS : Hid (Blk (w.alloc (.cells #[.int .i64 so, .int .i64 sn, .int .i64 st, .int .i64 sf] 32)) w.heap.size 32 #[.int .i64 so, .int .i64 sn, .int .i64 st, .int .i64 sf]) := Blk.new w 32 _
  have HN : Hid ((∀ q, w.heap.size ≤ q → ¬ LeM G b v q) ∧ ∀ q, w.heap.size ≤ q → ¬ RfM G' v' q) := ⟨fun q hq => h.t.fresh hq, fun q hq => h.r.fresh hq⟩
  have hT0 := (h.after hB0 (Nat.le_refl _)).t
  have hlo0 := (h.after hB0 (Nat.le_refl _)).lo
  obtain ⟨xl, hxl⟩ : ∃ x, x = (expT l st).1.1 := ⟨_, rfl⟩
  obtain ⟨xe, hxe⟩ : ∃ x, x = (expT l st).1.2 := ⟨_, rfl⟩
  obtain ⟨yl, hyl⟩ : ∃ x, x = (expT lr st).1.1 := ⟨_, rfl⟩
  obtain ⟨ye, hye⟩ : ∃ x, x = (expT lr st).1.2 := ⟨_, rfl⟩
  have HEX : Hid (l = lr → xl = yl ∧ xe = ye) := fun e => by rw [hxl, hxe, hyl, hye, e]; exact ⟨rfl, rfl⟩
  have HP : Hid (Calls Try.prog 19 #[.pointer (some ⟨G, 0, none⟩), .int .i64 st] (w.alloc (.cells #[.int .i64 so, .int .i64 sn, .int .i64 st, .int .i64 sf] 32)) fun e w' => ∃ u, e = .returned (.tuple #[u, .int .i64 xe]) ∧ LeR w' (w.alloc (.cells #[.int .i64 so, .int .i64 sn, .int .i64 st, .int .i64 sf] 32)).heap.size u xl ∧ PostP (w.alloc (.cells #[.int .i64 so, .int .i64 sn, .int .i64 st, .int .i64 sf] 32)) lo G b v (expT l st).2 w') := by rw [hxl, hxe]; exact expireP hT0 st
  have HR : Hid (∀ W, Mid w W lo G b G' v v' (expT l st).2 lr → Calls Try.prog 25 #[.pointer (some ⟨G', 0, none⟩), .int .i64 st] W fun e w' => ∃ u, e = .returned (.tuple #[u, .int .i64 ye]) ∧ LeR w' W.heap.size u yl ∧ PostR W lo G' v' (expT lr st).2 w') := fun W hM => by rw [hyl, hye]; exact rexpireP hM.ref.1 st
  have HDT : Hid (l = lr → decide (xl = yl) = true) := fun h => decide_eq_true (HEX.out h).1
  clear h hT0 hlo0 hB0 _hg ho hxl hxe hyl hye
  unfold spV spL
  dsimp only
  go_enter Try.func11, Try.ntmps11
  go_wp2_with fail
  refine HP.out.mono ?_
  rintro e w2 ⟨ux, rfl, hO2, hP⟩
  have HM : Hid (Mid w w2 lo G b G' v v' (expT l st).2 lr) := mid_of HTT.out HB0.out hP (Below.refl _ _)
  have kS := (hP.keep HKS.out (HN.out.1 _ (Nat.le_refl _)))
  have s2 : w2.cell? ⟨w.heap.size, 2, none⟩ = some (.int .i64 st) := kS.cell (j := 2) rfl
  have HO2 : Hid (LeR w2 (w.alloc (.cells #[.int .i64 so, .int .i64 sn, .int .i64 st, .int .i64 sf] 32)).heap.size ux xl) := hO2
  clear kS hP hO2
  go_wp2_with fail
  refine (HR.out _ HM.out).mono ?_
  rintro e w3 ⟨uy, rfl, hO3, hR⟩
  have HF : Hid (PostB w lo G b G' v v' (expT l st).2 (expT lr st).2 w3) := end_of HM.out hR (Below.refl _ _)
  have hO23 : LeIn w3 ux xl := by
    obtain ⟨v1, _, _, hc⟩ := hR
    refine (HO2.out.chg hc (fun q e1 e2 => ?_)).lies
    have h1 := (HO2.out.lt q e1).1
    have h2 := HB0.out.size
    exact HN.out.2 q (by omega) e2
  have HSM := same16_any hO23 hO3.lies
  generalize decide (xl = yl) = B at *
  clear hR s2 hO23 hO3
  go_wp2_with fail
  refine HSM.mono ?_
  rintro e w4 ⟨rfl, hb4⟩
  have HF4 : Hid (PostB w lo G b G' v v' (expT l st).2 (expT lr st).2 w4) := by
    obtain ⟨v1, v2, q1, q2, q3, q4⟩ := HF.out
    exact ⟨v1, v2, q1.after hb4 (Nat.le_refl _), q2, q3, q4.trans (S' := fun _ => False) (Chg.of_below hb4 (Nat.le_refl _)) (fun _ _ e => e.elim)⟩
  clear hb4 HSM
  cases B with
  | true =>
    go_wp2
    go_ret
    exact postS _ rfl (fun hl => by rw [(HEX.out hl).2]; simp) HF4.out
  | false =>
    go_wp2
    go_ret
    exact postS _ rfl (fun hl => absurd (HDT.out hl) (by decide)) HF4.out
theorem step16_any {w : World} {lo G b G' : Nat} {v v' : Value} {l lr : List LE} (h : TT w lo G b G' v v' l lr) (s : SP) (hg : s.good) : Calls Try.prog 11 #[.pointer (some ⟨G, 0, none⟩), .pointer (some ⟨G', 0, none⟩), spV s] w fun e w' => PostS w lo G b G' v v' l lr (doT l s) (doT lr s) e w' := by
  obtain ⟨so, sn, st, sf⟩ := s
  have hg' : -9223372036854775808 ≤ sn ∧ sn ≤ 9223372036854775807 := hg
  by_cases h0 : so = 0
  · exact step_grant h so sn st sf hg' h0
  · by_cases h1 : so = 1
    · exact step_renew h so sn st sf hg' h1
    · by_cases h2 : so = 2
      · exact step_end h so sn st sf hg' h2
      · by_cases h3 : so = 3
        · exact step_expire h so sn st sf hg' h3
        · by_cases h4 : so = 4
          · exact step_of h so sn st sf hg' h4
          · exact step_at h so sn st sf hg' ⟨h0, h1, h2, h3, h4⟩
end Go.Proofs.Ythlohlomefiebaa
