/-
  What is proved here: frame.firstStuffedRun tells the run that stuffed bytes begin with; frame.stuffedRuns brings the runs of stuffed bytes, one behind the other, to whichever loop goes through them.
  Conditions: none.
-/
import Derived.Test.YtchbfhckocfjhaaDoorFrameStuff
namespace Go.Proofs.YtchbfhckocfjhaaDoor
open Go.RowKit
attribute [local go_sem] Oper.semAt_some

theorem slice_midF (ao : Option Addr) (len c lo hi : Nat) (h : lo ≤ hi) (hc : hi ≤ c) (w : World) : (Instr.slice 22 (.slice ao len c) (some (.int .i64 (lo : Int))) (some (.int .i64 (hi : Int))) none).run Tryd.prog w = .ok (.slice (restF ao c lo) (hi - lo) (c - lo)) w := by
  rw [run_slice_lh w 22 ao len c (by rw [elem_bytesF]; exact Tryd.underlying22) .i64 .i64 lo hi (by omega) (by omega) (by omega), elem_bytesF, size_byteF]
  simp only [Result.andThen_ok, sliced, Int.toNat_natCast, restF]
/-- The run that stuffed bytes begin with. -/
def sfirst (l : List UInt8) : Option (List UInt8) := match l with
  | [] => none
  | x :: t => if x = 0 ∨ t.length + 1 < x.toNat ∨ (0 : UInt8) ∈ t.take (x.toNat - 1) then none else some (t.take (x.toNat - 1))
theorem sfirst_cases (x : UInt8) (t : List UInt8) : (x.toNat = 0 → sfirst (x :: t) = none) ∧ (t.length + 1 < x.toNat → sfirst (x :: t) = none) ∧ (0 < x.toNat → x.toNat ≤ t.length + 1 → (0 ≤ Lib.indexByte ((x :: t).take x.toNat) 0 → sfirst (x :: t) = none) ∧ (Lib.indexByte ((x :: t).take x.toNat) 0 < 0 → sfirst (x :: t) = some (((x :: t).take x.toNat).drop 1))) := by
  have hu : sfirst (x :: t) = if x = 0 ∨ t.length + 1 < x.toNat ∨ (0 : UInt8) ∈ t.take (x.toNat - 1) then none else some (t.take (x.toNat - 1)) := rfl
  rw [hu]
  refine ⟨fun h => ?_, fun h => ?_, fun h1 h2 => ?_⟩
  · rw [if_pos (.inl (UInt8.toNat_inj.1 (by simpa using h)))]
  · rw [if_pos (.inr (.inl h))]
  · obtain ⟨k, hk⟩ : ∃ k, x.toNat = k + 1 := ⟨x.toNat - 1, by omega⟩
    have hx : x ≠ 0 := by rintro rfl; simp at h1
    rw [hk, List.take_succ_cons, Nat.add_sub_cancel]
    have key := index_none (x :: t.take k)
    rw [List.mem_cons, not_or] at key
    refine ⟨fun h => ?_, fun h => ?_⟩
    · by_cases hz : (0 : UInt8) ∈ t.take k
      · rw [if_pos (.inr (.inr hz))]
      · have := key.2 ⟨fun e => hx e.symm, hz⟩
        omega
    · have hz := (key.1 h).2
      rw [if_neg]
      · rfl
      · rintro (h3 | h3 | h3)
        · exact hx h3
        · omega
        · exact hz h3

set_option maxRecDepth 100000 in
set_option maxHeartbeats 1000000 in
theorem sfirst_any (v : Value) (bs : List UInt8) (w0 w : World) (h0 : 0 < bs.length) (hm : bs.length ≤ 100000000) (hseg0 : Seg w0 v bs) (hB : Below w0.heap.size w0 w) :
    Calls Tryd.prog 42 #[v] w fun e w' => (match sfirst bs with
      | none => e = .returned (.tuple #[.slice none 0 0, .bool false])
      | some run => ∃ ao c, e = .returned (.tuple #[.slice ao run.length c, .bool true]) ∧ Seg w0 (.slice ao run.length c) run) ∧ w' = w := by
  have hseg := hseg0.below hB (Nat.le_refl _)
  obtain ⟨ao, c, rfl⟩ := hseg.shapeF
  obtain ⟨b, off, rfl, hc, hr, hb⟩ := hseg.formF h0
  obtain ⟨x, t, rfl⟩ : ∃ x t, bs = x :: t := by
    cases bs with
    | nil => simp at h0
    | cons x t => exact ⟨x, t, rfl⟩
  have hcell : w.cell? ⟨b, off, none⟩ = some (.int .u8 (x.toNat : Int)) := by
    have := hr 0 h0
    rw [Nat.add_zero] at this
    exact this
  have hlt := x.toNat_lt
  obtain ⟨f1, f2, f3⟩ := sfirst_cases x t
  have htk := fun h => hseg.takesF x.toNat (by simp only [List.length_cons]; exact h)
  have HI : Hid (x.toNat ≤ t.length + 1 → Calls Tryd.prog 36 #[.slice (some ⟨b, off, none⟩) x.toNat c, .int .u8 0] w fun e w' => e = .returned (.int .i64 (Lib.indexByte ((x :: t).take x.toNat) 0)) ∧ w' = w) := fun h => index_any _ _ w (htk h).1
  have htk0 := fun h => hseg0.takesF x.toNat (by simp only [List.length_cons]; exact h)
  have HM : Hid (0 < x.toNat → x.toNat ≤ t.length + 1 → Seg w0 (.slice (restF (some ⟨b, off, none⟩) c 1) (x.toNat - 1) (c - 1)) (((x :: t).take x.toNat).drop 1) ∧ (((x :: t).take x.toNat).drop 1).length = x.toNat - 1) := fun h1 h2 => ⟨(htk0 h2).1.dropsF 1 h1, by simp; omega⟩
  have L1 : Hid (x.toNat ≤ t.length + 1 → ∀ w, (Instr.slice 22 (.slice (some ⟨b, off, none⟩) (x :: t).length c) none (some (.int .i64 (x.toNat : Int))) none).run Tryd.prog w = .ok (.slice (some ⟨b, off, none⟩) x.toNat c) w) := fun h => slice_toF _ _ c _ (htk h).2
  have L2 : Hid (0 < x.toNat → x.toNat ≤ t.length + 1 → ∀ w, (Instr.slice 22 (.slice (some ⟨b, off, none⟩) (x :: t).length c) (some (.int .i64 1)) (some (.int .i64 (x.toNat : Int))) none).run Tryd.prog w = .ok (.slice (restF (some ⟨b, off, none⟩) c 1) (x.toNat - 1) (c - 1)) w) := fun h1 h2 => slice_midF _ _ c 1 _ h1 (htk h2).2
  generalize ((x :: t).take x.toNat) = tk at *
  generalize hL : (x :: t).length = L at *
  have HLt : Hid (t.length + 1 = L) := by rw [← hL]; rfl
  generalize hS : sfirst (x :: t) = S at *
  have HF : Hid ((x.toNat = 0 → S = none) ∧ (L < x.toNat → S = none) ∧ (0 < x.toNat → x.toNat ≤ L → (0 ≤ Lib.indexByte tk 0 → S = none) ∧ (Lib.indexByte tk 0 < 0 → S = some (tk.drop 1)))) := by
    rw [← HLt.out]; exact ⟨f1, f2, f3⟩
  rw [HLt.out] at HI HM L1 L2
  clear f1 f2 f3 htk htk0 hS hr hseg hseg0
  generalize x.toNat = E at *
  by_cases e0 : E = 0
  · have hS := HF.out.1 e0
    subst hS
    have hz : ((E : Int) == 0) = true := by rw [e0]; rfl
    clear e0 HF HI HM L1 L2
    go_enter Tryd.func42, Tryd.ntmps42
    go_wp2
    go_ret2
    exact ⟨rfl, rfl⟩
  have hz : ((E : Int) == 0) = false := by simp; omega
  by_cases e1 : L < E
  · have hS := HF.out.2.1 e1
    subst hS
    clear HF HI HM L1 L2 e0
    go_enter Tryd.func42, Tryd.ntmps42
    go_wp2
    go_ret2
    exact ⟨rfl, rfl⟩
  have l1 := L1.out (by omega)
  have l2 := L2.out (by omega) (by omega)
  have HC := HI.out (by omega)
  have HG := HF.out.2.2 (by omega) (by omega)
  have HS := HM.out (by omega) (by omega)
  have HI' : Hid (Calls Tryd.prog 36 #[.slice (some ⟨b, off, none⟩) E c, .int .u8 0] w fun e w' => e = .returned (.int .i64 (Lib.indexByte tk 0)) ∧ w' = w) := HC
  have HG' : Hid ((0 ≤ Lib.indexByte tk 0 → S = none) ∧ (Lib.indexByte tk 0 < 0 → S = some (tk.drop 1))) := HG
  have HS' : Hid (Seg w0 (.slice (restF (some ⟨b, off, none⟩) c 1) (E - 1) (c - 1)) (tk.drop 1) ∧ (tk.drop 1).length = E - 1) := HS
  clear HF HI HM L1 L2 e0 HC HG HS
  generalize Lib.indexByte tk 0 = IX at *
  by_cases hix : IX < 0
  · have hS := HG'.out.2 hix
    subst hS
    clear HG'
    go_enter Tryd.func42, Tryd.ntmps42
    go_wp2_with (go_at_call 36; refine HI'.out.mono ?_; rintro e w1 ⟨rfl, rfl⟩)
    go_ret2
    refine ⟨⟨restF (some ⟨b, off, none⟩) c 1, c - 1, ?_, by rw [HS'.out.2]; exact HS'.out.1⟩, rfl⟩
    rw [HS'.out.2]; rfl
  · have hS := HG'.out.1 (by omega)
    subst hS
    clear HG'
    go_enter Tryd.func42, Tryd.ntmps42
    go_wp2_with (go_at_call 36; refine HI'.out.mono ?_; rintro e w1 ⟨rfl, rfl⟩)
    go_ret2
    exact ⟨rfl, rfl⟩

/-- A run of stuffed bytes: a slice and its bytes, and whether it is whole. -/
abbrev SRunT (w0 : World) := { x : (Value × List UInt8) × Bool // Seg w0 x.1.1 x.1.2 ∧ x.1.2.length ≤ 254 }
/-- What runs tell, and whether the last had its nought. -/
def foldP {w0 : World} (ys : List (SRunT w0)) : List UInt8 × Bool := ys.foldl (fun s x => (s.1 ++ x.1.1.2 ++ (if x.1.1.2.length < 254 then [0] else []), decide (x.1.1.2.length < 254))) ([], false)
theorem foldP_snoc {w0 : World} (ys : List (SRunT w0)) (x : SRunT w0) : foldP (ys ++ [x]) = ((foldP ys).1 ++ x.1.1.2 ++ (if x.1.1.2.length < 254 then [0] else []), decide (x.1.1.2.length < 254)) := by
  simp [foldP]
theorem foldP_len {w0 : World} (ys : List (SRunT w0)) : (foldP ys).1.length ≤ 255 * ys.length := by
  obtain ⟨zs, rfl⟩ : ∃ zs, ys = zs.reverse := ⟨ys.reverse, by simp⟩
  induction zs with
  | nil => simp [foldP]
  | cons x t ih =>
    have := x.2.2
    rw [List.length_reverse] at ih
    rw [List.reverse_cons, foldP_snoc]
    simp only [List.length_append, List.length_cons, List.length_nil]
    split
    · simp; omega
    · simp; omega
theorem plainA_none (acc : List UInt8) (e : Bool) (l : List UInt8) (h0 : 0 < l.length) (h : sfirst l = none) : plainA acc e l = none := by
  cases l with
  | nil => simp at h0
  | cons x t =>
    rw [plainA]
    have hu : sfirst (x :: t) = if x = 0 ∨ t.length + 1 < x.toNat ∨ (0 : UInt8) ∈ t.take (x.toNat - 1) then none else some (t.take (x.toNat - 1)) := rfl
    rw [hu] at h
    split at h
    · rename_i hc; rw [if_pos hc]
    · cases h
theorem plainA_some (acc : List UInt8) (e : Bool) (l run : List UInt8) (h : sfirst l = some run) : plainA acc e l = plainA (acc ++ run ++ (if run.length < 254 then [0] else [])) (decide (run.length < 254)) (l.drop (run.length + 1)) ∧ run.length + 1 ≤ l.length ∧ run.length ≤ 254 := by
  cases l with
  | nil => cases h
  | cons x t =>
    have hu : sfirst (x :: t) = if x = 0 ∨ t.length + 1 < x.toNat ∨ (0 : UInt8) ∈ t.take (x.toNat - 1) then none else some (t.take (x.toNat - 1)) := rfl
    rw [hu] at h
    rw [plainA]
    split at h
    · cases h
    rename_i hc
    rw [if_neg hc]
    simp only [not_or] at hc
    have hx : 0 < x.toNat := by
      rcases Nat.eq_zero_or_pos x.toNat with h0 | h0
      · exact absurd (UInt8.toNat_inj.1 (by simpa using h0)) hc.1
      · exact h0
    have hx2 := x.toNat_lt
    have hr := Option.some.inj h
    have hl : run.length = x.toNat - 1 := by rw [← hr]; simp; omega
    rw [hr, hl]
    refine ⟨rfl, by simp; omega, by omega⟩

set_option maxRecDepth 100000 in
theorem sruns_any (ao : Option Addr) (n c : Nat) (w : World) :
    Calls Tryd.prog 38 #[.slice ao n c] w fun e w' => e = .returned (.func (.func 41) #[] #[.pointer (some ⟨w.heap.size, 0, none⟩)]) ∧ w' = w.alloc (.cells #[.slice ao n c] 22) := by
  go_enter Tryd.func38, Tryd.ntmps38
  go_wp2
  go_ret
  exact ⟨rfl, rfl⟩

set_option maxRecDepth 100000 in
set_option maxHeartbeats 2000000 in
theorem sruns1_in (n : Nat) (hn : 1 ≤ n) (l Bn : Nat) (w0 : World) (ao0 : Option Addr) (c0 : Nat) (bs : List UInt8) (hm : bs.length ≤ 1000000) (hseg : Seg w0 (.slice ao0 bs.length c0) bs) (J Jx : List (SRunT w0) → World → Prop)
    (hY : ∀ pre x W, J pre W → pre.length < bs.length → YieldAt Fence.wide (n - 1) Tryd.prog l #[x.1.1.1, .bool x.1.2] W fun e W' =>
      (e = .returned (.bool true) ∧ J (pre ++ [x]) W' ∧ Below w0.heap.size W W') ∨ (e = .returned (.bool false) ∧ Jx (pre ++ [x]) W'))
    (W : World) (hW : Below w0.heap.size w0 W) (hBn : W.cell? ⟨Bn, 0, none⟩ = some (.slice ao0 bs.length c0)) (h0 : J [] W) :
    CallsIn Fence.wide n Tryd.prog 41 #[.func (.yield l) #[] #[], .pointer (some ⟨Bn, 0, none⟩)] W fun e W' => (∃ v, e = .returned v) ∧
      ((∃ ys, ((∀ x ∈ ys, x.1.2 = true) → plainA (foldP ys).1 (foldP ys).2 [] = plainOf bs) ∧ J ys W') ∨ (∃ pre, ((∃ x ∈ pre, x.1.2 = false) → plainOf bs = none) ∧ Jx pre W')) := by
  have hfn : Fence.wide.fn 42 := trivial
  refine callsIn_of_wp Tryd.func41 rfl trivial ?_ rfl
  simp only [Tryd.ntmps41, List.size_toArray, List.length_cons, List.length_nil, Nat.reduceAdd, Nat.reduceSub, Array.replicate_succ, Array.replicate_zero, List.push_toArray, List.append_toArray, List.nil_append, List.cons_append]
  gi_wp2
  gi_loopw [3] (fun rv wr => ∃ (pre : List (SRunT w0)) (ao : Option Addr) (c : Nat) (rest : List UInt8), rv = .slice ao rest.length c ∧ Seg w0 (.slice ao rest.length c) rest ∧ (∀ x ∈ pre, x.1.2 = true) ∧ plainA (foldP pre).1 (foldP pre).2 rest = plainOf bs ∧ pre.length + rest.length ≤ bs.length ∧ Below w0.heap.size w0 wr ∧ J pre wr)
    (fun rv _ => lenOf rv)
  case atStart => exact ⟨[], ao0, c0, bs, rfl, hseg, by simp, rfl, by simp, hW, h0⟩
  case round =>
    obtain ⟨pre, ao, c, rest, rfl, hs, hall, hst, hl, hb, hJ⟩ := hrel
    by_cases hr0 : 0 < rest.length
    · have hc := sfirst_any _ rest w0 wr hr0 (by omega) hs hb
      cases hf : sfirst rest with
      | none =>
        rw [hf] at hc
        dsimp only at hc
        have HC : Hid (Calls Tryd.prog 42 #[.slice ao rest.length c] wr fun e w' => e = .returned (.tuple #[.slice none 0 0, .bool false]) ∧ w' = wr) := hc
        have hno := plainA_none (foldP pre).1 (foldP pre).2 rest hr0 hf
        rw [hst] at hno
        have HN : Hid (plainOf bs = none) := hno
        obtain ⟨X, hX⟩ : ∃ X : SRunT w0, X.1 = ((.slice none 0 0, []), false) := ⟨⟨((.slice none 0 0, []), false), .inl ⟨rfl, none, 0, rfl, fun _ => rfl⟩, by simp⟩, rfl⟩
        obtain ⟨fn, tmps, assign, body, hy, hR⟩ := hY pre X wr hJ (by omega)
        rw [hX] at hy
        dsimp only at hy
        have HXf : Hid (X.1.2 = false) := by rw [hX]; exact rfl
        clear hX hc hf hno hst
        gi_wp2_with (gi_at_call 42; refine (callsIn_wide.2 HC.out).mono ?_; rintro e w1 ⟨rfl, rfl⟩)
        refine hR.mono ?_
        clear hR hy HC
        rintro e W3 (⟨rfl, hJ3, hk3⟩ | ⟨rfl, hJx3⟩)
        · gi_wp2
          refine bodyPost_ret (results_none rfl _ _ _) rfl ?_
          exact ⟨⟨_, rfl⟩, .inl ⟨_, fun ha => absurd (ha X (by simp)) (by rw [HXf.out]; simp), hJ3⟩⟩
        · gi_wp2
          refine bodyPost_ret (results_none rfl _ _ _) rfl ?_
          exact ⟨⟨_, rfl⟩, .inr ⟨_, fun _ => HN.out, hJx3⟩⟩
      | some run =>
        rw [hf] at hc
        dsimp only at hc
        have HC : Hid (Calls Tryd.prog 42 #[.slice ao rest.length c] wr fun e w' => (∃ ao c, e = .returned (.tuple #[.slice ao run.length c, .bool true]) ∧ Seg w0 (.slice ao run.length c) run) ∧ w' = wr) := hc
        obtain ⟨hp, hrl, h254⟩ := plainA_some (foldP pre).1 (foldP pre).2 rest run hf
        rw [hst] at hp
        have l3 : ∀ w, (Instr.slice 22 (.slice ao rest.length c) (some (.int .i64 ((run.length : Int) + 1))) none none).run Tryd.prog w = .ok (.slice (restF ao c (run.length + 1)) (rest.length - (run.length + 1)) (c - (run.length + 1))) w := fun w => by
          have := slice_restF ao rest.length c (run.length + 1) hrl w
          simpa using this
        have hdA := hs.dropsF (run.length + 1) hrl
        have HP : Hid (plainOf bs = plainA ((foldP pre).1 ++ run ++ (if run.length < 254 then [0] else [])) (decide (run.length < 254)) (rest.drop (run.length + 1))) := hp
        have HR : Hid (rest.length - (run.length + 1) = (rest.drop (run.length + 1)).length) := by show _ = _; simp
        have hme : rest.length - (run.length + 1) < rest.length := by omega
        clear hc hf hp hst
        gi_wp2_with (gi_at_call 42; refine (callsIn_wide.2 HC.out).mono ?_; rintro e w1 ⟨⟨a2, c2, rfl, hs2⟩, rfl⟩; obtain ⟨X, hX⟩ : ∃ X : SRunT w0, X.1 = ((.slice a2 run.length c2, run), true) := ⟨⟨((.slice a2 run.length c2, run), true), hs2, h254⟩, rfl⟩; obtain ⟨fn, tmps, assign, body, hy, hR⟩ := hY pre X w1 hJ (by omega); have HX : Hid (X.1.1.2 = run ∧ X.1.2 = true) := (by rw [hX]; exact ⟨rfl, rfl⟩); rw [hX] at hy; dsimp only at hy; clear hX)
        refine hR.mono ?_
        clear hR hy HC
        rintro e W3 (⟨rfl, hJ3, hk3⟩ | ⟨rfl, hJx3⟩)
        · gi_wp2
          go_roundw
          case rel =>
            refine ⟨pre ++ [X], restF ao c (run.length + 1), c - (run.length + 1), rest.drop (run.length + 1), by rw [HR.out], by rw [← HR.out]; exact hdA, ?_, ?_, by simp; omega, hb.trans hk3, hJ3⟩
            · intro x hx
              rcases List.mem_append.1 hx with h | h
              · exact hall x h
              · rw [List.mem_singleton.1 h]; exact HX.out.2
            · rw [HP.out, foldP_snoc, HX.out.1]
          case measure => simp only [lenOf]; exact hme
        · gi_wp2
          refine bodyPost_ret (results_none rfl _ _ _) rfl ?_
          refine ⟨⟨_, rfl⟩, .inr ⟨_, ?_, hJx3⟩⟩
          rintro ⟨x, hx, hxf⟩
          rcases List.mem_append.1 hx with h | h
          · rw [hall x h] at hxf; cases hxf
          · rw [List.mem_singleton.1 h, HX.out.2] at hxf; cases hxf
    · obtain rfl : rest = [] := List.eq_nil_of_length_eq_zero (by omega)
      have HN : Hid (plainA (foldP pre).1 (foldP pre).2 [] = plainOf bs) := hst
      clear hst hr0
      gi_wp2
      go_end0
      exact ⟨⟨_, rfl⟩, .inl ⟨pre, fun _ => HN.out, hJ⟩⟩
theorem sruns_stops (n : Nat) (hn : 1 ≤ n) (Bn : Nat) (w0 : World) (ao0 : Option Addr) (c0 : Nat) (bs : List UInt8) (hm : bs.length ≤ 1000000) (hseg : Seg w0 (.slice ao0 bs.length c0) bs) (w : World) (hw : Below w0.heap.size w0 w) (hBn : Bn < w.heap.size) (hc : w.cell? ⟨Bn, 0, none⟩ = some (.slice ao0 bs.length c0)) :
    SeqStopsK Fence.wide n Tryd.prog 41 #[.pointer (some ⟨Bn, 0, none⟩)] (fun x : SRunT w0 => #[x.1.1.1, .bool x.1.2]) (Below w0.heap.size) (fun ys => (∀ x ∈ ys, x.1.2 = true) → plainA (foldP ys).1 (foldP ys).2 [] = plainOf bs) (fun pre => (∃ x ∈ pre, x.1.2 = false) → plainOf bs = none) bs.length w := fun l J Jx W hW _ _ hY h0 =>
  sruns1_in n hn l Bn w0 ao0 c0 bs hm hseg J Jx hY W (hw.trans (hW.mono hw.size)) ((hW.cell (p := ⟨Bn, 0, none⟩) hBn).trans hc) h0
end Go.Proofs.YtchbfhckocfjhaaDoor
