/-
  What is proved here: frame.runs brings the runs of bytes, one behind the other, to whichever loop goes through them.
  Conditions: none.
-/
import Derived.Test.YtchbfhckocfjhaaDoorFrameOwn
namespace Go.Proofs.YtchbfhckocfjhaaDoor
open Go.RowKit
attribute [local go_sem] Oper.semAt_some

/-- A run: a slice and its bytes. -/
abbrev RunT (w0 : World) := { x : Value × List UInt8 // Seg w0 x.1 x.2 ∧ x.2.length ≤ 254 }
/-- What is put for runs: of each how many bytes, and these. -/
def runsPut {w0 : World} (ys : List (RunT w0)) : List UInt8 := ys.flatMap fun x => UInt8.ofNat (x.1.2.length + 1) :: x.1.2
theorem runsPut_snoc {w0 : World} (ys : List (RunT w0)) (x : RunT w0) : runsPut (ys ++ [x]) = runsPut ys ++ UInt8.ofNat (x.1.2.length + 1) :: x.1.2 := by
  simp [runsPut]
theorem runsPut_len {w0 : World} (ys : List (RunT w0)) : (runsPut ys).length ≤ 255 * ys.length := by
  induction ys with
  | nil => simp [runsPut]
  | cons x t ih =>
    have := x.2.2
    unfold runsPut at ih ⊢
    simp only [List.flatMap_cons, List.length_append, List.length_cons]
    omega
def lenOf : Value → Nat
  | .slice _ n _ => n
  | _ => 0

set_option maxRecDepth 100000 in
theorem runs_any (ao : Option Addr) (n c : Nat) (w : World) :
    Calls Tryd.prog 23 #[.slice ao n c] w fun e w' => e = .returned (.func (.func 29) #[] #[.pointer (some ⟨w.heap.size, 0, none⟩)]) ∧ w' = w.alloc (.cells #[.slice ao n c] 22) := by
  go_enter Tryd.func23, Tryd.ntmps23
  go_wp2
  go_ret
  exact ⟨rfl, rfl⟩

set_option maxRecDepth 100000 in
set_option maxHeartbeats 2000000 in
theorem runs1_in (n : Nat) (hn : 1 ≤ n) (l Bn : Nat) (w0 : World) (ao0 : Option Addr) (c0 : Nat) (bs : List UInt8) (hseg : Seg w0 (.slice ao0 bs.length c0) bs) (J Jx : List (RunT w0) → World → Prop)
    (hY : ∀ pre x W, J pre W → pre.length < bs.length + 1 → YieldAt Fence.wide (n - 1) Tryd.prog l #[x.1.1] W fun e W' =>
      (e = .returned (.bool true) ∧ J (pre ++ [x]) W' ∧ Below w0.heap.size W W') ∨ (e = .returned (.bool false) ∧ Jx (pre ++ [x]) W'))
    (W : World) (hW : Below w0.heap.size w0 W) (hBn : W.cell? ⟨Bn, 0, none⟩ = some (.slice ao0 bs.length c0)) (h0 : J [] W) :
    CallsIn Fence.wide n Tryd.prog 29 #[.func (.yield l) #[] #[], .pointer (some ⟨Bn, 0, none⟩)] W fun e W' => (∃ v, e = .returned v) ∧
      ((∃ ys, runsPut ys = stuff bs ∧ J ys W') ∨ (∃ pre, True ∧ Jx pre W')) := by
  have hfn : Fence.wide.fn 30 := trivial
  refine callsIn_of_wp Tryd.func29 rfl trivial ?_ rfl
  simp only [Tryd.ntmps29, List.size_toArray, List.length_cons, List.length_nil, Nat.reduceAdd, Nat.reduceSub, Array.replicate_succ, Array.replicate_zero, List.push_toArray, List.append_toArray, List.nil_append, List.cons_append]
  have HF0 : Hid (Calls Tryd.prog 30 #[.slice ao0 bs.length c0] W fun e w' => e = .returned (.int .i64 (fr bs : Int)) ∧ w' = W) := first_any _ bs W (hseg.below hW (Nat.le_refl _))
  gi_wp2_with (gi_at_call 30; refine (callsIn_wide.2 HF0.out).mono ?_; rintro e w1 ⟨rfl, rfl⟩)
  clear HF0
  gi_loopw [3, 4] (fun rv nv wr => ∃ (pre : List (RunT w0)) (ao : Option Addr) (c : Nat) (rest : List UInt8), rv = .slice ao rest.length c ∧ nv = .int .i64 (fr rest : Int) ∧ Seg w0 (.slice ao rest.length c) rest ∧ runsPut pre ++ stuff rest = stuff bs ∧ pre.length + rest.length ≤ bs.length ∧ Below w0.heap.size w0 wr ∧ J pre wr)
    (fun rv _ _ => lenOf rv)
  case atStart => exact ⟨[], ao0, c0, bs, rfl, rfl, hseg, rfl, by simp, hW, h0⟩
  case round =>
    obtain ⟨pre, ao, c, rest, rfl, rfl, hs, hst, hl, hb, hJ⟩ := hrel
    have h254 := fr_254 rest
    have hfl := fr_le rest
    have ht := hs.takesF (fr rest) hfl
    have l1 := slice_toF ao rest.length c (fr rest) ht.2
    have hlen : (rest.take (fr rest)).length = fr rest := by simp; omega
    obtain ⟨X, hX⟩ : ∃ X : RunT w0, X.1 = (.slice ao (fr rest) c, rest.take (fr rest)) := ⟨⟨(.slice ao (fr rest) c, rest.take (fr rest)), ht.1, Nat.le_trans (Nat.le_of_eq hlen) h254⟩, rfl⟩
    obtain ⟨fn, tmps, assign, body, hy, hR⟩ := hY pre X wr hJ (by omega)
    have hsn := runsPut_snoc pre X
    rw [hX] at hy hsn
    dsimp only at hy hsn
    rw [hlen] at hsn
    clear hX
    gi_wp2
    refine hR.mono ?_
    clear hR hy
    rintro e W3 (⟨rfl, hJ3, hk3⟩ | ⟨rfl, hJx3⟩)
    · have hb3 := hb.trans hk3
      have l2 := slice_restF ao rest.length c (fr rest) hfl
      have hdA := hs.dropsF _ hfl
      have HFA : Hid (Calls Tryd.prog 30 #[.slice (restF ao c (fr rest)) (rest.length - fr rest) (c - fr rest)] W3 fun e w' => e = .returned (.int .i64 (fr (rest.drop (fr rest)) : Int)) ∧ w' = W3) := first_any _ _ W3 (hdA.below hb3 (Nat.le_refl _))
      have HD : Hid (∀ k, rest.length - k = (rest.drop k).length) := fun k => by simp
      by_cases h1 : fr rest = 254
      · have HX : Hid (runsPut (pre ++ [X]) ++ stuff (rest.drop (fr rest)) = stuff bs) := by show _ = _; rw [← hst, hsn, stuff_254 rest h1]; simp
        have hl' : (pre ++ [X]).length + (rest.drop (fr rest)).length ≤ bs.length := by simp; omega
        have hme : rest.length - fr rest < rest.length := by omega
        have hB : ((fr rest : Int) == 254) = true := by rw [h1]; rfl
        clear hst hsn h1
        generalize fr rest = FB at *
        generalize hdd : rest.drop FB = rd at *
        have HR : Hid (rest.length - FB = rd.length) := by rw [← hdd]; exact HD.out FB
        clear hdd
        gi_wp2_with (gi_at_call 30; refine (callsIn_wide.2 HFA.out).mono ?_; rintro e w1 ⟨rfl, rfl⟩)
        go_roundw
        case rel => exact ⟨pre ++ [X], restF ao c FB, c - FB, rd, by rw [HR.out], rfl, by rw [← HR.out]; exact hdA, HX.out, hl', hb3, hJ3⟩
        case measure => simp only [lenOf]; exact hme
      · have hB : ((fr rest : Int) == 254) = false := by simp; omega
        clear HFA hdA
        by_cases h2 : fr rest < rest.length
        · have l3 : ∀ w, (Instr.slice 22 (.slice ao rest.length c) (some (.int .i64 ((fr rest : Int) + 1))) none none).run Tryd.prog w = .ok (.slice (restF ao c (fr rest + 1)) (rest.length - (fr rest + 1)) (c - (fr rest + 1))) w := fun w => by
            have := slice_restF ao rest.length c (fr rest + 1) (by omega) w
            simpa using this
          have hdA := hs.dropsF (fr rest + 1) (by omega)
          have HFA : Hid (Calls Tryd.prog 30 #[.slice (restF ao c (fr rest + 1)) (rest.length - (fr rest + 1)) (c - (fr rest + 1))] W3 fun e w' => e = .returned (.int .i64 (fr (rest.drop (fr rest + 1)) : Int)) ∧ w' = W3) := first_any _ _ W3 (hdA.below hb3 (Nat.le_refl _))
          have HX : Hid (runsPut (pre ++ [X]) ++ stuff (rest.drop (fr rest + 1)) = stuff bs) := by show _ = _; rw [← hst, hsn, stuff_more rest h1 h2]; simp
          have hl' : (pre ++ [X]).length + (rest.drop (fr rest + 1)).length ≤ bs.length := by simp; omega
          have hme : rest.length - (fr rest + 1) < rest.length := by omega
          clear hst hsn h1
          generalize fr rest = FB at *
          generalize hdd : rest.drop (FB + 1) = rd at *
          have HR : Hid (rest.length - (FB + 1) = rd.length) := by rw [← hdd]; exact HD.out (FB + 1)
          clear hdd
          gi_wp2_with (gi_at_call 30; refine (callsIn_wide.2 HFA.out).mono ?_; rintro e w1 ⟨rfl, rfl⟩)
          go_roundw
          case rel => exact ⟨pre ++ [X], restF ao c (FB + 1), c - (FB + 1), rd, by rw [HR.out], rfl, by rw [← HR.out]; exact hdA, HX.out, hl', hb3, hJ3⟩
          case measure => simp only [lenOf]; exact hme
        · have HX : Hid (runsPut (pre ++ [X]) = stuff bs) := by show _ = _; rw [← hst, hsn, stuff_last rest h1 h2]; simp
          clear hst hsn h1
          generalize fr rest = FB at *
          gi_wp2
          refine bodyPost_ret (results_none rfl _ _ _) rfl ?_
          exact ⟨⟨_, rfl⟩, .inl ⟨_, HX.out, hJ3⟩⟩
    · gi_wp2
      go_end0
      exact ⟨⟨_, rfl⟩, .inr ⟨_, trivial, hJx3⟩⟩
theorem runs_stops (n : Nat) (hn : 1 ≤ n) (Bn : Nat) (w0 : World) (ao0 : Option Addr) (c0 : Nat) (bs : List UInt8) (hseg : Seg w0 (.slice ao0 bs.length c0) bs) (w : World) (hw : Below w0.heap.size w0 w) (hBn : Bn < w.heap.size) (hc : w.cell? ⟨Bn, 0, none⟩ = some (.slice ao0 bs.length c0)) :
    SeqStopsK Fence.wide n Tryd.prog 29 #[.pointer (some ⟨Bn, 0, none⟩)] (fun x : RunT w0 => #[x.1.1]) (Below w0.heap.size) (fun ys => runsPut ys = stuff bs) (fun _ => True) (bs.length + 1) w := fun l J Jx W hW _ _ hY h0 =>
  runs1_in n hn l Bn w0 ao0 c0 bs hseg J Jx hY W (hw.trans (hW.mono hw.size)) ((hW.cell (p := ⟨Bn, 0, none⟩) hBn).trans hc) h0
end Go.Proofs.YtchbfhckocfjhaaDoor
