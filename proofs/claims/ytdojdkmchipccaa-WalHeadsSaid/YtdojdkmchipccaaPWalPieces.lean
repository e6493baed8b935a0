/-
  What is proved here: wal.pieces brings the pieces that bytes begin with, one behind the other, to whichever loop goes through them.
  Conditions: at most a million bytes.
-/
import Derived.Test.YtdojdkmchipccaaPWalSmall
import Derived.Test.YtdojdkmchipccaaWalSeq
import Derived.Laws.OwnMore
import Derived.RangeFuncBox
import Derived.RangeFuncLeaves
import Derived.RangeFuncCalls
import Derived.Shelf.Abstract
import Derived.OwnWalkIn
import Derived.TacticsInMore
import Derived.LoopNIn
import Derived.LoopIn
import Derived.Maps.OwnIn
import Derived.RangeFuncNested
import Derived.Sort.QuietIn
namespace Go.Proofs.Ytdojdkmchipccaa
open Go.RowKit
attribute [local go_sem] Oper.semAt_some

/-- A piece: a slice, its kind, its bytes. -/
abbrev ItemT (w0 : World) (S : Nat → Prop) := { x : Value × UInt8 × List UInt8 // SegA w0 S x.1 x.2.2 ∧ x.2.2.length ≤ 4096 }
def imgs {w0 : World} {S : Nat → Prop} (ys : List (ItemT w0 S)) : List (UInt8 × List UInt8) := ys.map (·.1.2)
theorem imgs_snoc {w0 : World} {S : Nat → Prop} (ys : List (ItemT w0 S)) (x : ItemT w0 S) : imgs (ys ++ [x]) = imgs ys ++ [x.1.2] := by simp [imgs]
theorem SegA.takes7 {w : World} {S : Nat → Prop} {ao : Option Addr} {len c : Nat} {bs : List UInt8} (h : SegA w S (.slice ao len c) bs) (n : Nat) (hn : n ≤ len) (hl : bs.length = len) : SegA w S (.slice ao n c) (bs.take n) ∧ n ≤ c :=
  ⟨⟨(h.1.takesD n hn).1, fun h0 q hq => h.2 (by rw [List.length_take] at h0; omega) q (by cases ao with | none => simp [Value.ownBlock] at hq | some a => exact hq)⟩, (h.1.takesD n hn).2⟩
theorem SegA.drops7 {w : World} {S : Nat → Prop} {ao : Option Addr} {len c : Nat} {bs : List UInt8} (h : SegA w S (.slice ao len c) bs) (n : Nat) (hn : n ≤ len) (hl : bs.length = len) : SegA w S (.slice (restD ao c n) (len - n) (c - n)) (bs.drop n) :=
  ⟨h.1.dropsD n hn, fun h0 q hq => h.2 (by rw [List.length_drop] at h0; omega) q (rest_block _ _ _ _ _ _ _ hq)⟩
theorem Chg.drewN {S : Nat → Prop} {w w' : World} (h : Chg S w w') (k : Nat) : Chg S w (w'.drewN k) := ⟨Below.drewN h.1 k, h.2⟩
def lenOf8 : Value → Nat
  | .slice _ n _ => n
  | _ => 0
set_option maxRecDepth 100000 in
theorem pieces_any (ao : Option Addr) (n c : Nat) (w : World) :
    Calls Try.prog 39 #[.slice ao n c] w fun e w' => e = .returned (.func (.func 56) #[] #[.pointer (some ⟨w.heap.size, 0, none⟩)]) ∧ w' = w.alloc (.cells #[.slice ao n c] 22) := by
  go_enter Try.func39, Try.ntmps39
  go_wp2
  go_ret
  exact ⟨rfl, rfl⟩
set_option maxRecDepth 100000 in
set_option maxHeartbeats 2000000 in
theorem pieces1_in (n : Nat) (hn : 1 ≤ n) (l Bn : Nat) (w0 : World) (S : Nat → Prop) (ao0 : Option Addr) (c0 : Nat) (bs : List UInt8) (hm : bs.length ≤ 1000000) (hseg : SegA w0 S (.slice ao0 bs.length c0) bs) (J Jx : List (ItemT w0 S) → World → Prop)
    (hY : ∀ pre x W, J pre W → pre.length < bs.length / 5 + 1 → YieldAt Fence.wide (n - 1) Try.prog l #[.int .u8 (n8 x.1.2.1), x.1.1] W fun e W' =>
      (e = .returned (.bool true) ∧ J (pre ++ [x]) W' ∧ Chg S W W') ∨ (e = .returned (.bool false) ∧ Jx (pre ++ [x]) W'))
    (hJd : ∀ pre W k, J pre W → J pre (W.drewN k))
    (W : World) (hW : Chg S w0 W) (hBn : W.cell? ⟨Bn, 0, none⟩ = some (.slice ao0 bs.length c0)) (h0 : J [] W) :
    CallsIn Fence.wide n Try.prog 56 #[.func (.yield l) #[] #[], .pointer (some ⟨Bn, 0, none⟩)] W fun e W' => (∃ v, e = .returned v) ∧
      ((∃ ys, imgs ys = seqOf bs ∧ J ys W') ∨ (∃ pre, (∃ rest, imgs pre ++ rest = seqOf bs) ∧ Jx pre W')) := by
  have hfn : Fence.wide.fn 54 := trivial
  refine callsIn_of_wp Try.func56 rfl trivial ?_ rfl
  simp only [Try.ntmps56, List.size_toArray, List.length_cons, List.length_nil, Nat.reduceAdd, Nat.reduceSub, Array.replicate_succ, Array.replicate_zero, List.push_toArray, List.append_toArray, List.nil_append, List.cons_append]
  gi_wp2_with fail
  gi_loopw [3] (fun rv wr => ∃ (pre : List (ItemT w0 S)) (ao : Option Addr) (c : Nat) (rest : List UInt8), rv = .slice ao rest.length c ∧ SegA w0 S (.slice ao rest.length c) rest ∧ imgs pre ++ seqOf rest = seqOf bs ∧ 5 * pre.length + rest.length ≤ bs.length ∧ Chg S w0 wr ∧ J pre wr)
    (fun rv _ => lenOf8 rv)
  case atStart => exact ⟨[], ao0, c0, bs, rfl, hseg, rfl, by simp, hW, h0⟩
  case round =>
    obtain ⟨pre, ao, c, rest, rfl, hs, hst, hl, hb, hJ⟩ := hrel
    by_cases h5 : 5 ≤ rest.length
    case neg =>
      have j5 : ¬ (5 : Int) ≤ (rest.length : Int) := by omega
      have HE : Hid (imgs pre = seqOf bs) := by show _ = _; rw [← hst, seqOf_not (fun h => h5 h.1), List.append_nil]
      clear hst h5
      gi_wp2
      go_end0
      exact ⟨⟨_, rfl⟩, .inl ⟨_, HE.out, hJ⟩⟩
    have j5 : (5 : Int) ≤ (rest.length : Int) := by omega
    have hsr := hs.1.chg hb hs.2
    obtain ⟨b, off, rfl, hbc, hrow, hbl⟩ := hsr.formD (by omega)
    obtain ⟨KB, hKB⟩ : ∃ KB, KB = rest.getD 0 0 := ⟨_, rfl⟩
    have HKB : Hid (rest.getD 0 0 = KB) := hKB.symm
    have hc0 : wr.cell? ⟨b, off, none⟩ = some (.int .u8 (n8 KB)) := by
      rw [hKB]
      have := hrow 0 (by omega)
      rw [Nat.add_zero] at this
      rw [this]
      simp [List.getD, show 0 < rest.length by omega]
    clear hKB
    have hix : ∀ w, (Instr.indexAt 22 (.slice (some ⟨b, off, none⟩) rest.length c) (.int .i64 0)).run Try.prog w = .ok (.pointer (some ⟨b, off, none⟩)) w := fun w => index7 b off rest.length c 0 0 rfl (by omega) w
    have KH : ∀ j, Calls Try.prog 54 #[.slice (some ⟨b, off, none⟩) rest.length c, .int .i64 1] (wr.drewN j) fun e w' => e = .returned (.int .i64 (of4 (rest.drop 1) : Int)) ∧ ∃ k, w' = (wr.drewN j).drewN k := fun j => (numAt_any _ rest 1 (wr.drewN j) (hsr.below (Below.drewN (Below.refl _ wr) j) (Nat.le_refl _)) (by omega) (by omega)).mono fun _ _ h => ⟨h.1, 1, h.2⟩
    gi_wp2_with fail
    gi_quiet (first | (gi_at_call 54; refine CallsIn.quiet_of (callsIn_wide.2 (KH _))))
    clear KH hix hc0
    have hJ2 := hJd pre wr nq hJ
    have hb2 : Chg S w0 (wr.drewN nq) := hb.drewN nq
    generalize wr.drewN nq = W2 at *
    have hNl := of4_lt (rest.drop 1)
    obtain ⟨N, hN⟩ : ∃ N, N = of4 (rest.drop 1) := ⟨_, rfl⟩
    rw [← hN] at hNl ⊢
    have l5 : ∀ w, (Instr.slice 22 (.slice (some ⟨b, off, none⟩) rest.length c) (some (.int .i64 5)) none none).run Try.prog w = .ok (.slice (restD (some ⟨b, off, none⟩) c 5) (rest.length - 5) (c - 5)) w := slice_restD (some ⟨b, off, none⟩) rest.length c 5 (by omega)
    have hd5 := hs.drops7 5 (by omega) rfl
    have hlen5 : (rest.drop 5).length = rest.length - 5 := by rw [List.length_drop]
    have HWP : Hid (wholeP rest ↔ N ≤ 4096 ∧ N ≤ rest.length - 5) := by unfold wholeP; rw [← hN]; exact ⟨fun h => h.2, fun h => ⟨by omega, h⟩⟩
    have HNOT : Hid (¬ wholeP rest → imgs pre = seqOf bs) := fun h => by rw [← hst, seqOf_not h, List.append_nil]
    by_cases h1 : 4096 < N
    · have j1 : (4096 : Int) < (N : Int) := by omega
      have HE : Hid (imgs pre = seqOf bs) := HNOT.out (fun h => by have := (HWP.out.1 h).1; omega)
      clear HNOT HWP hst h1 hN
      gi_wp2
      refine ⟨(fun _ h => nomatch h), ?_⟩
      gi_wp2
      (try simp only [Exit.inBlock, Exit.then])
      refine bodyPost_ret (results_none rfl _ _ _) rfl ?_
      exact ⟨⟨_, rfl⟩, .inl ⟨_, HE.out, hJ2⟩⟩
    have j1 : ¬ (4096 : Int) < (N : Int) := by omega
    obtain ⟨R5, hR5⟩ : ∃ R5, R5 = rest.drop 5 := ⟨_, rfl⟩
    rw [← hR5] at hd5 hlen5
    have HR5 : Hid (rest.drop 5 = R5) := hR5.symm
    rw [← hlen5] at l5 hd5
    by_cases h2 : R5.length < N
    · have j2 : (R5.length : Int) < (N : Int) := by omega
      have HE : Hid (imgs pre = seqOf bs) := HNOT.out (fun h => by have := (HWP.out.1 h).2; omega)
      clear HNOT HWP hst h1 h2 hN hR5 hlen5
      generalize restD (some ⟨b, off, none⟩) c 5 = ra at *
      generalize c - 5 = cr at *
      gi_wp2
      refine ⟨(fun _ h => nomatch h), ?_⟩
      gi_wp2
      (try simp only [Exit.inBlock, Exit.then])
      refine bodyPost_ret (results_none rfl _ _ _) rfl ?_
      exact ⟨⟨_, rfl⟩, .inl ⟨_, HE.out, hJ2⟩⟩
    have j2 : ¬ (R5.length : Int) < (N : Int) := by omega
    have hwh : wholeP rest := HWP.out.2 ⟨by omega, by omega⟩
    have hsq := seqOf_step hwh
    rw [← hN, ← hR5, HKB.out] at hsq
    generalize restD (some ⟨b, off, none⟩) c 5 = ra at *
    generalize c - 5 = cr at *
    have ht := hd5.takes7 N (by omega) rfl
    have l6 := slice_toD ra R5.length cr N ht.2
    have hdn := hd5.drops7 N (by omega) rfl
    have l7 := slice_restD ra R5.length cr N (by omega)
    have hln : (R5.take N).length = N := by rw [List.length_take]; omega
    have hln2 : R5.length - N = (R5.drop N).length := by rw [List.length_drop]
    rw [hln2] at hdn l7
    obtain ⟨X, hX⟩ : ∃ X : ItemT w0 S, X.1 = (.slice ra N cr, KB, R5.take N) := ⟨⟨(.slice ra N cr, KB, R5.take N), ht.1, by show (R5.take N).length ≤ 4096; omega⟩, rfl⟩
    obtain ⟨fn, tmps, assign, body, hy, hR⟩ := hY pre X W2 hJ2 (by omega)
    have hsn := imgs_snoc pre X
    rw [hX] at hy hsn
    dsimp only at hy hsn
    have HX : Hid (imgs (pre ++ [X]) ++ seqOf (R5.drop N) = seqOf bs) := by
      show _ = _
      rw [hsn, ← hst, hsq, List.append_assoc]
      rfl
    have hlm : 5 * (pre ++ [X]).length + (R5.drop N).length ≤ bs.length := by rw [List.length_append, List.length_drop]; show 5 * (pre.length + 1) + _ ≤ _; omega
    have hme : (R5.drop N).length < rest.length := by rw [List.length_drop]; omega
    clear hX hsn hsq hst hN hR5 hwh HNOT HWP hln2 hln h1 h2
    generalize R5.drop N = RD at *
    generalize restD ra cr N = rb at *
    generalize cr - N = cs at *
    clear hlen5
    gi_wp2
    refine hR.mono ?_
    clear hR hy
    rintro e W3 (⟨rfl, hJ3, hk3⟩ | ⟨rfl, hJx3⟩)
    · have hb3 := hb2.trans hk3 (fun _ _ h => h)
      gi_wp2
      go_roundw
      case rel => exact ⟨pre ++ [X], rb, cs, RD, rfl, hdn, HX.out, hlm, hb3, hJ3⟩
      case measure => simp only [lenOf8]; exact hme
    · gi_wp2
      (try simp only [Exit.inBlock, Exit.then])
      refine bodyPost_ret (results_none rfl _ _ _) rfl ?_
      exact ⟨⟨_, rfl⟩, .inr ⟨_, ⟨_, HX.out⟩, hJx3⟩⟩
theorem pieces_stops (n : Nat) (hn : 1 ≤ n) (Bn : Nat) (w0 : World) (S : Nat → Prop) (ao0 : Option Addr) (c0 : Nat) (bs : List UInt8) (hm : bs.length ≤ 1000000) (hseg : SegA w0 S (.slice ao0 bs.length c0) bs) (w : World) (hw : Chg S w0 w) (hBn : Bn < w.heap.size) (hc : w.cell? ⟨Bn, 0, none⟩ = some (.slice ao0 bs.length c0)) :
    SeqStopsK Fence.wide n Try.prog 56 #[.pointer (some ⟨Bn, 0, none⟩)] (fun x : ItemT w0 S => #[.int .u8 (n8 x.1.2.1), x.1.1]) (Chg S) (fun ys => imgs ys = seqOf bs) (fun pre => ∃ rest, imgs pre ++ rest = seqOf bs) (bs.length / 5 + 1) w := fun l J Jx W hW hJ _ hY h0 =>
  pieces1_in n hn l Bn w0 S ao0 c0 bs hm hseg J Jx hY (fun pre V k h => hJ pre V (V.drewN k) none h ⟨rfl, rfl, rfl, Nat.le_refl _, fun _ _ _ => rfl⟩ (fun r e => by cases e)) W (hw.trans (Chg.of_below (S := S) hW (Nat.le_refl _)) (fun _ _ h => h)) ((hW.cell (p := ⟨Bn, 0, none⟩) hBn).trans hc) h0
end Go.Proofs.Ytdojdkmchipccaa
