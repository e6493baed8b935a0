/-
  What is proved here: manifest.sums brings the sums of an image's chunks, one behind the other, to whichever loop goes through them.
  Conditions: the image's numbers may be.
-/
import Derived.Test.YthophonofaaafaaDoorJManIn
namespace Go.Proofs.YthophonofaaafaaDoor
open Go.RowKit
attribute [local go_sem] Oper.semAt_some

set_option maxRecDepth 100000 in
theorem sums_any (m : MM) (su : Value) (ao : Option Addr) (n c : Nat) (w : World) :
    Calls Tryd.prog 31 #[manV m su, .slice ao n c] w fun e w' => e = .returned (.func (.func 54) #[] #[.pointer (some ⟨w.heap.size, 0, none⟩), .pointer (some ⟨w.heap.size + 1, 0, none⟩)]) ∧ w' = (w.alloc (.cells (manC m su) 27)).alloc (.cells #[.slice ao n c] 22) := by
  unfold manV
  generalize manC m su = MC at *
  go_enter Tryd.func31, Tryd.ntmps31
  go_wp2
  go_ret
  exact ⟨by simp, rfl⟩

/-- The numbers of chunks. -/
def numsF {N : Nat} (ys : List (Fin N)) : List Nat := ys.map (·.val)
set_option maxRecDepth 100000 in
set_option maxHeartbeats 2000000 in
theorem sums1_in (n : Nat) (hn : 1 ≤ n) (l Bm Bn : Nat) (S : Nat → Prop) (v : Int) (hs : List UInt8) (c : Nat) (bs : List UInt8) (hh : hs.length = 32) (hnum : numsOk (numsM v bs c)) (N : Nat) (hN : (N : Int) = countM (numsM v bs c)) (ao : Option Addr) (cp : Nat) (w0 : World)
    (hSm : ¬ S Bm) (hSn : ¬ S Bn) (hSf : ¬ S 2) (hm0 : Blk w0 Bm 27 (manC ⟨v, bs.length, c, hs, []⟩ (.slice none 0 0))) (hn0 : Blk w0 Bn 22 #[.slice ao bs.length cp]) (hseg0 : Seg w0 (.slice ao bs.length cp) bs) (hSs : ∀ k, (Value.slice ao bs.length cp).ownBlock = some k → ¬ S k) (hgf : 2 < w0.heap.size) (hf : Tab w0 2 (fours.map v32))
    (J Jx : List (Fin N) → World → Prop) (hA : ∀ s W W', J s W → W.grownBy W' none → J s W')
    (hY : ∀ (pre : List (Fin N)) (k : Fin N) (W : World), J pre W → pre.length < N → YieldAt Fence.wide (n - 1) Tryd.prog l #[v32 (crcOf (chunkB bs c k.val))] W fun e W' =>
      (e = .returned (.bool true) ∧ J (pre ++ [k]) W' ∧ Chg S W W') ∨ (e = .returned (.bool false) ∧ Jx (pre ++ [k]) W'))
    (W : World) (hW : Chg S w0 W) (h0 : J [] W) :
    CallsIn Fence.wide n Tryd.prog 54 #[.func (.yield l) #[] #[], .pointer (some ⟨Bm, 0, none⟩), .pointer (some ⟨Bn, 0, none⟩)] W fun e W' => (∃ v, e = .returned v) ∧
      ((∃ ys, numsF ys = List.range N ∧ J ys W') ∨ (∃ pre, True ∧ Jx pre W')) := by
  have hfnC : Fence.wide.fn 34 := trivial
  have hfnS : Fence.wide.fn 33 := trivial
  have hfnc : Fence.wide.fn 37 := trivial
  obtain ⟨MC, hMC⟩ : ∃ MC, MC = manC ⟨v, bs.length, c, hs, []⟩ (.slice none 0 0) := ⟨_, rfl⟩
  have hi : (Tryd.prog.info? 27).map (·.size) = some MC.size := by rw [hMC]; exact manC_info _ _ hh
  rw [← hMC] at hm0
  have HCH : Hid (∀ V, Calls Tryd.prog 34 #[.agg MC] V fun e w' => e = .returned (.int .i64 (N : Int)) ∧ Below V.heap.size V w') := fun V => by
    rw [hMC, hN]
    exact chunks_any ⟨v, bs.length, c, hs, []⟩ (.slice none 0 0) V (by have := hnum.2.1; simp only [numsM] at this; show (0 : Int) ≤ (bs.length : Int) ∧ (bs.length : Int) ≤ 1000000; omega) (by have := hnum.2.2.1; simp only [numsM] at this; show (1 : Int) ≤ (c : Int) ∧ (c : Int) ≤ 1000000; omega)
  have HSP : Hid (∀ (k : Nat) V, k < N → Calls Tryd.prog 33 #[.agg MC, .int .i64 (k : Int)] V fun e w' => e = .returned (.tuple #[.int .i64 ((c * k : Nat) : Int), .int .i64 ((chunkB bs c k).length : Int)]) ∧ Below V.heap.size V w') := fun k V hk => by
    have h1 := make_span hnum k (by omega)
    have h2 := spanE_yes (m := makeM v bs c) (i := k) (by omega) (makeM_ok hnum) (by rw [makeM_count]; omega)
    rw [h2] at h1
    have e1 : atM (makeM v bs c) k = ((c * k : Nat) : Int) := by have := congrArg Prod.fst h1.1; simpa using this
    have e2 : lenM (makeM v bs c) k = ((chunkB bs c k).length : Int) := by have := congrArg (fun x => x.2.1) h1.1; simpa using this
    have h3 := mspan_any ⟨v, bs.length, c, hs, []⟩ (.slice none 0 0) k V hnum (by omega) (by show (k : Int) < countM (numsM v bs c); omega)
    rw [hMC, ← e1, ← e2]
    exact h3
  have HCR : Hid (∀ k V, k < N → Chg S w0 V → Calls Tryd.prog 37 #[.slice (restD ao cp (c * k)) (chunkB bs c k).length (cp - c * k)] V fun e w' => e = .returned (v32 (crcOf (chunkB bs c k))) ∧ w' = V) := fun k V hk hV => by
    have h1 := make_span hnum k (by omega)
    simp only [Int.toNat_natCast] at h1
    refine csum_any _ _ V (by omega) ?_ (hf.chg hV hgf hSf)
    have := seg_mid (hseg0.chg hV (fun _ => hSs)) (c * k) (chunkB bs c k).length h1.2.1
    rw [← h1.2.2.2.2] at this
    exact this
  have HSL : Hid (∀ k, k < N → c * k + (chunkB bs c k).length ≤ bs.length ∧ (chunkB bs c k).length ≤ 1024) := fun k hk => by
    have h1 := make_span hnum k (by omega)
    simp only [Int.toNat_natCast] at h1
    exact ⟨h1.2.1, h1.2.2.2.1⟩
  have hsl := hnum.2.1.2
  have hcap := seg_cap hseg0
  have hNle : N ≤ 128 := by have := hnum.2.2.2; omega
  have HL : Hid ((bs.length : Int) ≤ 32768) := hsl
  clear hsl hnum hN hf hh hseg0 hSs hMC hgf
  refine callsIn_of_wp Tryd.func54 rfl trivial ?_ rfl
  simp only [Tryd.ntmps54, List.size_toArray, List.length_cons, List.length_nil, Nat.reduceAdd, Nat.reduceSub, Array.replicate_succ, Array.replicate_zero, List.push_toArray, List.append_toArray, List.nil_append, List.cons_append]
  have hmW := hm0.chg hW hSm
  gi_wp2_with (refine lin_value (fun _ => trivial) rfl (fun c hc => by cases hc) (.agg MC) _ (exec_loadM _ rfl Bm rfl hmW hi) ?_)
  refine (callsIn_wide.2 (HCH.out _)).mono ?_
  rintro e w1 ⟨rfl, hb1⟩
  have hW1 : Chg S w0 w1 := hW.trans (S' := S) (Chg.of_below hb1 (Nat.le_refl _)) (fun _ _ h => h)
  have h01 := hA _ _ _ h0 ⟨hb1.os, hb1.tape, hb1.output, hb1.size, fun i hi _ => hb1.block i hi⟩
  clear hmW
  gi_wp2
  gi_loopw [9] (fun i wr => ∃ (k : Nat) (ys : List (Fin N)), k ≤ N ∧ numsF ys = List.range k ∧ i = .int .i64 (k : Int) ∧ Chg S w0 wr ∧ J ys wr) (fun i _ => N - (intOf i).toNat)
  case atStart => exact ⟨0, [], Nat.zero_le _, rfl, rfl, hW1, h01⟩
  case round =>
    obtain ⟨k, ys, hk, hys, rfl, hWr, hJ⟩ := hrel
    have HYS : Hid (numsF ys = List.range k) := hys
    clear hys hW1 h01 hb1 h0 hW
    by_cases hlt : k < N
    · have i1 : (k : Int) < (N : Int) := by omega
      have HSPk : Hid (∀ V, Calls Tryd.prog 33 #[.agg MC, .int .i64 (k : Int)] V fun e w' => e = .returned (.tuple #[.int .i64 ((c * k : Nat) : Int), .int .i64 ((chunkB bs c k).length : Int)]) ∧ Below V.heap.size V w') := fun V => HSP.out k V hlt
      have HCRk : Hid (∀ V, Chg S w0 V → Calls Tryd.prog 37 #[.slice (restD ao cp (c * k)) (chunkB bs c k).length (cp - c * k)] V fun e w' => e = .returned (v32 (crcOf (chunkB bs c k))) ∧ w' = V) := fun V => HCR.out k V hlt
      have hbd := HSL.out k hlt
      have hsl := HL.out
      have ls := slice_midM ao bs.length cp (c * k) (c * k + (chunkB bs c k).length) (by omega) (by omega)
      rw [show c * k + (chunkB bs c k).length - c * k = (chunkB bs c k).length by omega, show ((c * k + (chunkB bs c k).length : Nat) : Int) = ((c * k : Nat) : Int) + ((chunkB bs c k).length : Int) by omega] at ls
      have hyl : ys.length = k := by have := congrArg List.length HYS.out; unfold numsF at this; rw [List.length_map, List.length_range] at this; exact this
      have HYY : Hid (∀ W, J ys W → YieldAt Fence.wide (n - 1) Tryd.prog l #[v32 (crcOf (chunkB bs c k))] W fun e W' => (e = .returned (.bool true) ∧ J (ys ++ [⟨k, hlt⟩]) W' ∧ Chg S W W') ∨ (e = .returned (.bool false) ∧ Jx (ys ++ [⟨k, hlt⟩]) W')) := fun W hJ => hY ys ⟨k, hlt⟩ W hJ (by omega)
      have HSN : Hid (numsF (ys ++ [⟨k, hlt⟩]) = List.range (k + 1)) := by show _ = _; unfold numsF; rw [List.map_append, List.range_succ]; exact congrArg (· ++ [k]) HYS.out
      clear hyl HSP HCR HSL
      generalize (⟨k, hlt⟩ : Fin N) = kf at *
      generalize crcOf (chunkB bs c k) = CS at *
      generalize hAT : c * k = AT at *
      clear hAT
      generalize (chunkB bs c k).length = LN at *
      have hmr := hm0.chg hWr hSm
      gi_wp2_with (refine lin_value (fun _ => trivial) rfl (fun c hc => by cases hc) (.agg MC) _ (exec_loadM _ rfl Bm rfl hmr hi) ?_)
      refine (callsIn_wide.2 (HSPk.out _)).mono ?_
      rintro e w2 ⟨rfl, hb2⟩
      have hW2 : Chg S w0 w2 := hWr.trans (S' := S) (Chg.of_below hb2 (Nat.le_refl _)) (fun _ _ h => h)
      have hJ2 := hA _ _ _ hJ ⟨hb2.os, hb2.tape, hb2.output, hb2.size, fun i hi _ => hb2.block i hi⟩
      have hcn : w2.cell? ⟨Bn, 0, none⟩ = some (.slice ao bs.length cp) := (hn0.chg hW2 hSn).cell (j := 0) rfl
      clear HSPk hmr
      gi_wp2_with fail
      refine (callsIn_wide.2 (HCRk.out _ hW2)).mono ?_
      rintro e w3 ⟨rfl, hw3⟩
      obtain rfl := hw3.symm
      clear HCRk ls hcn
      obtain ⟨fn, tmps, assign, body, hy, hR⟩ := HYY.out _ hJ2
      gi_wp2
      refine hR.mono ?_
      clear hR hy HYY
      rintro e W3 (⟨rfl, hJ3, hk3⟩ | ⟨rfl, hJx3⟩)
      · have hW3 : Chg S w0 W3 := hW2.trans (S' := S) hk3 (fun _ _ h => h)
        gi_wp2
        go_roundw
        case rel => exact ⟨k + 1, _, hlt, HSN.out, by go_num, hW3, hJ3⟩
        case measure => simp [intOf]; omega
      · gi_wp2
        (try simp only [Exit.inBlock, Exit.then])
        refine bodyPost_ret (results_none rfl _ _ _) rfl ?_
        exact ⟨⟨_, rfl⟩, .inr ⟨_, trivial, hJx3⟩⟩
    · obtain rfl : k = N := by omega
      gi_wp2
      go_end0
      exact ⟨⟨_, rfl⟩, .inl ⟨_, HYS.out, hJ⟩⟩
theorem sums_stops (n : Nat) (hn : 1 ≤ n) (Bm Bn : Nat) (S : Nat → Prop) (v : Int) (hs : List UInt8) (c : Nat) (bs : List UInt8) (hh : hs.length = 32) (hnum : numsOk (numsM v bs c)) (N : Nat) (hN : (N : Int) = countM (numsM v bs c)) (ao : Option Addr) (cp : Nat) (w0 : World)
    (hSm : ¬ S Bm) (hSn : ¬ S Bn) (hSf : ¬ S 2) (hm0 : Blk w0 Bm 27 (manC ⟨v, bs.length, c, hs, []⟩ (.slice none 0 0))) (hn0 : Blk w0 Bn 22 #[.slice ao bs.length cp]) (hseg0 : Seg w0 (.slice ao bs.length cp) bs) (hSs : ∀ k, (Value.slice ao bs.length cp).ownBlock = some k → ¬ S k) (hgf : 2 < w0.heap.size) (hf : Tab w0 2 (fours.map v32)) :
    SeqStopsK Fence.wide n Tryd.prog 54 #[.pointer (some ⟨Bm, 0, none⟩), .pointer (some ⟨Bn, 0, none⟩)] (fun k : Fin N => #[v32 (crcOf (chunkB bs c k.val))]) (Chg S) (fun ys => numsF ys = List.range N) (fun _ => True) N w0 := fun l J Jx W hW hA _ hY h0 =>
  sums1_in n hn l Bm Bn S v hs c bs hh hnum N hN ao cp w0 hSm hSn hSf hm0 hn0 hseg0 hSs hgf hf J Jx (fun s W W' h hg => hA s W W' none h hg (fun r e => by cases e)) hY W (Chg.of_below hW (Nat.le_refl _)) h0
end Go.Proofs.YthophonofaaafaaDoor
