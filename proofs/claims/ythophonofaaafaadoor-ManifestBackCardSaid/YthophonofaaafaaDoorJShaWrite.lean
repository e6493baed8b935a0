/-
  What is proved here: Write puts bytes behind, whatever was written before.
  Conditions: the hash lies at the beginning of a block of its own, apart from the bytes; the variable roundWords holds the words of the rounds; all lengths together stay below 2^60.
-/
import Derived.Test.YthophonofaaafaaDoorProg
import Derived.Test.YthophonofaaafaaDoorJShaSmall
import Derived.Test.YthophonofaaafaaDoorJShaTake
import Derived.Deep.RegionHeld3
import Derived.Deep.RegionLaw
import Derived.Test.YthophonofaaafaaDoorJCrcPure
namespace Go.Proofs.YthophonofaaafaaDoor
open Go.RowKit

def sliceLen : Value → Nat
  | .slice _ n _ => n
  | _ => 0
theorem slice_part (g L q : Nat) (hq : q = L % 64) (w : World) :
    (Instr.sliceAt 99 (.pointer (some ⟨g, 8, none⟩)) (some (.int .u64 ((L : Int) % 64))) none none).run Tryd.prog w = .ok (.slice (some ⟨g, 8 + q, none⟩) (64 - q) (64 - q)) w := by
  have ha : Tryd.prog.arrayLen 99 = 64 := by kernel_rfl
  have he : Tryd.prog.elem 99 = 5 := by kernel_rfl
  have hs : (sizeOf 5).run Tryd.prog w = .ok 1 w := by kernel_rfl
  have hl : (L : Int) % 64 = (q : Int) := by omega
  rw [hl, run_sliceAt_array_l w 99 ⟨g, 8, none⟩ (by rw [ha, he]; exact Tryd.underlying99) .u64 q (by omega) (by rw [ha]; omega), he, hs, ha]
  simp only [Result.andThen_ok, slicedAt, Int.toNat_natCast, Nat.mul_one, Addr.add_mid]
  rw [if_neg (by omega)]

theorem slice_part' (g L q : Nat) (hq : q = L % 64) (w : World) :
    (Instr.sliceAt 99 (.pointer (some ⟨g, 8, none⟩)) (some (.int .u64 ((L : Int).tmod 64))) none none).run Tryd.prog w = .ok (.slice (some ⟨g, 8 + q, none⟩) (64 - q) (64 - q)) w := by
  rw [Int.tmod_eq_emod_of_nonneg (by omega)]; exact slice_part g L q hq w

theorem slice_bytes (b off r c n : Nat) (h1 : n ≤ r) (w : World) :
    (Instr.slice 22 (.slice (some ⟨b, off, none⟩) r c) (some (.int .i64 (n : Int))) none none).run Tryd.prog w = .ok (.slice (some (if c = n then ⟨b, off, none⟩ else ⟨b, off + n, none⟩)) (r - n) (c - n)) w := by
  have he : Tryd.prog.elem 22 = 5 := by kernel_rfl
  have hs : (sizeOf 5).run Tryd.prog w = .ok 1 w := by kernel_rfl
  rw [run_slice_l w 22 (some ⟨b, off, none⟩) r c (by rw [he]; exact Tryd.underlying22) .i64 n (by omega) (by omega), he, hs]
  simp only [Result.andThen_ok, sliced, Int.toNat_natCast, Nat.mul_one]
  by_cases h : c = n
  · rw [if_pos h, if_pos h]
  · rw [if_neg h, if_neg h, Option.map_some, Addr.add_mid]

theorem Tab.grown {w w' : World} {g : Nat} {vs : List Value} {row : Option Nat} (h : Tab w g vs) (hb : w.grownBy w' row) (hg : some g ≠ row) : Tab w' g vs := fun j v hv => hb.cell (h j v hv) hg

theorem grown_setCell (w : World) (g o : Nat) (v : Value) : w.grownBy (w.setCell ⟨g, o, none⟩ v) (some g) :=
  ⟨rfl, rfl, rfl, by simp, fun k _ hk => Below.heap_setCell w ⟨g, o, none⟩ v k (fun e => hk (by rw [e]))⟩
theorem next_bytes (w : World) (g b off c r n j : Nat) (bs : List UInt8) (hr : r = bs.length - j) (hj : j < bs.length) (hn0 : 0 < n) (hn : n ≤ r) (hc : r ≤ c) (hrow : Row w b off (bs.drop j)) (hbl : b < w.heap.size) (hbg : b ≠ g) (vn : Value)
    (hv : vn = Value.slice (some (if c = n then ⟨b, off, none⟩ else ⟨b, off + n, none⟩)) (r - n) (c - n)) :
    (j + n ≤ bs.length ∧ ((j + n < bs.length ∧ ∃ b off c, vn = .slice (some ⟨b, off, none⟩) (bs.length - (j + n)) c ∧ bs.length - (j + n) ≤ c ∧ Row w b off (bs.drop (j + n)) ∧ b < w.heap.size ∧ b ≠ g) ∨ (j + n = bs.length ∧ ∃ ao c, vn = .slice ao 0 c))) ∧ sliceLen vn < r := by
  refine ⟨⟨by omega, ?_⟩, by rw [hv]; show r - n < r; omega⟩
  by_cases h : n < r
  · refine .inl ⟨by omega, b, off + n, c - n, ?_, by omega, ?_, hbl, hbg⟩
    · rw [hv, if_neg (by omega), show r - n = bs.length - (j + n) by omega]
    · have := hrow.drop n
      rwa [List.drop_drop] at this
  · exact .inr ⟨by omega, _, c - n, by rw [hv, show r - n = 0 by omega]⟩
theorem hash_less (s : St) (d bs ch : List UInt8) (j q : Nat) (hch : ch = (bs.drop j).take (64 - q)) (hq : (restOf (d ++ bs.take j)).length = q) (hl : q + ch.length < 64) (L : Nat) :
    hashCells (wordsOf s (d ++ bs.take j)) (splice (pad64 (restOf (d ++ bs.take j))) q ch) L = hashCells (wordsOf s (d ++ bs.take (j + ch.length))) (pad64 (restOf (d ++ bs.take (j + ch.length)))) L := by
  have ht : bs.take (j + ch.length) = bs.take j ++ ch := by
    rw [List.take_add, hch]; congr 1
    rw [List.length_take, List.take_eq_take_iff]; omega
  have hd : (d ++ bs.take j).length % 64 = q := by rw [← restOf_len, hq]
  obtain ⟨h1, h2⟩ := write_less s (d ++ bs.take j) ch (by rw [hd]; exact hl)
  rw [ht, ← List.append_assoc, h1, h2, ← pad_splice _ _ (by rw [hq]; omega), hq]
theorem hash_full (s : St) (d bs ch : List UInt8) (j q : Nat) (hch : ch = (bs.drop j).take (64 - q)) (hq : (restOf (d ++ bs.take j)).length = q) (hl : q + ch.length = 64) (L : Nat) :
    hashCells (compress (wordsOf s (d ++ bs.take j)) (splice (pad64 (restOf (d ++ bs.take j))) q ch)) (List.replicate 64 0) L = hashCells (wordsOf s (d ++ bs.take (j + ch.length))) (pad64 (restOf (d ++ bs.take (j + ch.length)))) L := by
  have ht : bs.take (j + ch.length) = bs.take j ++ ch := by
    rw [List.take_add, hch]; congr 1
    rw [List.length_take, List.take_eq_take_iff]; omega
  have hd : (d ++ bs.take j).length % 64 = q := by rw [← restOf_len, hq]
  obtain ⟨h1, h2⟩ := write_full s (d ++ bs.take j) ch (by rw [hd]; exact hl)
  rw [ht, ← List.append_assoc, h1, h2]
  have := pad_splice (restOf (d ++ bs.take j)) ch (by rw [hq]; omega)
  rw [hq] at this
  rw [this, pad_full _ (by simp [hq, hl])]
  rfl

set_option maxRecDepth 100000 in
set_option maxHeartbeats 1000000 in
theorem write_any (g : Nat) (s : St) (d : List UInt8) (len : Nat) (x : Value) (bs : List UInt8) (w : World) (hh : HashAt w g s d len) (hmod : len % 64 = d.length % 64) (hseg : Seg w x bs) (hap : ∀ b off c n, x = .slice (some ⟨b, off, none⟩) n c → 0 < n → b ≠ g)
    (hlen : len + bs.length < 1152921504606846976) (hgk : 1 < g) (hk : Tab w 1 (kWords.map v32)) :
    Calls Tryd.prog 52 #[.pointer (some ⟨g, 0, none⟩), x] w fun e w' => e = .returned (.tuple #[]) ∧ HashAt w' g s (d ++ bs) (len + bs.length) ∧ w.grownBy w' (some g) := by
  go_enter Tryd.func52, Tryd.ntmps52
  go_wp2
  go_loopw [1] (fun v wr => ∃ j : Nat, j ≤ bs.length ∧ ((j < bs.length ∧ ∃ b off c, v = .slice (some ⟨b, off, none⟩) (bs.length - j) c ∧ bs.length - j ≤ c ∧ Row w b off (bs.drop j) ∧ b < w.heap.size ∧ b ≠ g) ∨ (j = bs.length ∧ ∃ ao c, v = .slice ao 0 c)) ∧ HashAt wr g s (d ++ bs.take j) (len + j) ∧ w.grownBy wr (some g)) (fun v _ => sliceLen v)
  case atStart =>
    refine ⟨0, Nat.zero_le _, ?_, by simpa using hh, ⟨rfl, rfl, rfl, Nat.le_refl _, fun _ _ _ => rfl⟩⟩
    rcases hseg with ⟨rfl, ao, c, rfl, _⟩ | ⟨b, off, c, rfl, hc, hr, hb⟩
    · exact .inr ⟨rfl, ao, c, rfl⟩
    · rcases Nat.eq_zero_or_pos bs.length with h0 | h0
      · exact .inr ⟨h0.symm, _, c, by rw [h0]⟩
      · exact .inl ⟨h0, b, off, c, rfl, hc, hr, hb, hap b off c _ rfl h0⟩
  case round =>
    obtain ⟨j, hj, hv, hH, hgr⟩ := hrel
    rcases hv with ⟨hlt, b, off, c, rfl, hcap, hrow, hbl, hbg⟩ | ⟨hj2, ao, c, rfl⟩
    · obtain ⟨L, hL⟩ : ∃ L, L = len + j := ⟨_, rfl⟩
      obtain ⟨q, hq⟩ : ∃ q, q = L % 64 := ⟨_, rfl⟩
      have hsl := slice_part g L q hq
      have hsl' := slice_part' g L q hq
      obtain ⟨r, hr⟩ : ∃ r, r = bs.length - j := ⟨_, rfl⟩
      have hH' := hH
      unfold HashAt at hH'
      have hrp : (restOf (d ++ bs.take j)).length = q := by rw [restOf_len, hq]; simp [show min j bs.length = j by omega]; omega
      have hpl := pad64_len _ (show (restOf (d ++ bs.take j)).length ≤ 64 by omega)
      rw [← hL] at hH'
      have hc72 := hH'.cell (j := 72) (v := .int .u64 (L : Int)) (by simp [hashCells, St.list, hpl])
      rw [← hr] at hcap
      rw [← hr]
      have hr0 : (0 : Int) < (r : Int) := by omega
      have hq64 : q < 64 := by omega
      have HR : Hid (r = bs.length - j) := hr
      have HQ : Hid (q = L % 64) := hq
      have HLL : Hid (L = len + j) := hL
      obtain ⟨ch, hch⟩ : ∃ ch, ch = (bs.drop j).take (64 - q) := ⟨_, rfl⟩
      have hchl : ch.length = min r (64 - q) := by rw [hch, hr]; simp [Nat.min_comm]
      have hrch : Row wr b off ch := by rw [hch]; exact (hrow.grown hgr (by simp; omega)).take _
      have HCH : Hid (ch = (bs.drop j).take (64 - q)) := hch
      have hcs := hash_copy (wordsOf s (d ++ bs.take j)) (pad64 (restOf (d ++ bs.take j))) ch L q hpl (by omega)
      have hsz := hash_size (wordsOf s (d ++ bs.take j)) (pad64 (restOf (d ++ bs.take j))) L hpl
      have hfit : 8 + q + ch.length ≤ (hashCells (wordsOf s (d ++ bs.take j)) (pad64 (restOf (d ++ bs.take j))) L).size := by rw [hsz]; omega
      have HC : Hid ((splice (hashCells (wordsOf s (d ++ bs.take j)) (pad64 (restOf (d ++ bs.take j))) L).toList (8 + q) (ch.map v8)).toArray = hashCells (wordsOf s (d ++ bs.take j)) (splice (pad64 (restOf (d ++ bs.take j))) q ch) L) := hcs
      have HL : Hid (ch.length = Nat.min r (64 - q)) := hchl
      have hn1 : ch.length ≤ r := by omega
      have hn2 : ch.length ≤ 64 - q := by omega
      have hL1 : L + ch.length < 1152921504606846976 := by omega
      have HPL : Hid ((pad64 (restOf (d ++ bs.take j))).length = 64) := hpl
      clear hr hq hch hL hcs hsz hchl hpl
      go_wp2_with fail
      go_region_law (refine step_copy rfl (.tmp 16) (.tmp 17) (by rfl) g (8 + q) (64 - q) (64 - q) b off r c (by rfl) (by rfl) _ 101 (by exact hH') ch HL.out (by exact hrch) hfit ?_; intro w2 hb2 hg2 hs2)
      replace hb2 := hb2.of_eq HC.out
      have hP : (splice (pad64 (restOf (d ++ bs.take j))) q ch).length = 64 := by rw [length_splice _ _ _ (by rw [HPL.out]; omega), HPL.out]
      have HLESS : Hid (q + ch.length < 64 → hashCells (wordsOf s (d ++ bs.take j)) (splice (pad64 (restOf (d ++ bs.take j))) q ch) (L + ch.length) = hashCells (wordsOf s (d ++ bs.take (j + ch.length))) (pad64 (restOf (d ++ bs.take (j + ch.length)))) (L + ch.length)) := fun h => hash_less s d bs ch j q HCH.out hrp h _
      have HFULL : Hid (q + ch.length = 64 → hashCells (compress (wordsOf s (d ++ bs.take j)) (splice (pad64 (restOf (d ++ bs.take j))) q ch)) (List.replicate 64 0) (L + ch.length) = hashCells (wordsOf s (d ++ bs.take (j + ch.length))) (pad64 (restOf (d ++ bs.take (j + ch.length)))) (L + ch.length)) := fun h => hash_full s d bs ch j q HCH.out hrp h _
      have hn0 : 0 < ch.length := by have := HL.out; rw [this]; exact Nat.lt_min.2 ⟨by omega, by omega⟩
      have hslb := slice_bytes b off r c ch.length hn1
      have HNX := next_bytes w g b off c r ch.length j bs HR.out hlt hn0 hn1 hcap hrow hbl hbg _ rfl
      obtain ⟨vn, hvn⟩ : ∃ vn, vn = Value.slice (some (if c = ch.length then ⟨b, off, none⟩ else ⟨b, off + ch.length, none⟩)) (r - ch.length) (c - ch.length) := ⟨_, rfl⟩
      rw [← hvn] at hslb HNX
      have HNXT : Hid ((j + ch.length ≤ bs.length ∧ ((j + ch.length < bs.length ∧ ∃ b off c, vn = .slice (some ⟨b, off, none⟩) (bs.length - (j + ch.length)) c ∧ bs.length - (j + ch.length) ≤ c ∧ Row w b off (bs.drop (j + ch.length)) ∧ b < w.heap.size ∧ b ≠ g) ∨ (j + ch.length = bs.length ∧ ∃ ao c, vn = .slice ao 0 c))) ∧ sliceLen vn < r) := HNX
      clear hvn HNX hH' hc72 hsl hsl' hfit hrch HCH HC hrp HPL
      generalize wordsOf s (d ++ bs.take j) = W0 at hb2 HLESS HFULL
      generalize splice (pad64 (restOf (d ++ bs.take j))) q ch = P1 at hb2 hP HLESS HFULL
      have c72 := hb2.cell (j := 72) (v := .int .u64 (L : Int)) (by simp [hashCells, St.list, hP])
      have f72 := hb2.frozen 72
      have HT : Hid (L % 64 = q ∧ ch.length = min r (64 - q) ∧ L = len + j) := ⟨HQ.out.symm, HL.out, HLL.out⟩
      clear HQ HL HLL
      generalize ch.length = n at *
      have R72 : Blk (w2.setCell ⟨g, 72, none⟩ (.int .u64 ((L : Int) + (n : Int)))) g 101 (hashCells W0 P1 (L + n)) := by
        have := (hb2.set 72 (.int .u64 ((L + n : Nat) : Int))).of_eq (hash_len W0 P1 L (L + n) hP)
        rwa [Int.natCast_add] at this
      replace hg2 : wr.grownBy w2 (some g) := ⟨hg2.os, hg2.tape, hg2.output, hg2.size, hg2.block⟩
      have hT2 : Tab w2 1 (kWords.map v32) := (hk.grown hgr (by simp; omega)).grown hg2 (by simp; omega)
      have hG2 : w.grownBy w2 (some g) := grown_trans hgr hg2
      by_cases hful : q + n = 64
      · have ht : (((L : Int) + (n : Int)) % 64 == 0) = true := by have e := HT.out.1; rw [beq_iff_eq]; omega
        have hW : w2.heap.size = (w2.setCell ⟨g, 72, none⟩ (.int .u64 ((L : Int) + (n : Int)))).heap.size := by simp
        have hT3 : Tab (w2.setCell ⟨g, 72, none⟩ (.int .u64 ((L : Int) + (n : Int)))) 1 (kWords.map v32) := hT2.grown (grown_setCell _ _ _ _) (by simp; omega)
        have hG3 : w.grownBy (w2.setCell ⟨g, 72, none⟩ (.int .u64 ((L : Int) + (n : Int)))) (some g) := grown_trans hG2 (grown_setCell _ _ _ _)
        go_wp2_with fail
        generalize w2.setCell ⟨g, 72, none⟩ (.int .u64 ((L : Int) + (n : Int))) = w3 at *
        have hgl := R72.lt
        have hi : (Tryd.prog.info? 99).map (·.size) = some (P1.map v8).length := by rw [List.length_map, hP]; exact Tryd.info99s
        have hl1 : (P1.map v8).length = 64 := by rw [List.length_map, hP]
        have HTK : Hid (∀ W : World, 1 < W.heap.size → Tab W 1 (kWords.map v32) → Calls Tryd.prog 68 #[.agg (W0.list.map v32).toArray, .agg (P1.map v8).toArray] W fun e w' => e = .returned (.agg ((compress W0 P1).list.map v32).toArray) ∧ Below W.heap.size W w') := fun W h1 h2 => take_any W0 P1 hP W h1 h2
        generalize compress W0 P1 = W1 at HTK HFULL
        clear hb2 hg2 hs2 hT2 hG2 hW f72 c72 HLESS hH hh hseg hap
        have rW := (Blk.drew R72).range 0 _ (hash_words_at W0 P1 _)
        have rP := (Blk.drew R72).range 8 _ (hash_part_at W0 P1 _)
        refine wp_region_noPanic (wp_region_any (by kernel_rfl) ?_)
        show wpAny _ _ _ _ 13 (Array.replicate 13 false) _ w3.drew
        refine any_take 0 37 _ (.pointer (some ⟨g, 0, none⟩)) rfl rfl (by kernel_rfl) (by kernel_rfl) (by kernel_rfl) rfl (fun w => by kernel_rfl) ?_
        refine any_take 1 38 _ (.pointer (some ⟨g, 0, none⟩)) rfl rfl (by kernel_rfl) (by kernel_rfl) (by kernel_rfl) rfl (fun w => by kernel_rfl) ?_
        refine any_take 2 39 _ (.pointer (some ⟨g, 0, none⟩)) rfl rfl (by kernel_rfl) (by kernel_rfl) (by kernel_rfl) rfl (fun w => by kernel_rfl) ?_
        refine any_take 3 40 _ (.pointer (some ⟨g, 0, none⟩)) rfl rfl (by kernel_rfl) (by kernel_rfl) (by kernel_rfl) rfl (fun w => by kernel_rfl) ?_
        refine any_take 5 42 _ (.pointer (some ⟨g, 0, none⟩)) rfl rfl (by kernel_rfl) (by kernel_rfl) (by kernel_rfl) rfl (fun w => by kernel_rfl) ?_
        refine any_take 6 43 _ (.pointer (some ⟨g, 0, none⟩)) rfl rfl (by kernel_rfl) (by kernel_rfl) (by kernel_rfl) rfl (fun w => by kernel_rfl) ?_
        refine any_take 7 44 _ (.pointer (some ⟨g, 8, none⟩)) rfl rfl (by kernel_rfl) (by kernel_rfl) (by kernel_rfl) rfl (fun w => by kernel_rfl) ?_
        simp only [Act.put, List.setIfInBounds_toArray, List.set_cons_succ, List.set_cons_zero]
        refine any_two 4 8 41 45 _ _ (.agg (W0.list.map v32).toArray) (.agg (P1.map v8).toArray) rfl rfl rfl rfl rfl rfl (by kernel_rfl) (by kernel_rfl) (by kernel_rfl) ?r1 ?r2 ?r3 ?r4 (by kernel_rfl) ?hp ?_
        case r1 => exact exec_load 68 _ rfl g 0 rfl _ _ rW Tryd.underlying68 rfl Tryd.info68s
        case r2 => exact exec_load 99 _ rfl g 8 rfl _ _ rP Tryd.underlying99 rfl hi
        case r3 => exact exec_load 99 _ rfl g 8 rfl _ _ rP Tryd.underlying99 rfl hi
        case r4 => exact exec_load 68 _ rfl g 0 rfl _ _ rW Tryd.underlying68 rfl Tryd.info68s
        case hp => rfl
        simp only [Act.put, List.setIfInBounds_toArray, List.set_cons_succ, List.set_cons_zero]
        refine any_tail 9 (by kernel_rfl) (by kernel_rfl) ?_
        simp only [List.drop_succ_cons, List.drop_zero]
        have HWW : Hid ((splice (hashCells W0 P1 (L + n)).toList 0 (W1.list.map v32).toArray.toList).toArray = hashCells W1 P1 (L + n)) := hash_words_splice W0 W1 P1 (L + n)
        have HPP : Hid ((splice (hashCells W1 P1 (L + n)).toList 8 (((List.replicate 64 (0 : UInt8)).map v8).toArray).toList).toArray = hashCells W1 (List.replicate 64 0) (L + n)) := hash_part W1 P1 (List.replicate 64 0) (L + n) hP (by simp)
        have HF1 : Hid (0 + (W1.list.map v32).toArray.size ≤ (hashCells W0 P1 (L + n)).size) := by show _ ≤ _; rw [hash_size _ _ _ hP]; show 0 + 8 ≤ 73; omega
        have HF2 : Hid (8 + ((List.replicate 64 (0 : UInt8)).map v8).toArray.size ≤ (hashCells W1 P1 (L + n)).size) := by show _ ≤ _; rw [hash_size _ _ _ hP]; show 8 + 64 ≤ 73; omega
        go_wp2_with (first | (go_at_call 68; refine (HTK.out _ (by exact Nat.lt_trans hgk hgl) (by exact hT3)).mono ?_; rintro e w4 ⟨rfl, hb4⟩) | (refine store_mid rfl 68 _ _ rfl rfl g 0 (W1.list.map v32).toArray rfl rfl 101 _ (by exact Blk.below (Blk.drew R72) hb4 hgl) Tryd.info68s (by exact HF1.out) (one32 W1.list) ?_; intro w5 hb5 hg5 hs5; replace hb5 := hb5.of_eq HWW.out))
        refine NoPanic.normal ?_
        go_wp2_with (refine store_mid rfl 99 _ _ rfl rfl g 8 ((List.replicate 64 (0 : UInt8)).map v8).toArray rfl (by rfl) 101 _ (by exact hb5) Tryd.info99s (by exact HF2.out) (one8 _) ?_; intro w6 hb6 hg6 hs6; replace hb6 := hb6.of_eq HPP.out)
        go_roundw
        case rel =>
          obtain ⟨⟨h1, h2⟩, h3⟩ := HNXT.out
          refine ⟨j + n, h1, h2, ?_, ?_⟩
          · have e : len + (j + n) = L + n := by rw [HT.out.2.2]; omega
            unfold HashAt
            rw [e]
            exact hb6.of_eq (HFULL.out hful)
          · have g4 : w3.grownBy w4 (some g) := ⟨hb4.os, hb4.tape, hb4.output, hb4.size, fun k hk _ => hb4.block k hk⟩
            exact grown_trans (grown_trans (grown_trans hG3 g4) hg5) hg6
        case measure => exact HNXT.out.2
      · have ht : (((L : Int) + (n : Int)) % 64 == 0) = false := by have e := HT.out.1; rw [beq_eq_false_iff_ne]; omega
        go_wp2_with fail
        go_roundw
        case rel =>
          obtain ⟨⟨h1, h2⟩, h3⟩ := HNXT.out
          refine ⟨j + n, h1, h2, ?_, grown_trans hG2 (grown_setCell _ _ _ _)⟩
          have hc := HLESS.out (Nat.lt_of_le_of_ne (by omega) hful)
          have := R72.of_eq hc
          have e : len + (j + n) = L + n := by rw [HT.out.2.2]; omega
          unfold HashAt
          rw [e]
          exact this
        case measure => exact HNXT.out.2
    · go_wp2
      go_end0
      refine ⟨rfl, ?_, hgr⟩
      rw [hj2, List.take_length] at hH
      exact hH
end Go.Proofs.YthophonofaaafaaDoor
