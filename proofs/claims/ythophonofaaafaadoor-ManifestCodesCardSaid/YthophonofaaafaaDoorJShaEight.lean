/-
  What is proved here: the document's eight and sha.appendNumber lay the eight bytes of a number, the highest first. sha.ending answers what stands behind so many bytes up to a whole block: 128, noughts, and the eight bytes of eight times their number. sha.wordBytes and the document's words answer the 32 bytes of eight words, of each the highest first. Sum of a hash that goes on, and sha.Sum, answer the hash of what was written: the words behind the text and its ending.
  Conditions: the number has 64 bits; sha.appendNumber's slice is not nil and has no spare capacity, and with eight bytes more it fits. the number of bytes is below 2^60. none on the words. the variables firstWords and roundWords hold the words of SHA-256; the lengths stay below 2^59.
-/
import Derived.Test.YthophonofaaafaaDoorProg
import Derived.Test.YthophonofaaafaaDoorJShaPure
import Derived.Test.YthophonofaaafaaDoorJShaSpread
namespace Go.Proofs.YthophonofaaafaaDoor
open Go.RowKit

set_option maxRecDepth 100000 in
set_option maxHeartbeats 400000 in
theorem eight_any (N : Int) (n : Nat) (hN : N = (n : Int)) (hn : n < 18446744073709551616) (w : World) :
    Calls Tryd.prog 46 #[.int .u64 N] w fun e w' => e = .returned (.slice (some ⟨w.heap.size, 0, none⟩) 8 8) ∧ Blk w' w.heap.size 5 ((be8 n).map v8).toArray ∧ Below w.heap.size w w' := by
  subst hN
  have hmk : ∀ w : World, (Instr.makeSlice 22 (.int .i64 8) (.int .i64 8)).run Tryd.prog w = .ok (.slice (some ⟨w.heap.size, 0, none⟩) 8 8) (w.alloc (.cells #[.int .u8 0, .int .u8 0, .int .u8 0, .int .u8 0, .int .u8 0, .int .u8 0, .int .u8 0, .int .u8 0] 5)) := fun _ => by kernel_rfl
  go_enter Tryd.func46, Tryd.ntmps46
  go_wp2
  clear hmk
  go_loopw [0, 4] (fun m i wr => ∃ k : Nat, k ≤ 8 ∧ i = .int .i64 (7 - (k : Int)) ∧ m = .int .u64 ((n / 256 ^ k : Nat) : Int) ∧ Blk wr w.heap.size 5 (dnTo 8 k (fun j => v8 (be8at n j)) (.int .u8 0)) ∧ Below w.heap.size w wr) (fun _ i _ => (intOf i + 1).toNat)
  case atStart => exact ⟨0, by omega, by simp, by simp, (Blk.new _ _ _).of_eq rfl, (Below.refl _ _).alloc (Nat.le_refl _) _⟩
  case round =>
    obtain ⟨k, hk, rfl, rfl, hb, hbl⟩ := hrel
    by_cases hlt : k < 8
    · have hc := hb.cell (j := 7 - k) (v := .int .u8 0) (by rw [dnTo_at _ _ _ _ _ (by omega), if_neg (by omega)])
      have hfr := hb.frozen (7 - k)
      have hf := be8_low n k hlt
      have hset := dnTo_set 8 k (fun j => v8 (be8at n j)) (.int .u8 0) hlt
      have R := hset ▸ hb.set (7 - k) (v8 (be8at n (7 - k)))
      have hdiv : n / 256 ^ (k + 1) = n / 256 ^ k / 256 := by rw [Nat.div_div_eq_div_mul, Nat.pow_succ]
      have hm : n / 256 ^ k < 18446744073709551616 := Nat.lt_of_le_of_lt (Nat.div_le_self _ _) hn
      have HD : Hid (n / 256 ^ (k + 1) = n / 256 ^ k / 256) := hdiv
      clear hset hdiv
      generalize n / 256 ^ k = q at hf hm HD
      go_wp2
      go_roundw
      case rel => exact ⟨k + 1, by omega, by go_num, by rw [HD.out]; simp, R, hbl.setCell (by simp) _⟩
      case measure => simp [intOf]; omega
    · obtain rfl : k = 8 := by omega
      go_wp2
      go_ret
      exact ⟨rfl, hb.of_eq (by rw [dnTo_full]; simp [be8]), hbl⟩

set_option maxRecDepth 100000 in
set_option maxHeartbeats 400000 in
theorem appendNumber_any (b off len : Nat) (bs : List UInt8) (N : Int) (n : Nat) (w : World) (hN : N = (n : Int)) (hlen : bs.length = len) (hr : Row w b off bs) (hb : b < w.heap.size) (hl : bs.length ≤ 1000000) :
    Calls Tryd.prog 84 #[.slice (some ⟨b, off, none⟩) len len, .int .u64 N] w fun e w' => ∃ v, e = .returned v ∧ Own w' w.heap.size v (bs ++ be8 n) ∧ Below w.heap.size w w' := by
  subst hN; subst hlen
  go_enter Tryd.func84, Tryd.ntmps84
  go_wp2
  go_loopw [0, 6] (fun v i wr => ∃ k : Nat, k ≤ 8 ∧ i = .int .i64 k ∧ Below w.heap.size w wr ∧ ((k = 0 ∧ v = .slice (some ⟨b, off, none⟩) bs.length bs.length) ∨ (0 < k ∧ Own wr w.heap.size v (bs ++ (be8 n).take k)))) (fun _ i _ => 8 - (intOf i).toNat)
  case atStart => exact ⟨0, by omega, rfl, Below.refl _ _, .inl ⟨rfl, rfl⟩⟩
  case round =>
    obtain ⟨k, hk, rfl, hbl, hv⟩ := hrel
    by_cases hlt : k < 8
    · have hf := be8_form n k
      have HT : Hid ((be8 n).take (k + 1) = (be8 n).take k ++ [be8at n k]) := be8_take_succ n k hlt
      have hsz := hbl.size
      have hlk : ((be8 n).take k).length ≤ 8 := by simp [be8_len]; omega
      rcases hv with ⟨hz, rfl⟩ | ⟨hk0, hown⟩
      · have HZ : Hid (k = 0) := hz
        clear hz
        go_wp2_with (at_builtin; refine app_grow _ rfl (.tmp 9) (.tmp 16) rfl b off bs rfl ((hr.below hbl hb).below ((Below.refl wr.heap.size wr).alloc (Nat.le_refl _) _) (by omega)) wr.heap.size 0 1 [be8at n k] rfl (row_one _ _ _) (by simp) (by simp; omega) ?_)
        intro v' w' ho hg
        have hb1 := below_grown (hbl.alloc hsz (.cells #[v8 (be8at n k)] 5)) hg (by simp; omega) (fun _ h => by cases h)
        go_wp2
        go_roundw
        case rel =>
          refine ⟨k + 1, by omega, by go_num, hb1, .inr ⟨by omega, ?_⟩⟩
          rw [HT.out, HZ.out]
          rw [HZ.out] at ho
          exact ho.mono (by omega)
        case measure => simp [intOf]; omega
      · go_wp2_with (at_builtin; refine app_own _ rfl (.tmp 9) (.tmp 16) rfl w.heap.size _ (bs ++ (be8 n).take k) rfl (hown.alloc _) _ [be8at n k] rfl (Seg.of_row (row_one _ _ _) rfl (by simp) (by simp)) (by simp; omega) (by simp; omega) ?_)
        intro v' w' ho hg _
        have hb1 := below_grown (hbl.alloc hsz (.cells #[v8 (be8at n k)] 5)) hg (by simp; omega) (fun q h => (hown.blocks q h).1)
        go_wp2
        go_roundw
        case rel =>
          refine ⟨k + 1, by omega, by go_num, hb1, .inr ⟨by omega, ?_⟩⟩
          rw [HT.out]
          exact ho
        case measure => simp [intOf]; omega
    · obtain rfl : k = 8 := by omega
      rcases hv with ⟨h, _⟩ | ⟨hk0, hown⟩
      · omega
      · go_wp2
        go_ret
        rw [List.take_of_length_le (by simp [be8_len])] at hown
        exact ⟨_, rfl, hown, hbl⟩

end Go.Proofs.YthophonofaaafaaDoor
namespace Go.Proofs.YthophonofaaafaaDoor
open Go.RowKit

/-- What stands behind n bytes. -/
def endOf (n : Nat) : List UInt8 := 128 :: (List.replicate ((119 - n % 64) % 64) 0 ++ be8 (8 * n))

theorem endOf_len (n : Nat) : (endOf n).length = (119 - n % 64) % 64 + 9 := by simp [endOf, be8_len]

theorem madeZeros (k : Nat) : madeCells #[Value.int .u8 0] k = ((List.replicate k (0 : UInt8)).map v8).toArray := by
  apply Array.ext
  · simp [madeCells]
  · intro i h1 h2
    have : v8 0 = Value.int .u8 0 := rfl
    simp [madeCells, this, Nat.mod_one]
theorem make_zeros (k : Nat) (hk : k ≤ 1000000) (kk : IntKind) (l : Int) (hl : l = (k : Int)) (w : World) :
    (Instr.makeSlice 22 (.int kk l) (.int kk l)).run Tryd.prog w = .ok (.slice (some ⟨w.heap.size, 0, none⟩) k k) (w.alloc (.cells ((List.replicate k (0 : UInt8)).map v8).toArray 5)) := by
  obtain ⟨i0, hi, hz0, hz1, hz2⟩ := info_parts Tryd.info5
  subst hl
  have := run_make (P := Tryd.prog) w 22 5 i0 (.int .u8 0) Tryd.underlying22 hi hz0 kk kk ((k : Nat) : Int) ((k : Nat) : Int) (by omega) (by omega) (by rw [hz2]; omega) (by omega)
  rw [this, hz1, Int.toNat_natCast, Nat.mul_one]
  rw [show (Value.int IntKind.u8 0).cells = #[Value.int .u8 0] from rfl, madeZeros]

set_option maxRecDepth 100000 in
set_option maxHeartbeats 400000 in
theorem ending_any (n : Nat) (hn : n < 1152921504606846976) (w : World) :
    Calls Tryd.prog 69 #[.int .u64 (n : Int)] w fun e w' => ∃ v, e = .returned v ∧ Own w' w.heap.size v (endOf n) ∧ Below w.heap.size w w' := by
  obtain ⟨m, hm⟩ : ∃ m, m = (119 - n % 64) % 64 := ⟨_, rfl⟩
  have hm64 : m < 64 := by omega
  have hmk := fun w => make_zeros (m + 1) (by omega) .u64 (1 + (119 - (n : Int)) % 64) (by omega) w
  have HE : Hid (endOf n = (128 :: List.replicate m 0) ++ be8 (8 * n)) := by show _ = _; rw [hm]; rfl
  have hc : ∀ w : World, (w.alloc (.cells ((List.replicate (m + 1) (0 : UInt8)).map v8).toArray 5)).cell? ⟨w.heap.size, 0, none⟩ = some (.int .u8 0) := fun w => (Blk.new w _ _).cell (by simp [List.replicate_succ]; rfl)
  clear hm
  go_enter Tryd.func69, Tryd.ntmps69
  go_wp2_with fail
  have hW : ∀ w : World, Blk (w.alloc (Obj.cells ((Array.replicate (m + 1) (v8 0)).setIfInBounds 0 (Value.int IntKind.u8 128)) 5)) w.heap.size 5 ((128 :: List.replicate m 0).map v8).toArray := fun w =>
    (Blk.new w _ _).of_eq (by
      apply Array.ext
      · simp
      · intro i h1 h2
        rw [Array.getElem_setIfInBounds (by simpa using h1)]
        cases i with
        | zero => rfl
        | succ i => simp)
  refine (appendNumber_any _ _ _ (128 :: List.replicate m 0) _ (8 * n) _ (by omega) (by simp) (hW w).row (by simp) (by simp; omega)).mono ?_
  rintro e w' ⟨v, rfl, ho, hb⟩
  have hB : Below w.heap.size w w' := ((Below.refl _ _).alloc (Nat.le_refl _) _).trans (hb.mono (by simp))
  clear hmk hc hW hb
  go_wp2
  go_ret
  exact ⟨_, rfl, HE.out ▸ ho.mono (by simp), hB⟩
end Go.Proofs.YthophonofaaafaaDoor
namespace Go.Proofs.YthophonofaaafaaDoor
open Go.RowKit

theorem Tryd.info24s : (Tryd.prog.info? 24).map (·.size) = some 32 := by kernel_rfl

set_option maxRecDepth 100000 in
set_option maxHeartbeats 400000 in
theorem wordBytes_any (ws : List (BitVec 32)) (h8 : ws.length = 8) (w : World) :
    Calls Tryd.prog 70 #[.agg (ws.map v32).toArray] w fun e w' => e = .returned (.agg ((wbytes ws).map v8).toArray) ∧ Below w.heap.size w w' := by
  go_enter Tryd.func70, Tryd.ntmps70
  go_wp2
  go_loopw [5] (fun i wr => ∃ k : Nat, k ≤ 32 ∧ i = .int .i64 k ∧ Blk wr w.heap.size 68 (ws.map v32).toArray ∧ Blk wr (w.heap.size + 1) 24 (upTo 32 0 (fun j => v8 (wb ws j)) (.int .u8 0)) ∧ Blk wr (w.heap.size + 1 + 1) 24 (upTo 32 k (fun j => v8 (wb ws j)) (.int .u8 0)) ∧ Below w.heap.size w wr) (fun i _ => 32 - (intOf i).toNat)
  case atStart =>
    exact ⟨0, by omega, rfl, ((Blk.new _ _ _).alloc _).alloc _, ((Blk.newAt _ _ _ _ (by simp)).alloc _).of_eq rfl, (Blk.newAt _ _ _ _ (by simp)).of_eq rfl, (((Below.refl _ _).alloc (Nat.le_refl _) _).alloc (by simp) _).alloc (by simp; omega) _⟩
  case round =>
    obtain ⟨k, hk, rfl, hb0, hb1, hb2, hbl⟩ := hrel
    by_cases hlt : k < 32
    · have hc := hb0.cell (at32 ws (k / 4) (by omega))
      have hf := wb_form ws k
      have hc2 := hb2.cell (j := k) (v := .int .u8 0) (by rw [upTo_at _ _ _ _ _ hlt, if_neg (Nat.lt_irrefl k)])
      have hfr := hb2.frozen k
      generalize ws.getD (k / 4) 0#32 = x at hc hf
      have hset := upTo_set 32 k (fun j => v8 (wb ws j)) (.int .u8 0)
      have R := hset ▸ hb2.set k (v8 (wb ws k))
      clear hset
      go_wp2
      go_roundw
      case rel => exact ⟨k + 1, by omega, by go_num, hb0.setOther _ _ (by simp; omega), hb1.setOther _ _ (by simp), R, hbl.setCell (by simp; omega) _⟩
      case measure => simp [intOf]; omega
    · obtain rfl : k = 32 := by omega
      rw [upTo_full] at hb2
      have e : ((List.range 32).map (fun j => v8 (wb ws j))) = (wbytes ws).map v8 := by simp [wbytes]
      rw [e] at hb2
      have hsz : ((wbytes ws).map v8).toArray.size = 32 := by simp [wbytes_len]
      have hst : (upTo 32 0 (fun j => v8 (wb ws j)) (.int .u8 0)).size = ((wbytes ws).map v8).toArray.size := by rw [upTo_size, hsz]
      have hinfo : (Tryd.prog.info? 24).map (·.size) = some ((wbytes ws).map v8).toArray.size := by rw [hsz]; exact Tryd.info24s
      have hone := one8 (wbytes ws)
      have HB1 := hb1
      have HB2 := hb2
      clear e hb1 hb2
      generalize hz : ((wbytes ws).map v8).toArray = bytes at *
      go_wp2_with (first | (refine wpList_load_row rfl 24 _ rfl (w.heap.size + 1 + 1) rfl 24 _ (0, 0) _ HB2 Tryd.underlying24 rfl hinfo ?_) | (refine wpList_store_row rfl 24 _ _ rfl (w.heap.size + 1) _ rfl rfl 24 _ HB1 hinfo hst hone ?_))
      refine bodyPost_ret (v := .agg bytes) (results_cell_row Tryd.results70 _ _ (w.heap.size + 1) 24 bytes (0, 0) _ rfl (HB1.setRow _) Tryd.underlying24 rfl hinfo) rfl ⟨ret_agg hz.symm, ?_⟩
      exact Below.setRow hbl _ _ (by omega)

set_option maxRecDepth 100000 in
set_option maxHeartbeats 400000 in
theorem words_any (ws : List (BitVec 32)) (h8 : ws.length = 8) (w : World) :
    Calls Tryd.prog 49 #[.agg (ws.map v32).toArray] w fun e w' => e = .returned (.agg ((wbytes ws).map v8).toArray) ∧ Below w.heap.size w w' := by
  go_enter Tryd.func49, Tryd.ntmps49
  go_wp2
  go_loopw [4] (fun i wr => ∃ k : Nat, k ≤ 32 ∧ i = .int .i64 k ∧ Blk wr w.heap.size 68 (ws.map v32).toArray ∧ Blk wr (w.heap.size + 1) 24 (upTo 32 0 (fun j => v8 (wb ws j)) (.int .u8 0)) ∧ Blk wr (w.heap.size + 1 + 1) 24 (upTo 32 k (fun j => v8 (wb ws j)) (.int .u8 0)) ∧ Below w.heap.size w wr) (fun i _ => 32 - (intOf i).toNat)
  case atStart =>
    exact ⟨0, by omega, rfl, ((Blk.new _ _ _).alloc _).alloc _, ((Blk.newAt _ _ _ _ (by simp)).alloc _).of_eq rfl, (Blk.newAt _ _ _ _ (by simp)).of_eq rfl, (((Below.refl _ _).alloc (Nat.le_refl _) _).alloc (by simp) _).alloc (by simp; omega) _⟩
  case round =>
    obtain ⟨k, hk, rfl, hb0, hb1, hb2, hbl⟩ := hrel
    by_cases hlt : k < 32
    · have hc := hb0.cell (at32 ws (k / 4) (by omega))
      have hf := wb_form ws k
      rw [show 8 * (3 - k % 4) = 24 - 8 * (k % 4) by omega] at hf
      have hc2 := hb2.cell (j := k) (v := .int .u8 0) (by rw [upTo_at _ _ _ _ _ hlt, if_neg (Nat.lt_irrefl k)])
      have hfr := hb2.frozen k
      generalize ws.getD (k / 4) 0#32 = x at hc hf
      have hset := upTo_set 32 k (fun j => v8 (wb ws j)) (.int .u8 0)
      have R := hset ▸ hb2.set k (v8 (wb ws k))
      clear hset
      go_wp2
      go_roundw
      case rel => exact ⟨k + 1, by omega, by go_num, hb0.setOther _ _ (by simp; omega), hb1.setOther _ _ (by simp), R, hbl.setCell (by simp; omega) _⟩
      case measure => simp [intOf]; omega
    · obtain rfl : k = 32 := by omega
      rw [upTo_full] at hb2
      have e : ((List.range 32).map (fun j => v8 (wb ws j))) = (wbytes ws).map v8 := by simp [wbytes]
      rw [e] at hb2
      have hsz : ((wbytes ws).map v8).toArray.size = 32 := by simp [wbytes_len]
      have hst : (upTo 32 0 (fun j => v8 (wb ws j)) (.int .u8 0)).size = ((wbytes ws).map v8).toArray.size := by rw [upTo_size, hsz]
      have hinfo : (Tryd.prog.info? 24).map (·.size) = some ((wbytes ws).map v8).toArray.size := by rw [hsz]; exact Tryd.info24s
      have hone := one8 (wbytes ws)
      have HB1 := hb1
      have HB2 := hb2
      clear e hb1 hb2
      generalize hz : ((wbytes ws).map v8).toArray = bytes at *
      go_wp2_with (first | (refine wpList_load_row rfl 24 _ rfl (w.heap.size + 1 + 1) rfl 24 _ (0, 0) _ HB2 Tryd.underlying24 rfl hinfo ?_) | (refine wpList_store_row rfl 24 _ _ rfl (w.heap.size + 1) _ rfl rfl 24 _ HB1 hinfo hst hone ?_))
      refine bodyPost_ret (v := .agg bytes) (results_cell_row Tryd.results49 _ _ (w.heap.size + 1) 24 bytes (0, 0) _ rfl (HB1.setRow _) Tryd.underlying24 rfl hinfo) rfl ⟨ret_agg hz.symm, ?_⟩
      exact Below.setRow hbl _ _ (by omega)

end Go.Proofs.YthophonofaaafaaDoor
namespace Go.Proofs.YthophonofaaafaaDoor
open Go.RowKit

theorem Tryd.info101s : (Tryd.prog.info? 101).map (·.size) = some 73 := by kernel_rfl

/-- The hash of a text that follows the words s. -/
def sumOf (s : St) (d : List UInt8) (len : Nat) : List UInt8 := wbytes (wordsOf s (d ++ endOf len)).list

theorem hash_one (s : St) (p : List UInt8) (n : Nat) : (hashCells s p n).all (·.oneCell') = true := by
  unfold hashCells
  refine all_oneCell_toArray fun v hv => ?_
  simp only [List.mem_append, List.mem_map, List.mem_cons, List.not_mem_nil, or_false] at hv
  rcases hv with ⟨x, _, rfl⟩ | ⟨x, _, rfl⟩ | rfl <;> rfl

set_option maxRecDepth 100000 in
set_option maxHeartbeats 1000000 in
theorem hsum_any (g : Nat) (s : St) (d : List UInt8) (len : Nat) (w : World) (hh : HashAt w g s d len) (hmod : len % 64 = d.length % 64) (hlen : len < 576460752303423488) (hgk : 1 < w.heap.size) (hk : Tab w 1 (kWords.map v32)) :
    Calls Tryd.prog 53 #[.pointer (some ⟨g, 0, none⟩)] w fun e w' => e = .returned (.agg ((sumOf s d len).map v8).toArray) ∧ Below w.heap.size w w' := by
  have hgl := hh.lt
  have hpl := pad64_len (restOf d) (by rw [restOf_len]; omega)
  have hh' := hh
  unfold HashAt at hh'
  have hi : (Tryd.prog.info? 101).map (·.size) = some (hashCells (wordsOf s d) (pad64 (restOf d)) len).size := by rw [hash_size _ _ _ hpl]; exact Tryd.info101s
  have hone := hash_one (wordsOf s d) (pad64 (restOf d)) len
  have HS : Hid ((hashCells (wordsOf s d) (pad64 (restOf d)) len).size = 73) := hash_size _ _ _ hpl
  have hc72 := hh'.cell (j := 72) (v := .int .u64 (len : Int)) (by simp [hashCells, St.list, hpl])
  have HHC : Hid (∀ w' g', Blk w' g' 101 (hashCells (wordsOf s d) (pad64 (restOf d)) len) → HashAt w' g' s d len) := fun _ _ h => h
  generalize hashCells (wordsOf s d) (pad64 (restOf d)) len = HC at hh' hi hone HS HHC
  have hel := endOf_len len
  have hel2 : (endOf len).length ≤ 72 := by omega
  have hz : ∀ w : World, (zeroValue 101).run Tryd.prog w = .ok (.agg (hashCells ⟨0#32, 0#32, 0#32, 0#32, 0#32, 0#32, 0#32, 0#32⟩ (List.replicate 64 0) 0)) w := fun w => by kernel_rfl
  have HZ : Hid ((hashCells ⟨0#32, 0#32, 0#32, 0#32, 0#32, 0#32, 0#32, 0#32⟩ (List.replicate 64 0) 0).size = 73) := hash_size _ _ _ (by simp)
  generalize hashCells ⟨0#32, 0#32, 0#32, 0#32, 0#32, 0#32, 0#32, 0#32⟩ (List.replicate 64 0) 0 = ZC at hz HZ
  go_enter Tryd.func53, Tryd.ntmps53
  go_wp2_with (first | (refine wpList_load_row rfl 101 _ rfl g rfl 101 HC (0, 0) _ (by exact hh'.alloc _) Tryd.underlying101 rfl hi ?_) | (refine store_blk rfl 101 _ _ rfl rfl (w.heap.size + 1) HC rfl rfl 101 _ (by exact Blk.newAt _ _ _ _ (by simp)) hi (by exact HZ.out.trans HS.out.symm) hone ?_; intro w3 hb3 hg3 hs3; have hB3 := below_grown (((Below.refl w.heap.size w).alloc (Nat.le_refl _) _).alloc (by simp) _) hg3 (by simp; omega) (fun q hq => by cases hq; omega); have c3 := (hB3.cell (p := ⟨g, 72, none⟩) hgl).trans hc72; have hA3 := ((Blk.new w 24 _).alloc _).grown hg3 (by simp); simp only [World.size_alloc] at hs3; clear hz hg3) | (go_at_call 69; refine (ending_any len (by omega) _).mono ?_; rintro e w4 ⟨v4, rfl, ho4, hb4⟩))
  have hsz4 := hb4.size
  have hH4 : HashAt w4 (w.heap.size + 1) s d len := HHC.out _ _ (hb3.below hb4 (by omega))
  have hB4 : Below w.heap.size w w4 := hB3.trans (hb4.mono (by omega))
  have hT4 := hk.below hB4 hgk
  have hap4 : ∀ b off c n, v4 = .slice (some ⟨b, off, none⟩) n c → 0 < n → b ≠ w.heap.size + 1 := fun b off c n h _ => by
    have := (ho4.blocks b (by rw [h]; rfl)).1
    omega
  refine (write_any (w.heap.size + 1) s d len v4 (endOf len) w4 hH4 hmod ho4.seg hap4 (by omega) (by omega) hT4).mono ?_
  rintro e w5 ⟨rfl, hH5, hg5⟩
  have hA5 := ((hA3.below hb4 (by omega)).grown hg5 (by simp)).of_eq (show _ = upTo 32 0 (fun _ => Value.int .u8 0) (.int .u8 0) from rfl)
  have hB5 : Below w.heap.size w w5 := below_grown hB4 hg5 (by omega) (fun q hq => by cases hq; omega)
  have hl5 := hH5.lt
  have rW := hH5.range 0 _ (hash_words_at (wordsOf s (d ++ endOf len)) _ _)
  have HSUM : Hid (sumOf s d len = wbytes (wordsOf s (d ++ endOf len)).list) := rfl
  have HWB : Hid (∀ W, Calls Tryd.prog 70 #[.agg ((wordsOf s (d ++ endOf len)).list.map v32).toArray] W fun e w' => e = .returned (.agg ((wbytes (wordsOf s (d ++ endOf len)).list).map v8).toArray) ∧ Below W.heap.size W w') := fun W => wordBytes_any _ rfl W
  have hwl : ((wordsOf s (d ++ endOf len)).list.map v32).length = 8 := rfl
  clear hH4 hH5 hg5 hap4 ho4 hb4 hA3 hB3 hB4 hT4 hb3 c3 hel hel2 hh hh' hi hone HHC hc72
  generalize hSM : sumOf s d len = SM at HSUM
  have HSM : Hid (sumOf s d len = SM) := hSM
  clear hSM
  have hsl := wbytes_len (wordsOf s (d ++ endOf len)).list
  rw [← HSUM.out] at HWB hsl
  generalize (wordsOf s (d ++ endOf len)).list.map v32 = WL at rW HWB hwl
  clear HSUM
  have hi24 : (Tryd.prog.info? 24).map (·.size) = some (SM.map v8).toArray.size := by rw [List.size_toArray, List.length_map, hsl]; exact Tryd.info24s
  have hi47 : (Tryd.prog.info? 68).map (·.size) = some WL.length := by rw [hwl]; exact Tryd.info68s
  have hst : (upTo 32 0 (fun _ => Value.int .u8 0) (.int .u8 0)).size = (SM.map v8).toArray.size := by rw [upTo_size, List.size_toArray, List.length_map, hsl]
  have hone := one8 SM
  go_wp2_with (first | (refine wpList_load_mid rfl 68 _ rfl (w.heap.size + 1) 0 rfl WL _ rW Tryd.underlying68 rfl hi47 ?_) | (go_at_call 70; refine (HWB.out _).mono ?_; rintro e w6 ⟨rfl, hb6⟩) | (refine store_blk rfl 24 _ _ rfl rfl w.heap.size _ rfl rfl 24 _ (by exact hA5.below hb6 (by omega)) hi24 hst hone ?_; intro w7 hb7 hg7 hs7))
  refine bodyPost_ret (v := .agg (SM.map v8).toArray) (results_cell_row Tryd.results53 _ _ w.heap.size 24 _ (0, 0) _ rfl hb7 Tryd.underlying24 rfl hi24) rfl ⟨ret_agg (by rw [HSM.out]), ?_⟩
  exact below_grown (hB5.trans (hb6.mono (by omega))) hg7 (by have := hb6.size; omega) (fun q hq => by cases hq; omega)

/-- The hash of bytes. -/
def shaOf (b : List UInt8) : List UInt8 := sumOf St.start b b.length
theorem hash_new (w : World) (g : Nat) (h : Blk w g 101 (hashCells St.start (List.replicate 64 0) 0)) : HashAt w g St.start [] 0 := h

theorem new_hash (w : World) (ht : Tab w 0 (St.start.list.map v32)) :
    Calls Tryd.prog 51 #[] w fun e w' => e = .returned (.pointer (some ⟨w.heap.size, 0, none⟩)) ∧ HashAt w' w.heap.size St.start [] 0 ∧ Below w.heap.size w w' := by
  refine (new_any w ht).mono ?_
  rintro e w' ⟨rfl, rfl⟩
  exact ⟨rfl, hash_new _ _ (Blk.new _ _ _), (Below.refl _ _).alloc (Nat.le_refl _) _⟩

set_option maxRecDepth 100000 in
set_option maxHeartbeats 1000000 in
theorem sum_any (x : Value) (bs : List UInt8) (w : World) (hseg : Seg w x bs) (hlen : bs.length < 576460752303423488) (hgf : 0 < w.heap.size) (hf : Tab w 0 (St.start.list.map v32)) (hgk : 1 < w.heap.size) (hk : Tab w 1 (kWords.map v32)) :
    Calls Tryd.prog 30 #[x] w fun e w' => e = .returned (.agg ((shaOf bs).map v8).toArray) ∧ Below w.heap.size w w' := by
  have hsl : (shaOf bs).length = 32 := wbytes_len _
  have hi24 : (Tryd.prog.info? 24).map (·.size) = some ((shaOf bs).map v8).toArray.size := by rw [List.size_toArray, List.length_map, hsl]; exact Tryd.info24s
  have hst : (upTo 32 0 (fun _ => Value.int .u8 0) (.int .u8 0)).size = ((shaOf bs).map v8).toArray.size := by rw [upTo_size, List.size_toArray, List.length_map, hsl]
  have hone := one8 (shaOf bs)
  go_enter Tryd.func30, Tryd.ntmps30
  go_wp2_with fail
  have hA1 := (Blk.new w 24 (upTo 32 0 (fun _ => Value.int .u8 0) (.int .u8 0)))
  have hB1 := (Below.refl w.heap.size w).alloc (Nat.le_refl _) (.cells (upTo 32 0 (fun _ => Value.int .u8 0) (.int .u8 0)) 24)
  refine (new_hash _ (by exact hf.below hB1 hgf)).mono ?_
  rintro e w1 ⟨rfl, hH1, hb1⟩
  have hs1 := hb1.size
  simp only [World.size_alloc] at hs1 hH1
  have hB1' : Below w.heap.size w w1 := hB1.trans (hb1.mono (by simp))
  have hA1' : Blk w1 w.heap.size 24 (upTo 32 0 (fun _ => Value.int .u8 0) (.int .u8 0)) := hA1.below hb1 (by simp)
  have hseg1 : Seg w1 x bs := hseg.below hB1' (Nat.le_refl _)
  have hap1 : ∀ b off c n, x = .slice (some ⟨b, off, none⟩) n c → 0 < n → b ≠ w.heap.size + 1 := fun b off c n h h0 => by
    rcases hseg with ⟨_, ao, c', rfl, _⟩ | ⟨b', off', c', rfl, _, _, hb'⟩
    · cases h; omega
    · cases h; omega
  have hT1 := hk.below hB1' hgk
  clear hA1 hB1 hb1
  go_wp2_with fail
  refine (write_any (w.heap.size + 1) St.start [] 0 x bs w1 hH1 rfl hseg1 hap1 (by omega) (by omega) hT1).mono ?_
  rintro e w2 ⟨rfl, hH2, hg2⟩
  rw [List.nil_append, Nat.zero_add] at hH2
  have hA2 := hA1'.grown hg2 (by simp)
  have hB2 : Below w.heap.size w w2 := below_grown hB1' hg2 (by omega) (fun q hq => by cases hq; omega)
  have hs2 := hB2.size
  have hT2 := hk.below hB2 hgk
  clear hg2 hap1 hseg1 hH1 hT1 hA1' hB1'
  go_wp2_with fail
  refine (hsum_any (w.heap.size + 1) St.start bs bs.length w2 hH2 rfl hlen (by omega) hT2).mono ?_
  rintro e w3 ⟨rfl, hb3⟩
  have hA3 := hA2.below hb3 hA2.lt
  have hB3 : Below w.heap.size w w3 := hB2.trans (hb3.mono (by omega))
  have hs3 := hB3.size
  clear hA2 hB2 hH2 hT2 hb3


  go_wp2_with (refine store_blk rfl 24 _ _ rfl rfl w.heap.size ((shaOf bs).map v8).toArray rfl (by rfl) 24 _ (by exact hA3) hi24 hst hone ?_; intro w7 hb7 hg7 hs7)
  refine bodyPost_ret (v := .agg ((shaOf bs).map v8).toArray) (results_cell_row Tryd.results30 _ _ w.heap.size 24 _ (0, 0) _ rfl hb7 Tryd.underlying24 rfl hi24) rfl ⟨rfl, ?_⟩
  exact below_grown hB3 hg7 hs3 (fun q hq => by cases hq; omega)
end Go.Proofs.YthophonofaaafaaDoor
