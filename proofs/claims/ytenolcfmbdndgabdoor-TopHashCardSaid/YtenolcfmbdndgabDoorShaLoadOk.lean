/-
  What is proved here: of bytes that may be a Save, sha.Load answers a new hash that goes on with what they tell, and no error.
  Conditions: at most a million bytes.
-/
import Derived.Test.YtenolcfmbdndgabDoorShaLoad
import Derived.Deep.RegionWith
namespace Go.Proofs.YtenolcfmbdndgabDoor
open Go.RowKit

/-- The words that bytes of a Save tell, the first k of them; the others are 0. -/
def wordsTo (bs : List UInt8) (k : Nat) : List (BitVec 32) := (List.range 8).map fun i => if i < k then wordAt bs i else 0#32
def stIn (bs : List UInt8) : St := ⟨wordAt bs 0, wordAt bs 1, wordAt bs 2, wordAt bs 3, wordAt bs 4, wordAt bs 5, wordAt bs 6, wordAt bs 7⟩
theorem stIn_list (bs : List UInt8) : (stIn bs).list = wordsTo bs 8 := rfl
/-- A hash's cells with any eight words. -/
def rawCells (ws : List (BitVec 32)) (part : List UInt8) (len : Nat) : Array Value := ((ws.map v32) ++ ((part.map v8) ++ [Value.int .u64 (len : Int)])).toArray
theorem rawCells_set (bs part : List UInt8) (len k : Nat) (h : k < 8) : (rawCells (wordsTo bs k) part len).setIfInBounds k (v32 (wordAt bs k)) = rawCells (wordsTo bs (k + 1)) part len := by
  unfold rawCells
  rw [List.setIfInBounds_toArray, List.set_append_left _ _ (by simp [wordsTo]; omega)]
  congr 2
  apply List.ext_getElem
  · simp [wordsTo]
  · intro i h1 h2
    simp only [List.length_set, List.length_map, wordsTo, List.length_range] at h1
    rw [List.getElem_set]
    simp only [wordsTo, List.getElem_map, List.getElem_range]
    by_cases he : k = i
    · subst he; simp
    · by_cases hl : i < k
      · simp [he, hl, show i < k + 1 by omega]
      · simp [he, hl, show ¬ i < k + 1 by omega]
theorem rawCells_at (ws : List (BitVec 32)) (part : List UInt8) (len k : Nat) (h : k < ws.length) : (rawCells ws part len)[k]? = some (v32 (ws.getD k 0#32)) := by
  unfold rawCells
  rw [List.getElem?_toArray, List.getElem?_append_left (by simpa using h)]
  simp [h, List.getD]

set_option maxRecDepth 100000 in
set_option maxHeartbeats 1000000 in
theorem load_ok (x : Value) (bs : List UInt8) (w : World) (hm : bs.length ≤ 1000000) (hseg : Seg w x bs) (hok : saveOk bs) :
    Calls Tryd.prog 14 #[x] w fun e w' => ∃ g, e = .returned (.tuple #[.pointer (some ⟨g, 0, none⟩), .int .i64 0]) ∧ w.heap.size ≤ g ∧ Blk w' g 60 (hashCells (stIn bs) (pad64 (bs.drop 40)) (lenIn bs)) ∧ Below w.heap.size w w' := by
  obtain ⟨h40, hN1, hN2⟩ := hok
  obtain ⟨b, off, c, rfl, hc, hr, hb⟩ : ∃ b off c, x = .slice (some ⟨b, off, none⟩) bs.length c ∧ bs.length ≤ c ∧ Row w b off bs ∧ b < w.heap.size := by
    rcases hseg with ⟨h, _⟩ | ⟨b, off, c', h, h2, h3, h4⟩
    · rw [h] at h40; simp at h40
    · exact ⟨b, off, c', h, h2, h3, h4⟩
  have l1 := slice_fix b off bs.length c 32 40 (by omega) (by omega) (by omega)
  have hN : Hid (∀ w' : World, Below w.heap.size w w' → Calls Tryd.prog 27 #[.slice (some ⟨b, off + 32, none⟩) 8 (c - 32)] w' fun e w'' => e = .returned (.int .u64 (lenIn bs : Int)) ∧ w'' = w') := fun w' hw => number_any b (off + 32) 8 (c - 32) _ w' (((hr.below hw hb).drop 32).take 8) (by simp; omega) (by omega)
  have hne : (((bs.length - 40 : Nat) : Int) != (lenIn bs : Int) % 64) = false := by
    have : ((bs.length - 40 : Nat) : Int) = (lenIn bs : Int) % 64 := by omega
    simpa using this
  obtain ⟨N, hNe⟩ : ∃ N, N = lenIn bs := ⟨_, rfl⟩
  rw [← hNe] at hN1 hN2 hN hne ⊢
  clear hNe
  obtain ⟨ZP, hZP⟩ : ∃ ZP : List UInt8, ZP = List.replicate 64 0 := ⟨_, rfl⟩
  have HZP : Hid (ZP = List.replicate 64 0) := hZP
  have hbl : Tryd.prog.built 60 [(2, .int .u64 (N : Int))] = some (rawCells (wordsTo bs 0) ZP N) := by rw [hZP]; exact built_len N
  clear hZP
  by_cases hc40 : c = 40
  · subst hc40
    go_enter Tryd.func14, Tryd.ntmps14
    go_wp2_with fail
    refine (hN.out w (Below.refl _ _)).mono ?_
    rintro e w1 ⟨rfl, rfl⟩
    go_wp2_with (refine build_as rfl 60 _ rfl (rawCells (wordsTo bs 0) ZP N) (by exact hbl) ?_)
    clear hbl hN l1 hne
    go_loopw [29] (fun i wr => ∃ k : Nat, k ≤ 8 ∧ i = .int .i64 k ∧ Blk wr w1.heap.size 60 (rawCells (wordsTo bs k) ZP N) ∧ Below w1.heap.size w1 wr) (fun i _ => 8 - (intOf i).toNat)
    case atStart => exact ⟨0, by omega, rfl, Blk.new _ _ _, (Below.refl _ _).alloc (Nat.le_refl _) _⟩
    case round =>
      obtain ⟨k, hk, rfl, hB, hb2⟩ := hrel
      by_cases hlt : k < 8
      · have hls := slice_fix b off bs.length 40 (4 * k) (4 * k + 4) (by omega) (by omega) (by omega)
        rw [show 4 * k + 4 - 4 * k = 4 by omega, show ((4 * k + 4 : Nat) : Int) = 4 * (k : Int) + 4 by omega, show ((4 * k : Nat) : Int) = 4 * (k : Int) by omega] at hls
        have hw1 : IntKind.i64.wrap (4 * (k : Int)) = 4 * (k : Int) := by rw [IntKind.wrap_i64]; omega
        have hw2 : IntKind.i64.wrap (4 * (k : Int) + 4) = 4 * (k : Int) + 4 := by rw [IntKind.wrap_i64]; omega
        have hNk : Hid (∀ w' : World, Below w1.heap.size w1 w' → Calls Tryd.prog 27 #[.slice (some ⟨b, off + 4 * k, none⟩) 4 (40 - 4 * k)] w' fun e w'' => e = .returned (.int .u64 (beNat ((bs.drop (4 * k)).take 4) : Int)) ∧ w'' = w') := fun w' hw => number_any b (off + 4 * k) 4 (40 - 4 * k) _ w' (((hr.below hw hb).drop (4 * k)).take 4) (by simp; omega) (by omega)
        have hwf := word_form bs k
        have hbn : beNat ((bs.drop (4 * k)).take 4) < 4294967296 := Nat.lt_of_lt_of_le (beNat_lt _) (Nat.pow_le_pow_right (n := 256) (by omega) (show _ ≤ 4 by simp; omega))
        generalize beNat ((bs.drop (4 * k)).take 4) = M at hNk hwf hbn
        have hce := hB.cell (rawCells_at (wordsTo bs k) ZP N k (by simp [wordsTo]; omega))
        have hfz := hB.frozen k
        have R := (rawCells_set bs ZP N k hlt) ▸ hB.set k (v32 (wordAt bs k))
        generalize (wordsTo bs k).getD k 0#32 = y at hce
        generalize wordAt bs k = W at hwf R
        go_wp2_with fail
        go_region_with (go_at_call 27; refine (hNk.out _ (by first | exact hb2.drew | exact hb2)).mono ?_; rintro e w3 ⟨rfl, rfl⟩)
        go_wp2
        go_roundw
        case rel => exact ⟨k + 1, by omega, by go_num, R.drew, (hb2.setCell (by simp) _).drew⟩
        case measure => simp [intOf]; omega
      · obtain hk8 : k = 8 := by omega
        rw [hk8] at hB
        have hB' : Blk wr w1.heap.size 60 (hashCells (stIn bs) ZP N) := hB
        have hzl : ZP.length = 64 := by rw [HZP.out]; simp
        have hdl : (bs.drop 40).length = N % 64 := by simp; omega
        have hcp := run_copy_row (P := Tryd.prog) wr 22 22 3 5 w1.heap.size 8 64 64 ⟨b, off, none⟩ (N % 64) (40 - 40) _ 60 ((bs.drop 40).map v8) Tryd.underlying22 (by kernel_rfl) hB' (by rw [List.length_map, hdl]; exact (Nat.min_eq_left (by omega)).symm) (Row.at (bs := bs.drop 40) (by rw [show bs.drop 40 = [] from List.drop_eq_nil_of_le (by omega)]; exact fun j hj => by simp at hj)) (by rw [hash_size _ _ _ hzl, List.length_map]; omega) (one8l _)
        have R := hB'.setRow ((splice (hashCells (stIn bs) ZP N).toList 8 ((bs.drop 40).map v8)).toArray)
        have hfin : (splice (hashCells (stIn bs) ZP N).toList 8 ((bs.drop 40).map v8)).toArray = hashCells (stIn bs) (pad64 (bs.drop 40)) N := by
          have h1 := hash_copy (stIn bs) ZP (bs.drop 40) N 0 hzl (by omega)
          rw [Nat.add_zero] at h1
          rw [h1]
          have h2 := pad_splice [] (bs.drop 40) (by simp only [List.length_nil]; omega)
          rw [List.nil_append, List.length_nil] at h2
          rw [← h2, HZP.out]
          rfl
        rw [hfin] at R
        unfold splice at hfin
        rw [← List.append_assoc] at hfin
        rw [hfin] at hcp
        obtain ⟨FC, hFC⟩ : ∃ FC, FC = hashCells (stIn bs) (pad64 (bs.drop 40)) N := ⟨_, rfl⟩
        have HFC : Hid (FC = hashCells (stIn bs) (pad64 (bs.drop 40)) N) := hFC
        rw [← hFC] at hcp R
        clear hFC hfin
        go_wp2_with fail
        go_ret2
        exact ⟨w1.heap.size, rfl, Nat.le_refl _, by rw [← HFC.out]; exact R, Below.setRow hb2 _ _ (Nat.le_refl _)⟩
  · go_enter Tryd.func14, Tryd.ntmps14
    go_wp2_with fail
    refine (hN.out w (Below.refl _ _)).mono ?_
    rintro e w1 ⟨rfl, rfl⟩
    go_wp2_with (refine build_as rfl 60 _ rfl (rawCells (wordsTo bs 0) ZP N) (by exact hbl) ?_)
    clear hbl hN l1 hne
    go_loopw [29] (fun i wr => ∃ k : Nat, k ≤ 8 ∧ i = .int .i64 k ∧ Blk wr w1.heap.size 60 (rawCells (wordsTo bs k) ZP N) ∧ Below w1.heap.size w1 wr) (fun i _ => 8 - (intOf i).toNat)
    case atStart => exact ⟨0, by omega, rfl, Blk.new _ _ _, (Below.refl _ _).alloc (Nat.le_refl _) _⟩
    case round =>
      obtain ⟨k, hk, rfl, hB, hb2⟩ := hrel
      by_cases hlt : k < 8
      · have hls := slice_fix b off bs.length c (4 * k) (4 * k + 4) (by omega) (by omega) (by omega)
        rw [show 4 * k + 4 - 4 * k = 4 by omega, show ((4 * k + 4 : Nat) : Int) = 4 * (k : Int) + 4 by omega, show ((4 * k : Nat) : Int) = 4 * (k : Int) by omega] at hls
        have hw1 : IntKind.i64.wrap (4 * (k : Int)) = 4 * (k : Int) := by rw [IntKind.wrap_i64]; omega
        have hw2 : IntKind.i64.wrap (4 * (k : Int) + 4) = 4 * (k : Int) + 4 := by rw [IntKind.wrap_i64]; omega
        have hNk : Hid (∀ w' : World, Below w1.heap.size w1 w' → Calls Tryd.prog 27 #[.slice (some ⟨b, off + 4 * k, none⟩) 4 (c - 4 * k)] w' fun e w'' => e = .returned (.int .u64 (beNat ((bs.drop (4 * k)).take 4) : Int)) ∧ w'' = w') := fun w' hw => number_any b (off + 4 * k) 4 (c - 4 * k) _ w' (((hr.below hw hb).drop (4 * k)).take 4) (by simp; omega) (by omega)
        have hwf := word_form bs k
        have hbn : beNat ((bs.drop (4 * k)).take 4) < 4294967296 := Nat.lt_of_lt_of_le (beNat_lt _) (Nat.pow_le_pow_right (n := 256) (by omega) (show _ ≤ 4 by simp; omega))
        generalize beNat ((bs.drop (4 * k)).take 4) = M at hNk hwf hbn
        have hce := hB.cell (rawCells_at (wordsTo bs k) ZP N k (by simp [wordsTo]; omega))
        have hfz := hB.frozen k
        have R := (rawCells_set bs ZP N k hlt) ▸ hB.set k (v32 (wordAt bs k))
        generalize (wordsTo bs k).getD k 0#32 = y at hce
        generalize wordAt bs k = W at hwf R
        go_wp2_with fail
        go_region_with (go_at_call 27; refine (hNk.out _ (by first | exact hb2.drew | exact hb2)).mono ?_; rintro e w3 ⟨rfl, rfl⟩)
        go_wp2
        go_roundw
        case rel => exact ⟨k + 1, by omega, by go_num, R.drew, (hb2.setCell (by simp) _).drew⟩
        case measure => simp [intOf]; omega
      · obtain hk8 : k = 8 := by omega
        rw [hk8] at hB
        have hB' : Blk wr w1.heap.size 60 (hashCells (stIn bs) ZP N) := hB
        have hzl : ZP.length = 64 := by rw [HZP.out]; simp
        have hdl : (bs.drop 40).length = N % 64 := by simp; omega
        have hcp := run_copy_row (P := Tryd.prog) wr 22 22 3 5 w1.heap.size 8 64 64 ⟨b, off + 40, none⟩ (N % 64) (c - 40) _ 60 ((bs.drop 40).map v8) Tryd.underlying22 (by kernel_rfl) hB' (by rw [List.length_map, hdl]; exact (Nat.min_eq_left (by omega)).symm) ((hr.below hb2 hb).drop 40).at (by rw [hash_size _ _ _ hzl, List.length_map]; omega) (one8l _)
        have R := hB'.setRow ((splice (hashCells (stIn bs) ZP N).toList 8 ((bs.drop 40).map v8)).toArray)
        have hfin : (splice (hashCells (stIn bs) ZP N).toList 8 ((bs.drop 40).map v8)).toArray = hashCells (stIn bs) (pad64 (bs.drop 40)) N := by
          have h1 := hash_copy (stIn bs) ZP (bs.drop 40) N 0 hzl (by omega)
          rw [Nat.add_zero] at h1
          rw [h1]
          have h2 := pad_splice [] (bs.drop 40) (by simp only [List.length_nil]; omega)
          rw [List.nil_append, List.length_nil] at h2
          rw [← h2, HZP.out]
          rfl
        rw [hfin] at R
        unfold splice at hfin
        rw [← List.append_assoc] at hfin
        rw [hfin] at hcp
        obtain ⟨FC, hFC⟩ : ∃ FC, FC = hashCells (stIn bs) (pad64 (bs.drop 40)) N := ⟨_, rfl⟩
        have HFC : Hid (FC = hashCells (stIn bs) (pad64 (bs.drop 40)) N) := hFC
        rw [← hFC] at hcp R
        clear hFC hfin
        go_wp2_with fail
        go_ret2
        exact ⟨w1.heap.size, rfl, Nat.le_refl _, by rw [← HFC.out]; exact R, Below.setRow hb2 _ _ (Nat.le_refl _)⟩
end Go.Proofs.YtenolcfmbdndgabDoor
