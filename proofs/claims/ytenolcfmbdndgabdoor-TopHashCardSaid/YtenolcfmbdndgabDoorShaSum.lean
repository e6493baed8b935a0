/-
  What is proved here: Sum of a hash that goes on, and sha.Sum, answer the hash of what was written: the words behind the text and its ending.
  Conditions: the variables firstWords and roundWords hold the words of SHA-256; the lengths stay below 2^59.
-/
import Derived.Test.YtenolcfmbdndgabDoorProg
import Derived.Test.YtenolcfmbdndgabDoorShaWrite
import Derived.Test.YtenolcfmbdndgabDoorShaEnding
import Derived.Test.YtenolcfmbdndgabDoorShaBytes
namespace Go.Proofs.YtenolcfmbdndgabDoor
open Go.RowKit

theorem Tryd.info60s : (Tryd.prog.info? 60).map (·.size) = some 73 := by kernel_rfl

/-- The hash of a text that follows the words s. -/
def sumOf (s : St) (d : List UInt8) (len : Nat) : List UInt8 := wbytes (wordsOf s (d ++ endOf len)).list

theorem hash_one (s : St) (p : List UInt8) (n : Nat) : (hashCells s p n).all (·.oneCell') = true := by
  unfold hashCells
  refine all_oneCell_toArray fun v hv => ?_
  simp only [List.mem_append, List.mem_map, List.mem_cons, List.not_mem_nil, or_false] at hv
  rcases hv with ⟨x, _, rfl⟩ | ⟨x, _, rfl⟩ | rfl <;> rfl

set_option maxRecDepth 100000 in
set_option maxHeartbeats 1000000 in
theorem hsum_any (g : Nat) (s : St) (d : List UInt8) (len : Nat) (w : World) (hh : HashAt w g s d len) (hmod : len % 64 = d.length % 64) (hlen : len < 576460752303423488) (hgk : 1 < w.heap.size) (hk : Tab w 1 (kWords.map v32)) :
    Calls Tryd.prog 18 #[.pointer (some ⟨g, 0, none⟩)] w fun e w' => e = .returned (.agg ((sumOf s d len).map v8).toArray) ∧ Below w.heap.size w w' := by
  have hgl := hh.lt
  have hpl := pad64_len (restOf d) (by rw [restOf_len]; omega)
  have hh' := hh
  unfold HashAt at hh'
  have hi : (Tryd.prog.info? 60).map (·.size) = some (hashCells (wordsOf s d) (pad64 (restOf d)) len).size := by rw [hash_size _ _ _ hpl]; exact Tryd.info60s
  have hone := hash_one (wordsOf s d) (pad64 (restOf d)) len
  have HS : Hid ((hashCells (wordsOf s d) (pad64 (restOf d)) len).size = 73) := hash_size _ _ _ hpl
  have hc72 := hh'.cell (j := 72) (v := .int .u64 (len : Int)) (by simp [hashCells, St.list, hpl])
  have HHC : Hid (∀ w' g', Blk w' g' 60 (hashCells (wordsOf s d) (pad64 (restOf d)) len) → HashAt w' g' s d len) := fun _ _ h => h
  generalize hashCells (wordsOf s d) (pad64 (restOf d)) len = HC at hh' hi hone HS HHC
  have hel := endOf_len len
  have hel2 : (endOf len).length ≤ 72 := by omega
  have hz : ∀ w : World, (zeroValue 60).run Tryd.prog w = .ok (.agg (hashCells ⟨0#32, 0#32, 0#32, 0#32, 0#32, 0#32, 0#32, 0#32⟩ (List.replicate 64 0) 0)) w := fun w => by kernel_rfl
  have HZ : Hid ((hashCells ⟨0#32, 0#32, 0#32, 0#32, 0#32, 0#32, 0#32, 0#32⟩ (List.replicate 64 0) 0).size = 73) := hash_size _ _ _ (by simp)
  generalize hashCells ⟨0#32, 0#32, 0#32, 0#32, 0#32, 0#32, 0#32, 0#32⟩ (List.replicate 64 0) 0 = ZC at hz HZ
  go_enter Tryd.func18, Tryd.ntmps18
  go_wp2_with (first | (refine wpList_load_row rfl 60 _ rfl g rfl 60 HC (0, 0) _ (by exact hh'.alloc _) Tryd.underlying60 rfl hi ?_) | (refine store_blk rfl 60 _ _ rfl rfl (w.heap.size + 1) HC rfl rfl 60 _ (by exact Blk.newAt _ _ _ _ (by simp)) hi (by exact HZ.out.trans HS.out.symm) hone ?_; intro w3 hb3 hg3 hs3; have hB3 := below_grown (((Below.refl w.heap.size w).alloc (Nat.le_refl _) _).alloc (by simp) _) hg3 (by simp; omega) (fun q hq => by cases hq; omega); have c3 := (hB3.cell (p := ⟨g, 72, none⟩) hgl).trans hc72; have hA3 := ((Blk.new w 25 _).alloc _).grown hg3 (by simp); simp only [World.size_alloc] at hs3; clear hz hg3) | (go_at_call 34; refine (ending_any len (by omega) _).mono ?_; rintro e w4 ⟨v4, rfl, ho4, hb4⟩))
  have hsz4 := hb4.size
  have hH4 : HashAt w4 (w.heap.size + 1) s d len := HHC.out _ _ (hb3.below hb4 (by omega))
  have hB4 : Below w.heap.size w w4 := hB3.trans (hb4.mono (by omega))
  have hT4 := hk.below hB4 hgk
  have hap4 : ∀ b off c n, v4 = .slice (some ⟨b, off, none⟩) n c → 0 < n → b ≠ w.heap.size + 1 := fun b off c n h _ => by
    have := (ho4.blocks b (by rw [h]; rfl)).1
    omega
  refine (write_any (w.heap.size + 1) s d len v4 (endOf len) w4 hH4 hmod ho4.seg hap4 (by omega) (by omega) hT4).mono ?_
  rintro e w5 ⟨rfl, hH5, hg5⟩
  have hA5 := ((hA3.below hb4 (by omega)).grown hg5 (by simp)).of_eq (show _ = upTo 32 0 (fun _ => Value.int .u8 0) (.int .u8 0) from rfl)
  have hB5 : Below w.heap.size w w5 := below_grown hB4 hg5 (by omega) (fun q hq => by cases hq; omega)
  have hl5 := hH5.lt
  have rW := hH5.range 0 _ (hash_words_at (wordsOf s (d ++ endOf len)) _ _)
  have HSUM : Hid (sumOf s d len = wbytes (wordsOf s (d ++ endOf len)).list) := rfl
  have HWB : Hid (∀ W, Calls Tryd.prog 28 #[.agg ((wordsOf s (d ++ endOf len)).list.map v32).toArray] W fun e w' => e = .returned (.agg ((wbytes (wordsOf s (d ++ endOf len)).list).map v8).toArray) ∧ Below W.heap.size W w') := fun W => wordBytes_any _ rfl W
  have hwl : ((wordsOf s (d ++ endOf len)).list.map v32).length = 8 := rfl
  clear hH4 hH5 hg5 hap4 ho4 hb4 hA3 hB3 hB4 hT4 hb3 c3 hel hel2 hh hh' hi hone HHC hc72
  generalize hSM : sumOf s d len = SM at HSUM
  have HSM : Hid (sumOf s d len = SM) := hSM
  clear hSM
  have hsl := wbytes_len (wordsOf s (d ++ endOf len)).list
  rw [← HSUM.out] at HWB hsl
  generalize (wordsOf s (d ++ endOf len)).list.map v32 = WL at rW HWB hwl
  clear HSUM
  have hi24 : (Tryd.prog.info? 25).map (·.size) = some (SM.map v8).toArray.size := by rw [List.size_toArray, List.length_map, hsl]; exact Tryd.info25s
  have hi47 : (Tryd.prog.info? 56).map (·.size) = some WL.length := by rw [hwl]; exact Tryd.info56s
  have hst : (upTo 32 0 (fun _ => Value.int .u8 0) (.int .u8 0)).size = (SM.map v8).toArray.size := by rw [upTo_size, List.size_toArray, List.length_map, hsl]
  have hone := one8 SM
  go_wp2_with (first | (refine wpList_load_mid rfl 56 _ rfl (w.heap.size + 1) 0 rfl WL _ rW Tryd.underlying56 rfl hi47 ?_) | (go_at_call 28; refine (HWB.out _).mono ?_; rintro e w6 ⟨rfl, hb6⟩) | (refine store_blk rfl 25 _ _ rfl rfl w.heap.size _ rfl rfl 25 _ (by exact hA5.below hb6 (by omega)) hi24 hst hone ?_; intro w7 hb7 hg7 hs7))
  refine bodyPost_ret (v := .agg (SM.map v8).toArray) (results_cell_row Tryd.results18 _ _ w.heap.size 25 _ (0, 0) _ rfl hb7 Tryd.underlying25 rfl hi24) rfl ⟨ret_agg (by rw [HSM.out]), ?_⟩
  exact below_grown (hB5.trans (hb6.mono (by omega))) hg7 (by have := hb6.size; omega) (fun q hq => by cases hq; omega)

/-- The hash of bytes. -/
def shaOf (b : List UInt8) : List UInt8 := sumOf St.start b b.length
theorem hash_new (w : World) (g : Nat) (h : Blk w g 60 (hashCells St.start (List.replicate 64 0) 0)) : HashAt w g St.start [] 0 := h

theorem new_hash (w : World) (ht : Tab w 0 (St.start.list.map v32)) :
    Calls Tryd.prog 11 #[] w fun e w' => e = .returned (.pointer (some ⟨w.heap.size, 0, none⟩)) ∧ HashAt w' w.heap.size St.start [] 0 ∧ Below w.heap.size w w' := by
  refine (new_any w ht).mono ?_
  rintro e w' ⟨rfl, rfl⟩
  exact ⟨rfl, hash_new _ _ (Blk.new _ _ _), (Below.refl _ _).alloc (Nat.le_refl _) _⟩

set_option maxRecDepth 100000 in
set_option maxHeartbeats 1000000 in
theorem sum_any (x : Value) (bs : List UInt8) (w : World) (hseg : Seg w x bs) (hlen : bs.length < 576460752303423488) (hgf : 0 < w.heap.size) (hf : Tab w 0 (St.start.list.map v32)) (hgk : 1 < w.heap.size) (hk : Tab w 1 (kWords.map v32)) :
    Calls Tryd.prog 10 #[x] w fun e w' => e = .returned (.agg ((shaOf bs).map v8).toArray) ∧ Below w.heap.size w w' := by
  have hsl : (shaOf bs).length = 32 := wbytes_len _
  have hi24 : (Tryd.prog.info? 25).map (·.size) = some ((shaOf bs).map v8).toArray.size := by rw [List.size_toArray, List.length_map, hsl]; exact Tryd.info25s
  have hst : (upTo 32 0 (fun _ => Value.int .u8 0) (.int .u8 0)).size = ((shaOf bs).map v8).toArray.size := by rw [upTo_size, List.size_toArray, List.length_map, hsl]
  have hone := one8 (shaOf bs)
  go_enter Tryd.func10, Tryd.ntmps10
  go_wp2_with fail
  have hA1 := (Blk.new w 25 (upTo 32 0 (fun _ => Value.int .u8 0) (.int .u8 0)))
  have hB1 := (Below.refl w.heap.size w).alloc (Nat.le_refl _) (.cells (upTo 32 0 (fun _ => Value.int .u8 0) (.int .u8 0)) 25)
  refine (new_hash _ (by exact hf.below hB1 hgf)).mono ?_
  rintro e w1 ⟨rfl, hH1, hb1⟩
  have hs1 := hb1.size
  simp only [World.size_alloc] at hs1 hH1
  have hB1' : Below w.heap.size w w1 := hB1.trans (hb1.mono (by simp))
  have hA1' : Blk w1 w.heap.size 25 (upTo 32 0 (fun _ => Value.int .u8 0) (.int .u8 0)) := hA1.below hb1 (by simp)
  have hseg1 : Seg w1 x bs := hseg.below hB1' (Nat.le_refl _)
  have hap1 : ∀ b off c n, x = .slice (some ⟨b, off, none⟩) n c → 0 < n → b ≠ w.heap.size + 1 := fun b off c n h h0 => by
    rcases hseg with ⟨_, ao, c', rfl, _⟩ | ⟨b', off', c', rfl, _, _, hb'⟩
    · cases h; omega
    · cases h; omega
  have hT1 := hk.below hB1' hgk
  clear hA1 hB1 hb1
  go_wp2_with fail
  refine (write_any (w.heap.size + 1) St.start [] 0 x bs w1 hH1 rfl hseg1 hap1 (by omega) (by omega) hT1).mono ?_
  rintro e w2 ⟨rfl, hH2, hg2⟩
  rw [List.nil_append, Nat.zero_add] at hH2
  have hA2 := hA1'.grown hg2 (by simp)
  have hB2 : Below w.heap.size w w2 := below_grown hB1' hg2 (by omega) (fun q hq => by cases hq; omega)
  have hs2 := hB2.size
  have hT2 := hk.below hB2 hgk
  clear hg2 hap1 hseg1 hH1 hT1 hA1' hB1'
  go_wp2_with fail
  refine (hsum_any (w.heap.size + 1) St.start bs bs.length w2 hH2 rfl hlen (by omega) hT2).mono ?_
  rintro e w3 ⟨rfl, hb3⟩
  have hA3 := hA2.below hb3 hA2.lt
  have hB3 : Below w.heap.size w w3 := hB2.trans (hb3.mono (by omega))
  have hs3 := hB3.size
  clear hA2 hB2 hH2 hT2 hb3


  go_wp2_with (refine store_blk rfl 25 _ _ rfl rfl w.heap.size ((shaOf bs).map v8).toArray rfl (by rfl) 25 _ (by exact hA3) hi24 hst hone ?_; intro w7 hb7 hg7 hs7)
  refine bodyPost_ret (v := .agg ((shaOf bs).map v8).toArray) (results_cell_row Tryd.results10 _ _ w.heap.size 25 _ (0, 0) _ rfl hb7 Tryd.underlying25 rfl hi24) rfl ⟨rfl, ?_⟩
  exact below_grown hB3 hg7 hs3 (fun q hq => by cases hq; omega)
end Go.Proofs.YtenolcfmbdndgabDoor
