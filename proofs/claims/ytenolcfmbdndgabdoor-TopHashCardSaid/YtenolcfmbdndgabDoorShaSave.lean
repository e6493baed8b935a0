/-
  What is proved here: Save of a hash that goes on answers its words, its length and its part.
  Conditions: the hash's block holds what was written; the length stays below 2^59.
-/
import Derived.Test.YtenolcfmbdndgabDoorProg
import Derived.Test.YtenolcfmbdndgabDoorShaSum
namespace Go.Proofs.YtenolcfmbdndgabDoor
open Go.RowKit

/-- A Save: the words, the length and what is no whole block yet. -/
def saveOf (s : St) (d : List UInt8) (len : Nat) : List UInt8 := wbytes (wordsOf s d).list ++ be8 len ++ restOf d

theorem slice_head (g R : Nat) (hR : R < 64) (w : World) :
    (Instr.sliceAt 57 (.pointer (some ⟨g, 8, none⟩)) none (some (.int .u64 (R : Int))) none).run Tryd.prog w = .ok (.slice (some ⟨g, 8, none⟩) R 64) w := by
  have ha : Tryd.prog.arrayLen 57 = 64 := by kernel_rfl
  have he : Tryd.prog.elem 57 = 5 := by kernel_rfl
  have hs : (sizeOf 5).run Tryd.prog w = .ok 1 w := by kernel_rfl
  rw [run_sliceAt_array_h w 57 ⟨g, 8, none⟩ (by rw [ha, he]; exact Tryd.underlying57) .u64 R (by omega) (by rw [ha]; omega), he, hs, ha]
  simp only [Result.andThen_ok, slicedAt, Int.toNat_natCast]
  rw [if_neg (by omega)]
  rfl

/-- A slice that only reads. -/
theorem still_slice {P : Program} {ops : Array Oper} {w : World} {Q : Act → Prop} {a : Act} {o : Oper} {rest : List Oper} (hgd : o.guard = none) (ty : TypeId) (x y : Operand) (ho : o.op = .slice ty x none (some y) none)
    (v : Value) (hr : (Instr.sliceAt ty (a.eval x) none (some (a.eval y)) none).run P w = .ok v w)
    (h : wpStill P ops w Q rest (a.put o.dst v)) : wpStill P ops w Q (o :: rest) a := by
  refine wpStill_step fun K hK => ?_
  rw [if_pos (by simp [Region.wanted, hgd])]
  unfold Oper.still execOp
  simp only [ho, Option.map_none, Option.map_some, Sem.run_bind, Sem.run_pure, hr, Result.andThen_ok, Oper.stillUpon]
  exact ⟨trivial, hK _ h⟩

set_option maxRecDepth 100000 in
set_option maxHeartbeats 1000000 in
theorem hsave_any (g : Nat) (s : St) (d : List UInt8) (len : Nat) (w : World) (hh : HashAt w g s d len) (hmod : len % 64 = d.length % 64) (hlen : len < 576460752303423488) :
    Calls Tryd.prog 15 #[.pointer (some ⟨g, 0, none⟩)] w fun e w' => ∃ v, e = .returned v ∧ Own w' w.heap.size v (saveOf s d len) ∧ Below w.heap.size w w' := by
  have hgl := hh.lt
  have hpl := pad64_len (restOf d) (by rw [restOf_len]; omega)
  have hh' := hh
  unfold HashAt at hh'
  have hc72 := hh'.cell (j := 72) (v := .int .u64 (len : Int)) (by simp [hashCells, St.list, hpl])
  have rW := hh'.range 0 _ (hash_words_at (wordsOf s d) _ _)
  have HWB : Hid (∀ W, Calls Tryd.prog 28 #[.agg ((wordsOf s d).list.map v32).toArray] W fun e w' => e = .returned (.agg ((wbytes (wordsOf s d).list).map v8).toArray) ∧ Below W.heap.size W w') := fun W => wordBytes_any _ rfl W
  have hwl : ((wordsOf s d).list.map v32).length = 8 := rfl
  have hsl := wbytes_len (wordsOf s d).list
  have HSV : Hid (saveOf s d len = wbytes (wordsOf s d).list ++ be8 len ++ restOf d) := rfl
  have rP0 : Row w g 8 (restOf d) := fun j hj => by
    have h := hh'.range 8 _ (hash_part_at (wordsOf s d) (pad64 (restOf d)) len) j (v8 (restOf d)[j]) (by rw [List.getElem?_map, pad64, List.getElem?_append_left hj, List.getElem?_eq_getElem hj]; rfl)
    simpa using h
  have hrl := restOf_len d
  rw [← hmod] at hrl
  generalize wbytes (wordsOf s d).list = SM at HWB hsl HSV
  generalize (wordsOf s d).list.map v32 = WL at rW HWB hwl
  have hi24 : (Tryd.prog.info? 25).map (·.size) = some (SM.map v8).toArray.size := by rw [List.size_toArray, List.length_map, hsl]; exact Tryd.info25s
  have hi47 : (Tryd.prog.info? 56).map (·.size) = some WL.length := by rw [hwl]; exact Tryd.info56s
  have hst : (upTo 32 0 (fun _ => Value.int .u8 0) (.int .u8 0)).size = (SM.map v8).toArray.size := by rw [upTo_size, List.size_toArray, List.length_map, hsl]
  have hone := one8 SM
  go_enter Tryd.func15, Tryd.ntmps15
  go_wp2_with (first | (refine wpList_load_mid rfl 56 _ rfl g 0 rfl WL _ rW Tryd.underlying56 rfl hi47 ?_) | (go_at_call 28; refine (HWB.out _).mono ?_; rintro e w1 ⟨rfl, hb1⟩) | (refine store_blk rfl 25 _ _ rfl rfl w1.heap.size (SM.map v8).toArray rfl rfl 25 _ (by exact Blk.new _ _ _) hi24 hst hone ?_; intro w2 hb2 hg2 hs2))
  have hs1 := hb1.size
  have hl2 := hb2.lt
  have hB2 : Below w.heap.size w w2 := below_grown (hb1.alloc hs1 _) hg2 (by simp; omega) (fun q hq => by cases hq; omega)
  have c2 := (hB2.cell (p := ⟨g, 72, none⟩) hgl).trans hc72
  have r2 : Row w2 w1.heap.size 0 SM := hb2.row
  clear hb2 hg2 hs2 hi24 hi47 hst hone rW HWB
  refine region_tail 5 (by kernel_rfl) (by kernel_rfl) ?_
  simp only [List.drop_succ_cons, List.drop_zero, List.take_succ_cons, List.take_zero]
  have c2d : w2.drew.cell? ⟨g, 72, none⟩ = some (.int .u64 (len : Int)) := c2
  repeat still_step
  refine wpStill_nil ?_
  have HAP : Hid (∀ W : World, Row W w1.heap.size 0 SM → w1.heap.size < W.heap.size → Calls Tryd.prog 29 #[.slice (some ⟨w1.heap.size, 0, none⟩) 32 32, .int .u64 (len : Int)] W fun e w' => ∃ v, e = .returned v ∧ Own w' W.heap.size v (SM ++ be8 len) ∧ Below W.heap.size W w') := fun W h1 h2 => appendNumber_any _ _ 32 SM _ len W rfl hsl h1 h2 (by omega)
  go_wp2_with (go_at_call 29; refine (HAP.out _ (by exact r2) (by exact hl2)).mono ?_; rintro e w3 ⟨v3, rfl, ho3, hb3⟩)
  have hs2' := hB2.size
  have hb3' : Below w2.heap.size w2 w3 := ⟨hb3.os, hb3.tape, hb3.output, hb3.size, hb3.block⟩
  have hB3 : Below w.heap.size w w3 := hB2.trans (hb3'.mono hs2')
  have c3 := (hB3.cell (p := ⟨g, 72, none⟩) hgl).trans hc72
  have rP := rP0.below hB3 hgl
  have hs3 := hB3.size
  have hs32 := hb3'.size
  clear HAP c2 c2d r2 hb3 hb3' hl2
  generalize restOf d = RS at *
  refine region_tail 10 (by kernel_rfl) (by kernel_rfl) ?_
  simp only [List.drop_succ_cons, List.drop_zero, List.take_succ_cons, List.take_zero]
  have c3d : w3.drew.cell? ⟨g, 72, none⟩ = some (.int .u64 (len : Int)) := c3
  repeat still_step
  have ht : ((len : Int)).tmod 64 = ((RS.length : Nat) : Int) := by rw [hrl, Int.tmod_eq_emod_of_nonneg (by omega)]; omega
  have hr64 : RS.length < 64 := by omega
  rw [ht]
  generalize hR : RS.length = R at ht hr64 hrl
  have hsp := slice_head g R hr64
  refine still_slice rfl 57 _ _ rfl (.slice (some ⟨g, 8, none⟩) R 64) (hsp _) ?_
  refine wpStill_nil ?_
  go_wp2_with (at_builtin; refine app_own _ rfl (.tmp 16) (.tmp 25) rfl w2.heap.size _ (SM ++ be8 len) rfl (by exact ho3) _ RS rfl (by exact Seg.of_row rP hR (by omega) (by exact Nat.lt_of_lt_of_le hgl hs3)) (by simp [be8_len]; omega) (by exact hs32) ?_; intro v4 w4 ho4 hg4 _)
  have hB3d : Below w.heap.size w w3.drew := ⟨hB3.os, hB3.tape, hB3.output, hB3.size, hB3.block⟩
  go_ret
  exact ⟨_, rfl, HSV.out ▸ ho4.mono hs2', below_grown hB3d hg4 (by exact hs3) (fun q hq => Nat.le_trans hs2' (ho3.blocks q hq).1)⟩
end Go.Proofs.YtenolcfmbdndgabDoor
