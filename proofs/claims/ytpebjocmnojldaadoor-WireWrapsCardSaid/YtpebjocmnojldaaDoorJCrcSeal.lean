/-
  What is proved here: crc.sumBytes answers a sum's three bytes; slices.Grow, slices.Concat (of two) and slices.Clone on slices of bytes; crc.Seal answers the bytes with those of their sum behind.
  Conditions: at most a thousand million bytes; the variable fourBits holds the sixteen words.
-/
import Derived.Test.YtpebjocmnojldaaDoorJCrcOwn
namespace Go.Proofs.YtpebjocmnojldaaDoor
open Go.RowKit

theorem sumB_cells (s : BitVec 32) : #[Value.int .u8 (n32 s / 65536 % 256), .int .u8 (n32 s / 256 % 256), .int .u8 (n32 s % 256)] = ((sumB s).map v8).toArray := by
  have h : ∀ a : Nat, ((a : Int) % 256) = n8 (UInt8.ofNat a) := fun a => by unfold n8; simp
  unfold sumB
  simp only [List.map_cons, List.map_nil]
  unfold v8
  rw [← h, ← h, ← h]
  simp [n32]
theorem Tryd.info79s : (Tryd.prog.info? 79).map (·.size) = some 3 := by kernel_rfl

set_option maxRecDepth 100000 in
theorem sumBytes_any (s : BitVec 32) (w : World) :
    Calls Tryd.prog 37 #[v32 s] w fun e w' => e = .returned (.agg ((sumB s).map v8).toArray) ∧ Below w.heap.size w w' := by
  have HS : Hid (_ = _) := sumB_cells s
  have hinfo : (Tryd.prog.info? 79).map (·.size) = some ((sumB s).map v8).toArray.size := Tryd.info79s
  go_enter Tryd.func37, Tryd.ntmps37
  go_wp2
  rw [HS.out]
  generalize hz : ((sumB s).map v8).toArray = bytes at *
  refine bodyPost_ret (v := .agg bytes) (results_cell_row Tryd.results37 _ _ w.heap.size 79 bytes (0, 0) _ rfl (Blk.new _ _ _) Tryd.underlying79 rfl hinfo) rfl ⟨rfl, ?_⟩
  exact (Below.refl _ _).alloc (Nat.le_refl _) _

set_option maxRecDepth 100000 in
theorem grow_any (n : Nat) (w : World) (hn : n ≤ 1000000000) :
    Calls Tryd.prog 58 #[.slice none 0 0, .int .i64 (n : Int)] w fun e w' => ∃ v, e = .returned v ∧ Own w' w.heap.size v [] ∧ Below w.heap.size w w' := by
  by_cases h0 : n = 0
  · subst h0
    go_enter Tryd.func58, Tryd.ntmps58
    go_wp2
    go_ret
    exact ⟨_, rfl, ⟨rfl, .inl ⟨rfl, rfl⟩⟩, Below.refl _ _⟩
  · have hby : Tryd.t5.bytes = 1 := rfl
    have hnc : Builtin.nextslicecap n 0 = n := nextslicecap_zero (by omega)
    have hge := grownCap_ge w n 0 5
    have hle := grownCap_le_maxLen w n 0 5 (by unfold maxLen; omega)
    unfold grownCap at hge hle
    go_enter Tryd.func58, Tryd.ntmps58
    go_wp2
    go_ret
    refine ⟨_, rfl, ⟨rfl, .inr ⟨w.heap.size, _, _, rfl, Nat.le_refl _, heap_alloc_new w _, Nat.zero_le _, hle, ?_, by simp⟩⟩, ?_⟩
    · simp [Builtin.zeroCells]; omega
    · exact ((Below.refl _ _).alloc (Nat.le_refl _) _).drew

theorem run_eql_nil_nil (w : World) (l c : Nat) : (binOp .eql 23 (.slice none l c) (.slice none 0 0)).run Tryd.prog w = .ok (.bool true) w := by
  have := run_equal_slice_nil (P := Tryd.prog) w 23 5 none l c Tryd.underlying23
  simp [binOp, this]
theorem run_eql_bytes_nil (w : World) (a : Addr) (l c : Nat) : (binOp .eql 23 (.slice (some a) l c) (.slice none 0 0)).run Tryd.prog w = .ok (.bool false) w := by
  have := run_equal_slice_nil (P := Tryd.prog) w 23 5 (some a) l c Tryd.underlying23
  simp [binOp, this]

set_option maxRecDepth 100000 in
theorem clone_any (x : Value) (bs : List UInt8) (w : World) (hm : bs.length ≤ 1000000000) (hseg : Seg w x bs) :
    Calls Tryd.prog 46 #[x] w fun e w' => ∃ v, e = .returned v ∧ Own w' w.heap.size v bs ∧ Below w.heap.size w w' := by
  obtain ⟨ao, c, rfl⟩ := hseg.shape
  cases ao with
  | none =>
    obtain ⟨hc, hn⟩ : bs = [] ∧ c = 0 := by
      rcases hseg with ⟨h, ao', c', h2, h3⟩ | ⟨b, off, c', h2, _⟩
      · simp only [Value.slice.injEq] at h2
        exact ⟨h, h2.2.2.trans (h3 h2.1.symm)⟩
      · simp at h2
    subst hc; subst hn
    have hne := run_eql_nil_nil w 0 0
    go_enter Tryd.func46, Tryd.ntmps46
    go_wp2
    go_ret
    exact ⟨_, rfl, ⟨rfl, .inl ⟨rfl, rfl⟩⟩, Below.refl _ _⟩
  | some ad =>
    have hne := run_eql_bytes_nil w ad bs.length c
    go_enter Tryd.func46, Tryd.ntmps46
    go_wp2_with (at_builtin; refine app_own _ rfl (.tmp 5) (.tmp 6) rfl w.heap.size _ [] rfl (by exact own_empty _ _ _ rfl (Nat.le_refl _)) _ bs rfl (by exact hseg.alloc _) (by simp; omega) (by simp) ?_; intro v2 w2 ho2 hg2 hv2; rw [List.nil_append] at ho2; have hB2 := below_grown ((Below.refl w.heap.size w).alloc (Nat.le_refl _) _) hg2 (by simp) (fun q hq => by have h2 : w.heap.size = q := Option.some.inj hq; omega))
    go_ret
    exact ⟨_, rfl, ho2, hB2⟩

set_option maxRecDepth 100000 in
set_option maxHeartbeats 1000000 in
theorem concat_any (g off : Nat) (v0 v1 : Value) (b0 b1 : List UInt8) (w : World) (hm : b0.length + b1.length ≤ 1000000000) (hg : g < w.heap.size) (hc0 : w.cell? ⟨g, off, none⟩ = some v0) (hc1 : w.cell? ⟨g, off + 1, none⟩ = some v1) (hs0 : Seg w v0 b0) (hs1 : Seg w v1 b1) :
    Calls Tryd.prog 39 #[.slice (some ⟨g, off, none⟩) 2 2] w fun e w' => ∃ v, e = .returned v ∧ Own w' w.heap.size v (b0 ++ b1) ∧ Below w.heap.size w w' := by
  obtain ⟨a0, c0, rfl⟩ := hs0.shape
  obtain ⟨a1, c1, rfl⟩ := hs1.shape
  go_enter Tryd.func39, Tryd.ntmps39
  have HG : Hid (∀ W : World, Calls Tryd.prog 58 #[.slice none 0 0, .int .i64 ((b0.length : Int) + (b1.length : Int))] W fun e w' => ∃ v, e = .returned v ∧ Own w' W.heap.size v [] ∧ Below W.heap.size W w') := fun W => by
    have := grow_any (b0.length + b1.length) W hm
    simpa using this
  go_wp2_with fail
  go_loop [3, 11] (fun n i => (i = .int .i64 0 ∧ n = .int .i64 0) ∨ (i = .int .i64 1 ∧ n = .int .i64 (b0.length : Int)) ∨ (i = .int .i64 2 ∧ n = .int .i64 ((b0.length : Int) + (b1.length : Int)))) (fun _ i => 2 - (intOf i).toNat)
  case atStart => exact .inl ⟨rfl, rfl⟩
  case round =>
    rcases hrel with ⟨rfl, rfl⟩ | ⟨rfl, rfl⟩ | ⟨rfl, rfl⟩
    · go_wp2
      go_round
      case rel => exact .inr (.inl ⟨rfl, rfl⟩)
      case measure => simp [intOf]
    · go_wp2
      go_round
      case rel => exact .inr (.inr ⟨rfl, rfl⟩)
      case measure => simp [intOf]
    · go_wp2_with fail
      refine (HG.out w).mono ?_
      rintro e w1 ⟨v1, rfl, ho1, hb1⟩
      clear HG
      go_wp2_with fail
      go_loopw [6, 27] (fun v i wr => Below w.heap.size w wr ∧ ((i = .int .i64 0 ∧ Own wr w.heap.size v []) ∨ (i = .int .i64 1 ∧ Own wr w.heap.size v b0) ∨ (i = .int .i64 2 ∧ Own wr w.heap.size v (b0 ++ b1)))) (fun _ i _ => 2 - (intOf i).toNat)
      case atStart => exact ⟨hb1, .inl ⟨rfl, ho1⟩⟩
      case round =>
        obtain ⟨hb, hr⟩ := hrel
        have hsz := hb.size
        have hc0' : wr.cell? ⟨g, off, none⟩ = some (Value.slice a0 b0.length c0) := by rw [hb.cell (p := ⟨g, off, none⟩) hg]; exact hc0
        have hc1' : wr.cell? ⟨g, off + 1, none⟩ = some (Value.slice a1 b1.length c1) := by rw [hb.cell (p := ⟨g, off + 1, none⟩) hg]; exact hc1
        have hs0' := hs0.below hb (Nat.le_refl _)
        have hs1' := hs1.below hb (Nat.le_refl _)
        rcases hr with ⟨rfl, ho⟩ | ⟨rfl, ho⟩ | ⟨rfl, ho⟩
        · go_wp2_with (at_builtin; refine app_own _ rfl (.tmp 31) (.tmp 32) rfl w.heap.size _ [] rfl ho _ b0 rfl hs0' (by simp; omega) hsz ?_; intro v2 w2 ho2 hg2 hv2; rw [List.nil_append] at ho2; have hB2 := below_grown hb hg2 hsz (fun q hq => (ho.blocks q hq).1); clear hg2 hv2)
          go_roundw
          case rel => exact ⟨hB2, .inr (.inl ⟨rfl, ho2⟩)⟩
          case measure => simp [intOf]
        · go_wp2_with (at_builtin; refine app_own _ rfl (.tmp 31) (.tmp 32) rfl w.heap.size _ b0 rfl ho _ b1 rfl hs1' (by omega) hsz ?_; intro v2 w2 ho2 hg2 hv2; have hB2 := below_grown hb hg2 hsz (fun q hq => (ho.blocks q hq).1); clear hg2 hv2)
          go_roundw
          case rel => exact ⟨hB2, .inr (.inr ⟨rfl, ho2⟩)⟩
          case measure => simp [intOf]
        · go_wp2
          go_ret
          exact ⟨_, rfl, ho, hb⟩

set_option maxRecDepth 100000 in
set_option maxHeartbeats 1000000 in
theorem seal_any (x : Value) (bs : List UInt8) (w : World) (hm : bs.length ≤ 100000000) (hseg : Seg w x bs) (hgf : 0 < w.heap.size) (hf : Tab w 0 (fours.map v32)) :
    Calls Tryd.prog 18 #[x] w fun e w' => ∃ v, e = .returned v ∧ Own w' w.heap.size v (bs ++ sumB (crcOf bs)) ∧ Below w.heap.size w w' := by
  obtain ⟨ao, c, rfl⟩ := hseg.shape
  go_enter Tryd.func18, Tryd.ntmps18
  go_wp2_with fail
  refine (csum_any _ bs _ (by omega) hseg hf).mono ?_
  rintro e w1 ⟨rfl, rfl⟩
  go_wp2_with fail
  refine (sumBytes_any _ _).mono ?_
  rintro e w2 ⟨rfl, hb2⟩
  have hl3 : (sumB (crcOf bs)).length = 3 := rfl
  have hi3 : (Tryd.prog.info? 79).map (·.size) = some ((sumB (crcOf bs)).map v8).toArray.size := Tryd.info79s
  have hone := one8 (sumB (crcOf bs))
  have HST : Hid ((#[Value.int .u8 0, .int .u8 0, .int .u8 0] : Array Value).size = ((sumB (crcOf bs)).map v8).toArray.size) := rfl
  obtain ⟨SB, hSB⟩ : ∃ SB, SB = sumB (crcOf bs) := ⟨_, rfl⟩
  have HSB : Hid (SB = sumB (crcOf bs)) := hSB
  rw [← hSB] at hl3 hi3 hone HST ⊢
  clear hSB
  go_wp2_with (refine store_blk rfl 79 _ _ rfl rfl _ (SB.map v8).toArray rfl rfl 79 _ (by exact Blk.new _ _ _) hi3 (by exact HST.out) hone ?_; intro w3 hb3 hg3 hs3)
  have s2 := hb2.size
  simp only [World.size_alloc] at hs3
  have hB3 := below_grown (hb2.alloc s2 _) hg3 (by simp; omega) (fun q hq => by cases hq; exact s2)
  have hb4 : Blk (w3.alloc (Obj.cells #[Value.slice ao bs.length c, Value.slice (some ⟨w2.heap.size, 0, none⟩) 3 3] 23)) (w2.heap.size + 1) 23 #[Value.slice ao bs.length c, Value.slice (some ⟨w2.heap.size, 0, none⟩) 3 3] := Blk.newAt _ _ _ _ hs3.symm
  refine (concat_any (w2.heap.size + 1) 0 _ _ bs SB _ (by omega) hb4.lt (hb4.cell rfl) (hb4.cell rfl) ((hseg.below hB3 (Nat.le_refl _)).alloc _) ((Seg.of_row hb3.row hl3 (Nat.le_refl _) hb3.lt).alloc _)).mono ?_
  rintro e w5 ⟨v5, rfl, ho5, hb5⟩
  go_wp2
  go_ret
  refine ⟨_, rfl, ?_, ?_⟩
  · rw [← HSB.out]
    exact ho5.mono (by simp; omega)
  · exact (hB3.alloc (by omega) _).trans (hb5.mono (by simp; omega))
end Go.Proofs.YtpebjocmnojldaaDoor
