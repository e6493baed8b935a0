/-
  What is proved here: crc.doubleFour doubles a sum four times; crc.Add is the plain function crc of the lowest 24 bits, crc.Sum that of B704CE; the statements' own first look, the sum of nine digits, answers true. small facts on slices of bytes: the empty one of the call's own, what becomes of any of them as a string; and on words that are held against one another. crc.sumBytes answers a sum's three bytes; slices.Grow, slices.Concat (of two) and slices.Clone on slices of bytes; crc.Seal answers the bytes with those of their sum behind. crc.Open answers the bytes ahead of the last three, and true, if the three are those of their sum; else none and false.
  Conditions: the variable fourBits holds the sixteen words. those that each fact names. at most a thousand million bytes; the variable fourBits holds the sixteen words. at most a hundred million bytes; the variable fourBits holds the sixteen words.
-/
import Derived.Test.YtoemdmfpcobadaaDoorProg
import Derived.Test.YtoemdmfpcobadaaDoorJShaPure
import Derived.Lib.SlBytesConst
import Derived.Laws.IdiomStrings
import Derived.Laws.OwnMore
import Derived.Stop.BytesEq
import Derived.BigQuiet
import Derived.Deep.QuietTactic
import Derived.Lib.QuietBelow
namespace Go.Proofs.YtoemdmfpcobadaaDoor
open Go.RowKit

theorem ret_bool {a b : Bool} (h : a = b) : Ending.returned (.bool a) = .returned (.bool b) := by rw [h]
def low24 (s : BitVec 32) : BitVec 32 := s &&& 0xFFFFFF#32

theorem and24 (s : BitVec 32) : bits .and .u32 (n32 s) 16777215 = n32 (low24 s) := by
  rw [show (16777215 : Int) = n32 0xFFFFFF#32 from rfl, bits_and32]; rfl
theorem low24_toNat (s : BitVec 32) : (low24 s).toNat = s.toNat % 16777216 := by
  unfold low24; rw [BitVec.toNat_and]
  show _ &&& (2 ^ 24 - 1) = _
  rw [Nat.and_two_pow_sub_one_eq_mod]
theorem low24_lt (s : BitVec 32) : (low24 s).toNat < 16777216 := by rw [low24_toNat]; omega
theorem low24_of_lt (s : BitVec 32) (h : s.toNat < 16777216) : low24 s = s := by
  apply BitVec.eq_of_toNat_eq; rw [low24_toNat]; omega
theorem rem24 (s : BitVec 32) : n32 s % 16777216 = n32 (low24 s) := by
  unfold n32; rw [low24_toNat]; simp
theorem shl4_form (s : BitVec 32) (h : s.toNat < 16777216) : n32 s * (16 : Int) = n32 (s <<< 4) := by
  unfold n32; rw [BitVec.toNat_shiftLeft, Nat.shiftLeft_eq, Nat.mod_eq_of_lt (by omega)]; simp
theorem shl16_form (x : UInt8) : n8 x * (65536 : Int) = n32 (w8 x <<< 16) := by
  have := w8_lt x
  unfold n8 n32; rw [BitVec.toNat_shiftLeft, Nat.shiftLeft_eq, Nat.mod_eq_of_lt (by omega), w8_toNat]; simp

set_option maxRecDepth 100000 in
set_option maxHeartbeats 400000 in
theorem four_any (s : BitVec 32) (hs : s.toNat < 16777216) (w : World) (hf : Tab w 1 (fours.map v32)) :
    Calls Tryd.prog 91 #[v32 s] w fun e w' => e = .returned (v32 (dbls 4 s)) ∧ w' = w := by
  have hq : n32 s / 1048576 = ((s.toNat / 1048576 : Nat) : Int) := by unfold n32; simp
  have hql : s.toNat / 1048576 < 16 := by omega
  have hR : ((s <<< 4) &&& 0xFFFFFF#32) ^^^ fours.getD (s.toNat / 1048576) 0#32 = dbls 4 s := four_eq s hs
  have hc : w.cell? ⟨1, s.toNat / 1048576, none⟩ = some (v32 (fours.getD (s.toNat / 1048576) 0#32)) := hf _ _ (by
    have := at32 fours (s.toNat / 1048576) (by exact hql)
    simpa using this)
  have ha := and24 (s <<< 4)
  have HR : Hid (low24 (s <<< 4) ^^^ fours.getD (s.toNat / 1048576) 0#32 = dbls 4 s) := hR
  clear hR
  generalize fours.getD (s.toNat / 1048576) 0#32 = T at hc HR
  have hx := bits_xor32 (low24 (s <<< 4)) T
  generalize low24 (s <<< 4) = L at ha hx HR
  generalize s.toNat / 1048576 = q at hq hql hc
  go_enter Tryd.func91, Tryd.ntmps91
  go_wp2
  go_ret
  exact ⟨ret_int (by rw [shl4_form s hs, ha, hx, HR.out]), rfl⟩

theorem dbls_succ (n : Nat) (s : BitVec 32) : dbls (n + 1) s = dbl (dbls n s) := by rw [dbls_add]; rfl
theorem bit23 (u : BitVec 32) (h : u.toNat < 16777216) : u.getLsbD 23 = decide (8388608 ≤ u.toNat) := by
  rw [BitVec.getLsbD, Nat.testBit_eq_decide_div_mod_eq]
  rcases Nat.lt_or_ge u.toNat 8388608 with h1 | h1
  · have : u.toNat / 2 ^ 23 = 0 := by omega
    rw [this]; simp; omega
  · have : u.toNat / 2 ^ 23 = 1 := by omega
    rw [this]; simp; omega
theorem shl1_form (u : BitVec 32) (h : u.toNat < 16777216) : (2 : Int) * n32 u = n32 (u <<< 1) := by
  unfold n32; rw [BitVec.toNat_shiftLeft, Nat.shiftLeft_eq, Nat.mod_eq_of_lt (by omega)]; simp; omega
theorem dbl_hi (u : BitVec 32) (h : u.toNat < 16777216) (h1 : 8388608 ≤ u.toNat) : bits .xor .u32 ((2 : Int) * n32 u) 25578747 = n32 (dbl u) := by
  rw [shl1_form u h, show (25578747 : Int) = n32 0x1864CFB#32 from rfl, bits_xor32]
  unfold dbl; rw [bit23 u h]; simp [h1]
theorem dbl_lo (u : BitVec 32) (h : u.toNat < 16777216) (h1 : u.toNat < 8388608) : (2 : Int) * n32 u = n32 (dbl u) := by
  rw [shl1_form u h]; unfold dbl; rw [bit23 u h]; simp [Nat.not_le.2 h1]
theorem rem24' (s : BitVec 32) : (n32 s).tmod 16777216 = n32 (low24 s) := by
  rw [Int.tmod_eq_emod_of_nonneg (ge32 s), rem24]
theorem crc_take_all (s : BitVec 32) (bs : List UInt8) (k : Nat) (h : bs.length ≤ k) : crc s (bs.take k) = crc s bs := by rw [List.take_of_length_le h]

set_option maxRecDepth 100000 in
set_option maxHeartbeats 400000 in
theorem add_any (s : BitVec 32) (x : Value) (bs : List UInt8) (w : World) (hm : bs.length ≤ 1000000000) (hseg : Seg w x bs) (hf : Tab w 1 (fours.map v32)) :
    Calls Tryd.prog 82 #[v32 s, x] w fun e w' => e = .returned (v32 (crc (low24 s) bs)) ∧ w' = w := by
  have ha := and24 s
  rcases hseg with ⟨rfl, ao, c, rfl, _⟩ | ⟨b, off, c, rfl, hc, hr, hb⟩
  · go_enter Tryd.func82, Tryd.ntmps82
    go_wp2
    go_loop [0, 11] (fun n i => i = .int .i64 0 ∧ n = v32 (low24 s)) (fun _ _ => 0)
    case atStart => exact ⟨rfl, rfl⟩
    case round =>
      obtain ⟨rfl, rfl⟩ := hrel
      go_wp2
      go_ret
      exact ⟨rfl, rfl⟩
  have hl0 := low24_lt s
  go_enter Tryd.func82, Tryd.ntmps82
  go_wp2
  clear ha
  go_loop [0, 11] (fun n i => ∃ k : Nat, k ≤ bs.length ∧ i = .int .i64 k ∧ n = v32 (crc (low24 s) (bs.take k))) (fun _ i => bs.length - (intOf i).toNat)
  case atStart => exact ⟨0, Nat.zero_le _, rfl, rfl⟩
  case round =>
    obtain ⟨k, hk, rfl, rfl⟩ := hrel
    by_cases hlt : k < bs.length
    · have hc := hr k hlt
      have ht := crc_take_succ bs k hlt (low24 s)
      have hbd := crc_lt (bs.take k) (low24 s) hl0
      generalize crc (low24 s) (bs.take k) = u at ht hbd
      generalize hxk : bs[k] = xk at hc ht
      have hs := shl16_form xk
      have hx := bits_xor32 u (w8 xk <<< 16)
      have hv := xor_lt u _ hbd (shl_lt xk)
      have hst : step u xk = dbls 4 (dbls 4 (u ^^^ (w8 xk <<< 16))) := dbls_add 4 4 _
      have h8 := lt8 xk
      have h80 := ge8 xk
      generalize u ^^^ (w8 xk <<< 16) = v at hx hv hst
      have H4 : Hid (∀ y : BitVec 32, y.toNat < 16777216 → Calls Tryd.prog 91 #[v32 y] w fun e w' => e = .returned (v32 (dbls 4 y)) ∧ w' = w) := fun y hy => four_any y hy w hf
      have HV : Hid (v.toNat < 16777216) := hv
      clear hv
      go_wp2_with fail
      refine (H4.out _ HV.out).mono ?_
      rintro e w1 ⟨rfl, rfl⟩
      go_wp2_with fail
      refine (H4.out _ (dbls_lt 4 _ HV.out)).mono ?_
      rintro e w1 ⟨rfl, rfl⟩
      go_wp2
      go_round
      case rel => exact ⟨k + 1, by omega, by go_num, by rw [ht, hst]⟩
      case measure => simp [intOf]; omega
    · have hk' : bs.length ≤ k := by omega
      go_wp2
      go_ret
      exact ⟨ret_int (by rw [crc_take_all _ _ _ hk']), rfl⟩

set_option maxRecDepth 100000 in
theorem csum_any (x : Value) (bs : List UInt8) (w : World) (hm : bs.length ≤ 1000000000) (hseg : Seg w x bs) (hf : Tab w 1 (fours.map v32)) :
    Calls Tryd.prog 75 #[x] w fun e w' => e = .returned (v32 (crcOf bs)) ∧ w' = w := by
  have h := add_any 0xB704CE#32 x bs w hm hseg hf
  rw [show v32 0xB704CE#32 = .int .u32 11994318 from rfl, show low24 0xB704CE#32 = 0xB704CE#32 from rfl] at h
  have H : Hid (Calls Tryd.prog 82 #[.int .u32 11994318, x] w fun e w' => e = .returned (v32 (crcOf bs)) ∧ w' = w) := h
  clear h
  go_enter Tryd.func75, Tryd.ntmps75
  go_wp2_with fail
  refine H.out.mono ?_
  rintro e w1 ⟨rfl, rfl⟩
  go_wp2
  go_ret
  exact ⟨rfl, rfl⟩

def digits : List UInt8 := [49, 50, 51, 52, 53, 54, 55, 56, 57]

end Go.Proofs.YtoemdmfpcobadaaDoor
namespace Go.Proofs.YtoemdmfpcobadaaDoor
open Go.RowKit

theorem own_empty (w : World) (base n : Nat) (hn : n = w.heap.size) (hb : base ≤ w.heap.size) : Own (w.alloc (.cells #[] 5)) base (.slice (some ⟨n, 0, none⟩) 0 0) [] := by
  subst hn
  exact ⟨rfl, .inr ⟨w.heap.size, 0, #[], rfl, hb, heap_alloc_new w _, Nat.le_refl _, Nat.zero_le _, rfl, rfl⟩⟩
theorem seg_string {w : World} {v : Value} {bs : List UInt8} (h : Seg w v bs) (t : TypeId) (ht : Tryd.prog.underlying t = some .string) : (convert 41 t v).run Tryd.prog w = .ok (.string ⟨bs.toArray⟩) w := by
  rcases h with ⟨rfl, ao, c, rfl, _⟩ | ⟨b, off, c, rfl, _, hr, _⟩
  · rw [run_convert_bytes_string w 41 t 5 _ 0 c Tryd.underlying41 Tryd.underlying5 ht]
    cases ao <;> simp [Conv.bytesToString, loadCells]
    all_goals rfl
  · exact run_convert_bytes_back w 41 t 5 ⟨b, off, none⟩ c bs Tryd.underlying41 Tryd.underlying5 ht (fun j hj => by rw [Addr.add_mid]; exact hr j hj)
theorem xor8 (a b : UInt8) : bits .xor .u8 (n8 a) (n8 b) = n8 (a ^^^ b) := by
  show IntKind.u8.wrap ((BitVec.ofInt 8 (a.toNat : Int) ^^^ BitVec.ofInt 8 (b.toNat : Int)).toNat : Int) = _
  have h : ∀ x : UInt8, BitVec.ofInt 8 (x.toNat : Int) = x.toBitVec := fun x => by
    rw [BitVec.ofInt_natCast]; exact BitVec.eq_of_toNat_eq (by simp)
  rw [h, h, wrap_u8_nat]
  show _ = (((a ^^^ b).toNat : Nat) : Int)
  rw [UInt8.toNat_xor, BitVec.toNat_xor]
  have h1 := a.toNat_lt
  have h2 := b.toNat_lt
  exact congrArg (fun n : Nat => (n : Int)) (Nat.mod_eq_of_lt (Nat.xor_lt_two_pow (n := 8) h1 h2))
theorem Own.set {w : World} {base g n c : Nat} {bs : List UInt8} (h : Own w base (.slice (some ⟨g, 0, none⟩) n c) bs) (i : Nat) (y : UInt8) :
    Row (w.setCell ⟨g, i, none⟩ (v8 y)) g 0 (bs.set i y) ∧ w.frozen? ⟨g, i, none⟩ = false := by
  rcases h.2 with ⟨h1, _⟩ | ⟨g', cap, cur, h1, h2, h3, h4, h5, h6, h7⟩
  · cases h1
  · cases h1
    have hb : Blk w g 5 cur := h3
    refine ⟨fun j hj => ?_, hb.frozen i⟩
    have hj' : j < bs.length := by simpa using hj
    have hcur : cur[j]? = some (v8 bs[j]) := by
      have := congrArg (fun l => l[j]?) h7
      simp [hj'] at this
      simpa using this
    rw [Nat.zero_add, (hb.set i (v8 y)).cell (v := v8 ((bs.set i y)[j])) ?_]
    rw [Array.getElem?_setIfInBounds, List.getElem_set]
    by_cases he : i = j
    · subst he
      have : i < cur.size := (Array.getElem?_eq_some_iff.1 hcur).1
      simp [this]
    · simp [he, hcur]
theorem n32_beq (a b : BitVec 32) : (n32 a == n32 b) = decide (a = b) := by
  unfold n32
  by_cases h : a = b
  · simp [h]
  · have : ¬ a.toNat = b.toNat := fun e => h (BitVec.eq_of_toNat_eq e)
    simp [h]; omega
theorem seg_nil (w : World) : Seg w (.slice none 0 0) [] := .inl ⟨rfl, none, 0, rfl, fun _ => rfl⟩
theorem Seg.len {w : World} {ao : Option Addr} {n c : Nat} {bs : List UInt8} (h : Seg w (.slice ao n c) bs) : bs.length = n := by
  rcases h with ⟨rfl, ao', c', h, _⟩ | ⟨b, off, c', h, _⟩
  · cases h; rfl
  · cases h; rfl
theorem Seg.shape {w : World} {v : Value} {bs : List UInt8} (h : Seg w v bs) : ∃ ao c, v = .slice ao bs.length c := by
  rcases h with ⟨rfl, ao', c', h, _⟩ | ⟨b, off, c', h, _⟩
  · exact ⟨_, _, h⟩
  · exact ⟨_, _, h⟩
theorem Seg.form {w : World} {ao : Option Addr} {n c : Nat} {bs : List UInt8} (h : Seg w (.slice ao n c) bs) (hn : 0 < n) : ∃ b off, ao = some ⟨b, off, none⟩ ∧ n ≤ c ∧ Row w b off bs ∧ b < w.heap.size := by
  rcases h with ⟨rfl, ao', c', h, _⟩ | ⟨b, off, c', h, h2, h3, h4⟩
  · cases h; omega
  · cases h; exact ⟨b, off, rfl, h2, h3, h4⟩
theorem elem_bytes : Tryd.prog.elem 41 = 5 := by kernel_rfl
theorem size_byte (w : World) : (sizeOf 5).run Tryd.prog w = .ok 1 w := by kernel_rfl
theorem add_zero_addr (ao : Option Addr) : ao.map (·.add 0) = ao := by
  cases ao with
  | none => rfl
  | some a => obtain ⟨b, o, s⟩ := a; simp [Addr.add]
theorem slice_to (ao : Option Addr) (len c n : Nat) (h : n ≤ c) (w : World) : (Instr.slice 41 (.slice ao len c) none (some (.int .i64 (n : Int))) none).run Tryd.prog w = .ok (.slice ao n c) w := by
  rw [run_slice_h w 41 ao len c (by rw [elem_bytes]; exact Tryd.underlying41) .i64 n (by omega) (by omega), elem_bytes, size_byte]
  simp only [Result.andThen_ok, sliced, Int.toNat_natCast, Nat.zero_mul, add_zero_addr, Nat.sub_zero, ite_self]
theorem slice_from (b off len c lo : Nat) (h : lo ≤ len) (hc : lo < c) (w : World) : (Instr.slice 41 (.slice (some ⟨b, off, none⟩) len c) (some (.int .i64 (lo : Int))) none none).run Tryd.prog w = .ok (.slice (some ⟨b, off + lo, none⟩) (len - lo) (c - lo)) w := by
  rw [run_slice_l w 41 (some ⟨b, off, none⟩) len c (by rw [elem_bytes]; exact Tryd.underlying41) .i64 lo (by omega) (by omega), elem_bytes, size_byte]
  simp only [Result.andThen_ok, sliced, Int.toNat_natCast, Nat.mul_one]
  rw [if_neg (by omega), Option.map_some, Addr.add_mid]
theorem Seg.takes {w : World} {ao : Option Addr} {len c : Nat} {bs : List UInt8} (h : Seg w (.slice ao len c) bs) (n : Nat) (hn : n ≤ len) : Seg w (.slice ao n c) (bs.take n) ∧ n ≤ c := by
  rcases h with ⟨rfl, ao', c', h, h2⟩ | ⟨b, off, c', h, h2, h3, h4⟩
  · cases h
    obtain rfl : n = 0 := by omega
    exact ⟨.inl ⟨rfl, _, _, rfl, h2⟩, Nat.zero_le _⟩
  · cases h
    exact ⟨Seg.of_row (h3.take n) (by simp; omega) (by omega) h4, by omega⟩
theorem mk_bytes (n : Nat) (h : n ≤ 1000000000) (f : Nat → Value) (w : World) : (Instr.makeSlice 41 (.int .i64 (n : Int)) (.int .i64 (n : Int))).run Tryd.prog w = .ok (.slice (some ⟨w.heap.size, 0, none⟩) n n) (w.alloc (.cells (upTo n 0 f (.int .u8 0)) 5)) := by
  obtain ⟨i0, hi, hz0, hz1, hz2⟩ := info_parts Tryd.info5
  rw [run_make w 41 5 i0 (.int .u8 0) Tryd.underlying41 hi hz0 .i64 .i64 n n (by omega) (by omega) (by rw [hz2]; omega) (by omega)]
  rw [hz1, Int.toNat_natCast, Nat.mul_one]
  have e : madeCells (Value.int .u8 0).cells n = upTo n 0 f (.int .u8 0) := by
    apply Array.ext
    · rw [size_madeCells, upTo_size]
    · intro i h1 h2
      rw [size_madeCells] at h1
      have := upTo_at n 0 f (.int .u8 0) i h1
      rw [Array.getElem?_eq_getElem h2] at this
      rw [Option.some.inj this]
      simp [madeCells, Value.cells, Nat.mod_one]
  rw [e]
end Go.Proofs.YtoemdmfpcobadaaDoor
namespace Go.Proofs.YtoemdmfpcobadaaDoor
open Go.RowKit

theorem sumB_cells (s : BitVec 32) : #[Value.int .u8 (n32 s / 65536 % 256), .int .u8 (n32 s / 256 % 256), .int .u8 (n32 s % 256)] = ((sumB s).map v8).toArray := by
  have h : ∀ a : Nat, ((a : Int) % 256) = n8 (UInt8.ofNat a) := fun a => by unfold n8; simp
  unfold sumB
  simp only [List.map_cons, List.map_nil]
  unfold v8
  rw [← h, ← h, ← h]
  simp [n32]
theorem Tryd.info132s : (Tryd.prog.info? 132).map (·.size) = some 3 := by kernel_rfl

set_option maxRecDepth 100000 in
theorem sumBytes_any (s : BitVec 32) (w : World) :
    Calls Tryd.prog 74 #[v32 s] w fun e w' => e = .returned (.agg ((sumB s).map v8).toArray) ∧ Below w.heap.size w w' := by
  have HS : Hid (_ = _) := sumB_cells s
  have hinfo : (Tryd.prog.info? 132).map (·.size) = some ((sumB s).map v8).toArray.size := Tryd.info132s
  go_enter Tryd.func74, Tryd.ntmps74
  go_wp2
  rw [HS.out]
  generalize hz : ((sumB s).map v8).toArray = bytes at *
  refine bodyPost_ret (v := .agg bytes) (results_cell_row Tryd.results74 _ _ w.heap.size 132 bytes (0, 0) _ rfl (Blk.new _ _ _) Tryd.underlying132 rfl hinfo) rfl ⟨rfl, ?_⟩
  exact (Below.refl _ _).alloc (Nat.le_refl _) _

set_option maxRecDepth 100000 in
theorem grow_any (n : Nat) (w : World) (hn : n ≤ 1000000000) :
    Calls Tryd.prog 83 #[.slice none 0 0, .int .i64 (n : Int)] w fun e w' => ∃ v, e = .returned v ∧ Own w' w.heap.size v [] ∧ Below w.heap.size w w' := by
  by_cases h0 : n = 0
  · subst h0
    go_enter Tryd.func83, Tryd.ntmps83
    go_wp2
    go_ret
    exact ⟨_, rfl, ⟨rfl, .inl ⟨rfl, rfl⟩⟩, Below.refl _ _⟩
  · have hby : Tryd.t5.bytes = 1 := rfl
    have hnc : Builtin.nextslicecap n 0 = n := nextslicecap_zero (by omega)
    have hge := grownCap_ge w n 0 5
    have hle := grownCap_le_maxLen w n 0 5 (by unfold maxLen; omega)
    unfold grownCap at hge hle
    go_enter Tryd.func83, Tryd.ntmps83
    go_wp2
    go_ret
    refine ⟨_, rfl, ⟨rfl, .inr ⟨w.heap.size, _, _, rfl, Nat.le_refl _, heap_alloc_new w _, Nat.zero_le _, hle, ?_, by simp⟩⟩, ?_⟩
    · simp [Builtin.zeroCells]; omega
    · exact ((Below.refl _ _).alloc (Nat.le_refl _) _).drew

theorem run_eql_nil_nil (w : World) (l c : Nat) : (binOp .eql 41 (.slice none l c) (.slice none 0 0)).run Tryd.prog w = .ok (.bool true) w := by
  have := run_equal_slice_nil (P := Tryd.prog) w 41 5 none l c Tryd.underlying41
  simp [binOp, this]
theorem run_eql_bytes_nil (w : World) (a : Addr) (l c : Nat) : (binOp .eql 41 (.slice (some a) l c) (.slice none 0 0)).run Tryd.prog w = .ok (.bool false) w := by
  have := run_equal_slice_nil (P := Tryd.prog) w 41 5 (some a) l c Tryd.underlying41
  simp [binOp, this]

set_option maxRecDepth 100000 in
theorem clone_any (x : Value) (bs : List UInt8) (w : World) (hm : bs.length ≤ 1000000000) (hseg : Seg w x bs) :
    Calls Tryd.prog 44 #[x] w fun e w' => ∃ v, e = .returned v ∧ Own w' w.heap.size v bs ∧ Below w.heap.size w w' := by
  obtain ⟨ao, c, rfl⟩ := hseg.shape
  cases ao with
  | none =>
    obtain ⟨hc, hn⟩ : bs = [] ∧ c = 0 := by
      rcases hseg with ⟨h, ao', c', h2, h3⟩ | ⟨b, off, c', h2, _⟩
      · simp only [Value.slice.injEq] at h2
        exact ⟨h, h2.2.2.trans (h3 h2.1.symm)⟩
      · simp at h2
    subst hc; subst hn
    have hne := run_eql_nil_nil w 0 0
    go_enter Tryd.func44, Tryd.ntmps44
    go_wp2
    go_ret
    exact ⟨_, rfl, ⟨rfl, .inl ⟨rfl, rfl⟩⟩, Below.refl _ _⟩
  | some ad =>
    have hne := run_eql_bytes_nil w ad bs.length c
    go_enter Tryd.func44, Tryd.ntmps44
    go_wp2_with (at_builtin; refine app_own _ rfl (.tmp 5) (.tmp 6) rfl w.heap.size _ [] rfl (by exact own_empty _ _ _ rfl (Nat.le_refl _)) _ bs rfl (by exact hseg.alloc _) (by simp; omega) (by simp) ?_; intro v2 w2 ho2 hg2 hv2; rw [List.nil_append] at ho2; have hB2 := below_grown ((Below.refl w.heap.size w).alloc (Nat.le_refl _) _) hg2 (by simp) (fun q hq => by have h2 : w.heap.size = q := Option.some.inj hq; omega))
    go_ret
    exact ⟨_, rfl, ho2, hB2⟩

set_option maxRecDepth 100000 in
set_option maxHeartbeats 1000000 in
theorem concat_any (g off : Nat) (v0 v1 : Value) (b0 b1 : List UInt8) (w : World) (hm : b0.length + b1.length ≤ 1000000000) (hg : g < w.heap.size) (hc0 : w.cell? ⟨g, off, none⟩ = some v0) (hc1 : w.cell? ⟨g, off + 1, none⟩ = some v1) (hs0 : Seg w v0 b0) (hs1 : Seg w v1 b1) :
    Calls Tryd.prog 76 #[.slice (some ⟨g, off, none⟩) 2 2] w fun e w' => ∃ v, e = .returned v ∧ Own w' w.heap.size v (b0 ++ b1) ∧ Below w.heap.size w w' := by
  obtain ⟨a0, c0, rfl⟩ := hs0.shape
  obtain ⟨a1, c1, rfl⟩ := hs1.shape
  go_enter Tryd.func76, Tryd.ntmps76
  have HG : Hid (∀ W : World, Calls Tryd.prog 83 #[.slice none 0 0, .int .i64 ((b0.length : Int) + (b1.length : Int))] W fun e w' => ∃ v, e = .returned v ∧ Own w' W.heap.size v [] ∧ Below W.heap.size W w') := fun W => by
    have := grow_any (b0.length + b1.length) W hm
    simpa using this
  go_wp2_with fail
  go_loop [3, 11] (fun n i => (i = .int .i64 0 ∧ n = .int .i64 0) ∨ (i = .int .i64 1 ∧ n = .int .i64 (b0.length : Int)) ∨ (i = .int .i64 2 ∧ n = .int .i64 ((b0.length : Int) + (b1.length : Int)))) (fun _ i => 2 - (intOf i).toNat)
  case atStart => exact .inl ⟨rfl, rfl⟩
  case round =>
    rcases hrel with ⟨rfl, rfl⟩ | ⟨rfl, rfl⟩ | ⟨rfl, rfl⟩
    · go_wp2
      go_round
      case rel => exact .inr (.inl ⟨rfl, rfl⟩)
      case measure => simp [intOf]
    · go_wp2
      go_round
      case rel => exact .inr (.inr ⟨rfl, rfl⟩)
      case measure => simp [intOf]
    · go_wp2_with fail
      refine (HG.out w).mono ?_
      rintro e w1 ⟨v1, rfl, ho1, hb1⟩
      clear HG
      go_wp2_with fail
      go_loopw [6, 27] (fun v i wr => Below w.heap.size w wr ∧ ((i = .int .i64 0 ∧ Own wr w.heap.size v []) ∨ (i = .int .i64 1 ∧ Own wr w.heap.size v b0) ∨ (i = .int .i64 2 ∧ Own wr w.heap.size v (b0 ++ b1)))) (fun _ i _ => 2 - (intOf i).toNat)
      case atStart => exact ⟨hb1, .inl ⟨rfl, ho1⟩⟩
      case round =>
        obtain ⟨hb, hr⟩ := hrel
        have hsz := hb.size
        have hc0' : wr.cell? ⟨g, off, none⟩ = some (Value.slice a0 b0.length c0) := by rw [hb.cell (p := ⟨g, off, none⟩) hg]; exact hc0
        have hc1' : wr.cell? ⟨g, off + 1, none⟩ = some (Value.slice a1 b1.length c1) := by rw [hb.cell (p := ⟨g, off + 1, none⟩) hg]; exact hc1
        have hs0' := hs0.below hb (Nat.le_refl _)
        have hs1' := hs1.below hb (Nat.le_refl _)
        rcases hr with ⟨rfl, ho⟩ | ⟨rfl, ho⟩ | ⟨rfl, ho⟩
        · go_wp2_with (at_builtin; refine app_own _ rfl (.tmp 31) (.tmp 32) rfl w.heap.size _ [] rfl ho _ b0 rfl hs0' (by simp; omega) hsz ?_; intro v2 w2 ho2 hg2 hv2; rw [List.nil_append] at ho2; have hB2 := below_grown hb hg2 hsz (fun q hq => (ho.blocks q hq).1); clear hg2 hv2)
          go_roundw
          case rel => exact ⟨hB2, .inr (.inl ⟨rfl, ho2⟩)⟩
          case measure => simp [intOf]
        · go_wp2_with (at_builtin; refine app_own _ rfl (.tmp 31) (.tmp 32) rfl w.heap.size _ b0 rfl ho _ b1 rfl hs1' (by omega) hsz ?_; intro v2 w2 ho2 hg2 hv2; have hB2 := below_grown hb hg2 hsz (fun q hq => (ho.blocks q hq).1); clear hg2 hv2)
          go_roundw
          case rel => exact ⟨hB2, .inr (.inr ⟨rfl, ho2⟩)⟩
          case measure => simp [intOf]
        · go_wp2
          go_ret
          exact ⟨_, rfl, ho, hb⟩

set_option maxRecDepth 100000 in
set_option maxHeartbeats 1000000 in
theorem seal_any (x : Value) (bs : List UInt8) (w : World) (hm : bs.length ≤ 100000000) (hseg : Seg w x bs) (hgf : 1 < w.heap.size) (hf : Tab w 1 (fours.map v32)) :
    Calls Tryd.prog 64 #[x] w fun e w' => ∃ v, e = .returned v ∧ Own w' w.heap.size v (bs ++ sumB (crcOf bs)) ∧ Below w.heap.size w w' := by
  obtain ⟨ao, c, rfl⟩ := hseg.shape
  go_enter Tryd.func64, Tryd.ntmps64
  go_wp2_with fail
  refine (csum_any _ bs _ (by omega) hseg hf).mono ?_
  rintro e w1 ⟨rfl, rfl⟩
  go_wp2_with fail
  refine (sumBytes_any _ _).mono ?_
  rintro e w2 ⟨rfl, hb2⟩
  have hl3 : (sumB (crcOf bs)).length = 3 := rfl
  have hi3 : (Tryd.prog.info? 132).map (·.size) = some ((sumB (crcOf bs)).map v8).toArray.size := Tryd.info132s
  have hone := one8 (sumB (crcOf bs))
  have HST : Hid ((#[Value.int .u8 0, .int .u8 0, .int .u8 0] : Array Value).size = ((sumB (crcOf bs)).map v8).toArray.size) := rfl
  obtain ⟨SB, hSB⟩ : ∃ SB, SB = sumB (crcOf bs) := ⟨_, rfl⟩
  have HSB : Hid (SB = sumB (crcOf bs)) := hSB
  rw [← hSB] at hl3 hi3 hone HST ⊢
  clear hSB
  go_wp2_with (refine store_blk rfl 132 _ _ rfl rfl _ (SB.map v8).toArray rfl rfl 132 _ (by exact Blk.new _ _ _) hi3 (by exact HST.out) hone ?_; intro w3 hb3 hg3 hs3)
  have s2 := hb2.size
  simp only [World.size_alloc] at hs3
  have hB3 := below_grown (hb2.alloc s2 _) hg3 (by simp; omega) (fun q hq => by cases hq; exact s2)
  have hb4 : Blk (w3.alloc (Obj.cells #[Value.slice ao bs.length c, Value.slice (some ⟨w2.heap.size, 0, none⟩) 3 3] 41)) (w2.heap.size + 1) 41 #[Value.slice ao bs.length c, Value.slice (some ⟨w2.heap.size, 0, none⟩) 3 3] := Blk.newAt _ _ _ _ hs3.symm
  refine (concat_any (w2.heap.size + 1) 0 _ _ bs SB _ (by omega) hb4.lt (hb4.cell rfl) (hb4.cell rfl) ((hseg.below hB3 (Nat.le_refl _)).alloc _) ((Seg.of_row hb3.row hl3 (Nat.le_refl _) hb3.lt).alloc _)).mono ?_
  rintro e w5 ⟨v5, rfl, ho5, hb5⟩
  go_wp2
  go_ret
  refine ⟨_, rfl, ?_, ?_⟩
  · rw [← HSB.out]
    exact ho5.mono (by simp; omega)
  · exact (hB3.alloc (by omega) _).trans (hb5.mono (by simp; omega))
end Go.Proofs.YtoemdmfpcobadaaDoor
namespace Go.Proofs.YtoemdmfpcobadaaDoor
open Go.RowKit

/-- The bytes that bs is the Seal of. -/
def openOf (bs : List UInt8) : Option (List UInt8) := if bs.length < 3 then none else if bs.take (bs.length - 3) ++ sumB (crcOf (bs.take (bs.length - 3))) = bs then some (bs.take (bs.length - 3)) else none

theorem openOf_yes (bs : List UInt8) (h : ¬ bs.length < 3) (he : sumB (crcOf (bs.take (bs.length - 3))) = bs.drop (bs.length - 3)) : openOf bs = some (bs.take (bs.length - 3)) := by
  unfold openOf; rw [if_neg h, he, List.take_append_drop, if_pos rfl]
theorem openOf_no (bs : List UInt8) (h : ¬ bs.length < 3) (he : ¬ sumB (crcOf (bs.take (bs.length - 3))) = bs.drop (bs.length - 3)) : openOf bs = none := by
  unfold openOf; rw [if_neg h, if_neg]
  intro h2
  apply he
  have := congrArg (List.drop (bs.length - 3)) h2
  rwa [List.drop_left' (by simp)] at this
theorem array_at (ad : Addr) (c : Nat) (w : World) : (Instr.arrayAt 132 (.slice (some ad) 3 c)).run Tryd.prog w = .ok (.pointer (some ad)) w := by
  simp [Instr.arrayAt, run_underlying Tryd.underlying132]
/-- A whole array is read in every world of the class. -/
theorem quiet_load {P : Program} {ops : Array Oper} {C : World → Prop} {Q : Act → Prop} {a : Act} {o : Oper} {rest : List Oper} (hgd : o.guard = none) (ty : TypeId) (x : Operand) (ho : o.op = .load ty x)
    (b off : Nat) (hx : a.eval x = .pointer (some ⟨b, off, none⟩)) (cs : List Value) (d : TypeDesc) (hc : ∀ w, C w → w.rangeAt b off cs)
    (hu : P.underlying ty = some d) (hd : d.isRow = true) (hi : (P.info? ty).map (·.size) = some cs.length)
    (h : wpQuiet P ops C Q rest (a.put o.dst (.agg cs.toArray))) : wpQuiet P ops C Q (o :: rest) a := by
  refine wpQuiet_step fun K hK => ?_
  rw [if_pos (by simp [Region.wanted, hgd])]
  refine ⟨.agg cs.toArray, fun w hw => ?_, hK _ h⟩
  unfold Oper.quietAt execOp
  simp only [ho, hx, Instr.loadAt, Instr.sureAddr, Sem.run_bind, Sem.run_pure, Result.andThen_ok, run_loadVar_mid w b off ty cs d (hc w hw) hu hd hi, Oper.quietUpon]
  exact ⟨trivial, trivial⟩
theorem three_of {l : List UInt8} (h : l.length = 3) : ∃ a b c, l = [a, b, c] := by
  match l, h with
  | [a, b, c], _ => exact ⟨a, b, c, rfl⟩

set_option maxRecDepth 100000 in
set_option maxHeartbeats 1000000 in
theorem open_any (x : Value) (bs : List UInt8) (w : World) (hm : bs.length ≤ 100000000) (hseg : Seg w x bs) (hgf : 1 < w.heap.size) (hf : Tab w 1 (fours.map v32)) :
    Calls Tryd.prog 67 #[x] w fun e w' => ∃ v, e = .returned (.tuple #[v, .bool (openOf bs).isSome]) ∧ Own w' w.heap.size v ((openOf bs).getD []) ∧ Below w.heap.size w w' := by
  obtain ⟨ao, c, rfl⟩ := hseg.shape
  by_cases h3 : bs.length < 3
  · have hO : openOf bs = none := by unfold openOf; rw [if_pos h3]
    rw [hO]
    go_enter Tryd.func67, Tryd.ntmps67
    go_wp2
    go_ret2
    exact ⟨_, rfl, ⟨rfl, .inl ⟨rfl, rfl⟩⟩, Below.refl _ _⟩
  obtain ⟨b, off, rfl, hc, hr, hb⟩ := hseg.form (by omega)
  have hsub : IntKind.i64.wrap ((bs.length : Int) - 3) = ((bs.length - 3 : Nat) : Int) := by rw [IntKind.wrap_i64]; omega
  have l1 := slice_to (some ⟨b, off, none⟩) bs.length c (bs.length - 3) (by omega)
  have l2 := slice_from b off bs.length c (bs.length - 3) (by omega) (by omega)
  rw [show bs.length - (bs.length - 3) = 3 by omega] at l2
  go_enter Tryd.func67, Tryd.ntmps67
  go_wp2_with fail
  go_quiet (fail)
  go_wp2_with fail
  obtain ⟨W, hW⟩ : ∃ W, W = w.drewN nq := ⟨_, rfl⟩
  rw [← hW]
  have hBW : Below w.heap.size w W := by rw [hW]; exact Below.drewN (Below.refl _ _) _
  clear hW l1 l2 hsub
  have hsT := ((hseg.below hBW (Nat.le_refl _)).takes (bs.length - 3) (by omega)).1
  have hfW := hf.below hBW hgf
  obtain ⟨t0, t1, t2, hT3⟩ := three_of (l := bs.drop (bs.length - 3)) (by simp; omega)
  have hrd := (hr.below hBW hb).drop (bs.length - 3)
  rw [hT3] at hrd
  have hrg : Hid (∀ w, (∃ p : Regrown, w = Sort.grow (redrawn W p.d) p.os) → w.rangeAt b (off + (bs.length - 3)) [v8 t0, v8 t1, v8 t2]) := by
    rintro w2 ⟨p, rfl⟩ j u hu
    have hj : j < [t0, t1, t2].length := by
      have := (List.getElem?_eq_some_iff.1 hu).1
      simpa using this
    have := (hrd.below (below_regrown W p.d p.os) (Nat.lt_of_lt_of_le hb hBW.size)) j hj
    rw [this, ← hu]
    obtain rfl | rfl | rfl : j = 0 ∨ j = 1 ∨ j = 2 := by simp at hj; omega
    all_goals rfl
  have HO : Hid ((sumB (crcOf (bs.take (bs.length - 3))) = [t0, t1, t2] → openOf bs = some (bs.take (bs.length - 3))) ∧ (¬ sumB (crcOf (bs.take (bs.length - 3))) = [t0, t1, t2] → openOf bs = none)) := ⟨fun h => openOf_yes bs h3 (h.trans hT3.symm), fun h => openOf_no bs h3 (fun h2 => h (h2.trans hT3))⟩
  have hlT : (bs.take (bs.length - 3)).length ≤ 1000000000 := by simp; omega
  clear hrd hT3
  generalize bs.take (bs.length - 3) = T at hsT HO hlT
  have cS : ∀ d os, Calls Tryd.prog 75 #[.slice (some ⟨b, off, none⟩) (bs.length - 3) c] (Sort.grow (redrawn W d) os) fun e w'' => e = .returned (v32 (crcOf T)) ∧ ∃ p : Regrown, w'' = Sort.grow (redrawn W p.d) p.os := fun d os => Calls.regrown_of ((csum_any _ T _ hlT (hsT.below (below_regrown W d os) (Nat.le_refl _)) (hfW.below (below_regrown W d os) (Nat.lt_of_lt_of_le hgf hBW.size))).mono fun _ _ ⟨h1, h2⟩ => ⟨h1, h2 ▸ Below.refl _ _⟩)
  have cB : ∀ d os, Calls Tryd.prog 74 #[v32 (crcOf T)] (Sort.grow (redrawn W d) os) fun e w'' => e = .returned (.agg ((sumB (crcOf T)).map v8).toArray) ∧ ∃ p : Regrown, w'' = Sort.grow (redrawn W p.d) p.os := fun d os => Calls.regrown_of (sumBytes_any _ _)
  have heq : ∀ w : World, (Op.equalIn 10000 132 (.agg ((sumB (crcOf T)).map v8).toArray) (.agg #[v8 t0, v8 t1, v8 t2])).run Tryd.prog w = .ok (sumB (crcOf T) == [t0, t1, t2]) w := fun w =>
    run_equalIn_bytes (P := Tryd.prog) w 9998 132 5 3 Tryd.underlying132 Tryd.underlying5 (fun w => by kernel_rfl) (sumB (crcOf T)) [t0, t1, t2] rfl rfl
  have hat := array_at ⟨b, off + (bs.length - 3), none⟩ (c - (bs.length - 3))
  generalize crcOf T = S at *
  generalize hAG : ((sumB S).map v8).toArray = AG at *
  refine wp_region_quiet_below (by kernel_rfl) (by kernel_rfl) ?_
  quiet_step (fail)
  quiet_step (exact cS _ _)
  quiet_step (exact cB _ _)
  quiet_step (fail)
  quiet_step (fail)
  refine quiet_load rfl 132 _ rfl b (off + (bs.length - 3)) rfl [v8 t0, v8 t1, v8 t2] _ hrg.out Tryd.underlying132 rfl Tryd.info132s ?_
  quiet_step (fail)
  refine wpQuiet_nil ?_
  intro WQ hw'
  have hBQ : Below w.heap.size w WQ := by
    obtain ⟨p, rfl⟩ := hw'
    exact hBW.trans ((below_regrown W p.d p.os).mono hBW.size)
  clear hw' cS cB heq hat hrg hfW hsT
  obtain ⟨EQ, hEQ⟩ : ∃ EQ, EQ = (sumB S == [t0, t1, t2]) := ⟨_, rfl⟩
  rw [← hEQ]
  by_cases hE : sumB S = [t0, t1, t2]
  · have hO := HO.out.1 hE
    obtain rfl : EQ = true := by rw [hEQ]; simp [hE]
    have hsT : Seg WQ (.slice (some ⟨b, off, none⟩) (bs.length - 3) c) T := by
      have h := ((hseg.below hBQ (Nat.le_refl _)).takes (bs.length - 3) (by omega)).1
      have hT : openOf bs = some (bs.take (bs.length - 3)) := by
        unfold openOf at hO ⊢
        rw [if_neg h3] at hO ⊢
        split at hO
        · rename_i h5; rw [if_pos h5]
        · cases hO
      rw [Option.some.inj (hO.symm.trans hT)]; exact h
    have HC : Hid (Calls Tryd.prog 44 #[.slice (some ⟨b, off, none⟩) (bs.length - 3) c] WQ fun e w' => ∃ v, e = .returned v ∧ Own w' WQ.heap.size v T ∧ Below WQ.heap.size WQ w') := clone_any _ T WQ hlT hsT
    clear HO hE hEQ
    go_wp2_with fail
    refine HC.out.mono ?_
    rintro e w4 ⟨v4, rfl, ho4, hb4⟩
    go_wp2
    go_ret2
    rw [hO]
    exact ⟨_, rfl, ho4.mono hBQ.size, hBQ.trans (hb4.mono hBQ.size)⟩
  · have hO := HO.out.2 hE
    obtain rfl : EQ = false := by rw [hEQ]; simp [hE]
    clear HO hEQ
    go_wp2
    go_ret2
    rw [hO]
    exact ⟨_, rfl, ⟨rfl, .inl ⟨rfl, rfl⟩⟩, hBQ⟩
end Go.Proofs.YtoemdmfpcobadaaDoor
