/-
  What is proved here: crc.doubleFour doubles a sum four times; crc.Add is the plain function crc of the lowest 24 bits, crc.Sum that of B704CE; the statements' own first look, the sum of nine digits, answers true. small facts on slices of bytes that several texts share: the empty one of the call's own, a slice's form, its beginning. small facts on slices of bytes: the empty one of the call's own, what becomes of any of them as a string; and on words that are held against one another.
  Conditions: the variable fourBits holds the sixteen words. those that each fact names.
-/
import Derived.Test.YtgoehohadnkpdaaDoorProg
import Derived.Test.YtgoehohadnkpdaaDoorJShaPure
import Derived.Lib.SlBytesConst
import Derived.Laws.IdiomStrings
import Derived.Laws.OwnMore
namespace Go.Proofs.YtgoehohadnkpdaaDoor
open Go.RowKit

theorem ret_bool {a b : Bool} (h : a = b) : Ending.returned (.bool a) = .returned (.bool b) := by rw [h]
def low24 (s : BitVec 32) : BitVec 32 := s &&& 0xFFFFFF#32

theorem and24 (s : BitVec 32) : bits .and .u32 (n32 s) 16777215 = n32 (low24 s) := by
  rw [show (16777215 : Int) = n32 0xFFFFFF#32 from rfl, bits_and32]; rfl
theorem low24_toNat (s : BitVec 32) : (low24 s).toNat = s.toNat % 16777216 := by
  unfold low24; rw [BitVec.toNat_and]
  show _ &&& (2 ^ 24 - 1) = _
  rw [Nat.and_two_pow_sub_one_eq_mod]
theorem low24_lt (s : BitVec 32) : (low24 s).toNat < 16777216 := by rw [low24_toNat]; omega
theorem low24_of_lt (s : BitVec 32) (h : s.toNat < 16777216) : low24 s = s := by
  apply BitVec.eq_of_toNat_eq; rw [low24_toNat]; omega
theorem rem24 (s : BitVec 32) : n32 s % 16777216 = n32 (low24 s) := by
  unfold n32; rw [low24_toNat]; simp
theorem shl4_form (s : BitVec 32) (h : s.toNat < 16777216) : n32 s * (16 : Int) = n32 (s <<< 4) := by
  unfold n32; rw [BitVec.toNat_shiftLeft, Nat.shiftLeft_eq, Nat.mod_eq_of_lt (by omega)]; simp
theorem shl16_form (x : UInt8) : n8 x * (65536 : Int) = n32 (w8 x <<< 16) := by
  have := w8_lt x
  unfold n8 n32; rw [BitVec.toNat_shiftLeft, Nat.shiftLeft_eq, Nat.mod_eq_of_lt (by omega), w8_toNat]; simp

set_option maxRecDepth 100000 in
set_option maxHeartbeats 400000 in
theorem four_any (s : BitVec 32) (hs : s.toNat < 16777216) (w : World) (hf : Tab w 1 (fours.map v32)) :
    Calls Tryd.prog 91 #[v32 s] w fun e w' => e = .returned (v32 (dbls 4 s)) ∧ w' = w := by
  have hq : n32 s / 1048576 = ((s.toNat / 1048576 : Nat) : Int) := by unfold n32; simp
  have hql : s.toNat / 1048576 < 16 := by omega
  have hR : ((s <<< 4) &&& 0xFFFFFF#32) ^^^ fours.getD (s.toNat / 1048576) 0#32 = dbls 4 s := four_eq s hs
  have hc : w.cell? ⟨1, s.toNat / 1048576, none⟩ = some (v32 (fours.getD (s.toNat / 1048576) 0#32)) := hf _ _ (by
    have := at32 fours (s.toNat / 1048576) (by exact hql)
    simpa using this)
  have ha := and24 (s <<< 4)
  have HR : Hid (low24 (s <<< 4) ^^^ fours.getD (s.toNat / 1048576) 0#32 = dbls 4 s) := hR
  clear hR
  generalize fours.getD (s.toNat / 1048576) 0#32 = T at hc HR
  have hx := bits_xor32 (low24 (s <<< 4)) T
  generalize low24 (s <<< 4) = L at ha hx HR
  generalize s.toNat / 1048576 = q at hq hql hc
  go_enter Tryd.func91, Tryd.ntmps91
  go_wp2
  go_ret
  exact ⟨ret_int (by rw [shl4_form s hs, ha, hx, HR.out]), rfl⟩

theorem dbls_succ (n : Nat) (s : BitVec 32) : dbls (n + 1) s = dbl (dbls n s) := by rw [dbls_add]; rfl
theorem bit23 (u : BitVec 32) (h : u.toNat < 16777216) : u.getLsbD 23 = decide (8388608 ≤ u.toNat) := by
  rw [BitVec.getLsbD, Nat.testBit_eq_decide_div_mod_eq]
  rcases Nat.lt_or_ge u.toNat 8388608 with h1 | h1
  · have : u.toNat / 2 ^ 23 = 0 := by omega
    rw [this]; simp; omega
  · have : u.toNat / 2 ^ 23 = 1 := by omega
    rw [this]; simp; omega
theorem shl1_form (u : BitVec 32) (h : u.toNat < 16777216) : (2 : Int) * n32 u = n32 (u <<< 1) := by
  unfold n32; rw [BitVec.toNat_shiftLeft, Nat.shiftLeft_eq, Nat.mod_eq_of_lt (by omega)]; simp; omega
theorem dbl_hi (u : BitVec 32) (h : u.toNat < 16777216) (h1 : 8388608 ≤ u.toNat) : bits .xor .u32 ((2 : Int) * n32 u) 25578747 = n32 (dbl u) := by
  rw [shl1_form u h, show (25578747 : Int) = n32 0x1864CFB#32 from rfl, bits_xor32]
  unfold dbl; rw [bit23 u h]; simp [h1]
theorem dbl_lo (u : BitVec 32) (h : u.toNat < 16777216) (h1 : u.toNat < 8388608) : (2 : Int) * n32 u = n32 (dbl u) := by
  rw [shl1_form u h]; unfold dbl; rw [bit23 u h]; simp [Nat.not_le.2 h1]
theorem rem24' (s : BitVec 32) : (n32 s).tmod 16777216 = n32 (low24 s) := by
  rw [Int.tmod_eq_emod_of_nonneg (ge32 s), rem24]
theorem crc_take_all (s : BitVec 32) (bs : List UInt8) (k : Nat) (h : bs.length ≤ k) : crc s (bs.take k) = crc s bs := by rw [List.take_of_length_le h]

set_option maxRecDepth 100000 in
set_option maxHeartbeats 400000 in
theorem add_any (s : BitVec 32) (x : Value) (bs : List UInt8) (w : World) (hm : bs.length ≤ 1000000000) (hseg : Seg w x bs) (hf : Tab w 1 (fours.map v32)) :
    Calls Tryd.prog 81 #[v32 s, x] w fun e w' => e = .returned (v32 (crc (low24 s) bs)) ∧ w' = w := by
  have ha := and24 s
  rcases hseg with ⟨rfl, ao, c, rfl, _⟩ | ⟨b, off, c, rfl, hc, hr, hb⟩
  · go_enter Tryd.func81, Tryd.ntmps81
    go_wp2
    go_loop [0, 11] (fun n i => i = .int .i64 0 ∧ n = v32 (low24 s)) (fun _ _ => 0)
    case atStart => exact ⟨rfl, rfl⟩
    case round =>
      obtain ⟨rfl, rfl⟩ := hrel
      go_wp2
      go_ret
      exact ⟨rfl, rfl⟩
  have hl0 := low24_lt s
  go_enter Tryd.func81, Tryd.ntmps81
  go_wp2
  clear ha
  go_loop [0, 11] (fun n i => ∃ k : Nat, k ≤ bs.length ∧ i = .int .i64 k ∧ n = v32 (crc (low24 s) (bs.take k))) (fun _ i => bs.length - (intOf i).toNat)
  case atStart => exact ⟨0, Nat.zero_le _, rfl, rfl⟩
  case round =>
    obtain ⟨k, hk, rfl, rfl⟩ := hrel
    by_cases hlt : k < bs.length
    · have hc := hr k hlt
      have ht := crc_take_succ bs k hlt (low24 s)
      have hbd := crc_lt (bs.take k) (low24 s) hl0
      generalize crc (low24 s) (bs.take k) = u at ht hbd
      generalize hxk : bs[k] = xk at hc ht
      have hs := shl16_form xk
      have hx := bits_xor32 u (w8 xk <<< 16)
      have hv := xor_lt u _ hbd (shl_lt xk)
      have hst : step u xk = dbls 4 (dbls 4 (u ^^^ (w8 xk <<< 16))) := dbls_add 4 4 _
      have h8 := lt8 xk
      have h80 := ge8 xk
      generalize u ^^^ (w8 xk <<< 16) = v at hx hv hst
      have H4 : Hid (∀ y : BitVec 32, y.toNat < 16777216 → Calls Tryd.prog 91 #[v32 y] w fun e w' => e = .returned (v32 (dbls 4 y)) ∧ w' = w) := fun y hy => four_any y hy w hf
      have HV : Hid (v.toNat < 16777216) := hv
      clear hv
      go_wp2_with fail
      refine (H4.out _ HV.out).mono ?_
      rintro e w1 ⟨rfl, rfl⟩
      go_wp2_with fail
      refine (H4.out _ (dbls_lt 4 _ HV.out)).mono ?_
      rintro e w1 ⟨rfl, rfl⟩
      go_wp2
      go_round
      case rel => exact ⟨k + 1, by omega, by go_num, by rw [ht, hst]⟩
      case measure => simp [intOf]; omega
    · have hk' : bs.length ≤ k := by omega
      go_wp2
      go_ret
      exact ⟨ret_int (by rw [crc_take_all _ _ _ hk']), rfl⟩

set_option maxRecDepth 100000 in
theorem csum_any (x : Value) (bs : List UInt8) (w : World) (hm : bs.length ≤ 1000000000) (hseg : Seg w x bs) (hf : Tab w 1 (fours.map v32)) :
    Calls Tryd.prog 72 #[x] w fun e w' => e = .returned (v32 (crcOf bs)) ∧ w' = w := by
  have h := add_any 0xB704CE#32 x bs w hm hseg hf
  rw [show v32 0xB704CE#32 = .int .u32 11994318 from rfl, show low24 0xB704CE#32 = 0xB704CE#32 from rfl] at h
  have H : Hid (Calls Tryd.prog 81 #[.int .u32 11994318, x] w fun e w' => e = .returned (v32 (crcOf bs)) ∧ w' = w) := h
  clear h
  go_enter Tryd.func72, Tryd.ntmps72
  go_wp2_with fail
  refine H.out.mono ?_
  rintro e w1 ⟨rfl, rfl⟩
  go_wp2
  go_ret
  exact ⟨rfl, rfl⟩

def digits : List UInt8 := [49, 50, 51, 52, 53, 54, 55, 56, 57]

end Go.Proofs.YtgoehohadnkpdaaDoor
namespace Go.Proofs.YtgoehohadnkpdaaDoor
open Go.RowKit

theorem own_empty (w : World) (base n : Nat) (hn : n = w.heap.size) (hb : base ≤ w.heap.size) : Own (w.alloc (.cells #[] 5)) base (.slice (some ⟨n, 0, none⟩) 0 0) [] := by
  subst hn
  exact ⟨rfl, .inr ⟨w.heap.size, 0, #[], rfl, hb, heap_alloc_new w _, Nat.le_refl _, Nat.zero_le _, rfl, rfl⟩⟩
theorem Seg.shape {w : World} {v : Value} {bs : List UInt8} (h : Seg w v bs) : ∃ ao c, v = .slice ao bs.length c := by
  rcases h with ⟨rfl, ao', c', h, _⟩ | ⟨b, off, c', h, _⟩
  · exact ⟨_, _, h⟩
  · exact ⟨_, _, h⟩
theorem elem_bytes : Tryd.prog.elem 35 = 5 := by kernel_rfl
theorem size_byte (w : World) : (sizeOf 5).run Tryd.prog w = .ok 1 w := by kernel_rfl
theorem add_zero_addr (ao : Option Addr) : ao.map (·.add 0) = ao := by
  cases ao with
  | none => rfl
  | some a => obtain ⟨b, o, s⟩ := a; simp [Addr.add]
theorem slice_to (ao : Option Addr) (len c n : Nat) (h : n ≤ c) (w : World) : (Instr.slice 35 (.slice ao len c) none (some (.int .i64 (n : Int))) none).run Tryd.prog w = .ok (.slice ao n c) w := by
  rw [run_slice_h w 35 ao len c (by rw [elem_bytes]; exact Tryd.underlying35) .i64 n (by omega) (by omega), elem_bytes, size_byte]
  simp only [Result.andThen_ok, sliced, Int.toNat_natCast, Nat.zero_mul, add_zero_addr, Nat.sub_zero, ite_self]
theorem Seg.takes {w : World} {ao : Option Addr} {len c : Nat} {bs : List UInt8} (h : Seg w (.slice ao len c) bs) (n : Nat) (hn : n ≤ len) : Seg w (.slice ao n c) (bs.take n) ∧ n ≤ c := by
  rcases h with ⟨rfl, ao', c', h, h2⟩ | ⟨b, off, c', h, h2, h3, h4⟩
  · cases h
    obtain rfl : n = 0 := by omega
    exact ⟨.inl ⟨rfl, _, _, rfl, h2⟩, Nat.zero_le _⟩
  · cases h
    exact ⟨Seg.of_row (h3.take n) (by simp; omega) (by omega) h4, by omega⟩
theorem grown_transB {a b c : World} {row : Option Nat} (h : a.grownBy b row) (k : b.grownBy c row) : a.grownBy c row := World.grownBy.trans h k
end Go.Proofs.YtgoehohadnkpdaaDoor
namespace Go.Proofs.YtgoehohadnkpdaaDoor
open Go.RowKit

theorem seg_string {w : World} {v : Value} {bs : List UInt8} (h : Seg w v bs) (t : TypeId) (ht : Tryd.prog.underlying t = some .string) : (convert 35 t v).run Tryd.prog w = .ok (.string ⟨bs.toArray⟩) w := by
  rcases h with ⟨rfl, ao, c, rfl, _⟩ | ⟨b, off, c, rfl, _, hr, _⟩
  · rw [run_convert_bytes_string w 35 t 5 _ 0 c Tryd.underlying35 Tryd.underlying5 ht]
    cases ao <;> simp [Conv.bytesToString, loadCells]
    all_goals rfl
  · exact run_convert_bytes_back w 35 t 5 ⟨b, off, none⟩ c bs Tryd.underlying35 Tryd.underlying5 ht (fun j hj => by rw [Addr.add_mid]; exact hr j hj)
theorem xor8 (a b : UInt8) : bits .xor .u8 (n8 a) (n8 b) = n8 (a ^^^ b) := by
  show IntKind.u8.wrap ((BitVec.ofInt 8 (a.toNat : Int) ^^^ BitVec.ofInt 8 (b.toNat : Int)).toNat : Int) = _
  have h : ∀ x : UInt8, BitVec.ofInt 8 (x.toNat : Int) = x.toBitVec := fun x => by
    rw [BitVec.ofInt_natCast]; exact BitVec.eq_of_toNat_eq (by simp)
  rw [h, h, wrap_u8_nat]
  show _ = (((a ^^^ b).toNat : Nat) : Int)
  rw [UInt8.toNat_xor, BitVec.toNat_xor]
  have h1 := a.toNat_lt
  have h2 := b.toNat_lt
  exact congrArg (fun n : Nat => (n : Int)) (Nat.mod_eq_of_lt (Nat.xor_lt_two_pow (n := 8) h1 h2))
theorem Own.set {w : World} {base g n c : Nat} {bs : List UInt8} (h : Own w base (.slice (some ⟨g, 0, none⟩) n c) bs) (i : Nat) (y : UInt8) :
    Row (w.setCell ⟨g, i, none⟩ (v8 y)) g 0 (bs.set i y) ∧ w.frozen? ⟨g, i, none⟩ = false := by
  rcases h.2 with ⟨h1, _⟩ | ⟨g', cap, cur, h1, h2, h3, h4, h5, h6, h7⟩
  · cases h1
  · cases h1
    have hb : Blk w g 5 cur := h3
    refine ⟨fun j hj => ?_, hb.frozen i⟩
    have hj' : j < bs.length := by simpa using hj
    have hcur : cur[j]? = some (v8 bs[j]) := by
      have := congrArg (fun l => l[j]?) h7
      simp [hj'] at this
      simpa using this
    rw [Nat.zero_add, (hb.set i (v8 y)).cell (v := v8 ((bs.set i y)[j])) ?_]
    rw [Array.getElem?_setIfInBounds, List.getElem_set]
    by_cases he : i = j
    · subst he
      have : i < cur.size := (Array.getElem?_eq_some_iff.1 hcur).1
      simp [this]
    · simp [he, hcur]
theorem n32_beq (a b : BitVec 32) : (n32 a == n32 b) = decide (a = b) := by
  unfold n32
  by_cases h : a = b
  · simp [h]
  · have : ¬ a.toNat = b.toNat := fun e => h (BitVec.eq_of_toNat_eq e)
    simp [h]; omega
theorem seg_nil (w : World) : Seg w (.slice none 0 0) [] := .inl ⟨rfl, none, 0, rfl, fun _ => rfl⟩
theorem Seg.len {w : World} {ao : Option Addr} {n c : Nat} {bs : List UInt8} (h : Seg w (.slice ao n c) bs) : bs.length = n := by
  rcases h with ⟨rfl, ao', c', h, _⟩ | ⟨b, off, c', h, _⟩
  · cases h; rfl
  · cases h; rfl

theorem Seg.form {w : World} {ao : Option Addr} {n c : Nat} {bs : List UInt8} (h : Seg w (.slice ao n c) bs) (hn : 0 < n) : ∃ b off, ao = some ⟨b, off, none⟩ ∧ n ≤ c ∧ Row w b off bs ∧ b < w.heap.size := by
  rcases h with ⟨rfl, ao', c', h, _⟩ | ⟨b, off, c', h, h2, h3, h4⟩
  · cases h; omega
  · cases h; exact ⟨b, off, rfl, h2, h3, h4⟩

theorem slice_from (b off len c lo : Nat) (h : lo ≤ len) (hc : lo < c) (w : World) : (Instr.slice 35 (.slice (some ⟨b, off, none⟩) len c) (some (.int .i64 (lo : Int))) none none).run Tryd.prog w = .ok (.slice (some ⟨b, off + lo, none⟩) (len - lo) (c - lo)) w := by
  rw [run_slice_l w 35 (some ⟨b, off, none⟩) len c (by rw [elem_bytes]; exact Tryd.underlying35) .i64 lo (by omega) (by omega), elem_bytes, size_byte]
  simp only [Result.andThen_ok, sliced, Int.toNat_natCast, Nat.mul_one]
  rw [if_neg (by omega), Option.map_some, Addr.add_mid]

theorem mk_bytes (n : Nat) (h : n ≤ 1000000000) (f : Nat → Value) (w : World) : (Instr.makeSlice 35 (.int .i64 (n : Int)) (.int .i64 (n : Int))).run Tryd.prog w = .ok (.slice (some ⟨w.heap.size, 0, none⟩) n n) (w.alloc (.cells (upTo n 0 f (.int .u8 0)) 5)) := by
  obtain ⟨i0, hi, hz0, hz1, hz2⟩ := info_parts Tryd.info5
  rw [run_make w 35 5 i0 (.int .u8 0) Tryd.underlying35 hi hz0 .i64 .i64 n n (by omega) (by omega) (by rw [hz2]; omega) (by omega)]
  rw [hz1, Int.toNat_natCast, Nat.mul_one]
  have e : madeCells (Value.int .u8 0).cells n = upTo n 0 f (.int .u8 0) := by
    apply Array.ext
    · rw [size_madeCells, upTo_size]
    · intro i h1 h2
      rw [size_madeCells] at h1
      have := upTo_at n 0 f (.int .u8 0) i h1
      rw [Array.getElem?_eq_getElem h2] at this
      rw [Option.some.inj this]
      simp [madeCells, Value.cells, Nat.mod_one]
  rw [e]
end Go.Proofs.YtgoehohadnkpdaaDoor
