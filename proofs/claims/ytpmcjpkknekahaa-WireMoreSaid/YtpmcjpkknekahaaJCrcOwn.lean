/-
  What is proved here: small facts on slices of bytes: the empty one of the call's own, what becomes of any of them as a string; and on words that are held against one another.
  Conditions: those that each fact names.
-/
import Derived.Test.YtpmcjpkknekahaaJCrcAdd
import Derived.Laws.IdiomStrings
import Derived.Laws.OwnMore
import Derived.Test.YtpmcjpkknekahaaJSegBase
namespace Go.Proofs.Ytpmcjpkknekahaa
open Go.RowKit

theorem seg_string {w : World} {v : Value} {bs : List UInt8} (h : Seg w v bs) (t : TypeId) (ht : Try.prog.underlying t = some .string) : (convert 26 t v).run Try.prog w = .ok (.string ⟨bs.toArray⟩) w := by
  rcases h with ⟨rfl, ao, c, rfl, _⟩ | ⟨b, off, c, rfl, _, hr, _⟩
  · rw [run_convert_bytes_string w 26 t 5 _ 0 c Try.underlying26 Try.underlying5 ht]
    cases ao <;> simp [Conv.bytesToString, loadCells]
    all_goals rfl
  · exact run_convert_bytes_back w 26 t 5 ⟨b, off, none⟩ c bs Try.underlying26 Try.underlying5 ht (fun j hj => by rw [Addr.add_mid]; exact hr j hj)
theorem xor8 (a b : UInt8) : bits .xor .u8 (n8 a) (n8 b) = n8 (a ^^^ b) := by
  show IntKind.u8.wrap ((BitVec.ofInt 8 (a.toNat : Int) ^^^ BitVec.ofInt 8 (b.toNat : Int)).toNat : Int) = _
  have h : ∀ x : UInt8, BitVec.ofInt 8 (x.toNat : Int) = x.toBitVec := fun x => by
    rw [BitVec.ofInt_natCast]; exact BitVec.eq_of_toNat_eq (by simp)
  rw [h, h, wrap_u8_nat]
  show _ = (((a ^^^ b).toNat : Nat) : Int)
  rw [UInt8.toNat_xor, BitVec.toNat_xor]
  have h1 := a.toNat_lt
  have h2 := b.toNat_lt
  exact congrArg (fun n : Nat => (n : Int)) (Nat.mod_eq_of_lt (Nat.xor_lt_two_pow (n := 8) h1 h2))
theorem Own.set {w : World} {base g n c : Nat} {bs : List UInt8} (h : Own w base (.slice (some ⟨g, 0, none⟩) n c) bs) (i : Nat) (y : UInt8) :
    Row (w.setCell ⟨g, i, none⟩ (v8 y)) g 0 (bs.set i y) ∧ w.frozen? ⟨g, i, none⟩ = false := by
  rcases h.2 with ⟨h1, _⟩ | ⟨g', cap, cur, h1, h2, h3, h4, h5, h6, h7⟩
  · cases h1
  · cases h1
    have hb : Blk w g 5 cur := h3
    refine ⟨fun j hj => ?_, hb.frozen i⟩
    have hj' : j < bs.length := by simpa using hj
    have hcur : cur[j]? = some (v8 bs[j]) := by
      have := congrArg (fun l => l[j]?) h7
      simp [hj'] at this
      simpa using this
    rw [Nat.zero_add, (hb.set i (v8 y)).cell (v := v8 ((bs.set i y)[j])) ?_]
    rw [Array.getElem?_setIfInBounds, List.getElem_set]
    by_cases he : i = j
    · subst he
      have : i < cur.size := (Array.getElem?_eq_some_iff.1 hcur).1
      simp [this]
    · simp [he, hcur]
theorem n32_beq (a b : BitVec 32) : (n32 a == n32 b) = decide (a = b) := by
  unfold n32
  by_cases h : a = b
  · simp [h]
  · have : ¬ a.toNat = b.toNat := fun e => h (BitVec.eq_of_toNat_eq e)
    simp [h]; omega
theorem seg_nil (w : World) : Seg w (.slice none 0 0) [] := .inl ⟨rfl, none, 0, rfl, fun _ => rfl⟩
theorem Seg.len {w : World} {ao : Option Addr} {n c : Nat} {bs : List UInt8} (h : Seg w (.slice ao n c) bs) : bs.length = n := by
  rcases h with ⟨rfl, ao', c', h, _⟩ | ⟨b, off, c', h, _⟩
  · cases h; rfl
  · cases h; rfl

theorem Seg.form {w : World} {ao : Option Addr} {n c : Nat} {bs : List UInt8} (h : Seg w (.slice ao n c) bs) (hn : 0 < n) : ∃ b off, ao = some ⟨b, off, none⟩ ∧ n ≤ c ∧ Row w b off bs ∧ b < w.heap.size := by
  rcases h with ⟨rfl, ao', c', h, _⟩ | ⟨b, off, c', h, h2, h3, h4⟩
  · cases h; omega
  · cases h; exact ⟨b, off, rfl, h2, h3, h4⟩

theorem slice_from (b off len c lo : Nat) (h : lo ≤ len) (hc : lo < c) (w : World) : (Instr.slice 26 (.slice (some ⟨b, off, none⟩) len c) (some (.int .i64 (lo : Int))) none none).run Try.prog w = .ok (.slice (some ⟨b, off + lo, none⟩) (len - lo) (c - lo)) w := by
  rw [run_slice_l w 26 (some ⟨b, off, none⟩) len c (by rw [elem_bytes]; exact Try.underlying26) .i64 lo (by omega) (by omega), elem_bytes, size_byte]
  simp only [Result.andThen_ok, sliced, Int.toNat_natCast, Nat.mul_one]
  rw [if_neg (by omega), Option.map_some, Addr.add_mid]

theorem mk_bytes (n : Nat) (h : n ≤ 1000000000) (f : Nat → Value) (w : World) : (Instr.makeSlice 26 (.int .i64 (n : Int)) (.int .i64 (n : Int))).run Try.prog w = .ok (.slice (some ⟨w.heap.size, 0, none⟩) n n) (w.alloc (.cells (upTo n 0 f (.int .u8 0)) 5)) := by
  obtain ⟨i0, hi, hz0, hz1, hz2⟩ := info_parts Try.info5
  rw [run_make w 26 5 i0 (.int .u8 0) Try.underlying26 hi hz0 .i64 .i64 n n (by omega) (by omega) (by rw [hz2]; omega) (by omega)]
  rw [hz1, Int.toNat_natCast, Nat.mul_one]
  have e : madeCells (Value.int .u8 0).cells n = upTo n 0 f (.int .u8 0) := by
    apply Array.ext
    · rw [size_madeCells, upTo_size]
    · intro i h1 h2
      rw [size_madeCells] at h1
      have := upTo_at n 0 f (.int .u8 0) i h1
      rw [Array.getElem?_eq_getElem h2] at this
      rw [Option.some.inj this]
      simp [madeCells, Value.cells, Nat.mod_one]
  rw [e]
end Go.Proofs.Ytpmcjpkknekahaa
