/-
  What is proved here: plain facts on slices of bytes: as a text, of how many bytes, their beginnings and their rests.
  Conditions: those that each fact names.
-/
import Derived.Test.YtichmnbhephkkaaShaApp
namespace Go.Proofs.Ytichmnbhephkkaa
open Go.RowKit

theorem own_emptyD (w : World) (base n : Nat) (hn : n = w.heap.size) (hb : base ≤ w.heap.size) : Own (w.alloc (.cells #[] 5)) base (.slice (some ⟨n, 0, none⟩) 0 0) [] := by
  subst hn
  exact ⟨rfl, .inr ⟨w.heap.size, 0, #[], rfl, hb, heap_alloc_new w _, Nat.le_refl _, Nat.zero_le _, rfl, rfl⟩⟩
theorem seg_stringD {w : World} {v : Value} {bs : List UInt8} (h : Seg w v bs) (t : TypeId) (ht : Try.prog.underlying t = some .string) : (convert 32 t v).run Try.prog w = .ok (.string ⟨bs.toArray⟩) w := by
  rcases h with ⟨rfl, ao, c, rfl, _⟩ | ⟨b, off, c, rfl, _, hr, _⟩
  · rw [run_convert_bytes_string w 32 t 5 _ 0 c Try.underlying32 Try.underlying5 ht]
    cases ao <;> simp [Conv.bytesToString, loadCells]
    all_goals rfl
  · exact run_convert_bytes_back w 32 t 5 ⟨b, off, none⟩ c bs Try.underlying32 Try.underlying5 ht (fun j hj => by rw [Addr.add_mid]; exact hr j hj)
theorem Seg.shapeD {w : World} {v : Value} {bs : List UInt8} (h : Seg w v bs) : ∃ ao c, v = .slice ao bs.length c := by
  rcases h with ⟨rfl, ao', c', h, _⟩ | ⟨b, off, c', h, _⟩
  · exact ⟨_, _, h⟩
  · exact ⟨_, _, h⟩
theorem Seg.formD {w : World} {ao : Option Addr} {n c : Nat} {bs : List UInt8} (h : Seg w (.slice ao n c) bs) (hn : 0 < n) : ∃ b off, ao = some ⟨b, off, none⟩ ∧ n ≤ c ∧ Row w b off bs ∧ b < w.heap.size := by
  rcases h with ⟨rfl, ao', c', h, _⟩ | ⟨b, off, c', h, h2, h3, h4⟩
  · cases h; omega
  · cases h; exact ⟨b, off, rfl, h2, h3, h4⟩
theorem elem_bytesD : Try.prog.elem 32 = 5 := by kernel_rfl
theorem size_byteD (w : World) : (sizeOf 5).run Try.prog w = .ok 1 w := by kernel_rfl
theorem add_zero_addrD (ao : Option Addr) : ao.map (·.add 0) = ao := by
  cases ao with
  | none => rfl
  | some a => obtain ⟨b, o, s⟩ := a; simp [Addr.add]
theorem slice_toD (ao : Option Addr) (len c n : Nat) (h : n ≤ c) (w : World) : (Instr.slice 32 (.slice ao len c) none (some (.int .i64 (n : Int))) none).run Try.prog w = .ok (.slice ao n c) w := by
  rw [run_slice_h w 32 ao len c (by rw [elem_bytesD]; exact Try.underlying32) .i64 n (by omega) (by omega), elem_bytesD, size_byteD]
  simp only [Result.andThen_ok, sliced, Int.toNat_natCast, Nat.zero_mul, add_zero_addrD, Nat.sub_zero, ite_self]
/-- Where the rest of a slice begins. -/
def restD (ao : Option Addr) (c lo : Nat) : Option Addr := if c = lo then ao else ao.map (·.add (lo * 1))
theorem slice_restD (ao : Option Addr) (len c lo : Nat) (h : lo ≤ len) (w : World) : (Instr.slice 32 (.slice ao len c) (some (.int .i64 (lo : Int))) none none).run Try.prog w = .ok (.slice (restD ao c lo) (len - lo) (c - lo)) w := by
  rw [run_slice_l w 32 ao len c (by rw [elem_bytesD]; exact Try.underlying32) .i64 lo (by omega) (by omega), elem_bytesD, size_byteD]
  simp only [Result.andThen_ok, sliced, Int.toNat_natCast, restD]
theorem Seg.takesD {w : World} {ao : Option Addr} {len c : Nat} {bs : List UInt8} (h : Seg w (.slice ao len c) bs) (n : Nat) (hn : n ≤ len) : Seg w (.slice ao n c) (bs.take n) ∧ n ≤ c := by
  rcases h with ⟨rfl, ao', c', h, h2⟩ | ⟨b, off, c', h, h2, h3, h4⟩
  · cases h
    obtain rfl : n = 0 := by omega
    exact ⟨.inl ⟨rfl, _, _, rfl, h2⟩, Nat.zero_le _⟩
  · cases h
    exact ⟨Seg.of_row (h3.take n) (by simp; omega) (by omega) h4, by omega⟩
theorem Seg.dropsD {w : World} {ao : Option Addr} {len c : Nat} {bs : List UInt8} (h : Seg w (.slice ao len c) bs) (n : Nat) (hn : n ≤ len) : Seg w (.slice (restD ao c n) (len - n) (c - n)) (bs.drop n) := by
  rcases h with ⟨rfl, ao', c', h, h2⟩ | ⟨b, off, c', h, h2, h3, h4⟩
  · cases h
    obtain rfl : n = 0 := by omega
    refine .inl ⟨rfl, _, _, rfl, fun e => ?_⟩
    unfold restD at e
    split at e
    · omega
    · rw [Option.map_eq_none_iff] at e
      have := h2 e
      omega
  · cases h
    by_cases hc : c = n
    · have e : restD (some ⟨b, off, none⟩) c n = some ⟨b, off, none⟩ := by unfold restD; rw [if_pos hc]
      rw [e]
      have hb : bs.drop n = [] := List.drop_eq_nil_of_le (by omega)
      rw [hb]
      exact .inl ⟨rfl, _, c - n, by congr 1; omega, fun e => by cases e⟩
    · have e : restD (some ⟨b, off, none⟩) c n = some ⟨b, off + n, none⟩ := by unfold restD; rw [if_neg hc, Option.map_some, Addr.add_mid, Nat.mul_one]
      rw [e]
      exact Seg.of_row (h3.drop n) (by simp) (by omega) h4
theorem rest_block (ao : Option Addr) (c n l' c' len : Nat) (q : Nat) (h : (Value.slice (restD ao c n) l' c').ownBlock = some q) : (Value.slice ao len c).ownBlock = some q := by
  cases ao with
  | none =>
    unfold restD at h
    split at h
    · simp [Value.ownBlock] at h
    · simp [Value.ownBlock] at h
  | some a =>
    unfold restD at h
    split at h
    · simpa [Value.ownBlock] using h
    · by_cases h0 : n = 0 <;> simpa [Value.ownBlock, Addr.add, h0] using h
end Go.Proofs.Ytichmnbhephkkaa
