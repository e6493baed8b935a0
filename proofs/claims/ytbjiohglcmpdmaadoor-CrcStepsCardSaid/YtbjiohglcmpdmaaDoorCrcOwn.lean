/-
  What is proved here: small facts on slices of bytes: the empty one of the call's own, what becomes of any of them as a string; and on words that are held against one another.
  Conditions: those that each fact names.
-/
import Derived.Test.YtbjiohglcmpdmaaDoorCrcAdd
import Derived.Laws.IdiomStrings
namespace Go.Proofs.YtbjiohglcmpdmaaDoor
open Go.RowKit

theorem own_empty (w : World) (base n : Nat) (hn : n = w.heap.size) (hb : base ≤ w.heap.size) : Own (w.alloc (.cells #[] 5)) base (.slice (some ⟨n, 0, none⟩) 0 0) [] := by
  subst hn
  exact ⟨rfl, .inr ⟨w.heap.size, 0, #[], rfl, hb, heap_alloc_new w _, Nat.le_refl _, Nat.zero_le _, rfl, rfl⟩⟩
theorem seg_string {w : World} {v : Value} {bs : List UInt8} (h : Seg w v bs) (t : TypeId) (ht : Tryd.prog.underlying t = some .string) : (convert 23 t v).run Tryd.prog w = .ok (.string ⟨bs.toArray⟩) w := by
  rcases h with ⟨rfl, ao, c, rfl, _⟩ | ⟨b, off, c, rfl, _, hr, _⟩
  · rw [run_convert_bytes_string w 23 t 5 _ 0 c Tryd.underlying23 Tryd.underlying5 ht]
    cases ao <;> simp [Conv.bytesToString, loadCells]
    all_goals rfl
  · exact run_convert_bytes_back w 23 t 5 ⟨b, off, none⟩ c bs Tryd.underlying23 Tryd.underlying5 ht (fun j hj => by rw [Addr.add_mid]; exact hr j hj)
theorem n32_beq (a b : BitVec 32) : (n32 a == n32 b) = decide (a = b) := by
  unfold n32
  by_cases h : a = b
  · simp [h]
  · have : ¬ a.toNat = b.toNat := fun e => h (BitVec.eq_of_toNat_eq e)
    simp [h]; omega
theorem seg_nil (w : World) : Seg w (.slice none 0 0) [] := .inl ⟨rfl, none, 0, rfl, fun _ => rfl⟩
theorem Seg.len {w : World} {ao : Option Addr} {n c : Nat} {bs : List UInt8} (h : Seg w (.slice ao n c) bs) : bs.length = n := by
  rcases h with ⟨rfl, ao', c', h, _⟩ | ⟨b, off, c', h, _⟩
  · cases h; rfl
  · cases h; rfl
theorem Seg.shape {w : World} {v : Value} {bs : List UInt8} (h : Seg w v bs) : ∃ ao c, v = .slice ao bs.length c := by
  rcases h with ⟨rfl, ao', c', h, _⟩ | ⟨b, off, c', h, _⟩
  · exact ⟨_, _, h⟩
  · exact ⟨_, _, h⟩
end Go.Proofs.YtbjiohglcmpdmaaDoor
