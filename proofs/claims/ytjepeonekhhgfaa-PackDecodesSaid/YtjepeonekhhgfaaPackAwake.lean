/-
  What is proved here: the statements' awake answers true.
  Conditions: none.
-/
import Derived.Test.YtjepeonekhhgfaaPackRec
import Derived.Laws.IdiomStrings
import Derived.Lib.SlBytesConst
namespace Go.Proofs.Ytjepeonekhhgfaa
open Go.RowKit

def twoF : List Fld := [.mk 1 1 300 [], .mk 2 0 3 []]
def twoV : List Val := [.mk 256 [] [], .mk 0 [97, 98] []]
theorem two_enc : encTop twoF twoV = some [255, 0, 2, 97, 98] := by decide +kernel
set_option maxRecDepth 100000 in
theorem two_any (w : World) : Calls Try.prog 21 #[] w fun e w' => ∃ v, e = .returned v ∧ Flds w' 1 v twoF ∧ Below w.heap.size w w' := by
  go_enter Try.func21, Try.ntmps21
  go_wp2
  go_ret
  refine ⟨_, rfl, ⟨_, 2, rfl, by decide, fun _ => ⟨w.heap.size, 0, rfl, by simp, by decide, fun i f hf => ?_⟩⟩, (Below.refl _ _).alloc (Nat.le_refl _) _⟩
  have hB := Blk.new w 44 #[.int .i64 1, .int .u64 1, .int .u64 300, .slice none 0 0, .int .i64 2, .int .u64 0, .int .u64 3, .slice none 0 0]
  match i, hf with
  | 0, hf =>
    cases hf
    exact ⟨hB.cell rfl, hB.cell rfl, hB.cell rfl, ⟨_, hB.cell rfl, rfl, rfl⟩, by decide, by decide⟩
  | 1, hf =>
    cases hf
    exact ⟨hB.cell rfl, hB.cell rfl, hB.cell rfl, ⟨_, hB.cell rfl, rfl, rfl⟩, by decide, by decide⟩
  | (i + 2), hf => cases hf
set_option maxRecDepth 100000 in
set_option maxHeartbeats 1000000 in
theorem pawake_any (w : World) : Calls Try.prog 9 #[] w fun e w' => e = .returned (.bool true) ∧ Below w.heap.size w w' := by
  have kc := fun (w : World) (C : Array Value) (n c : Nat) => Lib.run_convert_bytes_const (P := Try.prog) w 29 5 C n c Try.underlying29 Try.underlying5
  go_enter Try.func9, Try.ntmps9
  go_wp2_with (go_at_call 21; refine (two_any _).mono ?_; rintro e w1 ⟨v, rfl, hF, hb1⟩)
  have hA1 : Below w1.heap.size w1 (w1.alloc (.cells #[.int .u8 97, .int .u8 98] 5 (2, 3))) := (Below.refl _ _).alloc (Nat.le_refl _) _
  obtain ⟨w2, hw2⟩ : ∃ w2, w2 = (w1.alloc (.cells #[.int .u8 97, .int .u8 98] 5 (2, 3))).alloc (.cells #[.int .u64 256, .slice none 0 0, .slice none 0 0, .int .u64 0, .slice (some ⟨w1.heap.size, 0, none⟩) 2 2, .slice none 0 0] 42) := ⟨_, rfl⟩
  rw [← hw2]
  have hA2 : Below w1.heap.size w1 w2 := by rw [hw2]; exact hA1.alloc (by simp) _
  have hs2 : w2.heap.size = w1.heap.size + 1 + 1 := by rw [hw2]; simp
  have hB1 : Row w2 w1.heap.size 0 [97, 98] := fun j hj => by
    have hg : w2.heap[w1.heap.size]? = some (.cells #[.int .u8 97, .int .u8 98] 5 (2, 3)) := by
      rw [hw2, heap_alloc_old _ _ (by simp)]; exact heap_alloc_new w1 _
    rw [Nat.zero_add, cell_of_row w2 _ j _ _ _ hg]
    match j, hj with
    | 0, _ => rfl
    | 1, _ => rfl
  have hB2 : Blk w2 (w1.heap.size + 1) 42 #[.int .u64 256, .slice none 0 0, .slice none 0 0, .int .u64 0, .slice (some ⟨w1.heap.size, 0, none⟩) 2 2, .slice none 0 0] := by rw [hw2]; exact Blk.newAt _ _ _ _ (by simp)
  clear hw2
  have hV : Vals w2 1 (.slice (some ⟨w1.heap.size + 1, 0, none⟩) 2 2) twoV := by
    refine ⟨_, 2, rfl, by decide, fun _ => ⟨w1.heap.size + 1, 0, rfl, by omega, by decide, fun i x hx => ?_⟩⟩
    match i, hx with
    | 0, hx =>
      cases hx
      exact ⟨hB2.cell rfl, ⟨_, hB2.cell rfl, .inl ⟨rfl, none, 0, rfl, fun _ => rfl⟩, by decide⟩, ⟨none, 0, hB2.cell rfl, by decide, fun h => by cases h⟩, by decide⟩
    | 1, hx =>
      cases hx
      exact ⟨hB2.cell rfl, ⟨_, hB2.cell rfl, Seg.of_row hB1 rfl (by decide) (by omega), by decide⟩, ⟨none, 0, hB2.cell rfl, by decide, fun h => by cases h⟩, by decide⟩
    | (i + 2), hx => cases hx
  refine (encode_any 1 v twoF 1 _ twoV w2 (Flds.keeps (Keeps.of_below hA2 (Nat.le_refl _)) _ _ _ hF) hV).mono ?_
  intro e w3 hp
  rw [two_enc] at hp
  obtain ⟨⟨b3, rfl, ho3⟩, hb3⟩ := hp
  have hs : (convert 29 9 b3).run Try.prog w3 = .ok (.string ⟨[255, 0, 2, 97, 98].toArray⟩) w3 := by
    obtain ⟨g, cap, rfl, _, _, _, hr⟩ := ho3.form (by decide)
    exact run_convert_bytes_back w3 29 9 5 ⟨g, 0, none⟩ cap [255, 0, 2, 97, 98] Try.underlying29 Try.underlying5 Try.underlying9 (fun j hj => by rw [Addr.add_mid]; exact hr j hj)
  go_wp2
  go_ret
  exact ⟨rfl, hb1.trans ((hA2.trans (hb3.mono (by omega))).mono hb1.size)⟩
end Go.Proofs.Ytjepeonekhhgfaa
