/-
  What is proved here: the program's disk: a new one.
  Conditions: none.
-/
import Derived.Test.YtojgeahablphbaaJPDiskRead
namespace Go.Proofs.Ytojgeahablphbaa
open Go.RowKit Go.Maps

theorem Try.info60 : (Try.prog.info? 60).map (fun i => (i.zero, i.size, i.bytes)) = some (some (.agg (secC (noughts 128))), 128, 128) := by kernel_rfl
theorem rep_at (m j : Nat) (h : j < m) : (secC (List.replicate m 0))[j]! = v8 0 := by
  unfold secC
  rw [List.map_replicate]
  simp [h]
theorem flat_noughts (n : Nat) : flatV (List.replicate n (noughts 128)) = madeCells (secC (noughts 128)) (n * 128) := by
  unfold flatV noughts
  rw [List.flatten_replicate_replicate, List.map_replicate]
  apply Array.ext
  · simp [madeCells]
  · intro i h1 h2
    have hs : (secC (List.replicate 128 0)).size = 128 := secC_size _ (by simp)
    have hm : i % 128 < 128 := Nat.mod_lt _ (by decide)
    simp only [madeCells, List.getElem_toArray, List.getElem_replicate, Array.getElem_map, Array.getElem_range, hs]
    exact (rep_at 128 _ hm).symm
theorem make_secs (n : Nat) (hn : n ≤ 4096) (w : World) : (Instr.makeSlice 49 (.int .i64 (n : Int)) (.int .i64 (n : Int))).run Try.prog w = .ok (.slice (some ⟨w.heap.size, 0, none⟩) n n) (w.alloc (.cells (flatV (List.replicate n (noughts 128))) 60)) := by
  obtain ⟨i, hi, hz, hs, hb⟩ := info_parts Try.info60
  have hr := run_make (P := Try.prog) w 49 60 i _ Try.underlying49 hi hz .i64 .i64 n n (by omega) (Int.le_refl _) (by rw [hb]; omega) (by omega)
  rw [hs] at hr
  simp only [Int.toNat_natCast] at hr
  rw [flat_noughts]
  exact hr
theorem newS_clean (n : Nat) : cleanS (newS n) := fun _ _ => rfl
theorem newS_map {w : World} {b : Nat} (n : Nat) (h : w.ownsMap Try.prog 3 secR b 0 (.map [])) : MapS w b (newS n) := by
  refine ⟨0, .map [], h, ⟨fun q => ?_, fun k hk z => ?_⟩⟩
  · show false = _
    unfold dirtB newS
    simp only [List.getD_eq_getElem?_getD, List.getElem?_replicate]
    split <;> simp
  · have hk' : (List.replicate n false)[k]? = some true := hk
    rw [List.getElem?_replicate] at hk'
    split at hk' <;> cases hk'

set_option maxRecDepth 100000 in
theorem new_bad (n : Int) (w : World) (h : n < 1 ∨ 4096 < n) :
    Calls Try.prog 5 #[.int .i64 n] w fun e w' => e = .returned (.tuple #[.pointer none, .int .i64 1]) ∧ w' = w := by
  by_cases h1 : n < 1
  · clear h
    go_enter Try.func5, Try.ntmps5
    go_wp2
    go_ret2
    exact ⟨rfl, rfl⟩
  · have h2 : 4096 < n := by omega
    clear h
    go_enter Try.func5, Try.ntmps5
    go_wp2
    go_ret2
    exact ⟨rfl, rfl⟩

set_option maxRecDepth 100000 in
theorem new_any (n : Nat) (w : World) (h1 : 1 ≤ n) (h2 : n ≤ 4096) :
    Calls Try.prog 5 #[.int .i64 (n : Int)] w fun e w' => ∃ L : PLay, e = .returned (.tuple #[.pointer (some ⟨L.g, 0, none⟩), .int .i64 0]) ∧ L.n = n ∧ PDisk w' L (newS n) ∧ Below w.heap.size w w' ∧ (∀ q, L.T q → w.heap.size ≤ q) ∧ Blk w' L.g 52 (L.head (.slice none 0 0) false) := by
  have hmk := fun w => make_secs n h2 w
  have hmm := @run_makeMap Try.prog
  have a1 : ¬ (n : Int) < 1 := by omega
  have a2 : ¬ (4096 : Int) < (n : Int) := by omega
  have hnew : Blk (w.alloc (.cells (flatV (List.replicate n (noughts 128))) 60)) w.heap.size 60 (flatV (List.replicate n (noughts 128))) := Blk.new _ _ _
  generalize hF : flatV (List.replicate n (noughts 128)) = FV at *
  go_enter Try.func5, Try.ntmps5
  go_wp2
  go_ret2
  refine ⟨⟨w.heap.size + 1 + 1, w.heap.size, w.heap.size + 1, n, fun _ => False⟩, rfl, rfl, ?_, (((Below.refl _ w).alloc (Nat.le_refl _) _).alloc (by simp) _).alloc (by simp; omega) _, ?_, Blk.newAt _ _ _ _ (by simp)⟩
  · refine ⟨newS_ok n, ⟨by show w.heap.size + 1 + 1 ≠ w.heap.size; omega, by show w.heap.size + 1 + 1 ≠ w.heap.size + 1; omega, by show w.heap.size ≠ w.heap.size + 1; omega, h1, h2⟩, newS_clean n, ⟨.slice none 0 0, Blk.newAt _ _ _ _ (by simp), .inl ⟨rfl, none, 0, rfl, fun _ => rfl⟩, fun _ q hq => by cases hq⟩, ?_, ?_, ?_⟩
    · have := (hnew.alloc (.map #[] 0)).alloc (.cells #[.slice (some ⟨w.heap.size, 0, none⟩) n n, .map (some (w.heap.size + 1)), .slice none 0 0, .bool false] 52)
      rw [← hF] at this ⊢
      exact this
    · have h0 := World.ownsMap_made (H := Unit) (w.alloc (.cells FV 60)) Try.prog 3 secR
      have e : (w.alloc (.cells FV 60)).heap.size = w.heap.size + 1 := by simp
      rw [e] at h0
      exact newS_map n (h0.alloc _)
    · exact fun _ h => h.elim
  · rintro q (rfl | rfl | rfl)
    · show w.heap.size ≤ w.heap.size + 1 + 1; omega
    · exact Nat.le_refl _
    · show w.heap.size ≤ w.heap.size + 1; omega
end Go.Proofs.Ytojgeahablphbaa
