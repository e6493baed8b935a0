/-
  What is proved here: plain facts on the numbers of what waits.
  Conditions: those that each fact names.
-/
import Derived.Test.YtgoehohadnkpdaaDoorJOutBC
namespace Go.Proofs.YtgoehohadnkpdaaDoor

def seqL (l : List XE) : List Nat := l.map (·.seq)
theorem seqL_len (l : List XE) : (seqL l).length = l.length := by simp [seqL]
theorem seqL_app (l : List XE) (e : XE) : seqL (l ++ [e]) = seqL l ++ [e.seq] := by simp [seqL]
theorem seqL_next (x : XS) (r : RP) : seqL (x.wt ++ [nextX x r]) = seqL x.wt ++ [x.last.seq + 1] := by rw [seqL_app]; rfl
theorem seq_head {l : List XE} {K m : Nat} (h : seqL l = List.range' K (m + 1)) : ∃ y t, l = y :: t ∧ y.seq = K ∧ seqL t = List.range' (K + 1) m ∧ idxX l (K : Int) = some 0 := by
  cases l with
  | nil => simp [seqL, List.range'_succ] at h
  | cons y t =>
    rw [List.range'_succ] at h
    have h1 : y.seq :: seqL t = K :: List.range' (K + 1) m := h
    injection h1 with h2 h3
    refine ⟨y, t, rfl, h2, h3, ?_⟩
    unfold idxX
    rw [List.findIdx?_cons, if_pos (by rw [h2]; simp)]
theorem seq_mem {l : List XE} {K m : Nat} (h : seqL l = List.range' K m) {y : XE} (hy : y ∈ l) : K ≤ y.seq ∧ y.seq < K + m := by
  have : y.seq ∈ seqL l := List.mem_map.2 ⟨y, hy, rfl⟩
  rw [h] at this
  exact List.mem_range'_1.1 this
theorem full_not {s : FS} {n j e : Nat} {x : XS} (h : CB s n j e x) {K m : Nat} (hs : seqL x.wt = List.range' K m) (hm : ∀ y, K ≤ y → y < K + m → x.last.seq % 32 = 0 → 1 ≤ x.last.seq → blkO y = blkO x.last.seq) : ¬ fullX x := by
  rintro ⟨h1, y, hy, hy2⟩
  rcases h.pos with ⟨_, _, h3⟩ | ⟨p1, p2, p3⟩
  · omega
  · obtain ⟨a, b⟩ := seq_mem hs hy
    have hw := h.wh
    have hp : plO x.last.seq = 31 := by omega
    have := hm y.seq a b (by unfold plO at hp; omega) p1
    rw [(h.wts y hy).2.2.1, this, ← p2] at hy2
    omega
theorem full_yes {s : FS} {n j e : Nat} {x : XS} (h : CB s n j e x) {y : XE} (hy : y ∈ x.wt) (hs : 1 ≤ x.last.seq) (hp : x.last.seq % 32 = 0) (hb : blkO y.seq = 1 - blkO x.last.seq) : fullX x := by
  rcases h.pos with ⟨h1, _, _⟩ | ⟨p1, p2, p3⟩
  · omega
  · exact ⟨by rw [p3]; unfold plO; omega, y, hy, by rw [(h.wts y hy).2.2.1, hb, p2]⟩
end Go.Proofs.YtgoehohadnkpdaaDoor
