/-
  What is proved here: Table.openAt and Of tell an open lease.
  Conditions: the table lies in memory as laws hold it.
-/
import Derived.Test.YthlohlomefiebaaLeAt
namespace Go.Proofs.Ythlohlomefiebaa
open Go.RowKit

/-- What openAt tells. -/
def ansOpn (l : List LE) (n : Int) : LE × Int := match opnT l n with
  | some e => (e, 0)
  | none => (noLE, 4)
theorem opn_of {l : List LE} {n : Int} {e : LE} (h : atT l n = some e) (hu : 0 < e.u) : opnT l n = some e := by
  unfold opnT; rw [h]; simp [hu]
theorem opn_no {l : List LE} {n : Int} {e : LE} (h : atT l n = some e) (hu : ¬ 0 < e.u) : opnT l n = none := by
  unfold opnT; rw [h]; simp [hu]
theorem opn_none {l : List LE} {n : Int} (h : atT l n = none) : opnT l n = none := by
  unfold opnT; rw [h]; rfl
theorem low_store {w w2 w3 : World} (hB : Below w.heap.size w w2) (hg : w2.grownBy w3 (some w.heap.size)) : Below w.heap.size w w3 := below_grown hB hg hB.size (fun q hq => by cases hq; exact Nat.le_refl _)
theorem low_new {w w2 : World} (hB : Below w.heap.size w w2) (o : Obj) : Below w.heap.size w (w2.alloc o) := hB.alloc hB.size o
set_option maxRecDepth 100000 in
set_option maxHeartbeats 1000000 in
theorem opn16_any {w : World} {lo G b : Nat} {v : Value} {l : List LE} (h : LeT w lo G b v l) (n : Int) : Calls Try.prog 36 #[.pointer (some ⟨G, 0, none⟩), .int .i64 n] w fun e w' => e = .returned (.tuple #[leV (ansOpn l n).1, .int .i64 (ansOpn l n).2]) ∧ Below w.heap.size w w' := by
  have hB := below_newE w (.cells #[.int .i64 0, .int .i64 0, .int .i64 0] 43)
  have kR := Blk.new w 43 #[.int .i64 0, .int .i64 0, .int .i64 0]
  have HA := at16_any (h.after hB (Nat.le_refl _)) n
  clear h
  unfold ansOpn
  unfold ansAt at HA
  cases ha : atT l n with
  | none =>
    rw [opn_none ha]
    rw [ha] at HA
    clear ha
    unfold leV leL noLE at *
    go_enter Try.func36, Try.ntmps36
    go_wp2_with fail
    refine HA.mono ?_
    rintro e' w2 ⟨rfl, hb2⟩
    have kR2 := kR.below hb2 kR.lt
    have hB2 := hB.trans (hb2.mono hB.size)
    go_wp2_with (first | (refine store_blk rfl 43 _ _ rfl rfl w.heap.size #[.int .i64 0, .int .i64 0, .int .i64 0] rfl rfl 43 _ (kR2.below (below_newE w2 _) kR2.lt) info_le rfl (by simp [Value.oneCell']) ?_; intro w3 kR3 hg3 _; have HF := low_store (low_new hB2 _) hg3))
    refine bodyPost_ret (results_pairE Try.results36 _ _ w.heap.size 43 _ (0, 0) _ _ rfl kR3 Try.underlying43 rfl info_le rfl) rfl ⟨rfl, HF⟩
  | some e =>
    rw [ha] at HA
    by_cases hu : 0 < e.u
    · rw [opn_of ha hu]
      have HI := fun W => is16_any e W
      rw [decide_eq_true hu] at HI
      clear ha hu
      unfold leV leL at *
      generalize e.n = en at *
      generalize e.d = ed at *
      generalize e.u = eu at *
      go_enter Try.func36, Try.ntmps36
      go_wp2_with fail
      refine HA.mono ?_
      rintro e' w2 ⟨rfl, hb2⟩
      have kR2 := kR.below hb2 kR.lt
      have hB2 := hB.trans (hb2.mono hB.size)
      go_wp2_with fail
      refine (HI _).mono ?_
      rintro e' w4 ⟨rfl, hb4⟩
      have hB3 := low_new hB2 (.cells #[.int .i64 en, .int .i64 ed, .int .i64 eu] 43)
      have kB3 := Blk.new w2 43 #[.int .i64 en, .int .i64 ed, .int .i64 eu]
      have hB4 := hB3.trans (hb4.mono hB3.size)
      have kR4 := (kR2.below (below_newE w2 (.cells #[.int .i64 en, .int .i64 ed, .int .i64 eu] 43)) kR2.lt).below hb4 (Nat.lt_of_lt_of_le kR2.lt (below_newE w2 (.cells #[.int .i64 en, .int .i64 ed, .int .i64 eu] 43)).size)
      have kB4 := kB3.below hb4 kB3.lt
      have c0 : w4.cell? ⟨w2.heap.size, 0, none⟩ = some (.int .i64 en) := kB4.cell (j := 0) rfl
      have c1 : w4.cell? ⟨w2.heap.size, 1, none⟩ = some (.int .i64 ed) := kB4.cell (j := 1) rfl
      have c2 : w4.cell? ⟨w2.heap.size, 2, none⟩ = some (.int .i64 eu) := kB4.cell (j := 2) rfl
      go_wp2_with (first | (refine store_blk rfl 43 _ _ rfl rfl w.heap.size #[.int .i64 en, .int .i64 ed, .int .i64 eu] rfl rfl 43 _ (kR4) info_le rfl (by simp [Value.oneCell']) ?_; intro w3 kR3 hg3 _; have HF := low_store hB4 hg3))
      refine bodyPost_ret (results_pairE Try.results36 _ _ w.heap.size 43 _ (0, 0) _ _ rfl kR3 Try.underlying43 rfl info_le rfl) rfl ⟨rfl, HF⟩
    · rw [opn_no ha hu]
      have HI := fun W => is16_any e W
      rw [decide_eq_false hu] at HI
      clear ha hu
      unfold leV leL noLE at *
      generalize e.n = en at *
      generalize e.d = ed at *
      generalize e.u = eu at *
      go_enter Try.func36, Try.ntmps36
      go_wp2_with fail
      refine HA.mono ?_
      rintro e' w2 ⟨rfl, hb2⟩
      have kR2 := kR.below hb2 kR.lt
      have hB2 := hB.trans (hb2.mono hB.size)
      go_wp2_with fail
      refine (HI _).mono ?_
      rintro e' w4 ⟨rfl, hb4⟩
      have hB3 := low_new hB2 (.cells #[.int .i64 en, .int .i64 ed, .int .i64 eu] 43)
      have hB4 := hB3.trans (hb4.mono hB3.size)
      have kR4 := (kR2.below (below_newE w2 (.cells #[.int .i64 en, .int .i64 ed, .int .i64 eu] 43)) kR2.lt).below hb4 (Nat.lt_of_lt_of_le kR2.lt (below_newE w2 (.cells #[.int .i64 en, .int .i64 ed, .int .i64 eu] 43)).size)
      go_wp2_with (first | (refine store_blk rfl 43 _ _ rfl rfl w.heap.size #[.int .i64 0, .int .i64 0, .int .i64 0] rfl rfl 43 _ (kR4) info_le rfl (by simp [Value.oneCell']) ?_; intro w3 kR3 hg3 _; have HF := low_store hB4 hg3))
      refine bodyPost_ret (results_pairE Try.results36 _ _ w.heap.size 43 _ (0, 0) _ _ rfl kR3 Try.underlying43 rfl info_le rfl) rfl ⟨rfl, HF⟩

set_option maxRecDepth 100000 in
set_option maxHeartbeats 1000000 in
theorem of16_any {w : World} {lo G b : Nat} {v : Value} {l : List LE} (h : LeT w lo G b v l) (q : Int) (h1 : -9223372036854775808 ≤ q) (h2 : q ≤ 9223372036854775807) : Calls Try.prog 20 #[.pointer (some ⟨G, 0, none⟩), .int .i64 q] w fun e w' => e = .returned (.tuple #[leV (ofT l q).1, .bool (ofT l q).2]) ∧ Below w.heap.size w w' := by
  obtain ⟨ao, c, rfl⟩ := h.row.shape
  have hB := below_newE w (.cells #[.int .i64 0, .int .i64 0, .int .i64 0] 43)
  have kR := Blk.new w 43 #[.int .i64 0, .int .i64 0, .int .i64 0]
  have hh := h.after hB (Nat.le_refl _)
  obtain ⟨m, D, hown, hH, _⟩ := hh.map
  have hlk := look_okE hown hH q h1 h2
  have c0 : (w.alloc (.cells #[.int .i64 0, .int .i64 0, .int .i64 0] 43)).cell? ⟨G, 0, none⟩ = some (.slice ao l.length c) := hh.head.cell (j := 0) rfl
  have c1 : (w.alloc (.cells #[.int .i64 0, .int .i64 0, .int .i64 0] 43)).cell? ⟨G, 1, none⟩ = some (.map (some b)) := hh.head.cell (j := 1) rfl
  unfold ofT
  unfold numOf at hlk
  clear hown hH
  cases ho : openD l q with
  | none =>
    rw [ho] at hlk
    have hlk2 : (Instr.lookup 49 (.map (some b)) (.int .i64 q) true).run Try.prog (w.alloc (.cells #[.int .i64 0, .int .i64 0, .int .i64 0] 43)) = .ok (.tuple #[.int .i64 0, .bool false]) (w.alloc (.cells #[.int .i64 0, .int .i64 0, .int .i64 0] 43)) := hlk
    clear hlk ho h hh h1 h2
    unfold leV leL noLE at *
    go_enter Try.func20, Try.ntmps20
    go_wp2_with (first | (refine store_blk rfl 43 _ _ rfl rfl w.heap.size #[.int .i64 0, .int .i64 0, .int .i64 0] rfl rfl 43 _ kR info_le rfl (by simp [Value.oneCell']) ?_; intro w3 kR3 hg3 _; have HF := low_store hB hg3))
    refine bodyPost_ret (results_pairE Try.results20 _ _ w.heap.size 43 _ (0, 0) _ _ rfl kR3 Try.underlying43 rfl info_le rfl) rfl ⟨rfl, HF⟩
  | some e =>
    rw [ho] at hlk
    have hlk2 : (Instr.lookup 49 (.map (some b)) (.int .i64 q) true).run Try.prog (w.alloc (.cells #[.int .i64 0, .int .i64 0, .int .i64 0] 43)) = .ok (.tuple #[.int .i64 e.n, .bool true]) (w.alloc (.cells #[.int .i64 0, .int .i64 0, .int .i64 0] 43)) := hlk
    obtain ⟨g1, g2, g3⟩ := openD_some ho
    obtain ⟨i, hi⟩ := List.mem_iff_getElem?.1 g1
    have hil : i < l.length := (List.getElem?_eq_some_iff.1 hi).1
    have hn := h.ok.num i e hi
    rw [hn] at hlk2
    obtain ⟨B, c', e1, hBl, _, hc⟩ := hh.row.at hi
    cases e1
    have k0 : (w.alloc (.cells #[.int .i64 0, .int .i64 0, .int .i64 0] 43)).cell? ⟨B, i * 3, none⟩ = some (.int .i64 e.n) := hc 0 _ rfl
    have k1 : (w.alloc (.cells #[.int .i64 0, .int .i64 0, .int .i64 0] 43)).cell? ⟨B, i * 3 + 1, none⟩ = some (.int .i64 e.d) := hc 1 _ rfl
    have k2 : (w.alloc (.cells #[.int .i64 0, .int .i64 0, .int .i64 0] 43)).cell? ⟨B, i * 3 + 2, none⟩ = some (.int .i64 e.u) := hc 2 _ rfl
    have ix := fun w => index_le0 B l.length c i w hil
    have hw : wrap64 (i : Int) = (i : Int) := by have := h.ok.len; unfold wrap64; omega
    clear hlk ho h hh h1 h2 hc hi g1 g2 g3 hn
    unfold leV leL at *
    generalize e.n = en at *
    generalize e.d = ed at *
    generalize e.u = eu at *
    go_enter Try.func20, Try.ntmps20
    go_wp2_with (first | (refine store_blk rfl 43 _ _ rfl rfl w.heap.size #[.int .i64 en, .int .i64 ed, .int .i64 eu] rfl rfl 43 _ kR info_le rfl (by simp [Value.oneCell']) ?_; intro w3 kR3 hg3 _; have HF := low_store hB hg3))
    refine bodyPost_ret (results_pairE Try.results20 _ _ w.heap.size 43 _ (0, 0) _ _ rfl kR3 Try.underlying43 rfl info_le rfl) rfl ⟨rfl, HF⟩
end Go.Proofs.Ythlohlomefiebaa
