/-
  What is proved here: the small calls of lease: whether a number is a device, a moment, a life; whether a lease is open; how a table lies in memory.
  Conditions: those that each fact names.
-/
import Derived.Test.YthlohlomefiebaaLeRow
import Derived.Test.YthlohlomefiebaaLeMap
namespace Go.Proofs.Ythlohlomefiebaa
open Go.RowKit

theorem in16_any (n a b : Int) (w : World) : Calls Try.prog 40 #[.int .i64 n, .int .i64 a, .int .i64 b] w fun e w' => e = .returned (.bool (decide (a ≤ n ∧ n ≤ b))) ∧ w' = w := by
  by_cases h1 : a ≤ n
  · by_cases h2 : n ≤ b
    · have e : decide (a ≤ n ∧ n ≤ b) = true := by simp [h1, h2]
      rw [e]
      go_enter Try.func40, Try.ntmps40
      go_wp2
      go_ret
      exact ⟨rfl, rfl⟩
    · have e : decide (a ≤ n ∧ n ≤ b) = false := by simp [h2]
      rw [e]
      go_enter Try.func40, Try.ntmps40
      go_wp2
      go_ret
      exact ⟨rfl, rfl⟩
  · have e : decide (a ≤ n ∧ n ≤ b) = false := by simp [h1]
    rw [e]
    go_enter Try.func40, Try.ntmps40
    go_wp2
    go_ret
    exact ⟨rfl, rfl⟩
theorem dev16_any (n : Int) (w : World) : Calls Try.prog 32 #[.int .i64 n] w fun e w' => e = .returned (.bool (deT n)) ∧ w' = w := by
  have H := in16_any n 1 4096 w
  unfold deT
  generalize decide (1 ≤ n ∧ n ≤ 4096) = B at *
  go_enter Try.func32, Try.ntmps32
  go_wp2_with (go_at_call 40; refine H.mono ?_; rintro e w' ⟨rfl, rfl⟩)
  go_ret
  exact ⟨rfl, rfl⟩
theorem mom16_any (n : Int) (w : World) : Calls Try.prog 33 #[.int .i64 n] w fun e w' => e = .returned (.bool (moT n)) ∧ w' = w := by
  have H := in16_any n 0 1099511627776 w
  unfold moT
  generalize decide (0 ≤ n ∧ n ≤ 1099511627776) = B at *
  go_enter Try.func33, Try.ntmps33
  go_wp2_with (go_at_call 40; refine H.mono ?_; rintro e w' ⟨rfl, rfl⟩)
  go_ret
  exact ⟨rfl, rfl⟩
theorem life16_any (n : Int) (w : World) : Calls Try.prog 34 #[.int .i64 n] w fun e w' => e = .returned (.bool (liT n)) ∧ w' = w := by
  have H := in16_any n 1 1048576 w
  unfold liT
  generalize decide (1 ≤ n ∧ n ≤ 1048576) = B at *
  go_enter Try.func34, Try.ntmps34
  go_wp2_with (go_at_call 40; refine H.mono ?_; rintro e w' ⟨rfl, rfl⟩)
  go_ret
  exact ⟨rfl, rfl⟩
theorem is16_any (e : LE) (w : World) : Calls Try.prog 44 #[leV e] w fun r w' => r = .returned (.bool (decide (0 < e.u))) ∧ Below w.heap.size w w' := by
  unfold leV leL
  have hB := below_newE w (.cells #[.int .i64 e.n, .int .i64 e.d, .int .i64 e.u] 43)
  generalize e.n = en at *
  generalize e.d = ed at *
  generalize e.u = eu at *
  by_cases h : (0 : Int) < eu
  · have hd : decide ((0 : Int) < eu) = true := decide_eq_true h
    rw [hd]
    clear h
    go_enter Try.func44, Try.ntmps44
    go_wp2
    go_ret
    exact ⟨rfl, hB⟩
  · have hd : decide ((0 : Int) < eu) = false := decide_eq_false h
    rw [hd]
    clear h
    go_enter Try.func44, Try.ntmps44
    go_wp2
    go_ret
    exact ⟨rfl, hB⟩
/-- A table, as laws hold it. -/
structure LeT (w : World) (lo G b : Nat) (v : Value) (l : List LE) : Prop where
  head : Blk w G 60 #[v, .map (some b)]
  row : LeR w lo v l
  map : ∃ m D, w.ownsMap Try.prog 3 numR b m D ∧ HoldsT D l ∧ m ≤ l.length
  ok : OkT l
  gG : lo ≤ G
  gb : lo ≤ b
  nG : v.ownBlock ≠ some G
  nb : v.ownBlock ≠ some b
  ne : G ≠ b
/-- What a table's calls write. -/
def LeM (G b : Nat) (v : Value) (q : Nat) : Prop := q = G ∨ q = b ∨ v.ownBlock = some q
theorem LeT.bl {w : World} {lo G b : Nat} {v : Value} {l : List LE} (h : LeT w lo G b v l) : b < w.heap.size := by
  obtain ⟨m, D, h1, _⟩ := h.map
  exact h1.lt
theorem LeT.lt {w : World} {lo G b : Nat} {v : Value} {l : List LE} (h : LeT w lo G b v l) (q : Nat) (hq : LeM G b v q) : q < w.heap.size := by
  rcases hq with rfl | rfl | e
  · exact h.head.lt
  · exact h.bl
  · exact (h.row.lt q e).2
theorem LeT.ge {w : World} {lo G b : Nat} {v : Value} {l : List LE} (h : LeT w lo G b v l) (q : Nat) (hq : LeM G b v q) : lo ≤ q := by
  rcases hq with rfl | rfl | e
  · exact h.gG
  · exact h.gb
  · exact (h.row.lt q e).1
theorem LeT.chg {S : Nat → Prop} {w w' : World} {lo G b : Nat} {v : Value} {l : List LE} (h : LeT w lo G b v l) (hc : Chg S w w') (hS : ∀ q, LeM G b v q → ¬ S q) : LeT w' lo G b v l := by
  obtain ⟨m, D, h1, h2, h3⟩ := h.map
  exact ⟨h.head.chg hc (hS G (.inl rfl)), h.row.chg hc (fun k e => hS k (.inr (.inr e))), ⟨m, D, own_chgE h1 hc (hS b (.inr (.inl rfl))), h2, h3⟩, h.ok, h.gG, h.gb, h.nG, h.nb, h.ne⟩
theorem LeT.after {B : Nat} {w w' : World} {lo G b : Nat} {v : Value} {l : List LE} (h : LeT w lo G b v l) (hb : Below B w w') (hB : w.heap.size ≤ B) : LeT w' lo G b v l := h.chg (S := fun _ => False) (Chg.of_below hb hB) (fun _ _ => id)
theorem results_pairE {P : Program} {fn : Func} {p u : Tmp} {ty : TypeId} (h : fn.results = #[.cell p ty, .tmp u]) (tmps : Array Value) (w : World) (g : Nat) (t : TypeId) (cs : Array Value) (fr : Nat × Nat) (d : TypeDesc) (v : Value)
    (hp : tmps.getD p undef = .pointer (some ⟨g, 0, none⟩)) (hg : w.heap[g]? = some (.cells cs t fr)) (hu : P.underlying ty = some d) (hd : (match d with | .struct _ | .array _ _ => true | _ => false) = true) (hi : (P.info? ty).map (·.size) = some cs.size) (hv : tmps.getD u undef = v) :
    (results fn tmps).run P w = .ok (.tuple #[.agg cs, v]) w := by
  have hp' : tmps[p]?.getD undef = .pointer (some ⟨g, 0, none⟩) := by simpa using hp
  have hv' : tmps[u]?.getD undef = v := by simpa using hv
  simp [results, h, hp', hv', asAddr, run_loadVar_row w g t ty cs fr d hg hu hd hi]
set_option maxRecDepth 100000 in
theorem next16_any {w : World} {lo G b : Nat} {v : Value} {l : List LE} (h : LeT w lo G b v l) : Calls Try.prog 35 #[.pointer (some ⟨G, 0, none⟩)] w fun e w' => e = .returned (.int .i64 ((l.length : Int) + 1)) ∧ w' = w := by
  obtain ⟨ao, c, rfl⟩ := h.row.shape
  have c0 : w.cell? ⟨G, 0, none⟩ = some (.slice ao l.length c) := h.head.cell (j := 0) rfl
  have hl := h.ok.len
  clear h
  go_enter Try.func35, Try.ntmps35
  go_wp2
  go_ret
  exact ⟨by go_num, rfl⟩
end Go.Proofs.Ythlohlomefiebaa
