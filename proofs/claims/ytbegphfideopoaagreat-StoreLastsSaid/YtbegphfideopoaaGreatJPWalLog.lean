/-
  What is proved here: the program's log as it lies in memory; what it tells of itself; reading a sector. more steps of a statement that draws its order, and what single operations answer. the program's log: heads, which counts, a bank's bytes.
  Conditions: the disk and the log lie in memory. those that each fact names.
-/
import Derived.Test.YtbegphfideopoaaGreatJPDiskWrite
import Derived.Test.YtbegphfideopoaaGreatJPWalSmall
import Derived.BigQuiet
import Derived.Deep.QuietTactic
import Derived.Test.YtbegphfideopoaaGreatJWalPure
import Derived.Test.YtbegphfideopoaaGreatJDiskPure
import Derived.Laws.MakeOwn
namespace Go.Proofs.YtbegphfideopoaaGreat
open Go.RowKit

/-- A log's cells. -/
def logC (g size n gen len : Nat) (bg bk : Bool) (tv : Value) : Array Value := #[.pointer (some ⟨g, 0, none⟩), .int .i64 (size : Int), .int .i64 (n : Int), .int .i64 (gen : Int), .int .i64 (len : Int), .bool bg, .bool bk, tv]
/-- A log's own block. -/
def LogB (w : World) (G g size n gen len : Nat) (bg bk : Bool) (tv : Value) : Prop := Blk w G 95 (logC g size n gen len bg bk tv)
def readyE (bg bk : Bool) : Int := if bk then 10 else if bg then 0 else 9
set_option maxRecDepth 100000 in
theorem ready_any {w : World} {G g size n gen len : Nat} {bg bk : Bool} {tv : Value} (h : LogB w G g size n gen len bg bk tv) :
    Calls Tryz.prog 94 #[.pointer (some ⟨G, 0, none⟩)] w fun e w' => e = .returned (.int .i64 (readyE bg bk)) ∧ w' = w := by
  unfold LogB logC at h
  have c5 := h.cell (j := 5) rfl
  have c6 := h.cell (j := 6) rfl
  cases bk with
  | true =>
    go_enter Tryz.func94, Tryz.ntmps94
    go_wp2
    go_ret
    exact ⟨rfl, rfl⟩
  | false =>
    cases bg with
    | true =>
      go_enter Tryz.func94, Tryz.ntmps94
      go_wp2
      go_ret
      exact ⟨rfl, rfl⟩
    | false =>
      go_enter Tryz.func94, Tryz.ntmps94
      go_wp2
      go_ret
      exact ⟨rfl, rfl⟩
set_option maxRecDepth 100000 in
theorem full_any {w : World} {G g size n gen len : Nat} {bg bk : Bool} {tv : Value} (h : LogB w G g size n gen len bg bk tv) (hl : len ≤ 1000000) :
    Calls Tryz.prog 97 #[.pointer (some ⟨G, 0, none⟩)] w fun e w' => e = .returned (.int .i64 ((len / 128 : Nat) : Int)) ∧ w' = w := by
  unfold LogB logC at h
  have c4 := h.cell (j := 4) rfl
  have HE : Hid (((len / 128 : Nat) : Int) = (len : Int) / 128) := by show _ = _; omega
  go_enter Tryz.func97, Tryz.ntmps97
  go_wp2
  go_ret
  rw [HE.out]
  exact ⟨rfl, rfl⟩
set_option maxRecDepth 100000 in
theorem filled_any {w : World} {G g size n gen len : Nat} {bg bk : Bool} {ao : Option Addr} {tl c : Nat} (h : LogB w G g size n gen len bg bk (.slice ao tl c)) (hl : len ≤ 1000000) (ht : tl ≤ 1000000) :
    Calls Tryz.prog 95 #[.pointer (some ⟨G, 0, none⟩)] w fun e w' => e = .returned (.int .i64 ((len / 128 * 128 + tl : Nat) : Int)) ∧ ∃ k, w' = w.drewN k := by
  have KH : ∀ j, Calls Tryz.prog 97 #[.pointer (some ⟨G, 0, none⟩)] (w.drewN j) fun e w' => e = .returned (.int .i64 ((len / 128 : Nat) : Int)) ∧ w' = w.drewN j := fun j => full_any (Blk.drewN h j) hl
  unfold LogB logC at h
  have c7 := h.cell (j := 7) rfl
  obtain ⟨Q, hQ⟩ : ∃ Q, Q = len / 128 := ⟨_, rfl⟩
  rw [← hQ] at KH
  rw [← hQ]
  have hq : Q ≤ 1000000 := by omega
  have HE : Hid (((Q * 128 + tl : Nat) : Int) = (Q : Int) * 128 + (tl : Int)) := by show _ = _; omega
  clear hQ
  go_enter Tryz.func95, Tryz.ntmps95
  go_wp2_with fail
  go_quiet (first | (go_at_call 97; refine Calls.quiet_of_same (KH _)))
  clear KH
  go_wp2
  go_ret
  rw [HE.out]
  exact ⟨rfl, _, rfl⟩
set_option maxRecDepth 100000 in
theorem room_any {w : World} {G g size n gen len : Nat} {bg bk : Bool} {ao : Option Addr} {tl c : Nat} (h : LogB w G g size n gen len bg bk (.slice ao tl c)) (hl : len ≤ 1000000) (ht : tl ≤ 1000000) (hs : size ≤ 1000000) :
    Calls Tryz.prog 68 #[.pointer (some ⟨G, 0, none⟩)] w fun e w' => e = .returned (.int .i64 (if readyE bg bk ≠ 0 then 0 else (size : Int) - ((len / 128 * 128 + tl : Nat) : Int))) ∧ ∃ k, w' = w.drewN k := by
  have HR : Hid (Calls Tryz.prog 94 #[.pointer (some ⟨G, 0, none⟩)] w fun e w' => e = .returned (.int .i64 (readyE bg bk)) ∧ w' = w) := ready_any h
  have KH : ∀ j, Calls Tryz.prog 95 #[.pointer (some ⟨G, 0, none⟩)] (w.drewN j) fun e w' => e = .returned (.int .i64 ((len / 128 * 128 + tl : Nat) : Int)) ∧ ∃ k, w' = (w.drewN j).drewN k := fun j => filled_any (Blk.drewN h j) hl ht
  unfold LogB logC at h
  have c1 := h.cell (j := 1) rfl
  obtain ⟨R, hR⟩ : ∃ R, R = readyE bg bk := ⟨_, rfl⟩
  rw [← hR] at HR
  rw [← hR]
  clear hR
  have hF : len / 128 * 128 + tl ≤ 2000000 := by omega
  generalize len / 128 * 128 + tl = F at *
  by_cases h0 : R = 0
  · have HE : Hid ((if R ≠ 0 then 0 else (size : Int) - (F : Int)) = (size : Int) - (F : Int)) := by show _ = _; rw [if_neg (fun h => h h0)]
    rw [HE.out]
    subst h0
    clear HE
    go_enter Tryz.func68, Tryz.ntmps68
    go_wp2_with (go_at_call 94; refine HR.out.mono ?_; rintro e w1 ⟨rfl, rfl⟩)
    clear HR
    go_quiet (first | (go_at_call 95; refine Calls.quiet_of (KH _)))
    clear KH
    go_wp2
    go_ret
    exact ⟨rfl, _, rfl⟩
  · have HE : Hid ((if R ≠ 0 then 0 else (size : Int) - (F : Int)) = 0) := by show _ = _; rw [if_pos h0]
    rw [HE.out]
    have j0 : (R != 0) = true := by simp [h0]
    clear HE h0
    go_enter Tryz.func68, Tryz.ntmps68
    go_wp2_with (go_at_call 94; refine HR.out.mono ?_; rintro e w1 ⟨rfl, rfl⟩)
    go_ret
    exact ⟨rfl, 0, rfl⟩
set_option maxRecDepth 100000 in
theorem size_any {w : World} {G g size n gen len : Nat} {bg bk : Bool} {tv : Value} (h : LogB w G g size n gen len bg bk tv) :
    Calls Tryz.prog 44 #[.pointer (some ⟨G, 0, none⟩)] w fun e w' => e = .returned (.int .i64 (size : Int)) ∧ w' = w := by
  unfold LogB logC at h
  have c1 := h.cell (j := 1) rfl
  go_enter Tryz.func44, Tryz.ntmps44
  go_wp2
  go_ret
  exact ⟨rfl, rfl⟩

set_option maxRecDepth 100000 in
theorem sector_any {w : World} {G g size n gen len : Nat} {bg bk : Bool} {tv : Value} (h : LogB w G g size n gen len bg bk tv) (hs : size ≤ 1000000) (k i : Nat) (hi : i ≤ 1000000) :
    Calls Tryz.prog 82 #[.pointer (some ⟨G, 0, none⟩), .int .i64 (k : Int), .int .i64 (i : Int)] w fun e w' => e = .returned (.int .i64 ((2 + k % 2 * (size / 128) + i : Nat) : Int)) ∧ w' = w := by
  unfold LogB logC at h
  have c1 := h.cell (j := 1) rfl
  obtain ⟨K, hK⟩ : ∃ K, K = k % 2 := ⟨_, rfl⟩
  obtain ⟨H, hH⟩ : ∃ H, H = size / 128 := ⟨_, rfl⟩
  have e1 : (k : Int) % 2 = (K : Int) := by omega
  have e2 : (size : Int) / 128 = (H : Int) := by omega
  obtain ⟨P, hP⟩ : ∃ P, P = K * H := ⟨_, rfl⟩
  have hPl : P ≤ 1000000 := by
    rcases (show K = 0 ∨ K = 1 by omega) with rfl | rfl
    · omega
    · omega
  have e3 : (K : Int) * (H : Int) = (P : Int) := by rw [hP]; simp
  rw [← hK, ← hH, ← hP]
  have HE : Hid (((2 + P + i : Nat) : Int) = 2 + (P : Int) + (i : Int)) := by show _ = _; omega
  clear hK hH hP
  go_enter Tryz.func82, Tryz.ntmps82
  go_wp2
  go_ret
  rw [HE.out]
  exact ⟨rfl, rfl⟩
set_option maxRecDepth 100000 in
theorem readSec_any {w : World} {G size n gen len : Nat} {bg bk : Bool} {tv : Value} {L : PLay} {C : Nat → Prop} {s : DS} (h : LogB w G L.g size n gen len bg bk tv) (hD : OD w L C s) (k : Int) :
    Calls Tryz.prog 104 #[.pointer (some ⟨G, 0, none⟩), .int .i64 k] w fun e w' => ∃ v, e = .returned v ∧ Own w' w.heap.size v (readS s k).1 ∧ Below w.heap.size w w' := by
  have HR : Hid (Calls Tryz.prog 128 #[.pointer (some ⟨L.g, 0, none⟩), .int .i64 k] w fun e w' => ∃ v, e = .returned (.tuple #[v, .int .i64 (readS s k).2]) ∧ Own w' w.heap.size v (readS s k).1 ∧ Below w.heap.size w w') := od_read L C s k w hD
  unfold LogB logC at h
  have c0 := h.cell (j := 0) rfl
  generalize readS s k = R at *
  go_enter Tryz.func104, Tryz.ntmps104
  go_wp2_with (go_at_call 128; refine HR.out.mono ?_; rintro e w1 ⟨v, rfl, ho, hb⟩)
  go_ret
  exact ⟨_, rfl, ho, hb⟩
end Go.Proofs.YtbegphfideopoaaGreat
namespace Go.Proofs.YtbegphfideopoaaGreat
open Go.RowKit

/-- An operation that is not wanted is passed by first. -/
theorem held_pass {ops : Array Oper} {Q : Exit → Act → World → Prop} {S : World → Prop} {fuel : Nat} {listed : Array Bool} {a : Act} {w : World} (i d : Nat) (o : Oper) (hi : ops[i]? = some o) (hd : o.dst = some d)
    (hs : Region.noSelect ops = true) (hf : Region.free .any ops listed i = true) (hr : (Region.ready .any ops listed).contains i = true) (hw : Region.wanted o (yielded ops a.tmps) = false) (hS : S w)
    (h : wpAnyH Tryz.prog .any ops (NoPanic Q) S fuel (listed.setIfInBounds i true) (a.put (some d) undef) w) : wpAnyH Tryz.prog .any ops (NoPanic Q) S (fuel + 1) listed a w :=
  wpAnyH_take hi hs hf hr (fun _ _ _ h => h) (.inr ⟨hw, rfl⟩) hS (by rw [hd]; exact h)
/-- A row is stored. -/
theorem op_row {ops : Array Oper} {Q : Exit → Act → World → Prop} {K : Act → World → Prop} {a : Act} {w : World} (i : Nat) (o : Oper) (hi : ops[i]? = some o) (hd : o.dst = none) (hw : Region.wanted o (yielded ops a.tmps) = true) (ty : TypeId) (x y : Operand) (ho : o.op = .store ty x y)
    (g : Nat) (cells : Array Value) (hx : a.eval x = .pointer (some ⟨g, 0, none⟩)) (hy : a.eval y = .agg cells) (t : TypeId) (old : Array Value) (hg : Blk w g t old) (hin : (Tryz.prog.info? ty).map (·.size) = some cells.size) (hold : old.size = cells.size) (h1 : cells.all (·.oneCell') = true)
    (h : ∀ w', Blk w' g t cells → w.grownBy w' (some g) → w'.heap.size = w.heap.size → K a w') : wpOp Tryz.prog ops Q i K a w := by
  unfold wpOp
  simp only [hi, hw, if_true]
  refine .inl ?_
  refine wp_store_row ty x y ho g cells hx hy t old hg hin hold h1 ?_
  rw [hd]
  exact h _ (hg.setRow _) ⟨rfl, rfl, rfl, by simp, fun k _ hk => setRow_other w g k cells (fun e => hk (by rw [e]))⟩ (by simp)
theorem exec_leq7 {a : Act} {o : Oper} {w : World} (t : TypeId) (x y : Operand) (ho : o.op = .binOp .leq t x y t) (m n : Int) (b : Bool) (hx : a.eval x = .int .i64 m) (hy : a.eval y = .int .i64 n) (h : decide (m ≤ n) = b) : (execOp a.eval o).run Tryz.prog w = .ok (.value (.bool b)) w := by
  subst h
  unfold execOp
  simp [ho, hx, hy]
  rfl
theorem exec_gtr7 {a : Act} {o : Oper} {w : World} (t : TypeId) (x y : Operand) (ho : o.op = .binOp .gtr t x y t) (m n : Int) (b : Bool) (hx : a.eval x = .int .i64 m) (hy : a.eval y = .int .i64 n) (h : decide (n < m) = b) : (execOp a.eval o).run Tryz.prog w = .ok (.value (.bool b)) w := by
  subst h
  unfold execOp
  simp [ho, hx, hy]
  rfl
theorem exec_eql7 {a : Act} {o : Oper} {w : World} (t : TypeId) (x y : Operand) (ho : o.op = .binOp .eql t x y t) (m n : Int) (b : Bool) (hx : a.eval x = .int .i64 m) (hy : a.eval y = .int .i64 n) (hg : ∀ w, (eqGuard .eql t x y (.int .i64 m) (.int .i64 n)).run Tryz.prog w = .ok () w) (h : (m == n) = b) : (execOp a.eval o).run Tryz.prog w = .ok (.value (.bool b)) w := by
  subst h
  refine exec_cmp .eql t t x y ho (.inr rfl) _ _ _ hx hy (hg w) ?_
  rfl
theorem exec_three8 {a : Act} {o : Oper} {w : World} (f : FuncId) (x y z : Operand) (ts : Array TypeId) (ho : o.op = .call { callee := .value (.func f), args := #[x, y, z], argTypes := ts }) (u v t : Value) (hx : a.eval x = u) (hy : a.eval y = v) (hz : a.eval z = t) (hc : ∀ args w, (callFunc f args).run Tryz.prog w = .ok (.enter f args) w) : (execOp a.eval o).run Tryz.prog w = .ok (.enter f #[u, v, t]) w := by
  have he : a.eval (.func f) = .func (.func f) #[] #[] := rfl
  unfold execOp
  simp [ho, resolve, invoke, Deferred.ofValue, he, hx, hy, hz, hc]
theorem exec_four8 {a : Act} {o : Oper} {w : World} (f : FuncId) (x y z p : Operand) (ts : Array TypeId) (ho : o.op = .call { callee := .value (.func f), args := #[x, y, z, p], argTypes := ts }) (u v t q : Value) (hx : a.eval x = u) (hy : a.eval y = v) (hz : a.eval z = t) (hp : a.eval p = q) (hc : ∀ args w, (callFunc f args).run Tryz.prog w = .ok (.enter f args) w) : (execOp a.eval o).run Tryz.prog w = .ok (.enter f #[u, v, t, q]) w := by
  have he : a.eval (.func f) = .func (.func f) #[] #[] := rfl
  unfold execOp
  simp [ho, resolve, invoke, Deferred.ofValue, he, hx, hy, hz, hp, hc]
theorem exec_two8 {a : Act} {o : Oper} {w : World} (f : FuncId) (x y : Operand) (ts : Array TypeId) (ho : o.op = .call { callee := .value (.func f), args := #[x, y], argTypes := ts }) (u v : Value) (hx : a.eval x = u) (hy : a.eval y = v) (hc : ∀ args w, (callFunc f args).run Tryz.prog w = .ok (.enter f args) w) : (execOp a.eval o).run Tryz.prog w = .ok (.enter f #[u, v]) w := by
  have he : a.eval (.func f) = .func (.func f) #[] #[] := rfl
  unfold execOp
  simp [ho, resolve, invoke, Deferred.ofValue, he, hx, hy, hc]
theorem exec_slice7 {a : Act} {o : Oper} {w : World} (x : Operand) (l h m : Option Operand) (ho : o.op = .slice 34 x l h m) (u r : Value) (lv hv mv : Option Value) (hx : a.eval x = u) (hl : l.map a.eval = lv) (hh : h.map a.eval = hv) (hm : m.map a.eval = mv) (hr : (Instr.slice 34 u lv hv mv).run Tryz.prog w = .ok r w) : (execOp a.eval o).run Tryz.prog w = .ok (.value r) w := by
  subst hl; subst hh; subst hm
  unfold execOp
  simp [ho, hx, hr, Instr.sliceAt, run_underlying Tryz.underlying34]
end Go.Proofs.YtbegphfideopoaaGreat
namespace Go.Proofs.YtbegphfideopoaaGreat
open Go.RowKit

theorem slice_mid7 (ao : Option Addr) (len c lo hi : Nat) (h : lo ≤ hi) (hc : hi ≤ c) (w : World) : (Instr.slice 34 (.slice ao len c) (some (.int .i64 (lo : Int))) (some (.int .i64 (hi : Int))) none).run Tryz.prog w = .ok (.slice (restD ao c lo) (hi - lo) (c - lo)) w := by
  rw [run_slice_lh w 34 ao len c (by rw [elem_bytesD]; exact Tryz.underlying34) .i64 .i64 lo hi (by omega) (by omega) (by omega), elem_bytesD, size_byteD]
  simp only [Result.andThen_ok, sliced, Int.toNat_natCast, restD]
/-- Does the program take a sector's bytes for a head that stands so? -/
def seesB (size k : Nat) (h : List UInt8) : Bool := decide (h.take 12 = (h.drop 12).take 12) && (inB (of4 h) (of4 (h.drop 4)) && (decide (of4 (h.drop 8) ≤ size) && decide (of4 h % 2 = k)))
theorem readS_on {s : DS} {k : Nat} (hd : s.down = false) (hk : k < s.now.length) : readS s (k : Int) = (s.now.getD k [], 0) := by
  unfold readS
  rw [hd, if_neg (by decide), if_neg (by omega), Int.toNat_natCast]
set_option maxRecDepth 100000 in
set_option maxHeartbeats 4000000 in
theorem readHead_any {w : World} {G size n gen len : Nat} {bg bk : Bool} {tv : Value} {L : PLay} {C : Nat → Prop} {s : DS} (h : LogB w G L.g size n gen len bg bk tv) (hD : OD w L C s) (k : Nat) (hk : k < s.now.length) (hdn : s.down = false) :
    Calls Tryz.prog 75 #[.pointer (some ⟨G, 0, none⟩), .int .i64 (k : Int)] w fun e w' => e = .returned (.tuple #[headV (of4 (s.now.getD k [])) (of4 ((s.now.getD k []).drop 4)) (of4 ((s.now.getD k []).drop 8)), .bool (seesB size k (s.now.getD k []))]) ∧ Below w.heap.size w w' := by
  have hl128 : (s.now.getD k []).length = 128 := getD_len hD.d.ok.nows hk
  have hB0 := (Below.refl w.heap.size w).alloc (Nat.le_refl _) (.cells #[.int .i64 0, .int .i64 0, .int .i64 0] 93)
  have HR := readSec_any (Blk.alloc h (.cells #[.int .i64 0, .int .i64 0, .int .i64 0] 93)) (hD.after hB0) (k : Int)
  rw [readS_on hdn hk] at HR
  dsimp only at HR
  have hT0 : Blk (w.alloc (.cells #[.int .i64 0, .int .i64 0, .int .i64 0] 93)) w.heap.size 93 #[.int .i64 0, .int .i64 0, .int .i64 0] := Blk.new _ _ _
  obtain ⟨SB, hSB⟩ : ∃ SB, SB = seesB size k (s.now.getD k []) := ⟨_, rfl⟩
  rw [← hSB]
  unfold seesB at hSB
  generalize s.now.getD k [] = hB at *
  obtain ⟨N0, hN0⟩ : ∃ N0, of4 hB = N0 := ⟨_, rfl⟩
  obtain ⟨G0, hG0⟩ : ∃ G0, of4 (hB.drop 4) = G0 := ⟨_, rfl⟩
  obtain ⟨M0, hM0⟩ : ∃ M0, of4 (hB.drop 8) = M0 := ⟨_, rfl⟩
  rw [hN0, hG0, hM0] at hSB ⊢
  have HQ : Hid (of4 hB = N0 ∧ of4 (hB.drop 4) = G0 ∧ of4 (hB.drop 8) = M0) := ⟨hN0, hG0, hM0⟩
  clear hN0 hG0 hM0
  have hc1 : w.cell? ⟨G, 1, none⟩ = some (.int .i64 (size : Int)) := by unfold LogB logC at h; exact h.cell (j := 1) rfl
  have hGl : G < w.heap.size := Blk.lt h
  clear hD hk
  go_enter Tryz.func75, Tryz.ntmps75
  go_wp2_with fail
  generalize w.alloc (.cells #[.int .i64 0, .int .i64 0, .int .i64 0] 93) = W1 at *
  refine HR.mono ?_
  clear HR
  rintro e W2 ⟨v6, rfl, ho6, hb6⟩
  have hb2 : Below w.heap.size w W2 := hB0.trans (hb6.mono hB0.size)
  have hT2 := hT0.below hb6 hT0.lt
  obtain ⟨q6, c6, rfl, hq6, hq6l, hq6c, hrow6⟩ := ho6.form (by omega)
  have hseg : ∀ W, Below W2.heap.size W2 W → Seg W (.slice (some ⟨q6, 0, none⟩) hB.length c6) hB := fun W hW => ho6.seg.below hW (Nat.le_refl _)
  rw [hl128] at hseg ⊢
  have HN : Hid (∀ (W : World) (a : Nat), Below W2.heap.size W2 W → a + 4 ≤ 128 → Calls Tryz.prog 105 #[.slice (some ⟨q6, 0, none⟩) 128 c6, .int .i64 (a : Int)] W fun e w' => e = .returned (.int .i64 (of4 (hB.drop a) : Int)) ∧ w' = W.drew) := fun W a hW ha => numAt_any _ hB a W (hseg W hW) (by omega) (by omega)
  have HN0 := HN.out W2 0 (Below.refl _ _) (by omega)
  have HN4 := HN.out W2.drew 4 (Below.refl _ _).drew (by omega)
  have HN8 := HN.out W2.drew.drew 8 (Below.refl _ _).drew.drew (by omega)
  rw [List.drop_zero] at HN0
  rw [HQ.out.1] at HN0
  rw [HQ.out.2.1] at HN4
  rw [HQ.out.2.2] at HN8
  clear HN
  go_wp2_with fail
  refine HN0.mono ?_
  rintro e w1 ⟨rfl, rfl⟩
  go_wp2_with fail
  refine HN4.mono ?_
  rintro e w1 ⟨rfl, rfl⟩
  go_wp2_with fail
  refine HN8.mono ?_
  rintro e w1 ⟨rfl, rfl⟩
  clear HN0 HN4 HN8
  go_wp2_with fail
  have hb3 : Below W2.heap.size W2 (W2.alloc (.cells #[.int .i64 (N0 : Int), .int .i64 (G0 : Int), .int .i64 (M0 : Int)] 93)).drew.drew.drew := (((Below.refl _ W2).alloc (Nat.le_refl _) _).drew).drew.drew
  have hT7 : Blk (W2.alloc (.cells #[.int .i64 (N0 : Int), .int .i64 (G0 : Int), .int .i64 (M0 : Int)] 93)).drew.drew.drew W2.heap.size 93 #[.int .i64 (N0 : Int), .int .i64 (G0 : Int), .int .i64 (M0 : Int)] := Blk.new W2 _ _
  generalize (W2.alloc (.cells #[.int .i64 (N0 : Int), .int .i64 (G0 : Int), .int .i64 (M0 : Int)] 93)).drew.drew.drew = W3 at *
  have hT3 := hT2.below hb3 hT2.lt
  have hbw3 : Below w.heap.size w W3 := hb2.trans (hb3.mono hb2.size)
  obtain ⟨b7, hb7⟩ : ∃ b7, b7 = W2.heap.size := ⟨_, rfl⟩
  have hb7l : W2.heap.size ≤ b7 := Nat.le_of_eq hb7.symm
  rw [← hb7] at hT7 ⊢
  clear hb7
  have hs3 := hseg W3 hb3
  have l1 : ∀ W, (Instr.slice 34 (.slice (some ⟨q6, 0, none⟩) 128 c6) none (some (.int .i64 12)) none).run Tryz.prog W = .ok (.slice (some ⟨q6, 0, none⟩) 12 c6) W := fun W => slice_toD (some ⟨q6, 0, none⟩) 128 c6 12 (by omega) W
  have l2 : ∀ W, (Instr.slice 34 (.slice (some ⟨q6, 0, none⟩) 128 c6) (some (.int .i64 12)) (some (.int .i64 24)) none).run Tryz.prog W = .ok (.slice (restD (some ⟨q6, 0, none⟩) c6 12) 12 (c6 - 12)) W := fun W => slice_mid7 (some ⟨q6, 0, none⟩) 128 c6 12 24 (by omega) (by omega) W
  have hsa := (hs3.takesD 12 (by omega)).1
  have hsb0 := hs3.dropsD 12 (by omega)
  have hsb : Seg W3 (.slice (restD (some ⟨q6, 0, none⟩) c6 12) 12 (c6 - 12)) ((hB.drop 12).take 12) := (hsb0.takesD 12 (by omega)).1
  have KH : ∀ j, Calls Tryz.prog 106 #[.slice (some ⟨q6, 0, none⟩) 12 c6, .slice (restD (some ⟨q6, 0, none⟩) c6 12) 12 (c6 - 12)] (W3.drewN j) fun e w' => e = .returned (.bool (decide (hB.take 12 = (hB.drop 12).take 12))) ∧ w' = W3.drewN j := fun j => bequal_any _ _ _ _ _ (hsa.below (Below.drewN (Below.refl _ W3) j) (Nat.le_refl _)) (hsb.below (Below.drewN (Below.refl _ W3) j) (Nat.le_refl _))
  generalize restD (some ⟨q6, 0, none⟩) c6 12 = ra at *
  generalize c6 - 12 = cr at *
  obtain ⟨AB, hAB⟩ : ∃ AB, AB = decide (hB.take 12 = (hB.drop 12).take 12) := ⟨_, rfl⟩
  rw [← hAB] at KH hSB
  clear hAB hsa hsb0 hsb hs3 hseg ho6 hrow6 hq6 hq6l hq6c
  go_quiet (first | (go_at_call 106; refine Calls.quiet_of_same (KH _)))
  clear KH l1 l2
  have hT7' := hT7.drewN nq
  have hT3' := hT3.drewN nq
  have hbw' := Below.drewN hbw3 nq
  have hb7n : b7 ≠ w.heap.size := fun e => by
    have h1 : w.heap.size < W2.heap.size := hT2.lt
    have h2 := hb7l
    omega
  clear hT7 hT3 hbw3 hb3 hT2 hb2 hT0 hB0 hb6
  generalize W3.drewN nq = W3 at *
  have HS : Hid (∀ V : World, Below W3.drew.heap.size W3.drew V → V.rangeAt b7 0 [.int .i64 (N0 : Int), .int .i64 (G0 : Int), .int .i64 (M0 : Int)] ∧ V.cell? ⟨G, 1, none⟩ = some (.int .i64 (size : Int))) := fun V hV => by
    refine ⟨(hT7'.drew.below hV hT7'.lt).range 0 _ (fun j v hv => by rw [Nat.zero_add]; simpa using hv), ?_⟩
    rw [(hbw'.drew.trans (hV.mono hbw'.size)).cell (p := ⟨G, 1, none⟩) hGl]
    exact hc1
  have HT : Hid (∀ V : World, Below W3.drew.heap.size W3.drew V → Blk V w.heap.size 93 #[.int .i64 0, .int .i64 0, .int .i64 0]) := fun V hV => hT3'.drew.below hV hT3'.lt
  have HBB : Hid (∀ V : World, Below W3.drew.heap.size W3.drew V → Below w.heap.size w V) := fun V hV => hbw'.drew.trans (hV.mono hbw'.size)
  have HS2 : Hid (∀ V W : World, (V.rangeAt b7 0 [.int .i64 (N0 : Int), .int .i64 (G0 : Int), .int .i64 (M0 : Int)] ∧ V.cell? ⟨G, 1, none⟩ = some (.int .i64 (size : Int))) → V.grownBy W (some w.heap.size) → W.rangeAt b7 0 [.int .i64 (N0 : Int), .int .i64 (G0 : Int), .int .i64 (M0 : Int)] ∧ W.cell? ⟨G, 1, none⟩ = some (.int .i64 (size : Int))) := fun V W hV hg =>
    ⟨fun j v hv => hg.cell (hV.1 j v hv) (fun e => hb7n (Option.some.inj e)), hg.cell hV.2 (fun e => by have e2 : G = w.heap.size := Option.some.inj e; omega)⟩
  have hS0 := HS.out W3.drew (Below.refl _ _)
  clear hT7' hT3' hbw' hb7n hc1
  cases AB with
  | false =>
    have HSB : Hid (SB = false) := by show _ = _; rw [hSB]; rfl
    clear hSB
    go_wp2_with fail
    refine held_begin (fun V => V.rangeAt b7 0 [.int .i64 (N0 : Int), .int .i64 (G0 : Int), .int .i64 (M0 : Int)] ∧ V.cell? ⟨G, 1, none⟩ = some (.int .i64 (size : Int))) (by kernel_rfl) ?_
    refine held_take 0 24 _ (headV N0 G0 M0) rfl rfl (by kernel_rfl) (by kernel_rfl) (by kernel_rfl) rfl hS0 (fun V hV => exec_load 93 _ rfl b7 0 rfl [.int .i64 (N0 : Int), .int .i64 (G0 : Int), .int .i64 (M0 : Int)] _ hV.1 Tryz.underlying93 rfl Tryz.info93s) ?_
    simp only [Act.put, List.setIfInBounds_toArray, List.set_cons_succ, List.set_cons_zero]
    refine held_take 1 25 _ (.bool false) rfl rfl (by kernel_rfl) (by kernel_rfl) (by kernel_rfl) rfl hS0 (fun _ _ => rfl) ?_
    simp only [Act.put, List.setIfInBounds_toArray, List.set_cons_succ, List.set_cons_zero]
    refine held_take 2 26 _ (.bool false) rfl rfl (by kernel_rfl) (by kernel_rfl) (by kernel_rfl) rfl hS0 (fun _ _ => rfl) ?_
    simp only [Act.put, List.setIfInBounds_toArray, List.set_cons_succ, List.set_cons_zero]
    refine held_pass 3 27 _ rfl rfl (by kernel_rfl) (by kernel_rfl) (by kernel_rfl) rfl hS0 ?_
    simp only [Act.put, List.setIfInBounds_toArray, List.set_cons_succ, List.set_cons_zero]
    refine held_pass 4 28 _ rfl rfl (by kernel_rfl) (by kernel_rfl) (by kernel_rfl) rfl hS0 ?_
    simp only [Act.put, List.setIfInBounds_toArray, List.set_cons_succ, List.set_cons_zero]
    refine held_take 5 29 _ (.bool false) rfl rfl (by kernel_rfl) (by kernel_rfl) (by kernel_rfl) rfl hS0 (fun _ _ => rfl) ?_
    simp only [Act.put, List.setIfInBounds_toArray, List.set_cons_succ, List.set_cons_zero]
    refine held_take 6 30 _ (.bool false) rfl rfl (by kernel_rfl) (by kernel_rfl) (by kernel_rfl) rfl hS0 (fun _ _ => rfl) ?_
    simp only [Act.put, List.setIfInBounds_toArray, List.set_cons_succ, List.set_cons_zero]
    refine held_pass 7 31 _ rfl rfl (by kernel_rfl) (by kernel_rfl) (by kernel_rfl) rfl hS0 ?_
    simp only [Act.put, List.setIfInBounds_toArray, List.set_cons_succ, List.set_cons_zero]
    refine held_pass 8 32 _ rfl rfl (by kernel_rfl) (by kernel_rfl) (by kernel_rfl) rfl hS0 ?_
    simp only [Act.put, List.setIfInBounds_toArray, List.set_cons_succ, List.set_cons_zero]
    refine held_pass 9 33 _ rfl rfl (by kernel_rfl) (by kernel_rfl) (by kernel_rfl) rfl hS0 ?_
    simp only [Act.put, List.setIfInBounds_toArray, List.set_cons_succ, List.set_cons_zero]
    refine held_pass 10 34 _ rfl rfl (by kernel_rfl) (by kernel_rfl) (by kernel_rfl) rfl hS0 ?_
    simp only [Act.put, List.setIfInBounds_toArray, List.set_cons_succ, List.set_cons_zero]
    refine held_pass 11 35 _ rfl rfl (by kernel_rfl) (by kernel_rfl) (by kernel_rfl) rfl hS0 ?_
    simp only [Act.put, List.setIfInBounds_toArray, List.set_cons_succ, List.set_cons_zero]
    refine held_pass 12 36 _ rfl rfl (by kernel_rfl) (by kernel_rfl) (by kernel_rfl) rfl hS0 ?_
    simp only [Act.put, List.setIfInBounds_toArray, List.set_cons_succ, List.set_cons_zero]
    refine held_pass 13 37 _ rfl rfl (by kernel_rfl) (by kernel_rfl) (by kernel_rfl) rfl hS0 ?_
    simp only [Act.put, List.setIfInBounds_toArray, List.set_cons_succ, List.set_cons_zero]
    refine held_take 14 38 _ (.bool false) rfl rfl (by kernel_rfl) (by kernel_rfl) (by kernel_rfl) rfl hS0 (fun _ _ => rfl) ?_
    simp only [Act.put, List.setIfInBounds_toArray, List.set_cons_succ, List.set_cons_zero]
    refine held_take 15 39 _ (.bool false) rfl rfl (by kernel_rfl) (by kernel_rfl) (by kernel_rfl) rfl hS0 (fun _ _ => rfl) ?_
    simp only [Act.put, List.setIfInBounds_toArray, List.set_cons_succ, List.set_cons_zero]
    refine held_pass 16 40 _ rfl rfl (by kernel_rfl) (by kernel_rfl) (by kernel_rfl) rfl hS0 ?_
    simp only [Act.put, List.setIfInBounds_toArray, List.set_cons_succ, List.set_cons_zero]
    refine held_pass 17 41 _ rfl rfl (by kernel_rfl) (by kernel_rfl) (by kernel_rfl) rfl hS0 ?_
    simp only [Act.put, List.setIfInBounds_toArray, List.set_cons_succ, List.set_cons_zero]
    refine held_pass 18 42 _ rfl rfl (by kernel_rfl) (by kernel_rfl) (by kernel_rfl) rfl hS0 ?_
    simp only [Act.put, List.setIfInBounds_toArray, List.set_cons_succ, List.set_cons_zero]
    refine held_pass 19 43 _ rfl rfl (by kernel_rfl) (by kernel_rfl) (by kernel_rfl) rfl hS0 ?_
    simp only [Act.put, List.setIfInBounds_toArray, List.set_cons_succ, List.set_cons_zero]
    refine held_take 20 44 _ (.bool false) rfl rfl (by kernel_rfl) (by kernel_rfl) (by kernel_rfl) rfl hS0 (fun _ _ => rfl) ?_
    simp only [Act.put, List.setIfInBounds_toArray, List.set_cons_succ, List.set_cons_zero]
    have hT4 : Blk W3.drew w.heap.size 93 #[.int .i64 0, .int .i64 0, .int .i64 0] := HT.out _ (Below.refl _ _)
    refine held_all1 21 (by kernel_rfl) (op_row 21 _ rfl rfl rfl 93 _ _ rfl w.heap.size #[.int .i64 (N0 : Int), .int .i64 (G0 : Int), .int .i64 (M0 : Int)] rfl rfl 93 _ hT4 Tryz.info93s rfl (by simp [Value.oneCell']) ?_)
    intro W6 hb6 hg6 hs6
    refine ⟨HS2.out _ W6 hS0 hg6, ?_⟩
    refine held_all1 22 (by kernel_rfl) (op_value 22 5 _ (.bool false) W6 rfl rfl rfl rfl ⟨HS2.out _ W6 hS0 hg6, ?_⟩)
    simp only [Act.put, List.setIfInBounds_toArray, List.set_cons_succ, List.set_cons_zero]
    refine wpAnyH_done (by kernel_rfl) ?_ _
    refine NoPanic.normal ?_
    go_wp2
    (try simp only [Exit.inBlock, Exit.then])
    refine bodyPost_ret (results_pair rfl _ _ w.heap.size 93 #[.int .i64 (N0 : Int), .int .i64 (G0 : Int), .int .i64 (M0 : Int)] (0, 0) _ _ rfl rfl hb6 Tryz.underlying93 rfl Tryz.info93s) rfl ?_
    rw [HSB.out]
    exact ⟨rfl, below_grown (HBB.out _ (Below.refl _ _)) hg6 (HBB.out _ (Below.refl _ _)).size (fun q hq => by have h2 : w.heap.size = q := Option.some.inj hq; omega)⟩
  | true =>
  rw [Bool.true_and] at hSB
  cases hI : inB N0 G0 with
  | false =>
    rw [hI, Bool.false_and] at hSB
    have HSB : Hid (SB = false) := hSB
    have HI : Hid (inB N0 G0 = false) := hI
    clear hSB hI
    go_wp2_with fail
    refine held_begin (fun V => V.rangeAt b7 0 [.int .i64 (N0 : Int), .int .i64 (G0 : Int), .int .i64 (M0 : Int)] ∧ V.cell? ⟨G, 1, none⟩ = some (.int .i64 (size : Int))) (by kernel_rfl) ?_
    refine held_take 0 24 _ (headV N0 G0 M0) rfl rfl (by kernel_rfl) (by kernel_rfl) (by kernel_rfl) rfl hS0 (fun V hV => exec_load 93 _ rfl b7 0 rfl [.int .i64 (N0 : Int), .int .i64 (G0 : Int), .int .i64 (M0 : Int)] _ hV.1 Tryz.underlying93 rfl Tryz.info93s) ?_
    simp only [Act.put, List.setIfInBounds_toArray, List.set_cons_succ, List.set_cons_zero]
    refine held_take 1 25 _ (.bool true) rfl rfl (by kernel_rfl) (by kernel_rfl) (by kernel_rfl) rfl hS0 (fun _ _ => rfl) ?_
    simp only [Act.put, List.setIfInBounds_toArray, List.set_cons_succ, List.set_cons_zero]
    refine held_take 2 26 _ (.bool true) rfl rfl (by kernel_rfl) (by kernel_rfl) (by kernel_rfl) rfl hS0 (fun _ _ => rfl) ?_
    simp only [Act.put, List.setIfInBounds_toArray, List.set_cons_succ, List.set_cons_zero]
    refine held_take 3 27 _ (headV N0 G0 M0) rfl rfl (by kernel_rfl) (by kernel_rfl) (by kernel_rfl) rfl hS0 (fun V hV => exec_load 93 _ rfl b7 0 rfl [.int .i64 (N0 : Int), .int .i64 (G0 : Int), .int .i64 (M0 : Int)] _ hV.1 Tryz.underlying93 rfl Tryz.info93s) ?_
    simp only [Act.put, List.setIfInBounds_toArray, List.set_cons_succ, List.set_cons_zero]
    refine held_all1 4 (by kernel_rfl) (op_call 4 28 _ 54 #[headV N0 G0 M0] rfl rfl rfl (exec_one 54 _ _ rfl _ rfl Tryz.call54) ((inB_any N0 G0 M0 _).mono ?_))
    rintro e W4 ⟨rfl, hb4⟩
    rw [HI.out]
    have hS4 := HS.out W4 hb4
    refine ⟨_, rfl, hS4, ?_⟩
    simp only [Act.put, List.setIfInBounds_toArray, List.set_cons_succ, List.set_cons_zero]
    refine held_take 5 29 _ (.bool false) rfl rfl (by kernel_rfl) (by kernel_rfl) (by kernel_rfl) rfl hS4 (fun _ _ => rfl) ?_
    simp only [Act.put, List.setIfInBounds_toArray, List.set_cons_succ, List.set_cons_zero]
    refine held_take 6 30 _ (.bool false) rfl rfl (by kernel_rfl) (by kernel_rfl) (by kernel_rfl) rfl hS4 (fun _ _ => rfl) ?_
    simp only [Act.put, List.setIfInBounds_toArray, List.set_cons_succ, List.set_cons_zero]
    refine held_pass 7 31 _ rfl rfl (by kernel_rfl) (by kernel_rfl) (by kernel_rfl) rfl hS4 ?_
    simp only [Act.put, List.setIfInBounds_toArray, List.set_cons_succ, List.set_cons_zero]
    refine held_pass 8 32 _ rfl rfl (by kernel_rfl) (by kernel_rfl) (by kernel_rfl) rfl hS4 ?_
    simp only [Act.put, List.setIfInBounds_toArray, List.set_cons_succ, List.set_cons_zero]
    refine held_pass 9 33 _ rfl rfl (by kernel_rfl) (by kernel_rfl) (by kernel_rfl) rfl hS4 ?_
    simp only [Act.put, List.setIfInBounds_toArray, List.set_cons_succ, List.set_cons_zero]
    refine held_pass 10 34 _ rfl rfl (by kernel_rfl) (by kernel_rfl) (by kernel_rfl) rfl hS4 ?_
    simp only [Act.put, List.setIfInBounds_toArray, List.set_cons_succ, List.set_cons_zero]
    refine held_pass 11 35 _ rfl rfl (by kernel_rfl) (by kernel_rfl) (by kernel_rfl) rfl hS4 ?_
    simp only [Act.put, List.setIfInBounds_toArray, List.set_cons_succ, List.set_cons_zero]
    refine held_pass 12 36 _ rfl rfl (by kernel_rfl) (by kernel_rfl) (by kernel_rfl) rfl hS4 ?_
    simp only [Act.put, List.setIfInBounds_toArray, List.set_cons_succ, List.set_cons_zero]
    refine held_pass 13 37 _ rfl rfl (by kernel_rfl) (by kernel_rfl) (by kernel_rfl) rfl hS4 ?_
    simp only [Act.put, List.setIfInBounds_toArray, List.set_cons_succ, List.set_cons_zero]
    refine held_take 14 38 _ (.bool false) rfl rfl (by kernel_rfl) (by kernel_rfl) (by kernel_rfl) rfl hS4 (fun _ _ => rfl) ?_
    simp only [Act.put, List.setIfInBounds_toArray, List.set_cons_succ, List.set_cons_zero]
    refine held_take 15 39 _ (.bool false) rfl rfl (by kernel_rfl) (by kernel_rfl) (by kernel_rfl) rfl hS4 (fun _ _ => rfl) ?_
    simp only [Act.put, List.setIfInBounds_toArray, List.set_cons_succ, List.set_cons_zero]
    refine held_pass 16 40 _ rfl rfl (by kernel_rfl) (by kernel_rfl) (by kernel_rfl) rfl hS4 ?_
    simp only [Act.put, List.setIfInBounds_toArray, List.set_cons_succ, List.set_cons_zero]
    refine held_pass 17 41 _ rfl rfl (by kernel_rfl) (by kernel_rfl) (by kernel_rfl) rfl hS4 ?_
    simp only [Act.put, List.setIfInBounds_toArray, List.set_cons_succ, List.set_cons_zero]
    refine held_pass 18 42 _ rfl rfl (by kernel_rfl) (by kernel_rfl) (by kernel_rfl) rfl hS4 ?_
    simp only [Act.put, List.setIfInBounds_toArray, List.set_cons_succ, List.set_cons_zero]
    refine held_pass 19 43 _ rfl rfl (by kernel_rfl) (by kernel_rfl) (by kernel_rfl) rfl hS4 ?_
    simp only [Act.put, List.setIfInBounds_toArray, List.set_cons_succ, List.set_cons_zero]
    refine held_take 20 44 _ (.bool false) rfl rfl (by kernel_rfl) (by kernel_rfl) (by kernel_rfl) rfl hS4 (fun _ _ => rfl) ?_
    simp only [Act.put, List.setIfInBounds_toArray, List.set_cons_succ, List.set_cons_zero]
    have hT4 : Blk W4 w.heap.size 93 #[.int .i64 0, .int .i64 0, .int .i64 0] := HT.out _ hb4
    refine held_all1 21 (by kernel_rfl) (op_row 21 _ rfl rfl rfl 93 _ _ rfl w.heap.size #[.int .i64 (N0 : Int), .int .i64 (G0 : Int), .int .i64 (M0 : Int)] rfl rfl 93 _ hT4 Tryz.info93s rfl (by simp [Value.oneCell']) ?_)
    intro W6 hb6 hg6 hs6
    refine ⟨HS2.out _ W6 hS4 hg6, ?_⟩
    refine held_all1 22 (by kernel_rfl) (op_value 22 5 _ (.bool false) W6 rfl rfl rfl rfl ⟨HS2.out _ W6 hS4 hg6, ?_⟩)
    simp only [Act.put, List.setIfInBounds_toArray, List.set_cons_succ, List.set_cons_zero]
    refine wpAnyH_done (by kernel_rfl) ?_ _
    refine NoPanic.normal ?_
    go_wp2
    (try simp only [Exit.inBlock, Exit.then])
    refine bodyPost_ret (results_pair rfl _ _ w.heap.size 93 #[.int .i64 (N0 : Int), .int .i64 (G0 : Int), .int .i64 (M0 : Int)] (0, 0) _ _ rfl rfl hb6 Tryz.underlying93 rfl Tryz.info93s) rfl ?_
    rw [HSB.out]
    exact ⟨rfl, below_grown (HBB.out _ hb4) hg6 (HBB.out _ hb4).size (fun q hq => by have h2 : w.heap.size = q := Option.some.inj hq; omega)⟩
  | true =>
  rw [hI, Bool.true_and] at hSB
  have HI : Hid (inB N0 G0 = true) := hI
  clear hI
  by_cases hLE : M0 ≤ size
  case neg =>
    rw [decide_eq_false hLE, Bool.false_and] at hSB
    have HSB : Hid (SB = false) := hSB
    have HLE : Hid (decide ((M0 : Int) ≤ (size : Int)) = false) := decide_eq_false (by omega)
    clear hSB hLE
    go_wp2_with fail
    refine held_begin (fun V => V.rangeAt b7 0 [.int .i64 (N0 : Int), .int .i64 (G0 : Int), .int .i64 (M0 : Int)] ∧ V.cell? ⟨G, 1, none⟩ = some (.int .i64 (size : Int))) (by kernel_rfl) ?_
    refine held_take 0 24 _ (headV N0 G0 M0) rfl rfl (by kernel_rfl) (by kernel_rfl) (by kernel_rfl) rfl hS0 (fun V hV => exec_load 93 _ rfl b7 0 rfl [.int .i64 (N0 : Int), .int .i64 (G0 : Int), .int .i64 (M0 : Int)] _ hV.1 Tryz.underlying93 rfl Tryz.info93s) ?_
    simp only [Act.put, List.setIfInBounds_toArray, List.set_cons_succ, List.set_cons_zero]
    refine held_take 1 25 _ (.bool true) rfl rfl (by kernel_rfl) (by kernel_rfl) (by kernel_rfl) rfl hS0 (fun _ _ => rfl) ?_
    simp only [Act.put, List.setIfInBounds_toArray, List.set_cons_succ, List.set_cons_zero]
    refine held_take 2 26 _ (.bool true) rfl rfl (by kernel_rfl) (by kernel_rfl) (by kernel_rfl) rfl hS0 (fun _ _ => rfl) ?_
    simp only [Act.put, List.setIfInBounds_toArray, List.set_cons_succ, List.set_cons_zero]
    refine held_take 3 27 _ (headV N0 G0 M0) rfl rfl (by kernel_rfl) (by kernel_rfl) (by kernel_rfl) rfl hS0 (fun V hV => exec_load 93 _ rfl b7 0 rfl [.int .i64 (N0 : Int), .int .i64 (G0 : Int), .int .i64 (M0 : Int)] _ hV.1 Tryz.underlying93 rfl Tryz.info93s) ?_
    simp only [Act.put, List.setIfInBounds_toArray, List.set_cons_succ, List.set_cons_zero]
    refine held_all1 4 (by kernel_rfl) (op_call 4 28 _ 54 #[headV N0 G0 M0] rfl rfl rfl (exec_one 54 _ _ rfl _ rfl Tryz.call54) ((inB_any N0 G0 M0 _).mono ?_))
    rintro e W4 ⟨rfl, hb4⟩
    rw [HI.out]
    have hS4 := HS.out W4 hb4
    refine ⟨_, rfl, hS4, ?_⟩
    simp only [Act.put, List.setIfInBounds_toArray, List.set_cons_succ, List.set_cons_zero]
    refine held_take 5 29 _ (.bool true) rfl rfl (by kernel_rfl) (by kernel_rfl) (by kernel_rfl) rfl hS4 (fun _ _ => rfl) ?_
    simp only [Act.put, List.setIfInBounds_toArray, List.set_cons_succ, List.set_cons_zero]
    refine held_take 6 30 _ (.bool true) rfl rfl (by kernel_rfl) (by kernel_rfl) (by kernel_rfl) rfl hS4 (fun _ _ => rfl) ?_
    simp only [Act.put, List.setIfInBounds_toArray, List.set_cons_succ, List.set_cons_zero]
    refine held_take 7 31 _ (.pointer (some ⟨b7, 2, none⟩)) rfl rfl (by kernel_rfl) (by kernel_rfl) (by kernel_rfl) rfl hS4 (fun _ _ => rfl) ?_
    simp only [Act.put, List.setIfInBounds_toArray, List.set_cons_succ, List.set_cons_zero]
    refine held_take 8 32 _ (.int .i64 (M0 : Int)) rfl rfl (by kernel_rfl) (by kernel_rfl) (by kernel_rfl) rfl hS4 (fun V hV => exec_loadc 3 _ rfl _ _ rfl (load_one 3 (fun _ => by kernel_rfl) V _ _ _ (hV.1 2 _ rfl))) ?_
    simp only [Act.put, List.setIfInBounds_toArray, List.set_cons_succ, List.set_cons_zero]
    refine held_take 9 33 _ (.pointer (some ⟨G, 0, none⟩)) rfl rfl (by kernel_rfl) (by kernel_rfl) (by kernel_rfl) rfl hS4 (fun _ _ => rfl) ?_
    simp only [Act.put, List.setIfInBounds_toArray, List.set_cons_succ, List.set_cons_zero]
    refine held_take 10 34 _ (.pointer (some ⟨G, 0, none⟩)) rfl rfl (by kernel_rfl) (by kernel_rfl) (by kernel_rfl) rfl hS4 (fun _ _ => rfl) ?_
    simp only [Act.put, List.setIfInBounds_toArray, List.set_cons_succ, List.set_cons_zero]
    refine held_take 11 35 _ (.pointer (some ⟨G, 1, none⟩)) rfl rfl (by kernel_rfl) (by kernel_rfl) (by kernel_rfl) rfl hS4 (fun _ _ => rfl) ?_
    simp only [Act.put, List.setIfInBounds_toArray, List.set_cons_succ, List.set_cons_zero]
    refine held_take 12 36 _ (.int .i64 (size : Int)) rfl rfl (by kernel_rfl) (by kernel_rfl) (by kernel_rfl) rfl hS4 (fun V hV => exec_loadc 3 _ rfl _ _ rfl (load_one 3 (fun _ => by kernel_rfl) V _ _ _ hV.2)) ?_
    simp only [Act.put, List.setIfInBounds_toArray, List.set_cons_succ, List.set_cons_zero]
    refine held_take 13 37 _ (.bool false) rfl rfl (by kernel_rfl) (by kernel_rfl) (by kernel_rfl) rfl hS4 (fun V _ => exec_leq7 _ _ _ rfl (M0 : Int) (size : Int) _ rfl rfl HLE.out) ?_
    simp only [Act.put, List.setIfInBounds_toArray, List.set_cons_succ, List.set_cons_zero]
    refine held_take 14 38 _ (.bool false) rfl rfl (by kernel_rfl) (by kernel_rfl) (by kernel_rfl) rfl hS4 (fun _ _ => rfl) ?_
    simp only [Act.put, List.setIfInBounds_toArray, List.set_cons_succ, List.set_cons_zero]
    refine held_take 15 39 _ (.bool false) rfl rfl (by kernel_rfl) (by kernel_rfl) (by kernel_rfl) rfl hS4 (fun _ _ => rfl) ?_
    simp only [Act.put, List.setIfInBounds_toArray, List.set_cons_succ, List.set_cons_zero]
    refine held_pass 16 40 _ rfl rfl (by kernel_rfl) (by kernel_rfl) (by kernel_rfl) rfl hS4 ?_
    simp only [Act.put, List.setIfInBounds_toArray, List.set_cons_succ, List.set_cons_zero]
    refine held_pass 17 41 _ rfl rfl (by kernel_rfl) (by kernel_rfl) (by kernel_rfl) rfl hS4 ?_
    simp only [Act.put, List.setIfInBounds_toArray, List.set_cons_succ, List.set_cons_zero]
    refine held_pass 18 42 _ rfl rfl (by kernel_rfl) (by kernel_rfl) (by kernel_rfl) rfl hS4 ?_
    simp only [Act.put, List.setIfInBounds_toArray, List.set_cons_succ, List.set_cons_zero]
    refine held_pass 19 43 _ rfl rfl (by kernel_rfl) (by kernel_rfl) (by kernel_rfl) rfl hS4 ?_
    simp only [Act.put, List.setIfInBounds_toArray, List.set_cons_succ, List.set_cons_zero]
    refine held_take 20 44 _ (.bool false) rfl rfl (by kernel_rfl) (by kernel_rfl) (by kernel_rfl) rfl hS4 (fun _ _ => rfl) ?_
    simp only [Act.put, List.setIfInBounds_toArray, List.set_cons_succ, List.set_cons_zero]
    have hT4 : Blk W4 w.heap.size 93 #[.int .i64 0, .int .i64 0, .int .i64 0] := HT.out _ hb4
    refine held_all1 21 (by kernel_rfl) (op_row 21 _ rfl rfl rfl 93 _ _ rfl w.heap.size #[.int .i64 (N0 : Int), .int .i64 (G0 : Int), .int .i64 (M0 : Int)] rfl rfl 93 _ hT4 Tryz.info93s rfl (by simp [Value.oneCell']) ?_)
    intro W6 hb6 hg6 hs6
    refine ⟨HS2.out _ W6 hS4 hg6, ?_⟩
    refine held_all1 22 (by kernel_rfl) (op_value 22 5 _ (.bool false) W6 rfl rfl rfl rfl ⟨HS2.out _ W6 hS4 hg6, ?_⟩)
    simp only [Act.put, List.setIfInBounds_toArray, List.set_cons_succ, List.set_cons_zero]
    refine wpAnyH_done (by kernel_rfl) ?_ _
    refine NoPanic.normal ?_
    go_wp2
    (try simp only [Exit.inBlock, Exit.then])
    refine bodyPost_ret (results_pair rfl _ _ w.heap.size 93 #[.int .i64 (N0 : Int), .int .i64 (G0 : Int), .int .i64 (M0 : Int)] (0, 0) _ _ rfl rfl hb6 Tryz.underlying93 rfl Tryz.info93s) rfl ?_
    rw [HSB.out]
    exact ⟨rfl, below_grown (HBB.out _ hb4) hg6 (HBB.out _ hb4).size (fun q hq => by have h2 : w.heap.size = q := Option.some.inj hq; omega)⟩
  case pos =>
    rw [decide_eq_true hLE, Bool.true_and] at hSB
    have HLE : Hid (decide ((M0 : Int) ≤ (size : Int)) = true) := decide_eq_true (by omega)
    obtain ⟨SKB, hSK⟩ : ∃ SKB, SKB = (((N0 % 2 : Nat) : Int) == (k : Int)) := ⟨_, rfl⟩
    have HSK : Hid ((((N0 % 2 : Nat) : Int) == (k : Int)) = SKB) := hSK.symm
    have HSB : Hid (SB = SKB) := by
      show _ = _
      rw [hSB, hSK]
      by_cases e : N0 % 2 = k
      · rw [decide_eq_true e, e]; simp
      · rw [decide_eq_false e]
        symm
        rw [beq_eq_false_iff_ne]
        omega
    clear hSB hLE hSK
    go_wp2_with fail
    refine held_begin (fun V => V.rangeAt b7 0 [.int .i64 (N0 : Int), .int .i64 (G0 : Int), .int .i64 (M0 : Int)] ∧ V.cell? ⟨G, 1, none⟩ = some (.int .i64 (size : Int))) (by kernel_rfl) ?_
    refine held_take 0 24 _ (headV N0 G0 M0) rfl rfl (by kernel_rfl) (by kernel_rfl) (by kernel_rfl) rfl hS0 (fun V hV => exec_load 93 _ rfl b7 0 rfl [.int .i64 (N0 : Int), .int .i64 (G0 : Int), .int .i64 (M0 : Int)] _ hV.1 Tryz.underlying93 rfl Tryz.info93s) ?_
    simp only [Act.put, List.setIfInBounds_toArray, List.set_cons_succ, List.set_cons_zero]
    refine held_take 1 25 _ (.bool true) rfl rfl (by kernel_rfl) (by kernel_rfl) (by kernel_rfl) rfl hS0 (fun _ _ => rfl) ?_
    simp only [Act.put, List.setIfInBounds_toArray, List.set_cons_succ, List.set_cons_zero]
    refine held_take 2 26 _ (.bool true) rfl rfl (by kernel_rfl) (by kernel_rfl) (by kernel_rfl) rfl hS0 (fun _ _ => rfl) ?_
    simp only [Act.put, List.setIfInBounds_toArray, List.set_cons_succ, List.set_cons_zero]
    refine held_take 3 27 _ (headV N0 G0 M0) rfl rfl (by kernel_rfl) (by kernel_rfl) (by kernel_rfl) rfl hS0 (fun V hV => exec_load 93 _ rfl b7 0 rfl [.int .i64 (N0 : Int), .int .i64 (G0 : Int), .int .i64 (M0 : Int)] _ hV.1 Tryz.underlying93 rfl Tryz.info93s) ?_
    simp only [Act.put, List.setIfInBounds_toArray, List.set_cons_succ, List.set_cons_zero]
    refine held_all1 4 (by kernel_rfl) (op_call 4 28 _ 54 #[headV N0 G0 M0] rfl rfl rfl (exec_one 54 _ _ rfl _ rfl Tryz.call54) ((inB_any N0 G0 M0 _).mono ?_))
    rintro e W4 ⟨rfl, hb4⟩
    rw [HI.out]
    have hS4 := HS.out W4 hb4
    refine ⟨_, rfl, hS4, ?_⟩
    simp only [Act.put, List.setIfInBounds_toArray, List.set_cons_succ, List.set_cons_zero]
    refine held_take 5 29 _ (.bool true) rfl rfl (by kernel_rfl) (by kernel_rfl) (by kernel_rfl) rfl hS4 (fun _ _ => rfl) ?_
    simp only [Act.put, List.setIfInBounds_toArray, List.set_cons_succ, List.set_cons_zero]
    refine held_take 6 30 _ (.bool true) rfl rfl (by kernel_rfl) (by kernel_rfl) (by kernel_rfl) rfl hS4 (fun _ _ => rfl) ?_
    simp only [Act.put, List.setIfInBounds_toArray, List.set_cons_succ, List.set_cons_zero]
    refine held_take 7 31 _ (.pointer (some ⟨b7, 2, none⟩)) rfl rfl (by kernel_rfl) (by kernel_rfl) (by kernel_rfl) rfl hS4 (fun _ _ => rfl) ?_
    simp only [Act.put, List.setIfInBounds_toArray, List.set_cons_succ, List.set_cons_zero]
    refine held_take 8 32 _ (.int .i64 (M0 : Int)) rfl rfl (by kernel_rfl) (by kernel_rfl) (by kernel_rfl) rfl hS4 (fun V hV => exec_loadc 3 _ rfl _ _ rfl (load_one 3 (fun _ => by kernel_rfl) V _ _ _ (hV.1 2 _ rfl))) ?_
    simp only [Act.put, List.setIfInBounds_toArray, List.set_cons_succ, List.set_cons_zero]
    refine held_take 9 33 _ (.pointer (some ⟨G, 0, none⟩)) rfl rfl (by kernel_rfl) (by kernel_rfl) (by kernel_rfl) rfl hS4 (fun _ _ => rfl) ?_
    simp only [Act.put, List.setIfInBounds_toArray, List.set_cons_succ, List.set_cons_zero]
    refine held_take 10 34 _ (.pointer (some ⟨G, 0, none⟩)) rfl rfl (by kernel_rfl) (by kernel_rfl) (by kernel_rfl) rfl hS4 (fun _ _ => rfl) ?_
    simp only [Act.put, List.setIfInBounds_toArray, List.set_cons_succ, List.set_cons_zero]
    refine held_take 11 35 _ (.pointer (some ⟨G, 1, none⟩)) rfl rfl (by kernel_rfl) (by kernel_rfl) (by kernel_rfl) rfl hS4 (fun _ _ => rfl) ?_
    simp only [Act.put, List.setIfInBounds_toArray, List.set_cons_succ, List.set_cons_zero]
    refine held_take 12 36 _ (.int .i64 (size : Int)) rfl rfl (by kernel_rfl) (by kernel_rfl) (by kernel_rfl) rfl hS4 (fun V hV => exec_loadc 3 _ rfl _ _ rfl (load_one 3 (fun _ => by kernel_rfl) V _ _ _ hV.2)) ?_
    simp only [Act.put, List.setIfInBounds_toArray, List.set_cons_succ, List.set_cons_zero]
    refine held_take 13 37 _ (.bool true) rfl rfl (by kernel_rfl) (by kernel_rfl) (by kernel_rfl) rfl hS4 (fun V _ => exec_leq7 _ _ _ rfl (M0 : Int) (size : Int) _ rfl rfl HLE.out) ?_
    simp only [Act.put, List.setIfInBounds_toArray, List.set_cons_succ, List.set_cons_zero]
    refine held_take 14 38 _ (.bool true) rfl rfl (by kernel_rfl) (by kernel_rfl) (by kernel_rfl) rfl hS4 (fun _ _ => rfl) ?_
    simp only [Act.put, List.setIfInBounds_toArray, List.set_cons_succ, List.set_cons_zero]
    refine held_take 15 39 _ (.bool true) rfl rfl (by kernel_rfl) (by kernel_rfl) (by kernel_rfl) rfl hS4 (fun _ _ => rfl) ?_
    simp only [Act.put, List.setIfInBounds_toArray, List.set_cons_succ, List.set_cons_zero]
    refine held_take 16 40 _ (headV N0 G0 M0) rfl rfl (by kernel_rfl) (by kernel_rfl) (by kernel_rfl) rfl hS4 (fun V hV => exec_load 93 _ rfl b7 0 rfl [.int .i64 (N0 : Int), .int .i64 (G0 : Int), .int .i64 (M0 : Int)] _ hV.1 Tryz.underlying93 rfl Tryz.info93s) ?_
    simp only [Act.put, List.setIfInBounds_toArray, List.set_cons_succ, List.set_cons_zero]
    refine held_take 18 42 _ (.int .i64 (k : Int)) rfl rfl (by kernel_rfl) (by kernel_rfl) (by kernel_rfl) rfl hS4 (fun _ _ => rfl) ?_
    simp only [Act.put, List.setIfInBounds_toArray, List.set_cons_succ, List.set_cons_zero]
    refine held_all1 17 (by kernel_rfl) (op_call 17 41 _ 85 #[headV N0 G0 M0] rfl rfl rfl (exec_one 85 _ _ rfl _ rfl Tryz.call85) ((hsec_any N0 G0 M0 _).mono ?_))
    rintro e W5 ⟨rfl, hb5⟩
    have hS5 := HS.out W5 (hb4.trans (hb5.mono hb4.size))
    refine ⟨_, rfl, hS5, ?_⟩
    simp only [Act.put, List.setIfInBounds_toArray, List.set_cons_succ, List.set_cons_zero]
    refine held_take 19 43 _ (.bool SKB) rfl rfl (by kernel_rfl) (by kernel_rfl) (by kernel_rfl) rfl hS5 (fun V _ => exec_eql7 _ _ _ rfl ((N0 % 2 : Nat) : Int) (k : Int) _ rfl rfl (fun _ => rfl) HSK.out) ?_
    simp only [Act.put, List.setIfInBounds_toArray, List.set_cons_succ, List.set_cons_zero]
    refine held_take 20 44 _ (.bool SKB) rfl rfl (by kernel_rfl) (by kernel_rfl) (by kernel_rfl) rfl hS5 (fun _ _ => rfl) ?_
    simp only [Act.put, List.setIfInBounds_toArray, List.set_cons_succ, List.set_cons_zero]
    have hT4 : Blk W5 w.heap.size 93 #[.int .i64 0, .int .i64 0, .int .i64 0] := HT.out _ (hb4.trans (hb5.mono hb4.size))
    refine held_all1 21 (by kernel_rfl) (op_row 21 _ rfl rfl rfl 93 _ _ rfl w.heap.size #[.int .i64 (N0 : Int), .int .i64 (G0 : Int), .int .i64 (M0 : Int)] rfl rfl 93 _ hT4 Tryz.info93s rfl (by simp [Value.oneCell']) ?_)
    intro W6 hb6 hg6 hs6
    refine ⟨HS2.out _ W6 hS5 hg6, ?_⟩
    refine held_all1 22 (by kernel_rfl) (op_value 22 5 _ (.bool SKB) W6 rfl rfl rfl rfl ⟨HS2.out _ W6 hS5 hg6, ?_⟩)
    simp only [Act.put, List.setIfInBounds_toArray, List.set_cons_succ, List.set_cons_zero]
    refine wpAnyH_done (by kernel_rfl) ?_ _
    refine NoPanic.normal ?_
    go_wp2
    (try simp only [Exit.inBlock, Exit.then])
    refine bodyPost_ret (results_pair rfl _ _ w.heap.size 93 #[.int .i64 (N0 : Int), .int .i64 (G0 : Int), .int .i64 (M0 : Int)] (0, 0) _ _ rfl rfl hb6 Tryz.underlying93 rfl Tryz.info93s) rfl ?_
    rw [HSB.out]
    exact ⟨rfl, below_grown (HBB.out _ (hb4.trans (hb5.mono hb4.size))) hg6 (HBB.out _ (hb4.trans (hb5.mono hb4.size))).size (fun q hq => by have h2 : w.heap.size = q := Option.some.inj hq; omega)⟩
end Go.Proofs.YtbegphfideopoaaGreat
namespace Go.Proofs.YtbegphfideopoaaGreat
open Go.RowKit

theorem sees_next (s : DS) (k : Nat) (t : Nat × Nat × Nat) : nextH s k t = if seesB (sizeS s) k (s.now.getD k []) = true ∧ t.1 < of4 (s.now.getD k []) then (of4 (s.now.getD k []), of4 ((s.now.getD k []).drop 4), of4 ((s.now.getD k []).drop 8)) else t := by
  unfold nextH
  have key : (t.1 < of4 (s.now.getD k []) ∧ standsB s k (s.now.getD k []) = true) ↔ (seesB (sizeS s) k (s.now.getD k []) = true ∧ t.1 < of4 (s.now.getD k [])) := by
    unfold standsB seesB inB
    simp only [Bool.and_eq_true, decide_eq_true_eq]
    constructor
    · rintro ⟨h1, ⟨⟨⟨⟨h2, h3⟩, h4⟩, h5⟩, h6⟩, h7⟩
      exact ⟨⟨h7, ⟨⟨⟨by omega, h2⟩, h4⟩, h5⟩, h6, h3⟩, h1⟩
    · rintro ⟨⟨h7, ⟨⟨⟨-, h2⟩, h4⟩, h5⟩, h6, h3⟩, h1⟩
      exact ⟨h1, ⟨⟨⟨⟨h2, h3⟩, h4⟩, h5⟩, h6⟩, h7⟩
  by_cases h : t.1 < of4 (s.now.getD k []) ∧ standsB s k (s.now.getD k []) = true
  · rw [if_pos h, if_pos (key.1 h)]
  · rw [if_neg h, if_neg (fun e => h (key.2 e))]
def hcells (t : Nat × Nat × Nat) : Array Value := #[.int .i64 (t.1 : Int), .int .i64 (t.2.1 : Int), .int .i64 (t.2.2 : Int)]
set_option maxRecDepth 100000 in
set_option maxHeartbeats 2000000 in
theorem findHead_any {w : World} {G n gen len : Nat} {bg bk : Bool} {tv : Value} {L : PLay} {C : Nat → Prop} {s : DS} (h : LogB w G L.g (sizeS s) n gen len bg bk tv) (hD : OD w L C s) (h2 : 2 ≤ s.now.length) (hdn : s.down = false) :
    Calls Tryz.prog 47 #[.pointer (some ⟨G, 0, none⟩)] w fun e w' => e = .returned (headV (thereS s).1 (thereS s).2.1 (thereS s).2.2) ∧ Below w.heap.size w w' := by
  have hGl : G < w.heap.size := Blk.lt h
  have hB0 := ((Below.refl w.heap.size w).alloc (Nat.le_refl _) (.cells #[.int .i64 0, .int .i64 0, .int .i64 0] 93)).alloc (by simp) (.cells #[.int .i64 0, .int .i64 0, .int .i64 0] 93)
  have hT2 : Blk ((w.alloc (.cells #[.int .i64 0, .int .i64 0, .int .i64 0] 93)).alloc (.cells #[.int .i64 0, .int .i64 0, .int .i64 0] 93)) w.heap.size 93 #[.int .i64 0, .int .i64 0, .int .i64 0] := (Blk.new _ _ _).alloc _
  have hT3 : Blk ((w.alloc (.cells #[.int .i64 0, .int .i64 0, .int .i64 0] 93)).alloc (.cells #[.int .i64 0, .int .i64 0, .int .i64 0] 93)) (w.heap.size + 1) 93 (hcells (thereTo s 0)) := Blk.newAt _ _ _ _ (by simp)
  have HRH : Hid (∀ (W : World) (k : Nat), Below w.heap.size w W → k < 2 → Calls Tryz.prog 75 #[.pointer (some ⟨G, 0, none⟩), .int .i64 (k : Int)] W fun e w' => e = .returned (.tuple #[headV (of4 (s.now.getD k [])) (of4 ((s.now.getD k []).drop 4)) (of4 ((s.now.getD k []).drop 8)), .bool (seesB (sizeS s) k (s.now.getD k []))]) ∧ Below W.heap.size W w') := fun W k hW hk => readHead_any (Blk.below h hW hGl) (hD.after hW) k (by omega) hdn
  have HNX : Hid (∀ k, thereTo s (k + 1) = if seesB (sizeS s) k (s.now.getD k []) = true ∧ (thereTo s k).1 < of4 (s.now.getD k []) then (of4 (s.now.getD k []), of4 ((s.now.getD k []).drop 4), of4 ((s.now.getD k []).drop 8)) else thereTo s k) := fun k => sees_next s k (thereTo s k)
  have HTH : Hid (thereS s = thereTo s 2) := rfl
  generalize thereS s = TS at *
  clear h hD h2 hdn
  go_enter Tryz.func47, Tryz.ntmps47
  go_wp2_with fail
  go_loopw [7] (fun i wr => ∃ K : Nat, i = .int .i64 (K : Int) ∧ K ≤ 2 ∧ Blk wr w.heap.size 93 #[.int .i64 0, .int .i64 0, .int .i64 0] ∧ Blk wr (w.heap.size + 1) 93 (hcells (thereTo s K)) ∧ Below w.heap.size w wr) (fun i _ => 2 - (intOf i).toNat)
  case atStart => exact ⟨0, rfl, by omega, hT2, hT3, hB0⟩
  case round =>
    obtain ⟨K, rfl, hK, hA, hF, hB⟩ := hrel
    clear hT2 hT3 hB0
    by_cases hk : K < 2
    · have i1 : (K : Int) < 2 := by omega
      have HR := HRH.out wr K hB hk
      have HX : Hid _ := HNX.out K
      clear HNX HRH
      obtain ⟨T, hT⟩ : ∃ T, T = thereTo s K := ⟨_, rfl⟩
      obtain ⟨T', hT'⟩ : ∃ T', T' = thereTo s (K + 1) := ⟨_, rfl⟩
      have HT' : Hid (thereTo s (K + 1) = T') := hT'.symm
      rw [← hT] at HX hF
      have HX2 : Hid (T' = if seesB (sizeS s) K (s.now.getD K []) = true ∧ T.1 < of4 (s.now.getD K []) then (of4 (s.now.getD K []), of4 ((s.now.getD K []).drop 4), of4 ((s.now.getD K []).drop 8)) else T) := by show _ = _; rw [hT']; exact HX.out
      clear HX hT hT'
      generalize seesB (sizeS s) K (s.now.getD K []) = SB at *
      generalize of4 (s.now.getD K []) = N0 at *
      generalize of4 ((s.now.getD K []).drop 4) = G0 at *
      generalize of4 ((s.now.getD K []).drop 8) = M0 at *
      obtain ⟨t1, t2, t3⟩ := T
      unfold hcells at hF
      dsimp only at hF HX2
      go_wp2_with fail
      refine HR.mono ?_
      rintro e W1 ⟨rfl, hb1⟩
      have hB1 : Below w.heap.size w W1 := hB.trans (hb1.mono hB.size)
      have hA1 := hA.below hb1 hA.lt
      have hF1 := hF.below hb1 hF.lt
      clear HR hA hF hB
      have hs1 : w.heap.size + 1 < W1.heap.size := hF1.lt
      unfold headV
      have c0 := hF1.cell (j := 0) rfl
      have hnew : Blk (W1.alloc (.cells #[.int .i64 (N0 : Int), .int .i64 (G0 : Int), .int .i64 (M0 : Int)] 93)) W1.heap.size 93 #[.int .i64 (N0 : Int), .int .i64 (G0 : Int), .int .i64 (M0 : Int)] := Blk.new _ _ _
      have hF2 := hF1.alloc (.cells #[.int .i64 (N0 : Int), .int .i64 (G0 : Int), .int .i64 (M0 : Int)] 93)
      have hA2 := hA1.alloc (.cells #[.int .i64 (N0 : Int), .int .i64 (G0 : Int), .int .i64 (M0 : Int)] 93)
      have hB2 := hB1.alloc hB1.size (.cells #[.int .i64 (N0 : Int), .int .i64 (G0 : Int), .int .i64 (M0 : Int)] 93)
      have hne : W1.heap.size ≠ w.heap.size + 1 := by omega
      have hlt : w.heap.size + 1 < W1.heap.size := hs1
      have hall : (#[Value.int .i64 (N0 : Int), .int .i64 (G0 : Int), .int .i64 (M0 : Int)] : Array Value).all (·.oneCell') = true := by simp [Value.oneCell']
      cases SB with
      | false =>
        have HE : Hid (T' = (t1, t2, t3)) := by show _ = _; rw [HX2.out, if_neg (fun h => by cases h.1)]
        clear HX2
        go_wp2_with fail
        go_roundw
        case rel => exact ⟨K + 1, by go_num, hk, hA2, by rw [HT'.out, HE.out]; exact hF2, hB2⟩
        case measure => simp [intOf]; omega
      | true =>
        by_cases hlt2 : t1 < N0
        · have j1 : (t1 : Int) < (N0 : Int) := by omega
          have HE : Hid (T' = (N0, G0, M0)) := by show _ = _; rw [HX2.out, if_pos ⟨rfl, hlt2⟩]
          clear HX2 hlt2
          have d1 := hF1.cell (j := 1) rfl
          have d2 := hF1.cell (j := 2) rfl
          have f0 := hF1.frozen 0
          have f1 := hF1.frozen 1
          have f2 := hF1.frozen 2
          have HF3 : Hid (∀ V : World, Blk V (w.heap.size + 1) 93 #[.int .i64 (t1 : Int), .int .i64 (t2 : Int), .int .i64 (t3 : Int)] → Blk (((V.setCell ⟨w.heap.size + 1, 0, none⟩ (.int .i64 (N0 : Int))).setCell ⟨w.heap.size + 1, 1, none⟩ (.int .i64 (G0 : Int))).setCell ⟨w.heap.size + 1, 2, none⟩ (.int .i64 (M0 : Int))) (w.heap.size + 1) 93 #[.int .i64 (N0 : Int), .int .i64 (G0 : Int), .int .i64 (M0 : Int)]) := fun V h => (((h.set 0 _).set 1 _).set 2 _).of_eq rfl
          have HA3 : Hid (∀ V : World, Blk V w.heap.size 93 #[.int .i64 0, .int .i64 0, .int .i64 0] → Blk (((V.setCell ⟨w.heap.size + 1, 0, none⟩ (.int .i64 (N0 : Int))).setCell ⟨w.heap.size + 1, 1, none⟩ (.int .i64 (G0 : Int))).setCell ⟨w.heap.size + 1, 2, none⟩ (.int .i64 (M0 : Int))) w.heap.size 93 #[.int .i64 0, .int .i64 0, .int .i64 0]) := fun V h => ((h.setOther _ _ (by show w.heap.size ≠ w.heap.size + 1; omega)).setOther _ _ (by show w.heap.size ≠ w.heap.size + 1; omega)).setOther _ _ (by show w.heap.size ≠ w.heap.size + 1; omega)
          have HB3 : Hid (∀ V : World, Below w.heap.size w V → Below w.heap.size w (((V.setCell ⟨w.heap.size + 1, 0, none⟩ (.int .i64 (N0 : Int))).setCell ⟨w.heap.size + 1, 1, none⟩ (.int .i64 (G0 : Int))).setCell ⟨w.heap.size + 1, 2, none⟩ (.int .i64 (M0 : Int)))) := fun V h => ((h.setCell (p := ⟨w.heap.size + 1, 0, none⟩) (by show _ ≤ w.heap.size + 1; omega) _).setCell (p := ⟨w.heap.size + 1, 1, none⟩) (by show _ ≤ w.heap.size + 1; omega) _).setCell (p := ⟨w.heap.size + 1, 2, none⟩) (by show _ ≤ w.heap.size + 1; omega) _
          go_wp2_with fail
          go_roundw
          case rel => exact ⟨K + 1, by go_num, hk, (HA3.out _ hA1).alloc _, by rw [HT'.out, HE.out]; exact (HF3.out _ hF1).alloc _, (HB3.out _ hB1).alloc (HB3.out _ hB1).size _⟩
          case measure => simp [intOf]; omega
        · have j1 : ¬ (t1 : Int) < (N0 : Int) := by omega
          have HE : Hid (T' = (t1, t2, t3)) := by show _ = _; rw [HX2.out, if_neg (fun h => hlt2 h.2)]
          clear HX2 hlt2
          go_wp2_with fail
          go_roundw
          case rel => exact ⟨K + 1, by go_num, hk, hA2, by rw [HT'.out, HE.out]; exact hF2, hB2⟩
          case measure => simp [intOf]; omega
    · have i1 : ¬ (K : Int) < 2 := by omega
      obtain rfl : K = 2 := by omega
      clear HNX HRH
      rw [← HTH.out] at hF
      obtain ⟨t1, t2, t3⟩ := TS
      unfold hcells at hF
      dsimp only at hF
      have d0 := hF.cell (j := 0) rfl
      have d1 := hF.cell (j := 1) rfl
      have d2 := hF.cell (j := 2) rfl
      have e0 := hA.cell (j := 0) rfl
      have e1 := hA.cell (j := 1) rfl
      have e2 := hA.cell (j := 2) rfl
      have f0 := hA.frozen 0
      have f1 := hA.frozen 1
      have f2 := hA.frozen 2
      have hb3 : Blk (((wr.setCell ⟨w.heap.size, 0, none⟩ (.int .i64 (t1 : Int))).setCell ⟨w.heap.size, 1, none⟩ (.int .i64 (t2 : Int))).setCell ⟨w.heap.size, 2, none⟩ (.int .i64 (t3 : Int))) w.heap.size 93 #[.int .i64 (t1 : Int), .int .i64 (t2 : Int), .int .i64 (t3 : Int)] := (((hA.set 0 _).set 1 _).set 2 _).of_eq rfl
      have hB3 : Below w.heap.size w (((wr.setCell ⟨w.heap.size, 0, none⟩ (.int .i64 (t1 : Int))).setCell ⟨w.heap.size, 1, none⟩ (.int .i64 (t2 : Int))).setCell ⟨w.heap.size, 2, none⟩ (.int .i64 (t3 : Int))) := ((hB.setCell (p := ⟨w.heap.size, 0, none⟩) (Nat.le_refl _) _).setCell (p := ⟨w.heap.size, 1, none⟩) (Nat.le_refl _) _).setCell (p := ⟨w.heap.size, 2, none⟩) (Nat.le_refl _) _
      go_wp2_with fail
      (try simp only [Exit.inBlock, Exit.then])
      refine bodyPost_ret (results_one rfl _ _ w.heap.size 93 #[.int .i64 (t1 : Int), .int .i64 (t2 : Int), .int .i64 (t3 : Int)] (0, 0) _ rfl hb3 Tryz.underlying93 rfl Tryz.info93s) rfl ?_
      exact ⟨rfl, hB3⟩
end Go.Proofs.YtbegphfideopoaaGreat
namespace Go.Proofs.YtbegphfideopoaaGreat
open Go.RowKit

set_option maxRecDepth 100000 in
set_option maxHeartbeats 2000000 in
theorem readBank_any {w : World} {G n gen len : Nat} {bg bk : Bool} {tv : Value} {L : PLay} {C : Nat → Prop} {s : DS} (h : LogB w G L.g (sizeS s) n gen len bg bk tv) (hD : OD w L C s) (hdn : s.down = false) (hl : len ≤ sizeS s) :
    Calls Tryz.prog 77 #[.pointer (some ⟨G, 0, none⟩)] w fun e w' => ∃ v, e = .returned v ∧ Seg w' v ((bankS s (gen % 2)).take len) ∧ (∀ q, v.ownBlock = some q → w.heap.size ≤ q) ∧ Below w.heap.size w w' := by
  have hGl : G < w.heap.size := Blk.lt h
  have ok : s.ok L.n := hD.d.ok
  have hn4 : L.n ≤ 4096 := hD.d.lay.max
  have hsz := size_lt ok hn4
  obtain ⟨i0, hi, hz0, hz1, hz2⟩ := info_parts Tryz.info5
  obtain ⟨w1, hmk, hO0, hg1⟩ : ∃ w', (Instr.makeSlice 34 (.int .i64 0) (.int .i64 (sizeS s : Int))).run Tryz.prog w = .ok (.slice (some ⟨w.heap.size, 0, none⟩) 0 (sizeS s)) w' ∧ Own w' w.heap.size (.slice (some ⟨w.heap.size, 0, none⟩) 0 (sizeS s)) [] ∧ w.grownBy w' none := run_make_own (P := Tryz.prog) w w.heap.size 34 5 i0 (.int .u8 0) 1 Tryz.underlying34 hi hz0 hz1 .i64 .i64 (sizeS s) (by rw [hz2]; omega) (by unfold maxLen; omega) (Nat.le_refl _)
  clear hi hz0 hz1 hz2
  have hB1 : Below w.heap.size w w1 := below_grown (Below.refl _ w) hg1 (Nat.le_refl _) (fun q hq => by cases hq)
  have HSE : Hid (∀ (W : World) (i : Nat), Below w.heap.size w W → i ≤ 1000000 → Calls Tryz.prog 82 #[.pointer (some ⟨G, 0, none⟩), .int .i64 (gen : Int), .int .i64 (i : Int)] W fun e w' => e = .returned (.int .i64 ((2 + gen % 2 * (sizeS s / 128) + i : Nat) : Int)) ∧ w' = W) := fun W i hW hi => sector_any (Blk.below h hW hGl) (by omega) gen i hi
  have HRS : Hid (∀ (W : World) (k : Nat), Below w.heap.size w W → k < s.now.length → Calls Tryz.prog 104 #[.pointer (some ⟨G, 0, none⟩), .int .i64 (k : Int)] W fun e w' => ∃ v, e = .returned v ∧ Own w' W.heap.size v (s.now.getD k []) ∧ Below W.heap.size W w') := fun W k hW hk => by
    have := readSec_any (Blk.below h hW hGl) (hD.after hW) (k : Int)
    rw [readS_on hdn hk] at this
    exact this
  have hh : sizeS s / 128 = halfS s := by unfold sizeS; omega
  rw [hh] at HSE
  have c4 : ∀ W : World, Below w.heap.size w W → W.cell? ⟨G, 4, none⟩ = some (.int .i64 (len : Int)) := fun W hW => (Blk.below h hW hGl).cell (j := 4) rfl
  have c3 : ∀ W : World, Below w.heap.size w W → W.cell? ⟨G, 3, none⟩ = some (.int .i64 (gen : Int)) := fun W hW => (Blk.below h hW hGl).cell (j := 3) rfl
  have c1 : w.cell? ⟨G, 1, none⟩ = some (.int .i64 (sizeS s : Int)) := h.cell (j := 1) rfl
  have HC : Hid ((∀ W : World, Below w.heap.size w W → W.cell? ⟨G, 4, none⟩ = some (.int .i64 (len : Int))) ∧ ∀ W : World, Below w.heap.size w W → W.cell? ⟨G, 3, none⟩ = some (.int .i64 (gen : Int))) := ⟨c4, c3⟩
  clear c4 c3
  have HBL : Hid (∀ i, i ≤ halfS s → (bankTo s (gen % 2) i).length = i * 128) := bankTo_len ok (Nat.mod_lt _ (by decide))
  have HIN : Hid (∀ i, i < halfS s → 2 + gen % 2 * halfS s + i < s.now.length) := fun i hi => by have := half_in ok (Nat.mod_lt gen (by decide : 0 < 2)) hi; rw [ok.now]; exact this
  have HS2 : Hid (sizeS s = halfS s * 128) := rfl
  have HBS : Hid (bankS s (gen % 2) = bankTo s (gen % 2) (halfS s)) := rfl
  have HST : Hid (∀ i, bankTo s (gen % 2) (i + 1) = bankTo s (gen % 2) i ++ s.now.getD (2 + gen % 2 * halfS s + i) []) := fun i => rfl
  have HLN : Hid (∀ i, i < halfS s → (s.now.getD (2 + gen % 2 * halfS s + i) []).length = 128) := fun i hi => getD_len ok.nows (HIN.out i hi)
  have HTK : Hid (∀ i, i ≤ halfS s → len ≤ i * 128 → (bankTo s (gen % 2) (halfS s)).take len = (bankTo s (gen % 2) i).take len) := fun i hi hli => by
    have key : ∀ d, i + d ≤ halfS s → (bankTo s (gen % 2) (i + d)).take len = (bankTo s (gen % 2) i).take len := fun d => by
      induction d with
      | zero => intro _; rfl
      | succ d ih =>
        intro hd
        show (bankTo s (gen % 2) (i + d) ++ _).take len = _
        rw [List.take_append_of_le_length (by rw [HBL.out _ (by omega)]; omega)]
        exact ih (by omega)
    have := key (halfS s - i) (by omega)
    rwa [show i + (halfS s - i) = halfS s by omega] at this
  rw [HBS.out]
  have hhm : halfS s ≤ 2047 := by unfold sizeS at hsz; omega
  clear h hD ok hh
  generalize sizeS s = SZ at *
  generalize halfS s = H at *
  go_enter Tryz.func77, Tryz.ntmps77
  go_wp2_with fail
  go_loopw [3, 4] (fun bv i wr => ∃ I : Nat, i = .int .i64 (I : Int) ∧ I ≤ H ∧ Own wr w.heap.size bv (bankTo s (gen % 2) I) ∧ Below w.heap.size w wr) (fun _ i _ => H - (intOf i).toNat)
  case atStart => exact ⟨0, rfl, Nat.zero_le _, hO0, hB1⟩
  case round =>
    obtain ⟨I, rfl, hI, hO, hB⟩ := hrel
    clear hO0 hB1
    have d4 := HC.out.1 wr hB
    have hbl := HBL.out I hI
    obtain ⟨ab, cb, rfl⟩ := Seg.shapeD hO.seg
    by_cases hlt : I * 128 < len
    · have i1 : (((bankTo s (gen % 2) I).length : Nat) : Int) < (len : Int) := by rw [hbl]; omega
      have hIH : I < H := by have := HS2.out; omega
      have d3 := HC.out.2 wr hB
      have HS := HSE.out wr I hB (by omega)
      have HR := HRS.out wr (2 + gen % 2 * H + I) hB (HIN.out I hIH)
      have hst := HST.out I
      have HL0 : Hid ((bankTo s (gen % 2) I).length = I * 128 ∧ (s.now.getD (2 + gen % 2 * H + I) []).length = 128) := ⟨hbl, HLN.out I hIH⟩
      clear hbl
      clear HSE HRS HC HBL HIN HLN HST HTK HBS
      generalize 2 + gen % 2 * H + I = KK at *
      generalize s.now.getD KK [] = ROW at *
      obtain ⟨BB, hBB⟩ : ∃ BB, BB = bankTo s (gen % 2) I := ⟨_, rfl⟩
      rw [← hBB] at hO i1 hst HL0 ⊢
      have HN : Hid (bankTo s (gen % 2) (I + 1) = BB ++ ROW) := hst
      clear hBB hst
      go_wp2_with fail
      refine HS.mono ?_
      rintro e w2 ⟨rfl, rfl⟩
      clear HS
      go_wp2_with fail
      refine HR.mono ?_
      rintro e w3 ⟨v3, rfl, ho3, hb3⟩
      clear HR
      have hO3 := hO.below hb3 (Nat.le_refl _)
      have hB3 : Below w.heap.size w w3 := hB.trans (hb3.mono hB.size)
      go_wp2_with (at_builtin; refine app_own w3 rfl (.tmp 20) (.tmp 30) rfl w.heap.size _ BB rfl hO3 v3 ROW rfl ho3.seg (by have := HL0.out; omega) hB3.size ?_; intro v4 w4 ho4 hg4 hv4)
      go_roundw
      case rel => exact ⟨I + 1, by go_num, hIH, by rw [HN.out]; exact ho4, below_grown hB3 hg4 hB3.size (fun q hq => (hO3.blocks q hq).1)⟩
      case measure => simp [intOf]; omega
    · have i1 : ¬ (((bankTo s (gen % 2) I).length : Nat) : Int) < (len : Int) := by rw [hbl]; omega
      have htk := hO.seg.takesD len (by omega)
      have l1 := slice_toD ab (bankTo s (gen % 2) I).length cb len htk.2
      have hblk : ∀ q, (Value.slice ab len cb).ownBlock = some q → w.heap.size ≤ q := fun q hq => (hO.blocks q (by cases ab with | none => simp [Value.ownBlock] at hq | some a => exact hq)).1
      clear hbl
      have HTT : Hid _ := HTK.out I hI (by omega)
      clear HSE HRS HC HBL HIN HLN HST HTK HBS
      go_wp2_with fail
      go_ret
      rw [HTT.out]
      exact ⟨_, rfl, htk.1, hblk, hB⟩
end Go.Proofs.YtbegphfideopoaaGreat
