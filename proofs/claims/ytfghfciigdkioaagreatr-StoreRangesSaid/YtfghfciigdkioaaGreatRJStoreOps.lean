/-
  What is proved here: changes as they lie in memory; whether they may be.
  Conditions: those that each fact names.
-/
import Derived.Test.YtfghfciigdkioaaGreatRJPackPure
import Derived.Test.YtfghfciigdkioaaGreatRJShaPure
import Derived.Test.YtfghfciigdkioaaGreatRJPWalLog
import Derived.Test.YtfghfciigdkioaaGreatRJPWalCheck
namespace Go.Proofs.YtfghfciigdkioaaGreatR
open Go.RowKit

/-- An op lies in these three cells. -/
def OpAt (w : World) (b off : Nat) (o : OpB) : Prop := ∃ ka kc va vc, w.cell? ⟨b, off, none⟩ = some (.slice ka o.key.length kc) ∧ w.cell? ⟨b, off + 1, none⟩ = some (.bool o.del) ∧ w.cell? ⟨b, off + 2, none⟩ = some (.slice va o.val.length vc) ∧
  Seg w (.slice ka o.key.length kc) o.key ∧ Seg w (.slice va o.val.length vc) o.val ∧ o.key.length ≤ maxLen ∧ o.val.length ≤ maxLen
/-- Ops in a slice; changes in a slice. -/
def OpsV (w : World) (v : Value) (ops : List OpB) : Prop := ∃ ao c, v = .slice ao ops.length c ∧ ops.length ≤ maxLen ∧ ∀ (i : Nat) o, ops[i]? = some o → ∃ b off, ao = some ⟨b, off, none⟩ ∧ b < w.heap.size ∧ OpAt w b (off + i * 3) o
def ChgsV (w : World) (v : Value) (cs : List (List OpB)) : Prop := ∃ ao c, v = .slice ao cs.length c ∧ cs.length ≤ maxLen ∧ ∀ (i : Nat) ops, cs[i]? = some ops → ∃ b off, ao = some ⟨b, off, none⟩ ∧ b < w.heap.size ∧ ∃ u, w.cell? ⟨b, off + i, none⟩ = some u ∧ OpsV w u ops
theorem OpAt.below {w w' : World} {B b off : Nat} {o : OpB} (h : OpAt w b off o) (hb : Below B w w') (hB : w.heap.size ≤ B) (hl : b < w.heap.size) : OpAt w' b off o := by
  obtain ⟨ka, kc, va, vc, h1, h2, h3, h4, h5, h6⟩ := h
  have hc : ∀ q, w'.cell? ⟨b, q, none⟩ = w.cell? ⟨b, q, none⟩ := fun q => hb.cell (p := ⟨b, q, none⟩) (Nat.lt_of_lt_of_le hl hB)
  exact ⟨ka, kc, va, vc, (hc _).trans h1, (hc _).trans h2, (hc _).trans h3, h4.below hb hB, h5.below hb hB, h6⟩
theorem OpsV.below {w w' : World} {B : Nat} {v : Value} {ops : List OpB} (h : OpsV w v ops) (hb : Below B w w') (hB : w.heap.size ≤ B) : OpsV w' v ops := by
  obtain ⟨ao, c, h1, h2, h3⟩ := h
  refine ⟨ao, c, h1, h2, fun i o hi => ?_⟩
  obtain ⟨b, off, e, hl, h4⟩ := h3 i o hi
  exact ⟨b, off, e, Nat.lt_of_lt_of_le hl hb.size, h4.below hb hB hl⟩
theorem ChgsV.below {w w' : World} {B : Nat} {v : Value} {cs : List (List OpB)} (h : ChgsV w v cs) (hb : Below B w w') (hB : w.heap.size ≤ B) : ChgsV w' v cs := by
  obtain ⟨ao, c, h1, h2, h3⟩ := h
  refine ⟨ao, c, h1, h2, fun i o hi => ?_⟩
  obtain ⟨b, off, e, hl, u, h4, h5⟩ := h3 i o hi
  exact ⟨b, off, e, Nat.lt_of_lt_of_le hl hb.size, u, (hb.cell (p := ⟨b, off + i, none⟩) (Nat.lt_of_lt_of_le hl hB)).trans h4, h5.below hb hB⟩
/-- An op's value. -/
def opV (ka : Option Addr) (kn kc : Nat) (d : Bool) (va : Option Addr) (vn vc : Nat) : Value := .agg #[.slice ka kn kc, .bool d, .slice va vn vc]

set_option maxRecDepth 100000 in
set_option maxHeartbeats 2000000 in
theorem opMayBe_any (o : OpB) (ka va : Option Addr) (kc vc : Nat) (w : World) :
    Calls Tryz.prog 60 #[opV ka o.key.length kc o.del va o.val.length vc] w fun e w' => e = .returned (.bool (opR o)) ∧ Below w.heap.size w w' := by
  unfold opV
  obtain ⟨R, hR0⟩ : ∃ R, R = opR o := ⟨_, rfl⟩
  rw [← hR0]
  have hR := hR0
  unfold opR at hR
  obtain ⟨K, hK⟩ : ∃ K, K = o.key.length := ⟨_, rfl⟩
  obtain ⟨V, hV⟩ : ∃ V, V = o.val.length := ⟨_, rfl⟩
  obtain ⟨d, hd⟩ : ∃ d, d = o.del := ⟨_, rfl⟩
  rw [← hK, ← hV, ← hd] at hR
  rw [← hK, ← hV, ← hd]
  clear hK hV hd
  have hb := fun x => (Below.refl w.heap.size w).alloc (Nat.le_refl _) x
  cases d with
  | false =>
    by_cases h1 : 1 ≤ K
    · have j1 : (1 : Int) ≤ (K : Int) := by omega
      by_cases h2 : K ≤ 64
      · have j2 : (K : Int) ≤ 64 := by omega
        by_cases h3 : V ≤ 1024
        · have j3 : (V : Int) ≤ 1024 := by omega
          clear hR0
          have HR : Hid (R = true) := by show _ = _; rw [hR]; simp [h1, h2, h3]
          clear hR
          go_enter Tryz.func60, Tryz.ntmps60
          go_wp2
          go_ret
          rw [HR.out]
          exact ⟨rfl, hb _⟩
        · have j3 : ¬ (V : Int) ≤ 1024 := by omega
          clear hR0
          have HR : Hid (R = false) := by show _ = _; rw [hR]; simp [h1, h2, h3]
          clear hR
          go_enter Tryz.func60, Tryz.ntmps60
          go_wp2
          go_ret
          rw [HR.out]
          exact ⟨rfl, hb _⟩
      · have j2 : ¬ (K : Int) ≤ 64 := by omega
        clear hR0
        have HR : Hid (R = false) := by show _ = _; rw [hR]; simp [h1, h2]
        clear hR
        go_enter Tryz.func60, Tryz.ntmps60
        go_wp2
        go_ret
        rw [HR.out]
        exact ⟨rfl, hb _⟩
    · have j1 : ¬ (1 : Int) ≤ (K : Int) := by omega
      clear hR0
      have HR : Hid (R = false) := by show _ = _; rw [hR]; simp [h1]
      clear hR
      go_enter Tryz.func60, Tryz.ntmps60
      go_wp2
      go_ret
      rw [HR.out]
      exact ⟨rfl, hb _⟩
  | true =>
    by_cases h0 : 0 < V
    · have j0 : (0 : Int) < (V : Int) := by omega
      clear hR0
      have HR : Hid (R = false) := by show _ = _; rw [hR]; simp [h0]
      clear hR
      go_enter Tryz.func60, Tryz.ntmps60
      go_wp2
      go_ret
      rw [HR.out]
      exact ⟨rfl, hb _⟩
    · have j0 : ¬ (0 : Int) < (V : Int) := by omega
      by_cases h1 : 1 ≤ K
      · have j1 : (1 : Int) ≤ (K : Int) := by omega
        by_cases h2 : K ≤ 64
        · have j2 : (K : Int) ≤ 64 := by omega
          by_cases h3 : V ≤ 1024
          · have j3 : (V : Int) ≤ 1024 := by omega
            clear hR0
            have HR : Hid (R = true) := by show _ = _; rw [hR]; simp [h0, h1, h2, h3]
            clear hR
            go_enter Tryz.func60, Tryz.ntmps60
            go_wp2
            go_ret
            rw [HR.out]
            exact ⟨rfl, hb _⟩
          · have j3 : ¬ (V : Int) ≤ 1024 := by omega
            omega
        · have j2 : ¬ (K : Int) ≤ 64 := by omega
          clear hR0
          have HR : Hid (R = false) := by show _ = _; rw [hR]; simp [h0, h1, h2]
          clear hR
          go_enter Tryz.func60, Tryz.ntmps60
          go_wp2
          go_ret
          rw [HR.out]
          exact ⟨rfl, hb _⟩
      · have j1 : ¬ (1 : Int) ≤ (K : Int) := by omega
        clear hR0
        have HR : Hid (R = false) := by show _ = _; rw [hR]; simp [h0, h1]
        clear hR
        go_enter Tryz.func60, Tryz.ntmps60
        go_wp2
        go_ret
        rw [HR.out]
        exact ⟨rfl, hb _⟩
/-- mayNotBe. -/
theorem index_ops (b off len c : Nat) (I : Nat) (h : I < len) (w : World) : (Instr.indexAt 40 (.slice (some ⟨b, off, none⟩) len c) (.int .i64 (I : Int))).run Tryz.prog w = .ok (.pointer (some ⟨b, off + I * 3, none⟩)) w := by
  have hi : (0 : Int) ≤ (I : Int) ∧ (I : Int) < (len : Int) := by omega
  simp [Instr.indexAt, asIntOf, run_underlying Tryz.underlying40, hi, Addr.add_mid]
  first | rfl | (intro h'; omega)
set_option maxRecDepth 100000 in
set_option maxHeartbeats 2000000 in
theorem mayNotBe_any (v : Value) (ops : List OpB) (w : World) (h : OpsV w v ops) :
    Calls Tryz.prog 31 #[v] w fun e w' => e = .returned (.bool (!chgR ops)) ∧ Below w.heap.size w w' := by
  obtain ⟨ao, c, rfl, hm, hc⟩ := h
  unfold maxLen at hm
  obtain ⟨R, hR⟩ : ∃ R, R = !chgR ops := ⟨_, rfl⟩
  rw [← hR]
  have HR : Hid (R = !chgR ops) := hR
  clear hR
  go_enter Tryz.func31, Tryz.ntmps31
  go_wp2_with fail
  go_loopw [7] (fun i wr => ∃ I : Nat, i = .int .i64 (I : Int) ∧ I ≤ ops.length ∧ (ops.take I).all opR = true ∧ Below w.heap.size w wr) (fun i _ => ops.length - (intOf i).toNat)
  case atStart => exact ⟨0, rfl, Nat.zero_le _, rfl, Below.refl _ _⟩
  case round =>
    obtain ⟨I, rfl, hI, hT, hB⟩ := hrel
    by_cases hlt : I < ops.length
    · have i1 : (I : Int) < (ops.length : Int) := by omega
      have hg : ops[I]? = some ops[I] := List.getElem?_eq_getElem hlt
      obtain ⟨o, ho⟩ : ∃ o, ops[I] = o := ⟨_, rfl⟩
      rw [ho] at hg
      clear ho
      obtain ⟨b, off, rfl, hl, ka, kc, va, vc, c0, c1, c2, -⟩ := hc I o hg
      have d0 : wr.cell? ⟨b, off + I * 3, none⟩ = _ := (hB.cell (p := ⟨b, off + I * 3, none⟩) hl).trans c0
      have d1 : wr.cell? ⟨b, off + I * 3 + 1, none⟩ = _ := (hB.cell (p := ⟨b, off + I * 3 + 1, none⟩) hl).trans c1
      have d2 : wr.cell? ⟨b, off + I * 3 + 2, none⟩ = _ := (hB.cell (p := ⟨b, off + I * 3 + 2, none⟩) hl).trans c2
      have HG : Hid (ops[I]? = some o) := hg
      have HT : Hid ((ops.take I).all opR = true) := hT
      clear c0 c1 c2 hg hT hc
      have hix := index_ops b off ops.length c I hlt
      go_wp2_with fail
      refine (opMayBe_any o ka va kc vc _).mono ?_
      rintro e w1 ⟨rfl, hb1⟩
      have hB1 := blift (hB.alloc hB.size _) hb1 (Nat.le_trans hB.size (by simp))
      cases hop : opR o with
      | false =>
        have HF : Hid (chgR ops = false) := by
          show _ = _
          unfold chgR
          rw [show ops.all opR = false from List.all_eq_false.2 ⟨o, List.mem_of_getElem? HG.out, by rw [hop]; decide⟩]
          rfl
        clear hop
        go_wp2_with fail
        go_ret
        rw [HR.out, HF.out]
        exact ⟨rfl, hB1⟩
      | true =>
        have HT2 : Hid ((ops.take (I + 1)).all opR = true) := by
          show _ = _
          rw [List.take_add_one, HG.out, List.all_append, HT.out]
          simp [hop]
        clear hop
        go_wp2_with fail
        go_roundw
        case rel => exact ⟨I + 1, by go_num, hlt, HT2.out, hB1⟩
        case measure => simp [intOf]; omega
    · have i1 : ¬ (I : Int) < (ops.length : Int) := by omega
      obtain rfl : I = ops.length := by omega
      rw [List.take_length] at hT
      have HT : Hid (R = !(decide (1 ≤ ops.length) && decide (ops.length ≤ 32))) := by
        show _ = _
        rw [HR.out]
        unfold chgR
        rw [hT, Bool.true_and]
      clear hT HR hc
      generalize ops.length = M at *
      by_cases h1 : M < 1
      · have j1 : (M : Int) < 1 := by omega
        have HZ : Hid (R = true) := by show _ = _; rw [HT.out]; simp; omega
        clear h1
        go_wp2_with fail
        go_ret
        rw [HZ.out]
        exact ⟨rfl, hB⟩
      · have j1 : ¬ (M : Int) < 1 := by omega
        by_cases h2 : 32 < M
        · have j2 : (32 : Int) < (M : Int) := by omega
          have HZ : Hid (R = true) := by show _ = _; rw [HT.out]; simp; omega
          clear h1 h2
          go_wp2_with fail
          go_ret
          rw [HZ.out]
          exact ⟨rfl, hB⟩
        · have j2 : ¬ (32 : Int) < (M : Int) := by omega
          have HZ : Hid (R = false) := by show _ = _; rw [HT.out]; simp; omega
          clear h1 h2
          go_wp2_with fail
          go_ret
          rw [HZ.out]
          exact ⟨rfl, hB⟩
/-! ### whether one of them is -/
theorem index_chgs (b off len c : Nat) (I : Nat) (h : I < len) (w : World) : (Instr.indexAt 33 (.slice (some ⟨b, off, none⟩) len c) (.int .i64 (I : Int))).run Tryz.prog w = .ok (.pointer (some ⟨b, off + I, none⟩)) w := by
  have hi : (0 : Int) ≤ (I : Int) ∧ (I : Int) < (len : Int) := by omega
  simp [Instr.indexAt, asIntOf, run_underlying Tryz.underlying33, hi, Addr.add_mid]
  first | rfl | (intro h'; omega)
set_option maxRecDepth 100000 in
set_option maxHeartbeats 2000000 in
theorem indexChgs_any (v : Value) (cs : List (List OpB)) (w : World) (h : ChgsV w v cs) :
    Calls Tryz.prog 59 #[v, .func (.func 31) #[] #[]] w fun e w' => ∃ z : Int, e = .returned (.int .i64 z) ∧ decide (0 ≤ z) = cs.any (fun c => !chgR c) ∧ Below w.heap.size w w' := by
  obtain ⟨ao, c, rfl, hm, hc⟩ := h
  unfold maxLen at hm
  go_enter Tryz.func59, Tryz.ntmps59
  go_wp2_with fail
  go_loopw [8] (fun i wr => ∃ I : Nat, i = .int .i64 (I : Int) ∧ I ≤ cs.length ∧ (cs.take I).any (fun c => !chgR c) = false ∧ Below w.heap.size w wr) (fun i _ => cs.length - (intOf i).toNat)
  case atStart => exact ⟨0, rfl, Nat.zero_le _, rfl, Below.refl _ _⟩
  case round =>
    obtain ⟨I, rfl, hI, hT, hB⟩ := hrel
    by_cases hlt : I < cs.length
    · have i1 : (I : Int) < (cs.length : Int) := by omega
      have hg : cs[I]? = some cs[I] := List.getElem?_eq_getElem hlt
      obtain ⟨o, ho⟩ : ∃ o, cs[I] = o := ⟨_, rfl⟩
      rw [ho] at hg
      clear ho
      obtain ⟨b, off, rfl, hl, u, c0, hu⟩ := hc I o hg
      have d0 : wr.cell? ⟨b, off + I, none⟩ = some u := (hB.cell (p := ⟨b, off + I, none⟩) hl).trans c0
      have hu1 := hu.below hB (Nat.le_refl _)
      have HG : Hid (cs[I]? = some o) := hg
      have HT : Hid ((cs.take I).any (fun c => !chgR c) = false) := hT
      obtain ⟨uo, uc, rfl, -, -⟩ := hu
      clear c0 hg hT hc
      have hix := index_chgs b off cs.length c I hlt
      go_wp2_with fail
      refine (mayNotBe_any _ o _ hu1).mono ?_
      rintro e w1 ⟨rfl, hb1⟩
      have hB1 := blift hB hb1 hB.size
      cases hop : chgR o with
      | false =>
        have HF : Hid (cs.any (fun c => !chgR c) = true) := by
          show _ = _
          exact List.any_eq_true.2 ⟨o, List.mem_of_getElem? HG.out, by rw [hop]; rfl⟩
        clear hop
        go_wp2_with fail
        go_ret
        exact ⟨_, rfl, by rw [HF.out]; simp, hB1⟩
      | true =>
        have HT2 : Hid ((cs.take (I + 1)).any (fun c => !chgR c) = false) := by
          show _ = _
          rw [List.take_add_one, HG.out, List.any_append, HT.out]
          simp [hop]
        clear hop
        go_wp2_with fail
        go_roundw
        case rel => exact ⟨I + 1, by go_num, hlt, HT2.out, hB1⟩
        case measure => simp [intOf]; omega
    · have i1 : ¬ (I : Int) < (cs.length : Int) := by omega
      obtain rfl : I = cs.length := by omega
      rw [List.take_length] at hT
      have HT : Hid (cs.any (fun c => !chgR c) = false) := hT
      clear hT
      go_wp2_with fail
      go_ret
      exact ⟨_, rfl, by rw [HT.out]; rfl, hB⟩
set_option maxRecDepth 100000 in
theorem hasBad_any (v : Value) (cs : List (List OpB)) (w : World) (h : ChgsV w v cs) :
    Calls Tryz.prog 30 #[v, .func (.func 31) #[] #[]] w fun e w' => e = .returned (.bool (cs.any (fun c => !chgR c))) ∧ Below w.heap.size w w' := by
  have HC := indexChgs_any v cs w h
  obtain ⟨ao, c, rfl, -⟩ := h
  obtain ⟨R, hR⟩ : ∃ R, R = cs.any (fun c => !chgR c) := ⟨_, rfl⟩
  rw [← hR] at HC ⊢
  have HC : Hid (Calls Tryz.prog 59 #[.slice ao cs.length c, .func (.func 31) #[] #[]] w fun e w' => ∃ z : Int, e = .returned (.int .i64 z) ∧ decide (0 ≤ z) = R ∧ Below w.heap.size w w') := HC
  clear hR
  go_enter Tryz.func30, Tryz.ntmps30
  go_wp2_with fail
  refine HC.out.mono ?_
  rintro e w1 ⟨z, rfl, hz, hb1⟩
  go_wp2_with fail
  go_ret
  refine ⟨?_, hb1⟩
  rw [← hz]
  rfl
end Go.Proofs.YtfghfciigdkioaaGreatR
