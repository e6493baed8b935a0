/-
  What is proved here: changes as they lie in memory; whether they may be. what changes do to the pairs of a map: the program's do, its copies of maps, and behind. the program's store in memory, with the blocks that are its own; what it tells of its size.
  Conditions: those that each fact names.
-/
import Derived.Test.YtbegphfideopoaaGreatJPackPure
import Derived.Test.YtbegphfideopoaaGreatJShaPure
import Derived.Test.YtbegphfideopoaaGreatJPWalLog
import Derived.Test.YtbegphfideopoaaGreatJPWalCheck
import Derived.Test.YtbegphfideopoaaGreatJStoreKeys
import Derived.Test.YtbegphfideopoaaGreatJWalSame
namespace Go.Proofs.YtbegphfideopoaaGreat
open Go.RowKit

/-- An op lies in these three cells. -/
def OpAt (w : World) (b off : Nat) (o : OpB) : Prop := ∃ ka kc va vc, w.cell? ⟨b, off, none⟩ = some (.slice ka o.key.length kc) ∧ w.cell? ⟨b, off + 1, none⟩ = some (.bool o.del) ∧ w.cell? ⟨b, off + 2, none⟩ = some (.slice va o.val.length vc) ∧
  Seg w (.slice ka o.key.length kc) o.key ∧ Seg w (.slice va o.val.length vc) o.val ∧ o.key.length ≤ maxLen ∧ o.val.length ≤ maxLen
/-- Ops in a slice; changes in a slice. -/
def OpsV (w : World) (v : Value) (ops : List OpB) : Prop := ∃ ao c, v = .slice ao ops.length c ∧ ops.length ≤ maxLen ∧ ∀ (i : Nat) o, ops[i]? = some o → ∃ b off, ao = some ⟨b, off, none⟩ ∧ b < w.heap.size ∧ OpAt w b (off + i * 3) o
def ChgsV (w : World) (v : Value) (cs : List (List OpB)) : Prop := ∃ ao c, v = .slice ao cs.length c ∧ cs.length ≤ maxLen ∧ ∀ (i : Nat) ops, cs[i]? = some ops → ∃ b off, ao = some ⟨b, off, none⟩ ∧ b < w.heap.size ∧ ∃ u, w.cell? ⟨b, off + i, none⟩ = some u ∧ OpsV w u ops
theorem OpAt.below {w w' : World} {B b off : Nat} {o : OpB} (h : OpAt w b off o) (hb : Below B w w') (hB : w.heap.size ≤ B) (hl : b < w.heap.size) : OpAt w' b off o := by
  obtain ⟨ka, kc, va, vc, h1, h2, h3, h4, h5, h6⟩ := h
  have hc : ∀ q, w'.cell? ⟨b, q, none⟩ = w.cell? ⟨b, q, none⟩ := fun q => hb.cell (p := ⟨b, q, none⟩) (Nat.lt_of_lt_of_le hl hB)
  exact ⟨ka, kc, va, vc, (hc _).trans h1, (hc _).trans h2, (hc _).trans h3, h4.below hb hB, h5.below hb hB, h6⟩
theorem OpsV.below {w w' : World} {B : Nat} {v : Value} {ops : List OpB} (h : OpsV w v ops) (hb : Below B w w') (hB : w.heap.size ≤ B) : OpsV w' v ops := by
  obtain ⟨ao, c, h1, h2, h3⟩ := h
  refine ⟨ao, c, h1, h2, fun i o hi => ?_⟩
  obtain ⟨b, off, e, hl, h4⟩ := h3 i o hi
  exact ⟨b, off, e, Nat.lt_of_lt_of_le hl hb.size, h4.below hb hB hl⟩
theorem ChgsV.below {w w' : World} {B : Nat} {v : Value} {cs : List (List OpB)} (h : ChgsV w v cs) (hb : Below B w w') (hB : w.heap.size ≤ B) : ChgsV w' v cs := by
  obtain ⟨ao, c, h1, h2, h3⟩ := h
  refine ⟨ao, c, h1, h2, fun i o hi => ?_⟩
  obtain ⟨b, off, e, hl, u, h4, h5⟩ := h3 i o hi
  exact ⟨b, off, e, Nat.lt_of_lt_of_le hl hb.size, u, (hb.cell (p := ⟨b, off + i, none⟩) (Nat.lt_of_lt_of_le hl hB)).trans h4, h5.below hb hB⟩
/-- An op's value. -/
def opV (ka : Option Addr) (kn kc : Nat) (d : Bool) (va : Option Addr) (vn vc : Nat) : Value := .agg #[.slice ka kn kc, .bool d, .slice va vn vc]

set_option maxRecDepth 100000 in
set_option maxHeartbeats 2000000 in
theorem opMayBe_any (o : OpB) (ka va : Option Addr) (kc vc : Nat) (w : World) :
    Calls Tryz.prog 61 #[opV ka o.key.length kc o.del va o.val.length vc] w fun e w' => e = .returned (.bool (opR o)) ∧ Below w.heap.size w w' := by
  unfold opV
  obtain ⟨R, hR0⟩ : ∃ R, R = opR o := ⟨_, rfl⟩
  rw [← hR0]
  have hR := hR0
  unfold opR at hR
  obtain ⟨K, hK⟩ : ∃ K, K = o.key.length := ⟨_, rfl⟩
  obtain ⟨V, hV⟩ : ∃ V, V = o.val.length := ⟨_, rfl⟩
  obtain ⟨d, hd⟩ : ∃ d, d = o.del := ⟨_, rfl⟩
  rw [← hK, ← hV, ← hd] at hR
  rw [← hK, ← hV, ← hd]
  clear hK hV hd
  have hb := fun x => (Below.refl w.heap.size w).alloc (Nat.le_refl _) x
  cases d with
  | false =>
    by_cases h1 : 1 ≤ K
    · have j1 : (1 : Int) ≤ (K : Int) := by omega
      by_cases h2 : K ≤ 64
      · have j2 : (K : Int) ≤ 64 := by omega
        by_cases h3 : V ≤ 1024
        · have j3 : (V : Int) ≤ 1024 := by omega
          clear hR0
          have HR : Hid (R = true) := by show _ = _; rw [hR]; simp [h1, h2, h3]
          clear hR
          go_enter Tryz.func61, Tryz.ntmps61
          go_wp2
          go_ret
          rw [HR.out]
          exact ⟨rfl, hb _⟩
        · have j3 : ¬ (V : Int) ≤ 1024 := by omega
          clear hR0
          have HR : Hid (R = false) := by show _ = _; rw [hR]; simp [h1, h2, h3]
          clear hR
          go_enter Tryz.func61, Tryz.ntmps61
          go_wp2
          go_ret
          rw [HR.out]
          exact ⟨rfl, hb _⟩
      · have j2 : ¬ (K : Int) ≤ 64 := by omega
        clear hR0
        have HR : Hid (R = false) := by show _ = _; rw [hR]; simp [h1, h2]
        clear hR
        go_enter Tryz.func61, Tryz.ntmps61
        go_wp2
        go_ret
        rw [HR.out]
        exact ⟨rfl, hb _⟩
    · have j1 : ¬ (1 : Int) ≤ (K : Int) := by omega
      clear hR0
      have HR : Hid (R = false) := by show _ = _; rw [hR]; simp [h1]
      clear hR
      go_enter Tryz.func61, Tryz.ntmps61
      go_wp2
      go_ret
      rw [HR.out]
      exact ⟨rfl, hb _⟩
  | true =>
    by_cases h0 : 0 < V
    · have j0 : (0 : Int) < (V : Int) := by omega
      clear hR0
      have HR : Hid (R = false) := by show _ = _; rw [hR]; simp [h0]
      clear hR
      go_enter Tryz.func61, Tryz.ntmps61
      go_wp2
      go_ret
      rw [HR.out]
      exact ⟨rfl, hb _⟩
    · have j0 : ¬ (0 : Int) < (V : Int) := by omega
      by_cases h1 : 1 ≤ K
      · have j1 : (1 : Int) ≤ (K : Int) := by omega
        by_cases h2 : K ≤ 64
        · have j2 : (K : Int) ≤ 64 := by omega
          by_cases h3 : V ≤ 1024
          · have j3 : (V : Int) ≤ 1024 := by omega
            clear hR0
            have HR : Hid (R = true) := by show _ = _; rw [hR]; simp [h0, h1, h2, h3]
            clear hR
            go_enter Tryz.func61, Tryz.ntmps61
            go_wp2
            go_ret
            rw [HR.out]
            exact ⟨rfl, hb _⟩
          · have j3 : ¬ (V : Int) ≤ 1024 := by omega
            omega
        · have j2 : ¬ (K : Int) ≤ 64 := by omega
          clear hR0
          have HR : Hid (R = false) := by show _ = _; rw [hR]; simp [h0, h1, h2]
          clear hR
          go_enter Tryz.func61, Tryz.ntmps61
          go_wp2
          go_ret
          rw [HR.out]
          exact ⟨rfl, hb _⟩
      · have j1 : ¬ (1 : Int) ≤ (K : Int) := by omega
        clear hR0
        have HR : Hid (R = false) := by show _ = _; rw [hR]; simp [h0, h1]
        clear hR
        go_enter Tryz.func61, Tryz.ntmps61
        go_wp2
        go_ret
        rw [HR.out]
        exact ⟨rfl, hb _⟩
/-- mayNotBe. -/
theorem index_ops (b off len c : Nat) (I : Nat) (h : I < len) (w : World) : (Instr.indexAt 40 (.slice (some ⟨b, off, none⟩) len c) (.int .i64 (I : Int))).run Tryz.prog w = .ok (.pointer (some ⟨b, off + I * 3, none⟩)) w := by
  have hi : (0 : Int) ≤ (I : Int) ∧ (I : Int) < (len : Int) := by omega
  simp [Instr.indexAt, asIntOf, run_underlying Tryz.underlying40, hi, Addr.add_mid]
  first | rfl | (intro h'; omega)
set_option maxRecDepth 100000 in
set_option maxHeartbeats 2000000 in
theorem mayNotBe_any (v : Value) (ops : List OpB) (w : World) (h : OpsV w v ops) :
    Calls Tryz.prog 32 #[v] w fun e w' => e = .returned (.bool (!chgR ops)) ∧ Below w.heap.size w w' := by
  obtain ⟨ao, c, rfl, hm, hc⟩ := h
  unfold maxLen at hm
  obtain ⟨R, hR⟩ : ∃ R, R = !chgR ops := ⟨_, rfl⟩
  rw [← hR]
  have HR : Hid (R = !chgR ops) := hR
  clear hR
  go_enter Tryz.func32, Tryz.ntmps32
  go_wp2_with fail
  go_loopw [7] (fun i wr => ∃ I : Nat, i = .int .i64 (I : Int) ∧ I ≤ ops.length ∧ (ops.take I).all opR = true ∧ Below w.heap.size w wr) (fun i _ => ops.length - (intOf i).toNat)
  case atStart => exact ⟨0, rfl, Nat.zero_le _, rfl, Below.refl _ _⟩
  case round =>
    obtain ⟨I, rfl, hI, hT, hB⟩ := hrel
    by_cases hlt : I < ops.length
    · have i1 : (I : Int) < (ops.length : Int) := by omega
      have hg : ops[I]? = some ops[I] := List.getElem?_eq_getElem hlt
      obtain ⟨o, ho⟩ : ∃ o, ops[I] = o := ⟨_, rfl⟩
      rw [ho] at hg
      clear ho
      obtain ⟨b, off, rfl, hl, ka, kc, va, vc, c0, c1, c2, -⟩ := hc I o hg
      have d0 : wr.cell? ⟨b, off + I * 3, none⟩ = _ := (hB.cell (p := ⟨b, off + I * 3, none⟩) hl).trans c0
      have d1 : wr.cell? ⟨b, off + I * 3 + 1, none⟩ = _ := (hB.cell (p := ⟨b, off + I * 3 + 1, none⟩) hl).trans c1
      have d2 : wr.cell? ⟨b, off + I * 3 + 2, none⟩ = _ := (hB.cell (p := ⟨b, off + I * 3 + 2, none⟩) hl).trans c2
      have HG : Hid (ops[I]? = some o) := hg
      have HT : Hid ((ops.take I).all opR = true) := hT
      clear c0 c1 c2 hg hT hc
      have hix := index_ops b off ops.length c I hlt
      go_wp2_with fail
      refine (opMayBe_any o ka va kc vc _).mono ?_
      rintro e w1 ⟨rfl, hb1⟩
      have hB1 := blift (hB.alloc hB.size _) hb1 (Nat.le_trans hB.size (by simp))
      cases hop : opR o with
      | false =>
        have HF : Hid (chgR ops = false) := by
          show _ = _
          unfold chgR
          rw [show ops.all opR = false from List.all_eq_false.2 ⟨o, List.mem_of_getElem? HG.out, by rw [hop]; decide⟩]
          rfl
        clear hop
        go_wp2_with fail
        go_ret
        rw [HR.out, HF.out]
        exact ⟨rfl, hB1⟩
      | true =>
        have HT2 : Hid ((ops.take (I + 1)).all opR = true) := by
          show _ = _
          rw [List.take_add_one, HG.out, List.all_append, HT.out]
          simp [hop]
        clear hop
        go_wp2_with fail
        go_roundw
        case rel => exact ⟨I + 1, by go_num, hlt, HT2.out, hB1⟩
        case measure => simp [intOf]; omega
    · have i1 : ¬ (I : Int) < (ops.length : Int) := by omega
      obtain rfl : I = ops.length := by omega
      rw [List.take_length] at hT
      have HT : Hid (R = !(decide (1 ≤ ops.length) && decide (ops.length ≤ 32))) := by
        show _ = _
        rw [HR.out]
        unfold chgR
        rw [hT, Bool.true_and]
      clear hT HR hc
      generalize ops.length = M at *
      by_cases h1 : M < 1
      · have j1 : (M : Int) < 1 := by omega
        have HZ : Hid (R = true) := by show _ = _; rw [HT.out]; simp; omega
        clear h1
        go_wp2_with fail
        go_ret
        rw [HZ.out]
        exact ⟨rfl, hB⟩
      · have j1 : ¬ (M : Int) < 1 := by omega
        by_cases h2 : 32 < M
        · have j2 : (32 : Int) < (M : Int) := by omega
          have HZ : Hid (R = true) := by show _ = _; rw [HT.out]; simp; omega
          clear h1 h2
          go_wp2_with fail
          go_ret
          rw [HZ.out]
          exact ⟨rfl, hB⟩
        · have j2 : ¬ (32 : Int) < (M : Int) := by omega
          have HZ : Hid (R = false) := by show _ = _; rw [HT.out]; simp; omega
          clear h1 h2
          go_wp2_with fail
          go_ret
          rw [HZ.out]
          exact ⟨rfl, hB⟩
/-! ### whether one of them is -/
theorem index_chgs (b off len c : Nat) (I : Nat) (h : I < len) (w : World) : (Instr.indexAt 33 (.slice (some ⟨b, off, none⟩) len c) (.int .i64 (I : Int))).run Tryz.prog w = .ok (.pointer (some ⟨b, off + I, none⟩)) w := by
  have hi : (0 : Int) ≤ (I : Int) ∧ (I : Int) < (len : Int) := by omega
  simp [Instr.indexAt, asIntOf, run_underlying Tryz.underlying33, hi, Addr.add_mid]
  first | rfl | (intro h'; omega)
set_option maxRecDepth 100000 in
set_option maxHeartbeats 2000000 in
theorem indexChgs_any (v : Value) (cs : List (List OpB)) (w : World) (h : ChgsV w v cs) :
    Calls Tryz.prog 60 #[v, .func (.func 32) #[] #[]] w fun e w' => ∃ z : Int, e = .returned (.int .i64 z) ∧ decide (0 ≤ z) = cs.any (fun c => !chgR c) ∧ Below w.heap.size w w' := by
  obtain ⟨ao, c, rfl, hm, hc⟩ := h
  unfold maxLen at hm
  go_enter Tryz.func60, Tryz.ntmps60
  go_wp2_with fail
  go_loopw [8] (fun i wr => ∃ I : Nat, i = .int .i64 (I : Int) ∧ I ≤ cs.length ∧ (cs.take I).any (fun c => !chgR c) = false ∧ Below w.heap.size w wr) (fun i _ => cs.length - (intOf i).toNat)
  case atStart => exact ⟨0, rfl, Nat.zero_le _, rfl, Below.refl _ _⟩
  case round =>
    obtain ⟨I, rfl, hI, hT, hB⟩ := hrel
    by_cases hlt : I < cs.length
    · have i1 : (I : Int) < (cs.length : Int) := by omega
      have hg : cs[I]? = some cs[I] := List.getElem?_eq_getElem hlt
      obtain ⟨o, ho⟩ : ∃ o, cs[I] = o := ⟨_, rfl⟩
      rw [ho] at hg
      clear ho
      obtain ⟨b, off, rfl, hl, u, c0, hu⟩ := hc I o hg
      have d0 : wr.cell? ⟨b, off + I, none⟩ = some u := (hB.cell (p := ⟨b, off + I, none⟩) hl).trans c0
      have hu1 := hu.below hB (Nat.le_refl _)
      have HG : Hid (cs[I]? = some o) := hg
      have HT : Hid ((cs.take I).any (fun c => !chgR c) = false) := hT
      obtain ⟨uo, uc, rfl, -, -⟩ := hu
      clear c0 hg hT hc
      have hix := index_chgs b off cs.length c I hlt
      go_wp2_with fail
      refine (mayNotBe_any _ o _ hu1).mono ?_
      rintro e w1 ⟨rfl, hb1⟩
      have hB1 := blift hB hb1 hB.size
      cases hop : chgR o with
      | false =>
        have HF : Hid (cs.any (fun c => !chgR c) = true) := by
          show _ = _
          exact List.any_eq_true.2 ⟨o, List.mem_of_getElem? HG.out, by rw [hop]; rfl⟩
        clear hop
        go_wp2_with fail
        go_ret
        exact ⟨_, rfl, by rw [HF.out]; simp, hB1⟩
      | true =>
        have HT2 : Hid ((cs.take (I + 1)).any (fun c => !chgR c) = false) := by
          show _ = _
          rw [List.take_add_one, HG.out, List.any_append, HT.out]
          simp [hop]
        clear hop
        go_wp2_with fail
        go_roundw
        case rel => exact ⟨I + 1, by go_num, hlt, HT2.out, hB1⟩
        case measure => simp [intOf]; omega
    · have i1 : ¬ (I : Int) < (cs.length : Int) := by omega
      obtain rfl : I = cs.length := by omega
      rw [List.take_length] at hT
      have HT : Hid (cs.any (fun c => !chgR c) = false) := hT
      clear hT
      go_wp2_with fail
      go_ret
      exact ⟨_, rfl, by rw [HT.out]; rfl, hB⟩
set_option maxRecDepth 100000 in
theorem hasBad_any (v : Value) (cs : List (List OpB)) (w : World) (h : ChgsV w v cs) :
    Calls Tryz.prog 31 #[v, .func (.func 32) #[] #[]] w fun e w' => e = .returned (.bool (cs.any (fun c => !chgR c))) ∧ Below w.heap.size w w' := by
  have HC := indexChgs_any v cs w h
  obtain ⟨ao, c, rfl, -⟩ := h
  obtain ⟨R, hR⟩ : ∃ R, R = cs.any (fun c => !chgR c) := ⟨_, rfl⟩
  rw [← hR] at HC ⊢
  have HC : Hid (Calls Tryz.prog 60 #[.slice ao cs.length c, .func (.func 32) #[] #[]] w fun e w' => ∃ z : Int, e = .returned (.int .i64 z) ∧ decide (0 ≤ z) = R ∧ Below w.heap.size w w') := HC
  clear hR
  go_enter Tryz.func31, Tryz.ntmps31
  go_wp2_with fail
  refine HC.out.mono ?_
  rintro e w1 ⟨z, rfl, hz, hb1⟩
  go_wp2_with fail
  go_ret
  refine ⟨?_, hb1⟩
  rw [← hz]
  rfl
end Go.Proofs.YtbegphfideopoaaGreat
namespace Go.Proofs.YtbegphfideopoaaGreat
open Go.RowKit Go.Maps

def IsMapAt (w : World) (b : Nat) : Prop := ∃ es clock, w.heap[b]? = some (.map es clock)
theorem MapP.at {w : World} {C : Nat → Prop} {b : Nat} {m : PM} (h : MapP w C b m) : IsMapAt w b := by
  obtain ⟨n, D, ⟨es, clock, h1, _⟩, _⟩ := h.body
  exact ⟨es, clock, h1⟩
theorem ne_map {w : World} {b q o : Nat} {u : Value} (hm : IsMapAt w b) (h : w.cell? ⟨q, o, none⟩ = some u) : q ≠ b := by
  rintro rfl
  obtain ⟨es, clock, h1⟩ := hm
  unfold World.cell? at h
  rw [show w.heap[(⟨q, o, none⟩ : Addr).block]? = _ from h1] at h
  cases h
theorem seg_ne_map {w : World} {b : Nat} {v : Value} {bs : List UInt8} (hm : IsMapAt w b) (h : Seg w v bs) (h0 : 0 < bs.length) (q : Nat) (hq : v.ownBlock = some q) : q ≠ b := by
  obtain ⟨ao, c, rfl⟩ := h.shapeD
  obtain ⟨b', off, rfl, _, hr, _⟩ := h.formD h0
  cases hq
  exact ne_map hm (hr 0 h0)
theorem OpAt.chgMap {w w' : World} {b q off : Nat} {o : OpB} (h : OpAt w q off o) (hl : q < w.heap.size) (hm : IsMapAt w b) (hc : Chg (fun k => k = b) w w') : OpAt w' q off o := by
  obtain ⟨ka, kc, va, vc, h1, h2, h3, h4, h5, h6⟩ := h
  have hq : q ≠ b := ne_map hm h1
  have hcc : ∀ o, w'.cell? ⟨q, o, none⟩ = w.cell? ⟨q, o, none⟩ := fun o => World.cell?_of_block (w := w) (a := ⟨q, o, none⟩) (hc.2 q hl hq)
  exact ⟨ka, kc, va, vc, (hcc _).trans h1, (hcc _).trans h2, (hcc _).trans h3, h4.chg hc (fun h0 k hk => seg_ne_map hm h4 h0 k hk), h5.chg hc (fun h0 k hk => seg_ne_map hm h5 h0 k hk), h6⟩
theorem OpsV.chgMap {w w' : World} {b : Nat} {v : Value} {ops : List OpB} (h : OpsV w v ops) (hm : IsMapAt w b) (hc : Chg (fun k => k = b) w w') : OpsV w' v ops := by
  obtain ⟨ao, c, h1, h2, h3⟩ := h
  refine ⟨ao, c, h1, h2, fun i o hi => ?_⟩
  obtain ⟨q, off, e, hl, h4⟩ := h3 i o hi
  exact ⟨q, off, e, Nat.lt_of_lt_of_le hl hc.size, h4.chgMap hl hm hc⟩
theorem exec_mapup {a : Act} {o : Oper} {w w' : World} (m x v : Operand) (ho : o.op = .mapUpdate 71 m x v) (vm vx vv : Value) (hm : a.eval m = vm) (hx : a.eval x = vx) (hv : a.eval v = vv) (hr : (Instr.mapUpdate 71 vm vx vv).run Tryz.prog w = .ok () w') : (execOp a.eval o).run Tryz.prog w = .ok .skip w' := by
  unfold execOp
  simp [ho, hm, hx, hv, hr, Result.andThen]
theorem do_step {ops : List OpB} {I : Nat} {o : OpB} (m : PM) (h : ops[I]? = some o) : doM m (ops.take (I + 1)) = doOp (doM m (ops.take I)) o := by
  unfold doM
  rw [List.take_add_one, h, List.foldl_append]
  rfl
theorem len_del (k : List UInt8) : ∀ m : PM, (delM k m).length ≤ m.length
  | [] => Nat.le_refl _
  | p :: m => by
    unfold delM
    have := len_del k m
    split
    · exact Nat.le_succ_of_le this
    · exact Nat.succ_le_succ this
theorem len_put (k v : List UInt8) : ∀ m : PM, (putM k v m).length ≤ m.length + 1
  | [] => Nat.le_refl _
  | p :: m => by
    unfold putM
    have := len_put k v m
    split
    · exact Nat.le_refl _
    · split
      · exact Nat.le_succ _
      · exact Nat.succ_le_succ this
theorem len_op (m : PM) (o : OpB) : (doOp m o).length ≤ m.length + 1 := by
  unfold doOp
  split
  · exact Nat.le_succ_of_le (len_del _ _)
  · exact len_put _ _ _
theorem len_do : ∀ (ops : List OpB) (m : PM), (doM m ops).length ≤ m.length + ops.length
  | [], _ => Nat.le_refl _
  | o :: ops, m => by
    have h1 := len_do ops (doOp m o)
    have h2 := len_op m o
    show (doM (doOp m o) ops).length ≤ m.length + (ops.length + 1)
    omega
set_option maxRecDepth 100000 in
set_option maxHeartbeats 4000000 in
theorem do_any (Mb : Nat) (C : Nat → Prop) (m : PM) (v : Value) (ops : List OpB) (w : World) (hM : MapP w C Mb m) (hCM : ¬ C Mb) (hv : OpsV w v ops) (hR : ops.all opR = true) (hml : m.length + ops.length ≤ 1000000000) :
    Calls Tryz.prog 51 #[.map (some Mb), v] w fun e w' => e = .returned (.tuple #[]) ∧ MapP w' (Fr C w w') Mb (doM m ops) ∧ Chg (fun q => q = Mb) w w' := by
  have hMat := hM.at
  have hMl := hM.lt
  have HV : Hid (∀ W, Chg (fun q => q = Mb) w W → OpsV W v ops) := fun W hW => hv.chgMap hMat hW
  obtain ⟨ao, c, rfl, hm, -⟩ := hv
  unfold maxLen at hm
  have HML : Hid (∀ I, I ≤ ops.length → (doM m (ops.take I)).length ≤ 1000000000) := fun I hI => by
    have := len_do (ops.take I) m
    rw [List.length_take] at this
    omega
  clear hml
  have HRR : Hid (ops.all opR = true) := hR
  clear hR
  go_enter Tryz.func51, Tryz.ntmps51
  go_wp2_with fail
  go_loopw [8] (fun i wr => ∃ I : Nat, i = .int .i64 (I : Int) ∧ I ≤ ops.length ∧ MapP wr (Fr C w wr) Mb (doM m (ops.take I)) ∧ Chg (fun q => q = Mb) w wr) (fun i _ => ops.length - (intOf i).toNat)
  case atStart => exact ⟨0, rfl, Nat.zero_le _, hM.mono (fun _ h => .inl h), Chg.refl _ _⟩
  case round =>
    clear hM hMat
    obtain ⟨I, rfl, hI, hMr, hB⟩ := hrel
    by_cases hlt : I < ops.length
    · have i1 : (I : Int) < (ops.length : Int) := by omega
      have hg : ops[I]? = some ops[I] := List.getElem?_eq_getElem hlt
      obtain ⟨o, ho⟩ : ∃ o, ops[I] = o := ⟨_, rfl⟩
      rw [ho] at hg
      clear ho
      obtain ⟨ao', c', e0, -, hat⟩ := HV.out wr hB
      cases e0
      obtain ⟨b, off, rfl, hl, ka, kc, va, vc, d0, d1, d2, hks, hvs, hkm, hvm⟩ := hat I o hg
      have hor : opR o = true := List.all_eq_true.1 HRR.out o (List.mem_of_getElem? hg)
      obtain ⟨ok1, ok2, ok3, -⟩ := opR_facts hor
      have hFM : ∀ W, ¬ Fr C w W Mb := fun W e => by
        rcases e with e | e
        · exact hCM e
        · omega
      have HST : Hid (doM m (ops.take (I + 1)) = doOp (doM m (ops.take I)) o) := do_step m hg
      have HL : Hid ((doM m (ops.take I)).length ≤ 1000000000) := HML.out I hI
      obtain ⟨MM, hMM⟩ : ∃ MM, MM = doM m (ops.take I) := ⟨_, rfl⟩
      rw [← hMM] at hMr HST HL
      clear hMM hg hat hor
      have hix := index_ops b off ops.length c I hlt
      have hMrl := hMr.lt
      cases hdel : o.del with
      | true =>
        rw [hdel] at d1
        have HD : Hid (doOp MM o = delM o.key MM) := by show _ = _; unfold doOp; rw [hdel]; rfl
        clear hdel
        have hAl := (Below.refl wr.heap.size wr).alloc (Nat.le_refl _) (.cells #[.slice ka o.key.length kc, .bool true, .slice va o.val.length vc] 59)
        have k1 := seg_stringD (hks.below hAl (Nat.le_refl _)) 9 Tryz.underlying9
        have hMa := hMr.after hAl
        have hCa : Chg (fun q => q = Mb) w _ := hB.trans (Chg.of_below (S := fun _ => False) hAl (Nat.le_refl _)) (fun _ _ h => h.elim)
        obtain ⟨w2, hr2, hM2, hg2⟩ := hMa.drop (k := o.key) (by unfold maxLen; omega) (hFM wr) 0
        go_wp2_with fail
        have hC2 := hCa.trans (Chg.of_grown (S := fun q => q = Mb) hg2 (fun q e => (Option.some.inj e).symm)) (fun _ _ h => h)
        have hM2 : MapP w2 (Fr C w w2) Mb (delM o.key MM) := hM2.mono (fun q hq => hq.imp id (fun h => ⟨h.1, Nat.lt_of_lt_of_le h.2 (Nat.le_trans hAl.size hg2.size)⟩))
        go_roundw
        case rel => exact ⟨I + 1, by go_num, hlt, by rw [HST.out, HD.out]; exact hM2, hC2⟩
        case measure => simp [intOf]; omega
      | false =>
        rw [hdel] at d1
        have HD : Hid (doOp MM o = putM o.key o.val MM) := by show _ = _; unfold doOp; rw [hdel]; rfl
        clear hdel
        have hAl := (Below.refl wr.heap.size wr).alloc (Nat.le_refl _) (.cells #[.slice ka o.key.length kc, .bool false, .slice va o.val.length vc] 59)
        have hbk : Blk (wr.alloc (.cells #[.slice ka o.key.length kc, .bool false, .slice va o.val.length vc] 59)) wr.heap.size 59 _ := Blk.new wr 59 _
        go_wp2_with fail
        obtain ⟨w1, hw1⟩ : ∃ W, W = wr.alloc (.cells #[.slice ka o.key.length kc, .bool false, .slice va o.val.length vc] 59) := ⟨_, rfl⟩
        rw [← hw1] at hAl hbk ⊢
        clear hw1
        have hMa := hMr.after hAl
        have hMat1 := hMa.at
        have hks1 := hks.below hAl (Nat.le_refl _)
        have hvs1 := hvs.below hAl (Nat.le_refl _)
        have hC1 : Chg (fun q => q = Mb) w w1 := hB.trans (Chg.of_below (S := fun _ => False) hAl (Nat.le_refl _)) (fun _ _ h => h.elim)
        have HC : Hid (∀ V, Chg (fun q => q = Mb) w1 V → V.cell? ⟨wr.heap.size, 0, none⟩ = some (.slice ka o.key.length kc) ∧ V.cell? ⟨wr.heap.size, 2, none⟩ = some (.slice va o.val.length vc) ∧ Seg V (.slice ka o.key.length kc) o.key) := fun V hV =>
          ⟨(hbk.chg hV (by show ¬ wr.heap.size = Mb; omega)).cell (j := 0) rfl, (hbk.chg hV (by show ¬ wr.heap.size = Mb; omega)).cell (j := 2) rfl, hks1.chg hV (fun h0 q hq => seg_ne_map hMat1 hks1 h0 q hq)⟩
        have hS0 : Chg (fun q => q = Mb) w1 w1.drew := (Chg.refl _ _).drew
        have hvs1d : Seg w1.drew (.slice va o.val.length vc) o.val := hvs1.below (Below.refl _ _).drew (Nat.le_refl _)
        have HCL : Hid (Calls Tryz.prog 42 #[.slice va o.val.length vc] w1.drew fun e w' => ∃ v, e = .returned v ∧ Own w' w1.drew.heap.size v o.val ∧ Below w1.drew.heap.size w1.drew w') := bclone_any _ o.val w1.drew (by omega) hvs1d
        refine held_begin (fun V => Chg (fun q => q = Mb) w1 V) (by kernel_rfl) ?_
        refine held_take 0 18 _ (.map (some Mb)) rfl rfl (by kernel_rfl) (by kernel_rfl) (by kernel_rfl) rfl hS0 (fun _ _ => rfl) ?_
        simp only [Act.put, List.setIfInBounds_toArray, List.set_cons_succ, List.set_cons_zero]
        refine held_take 1 19 _ (.pointer (some ⟨wr.heap.size, 0, none⟩)) rfl rfl (by kernel_rfl) (by kernel_rfl) (by kernel_rfl) rfl hS0 (fun _ _ => rfl) ?_
        simp only [Act.put, List.setIfInBounds_toArray, List.set_cons_succ, List.set_cons_zero]
        refine held_take 2 20 _ (.slice ka o.key.length kc) rfl rfl (by kernel_rfl) (by kernel_rfl) (by kernel_rfl) rfl hS0 (fun V hV => exec_loadc 34 _ rfl _ _ rfl (load_one 34 (fun _ => by kernel_rfl) V _ _ _ (HC.out V hV).1)) ?_
        simp only [Act.put, List.setIfInBounds_toArray, List.set_cons_succ, List.set_cons_zero]
        refine held_take 3 21 _ (.string ⟨o.key.toArray⟩) rfl rfl (by kernel_rfl) (by kernel_rfl) (by kernel_rfl) rfl hS0 (fun V hV => exec_conv _ _ _ rfl _ _ rfl (seg_stringD (HC.out V hV).2.2 9 Tryz.underlying9)) ?_
        simp only [Act.put, List.setIfInBounds_toArray, List.set_cons_succ, List.set_cons_zero]
        refine held_take 4 22 _ (.pointer (some ⟨wr.heap.size, 2, none⟩)) rfl rfl (by kernel_rfl) (by kernel_rfl) (by kernel_rfl) rfl hS0 (fun _ _ => rfl) ?_
        simp only [Act.put, List.setIfInBounds_toArray, List.set_cons_succ, List.set_cons_zero]
        refine held_take 5 23 _ (.slice va o.val.length vc) rfl rfl (by kernel_rfl) (by kernel_rfl) (by kernel_rfl) rfl hS0 (fun V hV => exec_loadc 34 _ rfl _ _ rfl (load_one 34 (fun _ => by kernel_rfl) V _ _ _ (HC.out V hV).2.1)) ?_
        simp only [Act.put, List.setIfInBounds_toArray, List.set_cons_succ, List.set_cons_zero]
        refine held_all1 6 (by kernel_rfl) (op_call 6 24 _ 42 #[.slice va o.val.length vc] rfl rfl rfl (exec_one 42 _ _ rfl _ rfl Tryz.call42) (HCL.out.mono ?_))
        rintro e w2 ⟨v2, rfl, hO2, hb2d⟩
        have hb2 : Below w1.heap.size w1 w2 := (Below.refl w1.heap.size w1).drew.trans hb2d
        have hc2 : Chg (fun q => q = Mb) w1 w2 := Chg.of_below hb2 (Nat.le_refl _)
        have hM2 : MapP w2 (Fr C w w2) Mb MM := (hMa.after hb2).mono (fun q hq => hq.imp id (fun h => ⟨h.1, Nat.lt_of_lt_of_le h.2 (Nat.le_trans hAl.size hb2.size)⟩))
        have hs2 : SegC w2 (Fr C w w2) v2 o.val := ⟨hO2.seg, fun _ q hq => .inr ⟨Nat.le_trans hC1.size (hO2.blocks q hq).1, (hO2.blocks q hq).2⟩⟩
        obtain ⟨w3, hr3, hM3, hg3⟩ := hM2.store (k := o.key) (by unfold maxLen; omega) HL.out hs2 (hFM w2)
        have hc3 : Chg (fun q => q = Mb) w1 w3 := hc2.trans (Chg.of_grown (S := fun q => q = Mb) hg3 (fun q e => (Option.some.inj e).symm)) (fun _ _ h => h)
        have hM3 : MapP w3 (Fr C w w3) Mb (putM o.key o.val MM) := hM3.mono (fun q hq => hq.imp id (fun h => ⟨h.1, Nat.lt_of_lt_of_le h.2 hg3.size⟩))
        have hC3 : Chg (fun q => q = Mb) w w3 := hC1.trans hc3 (fun _ _ h => h)
        refine ⟨_, rfl, hc2, ?_⟩
        simp only [Act.put, List.setIfInBounds_toArray, List.set_cons_succ, List.set_cons_zero]
        refine held_all1 7 (by kernel_rfl) (op_skip 7 _ (w3) rfl rfl rfl (exec_mapup _ _ _ rfl _ _ _ rfl rfl rfl hr3) ⟨hc3, ?_⟩)
        refine wpAnyH_done (by kernel_rfl) ?_ _
        refine NoPanic.normal ?_
        go_wp2_with fail
        go_roundw
        case rel => exact ⟨I + 1, by go_num, hlt, by rw [HST.out, HD.out]; exact hM3, hC3⟩
        case measure => simp [intOf]; omega
    · have i1 : ¬ (I : Int) < (ops.length : Int) := by omega
      obtain rfl : I = ops.length := by omega
      rw [List.take_length] at hMr
      have HMR : Hid (MapP wr (Fr C w wr) Mb (doM m ops)) := hMr
      clear hMr
      go_wp2_with fail
      go_end0
      exact ⟨rfl, HMR.out, hB⟩
end Go.Proofs.YtbegphfideopoaaGreat
namespace Go.Proofs.YtbegphfideopoaaGreat
open Go.RowKit Go.Maps

def StB (w : World) (SG G Mb : Nat) (br : Bool) : Prop := Blk w SG 77 #[.pointer (some ⟨G, 0, none⟩), .map (some Mb), .bool br]
/-- The store's parts: its log's blocks, its values', itself. -/
structure PParts (w : World) (SG G Mb : Nat) (L : PLay) (CL CV : Nat → Prop) (x : SS) : Prop where
  log : PB w G L CL x.s x.l
  st : StB w SG G Mb x.br
  map : MapP w CV Mb x.m
  cv : ∀ q, CV q → ¬ CL q
  sg : ¬ CL SG ∧ ¬ CV SG
  mb : ¬ CL Mb ∧ ¬ CV Mb
  lv : ∀ q, CV q → q < w.heap.size
/-- The program's store; its own blocks are such. -/
structure PSt (w : World) (SG : Nat) (L : PLay) (C : Nat → Prop) (x : SS) : Prop where
  body : ∃ G Mb CL CV, PParts w SG G Mb L CL CV x ∧ (∀ q, CL q → C q) ∧ (∀ q, CV q → C q) ∧ C SG ∧ C Mb
  lt : ∀ q, C q → q < w.heap.size
  pairs : PairsR x.m
  len : x.m.length ≤ 4000
  size : sizeM x.m ≤ 1000000
theorem PParts.ne {w : World} {SG G Mb : Nat} {L : PLay} {CL CV : Nat → Prop} {x : SS} (h : PParts w SG G Mb L CL CV x) : SG ≠ Mb := ne_map h.map.at (Blk.cell h.st (j := 0) rfl)
theorem PParts.chg {w w' : World} {SG G Mb : Nat} {L : PLay} {CL CV S : Nat → Prop} {x : SS} (h : PParts w SG G Mb L CL CV x) (hc : Chg S w w') (h1 : ∀ q, CL q → ¬ S q) (h2 : ∀ q, CV q → ¬ S q) (h3 : ¬ S SG) (h4 : ¬ S Mb) : PParts w' SG G Mb L CL CV x :=
  ⟨h.log.chg hc h1, Blk.chg h.st hc h3, h.map.chg hc h4 h2, h.cv, h.sg, h.mb, fun q hq => Nat.lt_of_lt_of_le (h.lv q hq) hc.size⟩
theorem PParts.after {w w' : World} {SG G Mb : Nat} {L : PLay} {CL CV : Nat → Prop} {x : SS} (h : PParts w SG G Mb L CL CV x) (hb : Below w.heap.size w w') : PParts w' SG G Mb L CL CV x :=
  h.chg (S := fun _ => False) (Chg.of_below hb (Nat.le_refl _)) (fun _ _ => id) (fun _ _ => id) id id
theorem PSt.chg {w w' : World} {SG : Nat} {L : PLay} {C S : Nat → Prop} {x : SS} (h : PSt w SG L C x) (hc : Chg S w w') (hS : ∀ q, C q → ¬ S q) : PSt w' SG L C x := by
  obtain ⟨G, Mb, CL, CV, hp, h1, h2, h3, h4⟩ := h.body
  exact ⟨⟨G, Mb, CL, CV, hp.chg hc (fun q hq => hS q (h1 q hq)) (fun q hq => hS q (h2 q hq)) (hS _ h3) (hS _ h4), h1, h2, h3, h4⟩, fun q hq => Nat.lt_of_lt_of_le (h.lt q hq) hc.size, h.pairs, h.len, h.size⟩
theorem PSt.after {w w' : World} {SG : Nat} {L : PLay} {C : Nat → Prop} {x : SS} (h : PSt w SG L C x) (hb : Below w.heap.size w w') : PSt w' SG L C x :=
  h.chg (S := fun _ => False) (Chg.of_below hb (Nat.le_refl _)) (fun _ _ => id)
theorem PB.okS {w : World} {G : Nat} {L : PLay} {C : Nat → Prop} {s : DS} {l : LS} (h : PB w G L C s l) : s.ok L.n ∧ L.n ≤ 4096 := by
  obtain ⟨CD, h1, _⟩ := h.disk
  exact ⟨h1.d.ok, h1.d.lay.max⟩
theorem PB.size_le {w : World} {G : Nat} {L : PLay} {C : Nat → Prop} {s : DS} {l : LS} (h : PB w G L C s l) : sizeS s ≤ 262016 := size_lt h.okS.1 h.okS.2
set_option maxRecDepth 100000 in
set_option maxHeartbeats 1000000 in
theorem most_any8 {w : World} {SG G Mb : Nat} {L : PLay} {CL CV : Nat → Prop} {x : SS} (h : PParts w SG G Mb L CL CV x) :
    Calls Tryz.prog 24 #[.pointer (some ⟨SG, 0, none⟩)] w fun e w' => e = .returned (.int .i64 (mostW x.s : Int)) ∧ w' = w := by
  have c0 : w.cell? ⟨SG, 0, none⟩ = some (.pointer (some ⟨G, 0, none⟩)) := Blk.cell h.st (j := 0) rfl
  have HS : Hid (Calls Tryz.prog 44 #[.pointer (some ⟨G, 0, none⟩)] w fun e w' => e = .returned (.int .i64 (sizeS x.s : Int)) ∧ w' = w) := pb_size h.log
  have hsz := h.log.size_le
  unfold mostW
  generalize sizeS x.s = N at *
  clear h
  by_cases h1 : 2048 ≤ N
  · obtain ⟨K, hK⟩ : ∃ K, K = (N - 2048) / 2 := ⟨_, rfl⟩
    rw [← hK]
    have e1 : (0 : Int) ≤ (N : Int) - 2048 := by omega
    have e2 : ((N : Int) - 2048) / 2 = (K : Int) := by omega
    clear hK h1
    go_enter Tryz.func24, Tryz.ntmps24
    go_wp2_with fail
    refine HS.out.mono ?_
    rintro e w1 ⟨rfl, hw1⟩
    obtain rfl := hw1.symm
    clear hw1
    go_wp2_with fail
    go_ret
    exact ⟨rfl, rfl⟩
  · have e0 : (N - 2048) / 2 = 0 := by omega
    rw [e0]
    have e1 : ¬ (0 : Int) ≤ (N : Int) - 2048 := by omega
    have e2 : Int.tdiv ((N : Int) - 2048) 2 ≤ 0 := by
      rw [show (N : Int) - 2048 = -((2048 - N : Nat) : Int) by omega, Int.neg_tdiv]
      have := Int.tdiv_nonneg (a := ((2048 - N : Nat) : Int)) (b := 2) (by omega) (by decide)
      omega
    clear e0 h1
    go_enter Tryz.func24, Tryz.ntmps24
    go_wp2_with fail
    refine HS.out.mono ?_
    rintro e w1 ⟨rfl, hw1⟩
    obtain rfl := hw1.symm
    clear hw1
    go_wp2_with fail
    go_ret
    exact ⟨ret_int (by have := e2; omega), rfl⟩
set_option maxRecDepth 100000 in
theorem len_any8 {w : World} {SG G Mb : Nat} {L : PLay} {CL CV : Nat → Prop} {x : SS} (h : PParts w SG G Mb L CL CV x) :
    Calls Tryz.prog 25 #[.pointer (some ⟨SG, 0, none⟩)] w fun e w' => e = .returned (.int .i64 (x.m.length : Int)) ∧ w' = w := by
  have c1 : w.cell? ⟨SG, 1, none⟩ = some (.map (some Mb)) := Blk.cell h.st (j := 1) rfl
  have hl := h.map.len 3
  generalize x.m.length = N at *
  clear h
  go_enter Tryz.func25, Tryz.ntmps25
  go_wp2
  go_ret
  exact ⟨rfl, rfl⟩
set_option maxRecDepth 100000 in
theorem broken_any8 {w : World} {SG G Mb : Nat} {L : PLay} {CL CV : Nat → Prop} {x : SS} (h : PParts w SG G Mb L CL CV x) :
    Calls Tryz.prog 13 #[.pointer (some ⟨SG, 0, none⟩)] w fun e w' => e = .returned (.bool x.br) ∧ w' = w := by
  have c1 : w.cell? ⟨SG, 2, none⟩ = some (.bool x.br) := Blk.cell h.st (j := 2) rfl
  clear h
  generalize x.br = N at *
  go_enter Tryz.func13, Tryz.ntmps13
  go_wp2
  go_ret
  exact ⟨rfl, rfl⟩
set_option maxRecDepth 100000 in
set_option maxHeartbeats 1000000 in
theorem mayHold_any {w : World} {SG G Mb : Nat} {L : PLay} {CL CV : Nat → Prop} {x : SS} (h : PParts w SG G Mb L CL CV x) {N : Nat} {C' : Nat → Prop} {m : PM} (hM : MapP w C' N m) (hp : PairsR m) (hml : m.length ≤ 1000000) :
    Calls Tryz.prog 35 #[.pointer (some ⟨SG, 0, none⟩), .map (some N)] w fun e w' => e = .returned (.bool (decide (sizeM m ≤ mostW x.s) && decide (m.length ≤ 4000))) ∧ Below w.heap.size w w' := by
  have HM : Hid (∀ W, Below w.heap.size w W → Calls Tryz.prog 24 #[.pointer (some ⟨SG, 0, none⟩)] W fun e w' => e = .returned (.int .i64 (mostW x.s : Int)) ∧ w' = W) := fun W hW => most_any8 (h.after hW)
  have HS : Hid (Calls Tryz.prog 58 #[.map (some N)] w fun e w' => e = .returned (.int .i64 (sizeM m : Int)) ∧ Below w.heap.size w w') := size_any8 N C' m w hM hp (by omega)
  have HL : Hid (∀ W, Below w.heap.size w W → ∀ ty, (Builtin.len_ #[71] ty #[.map (some N)]).run Tryz.prog W = .ok (.int .i64 (m.length : Int)) W) := fun W hW ty => (hM.after hW).len ty
  obtain ⟨R, hR⟩ : ∃ R, R = (decide (sizeM m ≤ mostW x.s) && decide (m.length ≤ 4000)) := ⟨_, rfl⟩
  rw [← hR]
  clear h hM
  generalize sizeM m = A at *
  generalize m.length = B at *
  generalize mostW x.s = D at *
  by_cases h1 : A ≤ D
  · have j1 : (A : Int) ≤ (D : Int) := by omega
    by_cases h2 : B ≤ 4000
    · have j2 : (B : Int) ≤ 4000 := by omega
      have HR : Hid (R = true) := by show _ = _; rw [hR]; simp [h1, h2]
      clear hR h1 h2
      go_enter Tryz.func35, Tryz.ntmps35
      go_wp2_with fail
      refine HS.out.mono ?_
      rintro e w1 ⟨rfl, hb1⟩
      go_wp2_with fail
      refine (HM.out w1 hb1).mono ?_
      rintro e w2 ⟨rfl, hw2⟩
      obtain rfl := hw2.symm
      clear hw2
      have hl := HL.out w1 hb1 3
      go_wp2_with fail
      go_ret
      rw [HR.out]
      exact ⟨rfl, hb1⟩
    · have j2 : ¬ (B : Int) ≤ 4000 := by omega
      have HR : Hid (R = false) := by show _ = _; rw [hR]; simp [h2]
      clear hR h1 h2
      go_enter Tryz.func35, Tryz.ntmps35
      go_wp2_with fail
      refine HS.out.mono ?_
      rintro e w1 ⟨rfl, hb1⟩
      go_wp2_with fail
      refine (HM.out w1 hb1).mono ?_
      rintro e w2 ⟨rfl, hw2⟩
      obtain rfl := hw2.symm
      clear hw2
      have hl := HL.out w1 hb1 3
      go_wp2_with fail
      go_ret
      rw [HR.out]
      exact ⟨congrArg (fun b => Ending.returned (Value.bool b)) (decide_eq_false (by omega)), hb1⟩
  · have j1 : ¬ (A : Int) ≤ (D : Int) := by omega
    have HR : Hid (R = false) := by show _ = _; rw [hR]; simp [h1]
    clear hR h1
    go_enter Tryz.func35, Tryz.ntmps35
    go_wp2_with fail
    refine HS.out.mono ?_
    rintro e w1 ⟨rfl, hb1⟩
    go_wp2_with fail
    refine (HM.out w1 hb1).mono ?_
    rintro e w2 ⟨rfl, hw2⟩
    obtain rfl := hw2.symm
    clear hw2
    go_wp2_with fail
    go_ret
    rw [HR.out]
    exact ⟨rfl, hb1⟩
end Go.Proofs.YtbegphfideopoaaGreat
