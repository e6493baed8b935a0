/-
  What is proved here: manifest.fields makes the fields of a manifest. manifest.values makes the values of a manifest. manifest.Encode answers the bytes of a manifest, or that it is none.
  Conditions: none. the manifest's numbers may be. those that the fact names.
-/
import Derived.Test.YtgfcindkfnjeoaaJManFresh
import Derived.Test.YtgfcindkfnjeoaaJPackWorld
import Derived.Test.YtgfcindkfnjeoaaJPackMost
namespace Go.Proofs.Ytgfcindkfnjeoaa
open Go.RowKit

def sumF : Fld := .mk 1 0 16777215 []
def manF : List Fld := [.mk 1 1 1073741824 [], .mk 1 1 32768 [], .mk 1 16 1024 [], .mk 2 32 32 [], .mk 3 1 128 [sumF]]
abbrev fldA (k : Int) (a b : Nat) (o : Value) : Array Value := #[.int .i64 k, .int .u64 (a : Int), .int .u64 (b : Int), o]
theorem fldA_one (k : Int) (a b : Nat) (ao : Option Addr) (n c : Nat) : (fldA k a b (.slice ao n c)).all (·.oneCell') = true := by simp [fldA, Value.oneCell']
def fldZ : List Value := (List.replicate 5 [Value.int .i64 0, .int .u64 0, .int .u64 0, .slice none 0 0]).flatten
theorem mk_flds (w : World) : (Instr.makeSlice 40 (.int .i64 5) (.int .i64 5)).run Try.prog w = .ok (.slice (some ⟨w.heap.size, 0, none⟩) 5 5) (w.alloc (.cells fldZ.toArray 62)) := by kernel_rfl
theorem info_fldM : (Try.prog.info? 62).map (·.size) = some 4 := by kernel_rfl
set_option maxRecDepth 100000 in
theorem flds1_any (a b : Nat) (w : World) : Calls Try.prog 71 #[.int .u64 (a : Int), .int .u64 (b : Int)] w fun e w' => e = .returned (.agg (fldA 1 a b (.slice none 0 0))) ∧ Below w.heap.size w w' := by
  go_enter Try.func71, Try.ntmps71
  go_wp2
  exact bodyPost_ret (v := .agg (fldA 1 a b (.slice none 0 0))) (by simp [results, Try.results71, go_sem, fldA]) rfl ⟨rfl, (Below.refl _ _).alloc (Nat.le_refl _) _⟩

/-- The cells of the fields of which the first i are laid. -/
def fldsC (i : Nat) (o : Value) : List Value := ([fldA 1 1 1073741824 (.slice none 0 0), fldA 1 1 32768 (.slice none 0 0), fldA 1 16 1024 (.slice none 0 0), fldA 2 32 32 (.slice none 0 0), fldA 3 1 128 o].map (·.toList)).flatten.take (4 * i) ++ fldZ.drop (4 * i)
set_option maxRecDepth 100000 in
set_option maxHeartbeats 2000000 in
theorem mflds_any (w : World) : Calls Try.prog 51 #[] w fun e w' => ∃ v, e = .returned v ∧ Flds w' 2 v manF ∧ Below w.heap.size w w' := by
  have H1 : Hid (∀ (a b : Nat) V, Calls Try.prog 71 #[.int .u64 (a : Int), .int .u64 (b : Int)] V fun e w' => e = .returned (.agg (fldA 1 a b (.slice none 0 0))) ∧ Below V.heap.size V w') := fun a b V => flds1_any a b V
  have hmk := mk_flds
  have hB0 := (Below.refl w.heap.size w).alloc (Nat.le_refl _) (.cells fldZ.toArray 62)
  have k0 := Blk.new w 62 fldZ.toArray
  have hi := info_fldM
  obtain ⟨g, hg⟩ : ∃ g, g = w.heap.size := ⟨_, rfl⟩
  have hgw : w.heap.size ≤ g := Nat.le_of_eq hg.symm
  rw [← hg] at k0
  have HG : Hid (w.heap.size = g) := hg.symm
  go_enter Try.func51, Try.ntmps51
  go_wp2_with fail
  rw [HG.out]
  clear hg hmk
  refine (H1.out 1 1073741824 _).mono ?_
  rintro e w1 ⟨rfl, hb1⟩
  have k1 := k0.below hb1 k0.lt
  have hB1 : Below w.heap.size w w1 := hB0.trans (hb1.mono hB0.size)
  clear k0 hb1 hB0
  go_wp2_with (refine store_mid rfl 62 _ _ rfl rfl g 0 (fldA 1 1 1073741824 (.slice none 0 0)) rfl rfl 62 _ k1 hi (by decide) (fldA_one _ _ _ _ _ _) ?_; intro W2 k2o hg2 hs2; clear hs2; have k2 : Blk W2 g 62 (fldsC 1 (.slice none 0 0)).toArray := k2o.of_eq rfl; clear k2o)
  have hB2 : Below w.heap.size w W2 := below_grown hB1 hg2 hB1.size (fun q hq => by cases hq; exact hgw)
  clear k1 hg2 hB1
  refine (H1.out 1 32768 _).mono ?_
  rintro e w3 ⟨rfl, hb3⟩
  have k3 := k2.below hb3 k2.lt
  have hB3 : Below w.heap.size w w3 := hB2.trans (hb3.mono hB2.size)
  clear k2 hb3 hB2
  go_wp2_with (refine store_mid rfl 62 _ _ rfl rfl g 4 (fldA 1 1 32768 (.slice none 0 0)) rfl rfl 62 _ k3 hi (by decide) (fldA_one _ _ _ _ _ _) ?_; intro W4 k4o hg4 hs4; clear hs4; have k4 : Blk W4 g 62 (fldsC 2 (.slice none 0 0)).toArray := k4o.of_eq rfl; clear k4o)
  have hB4 : Below w.heap.size w W4 := below_grown hB3 hg4 hB3.size (fun q hq => by cases hq; exact hgw)
  clear k3 hg4 hB3
  refine (H1.out 16 1024 _).mono ?_
  rintro e w5 ⟨rfl, hb5⟩
  have k5 := k4.below hb5 k4.lt
  have hB5 : Below w.heap.size w w5 := hB4.trans (hb5.mono hB4.size)
  clear k4 hb5 hB4
  go_wp2_with (first | (refine store_mid rfl 62 _ _ rfl rfl g 8 (fldA 1 16 1024 (.slice none 0 0)) rfl rfl 62 _ k5 hi (by decide) (fldA_one _ _ _ _ _ _) ?_; intro W6 k6o hg6 hs6; clear hs6; have k6 : Blk W6 g 62 (fldsC 3 (.slice none 0 0)).toArray := k6o.of_eq rfl; clear k6o) | (refine store_mid rfl 62 _ _ rfl rfl g 12 (fldA 2 32 32 (.slice none 0 0)) rfl rfl 62 _ k6 hi (by decide) (fldA_one _ _ _ _ _ _) ?_; intro W7 k7o hg7 hs7; clear hs7; have k7 : Blk W7 g 62 (fldsC 4 (.slice none 0 0)).toArray := k7o.of_eq rfl; clear k7o))
  have hB6 : Below w.heap.size w W6 := below_grown hB5 hg6 hB5.size (fun q hq => by cases hq; exact hgw)
  have hB7 : Below w.heap.size w W7 := below_grown hB6 hg7 hB6.size (fun q hq => by cases hq; exact hgw)
  clear k5 hg6 hB5 k6 hg7 hB6
  refine (H1.out 0 16777215 _).mono ?_
  rintro e w8 ⟨rfl, hb8⟩
  have k8 := k7.below hb8 k7.lt
  have hB8 : Below w.heap.size w w8 := hB7.trans (hb8.mono hB7.size)
  have k9 := k8.alloc (.cells (fldA 1 0 16777215 (.slice none 0 0)) 62)
  have kn := Blk.new w8 62 (fldA 1 0 16777215 (.slice none 0 0))
  have hgl := k8.lt
  clear k7 hb8 hB7
  go_wp2_with (refine store_mid rfl 62 _ _ rfl rfl g 16 (fldA 3 1 128 (.slice (some ⟨w8.heap.size, 0, none⟩) 1 1)) rfl rfl 62 _ (by exact k9) hi (by show 16 + 4 ≤ (fldsC 4 (.slice none 0 0)).toArray.size; decide) (fldA_one _ _ _ _ _ _) ?_; intro W9 k9o hg9 hs9; clear hs9; have k9' : Blk W9 g 62 (fldsC 5 (.slice (some ⟨w8.heap.size, 0, none⟩) 1 1)).toArray := k9o.of_eq rfl; clear k9o)
  have hBa := hB8.alloc hB8.size (.cells (fldA 1 0 16777215 (.slice none 0 0)) 62)
  have hB9 : Below w.heap.size w W9 := below_grown hBa hg9 hBa.size (fun q hq => by cases hq; exact hgw)
  have kn9 : Blk W9 w8.heap.size 62 (fldA 1 0 16777215 (.slice none 0 0)) := kn.grown hg9 (by simp; omega)
  go_ret
  refine ⟨_, rfl, ?_, hB9⟩
  have HN : Flds W9 1 (.slice (some ⟨w8.heap.size, 0, none⟩) 1 1) [sumF] := by
    refine ⟨_, 1, rfl, by decide, fun _ => ⟨w8.heap.size, 0, rfl, kn9.lt, Nat.le_refl _, fun i f hf => ?_⟩⟩
    match i, hf with
    | 0, hf =>
      cases hf
      exact ⟨kn9.cell (j := 0) rfl, kn9.cell (j := 1) rfl, kn9.cell (j := 2) rfl, ⟨_, kn9.cell (j := 3) rfl, rfl, rfl⟩, by decide, by decide⟩
    | (i + 1), hf => cases hf
  have HZ : Flds W9 1 (.slice none 0 0) [] := ⟨none, 0, rfl, by decide, fun h => by simp at h⟩
  refine ⟨some ⟨g, 0, none⟩, 5, rfl, by decide, fun _ => ⟨g, 0, rfl, k9'.lt, by decide, fun i f hf => ?_⟩⟩
  match i, hf with
  | 0, hf => cases hf; exact ⟨k9'.cell (j := 0) rfl, k9'.cell (j := 1) rfl, k9'.cell (j := 2) rfl, ⟨_, k9'.cell (j := 3) rfl, HZ⟩, by decide, by decide⟩
  | 1, hf => cases hf; exact ⟨k9'.cell (j := 4) rfl, k9'.cell (j := 5) rfl, k9'.cell (j := 6) rfl, ⟨_, k9'.cell (j := 7) rfl, HZ⟩, by decide, by decide⟩
  | 2, hf => cases hf; exact ⟨k9'.cell (j := 8) rfl, k9'.cell (j := 9) rfl, k9'.cell (j := 10) rfl, ⟨_, k9'.cell (j := 11) rfl, HZ⟩, by decide, by decide⟩
  | 3, hf => cases hf; exact ⟨k9'.cell (j := 12) rfl, k9'.cell (j := 13) rfl, k9'.cell (j := 14) rfl, ⟨_, k9'.cell (j := 15) rfl, HZ⟩, by decide, by decide⟩
  | 4, hf => cases hf; exact ⟨k9'.cell (j := 16) rfl, k9'.cell (j := 17) rfl, k9'.cell (j := 18) rfl, ⟨_, k9'.cell (j := 19) rfl, HN⟩, by decide, by decide⟩
  | (i + 5), hf => cases hf
end Go.Proofs.Ytgfcindkfnjeoaa
namespace Go.Proofs.Ytgfcindkfnjeoaa
open Go.RowKit

/-- A manifest's values. -/
def sumV (x : BitVec 32) : List Val := [.mk x.toNat [] []]
def manVs (m : MM) : List Val := [.mk m.v.toNat [] [], .mk m.s.toNat [] [], .mk m.c.toNat [] [], .mk 0 m.h [], .mk 0 [] (m.u.map sumV)]
abbrev nilS : Value := .slice none 0 0
abbrev valsA (a b c : Int) (h l : Value) : Array Value := #[.int .u64 a, nilS, nilS, .int .u64 b, nilS, nilS, .int .u64 c, nilS, nilS, .int .u64 0, h, nilS, .int .u64 0, nilS, l]
theorem mk_vals (w : World) : (Instr.makeSlice 42 (.int .i64 5) (.int .i64 5)).run Try.prog w = .ok (.slice (some ⟨w.heap.size, 0, none⟩) 5 5) (w.alloc (.cells (valsA 0 0 0 nilS nilS) 68)) := by kernel_rfl
theorem info_rowM : (Try.prog.info? 42).map (fun i => (i.zero, i.size, i.bytes)) = some (some (.slice none 0 0), 1, 24) := by kernel_rfl
/-- Rows of one number each, gathered. -/
structure Rws (w : World) (base : Nat) (lv : Value) (rs : List Value) (u : List (BitVec 32)) : Prop where
  own : w.ownsRow base 42 1 lv u.length rs
  len : rs.length = u.length
  rows : ∀ (i : Nat) (r : Value) (x : BitVec 32), rs[i]? = some r → u[i]? = some x → ∃ b, r = .slice (some ⟨b, 0, none⟩) 1 1 ∧ base ≤ b ∧ Blk w b 68 #[.int .u64 (n32 x), nilS, nilS]
theorem Rws.nil (w : World) (base : Nat) : Rws w base nilS [] [] := ⟨⟨rfl, .inl ⟨rfl, rfl⟩⟩, rfl, fun i r x h => by simp at h⟩
theorem Rws.blk {w : World} {base : Nat} {lv : Value} {rs : List Value} {u : List (BitVec 32)} (h : Rws w base lv rs u) (k : Nat) (hk : lv.ownBlock = some k) : ∃ cur, Blk w k 42 cur := by
  rcases h.own.2 with ⟨h1, _⟩ | ⟨g, cap, cur, h1, _, h3, _⟩
  · rw [h1] at hk; cases hk
  · rw [h1] at hk; cases hk; exact ⟨cur, h3⟩
theorem tv_ne : (68 : TypeId) ≠ 42 := by decide
/-- One row more. -/
theorem app_rowM (w : World) (base : Nat) (lv : Value) (rs : List Value) (u : List (BitVec 32)) (h : Rws w base lv rs u) (x : BitVec 32) (hlen : u.length ≤ 1000000) (hbase : base ≤ w.heap.size) :
    ∃ v' w', (∀ ty, (Builtin.append_ #[66, 66] ty #[lv, .slice (some ⟨w.heap.size + 1, 0, none⟩) 1 1]).run Try.prog ((w.alloc (.cells #[.int .u64 (n32 x), nilS, nilS] 68)).alloc (.cells #[.slice (some ⟨w.heap.size, 0, none⟩) 1 1] 42)) = .ok v' w') ∧ Rws w' base v' (rs ++ [.slice (some ⟨w.heap.size, 0, none⟩) 1 1]) (u ++ [x]) ∧ ((w.alloc (.cells #[.int .u64 (n32 x), nilS, nilS] 68)).alloc (.cells #[.slice (some ⟨w.heap.size, 0, none⟩) 1 1] 42)).grownBy w' lv.ownBlock ∧ ∃ ao c, v' = .slice ao (u.length + 1) c := by
  obtain ⟨W, hW⟩ : ∃ W, W = (w.alloc (.cells #[.int .u64 (n32 x), nilS, nilS] 68)).alloc (.cells #[.slice (some ⟨w.heap.size, 0, none⟩) 1 1] 42) := ⟨_, rfl⟩
  have hb : Below w.heap.size w W := by rw [hW]; exact ((Below.refl _ _).alloc (Nat.le_refl _) _).alloc (by simp) _
  have kx : Blk W w.heap.size 68 #[.int .u64 (n32 x), nilS, nilS] := by rw [hW]; exact (Blk.new _ _ _).alloc _
  have kr : Blk W (w.heap.size + 1) 42 #[.slice (some ⟨w.heap.size, 0, none⟩) 1 1] := by rw [hW]; exact Blk.newAt _ _ _ _ (by simp)
  have hown : W.ownsRow base 42 1 lv u.length rs := by rw [hW]; exact World.ownsRow.alloc (World.ownsRow.alloc h.own _) _
  have hsz : w.heap.size + 2 = W.heap.size := by rw [hW]; simp
  rw [← hW]
  obtain ⟨i0, hi, hz0, hz1, hz2⟩ := info_parts info_rowM
  obtain ⟨v', w', h0, h2, h3, _, _⟩ := run_append_own_at (P := Try.prog) W base 66 66 42 i0 (.slice none 0 0) 1 24 (by kernel_rfl) hi hz0 hz1 hz2 rfl (by decide) lv u.length rs hown ⟨w.heap.size + 1, 0, none⟩ 1 1 [.slice (some ⟨w.heap.size, 0, none⟩) 1 1] rfl (fun j y hy => by
    match j, hy with
    | 0, hy => cases hy; exact kr.cell (j := 0) rfl
    | (j + 1), hy => cases hy) (fun y hy => by rw [show y = .slice (some ⟨w.heap.size, 0, none⟩) 1 1 by simpa using hy]; rfl) (by unfold maxLen; omega) (by omega) (by omega)
  have hne : ∀ b arr, Blk W b 68 arr → some b ≠ lv.ownBlock := fun b arr hk e => by
    obtain ⟨cur, hc⟩ := h.blk b e.symm
    have hc' := hc.below hb hc.lt
    unfold Blk at hk hc'
    rw [hk] at hc'
    injection hc' with hc'
    injection hc' with _ ht
    exact tv_ne ht
  refine ⟨v', w', fun ty => h0, ⟨by rw [List.length_append]; exact h2, by simp [h.len], fun i r y hr hy => ?_⟩, h3, ?_⟩
  · rcases Nat.lt_or_ge i u.length with hi' | hi'
    · rw [List.getElem?_append_left (by rw [h.len]; exact hi')] at hr
      rw [List.getElem?_append_left hi'] at hy
      obtain ⟨b, e, hb1, hk⟩ := h.rows i r y hr hy
      have hkW := hk.below hb hk.lt
      exact ⟨b, e, hb1, hkW.grown h3 (hne b _ hkW)⟩
    · rw [List.getElem?_append_right (by rw [h.len]; exact hi'), h.len] at hr
      rw [List.getElem?_append_right hi'] at hy
      match hd : i - u.length, hr, hy with
      | 0, hr, hy =>
        simp at hr hy
        subst hr
        subst hy
        exact ⟨_, rfl, hbase, kx.grown h3 (hne _ _ kx)⟩
      | (n + 1), hr, hy => simp at hr
  · rcases h2.2 with ⟨h5, h6⟩ | ⟨g, cap, cur, h5, _⟩
    · simp at h6
    · exact ⟨_, cap, h5⟩
theorem conv_u64M (n : Nat) (h : n < 18446744073709551616) (w : World) : (convert 3 60 (.int .i64 (n : Int))).run Try.prog w = .ok (.int .u64 (n : Int)) w := by
  have hw : IntKind.u64.wrap (n : Int) = (n : Int) := by rw [IntKind.wrap_u64]; omega
  have h2 : (convert 3 60 (.int .i64 (n : Int))).run Try.prog w = .ok (.int .u64 (IntKind.u64.wrap (n : Int))) w := by kernel_rfl
  rw [h2, hw]
theorem conv_u32M (x : BitVec 32) (w : World) : (convert 74 60 (v32 x)).run Try.prog w = .ok (.int .u64 (n32 x)) w := by
  have hx := x.isLt
  have hw : IntKind.u64.wrap (n32 x) = n32 x := by rw [IntKind.wrap_u64]; unfold n32; omega
  have h2 : (convert 74 60 (v32 x)).run Try.prog w = .ok (.int .u64 (IntKind.u64.wrap (n32 x))) w := by kernel_rfl
  rw [h2, hw]
theorem app_ranM (w w' : World) {ops : Array Oper} {rest : List Oper} {o : Oper} {a : Act} {Q : Exit → Act → World → Prop} (hgd : o.guard = none) (s x : Operand) (t : TypeId) (ho : o.op = .call { callee := .builtin .append, args := #[s, x], argTypes := #[t, t] }) (vs vx v' : Value) (hs : a.eval s = vs) (hx : a.eval x = vx)
    (hr : ∀ ty, (Builtin.append_ #[t, t] ty #[vs, vx]).run Try.prog w = .ok v' w') (h : wpList Try.prog ops Q rest (a.put o.dst v') w') : wpList Try.prog ops Q (o :: rest) a w := by
  refine wpList_plain hgd fun K hK => ?_
  unfold Oper.wp execOp
  simp only [ho, resolve, invoke, builtin, Sem.run_bind, Sem.run_pure, Result.andThen_ok, List.map_toArray, List.map_cons, List.map_nil, hs, hx, hr]
  exact hK _ _ h
theorem Rws.shape {w : World} {base : Nat} {lv : Value} {rs : List Value} {u : List (BitVec 32)} (h : Rws w base lv rs u) : ∃ ao c, lv = .slice ao u.length c := by
  rcases h.own.2 with ⟨h1, h2⟩ | ⟨g, cap, cur, h1, _⟩
  · refine ⟨none, 0, ?_⟩
    rw [h1]
    congr 1
    omega
  · exact ⟨_, cap, h1⟩
theorem Rws.grown {w w' : World} {base : Nat} {lv : Value} {rs : List Value} {u : List (BitVec 32)} {g : Nat} (h : Rws w base lv rs u) (hg : w.grownBy w' (some g)) (hb : g < base) : Rws w' base lv rs u := by
  refine ⟨World.ownsRow.kept h.own hg ?_, h.len, fun i r x hr hx => ?_⟩
  · cases hk : lv.ownBlock with
    | none => exact .inl rfl
    | some k => exact .inr (fun e => by have := (World.ownsRow.lt h.own k hk).1; cases e; omega)
  · obtain ⟨b, e, hb1, hk⟩ := h.rows i r x hr hx
    exact ⟨b, e, hb1, hk.grown hg (fun e => by cases e; omega)⟩
theorem Rws.recs {w : World} {base : Nat} {lv : Value} {rs : List Value} {u : List (BitVec 32)} (h : Rws w base lv rs u) (hu : u.length ≤ 1000000) : ∃ ao c, lv = .slice ao (u.map sumV).length c ∧ (u.map sumV).length ≤ maxLen ∧ (0 < (u.map sumV).length → ∃ b off, ao = some ⟨b, off, none⟩ ∧ b < w.heap.size ∧ (u.map sumV).length ≤ c ∧ ∀ k r, (u.map sumV)[k]? = some r → ∃ rv, w.cell? ⟨b, off + k, none⟩ = some rv ∧ Vals w 1 rv r) := by
  obtain ⟨ao, c, hlv⟩ := h.shape
  refine ⟨ao, c, by rw [List.length_map]; exact hlv, by rw [List.length_map]; unfold maxLen; omega, fun h0 => ?_⟩
  rw [List.length_map] at h0 ⊢
  obtain ⟨g, cap, hv, hb, hl⟩ := World.ownsRow.form h.own h0
  rw [hlv] at hv
  cases hv
  have hcap : u.length ≤ c := by
    rcases h.own.2 with ⟨h1, _⟩ | ⟨g', cap', cur, h1, _, _, h4, _⟩
    · rw [hlv] at h1; cases h1
    · rw [hlv] at h1; cases h1; exact h4
  refine ⟨g, 0, rfl, hl, hcap, fun k r hr => ?_⟩
  rw [List.getElem?_map] at hr
  cases hx : u[k]? with
  | none => rw [hx] at hr; cases hr
  | some x =>
    rw [hx] at hr
    cases hr
    have hk : k < u.length := by
      rcases Nat.lt_or_ge k u.length with h | h
      · exact h
      · rw [List.getElem?_eq_none h] at hx; cases hx
    have hrs : k < rs.length := by rw [h.len]; exact hk
    obtain ⟨b, e, _, hk2⟩ := h.rows k rs[k] x (List.getElem?_eq_getElem hrs) hx
    have hc := World.ownsRow.cells h.own (g := g) (by rw [hlv]; rfl) k rs[k] (List.getElem?_eq_getElem hrs)
    rw [Addr.add_mid] at hc
    refine ⟨rs[k], hc, ?_⟩
    rw [e]
    refine ⟨_, 1, rfl, show (1 : Nat) ≤ maxLen by decide, fun _ => ⟨b, 0, rfl, hk2.lt, Nat.le_refl _, fun i y hy => ?_⟩⟩
    match i, hy with
    | 0, hy =>
      cases hy
      have hxl := x.isLt
      exact ⟨hk2.cell (j := 0) rfl, ⟨_, hk2.cell (j := 1) rfl, seg_nil _, Nat.zero_le _⟩, ⟨none, 0, hk2.cell (j := 2) rfl, Nat.zero_le _, fun h => by simp [Val.l] at h⟩, by show x.toNat < _; omega⟩
    | (i + 1), hy => cases hy
/-! One cell of a known block is stored. -/
theorem store_u64M {w : World} {ops : Array Oper} {rest : List Oper} {o : Oper} {a : Act} {Q : Exit → Act → World → Prop} (hgd : o.guard = none) (x y : Operand) (ho : o.op = .store 60 x y) (hd : o.dst = none) (g i : Nat) (z : Int) (hx : a.eval x = .pointer (some ⟨g, i, none⟩)) (hy : a.eval y = .int .u64 z) (t : TypeId) (old : Array Value) (hg : Blk w g t old) (hi : i < old.size)
    (hK : ∀ w', Blk w' g t (old.setIfInBounds i (.int .u64 z)) → w.grownBy w' (some g) → wpList Try.prog ops Q rest a w') : wpList Try.prog ops Q (o :: rest) a w := by
  have hc : w.cell? ⟨g, i, none⟩ = some old[i] := hg.cell (by simp [hi])
  have hf := hg.frozen i
  have hrun : (execOp a.eval o).run Try.prog w = .ok .skip (w.setCell ⟨g, i, none⟩ (.int .u64 z)) := by
    unfold execOp
    simp only [ho, hx, hy]
    simp [go_sem, hc, hf]
  refine wpList_plain hgd fun K hK' => ?_
  unfold Oper.wp
  rw [hrun, Oper.upon_skip, hd]
  exact hK' _ _ (hK _ (hg.set i _) (grown_setCellM w g i _))
theorem store_sliceM {w : World} {ops : Array Oper} {rest : List Oper} {o : Oper} {a : Act} {Q : Exit → Act → World → Prop} (hgd : o.guard = none) (x y : Operand) (ho : o.op = .store 26 x y) (hd : o.dst = none) (g i : Nat) (ao : Option Addr) (n c : Nat) (hx : a.eval x = .pointer (some ⟨g, i, none⟩)) (hy : a.eval y = .slice ao n c) (t : TypeId) (old : Array Value) (hg : Blk w g t old) (hi : i < old.size)
    (hK : ∀ w', Blk w' g t (old.setIfInBounds i (.slice ao n c)) → w.grownBy w' (some g) → wpList Try.prog ops Q rest a w') : wpList Try.prog ops Q (o :: rest) a w := by
  have hc : w.cell? ⟨g, i, none⟩ = some old[i] := hg.cell (by simp [hi])
  have hf := hg.frozen i
  have hrun : (execOp a.eval o).run Try.prog w = .ok .skip (w.setCell ⟨g, i, none⟩ (.slice ao n c)) := by
    unfold execOp
    simp only [ho, hx, hy]
    simp [go_sem, hc, hf]
  refine wpList_plain hgd fun K hK' => ?_
  unfold Oper.wp
  rw [hrun, Oper.upon_skip, hd]
  exact hK' _ _ (hK _ (hg.set i _) (grown_setCellM w g i _))
theorem store_recsM {w : World} {ops : Array Oper} {rest : List Oper} {o : Oper} {a : Act} {Q : Exit → Act → World → Prop} (hgd : o.guard = none) (x y : Operand) (ho : o.op = .store 66 x y) (hd : o.dst = none) (g i : Nat) (ao : Option Addr) (n c : Nat) (hx : a.eval x = .pointer (some ⟨g, i, none⟩)) (hy : a.eval y = .slice ao n c) (t : TypeId) (old : Array Value) (hg : Blk w g t old) (hi : i < old.size)
    (hK : ∀ w', Blk w' g t (old.setIfInBounds i (.slice ao n c)) → w.grownBy w' (some g) → wpList Try.prog ops Q rest a w') : wpList Try.prog ops Q (o :: rest) a w := by
  have hc : w.cell? ⟨g, i, none⟩ = some old[i] := hg.cell (by simp [hi])
  have hf := hg.frozen i
  have hrun : (execOp a.eval o).run Try.prog w = .ok .skip (w.setCell ⟨g, i, none⟩ (.slice ao n c)) := by
    unfold execOp
    simp only [ho, hx, hy]
    simp [go_sem, hc, hf]
  refine wpList_plain hgd fun K hK' => ?_
  unfold Oper.wp
  rw [hrun, Oper.upon_skip, hd]
  exact hK' _ _ (hK _ (hg.set i _) (grown_setCellM w g i _))
set_option maxRecDepth 100000 in
set_option maxHeartbeats 2000000 in
theorem values_any (m : MM) (su : Value) (w : World) (hh : m.h.length = 32) (hm : m.u.length ≤ 128) (hu : Wds w su m.u) (hn : numsOk m) :
    Calls Try.prog 52 #[manV m su] w fun e w' => ∃ v, e = .returned v ∧ Vals w' 2 v (manVs m) ∧ Below w.heap.size w w' := by
  obtain ⟨⟨v1, v2⟩, ⟨s1, s2⟩, ⟨d1, d2⟩, _⟩ := hn
  have hB0 : Below w.heap.size w ((w.alloc (.cells (manC m su) 25)).alloc (.cells (valsA 0 0 0 nilS nilS) 68)) := ((Below.refl _ _).alloc (Nat.le_refl _) _).alloc (by simp) _
  have kb := (Blk.new w 25 (manC m su)).alloc (.cells (valsA 0 0 0 nilS nilS) 68)
  have kv : Blk ((w.alloc (.cells (manC m su) 25)).alloc (.cells (valsA 0 0 0 nilS nilS) 68)) (w.heap.size + 1) 68 (valsA 0 0 0 nilS nilS) := Blk.newAt _ _ _ _ (by simp)
  have hmk := mk_vals
  have c0 := kb.cell (manC_0 m su)
  have c1 := kb.cell (manC_1 m su)
  have c2 := kb.cell (manC_2 m su)
  have c35 := kb.cell (manC_35 m su hh)
  have hu0 := hu.below hB0 (Nat.le_refl _)
  obtain ⟨vn, hvn⟩ : ∃ n : Nat, m.v = n := ⟨m.v.toNat, by omega⟩
  obtain ⟨sn, hsn⟩ : ∃ n : Nat, m.s = n := ⟨m.s.toNat, by omega⟩
  obtain ⟨cn, hcn⟩ : ∃ n : Nat, m.c = n := ⟨m.c.toNat, by omega⟩
  rw [hvn] at c0 v2
  rw [hsn] at c1 s2
  rw [hcn] at c2 d2
  have cv0 := conv_u64M vn (by omega)
  have cv1 := conv_u64M sn (by omega)
  have cv2 := conv_u64M cn (by omega)
  have HMV : Hid (manVs m = [.mk vn [] [], .mk sn [] [], .mk cn [] [], .mk 0 m.h [], .mk 0 [] (m.u.map sumV)]) := by
    show _ = _
    unfold manVs
    rw [hvn, hsn, hcn]
    rfl
  rw [HMV.out]
  have HRG : Hid (∀ V, Blk V w.heap.size 25 (manC m su) → Seg V (.slice (some ⟨w.heap.size, 3, none⟩) 32 32) m.h) := fun V hV => by
    refine Seg.of_row (fun j hj => ?_) hh (Nat.le_refl _) hV.lt
    rw [hV.cell (manC_hash m su j hj)]
  have HU : Hid (∀ V, Below w.heap.size w V → Wds V su m.u) := fun V hV => hu.below hV (Nat.le_refl _)
  obtain ⟨ao, c, rfl⟩ := hu.shape
  clear hu hu0 v1 s1 d1 HMV hvn hsn hcn
  unfold manV
  generalize manC m (.slice ao m.u.length c) = MC at *
  generalize m.u = U at *
  go_enter Try.func52, Try.ntmps52
  obtain ⟨Bm, hBm⟩ : ∃ Bm, Bm = w.heap.size := ⟨_, rfl⟩
  obtain ⟨g, hg⟩ : ∃ g, g = w.heap.size + 1 := ⟨_, rfl⟩
  have hneB : Bm ≠ g := by omega
  have hgw : w.heap.size ≤ g := by omega
  go_wp2_with (first | (refine store_u64M rfl _ _ rfl rfl (w.heap.size + 1) 0 (vn : Int) rfl rfl 68 _ (by exact kv) (by decide) ?_; intro W1 kv1 hg1; have kb1 := kb.grown hg1 (by simp); have c11 : W1.cell? ⟨w.heap.size, 1, none⟩ = some (.int .i64 (sn : Int)) := ((hg1.cell c1 (by simp)))) | (refine store_u64M rfl _ _ rfl rfl (w.heap.size + 1) 3 (sn : Int) rfl rfl 68 _ kv1 (by simp) ?_; intro W2 kv2 hg2; have kb2 := kb1.grown hg2 (by simp); have c12 : W1.cell? ⟨w.heap.size, 2, none⟩ = some (.int .i64 (cn : Int)) := (hg1.cell c2 (by simp)); have c22 : W2.cell? ⟨w.heap.size, 2, none⟩ = some (.int .i64 (cn : Int)) := (hg2.cell c12 (by simp))) | (refine store_u64M rfl _ _ rfl rfl (w.heap.size + 1) 6 (cn : Int) rfl rfl 68 _ kv2 (by simp) ?_; intro W3 kv3 hg3; have kb3 := kb2.grown hg3 (by simp)) | (refine store_sliceM rfl _ _ rfl rfl (w.heap.size + 1) 10 (some ⟨w.heap.size, 3, none⟩) 32 32 rfl rfl 68 _ kv3 (by simp) ?_; intro W4 kv4 hg4; have kb4 := kb3.grown hg4 (by simp); have c135 := hg1.cell c35 (by simp); have c235 := hg2.cell c135 (by simp); have c335 := hg3.cell c235 (by simp); have c435 := hg4.cell c335 (by simp)))
  have kv5 : Blk W4 (w.heap.size + 1) 68 (valsA vn sn cn (.slice (some ⟨w.heap.size, 3, none⟩) 32 32) nilS) := kv4.of_eq rfl
  have hB4 : Below w.heap.size w W4 := below_grown (below_grown (below_grown (below_grown hB0 hg1 hB0.size (fun q hq => by cases hq; omega)) hg2 (by have := hg1.size; have := hB0.size; omega) (fun q hq => by cases hq; omega)) hg3 (by have := hg1.size; have := hg2.size; have := hB0.size; omega) (fun q hq => by cases hq; omega)) hg4 (by have := hg1.size; have := hg2.size; have := hg3.size; have := hB0.size; omega) (fun q hq => by cases hq; omega)
  have HBm : Hid (Bm = w.heap.size) := hBm
  have HG : Hid (g = w.heap.size + 1) := hg
  rw [← hg, ← hBm] at kv5 ⊢
  rw [← hBm] at kb4 HRG
  have l4 : g < W4.heap.size := by rw [hg]; exact kv4.lt
  have lB4 : Bm < W4.heap.size := kb4.lt
  clear kv kv1 kv2 kv3 kv4 kb kb1 kb2 kb3 hg1 hg2 hg3 hg4 c0 c1 c2 c35 c11 c12 c22 c135 c235 c335 c435 cv0 cv1 cv2 hmk hB0 hBm hg
  go_loopw [33] (fun i wr => ∃ (k : Nat) (lv : Value) (rs : List Value), k ≤ U.length ∧ i = .int .i64 (k : Int) ∧ Blk wr g 68 (valsA vn sn cn (.slice (some ⟨Bm, 3, none⟩) 32 32) lv) ∧ Rws wr W4.heap.size lv rs (U.take k) ∧ Below w.heap.size w wr ∧ Blk wr Bm 25 MC ∧ W4.heap.size ≤ wr.heap.size) (fun i _ => U.length - (intOf i).toNat)
  case atStart => exact ⟨0, nilS, [], Nat.zero_le _, rfl, kv5, by simpa using Rws.nil _ _, hB4, kb4, Nat.le_refl _⟩
  case round =>
    clear kv5 hB4 kb4
    obtain ⟨k, lv, rs, hk, rfl, kv, hR, hB, kb, hsz⟩ := hrel
    by_cases hlt : k < U.length
    · obtain ⟨ao', c', e', hrw⟩ := HU.out wr hB
      cases e'
      obtain ⟨b, off, rfl, hcc, hrow, hbl⟩ := hrw (by omega)
      have cx := hrow k hlt
      have HTK : Hid (U.take (k + 1) = U.take k ++ [U[k]]) := List.take_succ_eq_append_getElem hlt
      have hul : (U.take k).length ≤ 1000000 := by simp; omega
      obtain ⟨y, hy⟩ : ∃ y, y = U[k] := ⟨_, rfl⟩
      rw [← hy] at cx HTK
      have cv := conv_u32M y
      have i1 : (k : Int) < (U.length : Int) := by omega
      obtain ⟨v2, w2, hr2, hR2, hg2, a2, c2, rfl⟩ := app_rowM wr W4.heap.size lv rs (U.take k) hR y hul hsz
      obtain ⟨al, cl, rfl⟩ := hR.shape
      have c14 : wr.cell? ⟨g, 14, none⟩ = some _ := kv.cell (j := 14) rfl
      have hb2 : Below wr.heap.size wr ((wr.alloc (.cells #[.int .u64 (n32 y), nilS, nilS] 68)).alloc (.cells #[.slice (some ⟨wr.heap.size, 0, none⟩) 1 1] 42)) := ((Below.refl _ _).alloc (Nat.le_refl _) _).alloc (by simp) _
      have hneo : ∀ q, q < W4.heap.size → some q ≠ (Value.slice al (U.take k).length cl).ownBlock := fun q hq e => by have := (World.ownsRow.lt hR.own q e.symm).1; omega
      have kv2 := (kv.below hb2 kv.lt).grown hg2 (hneo g l4)
      have kb2 := (kb.below hb2 kb.lt).grown hg2 (hneo Bm lB4)
      have hB2 : Below w.heap.size w w2 := below_grown (hB.trans (hb2.mono hB.size)) hg2 (Nat.le_trans hB.size hb2.size) (fun q hq => by have := (World.ownsRow.lt hR.own q hq).1; have := hB.size; omega)
      have hs2 : wr.heap.size ≤ w2.heap.size := Nat.le_trans hb2.size hg2.size
      clear hrow hy hneo hg2 hR
      generalize (U.take k).length = UL at *
      go_wp2_with (first | (at_builtin; refine app_ranM _ w2 rfl _ _ 66 rfl (.slice al UL cl) (.slice (some ⟨wr.heap.size + 1, 0, none⟩) 1 1) (.slice a2 (UL + 1) c2) rfl rfl (by exact hr2) ?_) | (refine store_recsM rfl _ _ rfl rfl g 14 a2 (UL + 1) c2 rfl rfl 68 _ kv2 (by simp) ?_; intro W3 kv3 hg3))
      go_roundw
      case rel => exact ⟨k + 1, _, _, hlt, by go_num, kv3.of_eq rfl, by rw [HTK.out]; exact hR2.grown hg3 l4, below_grown hB2 hg3 hB2.size (fun q hq => by cases hq; exact hgw), kb2.grown hg3 (by simpa using hneB), Nat.le_trans hsz (Nat.le_trans hs2 hg3.size)⟩
      case measure => simp [intOf]; omega
    · obtain rfl : k = U.length := by omega
      have i1 : ¬ (U.length : Int) < (U.length : Int) := by omega
      rw [List.take_of_length_le (Nat.le_refl _)] at hR
      have hrec := hR.recs (by omega)
      have hhs := HRG.out wr kb
      go_wp2
      go_ret
      refine ⟨_, rfl, ?_, hB⟩
      refine ⟨some ⟨g, 0, none⟩, 5, rfl, show (5 : Nat) ≤ maxLen by decide, fun _ => ⟨g, 0, rfl, kv.lt, Nat.le_refl 5, fun i x hx => ?_⟩⟩
      match i, hx with
      | 0, hx => cases hx; exact ⟨kv.cell (j := 0) rfl, ⟨_, kv.cell (j := 1) rfl, seg_nil _, Nat.zero_le _⟩, ⟨none, 0, kv.cell (j := 2) rfl, Nat.zero_le _, fun h => by simp [Val.l] at h⟩, by show vn < _; omega⟩
      | 1, hx => cases hx; exact ⟨kv.cell (j := 3) rfl, ⟨_, kv.cell (j := 4) rfl, seg_nil _, Nat.zero_le _⟩, ⟨none, 0, kv.cell (j := 5) rfl, Nat.zero_le _, fun h => by simp [Val.l] at h⟩, by show sn < _; omega⟩
      | 2, hx => cases hx; exact ⟨kv.cell (j := 6) rfl, ⟨_, kv.cell (j := 7) rfl, seg_nil _, Nat.zero_le _⟩, ⟨none, 0, kv.cell (j := 8) rfl, Nat.zero_le _, fun h => by simp [Val.l] at h⟩, by show cn < _; omega⟩
      | 3, hx => cases hx; exact ⟨kv.cell (j := 9) rfl, ⟨_, kv.cell (j := 10) rfl, hhs, by show m.h.length ≤ maxLen; rw [hh]; decide⟩, ⟨none, 0, kv.cell (j := 11) rfl, Nat.zero_le _, fun h => by simp [Val.l] at h⟩, by show 0 < _; omega⟩
      | 4, hx =>
        cases hx
        obtain ⟨a5, c5, e5, h5, h6⟩ := hrec
        exact ⟨kv.cell (j := 12) rfl, ⟨_, kv.cell (j := 13) rfl, seg_nil _, Nat.zero_le _⟩, ⟨a5, c5, (kv.cell (j := 14) rfl).trans (by rw [e5]; rfl), h5, h6⟩, by show 0 < _; omega⟩
      | (i + 5), hx => cases hx
end Go.Proofs.Ytgfcindkfnjeoaa
namespace Go.Proofs.Ytgfcindkfnjeoaa
open Go.RowKit

/-- A manifest's bytes. -/
def encM (m : MM) : Option (List UInt8) := if okM m then encTop manF (manVs m) else none
theorem exec_noneM {a : Act} {o : Oper} {w : World} (f : FuncId) (ts : Array TypeId) (ho : o.op = .call { callee := .value (.func f), args := #[], argTypes := ts }) (hc : ∀ args w, (callFunc f args).run Try.prog w = .ok (.enter f args) w) : (execOp a.eval o).run Try.prog w = .ok (.enter f #[]) w := by
  have he : a.eval (.func f) = .func (.func f) #[] #[] := rfl
  unfold execOp
  simp [ho, resolve, invoke, Deferred.ofValue, he, hc]
/-- What an encoding answers, in one form. -/
def encIs (W : World) (B : Nat) (b : Value) (k : Int) : Option (List UInt8) → Prop
  | some nb => k = 0 ∧ Own W B b nb
  | none => b = .slice none 0 0 ∧ k = 1
theorem encodePost_form {w : World} {r : Option (List UInt8)} {e : Ending} {w' : World} (h : encodePost w r e w') : ∃ b k, e = .returned (.tuple #[b, .int .i64 k]) ∧ (∀ B, B ≤ w.heap.size → encIs w' B b k r) ∧ Below w.heap.size w w' := by
  obtain ⟨h, hb⟩ := h
  cases r with
  | some nb =>
    obtain ⟨b, rfl, ho⟩ := h
    exact ⟨b, 0, rfl, fun B hB => ⟨rfl, ho.mono hB⟩, hb⟩
  | none =>
    have h : e = .returned (.tuple #[.slice none 0 0, .int .i64 1]) := h
    exact ⟨_, _, h, fun _ _ => ⟨rfl, rfl⟩, hb⟩
theorem encodePost_of {w : World} {r : Option (List UInt8)} {w' : World} {b : Value} {k : Int} (h : encIs w' w.heap.size b k r) (hb : Below w.heap.size w w') : encodePost w r (.returned (.tuple #[b, .int .i64 k])) w' := by
  cases r with
  | some nb =>
    obtain ⟨rfl, ho⟩ := h
    exact ⟨⟨b, rfl, ho⟩, hb⟩
  | none =>
    obtain ⟨rfl, rfl⟩ := h
    exact ⟨rfl, hb⟩
set_option maxRecDepth 100000 in
set_option maxHeartbeats 1000000 in
theorem menc_any (m : MM) (su : Value) (w : World) (hh : m.h.length = 32) (hm : m.u.length ≤ 1000000000) (hu : Wds w su m.u) :
    Calls Try.prog 36 #[manV m su] w fun e w' => encodePost w (encM m) e w' := by
  have hB := (Below.refl w.heap.size w).alloc (Nat.le_refl _) (.cells (manC m su) 25)
  have k := Blk.new w 25 (manC m su)
  have hi := manC_info m su hh
  have HR : Hid (Calls Try.prog 43 #[manV m su] (w.alloc (.cells (manC m su) 25)) fun e w' => e = .returned (.bool (decide (okM m))) ∧ Below (w.alloc (.cells (manC m su) 25)).heap.size (w.alloc (.cells (manC m su) 25)) w') := mright_any m su _ hh hm (hu.alloc _)
  by_cases hok : okM m
  · have HE : Hid (encM m = encTop manF (manVs m)) := if_pos hok
    rw [HE.out]
    rw [decide_eq_true hok] at HR
    have hlu : m.u.length ≤ 128 := by have h1 := hok.1.2.2.2; have h2 := hok.2.1; omega
    have HF : Hid (∀ W, Calls Try.prog 51 #[] W fun e w' => ∃ v, e = .returned v ∧ Flds w' 2 v manF ∧ Below W.heap.size W w') := fun W => mflds_any W
    have HV : Hid (∀ W, Below w.heap.size w W → Calls Try.prog 52 #[manV m su] W fun e w' => ∃ v, e = .returned v ∧ Vals w' 2 v (manVs m) ∧ Below W.heap.size W w') := fun W hW => values_any m su W hh hlu (hu.below hW (Nat.le_refl _)) hok.1
    have HN : Hid (∀ W lv vv, Flds W 2 lv manF → Vals W 2 vv (manVs m) → Calls Try.prog 15 #[lv, vv] W fun e w' => encodePost W (encTop manF (manVs m)) e w') := fun W lv vv h1 h2 => encode_any 2 lv manF 2 vv (manVs m) W h1 h2
    clear HE hu hm hh hlu hok
    unfold manV at *
    generalize encTop manF (manVs m) = R at *
    generalize manC m su = MC at *
    obtain ⟨B0, hB0⟩ : ∃ B0, B0 = w.heap.size := ⟨_, rfl⟩
    rw [← hB0] at k
    go_enter Try.func36, Try.ntmps36
    go_wp2_with (refine wpList_load_row rfl 25 _ rfl w.heap.size rfl 25 _ (0, 0) _ (by rw [← hB0]; exact k) Try.underlying25 rfl hi ?_)
    refine HR.out.mono ?_
    rintro e w1 ⟨rfl, hb1⟩
    have k1 := k.below hb1 k.lt
    have hB1 : Below w.heap.size w w1 := hB.trans (hb1.mono hB.size)
    clear HR hb1 hB k
    go_wp2_with fail
    rw [← hB0]
    have hS0 : Blk w1.drew B0 25 MC := k1.drew
    refine held_begin (fun V => Blk V B0 25 MC) (by kernel_rfl) ?_
    refine held_take 1 8 _ (.agg MC) rfl rfl (by kernel_rfl) (by kernel_rfl) (by kernel_rfl) rfl hS0 (fun V hV => exec_loadM _ rfl _ rfl hV hi) ?_
    simp only [Act.put, List.setIfInBounds_toArray, List.set_cons_succ, List.set_cons_zero]
    refine held_all1 0 (by kernel_rfl) (op_call 0 7 _ 51 #[] rfl rfl rfl (exec_noneM 51 _ rfl Try.call51) ((HF.out _).mono ?_))
    rintro e w2 ⟨lv, rfl, hF2, hb2⟩
    have hS2 := hS0.below hb2 hS0.lt
    have hB2 : Below w.heap.size w w2 := hB1.drew.trans (hb2.mono hB1.size)
    refine ⟨_, rfl, hS2, ?_⟩
    simp only [Act.put, List.setIfInBounds_toArray, List.set_cons_succ, List.set_cons_zero]
    refine held_all1 2 (by kernel_rfl) (op_call 2 9 _ 52 #[.agg MC] rfl rfl rfl (exec_one 52 _ _ rfl _ rfl Try.call52) ((HV.out _ hB2).mono ?_))
    rintro e w3 ⟨vv, rfl, hV3, hb3⟩
    have hS3 := hS2.below hb3 hS2.lt
    have hB3 : Below w.heap.size w w3 := hB2.trans (hb3.mono hB2.size)
    have hF3 := Flds.keeps (Keeps.of_below hb3 (Nat.le_refl _)) 2 _ _ hF2
    refine ⟨_, rfl, hS3, ?_⟩
    simp only [Act.put, List.setIfInBounds_toArray, List.set_cons_succ, List.set_cons_zero]
    refine held_all1 3 (by kernel_rfl) (op_call 3 10 _ 15 #[lv, vv] rfl rfl rfl (exec_two8 15 _ _ _ rfl _ _ rfl rfl Try.call15) ((HN.out _ _ _ hF3 hV3).mono ?_))
    intro e w4 hp
    obtain ⟨b, kk, rfl, hown, hb4⟩ := encodePost_form hp
    clear hp
    have hS4 := hS3.below hb4 hS3.lt
    have hB4 : Below w.heap.size w w4 := hB3.trans (hb4.mono hB3.size)
    refine ⟨_, rfl, hS4, ?_⟩
    simp only [Act.put, List.setIfInBounds_toArray, List.set_cons_succ, List.set_cons_zero]
    refine held_take 4 11 _ b rfl rfl (by kernel_rfl) (by kernel_rfl) (by kernel_rfl) rfl hS4 (fun _ _ => rfl) ?_
    simp only [Act.put, List.setIfInBounds_toArray, List.set_cons_succ, List.set_cons_zero]
    refine held_take 5 12 _ (.int .i64 kk) rfl rfl (by kernel_rfl) (by kernel_rfl) (by kernel_rfl) rfl hS4 (fun _ _ => rfl) ?_
    simp only [Act.put, List.setIfInBounds_toArray, List.set_cons_succ, List.set_cons_zero]
    refine held_take 6 2 _ b rfl rfl (by kernel_rfl) (by kernel_rfl) (by kernel_rfl) rfl hS4 (fun _ _ => rfl) ?_
    simp only [Act.put, List.setIfInBounds_toArray, List.set_cons_succ, List.set_cons_zero]
    refine held_take 7 3 _ (.int .i64 kk) rfl rfl (by kernel_rfl) (by kernel_rfl) (by kernel_rfl) rfl hS4 (fun _ _ => rfl) ?_
    simp only [Act.put, List.setIfInBounds_toArray, List.set_cons_succ, List.set_cons_zero]
    refine wpAnyH_done (by kernel_rfl) ?_ _
    refine NoPanic.normal ?_
    have HO : Hid (encIs w4 w.heap.size b kk R) := hown _ hB3.size
    clear hown
    go_wp2
    go_ret2
    exact encodePost_of HO.out hB4
  · have HE : Hid (encM m = none) := if_neg hok
    rw [HE.out]
    rw [decide_eq_false hok] at HR
    clear HE hu hm hh hok
    unfold manV at *
    generalize manC m su = MC at *
    go_enter Try.func36, Try.ntmps36
    go_wp2_with (refine wpList_load_row rfl 25 _ rfl w.heap.size rfl 25 _ (0, 0) _ k Try.underlying25 rfl hi ?_)
    refine HR.out.mono ?_
    rintro e w1 ⟨rfl, hb1⟩
    have hB1 : Below w.heap.size w w1 := hB.trans (hb1.mono hB.size)
    clear HR
    go_wp2
    go_ret2
    exact ⟨rfl, hB1⟩
end Go.Proofs.Ytgfcindkfnjeoaa
