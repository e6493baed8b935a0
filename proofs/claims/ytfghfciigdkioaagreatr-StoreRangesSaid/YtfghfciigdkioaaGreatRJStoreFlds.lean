/-
  What is proved here: the fields of a pair and of a change, and the bytes that records of these have.
  Conditions: those that each fact names.
-/
import Derived.Test.YtfghfciigdkioaaGreatRJPackPure
import Derived.Test.YtfghfciigdkioaaGreatRJPackMost
import Derived.Maps.AppendAt
namespace Go.Proofs.YtfghfciigdkioaaGreatR
open Go.RowKit

def pairF : List Fld := [.mk 2 0 256 [], .mk 2 0 1024 []]
def opF : List Fld := .mk 1 0 1 [] :: pairF
def chgF : List Fld := [.mk 3 0 32 opF]
def pairVs (k v : List UInt8) : List Val := [.mk 0 k [], .mk 0 v []]
def opVs (o : OpB) : List Val := .mk (if o.del then 1 else 0) [] [] :: pairVs o.key o.val
def chgVs (ops : List OpB) : List Val := [.mk 0 [] (ops.map opVs)]
theorem wid2 : wid 256 = 2 ∧ wid 1024 = 2 ∧ wid 1 = 1 ∧ wid 32 = 1 := by decide
theorem text_enc {E : List Fld → List Val → Option (List UInt8)} {mx : Nat} (h2 : wid mx = 2) (k : List UInt8) (hk : k.length ≤ mx) (hs : k.length < 65536) : encOne E (.mk 2 0 mx []) (.mk 0 k []) = some (textB k) := by
  have hl : leN (k.length - 0) (wid (mx - 0)) = [UInt8.ofNat (k.length % 256), UInt8.ofNat (k.length / 256)] := by
    rw [Nat.sub_zero, Nat.sub_zero, h2]
    show [UInt8.ofNat (k.length % 256), UInt8.ofNat (k.length / 256 % 256)] = _
    rw [Nat.mod_eq_of_lt (show k.length / 256 < 256 by omega)]
  unfold encOne
  have ha : amountOf (.mk 2 0 mx []) (.mk 0 k []) = some k.length := by
    unfold amountOf
    simp [Fld.kind, Val.n, Val.l, Val.b]
  rw [ha]
  show (if k.length < 0 ∨ mx < k.length then none else _) = _
  rw [if_neg (by omega)]
  show Option.map (fun r => leN (k.length - 0) (wid (mx - 0)) ++ (k ++ r)) (catO []) = _
  rw [hl]
  simp [catO, textB]
theorem num_enc {E : List Fld → List Val → Option (List UInt8)} (d : Bool) : encOne E (.mk 1 0 1 []) (.mk (if d then 1 else 0) [] []) = some [if d then 1 else 0] := by
  cases d <;> rfl
theorem catO_some : ∀ (l : List (List UInt8)), catO (l.map some) = some l.flatten
  | [] => rfl
  | a :: l => by
    show (catO (l.map some)).map (a ++ ·) = _
    rw [catO_some l]
    rfl
theorem most_pair : (mostL 4 pairF).isSome = true := by decide
theorem most_chg : (mostL 4 chgF).isSome = true := by decide
theorem pair_enc (k v : List UInt8) (hk : k.length ≤ 256) (hv : v.length ≤ 1024) : encTop pairF (pairVs k v) = some (pairB (k, v)) := by
  unfold encTop
  rw [if_pos most_pair]
  show (if (2 : Nat) = 2 then catO [encOne (encL 3) (.mk 2 0 256 []) (.mk 0 k []), encOne (encL 3) (.mk 2 0 1024 []) (.mk 0 v [])] else none) = _
  rw [if_pos rfl, text_enc wid2.1 k hk (by omega), text_enc wid2.2.1 v hv (by omega)]
  simp [catO, pairB]
theorem op_enc (r : Nat) (o : OpB) (hk : o.key.length ≤ 256) (hv : o.val.length ≤ 1024) : encL (r + 1) opF (opVs o) = some (opB o) := by
  show (if (3 : Nat) = 3 then catO [encOne (encL r) (.mk 1 0 1 []) (.mk (if o.del then 1 else 0) [] []), encOne (encL r) (.mk 2 0 256 []) (.mk 0 o.key []), encOne (encL r) (.mk 2 0 1024 []) (.mk 0 o.val [])] else none) = _
  rw [if_pos rfl, text_enc wid2.1 o.key hk (by omega), text_enc wid2.2.1 o.val hv (by omega), num_enc]
  simp [catO, opB]
theorem chg_enc (ops : List OpB) (h : ∀ o ∈ ops, o.key.length ≤ 256 ∧ o.val.length ≤ 1024) (hl : ops.length ≤ 32) : encTop chgF (chgVs ops) = some (chgB ops) := by
  unfold encTop
  rw [if_pos most_chg]
  show (if (1 : Nat) = 1 then catO [encOne (encL 3) (.mk 3 0 32 opF) (.mk 0 [] (ops.map opVs))] else none) = _
  rw [if_pos rfl]
  have ha : amountOf (.mk 3 0 32 opF) (.mk 0 [] (ops.map opVs)) = some ops.length := by
    unfold amountOf
    simp [Fld.kind, Val.n, Val.l, Val.b]
  have he : encOne (encL 3) (.mk 3 0 32 opF) (.mk 0 [] (ops.map opVs)) = some (chgB ops) := by
    unfold encOne
    rw [ha]
    show (if ops.length < 0 ∨ 32 < ops.length then none else Option.map (fun r => leN (ops.length - 0) (wid (32 - 0)) ++ ([] ++ r)) (catO ((ops.map opVs).map (encL 3 opF)))) = _
    rw [if_neg (by omega), List.map_map]
    have e2 : ops.map (encL 3 opF ∘ opVs) = (ops.map opB).map some := by
      rw [List.map_map]
      apply List.map_congr_left
      intro o ho
      exact op_enc 2 o (h o ho).1 (h o ho).2
    rw [e2, catO_some]
    show some (leN (ops.length - 0) (wid (32 - 0)) ++ ([] ++ (ops.map opB).flatten)) = _
    rw [Nat.sub_zero, Nat.sub_zero, wid2.2.2.2]
    show some (UInt8.ofNat (ops.length % 256) :: ((ops.map opB).flatten)) = _
    rw [Nat.mod_eq_of_lt (by omega)]
    rfl
  rw [he]
  simp [catO]
theorem chgB_len (ops : List OpB) (h : ∀ o ∈ ops, o.key.length ≤ 64 ∧ o.val.length ≤ 1024) : (chgB ops).length ≤ 1 + 1093 * ops.length := by
  show (ops.flatMap opB).length + 1 ≤ _
  have : (ops.flatMap opB).length ≤ 1093 * ops.length := by
    induction ops with
    | nil => exact Nat.le_refl _
    | cons o ops ih =>
      have h1 := ih (fun q hq => h q (List.mem_cons_of_mem _ hq))
      have h2 := h o List.mem_cons_self
      rw [List.flatMap_cons, List.length_append, opB_len, List.length_cons]
      omega
  omega
/-! ### in memory -/
def fldC (k mx : Int) (v : Value) : List Value := [.int .i64 k, .int .u64 0, .int .u64 mx, v]
theorem info_fld : (Tryz.prog.info? 141).map (fun i => (i.zero, i.size, i.bytes)) = some (some (.agg #[.int .i64 0, .int .u64 0, .int .u64 0, .slice none 0 0]), 4, 48) := by kernel_rfl
set_option maxRecDepth 100000 in
theorem pairFields_any (w : World) : Calls Tryz.prog 56 #[] w fun e w' => e = .returned (.slice (some ⟨w.heap.size, 0, none⟩) 2 2) ∧ Blk w' w.heap.size 141 (fldC 2 256 (.slice none 0 0) ++ fldC 2 1024 (.slice none 0 0)).toArray ∧ Below w.heap.size w w' ∧ w'.heap.size = w.heap.size + 1 := by
  have hb := fun x => (Below.refl w.heap.size w).alloc (Nat.le_refl _) x
  have hk := Blk.new w 141 (fldC 2 256 (.slice none 0 0) ++ fldC 2 1024 (.slice none 0 0)).toArray
  go_enter Tryz.func56, Tryz.ntmps56
  go_wp2
  go_ret
  exact ⟨rfl, hk, hb _, by simp⟩
theorem fld_at {w : World} {b off : Nat} {arr : Array Value} {t : TypeId} {k mx : Nat} (hB : Blk w b t arr) (h : ∀ j x, (fldC (k : Int) (mx : Int) (.slice none 0 0))[j]? = some x → arr[off + j]? = some x) (hm : mx < 18446744073709551616) (n : Nat) : FAt w (Flds w n) b off (.mk (k : Int) 0 mx []) := by
  refine ⟨hB.cell (h 0 _ rfl), hB.cell (h 1 _ rfl), hB.cell (h 2 _ rfl), ⟨_, hB.cell (h 3 _ rfl), ?_⟩, (by show 0 < _; decide), hm⟩
  cases n with
  | zero => exact ⟨rfl, rfl⟩
  | succ n => exact ⟨none, 0, rfl, Nat.zero_le _, fun h => by cases h⟩
theorem flds_pair {w : World} {b : Nat} (hB : Blk w b 141 (fldC 2 256 (.slice none 0 0) ++ fldC 2 1024 (.slice none 0 0)).toArray) : Flds w 1 (.slice (some ⟨b, 0, none⟩) 2 2) pairF := by
  refine ⟨_, 2, rfl, (by show 2 ≤ maxLen; decide), fun _ => ⟨b, 0, rfl, hB.lt, Nat.le_refl 2, fun i f hf => ?_⟩⟩
  match i, hf with
  | 0, hf =>
    cases hf
    exact fld_at (k := 2) (mx := 256) hB (fun j x hx => by match j, hx with | 0, hx => exact hx | 1, hx => exact hx | 2, hx => exact hx | 3, hx => exact hx | (j + 4), hx => cases hx) (by decide) 0
  | 1, hf =>
    cases hf
    exact fld_at (k := 2) (mx := 1024) hB (fun j x hx => by match j, hx with | 0, hx => exact hx | 1, hx => exact hx | 2, hx => exact hx | 3, hx => exact hx | (j + 4), hx => cases hx) (by decide) 0
  | (i + 2), hf => cases hf
theorem fld_one : ∀ u ∈ fldC 2 256 (.slice none 0 0) ++ fldC 2 1024 (.slice none 0 0), u.oneCell' = true := by simp [fldC, Value.oneCell']
theorem flds_op {w : World} {b cap : Nat} {cur : Array Value} (hB : Blk w b 141 cur) (h : cur.toList.take 12 = fldC 1 1 (.slice none 0 0) ++ (fldC 2 256 (.slice none 0 0) ++ fldC 2 1024 (.slice none 0 0))) (hc : 3 ≤ cap) : Flds w 1 (.slice (some ⟨b, 0, none⟩) 3 cap) opF := by
  have hat : ∀ j x, j < 12 → (fldC 1 1 (.slice none 0 0) ++ (fldC 2 256 (.slice none 0 0) ++ fldC 2 1024 (.slice none 0 0)))[j]? = some x → cur[j]? = some x := fun j x hj hx => by
    rw [← h, List.getElem?_take_of_lt hj] at hx
    simpa using hx
  refine ⟨_, cap, rfl, (by show 3 ≤ maxLen; decide), fun _ => ⟨b, 0, rfl, hB.lt, hc, fun i f hf => ?_⟩⟩
  match i, hf with
  | 0, hf =>
    cases hf
    exact fld_at (k := 1) (mx := 1) hB (fun j x hx => by match j, hx with | 0, hx => exact hat _ _ (by decide) hx | 1, hx => exact hat _ _ (by decide) hx | 2, hx => exact hat _ _ (by decide) hx | 3, hx => exact hat _ _ (by decide) hx | (j + 4), hx => cases hx) (by decide) 0
  | 1, hf =>
    cases hf
    exact fld_at (k := 2) (mx := 256) hB (fun j x hx => by match j, hx with | 0, hx => exact hat _ _ (by decide) hx | 1, hx => exact hat _ _ (by decide) hx | 2, hx => exact hat _ _ (by decide) hx | 3, hx => exact hat _ _ (by decide) hx | (j + 4), hx => cases hx) (by decide) 0
  | 2, hf =>
    cases hf
    exact fld_at (k := 2) (mx := 1024) hB (fun j x hx => by match j, hx with | 0, hx => exact hat _ _ (by decide) hx | 1, hx => exact hat _ _ (by decide) hx | 2, hx => exact hat _ _ (by decide) hx | 3, hx => exact hat _ _ (by decide) hx | (j + 4), hx => cases hx) (by decide) 0
  | (i + 3), hf => cases hf
theorem app_flds (w : World) {ops : Array Oper} {rest : List Oper} {o : Oper} {a : Act} {Q : Exit → Act → World → Prop} (hgd : o.guard = none) (s x : Operand)
    (ho : o.op = .call { callee := .builtin .append, args := #[s, x], argTypes := #[105, 105] }) (base b : Nat) (hs : a.eval s = .slice (some ⟨base, 0, none⟩) 1 1) (hx : a.eval x = .slice (some ⟨b, 0, none⟩) 2 2)
    (hk1 : Blk w base 141 (fldC 1 1 (.slice none 0 0)).toArray) (hk2 : Blk w b 141 (fldC 2 256 (.slice none 0 0) ++ fldC 2 1024 (.slice none 0 0)).toArray)
    (hK : ∀ g cap w', Flds w' 1 (.slice (some ⟨g, 0, none⟩) 3 cap) opF → w.grownBy w' (some base) → wpList Tryz.prog ops Q rest (a.put o.dst (.slice (some ⟨g, 0, none⟩) 3 cap)) w') : wpList Tryz.prog ops Q (o :: rest) a w := by
  obtain ⟨i0, hi, hz0, hz1, hz2⟩ := info_parts info_fld
  have hrow : w.ownsRow base 141 4 (.slice (some ⟨base, 0, none⟩) 1 1) 1 (fldC 1 1 (.slice none 0 0)) := ⟨rfl, .inr ⟨base, 1, _, rfl, Nat.le_refl _, hk1, Nat.le_refl _, by decide, rfl, rfl⟩⟩
  refine wpList_append_own_at w hgd s x 105 ho base 141 i0 _ 4 48 Tryz.underlying105 hi hz0 hz1 hz2 rfl (by decide) _ 1 (fldC 1 1 (.slice none 0 0)) hs hrow ⟨b, 0, none⟩ 2 2 (fldC 2 256 (.slice none 0 0) ++ fldC 2 1024 (.slice none 0 0)) hx rfl (fun j u hu => by rw [Addr.add_mid, Nat.zero_add]; exact hk2.cell (by simpa using hu)) fld_one (by unfold maxLen; omega) (by omega) (Nat.le_of_lt hk1.lt) ?_
  intro v3 w3 h3 hg3 _ _
  rcases h3.2 with ⟨_, h0⟩ | ⟨g, cap, cur, rfl, hbase, hb, q1, q2, q3, q4⟩
  · cases h0
  exact hK g cap w3 (flds_op hb q4 q1) hg3
set_option maxRecDepth 100000 in
set_option maxHeartbeats 1000000 in
theorem changeFields_any (w : World) : Calls Tryz.prog 62 #[] w fun e w' => ∃ v, e = .returned v ∧ Flds w' 2 v chgF ∧ Below w.heap.size w w' := by
  have hb1 := (Below.refl w.heap.size w).alloc (Nat.le_refl _) (.cells #[.int .i64 1, .int .u64 0, .int .u64 1, .slice none 0 0] 141)
  have hk1 := Blk.new w 141 #[.int .i64 1, .int .u64 0, .int .u64 1, .slice none 0 0]
  have hs1 : (w.alloc (.cells #[.int .i64 1, .int .u64 0, .int .u64 1, .slice none 0 0] 141)).heap.size = w.heap.size + 1 := by simp
  go_enter Tryz.func62, Tryz.ntmps62
  go_wp2_with fail
  obtain ⟨w1, hw1⟩ : ∃ W, W = w.alloc (.cells #[.int .i64 1, .int .u64 0, .int .u64 1, .slice none 0 0] 141) := ⟨_, rfl⟩
  rw [← hw1] at hb1 hk1 hs1 ⊢
  clear hw1
  refine (pairFields_any w1).mono ?_
  rintro e w2 ⟨rfl, hk2, hb2, hs2⟩
  have hk12 := hk1.below hb2 (by omega)
  have hB2 : Below w.heap.size w w2 := hb1.trans (hb2.mono (by omega))
  clear hk1 hb1 hb2 hs1 hs2
  go_wp2_with (at_builtin; refine app_flds _ rfl _ _ rfl w.heap.size w1.heap.size rfl rfl hk12 hk2 ?_; intro g cap w3 hF3 hg3)
  have hB3 : Below w.heap.size w w3 := below_grown hB2 hg3 hB2.size (fun k hk => by cases hk; exact Nat.le_refl _)
  have hk4 := Blk.new w3 141 #[.int .i64 3, .int .u64 0, .int .u64 32, .slice (some ⟨g, 0, none⟩) 3 cap]
  have hb4 := (Below.refl w3.heap.size w3).alloc (Nat.le_refl _) (.cells #[.int .i64 3, .int .u64 0, .int .u64 32, .slice (some ⟨g, 0, none⟩) 3 cap] 141)
  have HF : Hid (Flds (w3.alloc (.cells #[.int .i64 3, .int .u64 0, .int .u64 32, .slice (some ⟨g, 0, none⟩) 3 cap] 141)) 2 (.slice (some ⟨w3.heap.size, 0, none⟩) 1 1) chgF) := by
    refine ⟨_, 1, rfl, (by show 1 ≤ maxLen; decide), fun _ => ⟨w3.heap.size, 0, rfl, hk4.lt, Nat.le_refl 1, fun i f hf => ?_⟩⟩
    match i, hf with
    | 0, hf =>
      cases hf
      exact ⟨hk4.cell rfl, hk4.cell rfl, hk4.cell rfl, ⟨_, hk4.cell rfl, Flds.keeps (Keeps.of_below hb4 (Nat.le_refl _)) 1 _ _ hF3⟩, by show 0 < _; decide, by show 32 < _; decide⟩
    | (i + 1), hf => cases hf
  have hB4 := hB3.trans (hb4.mono hB3.size)
  go_ret
  exact ⟨_, rfl, HF.out, hB4⟩
end Go.Proofs.YtfghfciigdkioaaGreatR
