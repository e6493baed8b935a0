/-
  What is proved here: the fields of a pair and of a change, and the bytes that records of these have. the bytes of a state: the program's encode.
  Conditions: those that each fact names.
-/
import Derived.Test.YtbegphfideopoaaGreatJPackPure
import Derived.Test.YtbegphfideopoaaGreatJPackMost
import Derived.Maps.AppendAt
import Derived.Test.YtbegphfideopoaaGreatJStoreKeys
import Derived.Test.YtbegphfideopoaaGreatJStoreOps
import Derived.Laws.IdiomStrings
namespace Go.Proofs.YtbegphfideopoaaGreat
open Go.RowKit

def pairF : List Fld := [.mk 2 0 256 [], .mk 2 0 1024 []]
def opF : List Fld := .mk 1 0 1 [] :: pairF
def chgF : List Fld := [.mk 3 0 32 opF]
def pairVs (k v : List UInt8) : List Val := [.mk 0 k [], .mk 0 v []]
def opVs (o : OpB) : List Val := .mk (if o.del then 1 else 0) [] [] :: pairVs o.key o.val
def chgVs (ops : List OpB) : List Val := [.mk 0 [] (ops.map opVs)]
theorem wid2 : wid 256 = 2 ∧ wid 1024 = 2 ∧ wid 1 = 1 ∧ wid 32 = 1 := by decide
theorem text_enc {E : List Fld → List Val → Option (List UInt8)} {mx : Nat} (h2 : wid mx = 2) (k : List UInt8) (hk : k.length ≤ mx) (hs : k.length < 65536) : encOne E (.mk 2 0 mx []) (.mk 0 k []) = some (textB k) := by
  have hl : leN (k.length - 0) (wid (mx - 0)) = [UInt8.ofNat (k.length % 256), UInt8.ofNat (k.length / 256)] := by
    rw [Nat.sub_zero, Nat.sub_zero, h2]
    show [UInt8.ofNat (k.length % 256), UInt8.ofNat (k.length / 256 % 256)] = _
    rw [Nat.mod_eq_of_lt (show k.length / 256 < 256 by omega)]
  unfold encOne
  have ha : amountOf (.mk 2 0 mx []) (.mk 0 k []) = some k.length := by
    unfold amountOf
    simp [Fld.kind, Val.n, Val.l, Val.b]
  rw [ha]
  show (if k.length < 0 ∨ mx < k.length then none else _) = _
  rw [if_neg (by omega)]
  show Option.map (fun r => leN (k.length - 0) (wid (mx - 0)) ++ (k ++ r)) (catO []) = _
  rw [hl]
  simp [catO, textB]
theorem num_enc {E : List Fld → List Val → Option (List UInt8)} (d : Bool) : encOne E (.mk 1 0 1 []) (.mk (if d then 1 else 0) [] []) = some [if d then 1 else 0] := by
  cases d <;> rfl
theorem catO_some : ∀ (l : List (List UInt8)), catO (l.map some) = some l.flatten
  | [] => rfl
  | a :: l => by
    show (catO (l.map some)).map (a ++ ·) = _
    rw [catO_some l]
    rfl
theorem most_pair : (mostL 4 pairF).isSome = true := by decide
theorem most_chg : (mostL 4 chgF).isSome = true := by decide
theorem pair_enc (k v : List UInt8) (hk : k.length ≤ 256) (hv : v.length ≤ 1024) : encTop pairF (pairVs k v) = some (pairB (k, v)) := by
  unfold encTop
  rw [if_pos most_pair]
  show (if (2 : Nat) = 2 then catO [encOne (encL 3) (.mk 2 0 256 []) (.mk 0 k []), encOne (encL 3) (.mk 2 0 1024 []) (.mk 0 v [])] else none) = _
  rw [if_pos rfl, text_enc wid2.1 k hk (by omega), text_enc wid2.2.1 v hv (by omega)]
  simp [catO, pairB]
theorem op_enc (r : Nat) (o : OpB) (hk : o.key.length ≤ 256) (hv : o.val.length ≤ 1024) : encL (r + 1) opF (opVs o) = some (opB o) := by
  show (if (3 : Nat) = 3 then catO [encOne (encL r) (.mk 1 0 1 []) (.mk (if o.del then 1 else 0) [] []), encOne (encL r) (.mk 2 0 256 []) (.mk 0 o.key []), encOne (encL r) (.mk 2 0 1024 []) (.mk 0 o.val [])] else none) = _
  rw [if_pos rfl, text_enc wid2.1 o.key hk (by omega), text_enc wid2.2.1 o.val hv (by omega), num_enc]
  simp [catO, opB]
theorem chg_enc (ops : List OpB) (h : ∀ o ∈ ops, o.key.length ≤ 256 ∧ o.val.length ≤ 1024) (hl : ops.length ≤ 32) : encTop chgF (chgVs ops) = some (chgB ops) := by
  unfold encTop
  rw [if_pos most_chg]
  show (if (1 : Nat) = 1 then catO [encOne (encL 3) (.mk 3 0 32 opF) (.mk 0 [] (ops.map opVs))] else none) = _
  rw [if_pos rfl]
  have ha : amountOf (.mk 3 0 32 opF) (.mk 0 [] (ops.map opVs)) = some ops.length := by
    unfold amountOf
    simp [Fld.kind, Val.n, Val.l, Val.b]
  have he : encOne (encL 3) (.mk 3 0 32 opF) (.mk 0 [] (ops.map opVs)) = some (chgB ops) := by
    unfold encOne
    rw [ha]
    show (if ops.length < 0 ∨ 32 < ops.length then none else Option.map (fun r => leN (ops.length - 0) (wid (32 - 0)) ++ ([] ++ r)) (catO ((ops.map opVs).map (encL 3 opF)))) = _
    rw [if_neg (by omega), List.map_map]
    have e2 : ops.map (encL 3 opF ∘ opVs) = (ops.map opB).map some := by
      rw [List.map_map]
      apply List.map_congr_left
      intro o ho
      exact op_enc 2 o (h o ho).1 (h o ho).2
    rw [e2, catO_some]
    show some (leN (ops.length - 0) (wid (32 - 0)) ++ ([] ++ (ops.map opB).flatten)) = _
    rw [Nat.sub_zero, Nat.sub_zero, wid2.2.2.2]
    show some (UInt8.ofNat (ops.length % 256) :: ((ops.map opB).flatten)) = _
    rw [Nat.mod_eq_of_lt (by omega)]
    rfl
  rw [he]
  simp [catO]
theorem chgB_len (ops : List OpB) (h : ∀ o ∈ ops, o.key.length ≤ 64 ∧ o.val.length ≤ 1024) : (chgB ops).length ≤ 1 + 1093 * ops.length := by
  show (ops.flatMap opB).length + 1 ≤ _
  have : (ops.flatMap opB).length ≤ 1093 * ops.length := by
    induction ops with
    | nil => exact Nat.le_refl _
    | cons o ops ih =>
      have h1 := ih (fun q hq => h q (List.mem_cons_of_mem _ hq))
      have h2 := h o List.mem_cons_self
      rw [List.flatMap_cons, List.length_append, opB_len, List.length_cons]
      omega
  omega
/-! ### in memory -/
def fldC (k mx : Int) (v : Value) : List Value := [.int .i64 k, .int .u64 0, .int .u64 mx, v]
theorem info_fld : (Tryz.prog.info? 142).map (fun i => (i.zero, i.size, i.bytes)) = some (some (.agg #[.int .i64 0, .int .u64 0, .int .u64 0, .slice none 0 0]), 4, 48) := by kernel_rfl
set_option maxRecDepth 100000 in
theorem pairFields_any (w : World) : Calls Tryz.prog 57 #[] w fun e w' => e = .returned (.slice (some ⟨w.heap.size, 0, none⟩) 2 2) ∧ Blk w' w.heap.size 142 (fldC 2 256 (.slice none 0 0) ++ fldC 2 1024 (.slice none 0 0)).toArray ∧ Below w.heap.size w w' ∧ w'.heap.size = w.heap.size + 1 := by
  have hb := fun x => (Below.refl w.heap.size w).alloc (Nat.le_refl _) x
  have hk := Blk.new w 142 (fldC 2 256 (.slice none 0 0) ++ fldC 2 1024 (.slice none 0 0)).toArray
  go_enter Tryz.func57, Tryz.ntmps57
  go_wp2
  go_ret
  exact ⟨rfl, hk, hb _, by simp⟩
theorem fld_at {w : World} {b off : Nat} {arr : Array Value} {t : TypeId} {k mx : Nat} (hB : Blk w b t arr) (h : ∀ j x, (fldC (k : Int) (mx : Int) (.slice none 0 0))[j]? = some x → arr[off + j]? = some x) (hm : mx < 18446744073709551616) (n : Nat) : FAt w (Flds w n) b off (.mk (k : Int) 0 mx []) := by
  refine ⟨hB.cell (h 0 _ rfl), hB.cell (h 1 _ rfl), hB.cell (h 2 _ rfl), ⟨_, hB.cell (h 3 _ rfl), ?_⟩, (by show 0 < _; decide), hm⟩
  cases n with
  | zero => exact ⟨rfl, rfl⟩
  | succ n => exact ⟨none, 0, rfl, Nat.zero_le _, fun h => by cases h⟩
theorem flds_pair {w : World} {b : Nat} (hB : Blk w b 142 (fldC 2 256 (.slice none 0 0) ++ fldC 2 1024 (.slice none 0 0)).toArray) : Flds w 1 (.slice (some ⟨b, 0, none⟩) 2 2) pairF := by
  refine ⟨_, 2, rfl, (by show 2 ≤ maxLen; decide), fun _ => ⟨b, 0, rfl, hB.lt, Nat.le_refl 2, fun i f hf => ?_⟩⟩
  match i, hf with
  | 0, hf =>
    cases hf
    exact fld_at (k := 2) (mx := 256) hB (fun j x hx => by match j, hx with | 0, hx => exact hx | 1, hx => exact hx | 2, hx => exact hx | 3, hx => exact hx | (j + 4), hx => cases hx) (by decide) 0
  | 1, hf =>
    cases hf
    exact fld_at (k := 2) (mx := 1024) hB (fun j x hx => by match j, hx with | 0, hx => exact hx | 1, hx => exact hx | 2, hx => exact hx | 3, hx => exact hx | (j + 4), hx => cases hx) (by decide) 0
  | (i + 2), hf => cases hf
theorem fld_one : ∀ u ∈ fldC 2 256 (.slice none 0 0) ++ fldC 2 1024 (.slice none 0 0), u.oneCell' = true := by simp [fldC, Value.oneCell']
theorem flds_op {w : World} {b cap : Nat} {cur : Array Value} (hB : Blk w b 142 cur) (h : cur.toList.take 12 = fldC 1 1 (.slice none 0 0) ++ (fldC 2 256 (.slice none 0 0) ++ fldC 2 1024 (.slice none 0 0))) (hc : 3 ≤ cap) : Flds w 1 (.slice (some ⟨b, 0, none⟩) 3 cap) opF := by
  have hat : ∀ j x, j < 12 → (fldC 1 1 (.slice none 0 0) ++ (fldC 2 256 (.slice none 0 0) ++ fldC 2 1024 (.slice none 0 0)))[j]? = some x → cur[j]? = some x := fun j x hj hx => by
    rw [← h, List.getElem?_take_of_lt hj] at hx
    simpa using hx
  refine ⟨_, cap, rfl, (by show 3 ≤ maxLen; decide), fun _ => ⟨b, 0, rfl, hB.lt, hc, fun i f hf => ?_⟩⟩
  match i, hf with
  | 0, hf =>
    cases hf
    exact fld_at (k := 1) (mx := 1) hB (fun j x hx => by match j, hx with | 0, hx => exact hat _ _ (by decide) hx | 1, hx => exact hat _ _ (by decide) hx | 2, hx => exact hat _ _ (by decide) hx | 3, hx => exact hat _ _ (by decide) hx | (j + 4), hx => cases hx) (by decide) 0
  | 1, hf =>
    cases hf
    exact fld_at (k := 2) (mx := 256) hB (fun j x hx => by match j, hx with | 0, hx => exact hat _ _ (by decide) hx | 1, hx => exact hat _ _ (by decide) hx | 2, hx => exact hat _ _ (by decide) hx | 3, hx => exact hat _ _ (by decide) hx | (j + 4), hx => cases hx) (by decide) 0
  | 2, hf =>
    cases hf
    exact fld_at (k := 2) (mx := 1024) hB (fun j x hx => by match j, hx with | 0, hx => exact hat _ _ (by decide) hx | 1, hx => exact hat _ _ (by decide) hx | 2, hx => exact hat _ _ (by decide) hx | 3, hx => exact hat _ _ (by decide) hx | (j + 4), hx => cases hx) (by decide) 0
  | (i + 3), hf => cases hf
theorem app_flds (w : World) {ops : Array Oper} {rest : List Oper} {o : Oper} {a : Act} {Q : Exit → Act → World → Prop} (hgd : o.guard = none) (s x : Operand)
    (ho : o.op = .call { callee := .builtin .append, args := #[s, x], argTypes := #[106, 106] }) (base b : Nat) (hs : a.eval s = .slice (some ⟨base, 0, none⟩) 1 1) (hx : a.eval x = .slice (some ⟨b, 0, none⟩) 2 2)
    (hk1 : Blk w base 142 (fldC 1 1 (.slice none 0 0)).toArray) (hk2 : Blk w b 142 (fldC 2 256 (.slice none 0 0) ++ fldC 2 1024 (.slice none 0 0)).toArray)
    (hK : ∀ g cap w', Flds w' 1 (.slice (some ⟨g, 0, none⟩) 3 cap) opF → w.grownBy w' (some base) → wpList Tryz.prog ops Q rest (a.put o.dst (.slice (some ⟨g, 0, none⟩) 3 cap)) w') : wpList Tryz.prog ops Q (o :: rest) a w := by
  obtain ⟨i0, hi, hz0, hz1, hz2⟩ := info_parts info_fld
  have hrow : w.ownsRow base 142 4 (.slice (some ⟨base, 0, none⟩) 1 1) 1 (fldC 1 1 (.slice none 0 0)) := ⟨rfl, .inr ⟨base, 1, _, rfl, Nat.le_refl _, hk1, Nat.le_refl _, by decide, rfl, rfl⟩⟩
  refine wpList_append_own_at w hgd s x 106 ho base 142 i0 _ 4 48 Tryz.underlying106 hi hz0 hz1 hz2 rfl (by decide) _ 1 (fldC 1 1 (.slice none 0 0)) hs hrow ⟨b, 0, none⟩ 2 2 (fldC 2 256 (.slice none 0 0) ++ fldC 2 1024 (.slice none 0 0)) hx rfl (fun j u hu => by rw [Addr.add_mid, Nat.zero_add]; exact hk2.cell (by simpa using hu)) fld_one (by unfold maxLen; omega) (by omega) (Nat.le_of_lt hk1.lt) ?_
  intro v3 w3 h3 hg3 _ _
  rcases h3.2 with ⟨_, h0⟩ | ⟨g, cap, cur, rfl, hbase, hb, q1, q2, q3, q4⟩
  · cases h0
  exact hK g cap w3 (flds_op hb q4 q1) hg3
set_option maxRecDepth 100000 in
set_option maxHeartbeats 1000000 in
theorem changeFields_any (w : World) : Calls Tryz.prog 63 #[] w fun e w' => ∃ v, e = .returned v ∧ Flds w' 2 v chgF ∧ Below w.heap.size w w' := by
  have hb1 := (Below.refl w.heap.size w).alloc (Nat.le_refl _) (.cells #[.int .i64 1, .int .u64 0, .int .u64 1, .slice none 0 0] 142)
  have hk1 := Blk.new w 142 #[.int .i64 1, .int .u64 0, .int .u64 1, .slice none 0 0]
  have hs1 : (w.alloc (.cells #[.int .i64 1, .int .u64 0, .int .u64 1, .slice none 0 0] 142)).heap.size = w.heap.size + 1 := by simp
  go_enter Tryz.func63, Tryz.ntmps63
  go_wp2_with fail
  obtain ⟨w1, hw1⟩ : ∃ W, W = w.alloc (.cells #[.int .i64 1, .int .u64 0, .int .u64 1, .slice none 0 0] 142) := ⟨_, rfl⟩
  rw [← hw1] at hb1 hk1 hs1 ⊢
  clear hw1
  refine (pairFields_any w1).mono ?_
  rintro e w2 ⟨rfl, hk2, hb2, hs2⟩
  have hk12 := hk1.below hb2 (by omega)
  have hB2 : Below w.heap.size w w2 := hb1.trans (hb2.mono (by omega))
  clear hk1 hb1 hb2 hs1 hs2
  go_wp2_with (at_builtin; refine app_flds _ rfl _ _ rfl w.heap.size w1.heap.size rfl rfl hk12 hk2 ?_; intro g cap w3 hF3 hg3)
  have hB3 : Below w.heap.size w w3 := below_grown hB2 hg3 hB2.size (fun k hk => by cases hk; exact Nat.le_refl _)
  have hk4 := Blk.new w3 142 #[.int .i64 3, .int .u64 0, .int .u64 32, .slice (some ⟨g, 0, none⟩) 3 cap]
  have hb4 := (Below.refl w3.heap.size w3).alloc (Nat.le_refl _) (.cells #[.int .i64 3, .int .u64 0, .int .u64 32, .slice (some ⟨g, 0, none⟩) 3 cap] 142)
  have HF : Hid (Flds (w3.alloc (.cells #[.int .i64 3, .int .u64 0, .int .u64 32, .slice (some ⟨g, 0, none⟩) 3 cap] 142)) 2 (.slice (some ⟨w3.heap.size, 0, none⟩) 1 1) chgF) := by
    refine ⟨_, 1, rfl, (by show 1 ≤ maxLen; decide), fun _ => ⟨w3.heap.size, 0, rfl, hk4.lt, Nat.le_refl 1, fun i f hf => ?_⟩⟩
    match i, hf with
    | 0, hf =>
      cases hf
      exact ⟨hk4.cell rfl, hk4.cell rfl, hk4.cell rfl, ⟨_, hk4.cell rfl, Flds.keeps (Keeps.of_below hb4 (Nat.le_refl _)) 1 _ _ hF3⟩, by show 0 < _; decide, by show 32 < _; decide⟩
    | (i + 1), hf => cases hf
  have hB4 := hB3.trans (hb4.mono hB3.size)
  go_ret
  exact ⟨_, rfl, HF.out, hB4⟩
end Go.Proofs.YtbegphfideopoaaGreat
namespace Go.Proofs.YtbegphfideopoaaGreat
open Go.RowKit Go.Maps Go.Sort Go.Proofs

/-- A string as bytes. -/
theorem conv_sb (k : List UInt8) (w : World) : ∃ c w', (convert 9 34 (.string ⟨k.toArray⟩)).run Tryz.prog w = .ok (.slice (some ⟨w.heap.size, 0, none⟩) k.length c) w' ∧ Seg w' (.slice (some ⟨w.heap.size, 0, none⟩) k.length c) k ∧ Below w.heap.size w w' := by
  have h := run_bytes_of_string (P := Tryz.prog) w 9 34 5 ⟨k.toArray⟩ Tryz.underlying9 Tryz.underlying34 Tryz.underlying5
  rw [str_size] at h
  refine ⟨_, _, h, ?_, ((Below.refl w.heap.size w).drew).alloc (Nat.le_refl _) _⟩
  refine Seg.of_row (fun j hj => ?_) rfl (grownCap_ge w k.length 0 5) (by show _ < (w.drew.heap.push _).size; rw [Array.size_push]; exact Nat.lt_succ_self _)
  rw [Nat.zero_add]
  have := World.cell?_alloc_mark w.drew (bytesRow ⟨k.toArray⟩ (grownCap w k.length 0 5)) 5 ((bytesRow ⟨k.toArray⟩ (grownCap w k.length 0 5)).size, (bytesRow ⟨k.toArray⟩ (grownCap w k.length 0 5)).size + 1) j
  refine Eq.trans this ?_
  rw [bytesRow_at _ _ _ (by simpa using hj)]
  simp [n8]
theorem row_ne_row {w : World} {base base' : Nat} {e e' : TypeId} {size size' : Nat} {v v' : Value} {n n' : Nat} {xs xs' : List Value} (he : e ≠ e') (h : w.ownsRow base e size v n xs) (h' : w.ownsRow base' e' size' v' n' xs') : v.ownBlock = none ∨ v.ownBlock ≠ v'.ownBlock := by
  rcases h.2 with ⟨rfl, _⟩ | ⟨g, cap, cur, rfl, _, hb, _⟩
  · exact .inl rfl
  · right
    rcases h'.2 with ⟨rfl, _⟩ | ⟨g', cap', cur', rfl, _, hb', _⟩
    · intro e; cases e
    · intro e
      have e1 : g = g' := Option.some.inj e
      subst e1
      rw [hb] at hb'
      cases hb'
      exact he rfl
theorem keysB_nil (m : PM) : keysB [] m = keysM m := by
  unfold keysB
  exact List.filter_eq_self.2 (fun _ _ => rfl)
theorem state_step {m : PM} {I : Nat} {p : List UInt8 × List UInt8} (h : m[I]? = some p) : stateM (m.take (I + 1)) = stateM (m.take I) ++ pairB p := by
  unfold stateM
  rw [List.take_add_one, h, List.flatMap_append]
  simp
theorem sizeM_le {m : PM} (hp : PairsR m) : sizeM m ≤ 1092 * m.length := by
  induction m with
  | nil => exact Nat.le_refl _
  | cons p m ih =>
    have h1 := ih (fun q hq => hp q (List.mem_cons_of_mem _ hq))
    have h2 := hp p List.mem_cons_self
    show 4 + p.1.length + p.2.length + sizeM m ≤ 1092 * (m.length + 1)
    omega
set_option maxRecDepth 100000 in
set_option maxHeartbeats 4000000 in
theorem encode_any8 (b : Nat) (C : Nat → Prop) (m : PM) (w : World) (hM : MapP w C b m) (hp : PairsR m) (hml : m.length ≤ 100000) :
    Calls Tryz.prog 30 #[.map (some b)] w fun e w' => ∃ v, e = .returned v ∧ Own w' w.heap.size v (stateM m) ∧ Below w.heap.size w w' := by
  have hsl := sizeM_le hp
  have hbl := hM.lt
  go_enter Tryz.func30, Tryz.ntmps30
  go_wp2_with fail
  refine (pairFields_any w).mono ?_
  rintro e w1 ⟨rfl, hk1, hb1, hs1⟩
  have hF1 := flds_pair hk1
  have hM1 := hM.after hb1
  clear hk1 hs1
  go_wp2_with fail
  refine (size_any8 b C m w1 hM1 hp (by omega)).mono ?_
  rintro e w2 ⟨rfl, hb2⟩
  have hB2 := blift hb1 hb2 hb1.size
  have hM2 := hM1.after hb2
  have hF2 := Flds.keeps (Keeps.of_below hb2 (Nat.le_refl _)) 1 _ _ hF1
  obtain ⟨Z, hZ⟩ : ∃ Z, Z = sizeM m := ⟨_, rfl⟩
  rw [← hZ] at hsl ⊢
  clear hZ hM1 hF1 hb1 hb2 hM
  obtain ⟨i0, hi, hz0, hz1, hz2⟩ := info_parts Tryz.info5
  obtain ⟨w3, hr3, ho3, hg3⟩ := run_make_own (P := Tryz.prog) w2 w2.heap.size 34 5 i0 _ 1 Tryz.underlying34 hi hz0 hz1 .i64 .i64 Z (by rw [hz2]; omega) (by unfold maxLen; omega) (Nat.le_refl _)
  have hb3 : Below w2.heap.size w2 w3 := below_grown (Below.refl _ _) hg3 (Nat.le_refl _) (fun k hk => by cases hk)
  have HM : Hid (∀ W, Below w2.heap.size w2 W → MapP W C b m) := fun W hW => hM2.after hW
  have HF : Hid (∀ W, Below w2.heap.size w2 W → Flds W 1 (.slice (some ⟨w.heap.size, 0, none⟩) 2 2) pairF) := fun W hW => Flds.keeps (Keeps.of_below hW (Nat.le_refl _)) 1 _ _ hF2
  have hO3 : Own w3 w2.heap.size (.slice (some ⟨w2.heap.size, 0, none⟩) 0 Z) [] := ho3
  have hM3 := HM.out w3 hb3
  have HKY : Hid (Calls Tryz.prog 41 #[.map (some b), .string ⟨#[]⟩] w3 fun e w' => ∃ v, e = .returned v ∧ w'.ownsRow w3.heap.size 9 1 v (keysM m).length ((keysM m).map encStr) ∧ Below w3.heap.size w3 w') := by
    have := keys_any b C m [] w3 hM3 (by omega)
    rw [keysB_nil] at this
    exact this
  have hrise := hM2.rise
  clear hM2 hF2 ho3 hg3 hi hz0 hz1 hz2
  go_wp2_with fail
  refine HKY.out.mono ?_
  rintro e w4 ⟨kv, rfl, hK4, hb4⟩
  have hB4 : Below w2.heap.size w2 w4 := blift hb3 hb4 hb3.size
  have hO4 := hO3.below hb4 (Nat.le_refl _)
  have hkl : (keysM m).length = m.length := List.length_map ..
  rw [hkl] at hK4
  have hksl : ∃ ka kc, kv = .slice ka m.length kc := by
    rcases hK4.2 with ⟨rfl, h0⟩ | ⟨g, cap, cur, rfl, _⟩
    · exact ⟨none, 0, by rw [h0]⟩
    · exact ⟨_, _, rfl⟩
  obtain ⟨ka, kc, rfl⟩ := hksl
  clear hM3 hO3 hr3 HKY
  go_wp2_with fail
  go_loopw [4, 16] (fun sv i wr => ∃ I : Nat, i = .int .i64 (I : Int) ∧ I ≤ m.length ∧ Own wr w2.heap.size sv (stateM (m.take I)) ∧ wr.ownsRow w3.heap.size 9 1 (.slice ka m.length kc) m.length ((keysM m).map encStr) ∧ Below w2.heap.size w2 wr) (fun _ i _ => m.length - (intOf i).toNat)
  case atStart => exact ⟨0, rfl, Nat.zero_le _, hO4, hK4, hB4⟩
  case round =>
    clear hO4 hB4 hK4 hb4
    obtain ⟨I, rfl, hI, hO, hK, hB⟩ := hrel
    have hM := HM.out wr hB
    have hsI : (stateM (m.take I)).length ≤ 109200000 := by
      rw [stateM_len]
      have h1 := sizeM_le (m := m.take I) (fun q hq => hp q (List.mem_of_mem_take hq))
      rw [List.length_take] at h1
      omega
    by_cases hlt : I < m.length
    · have i1 : (I : Int) < (m.length : Int) := by omega
      have hg : m[I]? = some m[I] := List.getElem?_eq_getElem hlt
      obtain ⟨p, hpp⟩ : ∃ p, m[I] = p := ⟨_, rfl⟩
      rw [hpp] at hg
      clear hpp
      have hpb := hp p (List.mem_of_getElem? hg)
      have hlook : lookM m p.1 = some p.2 := mem_look hM.rise (List.mem_of_getElem? hg)
      obtain ⟨kg, rfl⟩ : ∃ kg, ka = some ⟨kg, 0, none⟩ := by
        rcases hK.2 with ⟨_, h0⟩ | ⟨g, cap, cur, e, _⟩
        · omega
        · cases e; exact ⟨g, rfl⟩
      have hkc : wr.cell? ⟨kg, I, none⟩ = some (.string ⟨p.1.toArray⟩) := by
        rw [hK.cellAt I (by omega)]
        unfold keysM
        rw [List.getElem?_map, List.getElem?_map, hg]
        rfl
      obtain ⟨cc, w5, hr5, hs5, hb5⟩ := conv_sb p.1 wr
      have hM5 := hM.after hb5
      obtain ⟨va, vc, hr6, hs6⟩ : ∃ va vc, (Instr.lookup 71 (.map (some b)) (.string ⟨p.1.toArray⟩) false).run Tryz.prog w5 = .ok (.slice va p.2.length vc) w5 ∧ Seg w5 (.slice va p.2.length vc) p.2 := by
        obtain ⟨v, h1, h2⟩ := hM5.look p.1 (by unfold maxLen; omega) false
        rw [hlook] at h2
        obtain ⟨va, vc, rfl⟩ := h2.1.shapeD
        exact ⟨va, vc, h1, h2.1⟩
      have HST : Hid (stateM (m.take (I + 1)) = stateM (m.take I) ++ pairB p) := state_step hg
      clear hlook hg
      have hb6 := (Below.refl w5.heap.size w5).alloc (Nat.le_refl _) (.cells #[.int .u64 0, .slice (some ⟨wr.heap.size, 0, none⟩) p.1.length cc, .slice none 0 0, .int .u64 0, .slice va p.2.length vc, .slice none 0 0] 113)
      have hk6 := Blk.new w5 113 #[.int .u64 0, .slice (some ⟨wr.heap.size, 0, none⟩) p.1.length cc, .slice none 0 0, .int .u64 0, .slice va p.2.length vc, .slice none 0 0]
      have hB6 := blift (blift hB hb5 hB.size) hb6 (Nat.le_trans hB.size hb5.size)
      have hV6 : Vals (w5.alloc (.cells #[.int .u64 0, .slice (some ⟨wr.heap.size, 0, none⟩) p.1.length cc, .slice none 0 0, .int .u64 0, .slice va p.2.length vc, .slice none 0 0] 113)) 1 (.slice (some ⟨w5.heap.size, 0, none⟩) 2 2) (pairVs p.1 p.2) := by
        refine ⟨_, 2, rfl, (by show 2 ≤ maxLen; decide), fun _ => ⟨w5.heap.size, 0, rfl, hk6.lt, Nat.le_refl 2, fun i x hx => ?_⟩⟩
        match i, hx with
        | 0, hx =>
          cases hx
          exact ⟨hk6.cell rfl, ⟨_, hk6.cell rfl, hs5.below hb6 (Nat.le_refl _), by show p.1.length ≤ maxLen; unfold maxLen; omega⟩, ⟨none, 0, hk6.cell rfl, Nat.zero_le _, fun h => by cases h⟩, by show 0 < _; decide⟩
        | 1, hx =>
          cases hx
          exact ⟨hk6.cell rfl, ⟨_, hk6.cell rfl, hs6.below hb6 (Nat.le_refl _), by show p.2.length ≤ maxLen; unfold maxLen; omega⟩, ⟨none, 0, hk6.cell rfl, Nat.zero_le _, fun h => by cases h⟩, by show 0 < _; decide⟩
        | (i + 2), hx => cases hx
      have HE := encode_any 1 _ pairF 1 _ (pairVs p.1 p.2) _ (HF.out _ hB6) hV6
      rw [pair_enc p.1 p.2 (by omega) (by omega)] at HE
      have HE : Hid (Calls Tryz.prog 59 #[.slice (some ⟨w.heap.size, 0, none⟩) 2 2, .slice (some ⟨w5.heap.size, 0, none⟩) 2 2] _ fun e w' => encodePost _ (some (pairB p)) e w') := HE
      clear hV6 hk6 hM hM5
      go_wp2_with fail
      obtain ⟨w6, hw6⟩ : ∃ W, W = w5.alloc (.cells #[.int .u64 0, .slice (some ⟨wr.heap.size, 0, none⟩) p.1.length cc, .slice none 0 0, .int .u64 0, .slice va p.2.length vc, .slice none 0 0] 113) := ⟨_, rfl⟩
      rw [← hw6] at HE hb6 hB6 ⊢
      clear hw6
      refine HE.out.mono ?_
      rintro e w7 ⟨⟨bv, rfl, hO7⟩, hb7⟩
      have hbr : Below wr.heap.size wr w7 := blift (blift hb5 hb6 hb5.size) hb7 (Nat.le_trans hb5.size hb6.size)
      have hB7 := blift hB hbr hB.size
      have hOs := hO.below hbr (Nat.le_refl _)
      have hK7 := ownsRow_chg hK (Chg.of_below (S := fun _ => False) hbr (Nat.le_refl _)) (fun _ _ => id)
      have hpl : (pairB p).length ≤ 1092 := by rw [pairB_len]; omega
      obtain ⟨ab, cb, rfl⟩ := hO7.seg.shapeD
      clear HE hO hK hr5 hr6 hs5 hs6 hkc hb5 hb6 hB6 hB
      go_wp2_with (at_builtin; refine app_own _ rfl (.tmp 33) (.tmp 34) rfl w2.heap.size _ (stateM (m.take I)) rfl hOs _ (pairB p) rfl hO7.seg (by omega) (by exact hB7.size) ?_; intro v8 w8 ho8 hg8 hv8)
      have hB8 := below_grown hB7 hg8 hB7.size (fun q hq => (hOs.blocks q hq).1)
      have hK8 := hK7.kept hg8 (row_ne_row (by decide) hK7 hOs)
      go_wp2_with fail
      go_roundw
      case rel => exact ⟨I + 1, by go_num, hlt, by rw [HST.out]; exact ho8, hK8, hB8⟩
      case measure => simp [intOf]; omega
    · have i1 : ¬ (I : Int) < (m.length : Int) := by omega
      obtain rfl : I = m.length := by omega
      rw [List.take_length] at hO
      have HO : Hid (Own wr w2.heap.size u4 (stateM m)) := hO
      clear hO
      go_wp2_with fail
      go_ret
      exact ⟨_, rfl, HO.out.mono hB2.size, hB2.trans (hB.mono hB2.size)⟩
end Go.Proofs.YtbegphfideopoaaGreat
