/-
  What is proved here: small facts on slices of bytes: parts of them, strings of them, append within a loop over a function; bytes.IndexByte, and how long the first run of bytes is.
  Conditions: those that each fact names.
-/
import Derived.Test.YtchbfhckocfjhaaDoorFramePure
import Derived.Test.YtchbfhckocfjhaaDoorShaApp
import Derived.Laws.IdiomStrings
import Derived.Laws.OwnMore
import Derived.RangeFuncBox
import Derived.RangeFuncLeaves
import Derived.RangeFuncCalls
import Derived.Shelf.Abstract
import Derived.OwnWalkIn
import Derived.TacticsInMore
import Derived.LoopNIn
import Derived.LoopIn
import Derived.Maps.OwnIn
namespace Go.Proofs.YtchbfhckocfjhaaDoor
open Go.RowKit

theorem own_emptyF (w : World) (base n : Nat) (hn : n = w.heap.size) (hb : base ≤ w.heap.size) : Own (w.alloc (.cells #[] 5)) base (.slice (some ⟨n, 0, none⟩) 0 0) [] := by
  subst hn
  exact ⟨rfl, .inr ⟨w.heap.size, 0, #[], rfl, hb, heap_alloc_new w _, Nat.le_refl _, Nat.zero_le _, rfl, rfl⟩⟩
theorem seg_stringF {w : World} {v : Value} {bs : List UInt8} (h : Seg w v bs) (t : TypeId) (ht : Tryd.prog.underlying t = some .string) : (convert 22 t v).run Tryd.prog w = .ok (.string ⟨bs.toArray⟩) w := by
  rcases h with ⟨rfl, ao, c, rfl, _⟩ | ⟨b, off, c, rfl, _, hr, _⟩
  · rw [run_convert_bytes_string w 22 t 5 _ 0 c Tryd.underlying22 Tryd.underlying5 ht]
    cases ao <;> simp [Conv.bytesToString, loadCells]
    all_goals rfl
  · exact run_convert_bytes_back w 22 t 5 ⟨b, off, none⟩ c bs Tryd.underlying22 Tryd.underlying5 ht (fun j hj => by rw [Addr.add_mid]; exact hr j hj)
theorem Seg.shapeF {w : World} {v : Value} {bs : List UInt8} (h : Seg w v bs) : ∃ ao c, v = .slice ao bs.length c := by
  rcases h with ⟨rfl, ao', c', h, _⟩ | ⟨b, off, c', h, _⟩
  · exact ⟨_, _, h⟩
  · exact ⟨_, _, h⟩
theorem Seg.formF {w : World} {ao : Option Addr} {n c : Nat} {bs : List UInt8} (h : Seg w (.slice ao n c) bs) (hn : 0 < n) : ∃ b off, ao = some ⟨b, off, none⟩ ∧ n ≤ c ∧ Row w b off bs ∧ b < w.heap.size := by
  rcases h with ⟨rfl, ao', c', h, _⟩ | ⟨b, off, c', h, h2, h3, h4⟩
  · cases h; omega
  · cases h; exact ⟨b, off, rfl, h2, h3, h4⟩
theorem elem_bytesF : Tryd.prog.elem 22 = 5 := by kernel_rfl
theorem size_byteF (w : World) : (sizeOf 5).run Tryd.prog w = .ok 1 w := by kernel_rfl
theorem add_zero_addrF (ao : Option Addr) : ao.map (·.add 0) = ao := by
  cases ao with
  | none => rfl
  | some a => obtain ⟨b, o, s⟩ := a; simp [Addr.add]
theorem slice_toF (ao : Option Addr) (len c n : Nat) (h : n ≤ c) (w : World) : (Instr.slice 22 (.slice ao len c) none (some (.int .i64 (n : Int))) none).run Tryd.prog w = .ok (.slice ao n c) w := by
  rw [run_slice_h w 22 ao len c (by rw [elem_bytesF]; exact Tryd.underlying22) .i64 n (by omega) (by omega), elem_bytesF, size_byteF]
  simp only [Result.andThen_ok, sliced, Int.toNat_natCast, Nat.zero_mul, add_zero_addrF, Nat.sub_zero, ite_self]
/-- Where the rest of a slice begins. -/
def restF (ao : Option Addr) (c lo : Nat) : Option Addr := if c = lo then ao else ao.map (·.add (lo * 1))
theorem slice_restF (ao : Option Addr) (len c lo : Nat) (h : lo ≤ len) (w : World) : (Instr.slice 22 (.slice ao len c) (some (.int .i64 (lo : Int))) none none).run Tryd.prog w = .ok (.slice (restF ao c lo) (len - lo) (c - lo)) w := by
  rw [run_slice_l w 22 ao len c (by rw [elem_bytesF]; exact Tryd.underlying22) .i64 lo (by omega) (by omega), elem_bytesF, size_byteF]
  simp only [Result.andThen_ok, sliced, Int.toNat_natCast, restF]
theorem Seg.takesF {w : World} {ao : Option Addr} {len c : Nat} {bs : List UInt8} (h : Seg w (.slice ao len c) bs) (n : Nat) (hn : n ≤ len) : Seg w (.slice ao n c) (bs.take n) ∧ n ≤ c := by
  rcases h with ⟨rfl, ao', c', h, h2⟩ | ⟨b, off, c', h, h2, h3, h4⟩
  · cases h
    obtain rfl : n = 0 := by omega
    exact ⟨.inl ⟨rfl, _, _, rfl, h2⟩, Nat.zero_le _⟩
  · cases h
    exact ⟨Seg.of_row (h3.take n) (by simp; omega) (by omega) h4, by omega⟩
theorem Seg.dropsF {w : World} {ao : Option Addr} {len c : Nat} {bs : List UInt8} (h : Seg w (.slice ao len c) bs) (n : Nat) (hn : n ≤ len) : Seg w (.slice (restF ao c n) (len - n) (c - n)) (bs.drop n) := by
  rcases h with ⟨rfl, ao', c', h, h2⟩ | ⟨b, off, c', h, h2, h3, h4⟩
  · cases h
    obtain rfl : n = 0 := by omega
    refine .inl ⟨rfl, _, _, rfl, fun e => ?_⟩
    unfold restF at e
    split at e
    · omega
    · rw [Option.map_eq_none_iff] at e
      have := h2 e
      omega
  · cases h
    by_cases hc : c = n
    · have e : restF (some ⟨b, off, none⟩) c n = some ⟨b, off, none⟩ := by unfold restF; rw [if_pos hc]
      rw [e]
      have hb : bs.drop n = [] := List.drop_eq_nil_of_le (by omega)
      rw [hb]
      exact .inl ⟨rfl, _, c - n, by congr 1; omega, fun e => by cases e⟩
    · have e : restF (some ⟨b, off, none⟩) c n = some ⟨b, off + n, none⟩ := by unfold restF; rw [if_neg hc, Option.map_some, Addr.add_mid, Nat.mul_one]
      rw [e]
      exact Seg.of_row (h3.drop n) (by simp) (by omega) h4
theorem grown_reflF (w : World) (row : Option Nat) : w.grownBy w row := ⟨rfl, rfl, rfl, Nat.le_refl _, fun _ _ _ => rfl⟩

/-- append onto a slice of the call's own, within a loop over a function. -/
theorem app_own_in {F : Fence} {nF : Nat} (w : World) {ops : Array Oper} {rest : List Oper} {o : Oper} {a : Act} {Q : Exit → Act → World → Prop} (hgd : o.guard = none) (s x : Operand)
    (ho : o.op = .call { callee := .builtin .append, args := #[s, x], argTypes := #[22, 22] })
    (base : Nat) (v : Value) (bs : List UInt8) (hs : a.eval s = v) (hown : Own w base v bs) (xv : Value) (nw : List UInt8) (hx : a.eval x = xv) (hseg : Seg w xv nw)
    (hlen : bs.length + nw.length ≤ 1000000000) (hbase : base ≤ w.heap.size)
    (hK : ∀ v' w', Own w' base v' (bs ++ nw) → w.grownBy w' v.ownBlock → (v'.ownBlock = v.ownBlock ∨ v'.ownBlock = some w.heap.size) → wpListIn F nF Tryd.prog ops Q rest (a.put o.dst v') w') :
    wpListIn F nF Tryd.prog ops Q (o :: rest) a w := by
  obtain ⟨i0, hi, hz0, hz1, hz2⟩ := info_parts Tryd.info5
  have key : ∀ ad c m, xv = .slice (some ad) m c → m = nw.length → (∀ j u, (nw.map v8)[j]? = some u → w.cell? (ad.add j) = some u) → wpListIn F nF Tryd.prog ops Q (o :: rest) a w := by
    intro ad c m hxv hm hc
    subst hm
    refine wpListIn_append_own_at w hgd s x 22 ho base 5 i0 (.int .u8 0) 1 1 Tryd.underlying22 hi hz0 hz1 hz2 rfl (by decide) v bs.length (bs.map v8) hs hown ad nw.length c (nw.map v8) (hx.trans hxv) (by simp) hc (one8l nw) (by unfold maxLen; omega) (by omega) hbase ?_
    intro v' w' h1 h2 _ h4
    refine hK v' w' ?_ h2 h4
    unfold Own; rw [List.length_append, List.map_append]; exact h1
  rcases hseg with ⟨rfl, ao, c, rfl, hn⟩ | ⟨b, off, c, rfl, _, hr, _⟩
  · cases ao with
    | none =>
      obtain rfl := hn rfl
      refine wpListIn_plain hgd fun K hK' => ?_
      have hrun := run_append_owned_none (P := Tryd.prog) (w := w) base 22 o.type 5 i0 1 Tryd.underlying22 hi v bs.length (bs.map v8) hown
      unfold Oper.wpIn
      refine ⟨by simp [Oper.about, ho, resolve, Target.leads, Sem.run_pure], ?_⟩
      rw [Oper.semAt_plain F _ _ (by rw [ho]; intro c hc'; cases hc')]
      simp [execOp, ho, resolve, invoke, builtin, hs, hx, hrun, Result.andThen]
      exact hK' _ _ (hK v w (by rw [List.append_nil]; exact hown) (grown_reflF w _) (.inl rfl))
    | some ad => exact key ad c 0 rfl rfl (fun j u h => by simp at h)
  · exact key ⟨b, off, none⟩ c _ rfl rfl hr.at
/-- What an append keeps. -/
theorem Own.keeps {W W' : World} {base : Nat} {v : Value} {bs : List UInt8} (h : Own W base v bs) (hg : W.grownBy W' v.ownBlock) : KeepsOthers W W' := by
  refine KeepsOthers.of_grownBy hg fun j o ej hj => ?_
  rcases h.2 with ⟨rfl, _⟩ | ⟨g, cap, cur, rfl, _, hgb, _⟩
  · simp [Value.ownBlock] at ej
  · obtain rfl : g = j := by simpa [Value.ownBlock] using ej
    rw [hgb] at hj; cases hj; rfl
theorem Own.belows {W W' : World} {base : Nat} {v : Value} {bs : List UInt8} (h : Own W base v bs) (hg : W.grownBy W' v.ownBlock) (hb : base ≤ W.heap.size) : Below base W W' :=
  below_grown (Below.refl _ _) hg hb (fun q hq => (h.blocks q hq).1)

theorem bytesOf_map (bs : List UInt8) : Lib.bytesOf (bs.map n8) = bs := by
  have : (fun n : Int => UInt8.ofNat n.toNat) ∘ n8 = id := by funext b; simp [n8]
  simp [Lib.bytesOf, this]
set_option maxRecDepth 100000 in
theorem index_any (x : Value) (bs : List UInt8) (w : World) (hseg : Seg w x bs) :
    Calls Tryd.prog 36 #[x, .int .u8 0] w fun e w' => e = .returned (.int .i64 (Lib.indexByte bs 0)) ∧ w' = w := by
  have key : (Extern.BytealgIndexByte.indexByte #[x, .int .u8 0]).run Tryd.prog w = .ok (.int .i64 (Lib.indexByte bs 0)) w := by
    rcases hseg with ⟨rfl, ao, c, rfl, _⟩ | ⟨b, off, c, rfl, _, hr, _⟩
    · cases ao with
      | none => exact Lib.run_indexByteNil w 0 c 0
      | some ad => rfl
    · have := Lib.run_indexByteSlice (P := Tryd.prog) w b off bs.length c (bs.map n8) (by simp) (fun i hi => by rw [hr i hi]; simp [List.getD, hi]) 0
      rw [bytesOf_map] at this
      exact this
  obtain ⟨ao, c, rfl⟩ := hseg.shapeF
  go_enter Tryd.func36, Tryd.ntmps36
  go_wp2
  rw [run_callFunc_extern Tryd.func40 (by kernel_rfl) (by kernel_rfl) (by kernel_rfl) (e := Extern.BytealgIndexByte.indexByte) (by kernel_rfl), key]
  simp only [Result.andThen]
  rw [Oper.upon_value]
  go_wp2
  go_ret
  exact ⟨rfl, rfl⟩

theorem fr_index (bs : List UInt8) : (0 ≤ Lib.indexByte (bs.take (min bs.length 254)) 0 → Lib.indexByte (bs.take (min bs.length 254)) 0 = (fr bs : Int)) ∧ (Lib.indexByte (bs.take (min bs.length 254)) 0 < 0 → ((min bs.length 254 : Nat) : Int) = (fr bs : Int)) := by
  have e : bs.take (min bs.length 254) = bs.take 254 := by
    rcases Nat.le_total bs.length 254 with h | h
    · rw [Nat.min_eq_left h, List.take_of_length_le (Nat.le_refl _), List.take_of_length_le h]
    · rw [Nat.min_eq_right h]
  rw [e]
  rcases index_tw (bs.take 254) with ⟨h1, h2⟩ | ⟨h1, h2⟩
  · refine ⟨fun h => by omega, fun _ => ?_⟩
    unfold fr; rw [h2]; simp; omega
  · exact ⟨fun _ => h1, fun h => by omega⟩
theorem min_ifF (a b : Nat) : (if b < a then (b : Int) else (a : Int)) = ((min a b : Nat) : Int) := by split <;> omega
theorem min_ifF' (a b : Nat) : (if (b : Int) < (a : Int) then (b : Int) else (a : Int)) = ((min a b : Nat) : Int) := by split <;> omega
theorem min_254 (a : Nat) : (if (254 : Int) < (a : Int) then (254 : Int) else (a : Int)) = ((min a 254 : Nat) : Int) := by split <;> omega
theorem min_254' (a : Nat) : (if 254 < a then (254 : Int) else (a : Int)) = ((min a 254 : Nat) : Int) := by split <;> omega
attribute [local go_sem] min_254 min_254'
set_option maxRecDepth 100000 in
theorem first_any (x : Value) (bs : List UInt8) (w : World) (hseg : Seg w x bs) :
    Calls Tryd.prog 30 #[x] w fun e w' => e = .returned (.int .i64 (fr bs : Int)) ∧ w' = w := by
  obtain ⟨ao, c, rfl⟩ := hseg.shapeF
  have hf := fr_index bs
  have hm : min bs.length 254 ≤ bs.length := Nat.min_le_left _ _
  have ht := hseg.takesF (min bs.length 254) hm
  have l1 := slice_toF ao bs.length c (min bs.length 254) ht.2
  obtain ⟨FB, hFB⟩ : ∃ FB, FB = fr bs := ⟨_, rfl⟩
  rw [← hFB] at hf
  rw [← hFB]
  clear hFB
  have HC : Hid (Calls Tryd.prog 36 #[.slice ao (min bs.length 254) c, .int .u8 0] w fun e w' => e = .returned (.int .i64 (Lib.indexByte (bs.take (min bs.length 254)) 0)) ∧ w' = w) := index_any _ _ w ht.1
  obtain ⟨IX, hIX⟩ : ∃ IX, IX = Lib.indexByte (bs.take (min bs.length 254)) 0 := ⟨_, rfl⟩
  rw [← hIX] at hf HC
  have HF : Hid ((0 ≤ IX → IX = (FB : Int)) ∧ (IX < 0 → ((min bs.length 254 : Nat) : Int) = (FB : Int))) := hf
  clear hIX hf ht
  go_enter Tryd.func30, Tryd.ntmps30
  go_wp2_with fail
  refine HC.out.mono ?_
  rintro e w1 ⟨rfl, rfl⟩
  clear HC
  go_wp2
  · go_ret
    exact ⟨ret_int (HF.out.1 (by assumption)), rfl⟩
  · go_ret
    exact ⟨ret_int (HF.out.2 (by assumption)), rfl⟩
end Go.Proofs.YtchbfhckocfjhaaDoor
