/-
  What is proved here: a map from numbers to reports beside a box: what it holds of what waits.
  Conditions: those that each fact names.
-/
import Derived.Test.YtgoehohadnkpdaaDoorJOutSeqs
import Derived.Maps.OwnSet
import Derived.Laws.StructEq
namespace Go.Proofs.YtgoehohadnkpdaaDoor
open Go.RowKit Go.Maps

def repD (r : RP) : DataW Unit := .agg [.lit (.int .i64 r.c), .lit (.int .i64 r.l), .lit (.int .i64 r.v), .lit (.int .i64 r.o)]
theorem repD_inj {a b : RP} (h : repD a = repD b) : a = b := by
  unfold repD at h
  injection h with h
  simp only [List.cons.injEq, DataW.lit.injEq, Lit.int.injEq, true_and, and_true] at h
  exact RP.ext' h.1 h.2.1 h.2.2.1 h.2.2.2
theorem rpV_inj {a b : RP} (h : rpV a = rpV b) : a = b := by
  unfold rpV rpL at h
  simp at h
  exact RP.ext' h.1 h.2.1 h.2.2.1 h.2.2.2
open Classical in
/-- How a report in a map reads. -/
noncomputable def repR (v : Value) : Option (DataW Unit × List MemPlace) := if h : ∃ r : RP, v = rpV r then some (repD h.choose, []) else none
theorem repR_mk (r : RP) : repR (rpV r) = some (repD r, []) := by
  have hx : ∃ b : RP, rpV r = rpV b := ⟨r, rfl⟩
  unfold repR
  rw [dif_pos hx, ← rpV_inj hx.choose_spec]
theorem repR_inv {v : Value} {z : DataW Unit × List MemPlace} (h : repR v = some z) : ∃ r : RP, v = rpV r ∧ z = (repD r, []) := by
  unfold repR at h
  split at h
  · rename_i hx
    exact ⟨_, hx.choose_spec, (Option.some.inj h).symm⟩
  · cases h
theorem keyX : Keyed Tryd.prog 3 := int_keyed Tryd.underlying3
theorem key_intX (k : Int) (h1 : -9223372036854775808 ≤ k) (h2 : k ≤ 9223372036854775807) : keyOf Tryd.prog 3 (.int .i64 k) = some (.int .i64 k) := keyOf_int_mk Tryd.underlying3 (WalkArith.wf_i64 (by omega))
theorem zeroRep (w : World) : (zeroValue 23).run Tryd.prog w = .ok (rpV ⟨0, 0, 0, 0⟩) w := by kernel_rfl
def hasX (l : List XE) (q : Int) : Bool := l.any (fun e => ((e.seq : Nat) : Int) == q)
theorem hasX_idx (l : List XE) (q : Int) : hasX l q = (idxX l q).isSome := by
  unfold hasX idxX
  rw [List.findIdx?_isSome]
/-- What a map holds of what waits. -/
structure HoldsX (D : DataW Unit) (l : List XE) : Prop where
  has : ∀ q : Int, Maps.has D (.int .i64 q) = hasX l q
  is : ∀ e ∈ l, ∀ z, D.atKey (.int .i64 (e.seq : Int)) z = repD e.r
  size : Maps.size D = l.length
theorem HoldsX.nil : HoldsX (.map []) [] := ⟨fun _ => rfl, (fun e he => by cases he), rfl⟩
theorem HoldsX.put {D : DataW Unit} {l : List XE} (h : HoldsX D l) (hT : Tidy D) (e : XE) (hk : WideAt.IsKeyLit (.int .i64 (e.seq : Int))) (hl : ∀ y ∈ l, y.seq < e.seq) : HoldsX (D.put (.int .i64 (e.seq : Int)) (repD e.r)) (l ++ [e]) := by
  have hn : hasX l (e.seq : Int) = false := by
    unfold hasX
    rw [List.any_eq_false]
    intro y hy
    have := hl y hy
    simp only [beq_iff_eq]
    omega
  refine ⟨fun q => ?_, fun y hy z => ?_, ?_⟩
  · by_cases hq : q = (e.seq : Int)
    · subst hq
      rw [has_put_same hT.isMap hk]
      unfold hasX
      rw [List.any_append]
      simp
    · rw [has_put_other (by simpa using hq), h.has q]
      unfold hasX
      rw [List.any_append]
      have : ((e.seq : Int) == q) = false := beq_eq_false_iff_ne.2 (fun e2 => hq e2.symm)
      simp [this]
  · rcases List.mem_append.1 hy with h1 | h1
    · have := hl y h1
      rw [atKey_put_other (by simp; omega)]
      exact h.is y h1 z
    · rw [List.mem_singleton.1 h1, atKey_put_same hT.isMap hk]
  · rw [size_put hT, h.has, hn, if_neg (by decide), h.size, List.length_append]
    rfl
theorem idxX_at {l : List XE} {q : Int} {i : Nat} (h : idxX l q = some i) : ∃ hl : i < l.length, ((l[i].seq : Nat) : Int) = q := by
  unfold idxX at h
  obtain ⟨h1, h2, _⟩ := List.findIdx?_eq_some_iff_getElem.1 h
  exact ⟨h1, by simpa using h2⟩
theorem HoldsX.del {D : DataW Unit} {l : List XE} (h : HoldsX D l) (hT : Tidy D) (hr : l.Pairwise (fun a b => a.seq < b.seq)) (q : Int) (i : Nat) (hi : idxX l q = some i) : HoldsX (D.del (.int .i64 q)) (l.eraseIdx i) := by
  obtain ⟨hl, hq⟩ := idxX_at hi
  have hsp : l = l.take i ++ l[i] :: l.drop (i + 1) := by rw [List.getElem_cons_drop, List.take_append_drop]
  have hhas : hasX l q = true := by rw [hasX_idx, hi]; rfl
  rw [List.eraseIdx_eq_take_drop_succ]
  generalize hA : l.take i = A at *
  generalize hB : l.drop (i + 1) = B at *
  generalize l[i] = y at *
  clear hA hB hi hl
  subst hsp
  rw [List.pairwise_append, List.pairwise_cons] at hr
  obtain ⟨_, ⟨hyB, _⟩, hAB⟩ := hr
  have hne : ∀ z ∈ A ++ B, ((z.seq : Nat) : Int) ≠ q := fun z hz => by
    rcases List.mem_append.1 hz with h1 | h1
    · have := hAB z h1 y List.mem_cons_self
      omega
    · have := hyB z h1
      omega
  refine ⟨fun p => ?_, fun z hz d => ?_, ?_⟩
  · by_cases hp : p = q
    · subst hp
      rw [has_del_same]
      symm
      unfold hasX
      rw [List.any_eq_false]
      intro z hz
      have := hne z hz
      simpa using this
    · rw [has_del_other (by simpa using hp), h.has p]
      unfold hasX
      have : (((y.seq : Nat) : Int) == p) = false := beq_eq_false_iff_ne.2 (fun e => hp (by omega))
      rw [List.any_append, List.any_append, List.any_cons, this, Bool.false_or]
  · have hz2 := hne z hz
    rw [atKey_del_other (by simpa using hz2)]
    refine h.is z ?_ d
    rcases List.mem_append.1 hz with h1 | h1
    · exact List.mem_append_left _ h1
    · exact List.mem_append_right _ (List.mem_cons_of_mem _ h1)
  · have := size_del (k := .int .i64 q) hT
    rw [h.has, hhas, if_pos rfl, h.size, List.length_append, List.length_cons] at this
    rw [List.length_append]
    omega
theorem HoldsX.drop {D : DataW Unit} {l : List XE} (h : HoldsX D l) (hT : Tidy D) (q : Int) (hi : idxX l q = none) : HoldsX (D.del (.int .i64 q)) l := by
  have hn : hasX l q = false := by rw [hasX_idx, hi]; rfl
  have hne : ∀ z ∈ l, ((z.seq : Nat) : Int) ≠ q := fun z hz e => by
    unfold hasX at hn
    rw [List.any_eq_false] at hn
    exact hn z hz (by simpa using e)
  refine ⟨fun p => ?_, fun z hz d => ?_, ?_⟩
  · by_cases hp : p = q
    · subst hp
      rw [has_del_same, hn]
    · rw [has_del_other (by simpa using hp), h.has p]
  · have hz2 := hne z hz
    rw [atKey_del_other (by simpa using hz2)]
    exact h.is z hz d
  · have := size_del (k := .int .i64 q) hT
    rw [h.has, hn, if_neg (by decide), h.size] at this
    omega
theorem own_chgX {S : Nat → Prop} {w w' : World} {b m : Nat} {D : DataW Unit} (h : w.ownsMap Tryd.prog 3 repR b m D) (hc : Chg S w w') (hb : ¬ S b) : w'.ownsMap Tryd.prog 3 repR b m D := by
  have hl := h.lt
  obtain ⟨es, clock, h1, r⟩ := h
  exact ⟨es, clock, (hc.2 b hl hb).trans h1, r⟩
theorem look_okX {w : World} {b m : Nat} {D : DataW Unit} {l : List XE} (hown : w.ownsMap Tryd.prog 3 repR b m D) (hH : HoldsX D l) (q : Int) (h1 : -9223372036854775808 ≤ q) (h2 : q ≤ 9223372036854775807) :
    ∃ r : RP, (Instr.lookup 52 (.map (some b)) (.int .i64 q) true).run Tryd.prog w = .ok (.tuple #[.agg #[.int .i64 r.c, .int .i64 r.l, .int .i64 r.v, .int .i64 r.o], .bool (hasX l q)]) w := by
  obtain ⟨v, ps, hrun, hv⟩ := hown.look_ok keyX Tryd.underlying52 (zeroRep w) (repR_mk _) (key_intX q h1 h2)
  obtain ⟨r, rfl, _⟩ := repR_inv hv
  exact ⟨r, by rw [hrun, hH.has]; rfl⟩
theorem lookX {w : World} {b m : Nat} {D : DataW Unit} {l : List XE} (hown : w.ownsMap Tryd.prog 3 repR b m D) (hH : HoldsX D l) (e : XE) (he : e ∈ l) (hs : e.seq ≤ 1073741824) :
    (Instr.lookup 52 (.map (some b)) (.int .i64 (e.seq : Int)) false).run Tryd.prog w = .ok (.agg #[.int .i64 e.r.c, .int .i64 e.r.l, .int .i64 e.r.v, .int .i64 e.r.o]) w := by
  obtain ⟨v, ps, hrun, hv⟩ := hown.lookup keyX Tryd.underlying52 (zeroRep w) (repR_mk _) (key_intX (e.seq : Int) (by omega) (by omega))
  obtain ⟨r, rfl, hz⟩ := repR_inv hv
  rw [hH.is e he] at hz
  have := repD_inj (congrArg Prod.fst hz)
  rw [hrun, ← this]
  rfl
theorem full_sixty {s : FS} {n j e : Nat} {x : XS} (h : CB s n j e x) (hs : x.last.seq < 64) : ¬ fullX x := by
  rintro ⟨h1, y, hy, hy2⟩
  rcases h.pos with ⟨_, _, h3⟩ | ⟨p1, p2, p3⟩
  · omega
  · obtain ⟨a, b, c, _, _⟩ := h.wts y hy
    rw [c, p2] at hy2
    have hp : plO x.last.seq = 31 := by omega
    unfold plO blkO at *
    omega
theorem st_rep : Tryd.prog.stoodInHeld 23 = false := by kernel_rfl
theorem eq_repIn (a b c d a' b' c' d' : Int) (w : World) : (Op.equalIn 10000 23 (.agg #[.int .i64 a, .int .i64 b, .int .i64 c, .int .i64 d]) (.agg #[.int .i64 a', .int .i64 b', .int .i64 c', .int .i64 d'])).run Tryd.prog w = .ok (a == a' && (b == b' && (c == c' && d == d'))) w := by
  have ht : Tryd.prog.underlying 23 = some (.struct (Tryd.prog.fieldsOf 23)) := by kernel_rfl
  rw [run_equalIn_agg w _ _ _ _ ht st_rep]
  simp [go_sem]
  by_cases h1 : a = a' <;> by_cases h2 : b = b' <;> by_cases h3 : c = c' <;> by_cases h4 : d = d' <;> simp [h1, h2, h3, h4]
theorem ne_rep (r : RP) (w : World) : (binOp .neq 23 (.agg #[.int .i64 r.c, .int .i64 r.l, .int .i64 r.v, .int .i64 r.o]) (.agg #[.int .i64 r.c, .int .i64 r.l, .int .i64 r.v, .int .i64 r.o])).run Tryd.prog w = .ok (.bool false) w := by
  rw [run_neq_struct, eq_repIn]
  simp
end Go.Proofs.YtgoehohadnkpdaaDoor
