/-
  What is proved here: entries that wait, in memory: one more by append, one less by slices.Delete, looked for by slices.IndexFunc and slices.ContainsFunc.
  Conditions: they lie in a row of the box's own.
-/
import Derived.Test.YtgoehohadnkpdaaDoorJOutSmall
import Derived.Test.YtgoehohadnkpdaaDoorJNumFlds
import Derived.ArgAppend
import Derived.Laws.OwnMore
namespace Go.Proofs.YtgoehohadnkpdaaDoor
open Go.RowKit

def xsC (l : List XE) : List Value := l.flatMap xeL
theorem xsC_len : ∀ l : List XE, (xsC l).length = l.length * 7
  | [] => rfl
  | x :: l => by
    show (xeL x ++ xsC l).length = _
    rw [List.length_append, xsC_len l, List.length_cons]
    show 7 + _ = _
    omega
theorem xsC_app (l m : List XE) : xsC (l ++ m) = xsC l ++ xsC m := by simp [xsC]
theorem xsC_one (x : XE) : xsC [x] = xeL x := by simp [xsC]
theorem xsC_at : ∀ (l : List XE) (i k : Nat) (e : XE), l[i]? = some e → k < 7 → (xsC l)[i * 7 + k]? = (xeL e)[k]?
  | [], _, _, _, h, _ => by cases h
  | x :: l, 0, k, e, h, hk => by
    cases h
    show (xeL x ++ xsC l)[0 * 7 + k]? = _
    rw [Nat.zero_mul, Nat.zero_add, List.getElem?_append_left (by exact hk)]
  | x :: l, i + 1, k, e, h, hk => by
    show (xeL x ++ xsC l)[(i + 1) * 7 + k]? = _
    rw [List.getElem?_append_right (by show 7 ≤ _; omega), show (i + 1) * 7 + k - (xeL x).length = i * 7 + k by show (i + 1) * 7 + k - 7 = _; omega]
    exact xsC_at l i k e h hk
theorem one_xe (e : XE) : ∀ u ∈ xeL e, u.oneCell' = true := by
  intro u hu
  simp only [xeL, List.mem_cons, List.not_mem_nil, or_false] at hu
  rcases hu with rfl | rfl | rfl | rfl | rfl | rfl | rfl <;> rfl
theorem one_xs : ∀ l : List XE, ∀ u ∈ xsC l, u.oneCell' = true
  | [], u, hu => by cases hu
  | x :: l, u, hu => by
    have hu' : u ∈ xeL x ++ xsC l := hu
    rcases List.mem_append.1 hu' with h | h
    · exact one_xe x u h
    · exact one_xs l u h
/-- Entries in a row of one's own. -/
def WtR (w : World) (base : Nat) (v : Value) (l : List XE) : Prop := w.ownsRow base 63 7 v l.length (xsC l)
theorem ownsRow_chgX {S : Nat → Prop} {w w' : World} {base size : Nat} {e : TypeId} {v : Value} {n : Nat} {xs : List Value} (h : w.ownsRow base e size v n xs) (hc : Chg S w w') (hv : ∀ k, v.ownBlock = some k → ¬ S k) : w'.ownsRow base e size v n xs := by
  refine ⟨h.1, ?_⟩
  rcases h.2 with h2 | ⟨g, cap, cur, h1, h2, h3, h4⟩
  · exact .inl h2
  · exact .inr ⟨g, cap, cur, h1, h2, by rw [hc.2 g (Array.getElem?_eq_some_iff.1 h3).1 (hv g (by rw [h1]; rfl))]; exact h3, h4⟩
theorem WtR.chg {S : Nat → Prop} {w w' : World} {base : Nat} {v : Value} {l : List XE} (h : WtR w base v l) (hc : Chg S w w') (hv : ∀ k, v.ownBlock = some k → ¬ S k) : WtR w' base v l := ownsRow_chgX h hc hv
theorem WtR.after {w w' : World} {base : Nat} {v : Value} {l : List XE} (h : WtR w base v l) (hb : Below w.heap.size w w') : WtR w' base v l := h.chg (S := fun _ => False) (Chg.of_below hb (Nat.le_refl _)) (fun _ _ => id)
theorem WtR.lt {w : World} {base : Nat} {v : Value} {l : List XE} (h : WtR w base v l) : ∀ k, v.ownBlock = some k → base ≤ k ∧ k < w.heap.size := World.ownsRow.lt h
theorem WtR.shape {w : World} {base : Nat} {v : Value} {l : List XE} (h : WtR w base v l) : ∃ ao c, v = .slice ao l.length c := by
  rcases h.2 with ⟨h1, h2⟩ | ⟨g, cap, cur, h1, _⟩
  · exact ⟨none, 0, by rw [h1, h2]⟩
  · exact ⟨_, _, h1⟩
theorem WtR.blk {w : World} {base : Nat} {v : Value} {l : List XE} (h : WtR w base v l) (hn : 0 < l.length) : ∃ b c cur, v = .slice (some ⟨b, 0, none⟩) l.length c ∧ base ≤ b ∧ Blk w b 63 cur ∧ l.length ≤ c ∧ c ≤ maxLen ∧ cur.size = c * 7 ∧ cur.toList.take (l.length * 7) = xsC l := by
  rcases h.2 with ⟨h1, h2⟩ | ⟨g, cap, cur, h1, h2, h3, h4, h5, h6, h7⟩
  · omega
  · exact ⟨g, cap, cur, h1, h2, h3, h4, h5, h6, h7⟩
theorem WtR.at {w : World} {base : Nat} {v : Value} {l : List XE} (h : WtR w base v l) {i : Nat} {e : XE} (hi : l[i]? = some e) : ∃ b c, v = .slice (some ⟨b, 0, none⟩) l.length c ∧ b < w.heap.size ∧ base ≤ b ∧ ∀ k u, (xeL e)[k]? = some u → w.cell? ⟨b, i * 7 + k, none⟩ = some u := by
  have hl : i < l.length := (List.getElem?_eq_some_iff.1 hi).1
  obtain ⟨b, c, cur, h1, h2, h3, h4, h5, h6, h7⟩ := h.blk (by omega)
  refine ⟨b, c, h1, h3.lt, h2, fun k u hu => ?_⟩
  have hk : k < 7 := (List.getElem?_eq_some_iff.1 hu).1
  refine h3.cell ?_
  have h8 := xsC_at l i k e hi hk
  rw [hu, ← h7, List.getElem?_take_of_lt (by omega)] at h8
  rw [← h8]
  simp
theorem index_ents (b len c I : Nat) (w : World) (h : I < len) : (Instr.indexAt 65 (.slice (some ⟨b, 0, none⟩) len c) (.int .i64 (I : Int))).run Tryd.prog w = .ok (.pointer (some ⟨b, I * 7, none⟩)) w := by
  have hs : ∀ w, (sizeOf 63).run Tryd.prog w = .ok 7 w := fun w => by kernel_rfl
  have hi : (0 : Int) ≤ (I : Int) ∧ (I : Int) < (len : Int) := by omega
  simp [Instr.indexAt, asIntOf, run_underlying Tryd.underlying65, hs, hi, Addr.add_mid]
  intro h2
  omega
theorem info_entX : (Tryd.prog.info? 63).map (fun i => (i.zero, i.size, i.bytes)) = some (some (.agg #[.int .i64 0, .int .i64 0, .int .i64 0, .int .i64 0, .int .i64 0, .int .i64 0, .int .i64 0]), 7, 56) := by kernel_rfl
theorem under_ents : Tryd.prog.underlying 65 = some (.slice 63) := by kernel_rfl
/-- One more. -/
theorem WtR.more {w : World} {base : Nat} {v : Value} {l : List XE} (h : WtR w base v l) (e : XE) (hn : l.length ≤ 1000000) (hb : base ≤ w.heap.size) : ∃ v' W', (∀ ty, (Builtin.append_ #[65, 65] ty #[v, .slice (some ⟨w.heap.size, 0, none⟩) 1 1]).run Tryd.prog (w.alloc (.cells (xeL e).toArray 63)) = .ok v' W') ∧ WtR W' base v' (l ++ [e]) ∧ (∀ q, v'.ownBlock = some q → v.ownBlock = some q ∨ w.heap.size ≤ q) ∧ Chg (fun q => v.ownBlock = some q) w W' := by
  have hk := Blk.new w 63 (xeL e).toArray
  have h' : (w.alloc (.cells (xeL e).toArray 63)).ownsRow base 63 7 v l.length (xsC l) := World.ownsRow.alloc h _
  obtain ⟨i0, hi, hz0, hz1, hz2⟩ := info_parts9 info_entX
  obtain ⟨v', w', h0, h2, h3, h4, h5⟩ := run_append_own_at (P := Tryd.prog) _ base 65 65 63 i0 _ 7 56 under_ents hi hz0 hz1 hz2 rfl (by decide) v l.length (xsC l) h' ⟨w.heap.size, 0, none⟩ 1 1 (xeL e) rfl (fun j y hy => by
    rw [Addr.add_mid, Nat.zero_add]
    exact hk.cell (by simpa using hy)) (one_xe e) (by unfold maxLen; omega) (by omega) (Nat.le_trans hb (by simp))
  refine ⟨v', w', fun ty => h0, ?_, ?_, ?_⟩
  · unfold WtR
    rw [List.length_append, xsC_app, xsC_one]
    exact h2
  · intro q hq
    rcases h5 with h5 | h5
    · left; rw [← h5]; exact hq
    · right
      rw [h5, World.size_alloc] at hq
      have := Option.some.inj hq
      omega
  · exact ((Chg.refl (fun q => v.ownBlock = some q) w).alloc _).trans (Chg.of_grown (S := fun q => v.ownBlock = some q) h3 (fun k e => e)) (fun _ _ h => h)

theorem fidx_some (p : XE → Bool) : ∀ (l : List XE) (k : Nat) (e : XE), l[k]? = some e → p e = true → (∀ x ∈ l.take k, p x = false) → l.findIdx? p = some k
  | [], _, _, h, _, _ => by cases h
  | x :: l, 0, e, h, hp, _ => by
    cases h
    rw [List.findIdx?_cons, if_pos hp]
  | x :: l, k + 1, e, h, hp, ha => by
    have hx : p x = false := ha x (by rw [List.take_succ_cons]; exact List.mem_cons_self)
    rw [List.findIdx?_cons, if_neg (by rw [hx]; decide), fidx_some p l k e h hp (fun y hy => ha y (by rw [List.take_succ_cons]; exact List.mem_cons_of_mem _ hy))]
    rfl
theorem fidx_none (p : XE → Bool) (l : List XE) (h : ∀ x ∈ l, p x = false) : l.findIdx? p = none := by
  rw [List.findIdx?_eq_none_iff]
  exact h
def idxZ (l : List XE) (p : XE → Bool) : Int := match l.findIdx? p with
  | some i => (i : Int)
  | none => -1

set_option maxRecDepth 100000 in
theorem indexR1 (e : XE) (q : Nat) (n : Int) (w : World) (hq : w.cell? ⟨q, 0, none⟩ = some (.int .i64 n)) : Calls Tryd.prog 46 #[xeV e, .pointer (some ⟨q, 0, none⟩)] w fun r w' => r = .returned (.bool (((e.wh : Nat) : Int) == n)) ∧ Below w.heap.size w w' := by
  have hb := (Below.refl w.heap.size w).alloc (Nat.le_refl _) (.cells (xeL e).toArray 63)
  have hql : q < w.heap.size := cell_lt hq
  have hqn : q ≠ w.heap.size := by omega
  unfold xeV xeL at *
  go_enter Tryd.func46, Tryd.ntmps46
  go_wp2
  go_ret
  exact ⟨rfl, hb⟩
set_option maxRecDepth 100000 in
set_option maxHeartbeats 1000000 in
theorem indexR (base : Nat) (v : Value) (l : List XE) (q : Nat) (n : Int) (w : World) (hl : l.length ≤ 1000000) (hW : WtR w base v l) (hq : w.cell? ⟨q, 0, none⟩ = some (.int .i64 n)) :
    Calls Tryd.prog 32 #[v, .func (.func 46) #[] #[.pointer (some ⟨q, 0, none⟩)]] w fun e w' => e = .returned (.int .i64 (idxZ l (fun e => ((e.wh : Nat) : Int) == n))) ∧ Below w.heap.size w w' := by
  have hql : q < w.heap.size := cell_lt hq
  have HC : Hid (∀ (e : XE) (V : World), Below w.heap.size w V → Calls Tryd.prog 46 #[xeV e, .pointer (some ⟨q, 0, none⟩)] V fun r w' => r = .returned (.bool (((e.wh : Nat) : Int) == n)) ∧ Below V.heap.size V w') := fun e V hV => indexR1 e q n V ((hV.cell (p := ⟨q, 0, none⟩) hql).trans hq)
  have HI : Hid (∀ (k : Nat) (e : XE), l[k]? = some e → (((e.wh : Nat) : Int) == n) = true → (∀ x ∈ l.take k, (fun e : XE => ((e.wh : Nat) : Int) == n) x = false) → idxZ l (fun e => ((e.wh : Nat) : Int) == n) = (k : Int)) := fun k e h1 h2 h3 => by
    unfold idxZ
    rw [fidx_some (fun e : XE => ((e.wh : Nat) : Int) == n) l k e h1 h2 h3]
  have HN : Hid ((∀ x ∈ l, (fun e : XE => ((e.wh : Nat) : Int) == n) x = false) → idxZ l (fun e => ((e.wh : Nat) : Int) == n) = -1) := fun h => by
    unfold idxZ
    rw [fidx_none (fun e : XE => ((e.wh : Nat) : Int) == n) l h]
  generalize idxZ l (fun e => ((e.wh : Nat) : Int) == n) = ZI at *
  obtain ⟨ao, c, hv⟩ := hW.shape
  have HW : Hid (WtR w base v l) := hW
  clear hW hq
  rw [hv] at HW ⊢
  clear hv
  go_enter Tryd.func32, Tryd.ntmps32
  go_wp2
  go_loopw [8] (fun i wr => ∃ k : Nat, k ≤ l.length ∧ i = .int .i64 k ∧ (∀ x ∈ l.take k, (fun e : XE => ((e.wh : Nat) : Int) == n) x = false) ∧ Below w.heap.size w wr) (fun i _ => l.length - (intOf i).toNat)
  case atStart => exact ⟨0, Nat.zero_le _, rfl, (fun x hx => by rw [List.take_zero] at hx; cases hx), Below.refl _ _⟩
  case round =>
    obtain ⟨k, hk, rfl, ha, hB⟩ := hrel
    by_cases hlt : k < l.length
    · have HA : Hid (∀ x ∈ l.take k, (fun e : XE => ((e.wh : Nat) : Int) == n) x = false) := ha
      clear ha
      obtain ⟨e, he⟩ : ∃ e, l[k]? = some e := ⟨l[k], List.getElem?_eq_getElem hlt⟩
      have HE : Hid (l[k]? = some e) := he
      obtain ⟨b, c', hbv, hbl, _, hcs⟩ := (HW.out.after hB).at he
      have hao : ao = some ⟨b, 0, none⟩ := by cases hbv; rfl
      subst hao
      have ix := fun w => index_ents b l.length c k w hlt
      have c0 := hcs 0 _ rfl
      have c1 := hcs 1 _ rfl
      have c2 := hcs 2 _ rfl
      have c3 := hcs 3 _ rfl
      have c4 := hcs 4 _ rfl
      have c5 := hcs 5 _ rfl
      have c6 := hcs 6 _ rfl
      rw [Nat.add_zero] at c0
      clear hbv hcs he
      have HCE : Hid (Calls Tryd.prog 46 #[xeV e, .pointer (some ⟨q, 0, none⟩)] wr fun r w' => r = .returned (.bool (((e.wh : Nat) : Int) == n)) ∧ Below wr.heap.size wr w') := HC.out e wr hB
      unfold xeV xeL at HCE
      generalize hpe : (((e.wh : Nat) : Int) == n) = PE at *
      have HPE : Hid ((((e.wh : Nat) : Int) == n) = PE) := hpe
      clear hpe
      go_wp2_with fail
      refine HCE.out.mono ?_
      rintro r w1 ⟨rfl, hb1⟩
      clear HCE c0 c1 c2 c3 c4 c5 c6 ix
      have hB1 : Below w.heap.size w w1 := hB.trans (hb1.mono hB.size)
      cases PE with
      | true =>
        have hz := HI.out k e HE.out HPE.out HA.out
        go_wp2
        go_ret
        exact ⟨by rw [hz]; rfl, hB1⟩
      | false =>
        have HA2 : Hid (∀ x ∈ l.take (k + 1), (fun e : XE => ((e.wh : Nat) : Int) == n) x = false) := fun x hx => by
          rw [List.take_add_one, HE.out] at hx
          rcases List.mem_append.1 hx with h | h
          · exact HA.out x h
          · simp only [Option.toList_some, List.mem_singleton] at h
            rw [h]
            exact HPE.out
        clear HA HPE HE
        go_wp2
        go_roundw
        case rel => exact ⟨k + 1, hlt, by go_num, HA2.out, hB1⟩
        case measure => simp [intOf]; omega
    · have hz := HN.out (by rw [List.take_of_length_le (by omega)] at ha; exact ha)
      clear ha HI HN
      go_wp2
      go_ret
      exact ⟨by rw [hz]; rfl, hB⟩

set_option maxRecDepth 100000 in
theorem indexA1 (e : XE) (q : Nat) (n : Int) (w : World) (hq : w.cell? ⟨q, 0, none⟩ = some (.int .i64 n)) : Calls Tryd.prog 33 #[xeV e, .pointer (some ⟨q, 0, none⟩)] w fun r w' => r = .returned (.bool (((e.seq : Nat) : Int) == n)) ∧ Below w.heap.size w w' := by
  have hb := (Below.refl w.heap.size w).alloc (Nat.le_refl _) (.cells (xeL e).toArray 63)
  have hql : q < w.heap.size := cell_lt hq
  have hqn : q ≠ w.heap.size := by omega
  unfold xeV xeL at *
  go_enter Tryd.func33, Tryd.ntmps33
  go_wp2
  go_ret
  exact ⟨rfl, hb⟩
set_option maxRecDepth 100000 in
set_option maxHeartbeats 1000000 in
theorem indexA (base : Nat) (v : Value) (l : List XE) (q : Nat) (n : Int) (w : World) (hl : l.length ≤ 1000000) (hW : WtR w base v l) (hq : w.cell? ⟨q, 0, none⟩ = some (.int .i64 n)) :
    Calls Tryd.prog 32 #[v, .func (.func 33) #[] #[.pointer (some ⟨q, 0, none⟩)]] w fun e w' => e = .returned (.int .i64 (idxZ l (fun e => ((e.seq : Nat) : Int) == n))) ∧ Below w.heap.size w w' := by
  have hql : q < w.heap.size := cell_lt hq
  have HC : Hid (∀ (e : XE) (V : World), Below w.heap.size w V → Calls Tryd.prog 33 #[xeV e, .pointer (some ⟨q, 0, none⟩)] V fun r w' => r = .returned (.bool (((e.seq : Nat) : Int) == n)) ∧ Below V.heap.size V w') := fun e V hV => indexA1 e q n V ((hV.cell (p := ⟨q, 0, none⟩) hql).trans hq)
  have HI : Hid (∀ (k : Nat) (e : XE), l[k]? = some e → (((e.seq : Nat) : Int) == n) = true → (∀ x ∈ l.take k, (fun e : XE => ((e.seq : Nat) : Int) == n) x = false) → idxZ l (fun e => ((e.seq : Nat) : Int) == n) = (k : Int)) := fun k e h1 h2 h3 => by
    unfold idxZ
    rw [fidx_some (fun e : XE => ((e.seq : Nat) : Int) == n) l k e h1 h2 h3]
  have HN : Hid ((∀ x ∈ l, (fun e : XE => ((e.seq : Nat) : Int) == n) x = false) → idxZ l (fun e => ((e.seq : Nat) : Int) == n) = -1) := fun h => by
    unfold idxZ
    rw [fidx_none (fun e : XE => ((e.seq : Nat) : Int) == n) l h]
  generalize idxZ l (fun e => ((e.seq : Nat) : Int) == n) = ZI at *
  obtain ⟨ao, c, hv⟩ := hW.shape
  have HW : Hid (WtR w base v l) := hW
  clear hW hq
  rw [hv] at HW ⊢
  clear hv
  go_enter Tryd.func32, Tryd.ntmps32
  go_wp2
  go_loopw [8] (fun i wr => ∃ k : Nat, k ≤ l.length ∧ i = .int .i64 k ∧ (∀ x ∈ l.take k, (fun e : XE => ((e.seq : Nat) : Int) == n) x = false) ∧ Below w.heap.size w wr) (fun i _ => l.length - (intOf i).toNat)
  case atStart => exact ⟨0, Nat.zero_le _, rfl, (fun x hx => by rw [List.take_zero] at hx; cases hx), Below.refl _ _⟩
  case round =>
    obtain ⟨k, hk, rfl, ha, hB⟩ := hrel
    by_cases hlt : k < l.length
    · have HA : Hid (∀ x ∈ l.take k, (fun e : XE => ((e.seq : Nat) : Int) == n) x = false) := ha
      clear ha
      obtain ⟨e, he⟩ : ∃ e, l[k]? = some e := ⟨l[k], List.getElem?_eq_getElem hlt⟩
      have HE : Hid (l[k]? = some e) := he
      obtain ⟨b, c', hbv, hbl, _, hcs⟩ := (HW.out.after hB).at he
      have hao : ao = some ⟨b, 0, none⟩ := by cases hbv; rfl
      subst hao
      have ix := fun w => index_ents b l.length c k w hlt
      have c0 := hcs 0 _ rfl
      have c1 := hcs 1 _ rfl
      have c2 := hcs 2 _ rfl
      have c3 := hcs 3 _ rfl
      have c4 := hcs 4 _ rfl
      have c5 := hcs 5 _ rfl
      have c6 := hcs 6 _ rfl
      rw [Nat.add_zero] at c0
      clear hbv hcs he
      have HCE : Hid (Calls Tryd.prog 33 #[xeV e, .pointer (some ⟨q, 0, none⟩)] wr fun r w' => r = .returned (.bool (((e.seq : Nat) : Int) == n)) ∧ Below wr.heap.size wr w') := HC.out e wr hB
      unfold xeV xeL at HCE
      generalize hpe : (((e.seq : Nat) : Int) == n) = PE at *
      have HPE : Hid ((((e.seq : Nat) : Int) == n) = PE) := hpe
      clear hpe
      go_wp2_with fail
      refine HCE.out.mono ?_
      rintro r w1 ⟨rfl, hb1⟩
      clear HCE c0 c1 c2 c3 c4 c5 c6 ix
      have hB1 : Below w.heap.size w w1 := hB.trans (hb1.mono hB.size)
      cases PE with
      | true =>
        have hz := HI.out k e HE.out HPE.out HA.out
        go_wp2
        go_ret
        exact ⟨by rw [hz]; rfl, hB1⟩
      | false =>
        have HA2 : Hid (∀ x ∈ l.take (k + 1), (fun e : XE => ((e.seq : Nat) : Int) == n) x = false) := fun x hx => by
          rw [List.take_add_one, HE.out] at hx
          rcases List.mem_append.1 hx with h | h
          · exact HA.out x h
          · simp only [Option.toList_some, List.mem_singleton] at h
            rw [h]
            exact HPE.out
        clear HA HPE HE
        go_wp2
        go_roundw
        case rel => exact ⟨k + 1, hlt, by go_num, HA2.out, hB1⟩
        case measure => simp [intOf]; omega
    · have hz := HN.out (by rw [List.take_of_length_le (by omega)] at ha; exact ha)
      clear ha HI HN
      go_wp2
      go_ret
      exact ⟨by rw [hz]; rfl, hB⟩

theorem idxZ_any (l : List XE) (p : XE → Bool) : decide (0 ≤ idxZ l p) = l.any p := by
  unfold idxZ
  cases h : l.findIdx? p with
  | none =>
    rw [List.findIdx?_eq_none_iff] at h
    have : l.any p = false := by
      rw [List.any_eq_false]
      intro x hx
      rw [h x hx]
      decide
    rw [this]
    rfl
  | some i =>
    have hs : (l.findIdx? p).isSome = true := by rw [h]; rfl
    rw [List.findIdx?_isSome] at hs
    rw [hs]
    exact decide_eq_true (Int.natCast_nonneg i)
set_option maxRecDepth 100000 in
theorem containsR (base : Nat) (v : Value) (l : List XE) (q : Nat) (n : Int) (w : World) (hl : l.length ≤ 1000000) (hW : WtR w base v l) (hq : w.cell? ⟨q, 0, none⟩ = some (.int .i64 n)) :
    Calls Tryd.prog 45 #[v, .func (.func 46) #[] #[.pointer (some ⟨q, 0, none⟩)]] w fun e w' => e = .returned (.bool (l.any (fun e => ((e.wh : Nat) : Int) == n))) ∧ Below w.heap.size w w' := by
  have HI : Hid (Calls Tryd.prog 32 #[v, .func (.func 46) #[] #[.pointer (some ⟨q, 0, none⟩)]] w fun e w' => e = .returned (.int .i64 (idxZ l (fun e => ((e.wh : Nat) : Int) == n))) ∧ Below w.heap.size w w') := indexR base v l q n w hl hW hq
  rw [← idxZ_any]
  generalize idxZ l (fun e => ((e.wh : Nat) : Int) == n) = ZI at *
  obtain ⟨ao, c, rfl⟩ := hW.shape
  clear hW hq
  go_enter Tryd.func45, Tryd.ntmps45
  go_wp2_with fail
  refine HI.out.mono ?_
  rintro e w1 ⟨rfl, hb⟩
  go_wp2
  go_ret
  exact ⟨rfl, hb⟩
end Go.Proofs.YtgoehohadnkpdaaDoor
