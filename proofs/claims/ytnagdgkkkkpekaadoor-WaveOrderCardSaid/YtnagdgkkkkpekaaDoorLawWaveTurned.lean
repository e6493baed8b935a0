/-
  What is proved here: the statement WaveTurned is true of any devices and parts.
  Conditions: they lie in memory; the variable fourBits holds the sixteen words.
-/
import Derived.Test.YtnagdgkkkkpekaaDoorWaveAwake
import Derived.Test.YtnagdgkkkkpekaaDoorWaveSame
import Derived.Test.YtnagdgkkkkpekaaDoorWaveLawP
namespace Go.Proofs.YtnagdgkkkkpekaaDoor
open Go.RowKit

theorem planW_rows (c : Int) (ds ps : List Int) (hp : ps.length ≤ 1000) : (planW c ds ps).1.length ≤ 1000000 := by
  have := (planW_size c ds ps hp).1
  omega
set_option maxRecDepth 100000 in
set_option maxHeartbeats 4000000 in
theorem waveTurned_any (c : Int) (x y : Value) (ds ps : List Int) (w : World) (hx : IntsI w x ds) (hy : IntsI w y ps) (hgf : 0 < w.heap.size) (hf : Tab w 0 (fours.map v32)) :
    Calls Tryd.prog 6 #[.int .i64 c, x, y] w fun e w' => e = .returned (.bool true) ∧ Below w.heap.size w w' := by
  have HX : Hid (IntsI w x ds) := hx
  have HY : Hid (IntsI w y ps) := hy
  have HF : Hid (0 < w.heap.size ∧ Tab w 0 (fours.map v32)) := ⟨hgf, hf⟩
  have HR : Hid (0 < ds.length → ∃ b off c, x = .slice (some ⟨b, off, none⟩) ds.length c ∧ ds.length ≤ c ∧ b < w.heap.size ∧ ∀ (j : Nat) z, ds[j]? = some z → w.cell? ⟨b, off + j, none⟩ = some (vI z)) := fun h => hx.form h
  obtain ⟨ax, cx, rfl⟩ := hx.shape
  obtain ⟨ay, cy, rfl⟩ := hy.shape
  clear hx hy hgf hf
  go_enter Tryd.func6, Tryd.ntmps6
  go_wp2_with fail
  refine (awake15_any w HF.out.1 HF.out.2).mono ?_
  rintro e w1 ⟨rfl, hB1⟩
  by_cases hd : 500 < ds.length
  · have D : decide ((500 : Int) < (ds.length : Int)) = true := decide_eq_true (by omega)
    clear hd
    go_wp2
    go_ret
    exact ⟨rfl, hB1⟩
  have D : decide ((500 : Int) < (ds.length : Int)) = false := decide_eq_false (by omega)
  by_cases hp : 100 < ps.length
  · have D1 : decide ((100 : Int) < (ps.length : Int)) = true := decide_eq_true (by omega)
    clear hd hp
    go_wp2
    go_ret
    exact ⟨rfl, hB1⟩
  have D1 : decide ((100 : Int) < (ps.length : Int)) = false := decide_eq_false (by omega)
  have HL : Hid (ds.length ≤ 500 ∧ ps.length ≤ 100) := ⟨by omega, by omega⟩
  clear hd hp
  have hwr : IntKind.i64.wrap ((ds.length : Int) - 1) = (ds.length : Int) - 1 := by
    have := HL.out
    simp [IntKind.wrap, IntKind.bits, IntKind.signed]; omega
  obtain ⟨es, hes⟩ : ∃ es, es = ds.reverse := ⟨_, rfl⟩
  have HES : Hid (es = ds.reverse) := hes
  have HEL : Hid (es.length = ds.length) := by show _ = _; rw [hes, List.length_reverse]
  clear hes
  go_wp2_with fail
  go_loopw [8, 9] (fun v i wr => ∃ k : Nat, k ≤ ds.length ∧ i = .int .i64 ((ds.length : Int) - 1 - (k : Int)) ∧ OwnZ wr w.heap.size v (es.take k) ∧ Below w.heap.size w wr) (fun _ i _ => (Go.RowKit.intOf i + 1).toNat)
  case atStart => exact ⟨0, Nat.zero_le _, by simp, OwnZ.nil _ _, hB1⟩
  case round =>
    clear hB1
    obtain ⟨k, hk, rfl, hO, hB⟩ := hrel
    by_cases hlt : k < ds.length
    · obtain ⟨b, off, c', hxx, _, hb, hr⟩ := HR.out (by omega)
      cases hxx
      obtain ⟨I, hI⟩ : ∃ I : Nat, (ds.length : Int) - 1 - (k : Int) = (I : Int) := ⟨ds.length - 1 - k, by omega⟩
      rw [hI]
      have hId : I = ds.length - 1 - k := by omega
      have hIl : I < ds.length := by omega
      have hc1 : wr.cell? ⟨b, off + I, none⟩ = some (vI ds[I]) := (hB.cell (p := ⟨b, off + I, none⟩) hb).trans (hr I _ (List.getElem?_eq_getElem hIl))
      have ix := fun w => index_intsI b off ds.length cx I w hIl
      have HT : Hid (es.take (k + 1) = es.take k ++ [ds[I]]) := by
        show _ = _
        subst hId
        rw [HES.out, List.take_add_one, List.getElem?_eq_getElem (by simpa using hlt), List.getElem_reverse]; rfl
      have HI2 : Hid ((ds.length : Int) - 1 - ((k + 1 : Nat) : Int) = (I : Int) - 1) := (by omega : (ds.length : Int) - 1 - ((k + 1 : Nat) : Int) = (I : Int) - 1)
      have HLK : Hid ((es.take k).length + 1 ≤ 1000000000) := (by have := HL.out; have := HEL.out; simp; omega : (es.take k).length + 1 ≤ 1000000000)
      have hw2 : IntKind.i64.wrap ((I : Int) - 1) = (I : Int) - 1 := by
        have := HL.out
        simp [IntKind.wrap, IntKind.bits, IntKind.signed]; omega
      clear hr hI hId
      generalize ds[I] = z at *
      have hBA : Below w.heap.size w (wr.alloc (.cells #[vI z] 3)) := hB.alloc hB.size _
      have HOA : Hid (OwnZ (wr.alloc (.cells #[vI z] 3)) w.heap.size u8 (es.take k)) := hO.below ((Below.refl _ _).alloc (Nat.le_refl _) _) (Nat.le_refl _)
      have HIA : Hid (IntsI (wr.alloc (.cells #[vI z] 3)) (.slice (some ⟨wr.heap.size, 0, none⟩) 1 1) [z]) := ints_new wr [z] 3 _ rfl (by unfold maxLen; simp)
      have HPB : Hid (∀ q, u8.ownBlock = some q → w.heap.size ≤ q) := fun q hq => (hO.blocks q hq).1
      clear hO
      go_wp2_with (at_builtin; refine app_ints _ rfl (.tmp 36) (.tmp 41) rfl w.heap.size _ (es.take k) rfl (by exact HOA.out) _ [z] rfl (by exact HIA.out) (by have := HLK.out; simpa using this) (by exact hBA.size) ?_; intro v2 w2 ho2 hg2 hv2)
      have hB3 : Below w.heap.size w w2 := hBA.grown hg2 hBA.size HPB.out
      go_roundw
      case rel => exact ⟨k + 1, hlt, by rw [HI2.out], by rw [HT.out]; exact ho2, hB3⟩
      case measure => simp [Go.RowKit.intOf] <;> omega
    · have hkl : k = ds.length := by omega
      have hi : ((ds.length : Int) - 1 - (k : Int)) = -1 := by omega
      rw [hi]
      have HO : Hid (OwnZ wr w.heap.size u8 es) := by
        have := hO
        rw [hkl, List.take_of_length_le (by rw [HEL.out]; exact Nat.le_refl _)] at this
        exact this
      clear hO hkl hi hlt
      have HZ : Hid (∀ W, Below w.heap.size w W → Calls Tryd.prog 10 #[.int .i64 c, .slice ax ds.length cx, .slice ay ps.length cy] W fun e w' => ∃ v, e = .returned (.tuple #[v, .int .i64 (planW c ds ps).2]) ∧ PlanZ w' W.heap.size v (planW c ds ps).1 ∧ Below W.heap.size W w') := fun W hW =>
        plan_any15 c _ _ ds ps W (Nat.lt_of_lt_of_le HF.out.1 hW.size) (HF.out.2.below hW HF.out.1) (HX.out.below hW (Nat.le_refl _)) (HY.out.below hW (Nat.le_refl _)) (by have := HL.out; omega)
      go_wp2_with fail
      refine (HZ.out _ hB).mono ?_
      rintro e W1 ⟨v1, rfl, hp1, hb1⟩
      have hB1 : Below w.heap.size w W1 := hB.trans (hb1.mono hB.size)
      have HP1 : Hid (RowsI W1 v1 (planW c ds ps).1) := hp1.rows (planW_rows _ _ _ (by have := HL.out; omega))
      have HO1 : Hid (IntsI W1 u8 es) := (HO.out.below hb1 (Nat.le_refl _)).ints
      obtain ⟨a8, c8, rfl⟩ := HO1.out.shape
      clear hp1
      have hpl := planW_perm c (ds := ds) (es := es) ps (by rw [HES.out]; exact List.reverse_perm ds)
      have HQ : Hid (Calls Tryd.prog 10 #[.int .i64 c, .slice a8 es.length c8, .slice ay ps.length cy] W1 fun e w' => ∃ v, e = .returned (.tuple #[v, .int .i64 (planW c ds ps).2]) ∧ PlanZ w' W1.heap.size v (planW c ds ps).1 ∧ Below W1.heap.size W1 w') := by
        have := plan_any15 c _ _ es ps W1 (Nat.lt_of_lt_of_le HF.out.1 hB1.size) (HF.out.2.below hB1 HF.out.1) HO1.out (HY.out.below hB1 (Nat.le_refl _)) (by rw [HEL.out]; have := HL.out; omega)
        rw [hpl] at this
        exact this
      clear hpl
      go_wp2_with fail
      refine HQ.out.mono ?_
      rintro e W2 ⟨v2, rfl, hp2, hb2⟩
      have hB2 : Below w.heap.size w W2 := hB1.trans (hb2.mono hB1.size)
      have HP2 : Hid (RowsI W2 v2 (planW c ds ps).1) := hp2.rows (planW_rows _ _ _ (by have := HL.out; omega))
      clear hp2
      have HS : Hid (Calls Tryd.prog 12 #[v1, v2] W2 fun e w' => e = .returned (.bool true) ∧ Below W2.heap.size W2 w') := by
        have := same15_any v1 v2 _ _ W2 (HP1.out.below hb2 (Nat.le_refl _)) HP2.out
        rw [decide_eq_true (rfl : (planW c ds ps).1 = (planW c ds ps).1)] at this
        exact this
      go_wp2_with fail
      refine HS.out.mono ?_
      rintro e W3 ⟨rfl, hb3⟩
      go_wp2
      go_ret
      exact ⟨rfl, hB2.trans (hb3.mono hB2.size)⟩
end Go.Proofs.YtnagdgkkkkpekaaDoor
