/-
  What is proved here: the document's disk: which are dirty; whether two lists of numbers are the same.
  Conditions: the disk lies in memory.
-/
import Derived.Test.YtojgeahablphbaaGreatJRefDiskSync
import Derived.Test.YtojgeahablphbaaGreatJDiskInts
import Derived.Deep.QuietTactic
namespace Go.Proofs.YtojgeahablphbaaGreat
open Go.RowKit

theorem Tryz.info3p : (Tryz.prog.info? 3).map (fun i => (i.zero, i.size, i.bytes)) = some (some (.int .i64 0), 1, 8) := by kernel_rfl
theorem app_int (w : World) {ops : Array Oper} {rest : List Oper} {o : Oper} {a : Act} {Q : Exit → Act → World → Prop} (hgd : o.guard = none) (s x : Operand)
    (ho : o.op = .call { callee := .builtin .append, args := #[s, x], argTypes := #[70, 70] })
    (base : Nat) (v : Value) (l : List Nat) (hs : a.eval s = v) (hown : OwnI w base v l) (g c k : Nat) (hx : a.eval x = .slice (some ⟨g, 0, none⟩) 1 c) (hc : w.cell? ⟨g, 0, none⟩ = some (.int .i64 (k : Int)))
    (hlen : l.length ≤ 1000000) (hbase : base ≤ w.heap.size)
    (hK : ∀ v' w', OwnI w' base v' (l ++ [k]) → w.grownBy w' v.ownBlock → (v'.ownBlock = v.ownBlock ∨ v'.ownBlock = some w.heap.size) → wpList Tryz.prog ops Q rest (a.put o.dst v') w') :
    wpList Tryz.prog ops Q (o :: rest) a w := by
  obtain ⟨i0, hi, hz0, hz1, hz2⟩ := info_parts Tryz.info3p
  refine wpList_append_own_at w hgd s x 70 ho base 3 i0 (.int .i64 0) 1 8 Tryz.underlying70 hi hz0 hz1 hz2 rfl (by decide) v l.length (ints l) hs hown ⟨g, 0, none⟩ 1 c [.int .i64 (k : Int)] hx rfl (fun j y hy => ?_) (fun y hy => ?_) (by unfold maxLen; omega) (by omega) hbase ?_
  · match j, hy with
    | 0, hy => cases hy; exact hc
    | (j + 1), hy => cases hy
  · rw [show y = .int .i64 (k : Int) by simpa using hy]; rfl
  intro v' w' h2 h3 _ h5
  refine hK v' w' ?_ h3 h5
  unfold OwnI ints
  rw [List.length_append, List.map_append]
  exact h2
theorem dirtyAt_snoc : ∀ (l : List Bool) (i : Nat) (b : Bool), dirtyAt i (l ++ [b]) = dirtyAt i l ++ (if b then [i + l.length] else [])
  | [], i, b => by cases b <;> rfl
  | c :: l, i, b => by
    have ih := dirtyAt_snoc l (i + 1) b
    have e : i + 1 + l.length = i + (c :: l).length := by rw [List.length_cons]; omega
    rw [e] at ih
    cases c
    · simpa [dirtyAt] using ih
    · simpa [dirtyAt] using ih
theorem dirty_step (l : List Bool) (I : Nat) (b : Bool) (h : l[I]? = some b) : dirtyAt 0 (l.take (I + 1)) = dirtyAt 0 (l.take I) ++ (if b then [I] else []) := by
  have hI : I < l.length := (List.getElem?_eq_some_iff.1 h).1
  rw [List.take_add_one, h]
  show dirtyAt 0 (l.take I ++ [b]) = _
  rw [dirtyAt_snoc, List.length_take, Nat.min_eq_left (by omega), Nat.zero_add]

set_option maxRecDepth 100000 in
set_option maxHeartbeats 2000000 in
theorem refDirty_any (L : RLay) (s : DS) (w : World) (hD : RDisk w L s) :
    Calls Tryz.prog 32 #[.pointer (some ⟨L.g, 0, none⟩)] w fun e w' => ∃ v, e = .returned v ∧ OwnI w' w.heap.size v (dirtyS s) ∧ Below w.heap.size w w' := by
  have hmx := hD.lay.max
  have hdl := hD.ok.dirt
  obtain ⟨F, hF⟩ : ∃ F, F = dirtyS s := ⟨_, rfl⟩
  rw [← hF]
  have HF : Hid (F = dirtyAt 0 s.dirt) := hF
  clear hF
  go_enter Tryz.func32, Tryz.ntmps32
  go_wp2
  go_loopw [3, 4] (fun u i wr => ∃ I : Nat, I ≤ L.n ∧ i = .int .i64 (I : Int) ∧ OwnI wr w.heap.size u (dirtyAt 0 (s.dirt.take I)) ∧ Below w.heap.size w wr) (fun _ i _ => L.n - (intOf i).toNat)
  case atStart => exact ⟨0, Nat.zero_le _, rfl, OwnI.nil _ _, Below.refl _ _⟩
  case round =>
    obtain ⟨I, hI, rfl, hO, hB⟩ := hrel
    have hDi := hD.after hB
    obtain ⟨xv, hh, _⟩ := hDi.head
    unfold RLay.head at hh
    have c2 := hh.cell (j := 2) rfl
    have s1 := hB.size
    have hll : (dirtyAt 0 (s.dirt.take I)).length ≤ 4096 := by
      have := dirtyAt_len (s.dirt.take I) 0
      rw [List.length_take] at this
      omega
    by_cases hlt : I < L.n
    · have i1 : (I : Int) < (L.n : Int) := by omega
      obtain ⟨b, hb⟩ : ∃ b, s.dirt[I]? = some b := ⟨s.dirt[I]'(by omega), List.getElem?_eq_getElem (by omega)⟩
      have dd := hDi.dirt.cell (j := I) (v := .bool b) (by rw [List.getElem?_map, hb]; rfl)
      have HN : Hid (dirtyAt 0 (s.dirt.take (I + 1)) = dirtyAt 0 (s.dirt.take I) ++ (if b then [I] else [])) := dirty_step _ _ _ hb
      have l1 := hh.lt
      clear hb hdl
      cases b with
      | false =>
        go_wp2
        go_roundw
        case rel => exact ⟨I + 1, hlt, by go_num, by rw [HN.out]; simpa using hO, hB⟩
        case measure => simp [intOf]; omega
      | true =>
        have hw1 : Below wr.heap.size wr (wr.alloc (.cells #[.int .i64 (I : Int)] 3)) := (Below.refl _ _).alloc (Nat.le_refl _) _
        have hw2 : Below w.heap.size w (wr.alloc (.cells #[.int .i64 (I : Int)] 3)) := hB.alloc s1 _
        go_wp2_with (at_builtin; refine app_int _ rfl (.tmp 21) (.tmp 23) rfl w.heap.size _ (dirtyAt 0 (s.dirt.take I)) rfl (by exact hO.after hw1 (Nat.le_refl _)) wr.heap.size 1 I rfl (by exact (Blk.new _ _ _).cell rfl) (by omega) (by exact hw2.size) ?_; intro v3 w3 hO3 hg3 hv3; have hB3 := below_grown hw2 hg3 hw2.size (fun q hq => (hO.blocks q hq).1))
        go_roundw
        case rel => exact ⟨I + 1, hlt, by go_num, by rw [HN.out]; simpa using hO3, hB3⟩
        case measure => simp [intOf]; omega
    · have i1 : ¬ (I : Int) < (L.n : Int) := by omega
      have HE : Hid (F = dirtyAt 0 (s.dirt.take I)) := by
        show _ = _
        rw [HF.out, List.take_of_length_le (by omega)]
      clear hdl
      go_wp2
      go_ret
      rw [HE.out]
      exact ⟨_, rfl, hO, hB⟩
theorem drewN_drewN (w : World) (a b : Nat) : (w.drewN a).drewN b = w.drewN (a + b) := by
  unfold World.drewN
  simp [Nat.add_assoc]

set_option maxRecDepth 100000 in
set_option maxHeartbeats 2000000 in
theorem sameInts_any (x y : Value) (a b : List Nat) (w : World) (ha : IntsAt w x a) (hb : IntsAt w y b) (hal : a.length ≤ 1000000) :
    Calls Tryz.prog 43 #[x, y] w fun e w' => e = .returned (.bool (decide (a = b))) ∧ ∃ m, w' = w.drewN m := by
  obtain ⟨ao, ca, rfl, hca⟩ := ha
  obtain ⟨bo, cb, rfl, hcb⟩ := hb
  obtain ⟨R, hR⟩ : ∃ R, R = decide (a = b) := ⟨_, rfl⟩
  rw [← hR]
  have HR : Hid (R = decide (a = b)) := hR
  clear hR
  by_cases hlen : a.length = b.length
  · have hl : ((a.length : Int) == (b.length : Int)) = true := by rw [hlen]; simp
    have hl2 : ((a.length : Int) == (a.length : Int)) = true := by simp
    have HL : Hid (a.length = b.length) := hlen
    rw [← hlen]
    clear hlen hl
    go_enter Tryz.func43, Tryz.ntmps43
    go_wp2
    go_loopw [5] (fun i wr => ∃ I m : Nat, I ≤ a.length ∧ i = .int .i64 (I : Int) ∧ a.take I = b.take I ∧ wr = w.drewN m) (fun i _ => a.length - (intOf i).toNat)
    case atStart => exact ⟨0, 0, Nat.zero_le _, rfl, rfl, rfl⟩
    case round =>
      obtain ⟨I, m, hI, rfl, hab, rfl⟩ := hrel
      by_cases hlt : I < a.length
      · have i1 : (I : Int) < (a.length : Int) := by omega
        have hltb : I < b.length := by have := HL.out; omega
        obtain ⟨p, q, rfl, h1⟩ := hca I _ (List.getElem?_eq_getElem hlt)
        obtain ⟨p', q', rfl, h2⟩ := hcb I _ (List.getElem?_eq_getElem hltb)
        by_cases he : a[I] = b[I]
        · have HN : Hid (a.take (I + 1) = b.take (I + 1)) := by
            show _ = _
            rw [List.take_add_one, List.take_add_one, List.getElem?_eq_getElem hlt, List.getElem?_eq_getElem hltb, he, hab]
          rw [← he] at h2
          generalize a[I] = X at *
          clear hab he
          go_wp2_with fail
          go_quiet (fail)
          go_wp2
          go_roundw
          case rel => exact ⟨I + 1, m + nq, hlt, by go_num, HN.out, rfl⟩
          case measure => simp [intOf]; omega
        · have HE : Hid (R = false) := by
            show _ = _
            rw [HR.out]
            exact decide_eq_false (fun h => he (by subst h; rfl))
          have hn : ((a[I] : Int) == (b[I] : Int)) = false := by simp; omega
          generalize a[I] = X at *
          generalize b[I] = Y at *
          clear hab he
          go_wp2_with fail
          go_quiet (fail)
          go_wp2
          go_ret
          rw [HE.out]
          exact ⟨rfl, m + nq, drewN_drewN w m nq⟩
      · have i1 : ¬ (I : Int) < (a.length : Int) := by omega
        have HE : Hid (R = true) := by
          show _ = _
          rw [HR.out]
          have := HL.out
          rw [List.take_of_length_le (by omega), List.take_of_length_le (by omega)] at hab
          exact decide_eq_true hab
        clear hab
        go_wp2
        go_ret
        rw [HE.out]
        exact ⟨rfl, _, rfl⟩
  · have hl : ((a.length : Int) == (b.length : Int)) = false := by simp; omega
    have HE : Hid (R = false) := by show _ = _; rw [HR.out]; exact decide_eq_false (fun h => hlen (by rw [h]))
    clear hlen
    go_enter Tryz.func43, Tryz.ntmps43
    go_wp2
    go_ret
    rw [HE.out]
    exact ⟨rfl, 0, rfl⟩
end Go.Proofs.YtojgeahablphbaaGreat
