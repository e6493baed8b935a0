/-
  What is proved here: the program's disk: a crash.
  Conditions: the disk lies in memory.
-/
import Derived.Test.YtbegphfideopoaaGreatJPDiskLast
import Derived.Test.YtbegphfideopoaaGreatJPDiskDirty
import Derived.Test.YtbegphfideopoaaGreatJWalPure
namespace Go.Proofs.YtbegphfideopoaaGreat
open Go.RowKit Go.Maps

theorem exec_slice_sec {a : Act} {o : Oper} {w : World} (x : Operand) (ho : o.op = .slice 88 x none none none) (b off : Nat) (hx : a.eval x = .pointer (some ⟨b, off, none⟩)) : (execOp a.eval o).run Tryz.prog w = .ok (.value (.slice (some ⟨b, off, none⟩) 128 128)) w := by
  unfold execOp
  simp only [ho, hx]
  simp [go_sem]
theorem exec_slice_secn {a : Act} {o : Oper} {w : World} (x y : Operand) (ho : o.op = .slice 88 x none (some y) none) (b off n : Nat) (hx : a.eval x = .pointer (some ⟨b, off, none⟩)) (hy : a.eval y = .int .i64 (n : Int)) (hn : n ≤ 128) : (execOp a.eval o).run Tryz.prog w = .ok (.value (.slice (some ⟨b, off, none⟩) n 128)) w := by
  unfold execOp
  simp only [ho, hx, Option.map_some, Option.map_none, hy]
  have h1 : (n : Int) ≤ 128 := by omega
  simp [go_sem, h1]
theorem exec_four {a : Act} {o : Oper} {w : World} (f : FuncId) (x y z u : Operand) (ts : Array TypeId) (ho : o.op = .call { callee := .value (.func f), args := #[x, y, z, u], argTypes := ts }) (vx vy vz vu : Value) (hx : a.eval x = vx) (hy : a.eval y = vy) (hz : a.eval z = vz) (hu : a.eval u = vu) (hc : ∀ args w, (callFunc f args).run Tryz.prog w = .ok (.enter f args) w) : (execOp a.eval o).run Tryz.prog w = .ok (.enter f #[vx, vy, vz, vu]) w := by
  have he : a.eval (.func f) = .func (.func f) #[] #[] := rfl
  unfold execOp
  simp [ho, resolve, invoke, Deferred.ofValue, he, hx, hy, hz, hu, hc]
theorem exec_copyD {a : Act} {o : Oper} {w : World} (d s : Operand) (ho : o.op = .call { callee := .builtin .copy, args := #[d, s], argTypes := #[34, 34] }) (g off : Nat) (b n : Nat) (hd : a.eval d = .slice (some ⟨g, off, none⟩) 128 128) (hs : a.eval s = .slice (some ⟨b, 0, none⟩) n 128)
    (cur : Array Value) (t : TypeId) (hg : Blk w g t cur) (c : List UInt8) (hn : c.length = n) (hn2 : n ≤ 128) (hr : Row w b 0 c) (hfit : off + n ≤ cur.size) : (execOp a.eval o).run Tryz.prog w = .ok (.value (.int .i64 (n : Int))) (w.setRow g (splice cur.toList off (c.map v8)).toArray) := by
  have hsz : (Tryz.prog.info? 5).map (·.size) = some 1 := by kernel_rfl
  have hrun := run_copy_row (P := Tryz.prog) w 34 34 o.type 5 g off 128 128 ⟨b, 0, none⟩ n 128 cur t (c.map v8) Tryz.underlying34 hsz hg (by rw [List.length_map, hn]; exact (Nat.min_eq_left hn2).symm) hr.at (by rw [List.length_map, hn]; exact hfit) (one8l c)
  rw [List.length_map, hn] at hrun
  unfold execOp
  simp [ho, resolve, invoke, builtin, hd, hs, hrun, Result.andThen, splice, hn]
  rfl

set_option maxRecDepth 100000 in
set_option maxHeartbeats 4000000 in
theorem crash_any (L : PLay) (s : DS) (sv : Value) (stay : List Bool) (torn cut : Int) (w : World) (hD : PDisk w L s) (hS : BoolsA w L.T sv stay) :
    Calls Tryz.prog 17 #[.pointer (some ⟨L.g, 0, none⟩), sv, .int .i64 torn, .int .i64 cut] w fun e w' => e = .returned (.tuple #[]) ∧ PDisk w' L (crashS s stay torn cut) ∧ Chg L.T w w' := by
  have HDI : Hid (Calls Tryz.prog 39 #[.pointer (some ⟨L.g, 0, none⟩)] w fun e w' => ∃ v, e = .returned v ∧ OwnI w' w.heap.size v (dirtyS s) ∧ Below w.heap.size w w') := dirty_any L s w hD
  have HN : Hid (∀ i, stayN stay torn cut i ≤ 128) := stayN_le stay torn cut
  have HC : Hid (crashS s stay torn cut = { crashTo (stayN stay torn cut) 0 (dirtyS s) s with next := [], down := false }) := rfl
  have hdl := dirtyAt_len s.dirt 0
  rw [hD.ok.dirt] at hdl
  have hmx := hD.lay.max
  have hrise : Hid ((dirtyS s).Pairwise (· < ·)) := dirtyAt_rises s.dirt 0
  have hmem : Hid (∀ k ∈ dirtyS s, k < L.n ∧ s.dirt.getD k false = true) := fun k hk => by
    have h1 := (dirtyAt_mem s.dirt 0 k).1 hk
    have h2 := dirtyAt_lt s.dirt 0 k hk
    rw [hD.ok.dirt] at h2
    exact ⟨by omega, by simpa using h1.2⟩
  have hdl' : (dirtyS s).length ≤ L.n := hdl
  clear hdl
  go_enter Tryz.func17, Tryz.ntmps17
  go_wp2_with (go_at_call 39; refine HDI.out.mono ?_; rintro e w1 ⟨v1, rfl, ho1, hb1⟩; obtain ⟨a1, c1, rfl⟩ := ho1.sl)
  have hD1 := hD.after hb1
  have hT1 := hD.lt
  have hz := zeroSec
  have hi := Tryz.info88s
  obtain ⟨xv, hx, hx2⟩ := hD1.head
  unfold PLay.head at hx
  obtain ⟨mm, D, hown, hH⟩ := hD1.map
  have hlay := hD1.lay
  have hS1 : BoolsA w1 L.T sv stay := hS.chg (Chg.of_below hb1 (Nat.le_refl _))
  generalize hl : dirtyS s = l at *
  go_loopw [14] (fun i wr => ∃ I : Nat, I ≤ l.length ∧ i = .int .i64 (I : Int) ∧ Blk wr L.bs 88 (flatV (crashTo (stayN stay torn cut) 0 (l.take I) s).sure) ∧ Chg (fun b => b = L.bs) w1 wr) (fun i _ => l.length - (intOf i).toNat)
  case atStart => exact ⟨0, Nat.zero_le _, rfl, hD1.sure, Chg.refl _ _⟩
  case round =>
    obtain ⟨I, hI, rfl, hbs, hcr⟩ := hrel
    by_cases hlt : I < l.length
    · have i1 : (I : Int) < (l.length : Int) := by omega
      have hg : l[I]? = some l[I] := List.getElem?_eq_getElem hlt
      obtain ⟨k, hk⟩ : ∃ k, l[I] = k := ⟨_, rfl⟩
      rw [hk] at hg
      clear hk
      obtain ⟨hkn, hkd⟩ := hmem.out k (List.mem_of_getElem? hg)
      have hor := ho1.chg hcr (fun q hq e => by have h1 := (ho1.blocks q hq).1; have h2 := hT1 L.bs (.inr (.inl rfl)); omega)
      obtain ⟨ao', c', he', hcell⟩ := hor.at
      cases he'
      obtain ⟨bq, oq, rfl, hcq⟩ := hcell I k hg
      have hh := hx.chg hcr hlay.gs
      have d1 := hh.cell (j := 1) rfl
      have hownr := own_chg hown hcr (fun e => hlay.sm e.symm)
      have hlk := look5 hownr hH k (by omega)
      have hlv : lookS s k = s.now.getD k [] := by unfold lookS; rw [if_pos hkd]
      rw [hlv] at hlk
      have hnl : (s.now.getD k []).length = 128 := getD_len hD.ok.nows (by rw [hD.ok.now]; exact hkn)
      obtain ⟨BS, hBS⟩ : ∃ BS, BS = s.now.getD k [] := ⟨_, rfl⟩
      rw [← hBS] at hlk hnl
      have HBS : Hid (BS = s.now.getD k []) := hBS
      have HS1 : Hid ((secC (noughts 128)).size = (secC BS).size) := (secC_size _ (noughts_length _)).trans (secC_size _ hnl).symm
      have hiS : (Tryz.prog.info? 88).map (·.size) = some (secC BS).size := by rw [secC_size _ hnl]; exact hi
      clear hBS hlv hcell hor
      go_wp2_with (refine store_blk rfl 88 _ _ rfl rfl wr.heap.size (secC BS) rfl rfl 88 _ (by exact Blk.new _ _ _) hiS HS1.out (secC_one _) ?_; intro w4 hb4 hg4 hs4)
      have hB4 := below_grown ((Below.refl wr.heap.size wr).alloc (Nat.le_refl _) _) hg4 (by simp) (fun q hq => by have h2 : wr.heap.size = q := Option.some.inj hq; omega)
      have hh4 := hh.below hB4 hh.lt
      have hbs4 := hbs.below hB4 hbs.lt
      have hc4 : Chg (fun b => b = L.bs) w1 w4 := hcr.trans (S' := fun _ => False) (Chg.of_below hB4 (Nat.le_refl _)) (fun _ _ h => h.elim)
      have hS4 : BoolsA w4 L.T sv stay := hS1.chg (hc4.weaken (fun _ h => .inr (.inl h)))
      have hS0 : w4.drew.cell? ⟨L.g, 0, none⟩ = some (.slice (some ⟨L.bs, 0, none⟩) L.n L.n) := hh4.cell (j := 0) rfl
      have HL : Hid (Calls Tryz.prog 40 #[.int .i64 (I : Int), sv, .int .i64 torn, .int .i64 cut] w4.drew fun e w' => e = .returned (.int .i64 (stayN stay torn cut I : Int)) ∧ w' = w4.drew) := lasting_any I sv stay torn cut L.T w4.drew hS4
      have hNI := HN.out I
      generalize hn : stayN stay torn cut I = n at *
      have hrow : Row w4 wr.heap.size 0 (BS.take n) := (Blk.row hb4).take n
      have hlt2 : (BS.take n).length = n := by rw [List.length_take]; omega
      have hok : (crashTo (stayN stay torn cut) 0 (l.take I) s).ok L.n := DS.ok.crashTo _ HN.out _ 0 s hD.ok (fun q hq => (hmem.out q (List.mem_of_mem_take hq)).1)
      have hfs := flatV_size hok.sures
      rw [hok.sure] at hfs
      refine held_begin (fun W => W.cell? ⟨L.g, 0, none⟩ = some (.slice (some ⟨L.bs, 0, none⟩) L.n L.n)) (by kernel_rfl) ?_
      refine held_take 0 25 _ (.pointer (some ⟨L.g, 0, none⟩)) rfl rfl (by kernel_rfl) (by kernel_rfl) (by kernel_rfl) rfl hS0 (fun _ _ => rfl) ?_
      simp only [Act.put, List.setIfInBounds_toArray, List.set_cons_succ, List.set_cons_zero]
      refine held_take 1 26 _ (.pointer (some ⟨L.g, 0, none⟩)) rfl rfl (by kernel_rfl) (by kernel_rfl) (by kernel_rfl) rfl hS0 (fun _ _ => rfl) ?_
      simp only [Act.put, List.setIfInBounds_toArray, List.set_cons_succ, List.set_cons_zero]
      refine held_take 2 27 _ (.pointer (some ⟨L.g, 0, none⟩)) rfl rfl (by kernel_rfl) (by kernel_rfl) (by kernel_rfl) rfl hS0 (fun _ _ => rfl) ?_
      simp only [Act.put, List.setIfInBounds_toArray, List.set_cons_succ, List.set_cons_zero]
      refine held_take 3 28 _ (.slice (some ⟨L.bs, 0, none⟩) L.n L.n) rfl rfl (by kernel_rfl) (by kernel_rfl) (by kernel_rfl) rfl hS0 (fun W hW => exec_loadc 62 _ rfl _ _ rfl (load_one 62 (fun _ => by kernel_rfl) W _ _ _ hW)) ?_
      simp only [Act.put, List.setIfInBounds_toArray, List.set_cons_succ, List.set_cons_zero]
      refine held_take 4 29 _ (.int .i64 (k : Int)) rfl rfl (by kernel_rfl) (by kernel_rfl) (by kernel_rfl) rfl hS0 (fun _ _ => rfl) ?_
      simp only [Act.put, List.setIfInBounds_toArray, List.set_cons_succ, List.set_cons_zero]
      refine held_take 5 30 _ (.pointer (some ⟨L.bs, 128 * k, none⟩)) rfl rfl (by kernel_rfl) (by kernel_rfl) (by kernel_rfl) rfl hS0 (fun W _ => exec_indexat _ _ _ rfl _ _ _ rfl rfl (index_sec L.bs L.n k W hkn)) ?_
      simp only [Act.put, List.setIfInBounds_toArray, List.set_cons_succ, List.set_cons_zero]
      refine held_take 6 31 _ (.slice (some ⟨L.bs, 128 * k, none⟩) 128 128) rfl rfl (by kernel_rfl) (by kernel_rfl) (by kernel_rfl) rfl hS0 (fun _ _ => exec_slice_sec _ rfl _ _ rfl) ?_
      simp only [Act.put, List.setIfInBounds_toArray, List.set_cons_succ, List.set_cons_zero]
      refine held_take 7 32 _ (.int .i64 (I : Int)) rfl rfl (by kernel_rfl) (by kernel_rfl) (by kernel_rfl) rfl hS0 (fun _ _ => rfl) ?_
      simp only [Act.put, List.setIfInBounds_toArray, List.set_cons_succ, List.set_cons_zero]
      refine held_take 8 33 _ (sv) rfl rfl (by kernel_rfl) (by kernel_rfl) (by kernel_rfl) rfl hS0 (fun _ _ => rfl) ?_
      simp only [Act.put, List.setIfInBounds_toArray, List.set_cons_succ, List.set_cons_zero]
      refine held_take 9 34 _ (.int .i64 torn) rfl rfl (by kernel_rfl) (by kernel_rfl) (by kernel_rfl) rfl hS0 (fun _ _ => rfl) ?_
      simp only [Act.put, List.setIfInBounds_toArray, List.set_cons_succ, List.set_cons_zero]
      refine held_take 10 35 _ (.int .i64 cut) rfl rfl (by kernel_rfl) (by kernel_rfl) (by kernel_rfl) rfl hS0 (fun _ _ => rfl) ?_
      simp only [Act.put, List.setIfInBounds_toArray, List.set_cons_succ, List.set_cons_zero]
      refine held_call 11 36 _ 40 #[.int .i64 (I : Int), sv, .int .i64 torn, .int .i64 cut] rfl rfl (by kernel_rfl) rfl (exec_four _ _ _ _ _ _ rfl _ _ _ _ rfl rfl rfl rfl (enters_of Tryz.func40 (by kernel_rfl) rfl)) (HL.out.mono ?_)
      rintro e w5 ⟨rfl, rfl⟩
      refine ⟨_, rfl, hS0, ?_⟩
      simp only [Act.put, List.setIfInBounds_toArray, List.set_cons_succ, List.set_cons_zero]
      refine held_one 12 37 _ (.slice (some ⟨wr.heap.size, 0, none⟩) n 128) rfl rfl (by kernel_rfl) rfl hS0 (exec_slice_secn _ _ rfl _ _ _ rfl rfl hNI) ?_
      simp only [Act.put, List.setIfInBounds_toArray, List.set_cons_succ, List.set_cons_zero]
      have hne : L.g ≠ L.bs := hlay.gs
      refine held_all1 13 (by kernel_rfl) (op_value 13 38 _ _ _ rfl rfl rfl (exec_copyD _ _ rfl L.bs (128 * k) wr.heap.size n rfl rfl _ 88 hbs4.drew (BS.take n) hlt2 hNI hrow (by rw [hfs]; omega)) ⟨(Blk.setRowOther hh4.drew L.bs _ hne).cell (j := 0) rfl, ?_⟩)
      simp only [Act.put, List.setIfInBounds_toArray, List.set_cons_succ, List.set_cons_zero]
      refine wpAnyH_done (by kernel_rfl) ?_ _
      refine NoPanic.normal ?_
      go_wp2
      go_roundw
      case rel =>
        refine ⟨I + 1, hlt, by go_num, ?_, ?_⟩
        · have hst := crash_step (stayN stay torn cut) l I k s hg
          rw [hst, hn]
          have hoth := crashTo_other (stayN stay torn cut) (l.take I) 0 s k (rises_not_before hrise.out hg)
          have hset : (crashOne (crashTo (stayN stay torn cut) 0 (l.take I) s) k n).sure = (crashTo (stayN stay torn cut) 0 (l.take I) s).sure.set k (BS.take n ++ ((crashTo (stayN stay torn cut) 0 (l.take I) s).sure.getD k []).drop (BS.take n).length) := by
            show List.set _ k (tornRow _ k n) = _
            unfold tornRow
            rw [hoth.1, hlt2, HBS.out]
          rw [hset, ← flat_part hok.sures (by rw [hok.sure]; exact hkn) (BS.take n) (by omega)]
          rw [List.map_take]
          exact hbs4.drew.setRow _
        · exact hc4.drew.trans (S' := fun b => b = L.bs) ⟨below_setRow (Below.refl 0 w4.drew) (Nat.zero_le _) _, fun q _ hq => setRow_other w4.drew L.bs q _ hq⟩ (fun _ _ h => h)
      case measure => simp [intOf]; omega
    · have i1 : ¬ (I : Int) < (l.length : Int) := by omega
      have hIl : l.take I = l := List.take_of_length_le (by omega)
      rw [hIl] at hbs
      have hh := hx.chg hcr hlay.gs
      have d1 := hh.cell (j := 1) rfl
      have hownr := own_chg hown hcr (fun e => hlay.sm e.symm)
      have hok : (crashTo (stayN stay torn cut) 0 l s).ok L.n := DS.ok.crashTo _ HN.out _ 0 s hD.ok (fun q hq => (hmem.out q hq).1)
      have hcl := crashTo_clean (stayN stay torn cut) HN.out l 0 s hD.clean hD.ok (fun q hq => (hmem.out q hq).1)
      have hnd := fun j => crash_none (stayN stay torn cut) s j
      rw [hl] at hnd
      obtain ⟨-, -, -, hne, hdo⟩ := crashTo_len (stayN stay torn cut) l 0 s
      generalize crashTo (stayN stay torn cut) 0 l s = C at *
      clear hI hlt
      have tok : True := trivial
      go_wp2_with (first | (go_at_call 16; refine (plan_any L C (.slice none 0 0) [] _ hD5 (.inl ⟨rfl, none, 0, rfl, fun _ => rfl⟩) (by simp)).mono ?_; rintro e w6 ⟨rfl, hD6, hc6⟩; obtain ⟨xv6, hx6, hx62⟩ := hD6.head; unfold PLay.head at hx6; have e3 := hx6.cell (j := 3) rfl; have f3 := hx6.frozen 3) | (have _t := tok; refine wpList_clear5 _ rfl _ rfl L.bm _ D rfl hownr ?_; intro w5 hown5 hg5 hs5; clear tok; have hc5 : Chg (fun b => b = L.bs ∨ b = L.bm) w1 w5 := (hcr.weaken (fun _ h => .inl h)).trans (S' := fun b => b = L.bm) (Chg.of_grown hg5 (fun k hk => (Option.some.inj hk).symm)) (fun _ _ h => .inr h); have hb5 := hbs.grown hg5 (by intro e; exact hlay.sm (Option.some.inj e)); have hD5 := hD1.crashed hok hcl hnd ⟨hne, hdo⟩ hc5 hb5 hown5))
      go_end0
      rw [HC.out]
      have hc7 := (Chg.refl (fun b => b = L.g) w6).setCell L.g 3 (.bool false) (fun _ => rfl)
      have hT5 : Chg L.T w w5 := (Chg.of_below hb1 (Nat.le_refl _)).trans (S' := L.T) (hc5.weaken (fun _ h => by rcases h with h | h; exact .inr (.inl h); exact .inr (.inr h))) (fun _ _ h => h)
      refine ⟨rfl, hD6.chgHead hc7 { C with next := [], down := false } ⟨rfl, rfl, rfl⟩ xv6 ((hx6.set 3 (.bool false)).of_eq rfl) (hx62.chg (hc7.weaken (fun _ h => .inl (.inl h)))), ?_⟩
      exact (hT5.trans (S' := fun b => b = L.g) hc6 (fun _ _ h => .inl h)).trans (S' := fun b => b = L.g) hc7 (fun _ _ h => .inl h)
end Go.Proofs.YtbegphfideopoaaGreat
