/-
  What is proved here: the document's disk: a crash.
  Conditions: the disk lies in memory.
-/
import Derived.Test.YtojgeahablphbaaGreatJRefDiskDirty
namespace Go.Proofs.YtojgeahablphbaaGreat
open Go.RowKit

theorem exec_slicel {a : Act} {o : Oper} {w : World} (x y : Operand) (ho : o.op = .slice 33 x (some y) none none) (u v r : Value) (hx : a.eval x = u) (hy : a.eval y = v) (h : (Instr.slice 33 u (some v) none none).run Tryz.prog w = .ok r w) : (execOp a.eval o).run Tryz.prog w = .ok (.value r) w := by
  unfold execOp
  have e := run_sliceAt_slice (P := Tryz.prog) w 33 u (some v) none none (by rw [elem_bytesD]; exact Tryz.underlying33)
  simp only [ho, hx, hy, Option.map_none, Option.map_some, Sem.run_bind, Sem.run_pure, e, h, Result.andThen_ok]

set_option maxRecDepth 100000 in
set_option maxHeartbeats 8000000 in
theorem refCrash_any (L : RLay) (s : DS) (sv : Value) (stay : List Bool) (torn cut : Int) (w : World) (hD : RDisk w L s) (hS : BoolsA w L.T sv stay) (hsl : stay.length ≤ 1000000) :
    Calls Tryz.prog 12 #[.pointer (some ⟨L.g, 0, none⟩), sv, .int .i64 torn, .int .i64 cut] w fun e w' => e = .returned (.tuple #[]) ∧ RDisk w' L (crashS s stay torn cut) ∧ Chg L.T w w' := by
  have HDi : Hid (Calls Tryz.prog 32 #[.pointer (some ⟨L.g, 0, none⟩)] w fun e w' => ∃ v, e = .returned v ∧ OwnI w' w.heap.size v (dirtyS s) ∧ Below w.heap.size w w') := refDirty_any L s w hD
  have hT := hD.lt
  have hmx := hD.lay.max
  have hll : (dirtyS s).length ≤ 4096 := by
    have := dirtyAt_len s.dirt 0
    have h2 := hD.ok.dirt
    unfold dirtyS
    omega
  have hS0 := hS
  obtain ⟨ao, c, hse, _⟩ := hS
  subst hse
  have hlk : ∀ k ∈ dirtyS s, k < L.n := fun k hk => by have := dirtyAt_lt _ _ _ hk; have := hD.ok.dirt; omega
  generalize hl : dirtyS s = l at *
  have HL : Hid (dirtyS s = l) := hl
  clear hl
  go_enter Tryz.func12, Tryz.ntmps12
  go_wp2_with (go_at_call 32; refine HDi.out.mono ?_; rintro e w1 ⟨v1, rfl, hO1, hb1⟩; obtain ⟨a1, c1, rfl⟩ := hO1.sl)
  have hD1 := hD.after hb1
  have hv1 : ∀ q, (Value.slice a1 l.length c1).ownBlock = some q → ¬ L.T q := fun q hq e => by have := (hO1.blocks q hq).1; have := hT q e; omega
  go_loopw [9] (fun i wr => ∃ I : Nat, I ≤ l.length ∧ i = .int .i64 (I : Int) ∧ RDisk wr L (crashTo (stayN stay torn cut) 0 (l.take I) s) ∧ Chg L.T w1 wr) (fun i _ => l.length - (intOf i).toNat)
  case atStart => exact ⟨0, Nat.zero_le _, rfl, hD1, Chg.refl _ _⟩
  case round =>
    obtain ⟨I, hI, rfl, hDi, hCi⟩ := hrel
    by_cases hlt : I < l.length
    · have i1 : (I : Int) < (l.length : Int) := by omega
      obtain ⟨k, hk⟩ : ∃ k, l[I]? = some k := ⟨l[I]'hlt, List.getElem?_eq_getElem hlt⟩
      have hkn : k < L.n := hlk k (List.mem_of_getElem? hk)
      have hkn' : (k : Int) < (L.n : Int) := by omega
      have HN : Hid (∀ n, stayN stay torn cut I = n → crashTo (stayN stay torn cut) 0 (l.take (I + 1)) s = crashOne (crashTo (stayN stay torn cut) 0 (l.take I) s) k n) := fun n hn => by rw [crash_step _ l I k s hk, hn]
      generalize crashTo (stayN stay torn cut) 0 (l.take I) s = S at *
      obtain ⟨_, _, he1, hint⟩ := (hO1.chg hCi hv1).at
      cases he1
      obtain ⟨p, q, rfl, hint⟩ := hint I k hk
      have hSt := (hS0.chg (Chg.of_below hb1 (Nat.le_refl _))).chg hCi
      obtain ⟨_, _, he2, hst⟩ := hSt
      cases he2
      obtain ⟨xv, hh, hxx⟩ := hDi.head
      have hlay := hDi.lay
      have hTr := hDi.ltU
      unfold RLay.head at hh
      have c0 := hh.cell (j := 0) rfl
      have l0 := hh.lt
      have l1 : L.g ≠ wr.heap.size := by omega
      obtain ⟨nv, hn, hn2⟩ := hDi.now
      obtain ⟨uv, hu, hu2⟩ := hDi.sure
      have l2 := hn.lt
      have l3 : L.bn ≠ wr.heap.size := by omega
      obtain ⟨vn, hvn, hvn2⟩ := hn2.at (k := k) (by rw [hDi.ok.now]; exact hkn)
      obtain ⟨vs, hvs, hvs2⟩ := hu2.at (k := k) (by rw [hDi.ok.sure]; exact hkn)
      have dn := hn.cell hvn
      have r1 := getD_len hDi.ok.nows (k := k) (by rw [hDi.ok.now]; exact hkn)
      have r2 := getD_len hDi.ok.sures (k := k) (by rw [hDi.ok.sure]; exact hkn)
      obtain ⟨av, cv, rfl⟩ := Seg.shapeD hvn2.1
      obtain ⟨au, cu, rfl⟩ := Seg.shapeD hvs2.1
      rw [r1] at dn hvn hvn2
      rw [r2] at hvs hvs2
      have hnvl : k < nv.length := (List.getElem?_eq_some_iff.1 hvn).1
      have FACT : ∀ n : Nat, n ≤ 128 → (Seg wr (.slice av n cv) ((S.now.getD k []).take n) ∧ n ≤ cv) ∧ Seg wr (.slice (restD au cu n) (128 - n) (cu - n)) ((S.sure.getD k []).drop n) ∧ ((S.now.getD k []).take n).length = n ∧ ((S.sure.getD k []).drop n).length = 128 - n := fun n hn => ⟨Seg.takesD hvn2.1 n hn, Seg.dropsD hvs2.1 n hn, by rw [List.length_take, r1]; omega, by rw [List.length_drop, r2]⟩
      have HF : Hid (∀ n : Nat, n ≤ 128 → (Seg wr (.slice av n cv) ((S.now.getD k []).take n) ∧ n ≤ cv) ∧ Seg wr (.slice (restD au cu n) (128 - n) (cu - n)) ((S.sure.getD k []).drop n) ∧ ((S.now.getD k []).take n).length = n ∧ ((S.sure.getD k []).drop n).length = 128 - n) := FACT
      clear FACT
      by_cases ht : (I : Int) = torn
      · have jt : ((I : Int) == torn) = true := by simpa using ht
        by_cases hsy : I < stay.length
        · obtain ⟨b, hsb⟩ : ∃ b, stay[I]? = some b := ⟨stay[I]'hsy, List.getElem?_eq_getElem hsy⟩
          obtain ⟨p2, q2, rfl, _, _, hsc⟩ := hst I b hsb
          have j1 : (I : Int) < (stay.length : Int) := by omega
          cases b with
          | false =>
            by_cases hc0 : ¬ 0 < cut
            · have HC0 : Hid ((I : Int) = torn) := ht
              have HSN : Hid (stayN stay torn cut I = 0) := by show _ = _; unfold stayN; rw [if_pos ht]; omega
              have hc1 : cut < 128 := by omega
              have hc2 : ¬ 128 < cut := by omega
              clear ht hsb
              obtain ⟨⟨hseg1, hcv⟩, hseg2, hl1, hl2⟩ := HF.out 0 (by omega)
              have hs1 : ∀ w, (Instr.slice 33 (.slice av 128 cv) none (some (.int .i64 0)) none).run Tryz.prog w = .ok (.slice av 0 cv) w := slice_toD av 128 cv 0 hcv
              have hs2 : ∀ w, (Instr.slice 33 (.slice au 128 cu) (some (.int .i64 0)) none none).run Tryz.prog w = .ok (.slice (restD au cu 0) (128 - 0) (cu - 0)) w := slice_restD au 128 cu 0 (by omega)
              generalize hT1 : (S.now.getD k []).take 0 = TN at *
              generalize hT2 : (S.sure.getD k []).drop 0 = TS at *
              have HTR : Hid (tornRow S k 0 = TN ++ TS) := by show _ = _; unfold tornRow; rw [hT1, hT2]
              have hTL : (TN ++ TS).length = 128 := by have h1 := hl1; have h2 := hl2; rw [List.length_append]; omega
              generalize restD au cu 0 = ra at *
              clear hT1 hT2
              go_wp2_with (at_builtin; refine app_own _ rfl (.tmp 41) (.tmp 50) rfl wr.heap.size _ [] rfl (by exact own_emptyD _ _ _ rfl (Nat.le_refl _)) _ TN rfl (by exact hseg1.alloc _) (by simp; omega) (by simp) ?_; intro v2 w2 ho2 hg2 hv2; rw [List.nil_append] at ho2; have hB2 := below_grown ((Below.refl wr.heap.size wr).alloc (Nat.le_refl _) _) hg2 (by simp) (fun q hq => by have h2 : wr.heap.size = q := Option.some.inj hq; omega))
              have hBd : Below wr.heap.size wr w2.drew := hB2.drew
              have hhd := hh.below hBd l0
              have hcd : w2.drew.cell? ⟨L.g, 0, none⟩ = some (.slice (some ⟨L.bn, 0, none⟩) L.n L.cn) ∧ w2.drew.cell? ⟨L.g, 1, none⟩ = some (.slice (some ⟨L.bs, 0, none⟩) L.n L.cs) ∧ w2.drew.cell? ⟨L.bs, k, none⟩ = some (.slice au 128 cu) := ⟨hhd.cell (j := 0) rfl, hhd.cell (j := 1) rfl, (hu.chg (Chg.of_below (S := fun _ => False) hBd (Nat.le_refl _)) id).cell hvs⟩
              obtain ⟨v3, w3, hr3, ho3, hg3, hv3⟩ := app_bytes w2.drew wr.heap.size v2 TN ho2.drew (.slice ra (128 - 0) (cu - 0)) TS (hseg2.below hBd (Nat.le_refl _)) (by omega) hBd.size
              have hB3 : Below wr.heap.size wr w3 := below_grown hBd hg3 hBd.size (fun q hq => (ho2.blocks q hq).1)
              obtain ⟨a3, c3, hv3e⟩ := Seg.shapeD ho3.seg
              rw [hTL] at hv3e
              subst hv3e
              have hh3 := hh.below hB3 l0
              have hn3 := hn.chg (Chg.of_below (S := fun _ => False) hB3 (Nat.le_refl _)) id
              have hu3 := hu.chg (Chg.of_below (S := fun _ => False) hB3 (Nat.le_refl _)) id
              have hcd3 : w3.cell? ⟨L.g, 0, none⟩ = some (.slice (some ⟨L.bn, 0, none⟩) L.n L.cn) ∧ w3.cell? ⟨L.g, 1, none⟩ = some (.slice (some ⟨L.bs, 0, none⟩) L.n L.cs) ∧ w3.cell? ⟨L.bs, k, none⟩ = some (.slice au 128 cu) := ⟨hh3.cell (j := 0) rfl, hh3.cell (j := 1) rfl, hu3.cell hvs⟩
              have dn3 := hn3.cell hvn
              have fn3 := hn3.frozen k
              have hcN : Chg (fun q => q = L.bn) w3 (w3.setCell ⟨L.bn, k, none⟩ (.slice a3 128 c3)) := (Chg.refl _ w3).setCell L.bn k _ (fun _ => rfl)
              have hh4 := hh3.chg hcN hlay.gn
              have hu4 := hu3.chg hcN (fun e => hlay.ns e.symm)
              have hn4 := hn3.set k (.slice a3 128 c3)
              have hcd4 : (w3.setCell ⟨L.bn, k, none⟩ (.slice a3 128 c3)).cell? ⟨L.g, 0, none⟩ = some (.slice (some ⟨L.bn, 0, none⟩) L.n L.cn) ∧ (w3.setCell ⟨L.bn, k, none⟩ (.slice a3 128 c3)).cell? ⟨L.g, 1, none⟩ = some (.slice (some ⟨L.bs, 0, none⟩) L.n L.cs) ∧ (w3.setCell ⟨L.bn, k, none⟩ (.slice a3 128 c3)).cell? ⟨L.bs, k, none⟩ = some (.slice au 128 cu) := ⟨hh4.cell (j := 0) rfl, hh4.cell (j := 1) rfl, hu4.cell hvs⟩
              have hidx1 := index_byteses L.bs 0 L.n L.cs k w3 hkn
              have hidx2 := index_byteses L.bn 0 L.n L.cn k w3 hkn
              rw [Nat.zero_add] at hidx1 hidx2
              have hsa3 : SegA w3 L.U (.slice a3 128 c3) (TN ++ TS) := ho3.segA hTr
              have hD4 := (hDi.after hB3).setNow k _ _ hTL hsa3
              have hsa4 := hsa3.chg (hcN.weaken (fun _ h => .inl (.inr (.inl h))))
              have hD5 := hD4.setSure k _ _ hTL hsa4
              have hD6 := hD5.setDirt k false
              have hD7 := hD6.after ((Below.refl _ _).drew)
              rw [← HTR.out] at hD7
              have hC7 := ((((hCi.trans (S' := L.T) (Chg.of_below hB3 (Nat.le_refl _)) (fun _ _ h => h)).setCell L.bn k (.slice a3 128 c3) (fun _ => .inr (.inl rfl))).setCell L.bs k (.slice a3 128 c3) (fun _ => .inr (.inr (.inl rfl)))).setCell L.bd k (.bool false) (fun _ => .inr (.inr (.inr rfl)))).drew
              refine held_begin (fun W => W.cell? ⟨L.g, 0, none⟩ = some (.slice (some ⟨L.bn, 0, none⟩) L.n L.cn) ∧ W.cell? ⟨L.g, 1, none⟩ = some (.slice (some ⟨L.bs, 0, none⟩) L.n L.cs) ∧ W.cell? ⟨L.bs, k, none⟩ = some (.slice au 128 cu)) (by kernel_rfl) ?_
              refine held_take 0 52 _ (.pointer (some ⟨L.g, 0, none⟩)) rfl rfl (by kernel_rfl) (by kernel_rfl) (by kernel_rfl) rfl hcd (fun _ _ => rfl) ?_
              simp only [Act.put, List.setIfInBounds_toArray, List.set_cons_succ, List.set_cons_zero]
              refine held_take 1 53 _ (.pointer (some ⟨L.g, 0, none⟩)) rfl rfl (by kernel_rfl) (by kernel_rfl) (by kernel_rfl) rfl hcd (fun _ _ => rfl) ?_
              simp only [Act.put, List.setIfInBounds_toArray, List.set_cons_succ, List.set_cons_zero]
              refine held_take 2 54 _ (.pointer (some ⟨L.g, 0, none⟩)) rfl rfl (by kernel_rfl) (by kernel_rfl) (by kernel_rfl) rfl hcd (fun _ _ => rfl) ?_
              simp only [Act.put, List.setIfInBounds_toArray, List.set_cons_succ, List.set_cons_zero]
              refine held_take 3 55 _ (.slice (some ⟨L.bn, 0, none⟩) L.n L.cn) rfl rfl (by kernel_rfl) (by kernel_rfl) (by kernel_rfl) rfl hcd (fun W hW => exec_loadc 34 _ rfl _ _ rfl (load_one 34 (fun _ => by kernel_rfl) W _ _ _ hW.1)) ?_
              simp only [Act.put, List.setIfInBounds_toArray, List.set_cons_succ, List.set_cons_zero]
              refine held_take 4 56 _ (.int .i64 (k : Int)) rfl rfl (by kernel_rfl) (by kernel_rfl) (by kernel_rfl) rfl hcd (fun _ _ => rfl) ?_
              simp only [Act.put, List.setIfInBounds_toArray, List.set_cons_succ, List.set_cons_zero]
              refine held_take 5 57 _ (v2) rfl rfl (by kernel_rfl) (by kernel_rfl) (by kernel_rfl) rfl hcd (fun _ _ => rfl) ?_
              simp only [Act.put, List.setIfInBounds_toArray, List.set_cons_succ, List.set_cons_zero]
              refine held_take 6 58 _ (.pointer (some ⟨L.g, 0, none⟩)) rfl rfl (by kernel_rfl) (by kernel_rfl) (by kernel_rfl) rfl hcd (fun _ _ => rfl) ?_
              simp only [Act.put, List.setIfInBounds_toArray, List.set_cons_succ, List.set_cons_zero]
              refine held_take 7 59 _ (.pointer (some ⟨L.g, 0, none⟩)) rfl rfl (by kernel_rfl) (by kernel_rfl) (by kernel_rfl) rfl hcd (fun _ _ => rfl) ?_
              simp only [Act.put, List.setIfInBounds_toArray, List.set_cons_succ, List.set_cons_zero]
              refine held_take 8 60 _ (.pointer (some ⟨L.g, 1, none⟩)) rfl rfl (by kernel_rfl) (by kernel_rfl) (by kernel_rfl) rfl hcd (fun _ _ => rfl) ?_
              simp only [Act.put, List.setIfInBounds_toArray, List.set_cons_succ, List.set_cons_zero]
              refine held_take 9 61 _ (.slice (some ⟨L.bs, 0, none⟩) L.n L.cs) rfl rfl (by kernel_rfl) (by kernel_rfl) (by kernel_rfl) rfl hcd (fun W hW => exec_loadc 34 _ rfl _ _ rfl (load_one 34 (fun _ => by kernel_rfl) W _ _ _ hW.2.1)) ?_
              simp only [Act.put, List.setIfInBounds_toArray, List.set_cons_succ, List.set_cons_zero]
              refine held_take 10 62 _ (.int .i64 (k : Int)) rfl rfl (by kernel_rfl) (by kernel_rfl) (by kernel_rfl) rfl hcd (fun _ _ => rfl) ?_
              simp only [Act.put, List.setIfInBounds_toArray, List.set_cons_succ, List.set_cons_zero]
              refine held_take 11 63 _ (.pointer (some ⟨L.bs, k, none⟩)) rfl rfl (by kernel_rfl) (by kernel_rfl) (by kernel_rfl) rfl hcd (fun W _ => exec_indexat _ _ _ rfl _ _ _ rfl rfl (by have := index_byteses L.bs 0 L.n L.cs k W hkn; rwa [Nat.zero_add] at this)) ?_
              simp only [Act.put, List.setIfInBounds_toArray, List.set_cons_succ, List.set_cons_zero]
              refine held_take 12 64 _ (.slice au 128 cu) rfl rfl (by kernel_rfl) (by kernel_rfl) (by kernel_rfl) rfl hcd (fun W hW => exec_loadc 33 _ rfl _ _ rfl (load_one 33 (fun _ => by kernel_rfl) W _ _ _ hW.2.2)) ?_
              simp only [Act.put, List.setIfInBounds_toArray, List.set_cons_succ, List.set_cons_zero]
              refine held_take 13 65 _ (.int .i64 0) rfl rfl (by kernel_rfl) (by kernel_rfl) (by kernel_rfl) rfl hcd (fun _ _ => rfl) ?_
              simp only [Act.put, List.setIfInBounds_toArray, List.set_cons_succ, List.set_cons_zero]
              refine held_take 14 66 _ (.slice ra (128 - 0) (cu - 0)) rfl rfl (by kernel_rfl) (by kernel_rfl) (by kernel_rfl) rfl hcd (fun W _ => exec_slicel _ _ rfl (.slice au 128 cu) (.int .i64 0) _ rfl rfl (hs2 W)) ?_
              simp only [Act.put, List.setIfInBounds_toArray, List.set_cons_succ, List.set_cons_zero]
              refine held_all1 15 (by kernel_rfl) (op_value 15 67 _ (.slice a3 128 c3) w3 rfl rfl rfl (exec_app _ _ _ _ rfl _ _ _ rfl rfl hr3) ⟨hcd3, ?_⟩)
              simp only [Act.put, List.setIfInBounds_toArray, List.set_cons_succ, List.set_cons_zero]
              refine held_all1 16 (by kernel_rfl) (op_value 16 68 _ _ w3 rfl rfl rfl (exec_indexat _ _ _ rfl _ _ _ rfl rfl hidx2) ⟨hcd3, ?_⟩)
              simp only [Act.put, List.setIfInBounds_toArray, List.set_cons_succ, List.set_cons_zero]
              refine held_all1 17 (by kernel_rfl) (op_skip 17 _ _ rfl rfl rfl (exec_stores _ _ rfl L.bn k _ _ _ _ rfl rfl dn3 fn3) ⟨hcd4, ?_⟩)
              refine wpAnyH_done (by kernel_rfl) ?_ _
              refine NoPanic.normal ?_
              have e0 := hcd4.1
              have e1 := hcd4.2.1
              have e2 := hn4.cell (j := k) (v := .slice a3 128 c3) (by rw [List.getElem?_set_self hnvl])
              have e3 := hcd4.2.2
              have f3 := hu4.frozen k
              obtain ⟨xv5, hh5, _⟩ := hD5.head
              unfold RLay.head at hh5
              have g2 := hh5.cell (j := 2) rfl
              have hdl : k < (List.map Value.bool S.dirt).length := by rw [List.length_map, hDi.ok.dirt]; exact hkn
              have gd := hD5.dirt.cell (List.getElem?_eq_getElem (show k < (List.map Value.bool _).length from hdl))
              have gf := hD5.dirt.frozen k
              clear hD4 hD5 hD6 hh5 hu4 hn4 hh4 hu3 hn3 hh3 hcd hcd3 hcd4 hsa3 hsa4 ho3 ho2 hg3 hg2
              clear hcN
              generalize w3.setCell ⟨L.bn, k, none⟩ (.slice a3 128 c3) = W4 at *
              go_wp2
              go_still_tail 12, (by kernel_rfl)
              go_wp2_with fail
              go_roundw
              case rel => exact ⟨I + 1, hlt, by go_num, by rw [HN.out 0 HSN.out]; exact hD7, hC7⟩
              case measure => simp [intOf]; omega
            by_cases hc9 : 128 < cut
            · have HC0 : Hid ((I : Int) = torn) := ht
              have HSN : Hid (stayN stay torn cut I = 128) := by show _ = _; unfold stayN; rw [if_pos ht]; omega
              have hc1 : ¬ cut < 128 := by omega
              clear ht hsb
              obtain ⟨⟨hseg1, hcv⟩, hseg2, hl1, hl2⟩ := HF.out 128 (by omega)
              have hs1 : ∀ w, (Instr.slice 33 (.slice av 128 cv) none (some (.int .i64 128)) none).run Tryz.prog w = .ok (.slice av 128 cv) w := slice_toD av 128 cv 128 hcv
              have hs2 : ∀ w, (Instr.slice 33 (.slice au 128 cu) (some (.int .i64 128)) none none).run Tryz.prog w = .ok (.slice (restD au cu 128) (128 - 128) (cu - 128)) w := slice_restD au 128 cu 128 (by omega)
              generalize hT1 : (S.now.getD k []).take 128 = TN at *
              generalize hT2 : (S.sure.getD k []).drop 128 = TS at *
              have HTR : Hid (tornRow S k 128 = TN ++ TS) := by show _ = _; unfold tornRow; rw [hT1, hT2]
              have hTL : (TN ++ TS).length = 128 := by have h1 := hl1; have h2 := hl2; rw [List.length_append]; omega
              generalize restD au cu 128 = ra at *
              clear hT1 hT2
              go_wp2_with (at_builtin; refine app_own _ rfl (.tmp 41) (.tmp 50) rfl wr.heap.size _ [] rfl (by exact own_emptyD _ _ _ rfl (Nat.le_refl _)) _ TN rfl (by exact hseg1.alloc _) (by simp; omega) (by simp) ?_; intro v2 w2 ho2 hg2 hv2; rw [List.nil_append] at ho2; have hB2 := below_grown ((Below.refl wr.heap.size wr).alloc (Nat.le_refl _) _) hg2 (by simp) (fun q hq => by have h2 : wr.heap.size = q := Option.some.inj hq; omega))
              have hBd : Below wr.heap.size wr w2.drew := hB2.drew
              have hhd := hh.below hBd l0
              have hcd : w2.drew.cell? ⟨L.g, 0, none⟩ = some (.slice (some ⟨L.bn, 0, none⟩) L.n L.cn) ∧ w2.drew.cell? ⟨L.g, 1, none⟩ = some (.slice (some ⟨L.bs, 0, none⟩) L.n L.cs) ∧ w2.drew.cell? ⟨L.bs, k, none⟩ = some (.slice au 128 cu) := ⟨hhd.cell (j := 0) rfl, hhd.cell (j := 1) rfl, (hu.chg (Chg.of_below (S := fun _ => False) hBd (Nat.le_refl _)) id).cell hvs⟩
              obtain ⟨v3, w3, hr3, ho3, hg3, hv3⟩ := app_bytes w2.drew wr.heap.size v2 TN ho2.drew (.slice ra (128 - 128) (cu - 128)) TS (hseg2.below hBd (Nat.le_refl _)) (by omega) hBd.size
              have hB3 : Below wr.heap.size wr w3 := below_grown hBd hg3 hBd.size (fun q hq => (ho2.blocks q hq).1)
              obtain ⟨a3, c3, hv3e⟩ := Seg.shapeD ho3.seg
              rw [hTL] at hv3e
              subst hv3e
              have hh3 := hh.below hB3 l0
              have hn3 := hn.chg (Chg.of_below (S := fun _ => False) hB3 (Nat.le_refl _)) id
              have hu3 := hu.chg (Chg.of_below (S := fun _ => False) hB3 (Nat.le_refl _)) id
              have hcd3 : w3.cell? ⟨L.g, 0, none⟩ = some (.slice (some ⟨L.bn, 0, none⟩) L.n L.cn) ∧ w3.cell? ⟨L.g, 1, none⟩ = some (.slice (some ⟨L.bs, 0, none⟩) L.n L.cs) ∧ w3.cell? ⟨L.bs, k, none⟩ = some (.slice au 128 cu) := ⟨hh3.cell (j := 0) rfl, hh3.cell (j := 1) rfl, hu3.cell hvs⟩
              have dn3 := hn3.cell hvn
              have fn3 := hn3.frozen k
              have hcN : Chg (fun q => q = L.bn) w3 (w3.setCell ⟨L.bn, k, none⟩ (.slice a3 128 c3)) := (Chg.refl _ w3).setCell L.bn k _ (fun _ => rfl)
              have hh4 := hh3.chg hcN hlay.gn
              have hu4 := hu3.chg hcN (fun e => hlay.ns e.symm)
              have hn4 := hn3.set k (.slice a3 128 c3)
              have hcd4 : (w3.setCell ⟨L.bn, k, none⟩ (.slice a3 128 c3)).cell? ⟨L.g, 0, none⟩ = some (.slice (some ⟨L.bn, 0, none⟩) L.n L.cn) ∧ (w3.setCell ⟨L.bn, k, none⟩ (.slice a3 128 c3)).cell? ⟨L.g, 1, none⟩ = some (.slice (some ⟨L.bs, 0, none⟩) L.n L.cs) ∧ (w3.setCell ⟨L.bn, k, none⟩ (.slice a3 128 c3)).cell? ⟨L.bs, k, none⟩ = some (.slice au 128 cu) := ⟨hh4.cell (j := 0) rfl, hh4.cell (j := 1) rfl, hu4.cell hvs⟩
              have hidx1 := index_byteses L.bs 0 L.n L.cs k w3 hkn
              have hidx2 := index_byteses L.bn 0 L.n L.cn k w3 hkn
              rw [Nat.zero_add] at hidx1 hidx2
              have hsa3 : SegA w3 L.U (.slice a3 128 c3) (TN ++ TS) := ho3.segA hTr
              have hD4 := (hDi.after hB3).setNow k _ _ hTL hsa3
              have hsa4 := hsa3.chg (hcN.weaken (fun _ h => .inl (.inr (.inl h))))
              have hD5 := hD4.setSure k _ _ hTL hsa4
              have hD6 := hD5.setDirt k false
              have hD7 := hD6.after ((Below.refl _ _).drew)
              rw [← HTR.out] at hD7
              have hC7 := ((((hCi.trans (S' := L.T) (Chg.of_below hB3 (Nat.le_refl _)) (fun _ _ h => h)).setCell L.bn k (.slice a3 128 c3) (fun _ => .inr (.inl rfl))).setCell L.bs k (.slice a3 128 c3) (fun _ => .inr (.inr (.inl rfl)))).setCell L.bd k (.bool false) (fun _ => .inr (.inr (.inr rfl)))).drew
              refine held_begin (fun W => W.cell? ⟨L.g, 0, none⟩ = some (.slice (some ⟨L.bn, 0, none⟩) L.n L.cn) ∧ W.cell? ⟨L.g, 1, none⟩ = some (.slice (some ⟨L.bs, 0, none⟩) L.n L.cs) ∧ W.cell? ⟨L.bs, k, none⟩ = some (.slice au 128 cu)) (by kernel_rfl) ?_
              refine held_take 0 52 _ (.pointer (some ⟨L.g, 0, none⟩)) rfl rfl (by kernel_rfl) (by kernel_rfl) (by kernel_rfl) rfl hcd (fun _ _ => rfl) ?_
              simp only [Act.put, List.setIfInBounds_toArray, List.set_cons_succ, List.set_cons_zero]
              refine held_take 1 53 _ (.pointer (some ⟨L.g, 0, none⟩)) rfl rfl (by kernel_rfl) (by kernel_rfl) (by kernel_rfl) rfl hcd (fun _ _ => rfl) ?_
              simp only [Act.put, List.setIfInBounds_toArray, List.set_cons_succ, List.set_cons_zero]
              refine held_take 2 54 _ (.pointer (some ⟨L.g, 0, none⟩)) rfl rfl (by kernel_rfl) (by kernel_rfl) (by kernel_rfl) rfl hcd (fun _ _ => rfl) ?_
              simp only [Act.put, List.setIfInBounds_toArray, List.set_cons_succ, List.set_cons_zero]
              refine held_take 3 55 _ (.slice (some ⟨L.bn, 0, none⟩) L.n L.cn) rfl rfl (by kernel_rfl) (by kernel_rfl) (by kernel_rfl) rfl hcd (fun W hW => exec_loadc 34 _ rfl _ _ rfl (load_one 34 (fun _ => by kernel_rfl) W _ _ _ hW.1)) ?_
              simp only [Act.put, List.setIfInBounds_toArray, List.set_cons_succ, List.set_cons_zero]
              refine held_take 4 56 _ (.int .i64 (k : Int)) rfl rfl (by kernel_rfl) (by kernel_rfl) (by kernel_rfl) rfl hcd (fun _ _ => rfl) ?_
              simp only [Act.put, List.setIfInBounds_toArray, List.set_cons_succ, List.set_cons_zero]
              refine held_take 5 57 _ (v2) rfl rfl (by kernel_rfl) (by kernel_rfl) (by kernel_rfl) rfl hcd (fun _ _ => rfl) ?_
              simp only [Act.put, List.setIfInBounds_toArray, List.set_cons_succ, List.set_cons_zero]
              refine held_take 6 58 _ (.pointer (some ⟨L.g, 0, none⟩)) rfl rfl (by kernel_rfl) (by kernel_rfl) (by kernel_rfl) rfl hcd (fun _ _ => rfl) ?_
              simp only [Act.put, List.setIfInBounds_toArray, List.set_cons_succ, List.set_cons_zero]
              refine held_take 7 59 _ (.pointer (some ⟨L.g, 0, none⟩)) rfl rfl (by kernel_rfl) (by kernel_rfl) (by kernel_rfl) rfl hcd (fun _ _ => rfl) ?_
              simp only [Act.put, List.setIfInBounds_toArray, List.set_cons_succ, List.set_cons_zero]
              refine held_take 8 60 _ (.pointer (some ⟨L.g, 1, none⟩)) rfl rfl (by kernel_rfl) (by kernel_rfl) (by kernel_rfl) rfl hcd (fun _ _ => rfl) ?_
              simp only [Act.put, List.setIfInBounds_toArray, List.set_cons_succ, List.set_cons_zero]
              refine held_take 9 61 _ (.slice (some ⟨L.bs, 0, none⟩) L.n L.cs) rfl rfl (by kernel_rfl) (by kernel_rfl) (by kernel_rfl) rfl hcd (fun W hW => exec_loadc 34 _ rfl _ _ rfl (load_one 34 (fun _ => by kernel_rfl) W _ _ _ hW.2.1)) ?_
              simp only [Act.put, List.setIfInBounds_toArray, List.set_cons_succ, List.set_cons_zero]
              refine held_take 10 62 _ (.int .i64 (k : Int)) rfl rfl (by kernel_rfl) (by kernel_rfl) (by kernel_rfl) rfl hcd (fun _ _ => rfl) ?_
              simp only [Act.put, List.setIfInBounds_toArray, List.set_cons_succ, List.set_cons_zero]
              refine held_take 11 63 _ (.pointer (some ⟨L.bs, k, none⟩)) rfl rfl (by kernel_rfl) (by kernel_rfl) (by kernel_rfl) rfl hcd (fun W _ => exec_indexat _ _ _ rfl _ _ _ rfl rfl (by have := index_byteses L.bs 0 L.n L.cs k W hkn; rwa [Nat.zero_add] at this)) ?_
              simp only [Act.put, List.setIfInBounds_toArray, List.set_cons_succ, List.set_cons_zero]
              refine held_take 12 64 _ (.slice au 128 cu) rfl rfl (by kernel_rfl) (by kernel_rfl) (by kernel_rfl) rfl hcd (fun W hW => exec_loadc 33 _ rfl _ _ rfl (load_one 33 (fun _ => by kernel_rfl) W _ _ _ hW.2.2)) ?_
              simp only [Act.put, List.setIfInBounds_toArray, List.set_cons_succ, List.set_cons_zero]
              refine held_take 13 65 _ (.int .i64 128) rfl rfl (by kernel_rfl) (by kernel_rfl) (by kernel_rfl) rfl hcd (fun _ _ => rfl) ?_
              simp only [Act.put, List.setIfInBounds_toArray, List.set_cons_succ, List.set_cons_zero]
              refine held_take 14 66 _ (.slice ra (128 - 128) (cu - 128)) rfl rfl (by kernel_rfl) (by kernel_rfl) (by kernel_rfl) rfl hcd (fun W _ => exec_slicel _ _ rfl (.slice au 128 cu) (.int .i64 128) _ rfl rfl (hs2 W)) ?_
              simp only [Act.put, List.setIfInBounds_toArray, List.set_cons_succ, List.set_cons_zero]
              refine held_all1 15 (by kernel_rfl) (op_value 15 67 _ (.slice a3 128 c3) w3 rfl rfl rfl (exec_app _ _ _ _ rfl _ _ _ rfl rfl hr3) ⟨hcd3, ?_⟩)
              simp only [Act.put, List.setIfInBounds_toArray, List.set_cons_succ, List.set_cons_zero]
              refine held_all1 16 (by kernel_rfl) (op_value 16 68 _ _ w3 rfl rfl rfl (exec_indexat _ _ _ rfl _ _ _ rfl rfl hidx2) ⟨hcd3, ?_⟩)
              simp only [Act.put, List.setIfInBounds_toArray, List.set_cons_succ, List.set_cons_zero]
              refine held_all1 17 (by kernel_rfl) (op_skip 17 _ _ rfl rfl rfl (exec_stores _ _ rfl L.bn k _ _ _ _ rfl rfl dn3 fn3) ⟨hcd4, ?_⟩)
              refine wpAnyH_done (by kernel_rfl) ?_ _
              refine NoPanic.normal ?_
              have e0 := hcd4.1
              have e1 := hcd4.2.1
              have e2 := hn4.cell (j := k) (v := .slice a3 128 c3) (by rw [List.getElem?_set_self hnvl])
              have e3 := hcd4.2.2
              have f3 := hu4.frozen k
              obtain ⟨xv5, hh5, _⟩ := hD5.head
              unfold RLay.head at hh5
              have g2 := hh5.cell (j := 2) rfl
              have hdl : k < (List.map Value.bool S.dirt).length := by rw [List.length_map, hDi.ok.dirt]; exact hkn
              have gd := hD5.dirt.cell (List.getElem?_eq_getElem (show k < (List.map Value.bool _).length from hdl))
              have gf := hD5.dirt.frozen k
              clear hD4 hD5 hD6 hh5 hu4 hn4 hh4 hu3 hn3 hh3 hcd hcd3 hcd4 hsa3 hsa4 ho3 ho2 hg3 hg2
              clear hcN
              generalize w3.setCell ⟨L.bn, k, none⟩ (.slice a3 128 c3) = W4 at *
              go_wp2
              go_still_tail 12, (by kernel_rfl)
              go_wp2_with fail
              go_roundw
              case rel => exact ⟨I + 1, hlt, by go_num, by rw [HN.out 128 HSN.out]; exact hD7, hC7⟩
              case measure => simp [intOf]; omega
            · have HC0 : Hid ((I : Int) = torn) := ht
              obtain ⟨n0, rfl⟩ : ∃ n0 : Nat, cut = (n0 : Int) := ⟨cut.toNat, by omega⟩
              have hn0 : n0 ≤ 128 := by omega
              have HSN : Hid (stayN stay torn (n0 : Int) I = n0) := by show _ = _; unfold stayN; rw [if_pos ht]; omega
              have hc1 : (n0 : Int) ≤ 128 := by omega
              have hc4 : (0 : Int) < (n0 : Int) := by omega
              have hc5 : 0 < n0 := by omega
              clear ht hsb
              obtain ⟨⟨hseg1, hcv⟩, hseg2, hl1, hl2⟩ := HF.out n0 hn0
              have hs1 : ∀ w, (Instr.slice 33 (.slice av 128 cv) none (some (.int .i64 (n0 : Int))) none).run Tryz.prog w = .ok (.slice av n0 cv) w := slice_toD av 128 cv n0 hcv
              have hs2 : ∀ w, (Instr.slice 33 (.slice au 128 cu) (some (.int .i64 (n0 : Int))) none none).run Tryz.prog w = .ok (.slice (restD au cu n0) (128 - n0) (cu - n0)) w := slice_restD au 128 cu n0 hn0
              generalize hT1 : (S.now.getD k []).take n0 = TN at *
              generalize hT2 : (S.sure.getD k []).drop n0 = TS at *
              have HTR : Hid (tornRow S k n0 = TN ++ TS) := by show _ = _; unfold tornRow; rw [hT1, hT2]
              have hTL : (TN ++ TS).length = 128 := by have h1 := hl1; have h2 := hl2; rw [List.length_append]; omega
              generalize restD au cu n0 = ra at *
              clear hT1 hT2
              go_wp2_with (at_builtin; refine app_own _ rfl (.tmp 41) (.tmp 50) rfl wr.heap.size _ [] rfl (by exact own_emptyD _ _ _ rfl (Nat.le_refl _)) _ TN rfl (by exact hseg1.alloc _) (by simp; omega) (by simp) ?_; intro v2 w2 ho2 hg2 hv2; rw [List.nil_append] at ho2; have hB2 := below_grown ((Below.refl wr.heap.size wr).alloc (Nat.le_refl _) _) hg2 (by simp) (fun q hq => by have h2 : wr.heap.size = q := Option.some.inj hq; omega))
              have hBd : Below wr.heap.size wr w2.drew := hB2.drew
              have hhd := hh.below hBd l0
              have hcd : w2.drew.cell? ⟨L.g, 0, none⟩ = some (.slice (some ⟨L.bn, 0, none⟩) L.n L.cn) ∧ w2.drew.cell? ⟨L.g, 1, none⟩ = some (.slice (some ⟨L.bs, 0, none⟩) L.n L.cs) ∧ w2.drew.cell? ⟨L.bs, k, none⟩ = some (.slice au 128 cu) := ⟨hhd.cell (j := 0) rfl, hhd.cell (j := 1) rfl, (hu.chg (Chg.of_below (S := fun _ => False) hBd (Nat.le_refl _)) id).cell hvs⟩
              obtain ⟨v3, w3, hr3, ho3, hg3, hv3⟩ := app_bytes w2.drew wr.heap.size v2 TN ho2.drew (.slice ra (128 - n0) (cu - n0)) TS (hseg2.below hBd (Nat.le_refl _)) (by omega) hBd.size
              have hB3 : Below wr.heap.size wr w3 := below_grown hBd hg3 hBd.size (fun q hq => (ho2.blocks q hq).1)
              obtain ⟨a3, c3, hv3e⟩ := Seg.shapeD ho3.seg
              rw [hTL] at hv3e
              subst hv3e
              have hh3 := hh.below hB3 l0
              have hn3 := hn.chg (Chg.of_below (S := fun _ => False) hB3 (Nat.le_refl _)) id
              have hu3 := hu.chg (Chg.of_below (S := fun _ => False) hB3 (Nat.le_refl _)) id
              have hcd3 : w3.cell? ⟨L.g, 0, none⟩ = some (.slice (some ⟨L.bn, 0, none⟩) L.n L.cn) ∧ w3.cell? ⟨L.g, 1, none⟩ = some (.slice (some ⟨L.bs, 0, none⟩) L.n L.cs) ∧ w3.cell? ⟨L.bs, k, none⟩ = some (.slice au 128 cu) := ⟨hh3.cell (j := 0) rfl, hh3.cell (j := 1) rfl, hu3.cell hvs⟩
              have dn3 := hn3.cell hvn
              have fn3 := hn3.frozen k
              have hcN : Chg (fun q => q = L.bn) w3 (w3.setCell ⟨L.bn, k, none⟩ (.slice a3 128 c3)) := (Chg.refl _ w3).setCell L.bn k _ (fun _ => rfl)
              have hh4 := hh3.chg hcN hlay.gn
              have hu4 := hu3.chg hcN (fun e => hlay.ns e.symm)
              have hn4 := hn3.set k (.slice a3 128 c3)
              have hcd4 : (w3.setCell ⟨L.bn, k, none⟩ (.slice a3 128 c3)).cell? ⟨L.g, 0, none⟩ = some (.slice (some ⟨L.bn, 0, none⟩) L.n L.cn) ∧ (w3.setCell ⟨L.bn, k, none⟩ (.slice a3 128 c3)).cell? ⟨L.g, 1, none⟩ = some (.slice (some ⟨L.bs, 0, none⟩) L.n L.cs) ∧ (w3.setCell ⟨L.bn, k, none⟩ (.slice a3 128 c3)).cell? ⟨L.bs, k, none⟩ = some (.slice au 128 cu) := ⟨hh4.cell (j := 0) rfl, hh4.cell (j := 1) rfl, hu4.cell hvs⟩
              have hidx1 := index_byteses L.bs 0 L.n L.cs k w3 hkn
              have hidx2 := index_byteses L.bn 0 L.n L.cn k w3 hkn
              rw [Nat.zero_add] at hidx1 hidx2
              have hsa3 : SegA w3 L.U (.slice a3 128 c3) (TN ++ TS) := ho3.segA hTr
              have hD4 := (hDi.after hB3).setNow k _ _ hTL hsa3
              have hsa4 := hsa3.chg (hcN.weaken (fun _ h => .inl (.inr (.inl h))))
              have hD5 := hD4.setSure k _ _ hTL hsa4
              have hD6 := hD5.setDirt k false
              have hD7 := hD6.after ((Below.refl _ _).drew)
              rw [← HTR.out] at hD7
              have hC7 := ((((hCi.trans (S' := L.T) (Chg.of_below hB3 (Nat.le_refl _)) (fun _ _ h => h)).setCell L.bn k (.slice a3 128 c3) (fun _ => .inr (.inl rfl))).setCell L.bs k (.slice a3 128 c3) (fun _ => .inr (.inr (.inl rfl)))).setCell L.bd k (.bool false) (fun _ => .inr (.inr (.inr rfl)))).drew
              refine held_begin (fun W => W.cell? ⟨L.g, 0, none⟩ = some (.slice (some ⟨L.bn, 0, none⟩) L.n L.cn) ∧ W.cell? ⟨L.g, 1, none⟩ = some (.slice (some ⟨L.bs, 0, none⟩) L.n L.cs) ∧ W.cell? ⟨L.bs, k, none⟩ = some (.slice au 128 cu)) (by kernel_rfl) ?_
              refine held_take 0 52 _ (.pointer (some ⟨L.g, 0, none⟩)) rfl rfl (by kernel_rfl) (by kernel_rfl) (by kernel_rfl) rfl hcd (fun _ _ => rfl) ?_
              simp only [Act.put, List.setIfInBounds_toArray, List.set_cons_succ, List.set_cons_zero]
              refine held_take 1 53 _ (.pointer (some ⟨L.g, 0, none⟩)) rfl rfl (by kernel_rfl) (by kernel_rfl) (by kernel_rfl) rfl hcd (fun _ _ => rfl) ?_
              simp only [Act.put, List.setIfInBounds_toArray, List.set_cons_succ, List.set_cons_zero]
              refine held_take 2 54 _ (.pointer (some ⟨L.g, 0, none⟩)) rfl rfl (by kernel_rfl) (by kernel_rfl) (by kernel_rfl) rfl hcd (fun _ _ => rfl) ?_
              simp only [Act.put, List.setIfInBounds_toArray, List.set_cons_succ, List.set_cons_zero]
              refine held_take 3 55 _ (.slice (some ⟨L.bn, 0, none⟩) L.n L.cn) rfl rfl (by kernel_rfl) (by kernel_rfl) (by kernel_rfl) rfl hcd (fun W hW => exec_loadc 34 _ rfl _ _ rfl (load_one 34 (fun _ => by kernel_rfl) W _ _ _ hW.1)) ?_
              simp only [Act.put, List.setIfInBounds_toArray, List.set_cons_succ, List.set_cons_zero]
              refine held_take 4 56 _ (.int .i64 (k : Int)) rfl rfl (by kernel_rfl) (by kernel_rfl) (by kernel_rfl) rfl hcd (fun _ _ => rfl) ?_
              simp only [Act.put, List.setIfInBounds_toArray, List.set_cons_succ, List.set_cons_zero]
              refine held_take 5 57 _ (v2) rfl rfl (by kernel_rfl) (by kernel_rfl) (by kernel_rfl) rfl hcd (fun _ _ => rfl) ?_
              simp only [Act.put, List.setIfInBounds_toArray, List.set_cons_succ, List.set_cons_zero]
              refine held_take 6 58 _ (.pointer (some ⟨L.g, 0, none⟩)) rfl rfl (by kernel_rfl) (by kernel_rfl) (by kernel_rfl) rfl hcd (fun _ _ => rfl) ?_
              simp only [Act.put, List.setIfInBounds_toArray, List.set_cons_succ, List.set_cons_zero]
              refine held_take 7 59 _ (.pointer (some ⟨L.g, 0, none⟩)) rfl rfl (by kernel_rfl) (by kernel_rfl) (by kernel_rfl) rfl hcd (fun _ _ => rfl) ?_
              simp only [Act.put, List.setIfInBounds_toArray, List.set_cons_succ, List.set_cons_zero]
              refine held_take 8 60 _ (.pointer (some ⟨L.g, 1, none⟩)) rfl rfl (by kernel_rfl) (by kernel_rfl) (by kernel_rfl) rfl hcd (fun _ _ => rfl) ?_
              simp only [Act.put, List.setIfInBounds_toArray, List.set_cons_succ, List.set_cons_zero]
              refine held_take 9 61 _ (.slice (some ⟨L.bs, 0, none⟩) L.n L.cs) rfl rfl (by kernel_rfl) (by kernel_rfl) (by kernel_rfl) rfl hcd (fun W hW => exec_loadc 34 _ rfl _ _ rfl (load_one 34 (fun _ => by kernel_rfl) W _ _ _ hW.2.1)) ?_
              simp only [Act.put, List.setIfInBounds_toArray, List.set_cons_succ, List.set_cons_zero]
              refine held_take 10 62 _ (.int .i64 (k : Int)) rfl rfl (by kernel_rfl) (by kernel_rfl) (by kernel_rfl) rfl hcd (fun _ _ => rfl) ?_
              simp only [Act.put, List.setIfInBounds_toArray, List.set_cons_succ, List.set_cons_zero]
              refine held_take 11 63 _ (.pointer (some ⟨L.bs, k, none⟩)) rfl rfl (by kernel_rfl) (by kernel_rfl) (by kernel_rfl) rfl hcd (fun W _ => exec_indexat _ _ _ rfl _ _ _ rfl rfl (by have := index_byteses L.bs 0 L.n L.cs k W hkn; rwa [Nat.zero_add] at this)) ?_
              simp only [Act.put, List.setIfInBounds_toArray, List.set_cons_succ, List.set_cons_zero]
              refine held_take 12 64 _ (.slice au 128 cu) rfl rfl (by kernel_rfl) (by kernel_rfl) (by kernel_rfl) rfl hcd (fun W hW => exec_loadc 33 _ rfl _ _ rfl (load_one 33 (fun _ => by kernel_rfl) W _ _ _ hW.2.2)) ?_
              simp only [Act.put, List.setIfInBounds_toArray, List.set_cons_succ, List.set_cons_zero]
              refine held_take 13 65 _ (.int .i64 (n0 : Int)) rfl rfl (by kernel_rfl) (by kernel_rfl) (by kernel_rfl) rfl hcd (fun _ _ => rfl) ?_
              simp only [Act.put, List.setIfInBounds_toArray, List.set_cons_succ, List.set_cons_zero]
              refine held_take 14 66 _ (.slice ra (128 - n0) (cu - n0)) rfl rfl (by kernel_rfl) (by kernel_rfl) (by kernel_rfl) rfl hcd (fun W _ => exec_slicel _ _ rfl (.slice au 128 cu) (.int .i64 (n0 : Int)) _ rfl rfl (hs2 W)) ?_
              simp only [Act.put, List.setIfInBounds_toArray, List.set_cons_succ, List.set_cons_zero]
              refine held_all1 15 (by kernel_rfl) (op_value 15 67 _ (.slice a3 128 c3) w3 rfl rfl rfl (exec_app _ _ _ _ rfl _ _ _ rfl rfl hr3) ⟨hcd3, ?_⟩)
              simp only [Act.put, List.setIfInBounds_toArray, List.set_cons_succ, List.set_cons_zero]
              refine held_all1 16 (by kernel_rfl) (op_value 16 68 _ _ w3 rfl rfl rfl (exec_indexat _ _ _ rfl _ _ _ rfl rfl hidx2) ⟨hcd3, ?_⟩)
              simp only [Act.put, List.setIfInBounds_toArray, List.set_cons_succ, List.set_cons_zero]
              refine held_all1 17 (by kernel_rfl) (op_skip 17 _ _ rfl rfl rfl (exec_stores _ _ rfl L.bn k _ _ _ _ rfl rfl dn3 fn3) ⟨hcd4, ?_⟩)
              refine wpAnyH_done (by kernel_rfl) ?_ _
              refine NoPanic.normal ?_
              have e0 := hcd4.1
              have e1 := hcd4.2.1
              have e2 := hn4.cell (j := k) (v := .slice a3 128 c3) (by rw [List.getElem?_set_self hnvl])
              have e3 := hcd4.2.2
              have f3 := hu4.frozen k
              obtain ⟨xv5, hh5, _⟩ := hD5.head
              unfold RLay.head at hh5
              have g2 := hh5.cell (j := 2) rfl
              have hdl : k < (List.map Value.bool S.dirt).length := by rw [List.length_map, hDi.ok.dirt]; exact hkn
              have gd := hD5.dirt.cell (List.getElem?_eq_getElem (show k < (List.map Value.bool _).length from hdl))
              have gf := hD5.dirt.frozen k
              clear hD4 hD5 hD6 hh5 hu4 hn4 hh4 hu3 hn3 hh3 hcd hcd3 hcd4 hsa3 hsa4 ho3 ho2 hg3 hg2
              clear hcN
              generalize w3.setCell ⟨L.bn, k, none⟩ (.slice a3 128 c3) = W4 at *
              go_wp2
              go_still_tail 12, (by kernel_rfl)
              go_wp2_with fail
              go_roundw
              case rel => exact ⟨I + 1, hlt, by go_num, by rw [HN.out n0 HSN.out]; exact hD7, hC7⟩
              case measure => simp [intOf]; omega
          | true =>
            by_cases hc0 : ¬ 0 < cut
            · have HC0 : Hid ((I : Int) = torn) := ht
              have HSN : Hid (stayN stay torn cut I = 0) := by show _ = _; unfold stayN; rw [if_pos ht]; omega
              have hc1 : cut < 128 := by omega
              have hc2 : ¬ 128 < cut := by omega
              clear ht hsb
              obtain ⟨⟨hseg1, hcv⟩, hseg2, hl1, hl2⟩ := HF.out 0 (by omega)
              have hs1 : ∀ w, (Instr.slice 33 (.slice av 128 cv) none (some (.int .i64 0)) none).run Tryz.prog w = .ok (.slice av 0 cv) w := slice_toD av 128 cv 0 hcv
              have hs2 : ∀ w, (Instr.slice 33 (.slice au 128 cu) (some (.int .i64 0)) none none).run Tryz.prog w = .ok (.slice (restD au cu 0) (128 - 0) (cu - 0)) w := slice_restD au 128 cu 0 (by omega)
              generalize hT1 : (S.now.getD k []).take 0 = TN at *
              generalize hT2 : (S.sure.getD k []).drop 0 = TS at *
              have HTR : Hid (tornRow S k 0 = TN ++ TS) := by show _ = _; unfold tornRow; rw [hT1, hT2]
              have hTL : (TN ++ TS).length = 128 := by have h1 := hl1; have h2 := hl2; rw [List.length_append]; omega
              generalize restD au cu 0 = ra at *
              clear hT1 hT2
              go_wp2_with (at_builtin; refine app_own _ rfl (.tmp 41) (.tmp 50) rfl wr.heap.size _ [] rfl (by exact own_emptyD _ _ _ rfl (Nat.le_refl _)) _ TN rfl (by exact hseg1.alloc _) (by simp; omega) (by simp) ?_; intro v2 w2 ho2 hg2 hv2; rw [List.nil_append] at ho2; have hB2 := below_grown ((Below.refl wr.heap.size wr).alloc (Nat.le_refl _) _) hg2 (by simp) (fun q hq => by have h2 : wr.heap.size = q := Option.some.inj hq; omega))
              have hBd : Below wr.heap.size wr w2.drew := hB2.drew
              have hhd := hh.below hBd l0
              have hcd : w2.drew.cell? ⟨L.g, 0, none⟩ = some (.slice (some ⟨L.bn, 0, none⟩) L.n L.cn) ∧ w2.drew.cell? ⟨L.g, 1, none⟩ = some (.slice (some ⟨L.bs, 0, none⟩) L.n L.cs) ∧ w2.drew.cell? ⟨L.bs, k, none⟩ = some (.slice au 128 cu) := ⟨hhd.cell (j := 0) rfl, hhd.cell (j := 1) rfl, (hu.chg (Chg.of_below (S := fun _ => False) hBd (Nat.le_refl _)) id).cell hvs⟩
              obtain ⟨v3, w3, hr3, ho3, hg3, hv3⟩ := app_bytes w2.drew wr.heap.size v2 TN ho2.drew (.slice ra (128 - 0) (cu - 0)) TS (hseg2.below hBd (Nat.le_refl _)) (by omega) hBd.size
              have hB3 : Below wr.heap.size wr w3 := below_grown hBd hg3 hBd.size (fun q hq => (ho2.blocks q hq).1)
              obtain ⟨a3, c3, hv3e⟩ := Seg.shapeD ho3.seg
              rw [hTL] at hv3e
              subst hv3e
              have hh3 := hh.below hB3 l0
              have hn3 := hn.chg (Chg.of_below (S := fun _ => False) hB3 (Nat.le_refl _)) id
              have hu3 := hu.chg (Chg.of_below (S := fun _ => False) hB3 (Nat.le_refl _)) id
              have hcd3 : w3.cell? ⟨L.g, 0, none⟩ = some (.slice (some ⟨L.bn, 0, none⟩) L.n L.cn) ∧ w3.cell? ⟨L.g, 1, none⟩ = some (.slice (some ⟨L.bs, 0, none⟩) L.n L.cs) ∧ w3.cell? ⟨L.bs, k, none⟩ = some (.slice au 128 cu) := ⟨hh3.cell (j := 0) rfl, hh3.cell (j := 1) rfl, hu3.cell hvs⟩
              have dn3 := hn3.cell hvn
              have fn3 := hn3.frozen k
              have hcN : Chg (fun q => q = L.bn) w3 (w3.setCell ⟨L.bn, k, none⟩ (.slice a3 128 c3)) := (Chg.refl _ w3).setCell L.bn k _ (fun _ => rfl)
              have hh4 := hh3.chg hcN hlay.gn
              have hu4 := hu3.chg hcN (fun e => hlay.ns e.symm)
              have hn4 := hn3.set k (.slice a3 128 c3)
              have hcd4 : (w3.setCell ⟨L.bn, k, none⟩ (.slice a3 128 c3)).cell? ⟨L.g, 0, none⟩ = some (.slice (some ⟨L.bn, 0, none⟩) L.n L.cn) ∧ (w3.setCell ⟨L.bn, k, none⟩ (.slice a3 128 c3)).cell? ⟨L.g, 1, none⟩ = some (.slice (some ⟨L.bs, 0, none⟩) L.n L.cs) ∧ (w3.setCell ⟨L.bn, k, none⟩ (.slice a3 128 c3)).cell? ⟨L.bs, k, none⟩ = some (.slice au 128 cu) := ⟨hh4.cell (j := 0) rfl, hh4.cell (j := 1) rfl, hu4.cell hvs⟩
              have hidx1 := index_byteses L.bs 0 L.n L.cs k w3 hkn
              have hidx2 := index_byteses L.bn 0 L.n L.cn k w3 hkn
              rw [Nat.zero_add] at hidx1 hidx2
              have hsa3 : SegA w3 L.U (.slice a3 128 c3) (TN ++ TS) := ho3.segA hTr
              have hD4 := (hDi.after hB3).setNow k _ _ hTL hsa3
              have hsa4 := hsa3.chg (hcN.weaken (fun _ h => .inl (.inr (.inl h))))
              have hD5 := hD4.setSure k _ _ hTL hsa4
              have hD6 := hD5.setDirt k false
              have hD7 := hD6.after ((Below.refl _ _).drew)
              rw [← HTR.out] at hD7
              have hC7 := ((((hCi.trans (S' := L.T) (Chg.of_below hB3 (Nat.le_refl _)) (fun _ _ h => h)).setCell L.bn k (.slice a3 128 c3) (fun _ => .inr (.inl rfl))).setCell L.bs k (.slice a3 128 c3) (fun _ => .inr (.inr (.inl rfl)))).setCell L.bd k (.bool false) (fun _ => .inr (.inr (.inr rfl)))).drew
              refine held_begin (fun W => W.cell? ⟨L.g, 0, none⟩ = some (.slice (some ⟨L.bn, 0, none⟩) L.n L.cn) ∧ W.cell? ⟨L.g, 1, none⟩ = some (.slice (some ⟨L.bs, 0, none⟩) L.n L.cs) ∧ W.cell? ⟨L.bs, k, none⟩ = some (.slice au 128 cu)) (by kernel_rfl) ?_
              refine held_take 0 52 _ (.pointer (some ⟨L.g, 0, none⟩)) rfl rfl (by kernel_rfl) (by kernel_rfl) (by kernel_rfl) rfl hcd (fun _ _ => rfl) ?_
              simp only [Act.put, List.setIfInBounds_toArray, List.set_cons_succ, List.set_cons_zero]
              refine held_take 1 53 _ (.pointer (some ⟨L.g, 0, none⟩)) rfl rfl (by kernel_rfl) (by kernel_rfl) (by kernel_rfl) rfl hcd (fun _ _ => rfl) ?_
              simp only [Act.put, List.setIfInBounds_toArray, List.set_cons_succ, List.set_cons_zero]
              refine held_take 2 54 _ (.pointer (some ⟨L.g, 0, none⟩)) rfl rfl (by kernel_rfl) (by kernel_rfl) (by kernel_rfl) rfl hcd (fun _ _ => rfl) ?_
              simp only [Act.put, List.setIfInBounds_toArray, List.set_cons_succ, List.set_cons_zero]
              refine held_take 3 55 _ (.slice (some ⟨L.bn, 0, none⟩) L.n L.cn) rfl rfl (by kernel_rfl) (by kernel_rfl) (by kernel_rfl) rfl hcd (fun W hW => exec_loadc 34 _ rfl _ _ rfl (load_one 34 (fun _ => by kernel_rfl) W _ _ _ hW.1)) ?_
              simp only [Act.put, List.setIfInBounds_toArray, List.set_cons_succ, List.set_cons_zero]
              refine held_take 4 56 _ (.int .i64 (k : Int)) rfl rfl (by kernel_rfl) (by kernel_rfl) (by kernel_rfl) rfl hcd (fun _ _ => rfl) ?_
              simp only [Act.put, List.setIfInBounds_toArray, List.set_cons_succ, List.set_cons_zero]
              refine held_take 5 57 _ (v2) rfl rfl (by kernel_rfl) (by kernel_rfl) (by kernel_rfl) rfl hcd (fun _ _ => rfl) ?_
              simp only [Act.put, List.setIfInBounds_toArray, List.set_cons_succ, List.set_cons_zero]
              refine held_take 6 58 _ (.pointer (some ⟨L.g, 0, none⟩)) rfl rfl (by kernel_rfl) (by kernel_rfl) (by kernel_rfl) rfl hcd (fun _ _ => rfl) ?_
              simp only [Act.put, List.setIfInBounds_toArray, List.set_cons_succ, List.set_cons_zero]
              refine held_take 7 59 _ (.pointer (some ⟨L.g, 0, none⟩)) rfl rfl (by kernel_rfl) (by kernel_rfl) (by kernel_rfl) rfl hcd (fun _ _ => rfl) ?_
              simp only [Act.put, List.setIfInBounds_toArray, List.set_cons_succ, List.set_cons_zero]
              refine held_take 8 60 _ (.pointer (some ⟨L.g, 1, none⟩)) rfl rfl (by kernel_rfl) (by kernel_rfl) (by kernel_rfl) rfl hcd (fun _ _ => rfl) ?_
              simp only [Act.put, List.setIfInBounds_toArray, List.set_cons_succ, List.set_cons_zero]
              refine held_take 9 61 _ (.slice (some ⟨L.bs, 0, none⟩) L.n L.cs) rfl rfl (by kernel_rfl) (by kernel_rfl) (by kernel_rfl) rfl hcd (fun W hW => exec_loadc 34 _ rfl _ _ rfl (load_one 34 (fun _ => by kernel_rfl) W _ _ _ hW.2.1)) ?_
              simp only [Act.put, List.setIfInBounds_toArray, List.set_cons_succ, List.set_cons_zero]
              refine held_take 10 62 _ (.int .i64 (k : Int)) rfl rfl (by kernel_rfl) (by kernel_rfl) (by kernel_rfl) rfl hcd (fun _ _ => rfl) ?_
              simp only [Act.put, List.setIfInBounds_toArray, List.set_cons_succ, List.set_cons_zero]
              refine held_take 11 63 _ (.pointer (some ⟨L.bs, k, none⟩)) rfl rfl (by kernel_rfl) (by kernel_rfl) (by kernel_rfl) rfl hcd (fun W _ => exec_indexat _ _ _ rfl _ _ _ rfl rfl (by have := index_byteses L.bs 0 L.n L.cs k W hkn; rwa [Nat.zero_add] at this)) ?_
              simp only [Act.put, List.setIfInBounds_toArray, List.set_cons_succ, List.set_cons_zero]
              refine held_take 12 64 _ (.slice au 128 cu) rfl rfl (by kernel_rfl) (by kernel_rfl) (by kernel_rfl) rfl hcd (fun W hW => exec_loadc 33 _ rfl _ _ rfl (load_one 33 (fun _ => by kernel_rfl) W _ _ _ hW.2.2)) ?_
              simp only [Act.put, List.setIfInBounds_toArray, List.set_cons_succ, List.set_cons_zero]
              refine held_take 13 65 _ (.int .i64 0) rfl rfl (by kernel_rfl) (by kernel_rfl) (by kernel_rfl) rfl hcd (fun _ _ => rfl) ?_
              simp only [Act.put, List.setIfInBounds_toArray, List.set_cons_succ, List.set_cons_zero]
              refine held_take 14 66 _ (.slice ra (128 - 0) (cu - 0)) rfl rfl (by kernel_rfl) (by kernel_rfl) (by kernel_rfl) rfl hcd (fun W _ => exec_slicel _ _ rfl (.slice au 128 cu) (.int .i64 0) _ rfl rfl (hs2 W)) ?_
              simp only [Act.put, List.setIfInBounds_toArray, List.set_cons_succ, List.set_cons_zero]
              refine held_all1 15 (by kernel_rfl) (op_value 15 67 _ (.slice a3 128 c3) w3 rfl rfl rfl (exec_app _ _ _ _ rfl _ _ _ rfl rfl hr3) ⟨hcd3, ?_⟩)
              simp only [Act.put, List.setIfInBounds_toArray, List.set_cons_succ, List.set_cons_zero]
              refine held_all1 16 (by kernel_rfl) (op_value 16 68 _ _ w3 rfl rfl rfl (exec_indexat _ _ _ rfl _ _ _ rfl rfl hidx2) ⟨hcd3, ?_⟩)
              simp only [Act.put, List.setIfInBounds_toArray, List.set_cons_succ, List.set_cons_zero]
              refine held_all1 17 (by kernel_rfl) (op_skip 17 _ _ rfl rfl rfl (exec_stores _ _ rfl L.bn k _ _ _ _ rfl rfl dn3 fn3) ⟨hcd4, ?_⟩)
              refine wpAnyH_done (by kernel_rfl) ?_ _
              refine NoPanic.normal ?_
              have e0 := hcd4.1
              have e1 := hcd4.2.1
              have e2 := hn4.cell (j := k) (v := .slice a3 128 c3) (by rw [List.getElem?_set_self hnvl])
              have e3 := hcd4.2.2
              have f3 := hu4.frozen k
              obtain ⟨xv5, hh5, _⟩ := hD5.head
              unfold RLay.head at hh5
              have g2 := hh5.cell (j := 2) rfl
              have hdl : k < (List.map Value.bool S.dirt).length := by rw [List.length_map, hDi.ok.dirt]; exact hkn
              have gd := hD5.dirt.cell (List.getElem?_eq_getElem (show k < (List.map Value.bool _).length from hdl))
              have gf := hD5.dirt.frozen k
              clear hD4 hD5 hD6 hh5 hu4 hn4 hh4 hu3 hn3 hh3 hcd hcd3 hcd4 hsa3 hsa4 ho3 ho2 hg3 hg2
              clear hcN
              generalize w3.setCell ⟨L.bn, k, none⟩ (.slice a3 128 c3) = W4 at *
              go_wp2
              go_still_tail 12, (by kernel_rfl)
              go_wp2_with fail
              go_roundw
              case rel => exact ⟨I + 1, hlt, by go_num, by rw [HN.out 0 HSN.out]; exact hD7, hC7⟩
              case measure => simp [intOf]; omega
            by_cases hc9 : 128 < cut
            · have HC0 : Hid ((I : Int) = torn) := ht
              have HSN : Hid (stayN stay torn cut I = 128) := by show _ = _; unfold stayN; rw [if_pos ht]; omega
              have hc1 : ¬ cut < 128 := by omega
              clear ht hsb
              obtain ⟨⟨hseg1, hcv⟩, hseg2, hl1, hl2⟩ := HF.out 128 (by omega)
              have hs1 : ∀ w, (Instr.slice 33 (.slice av 128 cv) none (some (.int .i64 128)) none).run Tryz.prog w = .ok (.slice av 128 cv) w := slice_toD av 128 cv 128 hcv
              have hs2 : ∀ w, (Instr.slice 33 (.slice au 128 cu) (some (.int .i64 128)) none none).run Tryz.prog w = .ok (.slice (restD au cu 128) (128 - 128) (cu - 128)) w := slice_restD au 128 cu 128 (by omega)
              generalize hT1 : (S.now.getD k []).take 128 = TN at *
              generalize hT2 : (S.sure.getD k []).drop 128 = TS at *
              have HTR : Hid (tornRow S k 128 = TN ++ TS) := by show _ = _; unfold tornRow; rw [hT1, hT2]
              have hTL : (TN ++ TS).length = 128 := by have h1 := hl1; have h2 := hl2; rw [List.length_append]; omega
              generalize restD au cu 128 = ra at *
              clear hT1 hT2
              go_wp2_with (at_builtin; refine app_own _ rfl (.tmp 41) (.tmp 50) rfl wr.heap.size _ [] rfl (by exact own_emptyD _ _ _ rfl (Nat.le_refl _)) _ TN rfl (by exact hseg1.alloc _) (by simp; omega) (by simp) ?_; intro v2 w2 ho2 hg2 hv2; rw [List.nil_append] at ho2; have hB2 := below_grown ((Below.refl wr.heap.size wr).alloc (Nat.le_refl _) _) hg2 (by simp) (fun q hq => by have h2 : wr.heap.size = q := Option.some.inj hq; omega))
              have hBd : Below wr.heap.size wr w2.drew := hB2.drew
              have hhd := hh.below hBd l0
              have hcd : w2.drew.cell? ⟨L.g, 0, none⟩ = some (.slice (some ⟨L.bn, 0, none⟩) L.n L.cn) ∧ w2.drew.cell? ⟨L.g, 1, none⟩ = some (.slice (some ⟨L.bs, 0, none⟩) L.n L.cs) ∧ w2.drew.cell? ⟨L.bs, k, none⟩ = some (.slice au 128 cu) := ⟨hhd.cell (j := 0) rfl, hhd.cell (j := 1) rfl, (hu.chg (Chg.of_below (S := fun _ => False) hBd (Nat.le_refl _)) id).cell hvs⟩
              obtain ⟨v3, w3, hr3, ho3, hg3, hv3⟩ := app_bytes w2.drew wr.heap.size v2 TN ho2.drew (.slice ra (128 - 128) (cu - 128)) TS (hseg2.below hBd (Nat.le_refl _)) (by omega) hBd.size
              have hB3 : Below wr.heap.size wr w3 := below_grown hBd hg3 hBd.size (fun q hq => (ho2.blocks q hq).1)
              obtain ⟨a3, c3, hv3e⟩ := Seg.shapeD ho3.seg
              rw [hTL] at hv3e
              subst hv3e
              have hh3 := hh.below hB3 l0
              have hn3 := hn.chg (Chg.of_below (S := fun _ => False) hB3 (Nat.le_refl _)) id
              have hu3 := hu.chg (Chg.of_below (S := fun _ => False) hB3 (Nat.le_refl _)) id
              have hcd3 : w3.cell? ⟨L.g, 0, none⟩ = some (.slice (some ⟨L.bn, 0, none⟩) L.n L.cn) ∧ w3.cell? ⟨L.g, 1, none⟩ = some (.slice (some ⟨L.bs, 0, none⟩) L.n L.cs) ∧ w3.cell? ⟨L.bs, k, none⟩ = some (.slice au 128 cu) := ⟨hh3.cell (j := 0) rfl, hh3.cell (j := 1) rfl, hu3.cell hvs⟩
              have dn3 := hn3.cell hvn
              have fn3 := hn3.frozen k
              have hcN : Chg (fun q => q = L.bn) w3 (w3.setCell ⟨L.bn, k, none⟩ (.slice a3 128 c3)) := (Chg.refl _ w3).setCell L.bn k _ (fun _ => rfl)
              have hh4 := hh3.chg hcN hlay.gn
              have hu4 := hu3.chg hcN (fun e => hlay.ns e.symm)
              have hn4 := hn3.set k (.slice a3 128 c3)
              have hcd4 : (w3.setCell ⟨L.bn, k, none⟩ (.slice a3 128 c3)).cell? ⟨L.g, 0, none⟩ = some (.slice (some ⟨L.bn, 0, none⟩) L.n L.cn) ∧ (w3.setCell ⟨L.bn, k, none⟩ (.slice a3 128 c3)).cell? ⟨L.g, 1, none⟩ = some (.slice (some ⟨L.bs, 0, none⟩) L.n L.cs) ∧ (w3.setCell ⟨L.bn, k, none⟩ (.slice a3 128 c3)).cell? ⟨L.bs, k, none⟩ = some (.slice au 128 cu) := ⟨hh4.cell (j := 0) rfl, hh4.cell (j := 1) rfl, hu4.cell hvs⟩
              have hidx1 := index_byteses L.bs 0 L.n L.cs k w3 hkn
              have hidx2 := index_byteses L.bn 0 L.n L.cn k w3 hkn
              rw [Nat.zero_add] at hidx1 hidx2
              have hsa3 : SegA w3 L.U (.slice a3 128 c3) (TN ++ TS) := ho3.segA hTr
              have hD4 := (hDi.after hB3).setNow k _ _ hTL hsa3
              have hsa4 := hsa3.chg (hcN.weaken (fun _ h => .inl (.inr (.inl h))))
              have hD5 := hD4.setSure k _ _ hTL hsa4
              have hD6 := hD5.setDirt k false
              have hD7 := hD6.after ((Below.refl _ _).drew)
              rw [← HTR.out] at hD7
              have hC7 := ((((hCi.trans (S' := L.T) (Chg.of_below hB3 (Nat.le_refl _)) (fun _ _ h => h)).setCell L.bn k (.slice a3 128 c3) (fun _ => .inr (.inl rfl))).setCell L.bs k (.slice a3 128 c3) (fun _ => .inr (.inr (.inl rfl)))).setCell L.bd k (.bool false) (fun _ => .inr (.inr (.inr rfl)))).drew
              refine held_begin (fun W => W.cell? ⟨L.g, 0, none⟩ = some (.slice (some ⟨L.bn, 0, none⟩) L.n L.cn) ∧ W.cell? ⟨L.g, 1, none⟩ = some (.slice (some ⟨L.bs, 0, none⟩) L.n L.cs) ∧ W.cell? ⟨L.bs, k, none⟩ = some (.slice au 128 cu)) (by kernel_rfl) ?_
              refine held_take 0 52 _ (.pointer (some ⟨L.g, 0, none⟩)) rfl rfl (by kernel_rfl) (by kernel_rfl) (by kernel_rfl) rfl hcd (fun _ _ => rfl) ?_
              simp only [Act.put, List.setIfInBounds_toArray, List.set_cons_succ, List.set_cons_zero]
              refine held_take 1 53 _ (.pointer (some ⟨L.g, 0, none⟩)) rfl rfl (by kernel_rfl) (by kernel_rfl) (by kernel_rfl) rfl hcd (fun _ _ => rfl) ?_
              simp only [Act.put, List.setIfInBounds_toArray, List.set_cons_succ, List.set_cons_zero]
              refine held_take 2 54 _ (.pointer (some ⟨L.g, 0, none⟩)) rfl rfl (by kernel_rfl) (by kernel_rfl) (by kernel_rfl) rfl hcd (fun _ _ => rfl) ?_
              simp only [Act.put, List.setIfInBounds_toArray, List.set_cons_succ, List.set_cons_zero]
              refine held_take 3 55 _ (.slice (some ⟨L.bn, 0, none⟩) L.n L.cn) rfl rfl (by kernel_rfl) (by kernel_rfl) (by kernel_rfl) rfl hcd (fun W hW => exec_loadc 34 _ rfl _ _ rfl (load_one 34 (fun _ => by kernel_rfl) W _ _ _ hW.1)) ?_
              simp only [Act.put, List.setIfInBounds_toArray, List.set_cons_succ, List.set_cons_zero]
              refine held_take 4 56 _ (.int .i64 (k : Int)) rfl rfl (by kernel_rfl) (by kernel_rfl) (by kernel_rfl) rfl hcd (fun _ _ => rfl) ?_
              simp only [Act.put, List.setIfInBounds_toArray, List.set_cons_succ, List.set_cons_zero]
              refine held_take 5 57 _ (v2) rfl rfl (by kernel_rfl) (by kernel_rfl) (by kernel_rfl) rfl hcd (fun _ _ => rfl) ?_
              simp only [Act.put, List.setIfInBounds_toArray, List.set_cons_succ, List.set_cons_zero]
              refine held_take 6 58 _ (.pointer (some ⟨L.g, 0, none⟩)) rfl rfl (by kernel_rfl) (by kernel_rfl) (by kernel_rfl) rfl hcd (fun _ _ => rfl) ?_
              simp only [Act.put, List.setIfInBounds_toArray, List.set_cons_succ, List.set_cons_zero]
              refine held_take 7 59 _ (.pointer (some ⟨L.g, 0, none⟩)) rfl rfl (by kernel_rfl) (by kernel_rfl) (by kernel_rfl) rfl hcd (fun _ _ => rfl) ?_
              simp only [Act.put, List.setIfInBounds_toArray, List.set_cons_succ, List.set_cons_zero]
              refine held_take 8 60 _ (.pointer (some ⟨L.g, 1, none⟩)) rfl rfl (by kernel_rfl) (by kernel_rfl) (by kernel_rfl) rfl hcd (fun _ _ => rfl) ?_
              simp only [Act.put, List.setIfInBounds_toArray, List.set_cons_succ, List.set_cons_zero]
              refine held_take 9 61 _ (.slice (some ⟨L.bs, 0, none⟩) L.n L.cs) rfl rfl (by kernel_rfl) (by kernel_rfl) (by kernel_rfl) rfl hcd (fun W hW => exec_loadc 34 _ rfl _ _ rfl (load_one 34 (fun _ => by kernel_rfl) W _ _ _ hW.2.1)) ?_
              simp only [Act.put, List.setIfInBounds_toArray, List.set_cons_succ, List.set_cons_zero]
              refine held_take 10 62 _ (.int .i64 (k : Int)) rfl rfl (by kernel_rfl) (by kernel_rfl) (by kernel_rfl) rfl hcd (fun _ _ => rfl) ?_
              simp only [Act.put, List.setIfInBounds_toArray, List.set_cons_succ, List.set_cons_zero]
              refine held_take 11 63 _ (.pointer (some ⟨L.bs, k, none⟩)) rfl rfl (by kernel_rfl) (by kernel_rfl) (by kernel_rfl) rfl hcd (fun W _ => exec_indexat _ _ _ rfl _ _ _ rfl rfl (by have := index_byteses L.bs 0 L.n L.cs k W hkn; rwa [Nat.zero_add] at this)) ?_
              simp only [Act.put, List.setIfInBounds_toArray, List.set_cons_succ, List.set_cons_zero]
              refine held_take 12 64 _ (.slice au 128 cu) rfl rfl (by kernel_rfl) (by kernel_rfl) (by kernel_rfl) rfl hcd (fun W hW => exec_loadc 33 _ rfl _ _ rfl (load_one 33 (fun _ => by kernel_rfl) W _ _ _ hW.2.2)) ?_
              simp only [Act.put, List.setIfInBounds_toArray, List.set_cons_succ, List.set_cons_zero]
              refine held_take 13 65 _ (.int .i64 128) rfl rfl (by kernel_rfl) (by kernel_rfl) (by kernel_rfl) rfl hcd (fun _ _ => rfl) ?_
              simp only [Act.put, List.setIfInBounds_toArray, List.set_cons_succ, List.set_cons_zero]
              refine held_take 14 66 _ (.slice ra (128 - 128) (cu - 128)) rfl rfl (by kernel_rfl) (by kernel_rfl) (by kernel_rfl) rfl hcd (fun W _ => exec_slicel _ _ rfl (.slice au 128 cu) (.int .i64 128) _ rfl rfl (hs2 W)) ?_
              simp only [Act.put, List.setIfInBounds_toArray, List.set_cons_succ, List.set_cons_zero]
              refine held_all1 15 (by kernel_rfl) (op_value 15 67 _ (.slice a3 128 c3) w3 rfl rfl rfl (exec_app _ _ _ _ rfl _ _ _ rfl rfl hr3) ⟨hcd3, ?_⟩)
              simp only [Act.put, List.setIfInBounds_toArray, List.set_cons_succ, List.set_cons_zero]
              refine held_all1 16 (by kernel_rfl) (op_value 16 68 _ _ w3 rfl rfl rfl (exec_indexat _ _ _ rfl _ _ _ rfl rfl hidx2) ⟨hcd3, ?_⟩)
              simp only [Act.put, List.setIfInBounds_toArray, List.set_cons_succ, List.set_cons_zero]
              refine held_all1 17 (by kernel_rfl) (op_skip 17 _ _ rfl rfl rfl (exec_stores _ _ rfl L.bn k _ _ _ _ rfl rfl dn3 fn3) ⟨hcd4, ?_⟩)
              refine wpAnyH_done (by kernel_rfl) ?_ _
              refine NoPanic.normal ?_
              have e0 := hcd4.1
              have e1 := hcd4.2.1
              have e2 := hn4.cell (j := k) (v := .slice a3 128 c3) (by rw [List.getElem?_set_self hnvl])
              have e3 := hcd4.2.2
              have f3 := hu4.frozen k
              obtain ⟨xv5, hh5, _⟩ := hD5.head
              unfold RLay.head at hh5
              have g2 := hh5.cell (j := 2) rfl
              have hdl : k < (List.map Value.bool S.dirt).length := by rw [List.length_map, hDi.ok.dirt]; exact hkn
              have gd := hD5.dirt.cell (List.getElem?_eq_getElem (show k < (List.map Value.bool _).length from hdl))
              have gf := hD5.dirt.frozen k
              clear hD4 hD5 hD6 hh5 hu4 hn4 hh4 hu3 hn3 hh3 hcd hcd3 hcd4 hsa3 hsa4 ho3 ho2 hg3 hg2
              clear hcN
              generalize w3.setCell ⟨L.bn, k, none⟩ (.slice a3 128 c3) = W4 at *
              go_wp2
              go_still_tail 12, (by kernel_rfl)
              go_wp2_with fail
              go_roundw
              case rel => exact ⟨I + 1, hlt, by go_num, by rw [HN.out 128 HSN.out]; exact hD7, hC7⟩
              case measure => simp [intOf]; omega
            · have HC0 : Hid ((I : Int) = torn) := ht
              obtain ⟨n0, rfl⟩ : ∃ n0 : Nat, cut = (n0 : Int) := ⟨cut.toNat, by omega⟩
              have hn0 : n0 ≤ 128 := by omega
              have HSN : Hid (stayN stay torn (n0 : Int) I = n0) := by show _ = _; unfold stayN; rw [if_pos ht]; omega
              have hc1 : (n0 : Int) ≤ 128 := by omega
              have hc4 : (0 : Int) < (n0 : Int) := by omega
              have hc5 : 0 < n0 := by omega
              clear ht hsb
              obtain ⟨⟨hseg1, hcv⟩, hseg2, hl1, hl2⟩ := HF.out n0 hn0
              have hs1 : ∀ w, (Instr.slice 33 (.slice av 128 cv) none (some (.int .i64 (n0 : Int))) none).run Tryz.prog w = .ok (.slice av n0 cv) w := slice_toD av 128 cv n0 hcv
              have hs2 : ∀ w, (Instr.slice 33 (.slice au 128 cu) (some (.int .i64 (n0 : Int))) none none).run Tryz.prog w = .ok (.slice (restD au cu n0) (128 - n0) (cu - n0)) w := slice_restD au 128 cu n0 hn0
              generalize hT1 : (S.now.getD k []).take n0 = TN at *
              generalize hT2 : (S.sure.getD k []).drop n0 = TS at *
              have HTR : Hid (tornRow S k n0 = TN ++ TS) := by show _ = _; unfold tornRow; rw [hT1, hT2]
              have hTL : (TN ++ TS).length = 128 := by have h1 := hl1; have h2 := hl2; rw [List.length_append]; omega
              generalize restD au cu n0 = ra at *
              clear hT1 hT2
              go_wp2_with (at_builtin; refine app_own _ rfl (.tmp 41) (.tmp 50) rfl wr.heap.size _ [] rfl (by exact own_emptyD _ _ _ rfl (Nat.le_refl _)) _ TN rfl (by exact hseg1.alloc _) (by simp; omega) (by simp) ?_; intro v2 w2 ho2 hg2 hv2; rw [List.nil_append] at ho2; have hB2 := below_grown ((Below.refl wr.heap.size wr).alloc (Nat.le_refl _) _) hg2 (by simp) (fun q hq => by have h2 : wr.heap.size = q := Option.some.inj hq; omega))
              have hBd : Below wr.heap.size wr w2.drew := hB2.drew
              have hhd := hh.below hBd l0
              have hcd : w2.drew.cell? ⟨L.g, 0, none⟩ = some (.slice (some ⟨L.bn, 0, none⟩) L.n L.cn) ∧ w2.drew.cell? ⟨L.g, 1, none⟩ = some (.slice (some ⟨L.bs, 0, none⟩) L.n L.cs) ∧ w2.drew.cell? ⟨L.bs, k, none⟩ = some (.slice au 128 cu) := ⟨hhd.cell (j := 0) rfl, hhd.cell (j := 1) rfl, (hu.chg (Chg.of_below (S := fun _ => False) hBd (Nat.le_refl _)) id).cell hvs⟩
              obtain ⟨v3, w3, hr3, ho3, hg3, hv3⟩ := app_bytes w2.drew wr.heap.size v2 TN ho2.drew (.slice ra (128 - n0) (cu - n0)) TS (hseg2.below hBd (Nat.le_refl _)) (by omega) hBd.size
              have hB3 : Below wr.heap.size wr w3 := below_grown hBd hg3 hBd.size (fun q hq => (ho2.blocks q hq).1)
              obtain ⟨a3, c3, hv3e⟩ := Seg.shapeD ho3.seg
              rw [hTL] at hv3e
              subst hv3e
              have hh3 := hh.below hB3 l0
              have hn3 := hn.chg (Chg.of_below (S := fun _ => False) hB3 (Nat.le_refl _)) id
              have hu3 := hu.chg (Chg.of_below (S := fun _ => False) hB3 (Nat.le_refl _)) id
              have hcd3 : w3.cell? ⟨L.g, 0, none⟩ = some (.slice (some ⟨L.bn, 0, none⟩) L.n L.cn) ∧ w3.cell? ⟨L.g, 1, none⟩ = some (.slice (some ⟨L.bs, 0, none⟩) L.n L.cs) ∧ w3.cell? ⟨L.bs, k, none⟩ = some (.slice au 128 cu) := ⟨hh3.cell (j := 0) rfl, hh3.cell (j := 1) rfl, hu3.cell hvs⟩
              have dn3 := hn3.cell hvn
              have fn3 := hn3.frozen k
              have hcN : Chg (fun q => q = L.bn) w3 (w3.setCell ⟨L.bn, k, none⟩ (.slice a3 128 c3)) := (Chg.refl _ w3).setCell L.bn k _ (fun _ => rfl)
              have hh4 := hh3.chg hcN hlay.gn
              have hu4 := hu3.chg hcN (fun e => hlay.ns e.symm)
              have hn4 := hn3.set k (.slice a3 128 c3)
              have hcd4 : (w3.setCell ⟨L.bn, k, none⟩ (.slice a3 128 c3)).cell? ⟨L.g, 0, none⟩ = some (.slice (some ⟨L.bn, 0, none⟩) L.n L.cn) ∧ (w3.setCell ⟨L.bn, k, none⟩ (.slice a3 128 c3)).cell? ⟨L.g, 1, none⟩ = some (.slice (some ⟨L.bs, 0, none⟩) L.n L.cs) ∧ (w3.setCell ⟨L.bn, k, none⟩ (.slice a3 128 c3)).cell? ⟨L.bs, k, none⟩ = some (.slice au 128 cu) := ⟨hh4.cell (j := 0) rfl, hh4.cell (j := 1) rfl, hu4.cell hvs⟩
              have hidx1 := index_byteses L.bs 0 L.n L.cs k w3 hkn
              have hidx2 := index_byteses L.bn 0 L.n L.cn k w3 hkn
              rw [Nat.zero_add] at hidx1 hidx2
              have hsa3 : SegA w3 L.U (.slice a3 128 c3) (TN ++ TS) := ho3.segA hTr
              have hD4 := (hDi.after hB3).setNow k _ _ hTL hsa3
              have hsa4 := hsa3.chg (hcN.weaken (fun _ h => .inl (.inr (.inl h))))
              have hD5 := hD4.setSure k _ _ hTL hsa4
              have hD6 := hD5.setDirt k false
              have hD7 := hD6.after ((Below.refl _ _).drew)
              rw [← HTR.out] at hD7
              have hC7 := ((((hCi.trans (S' := L.T) (Chg.of_below hB3 (Nat.le_refl _)) (fun _ _ h => h)).setCell L.bn k (.slice a3 128 c3) (fun _ => .inr (.inl rfl))).setCell L.bs k (.slice a3 128 c3) (fun _ => .inr (.inr (.inl rfl)))).setCell L.bd k (.bool false) (fun _ => .inr (.inr (.inr rfl)))).drew
              refine held_begin (fun W => W.cell? ⟨L.g, 0, none⟩ = some (.slice (some ⟨L.bn, 0, none⟩) L.n L.cn) ∧ W.cell? ⟨L.g, 1, none⟩ = some (.slice (some ⟨L.bs, 0, none⟩) L.n L.cs) ∧ W.cell? ⟨L.bs, k, none⟩ = some (.slice au 128 cu)) (by kernel_rfl) ?_
              refine held_take 0 52 _ (.pointer (some ⟨L.g, 0, none⟩)) rfl rfl (by kernel_rfl) (by kernel_rfl) (by kernel_rfl) rfl hcd (fun _ _ => rfl) ?_
              simp only [Act.put, List.setIfInBounds_toArray, List.set_cons_succ, List.set_cons_zero]
              refine held_take 1 53 _ (.pointer (some ⟨L.g, 0, none⟩)) rfl rfl (by kernel_rfl) (by kernel_rfl) (by kernel_rfl) rfl hcd (fun _ _ => rfl) ?_
              simp only [Act.put, List.setIfInBounds_toArray, List.set_cons_succ, List.set_cons_zero]
              refine held_take 2 54 _ (.pointer (some ⟨L.g, 0, none⟩)) rfl rfl (by kernel_rfl) (by kernel_rfl) (by kernel_rfl) rfl hcd (fun _ _ => rfl) ?_
              simp only [Act.put, List.setIfInBounds_toArray, List.set_cons_succ, List.set_cons_zero]
              refine held_take 3 55 _ (.slice (some ⟨L.bn, 0, none⟩) L.n L.cn) rfl rfl (by kernel_rfl) (by kernel_rfl) (by kernel_rfl) rfl hcd (fun W hW => exec_loadc 34 _ rfl _ _ rfl (load_one 34 (fun _ => by kernel_rfl) W _ _ _ hW.1)) ?_
              simp only [Act.put, List.setIfInBounds_toArray, List.set_cons_succ, List.set_cons_zero]
              refine held_take 4 56 _ (.int .i64 (k : Int)) rfl rfl (by kernel_rfl) (by kernel_rfl) (by kernel_rfl) rfl hcd (fun _ _ => rfl) ?_
              simp only [Act.put, List.setIfInBounds_toArray, List.set_cons_succ, List.set_cons_zero]
              refine held_take 5 57 _ (v2) rfl rfl (by kernel_rfl) (by kernel_rfl) (by kernel_rfl) rfl hcd (fun _ _ => rfl) ?_
              simp only [Act.put, List.setIfInBounds_toArray, List.set_cons_succ, List.set_cons_zero]
              refine held_take 6 58 _ (.pointer (some ⟨L.g, 0, none⟩)) rfl rfl (by kernel_rfl) (by kernel_rfl) (by kernel_rfl) rfl hcd (fun _ _ => rfl) ?_
              simp only [Act.put, List.setIfInBounds_toArray, List.set_cons_succ, List.set_cons_zero]
              refine held_take 7 59 _ (.pointer (some ⟨L.g, 0, none⟩)) rfl rfl (by kernel_rfl) (by kernel_rfl) (by kernel_rfl) rfl hcd (fun _ _ => rfl) ?_
              simp only [Act.put, List.setIfInBounds_toArray, List.set_cons_succ, List.set_cons_zero]
              refine held_take 8 60 _ (.pointer (some ⟨L.g, 1, none⟩)) rfl rfl (by kernel_rfl) (by kernel_rfl) (by kernel_rfl) rfl hcd (fun _ _ => rfl) ?_
              simp only [Act.put, List.setIfInBounds_toArray, List.set_cons_succ, List.set_cons_zero]
              refine held_take 9 61 _ (.slice (some ⟨L.bs, 0, none⟩) L.n L.cs) rfl rfl (by kernel_rfl) (by kernel_rfl) (by kernel_rfl) rfl hcd (fun W hW => exec_loadc 34 _ rfl _ _ rfl (load_one 34 (fun _ => by kernel_rfl) W _ _ _ hW.2.1)) ?_
              simp only [Act.put, List.setIfInBounds_toArray, List.set_cons_succ, List.set_cons_zero]
              refine held_take 10 62 _ (.int .i64 (k : Int)) rfl rfl (by kernel_rfl) (by kernel_rfl) (by kernel_rfl) rfl hcd (fun _ _ => rfl) ?_
              simp only [Act.put, List.setIfInBounds_toArray, List.set_cons_succ, List.set_cons_zero]
              refine held_take 11 63 _ (.pointer (some ⟨L.bs, k, none⟩)) rfl rfl (by kernel_rfl) (by kernel_rfl) (by kernel_rfl) rfl hcd (fun W _ => exec_indexat _ _ _ rfl _ _ _ rfl rfl (by have := index_byteses L.bs 0 L.n L.cs k W hkn; rwa [Nat.zero_add] at this)) ?_
              simp only [Act.put, List.setIfInBounds_toArray, List.set_cons_succ, List.set_cons_zero]
              refine held_take 12 64 _ (.slice au 128 cu) rfl rfl (by kernel_rfl) (by kernel_rfl) (by kernel_rfl) rfl hcd (fun W hW => exec_loadc 33 _ rfl _ _ rfl (load_one 33 (fun _ => by kernel_rfl) W _ _ _ hW.2.2)) ?_
              simp only [Act.put, List.setIfInBounds_toArray, List.set_cons_succ, List.set_cons_zero]
              refine held_take 13 65 _ (.int .i64 (n0 : Int)) rfl rfl (by kernel_rfl) (by kernel_rfl) (by kernel_rfl) rfl hcd (fun _ _ => rfl) ?_
              simp only [Act.put, List.setIfInBounds_toArray, List.set_cons_succ, List.set_cons_zero]
              refine held_take 14 66 _ (.slice ra (128 - n0) (cu - n0)) rfl rfl (by kernel_rfl) (by kernel_rfl) (by kernel_rfl) rfl hcd (fun W _ => exec_slicel _ _ rfl (.slice au 128 cu) (.int .i64 (n0 : Int)) _ rfl rfl (hs2 W)) ?_
              simp only [Act.put, List.setIfInBounds_toArray, List.set_cons_succ, List.set_cons_zero]
              refine held_all1 15 (by kernel_rfl) (op_value 15 67 _ (.slice a3 128 c3) w3 rfl rfl rfl (exec_app _ _ _ _ rfl _ _ _ rfl rfl hr3) ⟨hcd3, ?_⟩)
              simp only [Act.put, List.setIfInBounds_toArray, List.set_cons_succ, List.set_cons_zero]
              refine held_all1 16 (by kernel_rfl) (op_value 16 68 _ _ w3 rfl rfl rfl (exec_indexat _ _ _ rfl _ _ _ rfl rfl hidx2) ⟨hcd3, ?_⟩)
              simp only [Act.put, List.setIfInBounds_toArray, List.set_cons_succ, List.set_cons_zero]
              refine held_all1 17 (by kernel_rfl) (op_skip 17 _ _ rfl rfl rfl (exec_stores _ _ rfl L.bn k _ _ _ _ rfl rfl dn3 fn3) ⟨hcd4, ?_⟩)
              refine wpAnyH_done (by kernel_rfl) ?_ _
              refine NoPanic.normal ?_
              have e0 := hcd4.1
              have e1 := hcd4.2.1
              have e2 := hn4.cell (j := k) (v := .slice a3 128 c3) (by rw [List.getElem?_set_self hnvl])
              have e3 := hcd4.2.2
              have f3 := hu4.frozen k
              obtain ⟨xv5, hh5, _⟩ := hD5.head
              unfold RLay.head at hh5
              have g2 := hh5.cell (j := 2) rfl
              have hdl : k < (List.map Value.bool S.dirt).length := by rw [List.length_map, hDi.ok.dirt]; exact hkn
              have gd := hD5.dirt.cell (List.getElem?_eq_getElem (show k < (List.map Value.bool _).length from hdl))
              have gf := hD5.dirt.frozen k
              clear hD4 hD5 hD6 hh5 hu4 hn4 hh4 hu3 hn3 hh3 hcd hcd3 hcd4 hsa3 hsa4 ho3 ho2 hg3 hg2
              clear hcN
              generalize w3.setCell ⟨L.bn, k, none⟩ (.slice a3 128 c3) = W4 at *
              go_wp2
              go_still_tail 12, (by kernel_rfl)
              go_wp2_with fail
              go_roundw
              case rel => exact ⟨I + 1, hlt, by go_num, by rw [HN.out n0 HSN.out]; exact hD7, hC7⟩
              case measure => simp [intOf]; omega
        · have j1 : ¬ (I : Int) < (stay.length : Int) := by omega
          by_cases hc0 : ¬ 0 < cut
          · have HC0 : Hid ((I : Int) = torn) := ht
            have HSN : Hid (stayN stay torn cut I = 0) := by show _ = _; unfold stayN; rw [if_pos ht]; omega
            have hc1 : cut < 128 := by omega
            have hc2 : ¬ 128 < cut := by omega
            clear ht
            obtain ⟨⟨hseg1, hcv⟩, hseg2, hl1, hl2⟩ := HF.out 0 (by omega)
            have hs1 : ∀ w, (Instr.slice 33 (.slice av 128 cv) none (some (.int .i64 0)) none).run Tryz.prog w = .ok (.slice av 0 cv) w := slice_toD av 128 cv 0 hcv
            have hs2 : ∀ w, (Instr.slice 33 (.slice au 128 cu) (some (.int .i64 0)) none none).run Tryz.prog w = .ok (.slice (restD au cu 0) (128 - 0) (cu - 0)) w := slice_restD au 128 cu 0 (by omega)
            generalize hT1 : (S.now.getD k []).take 0 = TN at *
            generalize hT2 : (S.sure.getD k []).drop 0 = TS at *
            have HTR : Hid (tornRow S k 0 = TN ++ TS) := by show _ = _; unfold tornRow; rw [hT1, hT2]
            have hTL : (TN ++ TS).length = 128 := by have h1 := hl1; have h2 := hl2; rw [List.length_append]; omega
            generalize restD au cu 0 = ra at *
            clear hT1 hT2
            go_wp2_with (at_builtin; refine app_own _ rfl (.tmp 41) (.tmp 50) rfl wr.heap.size _ [] rfl (by exact own_emptyD _ _ _ rfl (Nat.le_refl _)) _ TN rfl (by exact hseg1.alloc _) (by simp; omega) (by simp) ?_; intro v2 w2 ho2 hg2 hv2; rw [List.nil_append] at ho2; have hB2 := below_grown ((Below.refl wr.heap.size wr).alloc (Nat.le_refl _) _) hg2 (by simp) (fun q hq => by have h2 : wr.heap.size = q := Option.some.inj hq; omega))
            have hBd : Below wr.heap.size wr w2.drew := hB2.drew
            have hhd := hh.below hBd l0
            have hcd : w2.drew.cell? ⟨L.g, 0, none⟩ = some (.slice (some ⟨L.bn, 0, none⟩) L.n L.cn) ∧ w2.drew.cell? ⟨L.g, 1, none⟩ = some (.slice (some ⟨L.bs, 0, none⟩) L.n L.cs) ∧ w2.drew.cell? ⟨L.bs, k, none⟩ = some (.slice au 128 cu) := ⟨hhd.cell (j := 0) rfl, hhd.cell (j := 1) rfl, (hu.chg (Chg.of_below (S := fun _ => False) hBd (Nat.le_refl _)) id).cell hvs⟩
            obtain ⟨v3, w3, hr3, ho3, hg3, hv3⟩ := app_bytes w2.drew wr.heap.size v2 TN ho2.drew (.slice ra (128 - 0) (cu - 0)) TS (hseg2.below hBd (Nat.le_refl _)) (by omega) hBd.size
            have hB3 : Below wr.heap.size wr w3 := below_grown hBd hg3 hBd.size (fun q hq => (ho2.blocks q hq).1)
            obtain ⟨a3, c3, hv3e⟩ := Seg.shapeD ho3.seg
            rw [hTL] at hv3e
            subst hv3e
            have hh3 := hh.below hB3 l0
            have hn3 := hn.chg (Chg.of_below (S := fun _ => False) hB3 (Nat.le_refl _)) id
            have hu3 := hu.chg (Chg.of_below (S := fun _ => False) hB3 (Nat.le_refl _)) id
            have hcd3 : w3.cell? ⟨L.g, 0, none⟩ = some (.slice (some ⟨L.bn, 0, none⟩) L.n L.cn) ∧ w3.cell? ⟨L.g, 1, none⟩ = some (.slice (some ⟨L.bs, 0, none⟩) L.n L.cs) ∧ w3.cell? ⟨L.bs, k, none⟩ = some (.slice au 128 cu) := ⟨hh3.cell (j := 0) rfl, hh3.cell (j := 1) rfl, hu3.cell hvs⟩
            have dn3 := hn3.cell hvn
            have fn3 := hn3.frozen k
            have hcN : Chg (fun q => q = L.bn) w3 (w3.setCell ⟨L.bn, k, none⟩ (.slice a3 128 c3)) := (Chg.refl _ w3).setCell L.bn k _ (fun _ => rfl)
            have hh4 := hh3.chg hcN hlay.gn
            have hu4 := hu3.chg hcN (fun e => hlay.ns e.symm)
            have hn4 := hn3.set k (.slice a3 128 c3)
            have hcd4 : (w3.setCell ⟨L.bn, k, none⟩ (.slice a3 128 c3)).cell? ⟨L.g, 0, none⟩ = some (.slice (some ⟨L.bn, 0, none⟩) L.n L.cn) ∧ (w3.setCell ⟨L.bn, k, none⟩ (.slice a3 128 c3)).cell? ⟨L.g, 1, none⟩ = some (.slice (some ⟨L.bs, 0, none⟩) L.n L.cs) ∧ (w3.setCell ⟨L.bn, k, none⟩ (.slice a3 128 c3)).cell? ⟨L.bs, k, none⟩ = some (.slice au 128 cu) := ⟨hh4.cell (j := 0) rfl, hh4.cell (j := 1) rfl, hu4.cell hvs⟩
            have hidx1 := index_byteses L.bs 0 L.n L.cs k w3 hkn
            have hidx2 := index_byteses L.bn 0 L.n L.cn k w3 hkn
            rw [Nat.zero_add] at hidx1 hidx2
            have hsa3 : SegA w3 L.U (.slice a3 128 c3) (TN ++ TS) := ho3.segA hTr
            have hD4 := (hDi.after hB3).setNow k _ _ hTL hsa3
            have hsa4 := hsa3.chg (hcN.weaken (fun _ h => .inl (.inr (.inl h))))
            have hD5 := hD4.setSure k _ _ hTL hsa4
            have hD6 := hD5.setDirt k false
            have hD7 := hD6.after ((Below.refl _ _).drew)
            rw [← HTR.out] at hD7
            have hC7 := ((((hCi.trans (S' := L.T) (Chg.of_below hB3 (Nat.le_refl _)) (fun _ _ h => h)).setCell L.bn k (.slice a3 128 c3) (fun _ => .inr (.inl rfl))).setCell L.bs k (.slice a3 128 c3) (fun _ => .inr (.inr (.inl rfl)))).setCell L.bd k (.bool false) (fun _ => .inr (.inr (.inr rfl)))).drew
            refine held_begin (fun W => W.cell? ⟨L.g, 0, none⟩ = some (.slice (some ⟨L.bn, 0, none⟩) L.n L.cn) ∧ W.cell? ⟨L.g, 1, none⟩ = some (.slice (some ⟨L.bs, 0, none⟩) L.n L.cs) ∧ W.cell? ⟨L.bs, k, none⟩ = some (.slice au 128 cu)) (by kernel_rfl) ?_
            refine held_take 0 52 _ (.pointer (some ⟨L.g, 0, none⟩)) rfl rfl (by kernel_rfl) (by kernel_rfl) (by kernel_rfl) rfl hcd (fun _ _ => rfl) ?_
            simp only [Act.put, List.setIfInBounds_toArray, List.set_cons_succ, List.set_cons_zero]
            refine held_take 1 53 _ (.pointer (some ⟨L.g, 0, none⟩)) rfl rfl (by kernel_rfl) (by kernel_rfl) (by kernel_rfl) rfl hcd (fun _ _ => rfl) ?_
            simp only [Act.put, List.setIfInBounds_toArray, List.set_cons_succ, List.set_cons_zero]
            refine held_take 2 54 _ (.pointer (some ⟨L.g, 0, none⟩)) rfl rfl (by kernel_rfl) (by kernel_rfl) (by kernel_rfl) rfl hcd (fun _ _ => rfl) ?_
            simp only [Act.put, List.setIfInBounds_toArray, List.set_cons_succ, List.set_cons_zero]
            refine held_take 3 55 _ (.slice (some ⟨L.bn, 0, none⟩) L.n L.cn) rfl rfl (by kernel_rfl) (by kernel_rfl) (by kernel_rfl) rfl hcd (fun W hW => exec_loadc 34 _ rfl _ _ rfl (load_one 34 (fun _ => by kernel_rfl) W _ _ _ hW.1)) ?_
            simp only [Act.put, List.setIfInBounds_toArray, List.set_cons_succ, List.set_cons_zero]
            refine held_take 4 56 _ (.int .i64 (k : Int)) rfl rfl (by kernel_rfl) (by kernel_rfl) (by kernel_rfl) rfl hcd (fun _ _ => rfl) ?_
            simp only [Act.put, List.setIfInBounds_toArray, List.set_cons_succ, List.set_cons_zero]
            refine held_take 5 57 _ (v2) rfl rfl (by kernel_rfl) (by kernel_rfl) (by kernel_rfl) rfl hcd (fun _ _ => rfl) ?_
            simp only [Act.put, List.setIfInBounds_toArray, List.set_cons_succ, List.set_cons_zero]
            refine held_take 6 58 _ (.pointer (some ⟨L.g, 0, none⟩)) rfl rfl (by kernel_rfl) (by kernel_rfl) (by kernel_rfl) rfl hcd (fun _ _ => rfl) ?_
            simp only [Act.put, List.setIfInBounds_toArray, List.set_cons_succ, List.set_cons_zero]
            refine held_take 7 59 _ (.pointer (some ⟨L.g, 0, none⟩)) rfl rfl (by kernel_rfl) (by kernel_rfl) (by kernel_rfl) rfl hcd (fun _ _ => rfl) ?_
            simp only [Act.put, List.setIfInBounds_toArray, List.set_cons_succ, List.set_cons_zero]
            refine held_take 8 60 _ (.pointer (some ⟨L.g, 1, none⟩)) rfl rfl (by kernel_rfl) (by kernel_rfl) (by kernel_rfl) rfl hcd (fun _ _ => rfl) ?_
            simp only [Act.put, List.setIfInBounds_toArray, List.set_cons_succ, List.set_cons_zero]
            refine held_take 9 61 _ (.slice (some ⟨L.bs, 0, none⟩) L.n L.cs) rfl rfl (by kernel_rfl) (by kernel_rfl) (by kernel_rfl) rfl hcd (fun W hW => exec_loadc 34 _ rfl _ _ rfl (load_one 34 (fun _ => by kernel_rfl) W _ _ _ hW.2.1)) ?_
            simp only [Act.put, List.setIfInBounds_toArray, List.set_cons_succ, List.set_cons_zero]
            refine held_take 10 62 _ (.int .i64 (k : Int)) rfl rfl (by kernel_rfl) (by kernel_rfl) (by kernel_rfl) rfl hcd (fun _ _ => rfl) ?_
            simp only [Act.put, List.setIfInBounds_toArray, List.set_cons_succ, List.set_cons_zero]
            refine held_take 11 63 _ (.pointer (some ⟨L.bs, k, none⟩)) rfl rfl (by kernel_rfl) (by kernel_rfl) (by kernel_rfl) rfl hcd (fun W _ => exec_indexat _ _ _ rfl _ _ _ rfl rfl (by have := index_byteses L.bs 0 L.n L.cs k W hkn; rwa [Nat.zero_add] at this)) ?_
            simp only [Act.put, List.setIfInBounds_toArray, List.set_cons_succ, List.set_cons_zero]
            refine held_take 12 64 _ (.slice au 128 cu) rfl rfl (by kernel_rfl) (by kernel_rfl) (by kernel_rfl) rfl hcd (fun W hW => exec_loadc 33 _ rfl _ _ rfl (load_one 33 (fun _ => by kernel_rfl) W _ _ _ hW.2.2)) ?_
            simp only [Act.put, List.setIfInBounds_toArray, List.set_cons_succ, List.set_cons_zero]
            refine held_take 13 65 _ (.int .i64 0) rfl rfl (by kernel_rfl) (by kernel_rfl) (by kernel_rfl) rfl hcd (fun _ _ => rfl) ?_
            simp only [Act.put, List.setIfInBounds_toArray, List.set_cons_succ, List.set_cons_zero]
            refine held_take 14 66 _ (.slice ra (128 - 0) (cu - 0)) rfl rfl (by kernel_rfl) (by kernel_rfl) (by kernel_rfl) rfl hcd (fun W _ => exec_slicel _ _ rfl (.slice au 128 cu) (.int .i64 0) _ rfl rfl (hs2 W)) ?_
            simp only [Act.put, List.setIfInBounds_toArray, List.set_cons_succ, List.set_cons_zero]
            refine held_all1 15 (by kernel_rfl) (op_value 15 67 _ (.slice a3 128 c3) w3 rfl rfl rfl (exec_app _ _ _ _ rfl _ _ _ rfl rfl hr3) ⟨hcd3, ?_⟩)
            simp only [Act.put, List.setIfInBounds_toArray, List.set_cons_succ, List.set_cons_zero]
            refine held_all1 16 (by kernel_rfl) (op_value 16 68 _ _ w3 rfl rfl rfl (exec_indexat _ _ _ rfl _ _ _ rfl rfl hidx2) ⟨hcd3, ?_⟩)
            simp only [Act.put, List.setIfInBounds_toArray, List.set_cons_succ, List.set_cons_zero]
            refine held_all1 17 (by kernel_rfl) (op_skip 17 _ _ rfl rfl rfl (exec_stores _ _ rfl L.bn k _ _ _ _ rfl rfl dn3 fn3) ⟨hcd4, ?_⟩)
            refine wpAnyH_done (by kernel_rfl) ?_ _
            refine NoPanic.normal ?_
            have e0 := hcd4.1
            have e1 := hcd4.2.1
            have e2 := hn4.cell (j := k) (v := .slice a3 128 c3) (by rw [List.getElem?_set_self hnvl])
            have e3 := hcd4.2.2
            have f3 := hu4.frozen k
            obtain ⟨xv5, hh5, _⟩ := hD5.head
            unfold RLay.head at hh5
            have g2 := hh5.cell (j := 2) rfl
            have hdl : k < (List.map Value.bool S.dirt).length := by rw [List.length_map, hDi.ok.dirt]; exact hkn
            have gd := hD5.dirt.cell (List.getElem?_eq_getElem (show k < (List.map Value.bool _).length from hdl))
            have gf := hD5.dirt.frozen k
            clear hD4 hD5 hD6 hh5 hu4 hn4 hh4 hu3 hn3 hh3 hcd hcd3 hcd4 hsa3 hsa4 ho3 ho2 hg3 hg2
            clear hcN
            generalize w3.setCell ⟨L.bn, k, none⟩ (.slice a3 128 c3) = W4 at *
            go_wp2
            go_still_tail 12, (by kernel_rfl)
            go_wp2_with fail
            go_roundw
            case rel => exact ⟨I + 1, hlt, by go_num, by rw [HN.out 0 HSN.out]; exact hD7, hC7⟩
            case measure => simp [intOf]; omega
          by_cases hc9 : 128 < cut
          · have HC0 : Hid ((I : Int) = torn) := ht
            have HSN : Hid (stayN stay torn cut I = 128) := by show _ = _; unfold stayN; rw [if_pos ht]; omega
            have hc1 : ¬ cut < 128 := by omega
            clear ht
            obtain ⟨⟨hseg1, hcv⟩, hseg2, hl1, hl2⟩ := HF.out 128 (by omega)
            have hs1 : ∀ w, (Instr.slice 33 (.slice av 128 cv) none (some (.int .i64 128)) none).run Tryz.prog w = .ok (.slice av 128 cv) w := slice_toD av 128 cv 128 hcv
            have hs2 : ∀ w, (Instr.slice 33 (.slice au 128 cu) (some (.int .i64 128)) none none).run Tryz.prog w = .ok (.slice (restD au cu 128) (128 - 128) (cu - 128)) w := slice_restD au 128 cu 128 (by omega)
            generalize hT1 : (S.now.getD k []).take 128 = TN at *
            generalize hT2 : (S.sure.getD k []).drop 128 = TS at *
            have HTR : Hid (tornRow S k 128 = TN ++ TS) := by show _ = _; unfold tornRow; rw [hT1, hT2]
            have hTL : (TN ++ TS).length = 128 := by have h1 := hl1; have h2 := hl2; rw [List.length_append]; omega
            generalize restD au cu 128 = ra at *
            clear hT1 hT2
            go_wp2_with (at_builtin; refine app_own _ rfl (.tmp 41) (.tmp 50) rfl wr.heap.size _ [] rfl (by exact own_emptyD _ _ _ rfl (Nat.le_refl _)) _ TN rfl (by exact hseg1.alloc _) (by simp; omega) (by simp) ?_; intro v2 w2 ho2 hg2 hv2; rw [List.nil_append] at ho2; have hB2 := below_grown ((Below.refl wr.heap.size wr).alloc (Nat.le_refl _) _) hg2 (by simp) (fun q hq => by have h2 : wr.heap.size = q := Option.some.inj hq; omega))
            have hBd : Below wr.heap.size wr w2.drew := hB2.drew
            have hhd := hh.below hBd l0
            have hcd : w2.drew.cell? ⟨L.g, 0, none⟩ = some (.slice (some ⟨L.bn, 0, none⟩) L.n L.cn) ∧ w2.drew.cell? ⟨L.g, 1, none⟩ = some (.slice (some ⟨L.bs, 0, none⟩) L.n L.cs) ∧ w2.drew.cell? ⟨L.bs, k, none⟩ = some (.slice au 128 cu) := ⟨hhd.cell (j := 0) rfl, hhd.cell (j := 1) rfl, (hu.chg (Chg.of_below (S := fun _ => False) hBd (Nat.le_refl _)) id).cell hvs⟩
            obtain ⟨v3, w3, hr3, ho3, hg3, hv3⟩ := app_bytes w2.drew wr.heap.size v2 TN ho2.drew (.slice ra (128 - 128) (cu - 128)) TS (hseg2.below hBd (Nat.le_refl _)) (by omega) hBd.size
            have hB3 : Below wr.heap.size wr w3 := below_grown hBd hg3 hBd.size (fun q hq => (ho2.blocks q hq).1)
            obtain ⟨a3, c3, hv3e⟩ := Seg.shapeD ho3.seg
            rw [hTL] at hv3e
            subst hv3e
            have hh3 := hh.below hB3 l0
            have hn3 := hn.chg (Chg.of_below (S := fun _ => False) hB3 (Nat.le_refl _)) id
            have hu3 := hu.chg (Chg.of_below (S := fun _ => False) hB3 (Nat.le_refl _)) id
            have hcd3 : w3.cell? ⟨L.g, 0, none⟩ = some (.slice (some ⟨L.bn, 0, none⟩) L.n L.cn) ∧ w3.cell? ⟨L.g, 1, none⟩ = some (.slice (some ⟨L.bs, 0, none⟩) L.n L.cs) ∧ w3.cell? ⟨L.bs, k, none⟩ = some (.slice au 128 cu) := ⟨hh3.cell (j := 0) rfl, hh3.cell (j := 1) rfl, hu3.cell hvs⟩
            have dn3 := hn3.cell hvn
            have fn3 := hn3.frozen k
            have hcN : Chg (fun q => q = L.bn) w3 (w3.setCell ⟨L.bn, k, none⟩ (.slice a3 128 c3)) := (Chg.refl _ w3).setCell L.bn k _ (fun _ => rfl)
            have hh4 := hh3.chg hcN hlay.gn
            have hu4 := hu3.chg hcN (fun e => hlay.ns e.symm)
            have hn4 := hn3.set k (.slice a3 128 c3)
            have hcd4 : (w3.setCell ⟨L.bn, k, none⟩ (.slice a3 128 c3)).cell? ⟨L.g, 0, none⟩ = some (.slice (some ⟨L.bn, 0, none⟩) L.n L.cn) ∧ (w3.setCell ⟨L.bn, k, none⟩ (.slice a3 128 c3)).cell? ⟨L.g, 1, none⟩ = some (.slice (some ⟨L.bs, 0, none⟩) L.n L.cs) ∧ (w3.setCell ⟨L.bn, k, none⟩ (.slice a3 128 c3)).cell? ⟨L.bs, k, none⟩ = some (.slice au 128 cu) := ⟨hh4.cell (j := 0) rfl, hh4.cell (j := 1) rfl, hu4.cell hvs⟩
            have hidx1 := index_byteses L.bs 0 L.n L.cs k w3 hkn
            have hidx2 := index_byteses L.bn 0 L.n L.cn k w3 hkn
            rw [Nat.zero_add] at hidx1 hidx2
            have hsa3 : SegA w3 L.U (.slice a3 128 c3) (TN ++ TS) := ho3.segA hTr
            have hD4 := (hDi.after hB3).setNow k _ _ hTL hsa3
            have hsa4 := hsa3.chg (hcN.weaken (fun _ h => .inl (.inr (.inl h))))
            have hD5 := hD4.setSure k _ _ hTL hsa4
            have hD6 := hD5.setDirt k false
            have hD7 := hD6.after ((Below.refl _ _).drew)
            rw [← HTR.out] at hD7
            have hC7 := ((((hCi.trans (S' := L.T) (Chg.of_below hB3 (Nat.le_refl _)) (fun _ _ h => h)).setCell L.bn k (.slice a3 128 c3) (fun _ => .inr (.inl rfl))).setCell L.bs k (.slice a3 128 c3) (fun _ => .inr (.inr (.inl rfl)))).setCell L.bd k (.bool false) (fun _ => .inr (.inr (.inr rfl)))).drew
            refine held_begin (fun W => W.cell? ⟨L.g, 0, none⟩ = some (.slice (some ⟨L.bn, 0, none⟩) L.n L.cn) ∧ W.cell? ⟨L.g, 1, none⟩ = some (.slice (some ⟨L.bs, 0, none⟩) L.n L.cs) ∧ W.cell? ⟨L.bs, k, none⟩ = some (.slice au 128 cu)) (by kernel_rfl) ?_
            refine held_take 0 52 _ (.pointer (some ⟨L.g, 0, none⟩)) rfl rfl (by kernel_rfl) (by kernel_rfl) (by kernel_rfl) rfl hcd (fun _ _ => rfl) ?_
            simp only [Act.put, List.setIfInBounds_toArray, List.set_cons_succ, List.set_cons_zero]
            refine held_take 1 53 _ (.pointer (some ⟨L.g, 0, none⟩)) rfl rfl (by kernel_rfl) (by kernel_rfl) (by kernel_rfl) rfl hcd (fun _ _ => rfl) ?_
            simp only [Act.put, List.setIfInBounds_toArray, List.set_cons_succ, List.set_cons_zero]
            refine held_take 2 54 _ (.pointer (some ⟨L.g, 0, none⟩)) rfl rfl (by kernel_rfl) (by kernel_rfl) (by kernel_rfl) rfl hcd (fun _ _ => rfl) ?_
            simp only [Act.put, List.setIfInBounds_toArray, List.set_cons_succ, List.set_cons_zero]
            refine held_take 3 55 _ (.slice (some ⟨L.bn, 0, none⟩) L.n L.cn) rfl rfl (by kernel_rfl) (by kernel_rfl) (by kernel_rfl) rfl hcd (fun W hW => exec_loadc 34 _ rfl _ _ rfl (load_one 34 (fun _ => by kernel_rfl) W _ _ _ hW.1)) ?_
            simp only [Act.put, List.setIfInBounds_toArray, List.set_cons_succ, List.set_cons_zero]
            refine held_take 4 56 _ (.int .i64 (k : Int)) rfl rfl (by kernel_rfl) (by kernel_rfl) (by kernel_rfl) rfl hcd (fun _ _ => rfl) ?_
            simp only [Act.put, List.setIfInBounds_toArray, List.set_cons_succ, List.set_cons_zero]
            refine held_take 5 57 _ (v2) rfl rfl (by kernel_rfl) (by kernel_rfl) (by kernel_rfl) rfl hcd (fun _ _ => rfl) ?_
            simp only [Act.put, List.setIfInBounds_toArray, List.set_cons_succ, List.set_cons_zero]
            refine held_take 6 58 _ (.pointer (some ⟨L.g, 0, none⟩)) rfl rfl (by kernel_rfl) (by kernel_rfl) (by kernel_rfl) rfl hcd (fun _ _ => rfl) ?_
            simp only [Act.put, List.setIfInBounds_toArray, List.set_cons_succ, List.set_cons_zero]
            refine held_take 7 59 _ (.pointer (some ⟨L.g, 0, none⟩)) rfl rfl (by kernel_rfl) (by kernel_rfl) (by kernel_rfl) rfl hcd (fun _ _ => rfl) ?_
            simp only [Act.put, List.setIfInBounds_toArray, List.set_cons_succ, List.set_cons_zero]
            refine held_take 8 60 _ (.pointer (some ⟨L.g, 1, none⟩)) rfl rfl (by kernel_rfl) (by kernel_rfl) (by kernel_rfl) rfl hcd (fun _ _ => rfl) ?_
            simp only [Act.put, List.setIfInBounds_toArray, List.set_cons_succ, List.set_cons_zero]
            refine held_take 9 61 _ (.slice (some ⟨L.bs, 0, none⟩) L.n L.cs) rfl rfl (by kernel_rfl) (by kernel_rfl) (by kernel_rfl) rfl hcd (fun W hW => exec_loadc 34 _ rfl _ _ rfl (load_one 34 (fun _ => by kernel_rfl) W _ _ _ hW.2.1)) ?_
            simp only [Act.put, List.setIfInBounds_toArray, List.set_cons_succ, List.set_cons_zero]
            refine held_take 10 62 _ (.int .i64 (k : Int)) rfl rfl (by kernel_rfl) (by kernel_rfl) (by kernel_rfl) rfl hcd (fun _ _ => rfl) ?_
            simp only [Act.put, List.setIfInBounds_toArray, List.set_cons_succ, List.set_cons_zero]
            refine held_take 11 63 _ (.pointer (some ⟨L.bs, k, none⟩)) rfl rfl (by kernel_rfl) (by kernel_rfl) (by kernel_rfl) rfl hcd (fun W _ => exec_indexat _ _ _ rfl _ _ _ rfl rfl (by have := index_byteses L.bs 0 L.n L.cs k W hkn; rwa [Nat.zero_add] at this)) ?_
            simp only [Act.put, List.setIfInBounds_toArray, List.set_cons_succ, List.set_cons_zero]
            refine held_take 12 64 _ (.slice au 128 cu) rfl rfl (by kernel_rfl) (by kernel_rfl) (by kernel_rfl) rfl hcd (fun W hW => exec_loadc 33 _ rfl _ _ rfl (load_one 33 (fun _ => by kernel_rfl) W _ _ _ hW.2.2)) ?_
            simp only [Act.put, List.setIfInBounds_toArray, List.set_cons_succ, List.set_cons_zero]
            refine held_take 13 65 _ (.int .i64 128) rfl rfl (by kernel_rfl) (by kernel_rfl) (by kernel_rfl) rfl hcd (fun _ _ => rfl) ?_
            simp only [Act.put, List.setIfInBounds_toArray, List.set_cons_succ, List.set_cons_zero]
            refine held_take 14 66 _ (.slice ra (128 - 128) (cu - 128)) rfl rfl (by kernel_rfl) (by kernel_rfl) (by kernel_rfl) rfl hcd (fun W _ => exec_slicel _ _ rfl (.slice au 128 cu) (.int .i64 128) _ rfl rfl (hs2 W)) ?_
            simp only [Act.put, List.setIfInBounds_toArray, List.set_cons_succ, List.set_cons_zero]
            refine held_all1 15 (by kernel_rfl) (op_value 15 67 _ (.slice a3 128 c3) w3 rfl rfl rfl (exec_app _ _ _ _ rfl _ _ _ rfl rfl hr3) ⟨hcd3, ?_⟩)
            simp only [Act.put, List.setIfInBounds_toArray, List.set_cons_succ, List.set_cons_zero]
            refine held_all1 16 (by kernel_rfl) (op_value 16 68 _ _ w3 rfl rfl rfl (exec_indexat _ _ _ rfl _ _ _ rfl rfl hidx2) ⟨hcd3, ?_⟩)
            simp only [Act.put, List.setIfInBounds_toArray, List.set_cons_succ, List.set_cons_zero]
            refine held_all1 17 (by kernel_rfl) (op_skip 17 _ _ rfl rfl rfl (exec_stores _ _ rfl L.bn k _ _ _ _ rfl rfl dn3 fn3) ⟨hcd4, ?_⟩)
            refine wpAnyH_done (by kernel_rfl) ?_ _
            refine NoPanic.normal ?_
            have e0 := hcd4.1
            have e1 := hcd4.2.1
            have e2 := hn4.cell (j := k) (v := .slice a3 128 c3) (by rw [List.getElem?_set_self hnvl])
            have e3 := hcd4.2.2
            have f3 := hu4.frozen k
            obtain ⟨xv5, hh5, _⟩ := hD5.head
            unfold RLay.head at hh5
            have g2 := hh5.cell (j := 2) rfl
            have hdl : k < (List.map Value.bool S.dirt).length := by rw [List.length_map, hDi.ok.dirt]; exact hkn
            have gd := hD5.dirt.cell (List.getElem?_eq_getElem (show k < (List.map Value.bool _).length from hdl))
            have gf := hD5.dirt.frozen k
            clear hD4 hD5 hD6 hh5 hu4 hn4 hh4 hu3 hn3 hh3 hcd hcd3 hcd4 hsa3 hsa4 ho3 ho2 hg3 hg2
            clear hcN
            generalize w3.setCell ⟨L.bn, k, none⟩ (.slice a3 128 c3) = W4 at *
            go_wp2
            go_still_tail 12, (by kernel_rfl)
            go_wp2_with fail
            go_roundw
            case rel => exact ⟨I + 1, hlt, by go_num, by rw [HN.out 128 HSN.out]; exact hD7, hC7⟩
            case measure => simp [intOf]; omega
          · have HC0 : Hid ((I : Int) = torn) := ht
            obtain ⟨n0, rfl⟩ : ∃ n0 : Nat, cut = (n0 : Int) := ⟨cut.toNat, by omega⟩
            have hn0 : n0 ≤ 128 := by omega
            have HSN : Hid (stayN stay torn (n0 : Int) I = n0) := by show _ = _; unfold stayN; rw [if_pos ht]; omega
            have hc1 : (n0 : Int) ≤ 128 := by omega
            have hc4 : (0 : Int) < (n0 : Int) := by omega
            have hc5 : 0 < n0 := by omega
            clear ht
            obtain ⟨⟨hseg1, hcv⟩, hseg2, hl1, hl2⟩ := HF.out n0 hn0
            have hs1 : ∀ w, (Instr.slice 33 (.slice av 128 cv) none (some (.int .i64 (n0 : Int))) none).run Tryz.prog w = .ok (.slice av n0 cv) w := slice_toD av 128 cv n0 hcv
            have hs2 : ∀ w, (Instr.slice 33 (.slice au 128 cu) (some (.int .i64 (n0 : Int))) none none).run Tryz.prog w = .ok (.slice (restD au cu n0) (128 - n0) (cu - n0)) w := slice_restD au 128 cu n0 hn0
            generalize hT1 : (S.now.getD k []).take n0 = TN at *
            generalize hT2 : (S.sure.getD k []).drop n0 = TS at *
            have HTR : Hid (tornRow S k n0 = TN ++ TS) := by show _ = _; unfold tornRow; rw [hT1, hT2]
            have hTL : (TN ++ TS).length = 128 := by have h1 := hl1; have h2 := hl2; rw [List.length_append]; omega
            generalize restD au cu n0 = ra at *
            clear hT1 hT2
            go_wp2_with (at_builtin; refine app_own _ rfl (.tmp 41) (.tmp 50) rfl wr.heap.size _ [] rfl (by exact own_emptyD _ _ _ rfl (Nat.le_refl _)) _ TN rfl (by exact hseg1.alloc _) (by simp; omega) (by simp) ?_; intro v2 w2 ho2 hg2 hv2; rw [List.nil_append] at ho2; have hB2 := below_grown ((Below.refl wr.heap.size wr).alloc (Nat.le_refl _) _) hg2 (by simp) (fun q hq => by have h2 : wr.heap.size = q := Option.some.inj hq; omega))
            have hBd : Below wr.heap.size wr w2.drew := hB2.drew
            have hhd := hh.below hBd l0
            have hcd : w2.drew.cell? ⟨L.g, 0, none⟩ = some (.slice (some ⟨L.bn, 0, none⟩) L.n L.cn) ∧ w2.drew.cell? ⟨L.g, 1, none⟩ = some (.slice (some ⟨L.bs, 0, none⟩) L.n L.cs) ∧ w2.drew.cell? ⟨L.bs, k, none⟩ = some (.slice au 128 cu) := ⟨hhd.cell (j := 0) rfl, hhd.cell (j := 1) rfl, (hu.chg (Chg.of_below (S := fun _ => False) hBd (Nat.le_refl _)) id).cell hvs⟩
            obtain ⟨v3, w3, hr3, ho3, hg3, hv3⟩ := app_bytes w2.drew wr.heap.size v2 TN ho2.drew (.slice ra (128 - n0) (cu - n0)) TS (hseg2.below hBd (Nat.le_refl _)) (by omega) hBd.size
            have hB3 : Below wr.heap.size wr w3 := below_grown hBd hg3 hBd.size (fun q hq => (ho2.blocks q hq).1)
            obtain ⟨a3, c3, hv3e⟩ := Seg.shapeD ho3.seg
            rw [hTL] at hv3e
            subst hv3e
            have hh3 := hh.below hB3 l0
            have hn3 := hn.chg (Chg.of_below (S := fun _ => False) hB3 (Nat.le_refl _)) id
            have hu3 := hu.chg (Chg.of_below (S := fun _ => False) hB3 (Nat.le_refl _)) id
            have hcd3 : w3.cell? ⟨L.g, 0, none⟩ = some (.slice (some ⟨L.bn, 0, none⟩) L.n L.cn) ∧ w3.cell? ⟨L.g, 1, none⟩ = some (.slice (some ⟨L.bs, 0, none⟩) L.n L.cs) ∧ w3.cell? ⟨L.bs, k, none⟩ = some (.slice au 128 cu) := ⟨hh3.cell (j := 0) rfl, hh3.cell (j := 1) rfl, hu3.cell hvs⟩
            have dn3 := hn3.cell hvn
            have fn3 := hn3.frozen k
            have hcN : Chg (fun q => q = L.bn) w3 (w3.setCell ⟨L.bn, k, none⟩ (.slice a3 128 c3)) := (Chg.refl _ w3).setCell L.bn k _ (fun _ => rfl)
            have hh4 := hh3.chg hcN hlay.gn
            have hu4 := hu3.chg hcN (fun e => hlay.ns e.symm)
            have hn4 := hn3.set k (.slice a3 128 c3)
            have hcd4 : (w3.setCell ⟨L.bn, k, none⟩ (.slice a3 128 c3)).cell? ⟨L.g, 0, none⟩ = some (.slice (some ⟨L.bn, 0, none⟩) L.n L.cn) ∧ (w3.setCell ⟨L.bn, k, none⟩ (.slice a3 128 c3)).cell? ⟨L.g, 1, none⟩ = some (.slice (some ⟨L.bs, 0, none⟩) L.n L.cs) ∧ (w3.setCell ⟨L.bn, k, none⟩ (.slice a3 128 c3)).cell? ⟨L.bs, k, none⟩ = some (.slice au 128 cu) := ⟨hh4.cell (j := 0) rfl, hh4.cell (j := 1) rfl, hu4.cell hvs⟩
            have hidx1 := index_byteses L.bs 0 L.n L.cs k w3 hkn
            have hidx2 := index_byteses L.bn 0 L.n L.cn k w3 hkn
            rw [Nat.zero_add] at hidx1 hidx2
            have hsa3 : SegA w3 L.U (.slice a3 128 c3) (TN ++ TS) := ho3.segA hTr
            have hD4 := (hDi.after hB3).setNow k _ _ hTL hsa3
            have hsa4 := hsa3.chg (hcN.weaken (fun _ h => .inl (.inr (.inl h))))
            have hD5 := hD4.setSure k _ _ hTL hsa4
            have hD6 := hD5.setDirt k false
            have hD7 := hD6.after ((Below.refl _ _).drew)
            rw [← HTR.out] at hD7
            have hC7 := ((((hCi.trans (S' := L.T) (Chg.of_below hB3 (Nat.le_refl _)) (fun _ _ h => h)).setCell L.bn k (.slice a3 128 c3) (fun _ => .inr (.inl rfl))).setCell L.bs k (.slice a3 128 c3) (fun _ => .inr (.inr (.inl rfl)))).setCell L.bd k (.bool false) (fun _ => .inr (.inr (.inr rfl)))).drew
            refine held_begin (fun W => W.cell? ⟨L.g, 0, none⟩ = some (.slice (some ⟨L.bn, 0, none⟩) L.n L.cn) ∧ W.cell? ⟨L.g, 1, none⟩ = some (.slice (some ⟨L.bs, 0, none⟩) L.n L.cs) ∧ W.cell? ⟨L.bs, k, none⟩ = some (.slice au 128 cu)) (by kernel_rfl) ?_
            refine held_take 0 52 _ (.pointer (some ⟨L.g, 0, none⟩)) rfl rfl (by kernel_rfl) (by kernel_rfl) (by kernel_rfl) rfl hcd (fun _ _ => rfl) ?_
            simp only [Act.put, List.setIfInBounds_toArray, List.set_cons_succ, List.set_cons_zero]
            refine held_take 1 53 _ (.pointer (some ⟨L.g, 0, none⟩)) rfl rfl (by kernel_rfl) (by kernel_rfl) (by kernel_rfl) rfl hcd (fun _ _ => rfl) ?_
            simp only [Act.put, List.setIfInBounds_toArray, List.set_cons_succ, List.set_cons_zero]
            refine held_take 2 54 _ (.pointer (some ⟨L.g, 0, none⟩)) rfl rfl (by kernel_rfl) (by kernel_rfl) (by kernel_rfl) rfl hcd (fun _ _ => rfl) ?_
            simp only [Act.put, List.setIfInBounds_toArray, List.set_cons_succ, List.set_cons_zero]
            refine held_take 3 55 _ (.slice (some ⟨L.bn, 0, none⟩) L.n L.cn) rfl rfl (by kernel_rfl) (by kernel_rfl) (by kernel_rfl) rfl hcd (fun W hW => exec_loadc 34 _ rfl _ _ rfl (load_one 34 (fun _ => by kernel_rfl) W _ _ _ hW.1)) ?_
            simp only [Act.put, List.setIfInBounds_toArray, List.set_cons_succ, List.set_cons_zero]
            refine held_take 4 56 _ (.int .i64 (k : Int)) rfl rfl (by kernel_rfl) (by kernel_rfl) (by kernel_rfl) rfl hcd (fun _ _ => rfl) ?_
            simp only [Act.put, List.setIfInBounds_toArray, List.set_cons_succ, List.set_cons_zero]
            refine held_take 5 57 _ (v2) rfl rfl (by kernel_rfl) (by kernel_rfl) (by kernel_rfl) rfl hcd (fun _ _ => rfl) ?_
            simp only [Act.put, List.setIfInBounds_toArray, List.set_cons_succ, List.set_cons_zero]
            refine held_take 6 58 _ (.pointer (some ⟨L.g, 0, none⟩)) rfl rfl (by kernel_rfl) (by kernel_rfl) (by kernel_rfl) rfl hcd (fun _ _ => rfl) ?_
            simp only [Act.put, List.setIfInBounds_toArray, List.set_cons_succ, List.set_cons_zero]
            refine held_take 7 59 _ (.pointer (some ⟨L.g, 0, none⟩)) rfl rfl (by kernel_rfl) (by kernel_rfl) (by kernel_rfl) rfl hcd (fun _ _ => rfl) ?_
            simp only [Act.put, List.setIfInBounds_toArray, List.set_cons_succ, List.set_cons_zero]
            refine held_take 8 60 _ (.pointer (some ⟨L.g, 1, none⟩)) rfl rfl (by kernel_rfl) (by kernel_rfl) (by kernel_rfl) rfl hcd (fun _ _ => rfl) ?_
            simp only [Act.put, List.setIfInBounds_toArray, List.set_cons_succ, List.set_cons_zero]
            refine held_take 9 61 _ (.slice (some ⟨L.bs, 0, none⟩) L.n L.cs) rfl rfl (by kernel_rfl) (by kernel_rfl) (by kernel_rfl) rfl hcd (fun W hW => exec_loadc 34 _ rfl _ _ rfl (load_one 34 (fun _ => by kernel_rfl) W _ _ _ hW.2.1)) ?_
            simp only [Act.put, List.setIfInBounds_toArray, List.set_cons_succ, List.set_cons_zero]
            refine held_take 10 62 _ (.int .i64 (k : Int)) rfl rfl (by kernel_rfl) (by kernel_rfl) (by kernel_rfl) rfl hcd (fun _ _ => rfl) ?_
            simp only [Act.put, List.setIfInBounds_toArray, List.set_cons_succ, List.set_cons_zero]
            refine held_take 11 63 _ (.pointer (some ⟨L.bs, k, none⟩)) rfl rfl (by kernel_rfl) (by kernel_rfl) (by kernel_rfl) rfl hcd (fun W _ => exec_indexat _ _ _ rfl _ _ _ rfl rfl (by have := index_byteses L.bs 0 L.n L.cs k W hkn; rwa [Nat.zero_add] at this)) ?_
            simp only [Act.put, List.setIfInBounds_toArray, List.set_cons_succ, List.set_cons_zero]
            refine held_take 12 64 _ (.slice au 128 cu) rfl rfl (by kernel_rfl) (by kernel_rfl) (by kernel_rfl) rfl hcd (fun W hW => exec_loadc 33 _ rfl _ _ rfl (load_one 33 (fun _ => by kernel_rfl) W _ _ _ hW.2.2)) ?_
            simp only [Act.put, List.setIfInBounds_toArray, List.set_cons_succ, List.set_cons_zero]
            refine held_take 13 65 _ (.int .i64 (n0 : Int)) rfl rfl (by kernel_rfl) (by kernel_rfl) (by kernel_rfl) rfl hcd (fun _ _ => rfl) ?_
            simp only [Act.put, List.setIfInBounds_toArray, List.set_cons_succ, List.set_cons_zero]
            refine held_take 14 66 _ (.slice ra (128 - n0) (cu - n0)) rfl rfl (by kernel_rfl) (by kernel_rfl) (by kernel_rfl) rfl hcd (fun W _ => exec_slicel _ _ rfl (.slice au 128 cu) (.int .i64 (n0 : Int)) _ rfl rfl (hs2 W)) ?_
            simp only [Act.put, List.setIfInBounds_toArray, List.set_cons_succ, List.set_cons_zero]
            refine held_all1 15 (by kernel_rfl) (op_value 15 67 _ (.slice a3 128 c3) w3 rfl rfl rfl (exec_app _ _ _ _ rfl _ _ _ rfl rfl hr3) ⟨hcd3, ?_⟩)
            simp only [Act.put, List.setIfInBounds_toArray, List.set_cons_succ, List.set_cons_zero]
            refine held_all1 16 (by kernel_rfl) (op_value 16 68 _ _ w3 rfl rfl rfl (exec_indexat _ _ _ rfl _ _ _ rfl rfl hidx2) ⟨hcd3, ?_⟩)
            simp only [Act.put, List.setIfInBounds_toArray, List.set_cons_succ, List.set_cons_zero]
            refine held_all1 17 (by kernel_rfl) (op_skip 17 _ _ rfl rfl rfl (exec_stores _ _ rfl L.bn k _ _ _ _ rfl rfl dn3 fn3) ⟨hcd4, ?_⟩)
            refine wpAnyH_done (by kernel_rfl) ?_ _
            refine NoPanic.normal ?_
            have e0 := hcd4.1
            have e1 := hcd4.2.1
            have e2 := hn4.cell (j := k) (v := .slice a3 128 c3) (by rw [List.getElem?_set_self hnvl])
            have e3 := hcd4.2.2
            have f3 := hu4.frozen k
            obtain ⟨xv5, hh5, _⟩ := hD5.head
            unfold RLay.head at hh5
            have g2 := hh5.cell (j := 2) rfl
            have hdl : k < (List.map Value.bool S.dirt).length := by rw [List.length_map, hDi.ok.dirt]; exact hkn
            have gd := hD5.dirt.cell (List.getElem?_eq_getElem (show k < (List.map Value.bool _).length from hdl))
            have gf := hD5.dirt.frozen k
            clear hD4 hD5 hD6 hh5 hu4 hn4 hh4 hu3 hn3 hh3 hcd hcd3 hcd4 hsa3 hsa4 ho3 ho2 hg3 hg2
            clear hcN
            generalize w3.setCell ⟨L.bn, k, none⟩ (.slice a3 128 c3) = W4 at *
            go_wp2
            go_still_tail 12, (by kernel_rfl)
            go_wp2_with fail
            go_roundw
            case rel => exact ⟨I + 1, hlt, by go_num, by rw [HN.out n0 HSN.out]; exact hD7, hC7⟩
            case measure => simp [intOf]; omega
      · have jt : ((I : Int) == torn) = false := by simpa using ht
        by_cases hsy : I < stay.length
        · obtain ⟨b, hsb⟩ : ∃ b, stay[I]? = some b := ⟨stay[I]'hsy, List.getElem?_eq_getElem hsy⟩
          obtain ⟨p2, q2, rfl, _, _, hsc⟩ := hst I b hsb
          have j1 : (I : Int) < (stay.length : Int) := by omega
          cases b with
          | false =>
            have HSN : Hid (stayN stay torn cut I = 0) := by show _ = _; unfold stayN; rw [if_neg ht, if_neg (by rw [hsb]; simp)]
            clear ht hsb
            obtain ⟨⟨hseg1, hcv⟩, hseg2, hl1, hl2⟩ := HF.out 0 (by omega)
            have hs1 : ∀ w, (Instr.slice 33 (.slice av 128 cv) none (some (.int .i64 0)) none).run Tryz.prog w = .ok (.slice av 0 cv) w := slice_toD av 128 cv 0 hcv
            have hs2 : ∀ w, (Instr.slice 33 (.slice au 128 cu) (some (.int .i64 0)) none none).run Tryz.prog w = .ok (.slice (restD au cu 0) (128 - 0) (cu - 0)) w := slice_restD au 128 cu 0 (by omega)
            generalize hT1 : (S.now.getD k []).take 0 = TN at *
            generalize hT2 : (S.sure.getD k []).drop 0 = TS at *
            have HTR : Hid (tornRow S k 0 = TN ++ TS) := by show _ = _; unfold tornRow; rw [hT1, hT2]
            have hTL : (TN ++ TS).length = 128 := by have h1 := hl1; have h2 := hl2; rw [List.length_append]; omega
            generalize restD au cu 0 = ra at *
            clear hT1 hT2
            go_wp2_with (at_builtin; refine app_own _ rfl (.tmp 41) (.tmp 50) rfl wr.heap.size _ [] rfl (by exact own_emptyD _ _ _ rfl (Nat.le_refl _)) _ TN rfl (by exact hseg1.alloc _) (by simp; omega) (by simp) ?_; intro v2 w2 ho2 hg2 hv2; rw [List.nil_append] at ho2; have hB2 := below_grown ((Below.refl wr.heap.size wr).alloc (Nat.le_refl _) _) hg2 (by simp) (fun q hq => by have h2 : wr.heap.size = q := Option.some.inj hq; omega))
            have hBd : Below wr.heap.size wr w2.drew := hB2.drew
            have hhd := hh.below hBd l0
            have hcd : w2.drew.cell? ⟨L.g, 0, none⟩ = some (.slice (some ⟨L.bn, 0, none⟩) L.n L.cn) ∧ w2.drew.cell? ⟨L.g, 1, none⟩ = some (.slice (some ⟨L.bs, 0, none⟩) L.n L.cs) ∧ w2.drew.cell? ⟨L.bs, k, none⟩ = some (.slice au 128 cu) := ⟨hhd.cell (j := 0) rfl, hhd.cell (j := 1) rfl, (hu.chg (Chg.of_below (S := fun _ => False) hBd (Nat.le_refl _)) id).cell hvs⟩
            obtain ⟨v3, w3, hr3, ho3, hg3, hv3⟩ := app_bytes w2.drew wr.heap.size v2 TN ho2.drew (.slice ra (128 - 0) (cu - 0)) TS (hseg2.below hBd (Nat.le_refl _)) (by omega) hBd.size
            have hB3 : Below wr.heap.size wr w3 := below_grown hBd hg3 hBd.size (fun q hq => (ho2.blocks q hq).1)
            obtain ⟨a3, c3, hv3e⟩ := Seg.shapeD ho3.seg
            rw [hTL] at hv3e
            subst hv3e
            have hh3 := hh.below hB3 l0
            have hn3 := hn.chg (Chg.of_below (S := fun _ => False) hB3 (Nat.le_refl _)) id
            have hu3 := hu.chg (Chg.of_below (S := fun _ => False) hB3 (Nat.le_refl _)) id
            have hcd3 : w3.cell? ⟨L.g, 0, none⟩ = some (.slice (some ⟨L.bn, 0, none⟩) L.n L.cn) ∧ w3.cell? ⟨L.g, 1, none⟩ = some (.slice (some ⟨L.bs, 0, none⟩) L.n L.cs) ∧ w3.cell? ⟨L.bs, k, none⟩ = some (.slice au 128 cu) := ⟨hh3.cell (j := 0) rfl, hh3.cell (j := 1) rfl, hu3.cell hvs⟩
            have dn3 := hn3.cell hvn
            have fn3 := hn3.frozen k
            have hcN : Chg (fun q => q = L.bn) w3 (w3.setCell ⟨L.bn, k, none⟩ (.slice a3 128 c3)) := (Chg.refl _ w3).setCell L.bn k _ (fun _ => rfl)
            have hh4 := hh3.chg hcN hlay.gn
            have hu4 := hu3.chg hcN (fun e => hlay.ns e.symm)
            have hn4 := hn3.set k (.slice a3 128 c3)
            have hcd4 : (w3.setCell ⟨L.bn, k, none⟩ (.slice a3 128 c3)).cell? ⟨L.g, 0, none⟩ = some (.slice (some ⟨L.bn, 0, none⟩) L.n L.cn) ∧ (w3.setCell ⟨L.bn, k, none⟩ (.slice a3 128 c3)).cell? ⟨L.g, 1, none⟩ = some (.slice (some ⟨L.bs, 0, none⟩) L.n L.cs) ∧ (w3.setCell ⟨L.bn, k, none⟩ (.slice a3 128 c3)).cell? ⟨L.bs, k, none⟩ = some (.slice au 128 cu) := ⟨hh4.cell (j := 0) rfl, hh4.cell (j := 1) rfl, hu4.cell hvs⟩
            have hidx1 := index_byteses L.bs 0 L.n L.cs k w3 hkn
            have hidx2 := index_byteses L.bn 0 L.n L.cn k w3 hkn
            rw [Nat.zero_add] at hidx1 hidx2
            have hsa3 : SegA w3 L.U (.slice a3 128 c3) (TN ++ TS) := ho3.segA hTr
            have hD4 := (hDi.after hB3).setNow k _ _ hTL hsa3
            have hsa4 := hsa3.chg (hcN.weaken (fun _ h => .inl (.inr (.inl h))))
            have hD5 := hD4.setSure k _ _ hTL hsa4
            have hD6 := hD5.setDirt k false
            have hD7 := hD6.after ((Below.refl _ _).drew)
            rw [← HTR.out] at hD7
            have hC7 := ((((hCi.trans (S' := L.T) (Chg.of_below hB3 (Nat.le_refl _)) (fun _ _ h => h)).setCell L.bn k (.slice a3 128 c3) (fun _ => .inr (.inl rfl))).setCell L.bs k (.slice a3 128 c3) (fun _ => .inr (.inr (.inl rfl)))).setCell L.bd k (.bool false) (fun _ => .inr (.inr (.inr rfl)))).drew
            refine held_begin (fun W => W.cell? ⟨L.g, 0, none⟩ = some (.slice (some ⟨L.bn, 0, none⟩) L.n L.cn) ∧ W.cell? ⟨L.g, 1, none⟩ = some (.slice (some ⟨L.bs, 0, none⟩) L.n L.cs) ∧ W.cell? ⟨L.bs, k, none⟩ = some (.slice au 128 cu)) (by kernel_rfl) ?_
            refine held_take 0 52 _ (.pointer (some ⟨L.g, 0, none⟩)) rfl rfl (by kernel_rfl) (by kernel_rfl) (by kernel_rfl) rfl hcd (fun _ _ => rfl) ?_
            simp only [Act.put, List.setIfInBounds_toArray, List.set_cons_succ, List.set_cons_zero]
            refine held_take 1 53 _ (.pointer (some ⟨L.g, 0, none⟩)) rfl rfl (by kernel_rfl) (by kernel_rfl) (by kernel_rfl) rfl hcd (fun _ _ => rfl) ?_
            simp only [Act.put, List.setIfInBounds_toArray, List.set_cons_succ, List.set_cons_zero]
            refine held_take 2 54 _ (.pointer (some ⟨L.g, 0, none⟩)) rfl rfl (by kernel_rfl) (by kernel_rfl) (by kernel_rfl) rfl hcd (fun _ _ => rfl) ?_
            simp only [Act.put, List.setIfInBounds_toArray, List.set_cons_succ, List.set_cons_zero]
            refine held_take 3 55 _ (.slice (some ⟨L.bn, 0, none⟩) L.n L.cn) rfl rfl (by kernel_rfl) (by kernel_rfl) (by kernel_rfl) rfl hcd (fun W hW => exec_loadc 34 _ rfl _ _ rfl (load_one 34 (fun _ => by kernel_rfl) W _ _ _ hW.1)) ?_
            simp only [Act.put, List.setIfInBounds_toArray, List.set_cons_succ, List.set_cons_zero]
            refine held_take 4 56 _ (.int .i64 (k : Int)) rfl rfl (by kernel_rfl) (by kernel_rfl) (by kernel_rfl) rfl hcd (fun _ _ => rfl) ?_
            simp only [Act.put, List.setIfInBounds_toArray, List.set_cons_succ, List.set_cons_zero]
            refine held_take 5 57 _ (v2) rfl rfl (by kernel_rfl) (by kernel_rfl) (by kernel_rfl) rfl hcd (fun _ _ => rfl) ?_
            simp only [Act.put, List.setIfInBounds_toArray, List.set_cons_succ, List.set_cons_zero]
            refine held_take 6 58 _ (.pointer (some ⟨L.g, 0, none⟩)) rfl rfl (by kernel_rfl) (by kernel_rfl) (by kernel_rfl) rfl hcd (fun _ _ => rfl) ?_
            simp only [Act.put, List.setIfInBounds_toArray, List.set_cons_succ, List.set_cons_zero]
            refine held_take 7 59 _ (.pointer (some ⟨L.g, 0, none⟩)) rfl rfl (by kernel_rfl) (by kernel_rfl) (by kernel_rfl) rfl hcd (fun _ _ => rfl) ?_
            simp only [Act.put, List.setIfInBounds_toArray, List.set_cons_succ, List.set_cons_zero]
            refine held_take 8 60 _ (.pointer (some ⟨L.g, 1, none⟩)) rfl rfl (by kernel_rfl) (by kernel_rfl) (by kernel_rfl) rfl hcd (fun _ _ => rfl) ?_
            simp only [Act.put, List.setIfInBounds_toArray, List.set_cons_succ, List.set_cons_zero]
            refine held_take 9 61 _ (.slice (some ⟨L.bs, 0, none⟩) L.n L.cs) rfl rfl (by kernel_rfl) (by kernel_rfl) (by kernel_rfl) rfl hcd (fun W hW => exec_loadc 34 _ rfl _ _ rfl (load_one 34 (fun _ => by kernel_rfl) W _ _ _ hW.2.1)) ?_
            simp only [Act.put, List.setIfInBounds_toArray, List.set_cons_succ, List.set_cons_zero]
            refine held_take 10 62 _ (.int .i64 (k : Int)) rfl rfl (by kernel_rfl) (by kernel_rfl) (by kernel_rfl) rfl hcd (fun _ _ => rfl) ?_
            simp only [Act.put, List.setIfInBounds_toArray, List.set_cons_succ, List.set_cons_zero]
            refine held_take 11 63 _ (.pointer (some ⟨L.bs, k, none⟩)) rfl rfl (by kernel_rfl) (by kernel_rfl) (by kernel_rfl) rfl hcd (fun W _ => exec_indexat _ _ _ rfl _ _ _ rfl rfl (by have := index_byteses L.bs 0 L.n L.cs k W hkn; rwa [Nat.zero_add] at this)) ?_
            simp only [Act.put, List.setIfInBounds_toArray, List.set_cons_succ, List.set_cons_zero]
            refine held_take 12 64 _ (.slice au 128 cu) rfl rfl (by kernel_rfl) (by kernel_rfl) (by kernel_rfl) rfl hcd (fun W hW => exec_loadc 33 _ rfl _ _ rfl (load_one 33 (fun _ => by kernel_rfl) W _ _ _ hW.2.2)) ?_
            simp only [Act.put, List.setIfInBounds_toArray, List.set_cons_succ, List.set_cons_zero]
            refine held_take 13 65 _ (.int .i64 0) rfl rfl (by kernel_rfl) (by kernel_rfl) (by kernel_rfl) rfl hcd (fun _ _ => rfl) ?_
            simp only [Act.put, List.setIfInBounds_toArray, List.set_cons_succ, List.set_cons_zero]
            refine held_take 14 66 _ (.slice ra (128 - 0) (cu - 0)) rfl rfl (by kernel_rfl) (by kernel_rfl) (by kernel_rfl) rfl hcd (fun W _ => exec_slicel _ _ rfl (.slice au 128 cu) (.int .i64 0) _ rfl rfl (hs2 W)) ?_
            simp only [Act.put, List.setIfInBounds_toArray, List.set_cons_succ, List.set_cons_zero]
            refine held_all1 15 (by kernel_rfl) (op_value 15 67 _ (.slice a3 128 c3) w3 rfl rfl rfl (exec_app _ _ _ _ rfl _ _ _ rfl rfl hr3) ⟨hcd3, ?_⟩)
            simp only [Act.put, List.setIfInBounds_toArray, List.set_cons_succ, List.set_cons_zero]
            refine held_all1 16 (by kernel_rfl) (op_value 16 68 _ _ w3 rfl rfl rfl (exec_indexat _ _ _ rfl _ _ _ rfl rfl hidx2) ⟨hcd3, ?_⟩)
            simp only [Act.put, List.setIfInBounds_toArray, List.set_cons_succ, List.set_cons_zero]
            refine held_all1 17 (by kernel_rfl) (op_skip 17 _ _ rfl rfl rfl (exec_stores _ _ rfl L.bn k _ _ _ _ rfl rfl dn3 fn3) ⟨hcd4, ?_⟩)
            refine wpAnyH_done (by kernel_rfl) ?_ _
            refine NoPanic.normal ?_
            have e0 := hcd4.1
            have e1 := hcd4.2.1
            have e2 := hn4.cell (j := k) (v := .slice a3 128 c3) (by rw [List.getElem?_set_self hnvl])
            have e3 := hcd4.2.2
            have f3 := hu4.frozen k
            obtain ⟨xv5, hh5, _⟩ := hD5.head
            unfold RLay.head at hh5
            have g2 := hh5.cell (j := 2) rfl
            have hdl : k < (List.map Value.bool S.dirt).length := by rw [List.length_map, hDi.ok.dirt]; exact hkn
            have gd := hD5.dirt.cell (List.getElem?_eq_getElem (show k < (List.map Value.bool _).length from hdl))
            have gf := hD5.dirt.frozen k
            clear hD4 hD5 hD6 hh5 hu4 hn4 hh4 hu3 hn3 hh3 hcd hcd3 hcd4 hsa3 hsa4 ho3 ho2 hg3 hg2
            clear hcN
            generalize w3.setCell ⟨L.bn, k, none⟩ (.slice a3 128 c3) = W4 at *
            go_wp2
            go_still_tail 12, (by kernel_rfl)
            go_wp2_with fail
            go_roundw
            case rel => exact ⟨I + 1, hlt, by go_num, by rw [HN.out 0 HSN.out]; exact hD7, hC7⟩
            case measure => simp [intOf]; omega
          | true =>
            have HSN : Hid (stayN stay torn cut I = 128) := by show _ = _; unfold stayN; rw [if_neg ht, if_pos hsb]
            clear ht hsb
            obtain ⟨⟨hseg1, hcv⟩, hseg2, hl1, hl2⟩ := HF.out 128 (by omega)
            have hs1 : ∀ w, (Instr.slice 33 (.slice av 128 cv) none (some (.int .i64 128)) none).run Tryz.prog w = .ok (.slice av 128 cv) w := slice_toD av 128 cv 128 hcv
            have hs2 : ∀ w, (Instr.slice 33 (.slice au 128 cu) (some (.int .i64 128)) none none).run Tryz.prog w = .ok (.slice (restD au cu 128) (128 - 128) (cu - 128)) w := slice_restD au 128 cu 128 (by omega)
            generalize hT1 : (S.now.getD k []).take 128 = TN at *
            generalize hT2 : (S.sure.getD k []).drop 128 = TS at *
            have HTR : Hid (tornRow S k 128 = TN ++ TS) := by show _ = _; unfold tornRow; rw [hT1, hT2]
            have hTL : (TN ++ TS).length = 128 := by have h1 := hl1; have h2 := hl2; rw [List.length_append]; omega
            generalize restD au cu 128 = ra at *
            clear hT1 hT2
            go_wp2_with (at_builtin; refine app_own _ rfl (.tmp 41) (.tmp 50) rfl wr.heap.size _ [] rfl (by exact own_emptyD _ _ _ rfl (Nat.le_refl _)) _ TN rfl (by exact hseg1.alloc _) (by simp; omega) (by simp) ?_; intro v2 w2 ho2 hg2 hv2; rw [List.nil_append] at ho2; have hB2 := below_grown ((Below.refl wr.heap.size wr).alloc (Nat.le_refl _) _) hg2 (by simp) (fun q hq => by have h2 : wr.heap.size = q := Option.some.inj hq; omega))
            have hBd : Below wr.heap.size wr w2.drew := hB2.drew
            have hhd := hh.below hBd l0
            have hcd : w2.drew.cell? ⟨L.g, 0, none⟩ = some (.slice (some ⟨L.bn, 0, none⟩) L.n L.cn) ∧ w2.drew.cell? ⟨L.g, 1, none⟩ = some (.slice (some ⟨L.bs, 0, none⟩) L.n L.cs) ∧ w2.drew.cell? ⟨L.bs, k, none⟩ = some (.slice au 128 cu) := ⟨hhd.cell (j := 0) rfl, hhd.cell (j := 1) rfl, (hu.chg (Chg.of_below (S := fun _ => False) hBd (Nat.le_refl _)) id).cell hvs⟩
            obtain ⟨v3, w3, hr3, ho3, hg3, hv3⟩ := app_bytes w2.drew wr.heap.size v2 TN ho2.drew (.slice ra (128 - 128) (cu - 128)) TS (hseg2.below hBd (Nat.le_refl _)) (by omega) hBd.size
            have hB3 : Below wr.heap.size wr w3 := below_grown hBd hg3 hBd.size (fun q hq => (ho2.blocks q hq).1)
            obtain ⟨a3, c3, hv3e⟩ := Seg.shapeD ho3.seg
            rw [hTL] at hv3e
            subst hv3e
            have hh3 := hh.below hB3 l0
            have hn3 := hn.chg (Chg.of_below (S := fun _ => False) hB3 (Nat.le_refl _)) id
            have hu3 := hu.chg (Chg.of_below (S := fun _ => False) hB3 (Nat.le_refl _)) id
            have hcd3 : w3.cell? ⟨L.g, 0, none⟩ = some (.slice (some ⟨L.bn, 0, none⟩) L.n L.cn) ∧ w3.cell? ⟨L.g, 1, none⟩ = some (.slice (some ⟨L.bs, 0, none⟩) L.n L.cs) ∧ w3.cell? ⟨L.bs, k, none⟩ = some (.slice au 128 cu) := ⟨hh3.cell (j := 0) rfl, hh3.cell (j := 1) rfl, hu3.cell hvs⟩
            have dn3 := hn3.cell hvn
            have fn3 := hn3.frozen k
            have hcN : Chg (fun q => q = L.bn) w3 (w3.setCell ⟨L.bn, k, none⟩ (.slice a3 128 c3)) := (Chg.refl _ w3).setCell L.bn k _ (fun _ => rfl)
            have hh4 := hh3.chg hcN hlay.gn
            have hu4 := hu3.chg hcN (fun e => hlay.ns e.symm)
            have hn4 := hn3.set k (.slice a3 128 c3)
            have hcd4 : (w3.setCell ⟨L.bn, k, none⟩ (.slice a3 128 c3)).cell? ⟨L.g, 0, none⟩ = some (.slice (some ⟨L.bn, 0, none⟩) L.n L.cn) ∧ (w3.setCell ⟨L.bn, k, none⟩ (.slice a3 128 c3)).cell? ⟨L.g, 1, none⟩ = some (.slice (some ⟨L.bs, 0, none⟩) L.n L.cs) ∧ (w3.setCell ⟨L.bn, k, none⟩ (.slice a3 128 c3)).cell? ⟨L.bs, k, none⟩ = some (.slice au 128 cu) := ⟨hh4.cell (j := 0) rfl, hh4.cell (j := 1) rfl, hu4.cell hvs⟩
            have hidx1 := index_byteses L.bs 0 L.n L.cs k w3 hkn
            have hidx2 := index_byteses L.bn 0 L.n L.cn k w3 hkn
            rw [Nat.zero_add] at hidx1 hidx2
            have hsa3 : SegA w3 L.U (.slice a3 128 c3) (TN ++ TS) := ho3.segA hTr
            have hD4 := (hDi.after hB3).setNow k _ _ hTL hsa3
            have hsa4 := hsa3.chg (hcN.weaken (fun _ h => .inl (.inr (.inl h))))
            have hD5 := hD4.setSure k _ _ hTL hsa4
            have hD6 := hD5.setDirt k false
            have hD7 := hD6.after ((Below.refl _ _).drew)
            rw [← HTR.out] at hD7
            have hC7 := ((((hCi.trans (S' := L.T) (Chg.of_below hB3 (Nat.le_refl _)) (fun _ _ h => h)).setCell L.bn k (.slice a3 128 c3) (fun _ => .inr (.inl rfl))).setCell L.bs k (.slice a3 128 c3) (fun _ => .inr (.inr (.inl rfl)))).setCell L.bd k (.bool false) (fun _ => .inr (.inr (.inr rfl)))).drew
            refine held_begin (fun W => W.cell? ⟨L.g, 0, none⟩ = some (.slice (some ⟨L.bn, 0, none⟩) L.n L.cn) ∧ W.cell? ⟨L.g, 1, none⟩ = some (.slice (some ⟨L.bs, 0, none⟩) L.n L.cs) ∧ W.cell? ⟨L.bs, k, none⟩ = some (.slice au 128 cu)) (by kernel_rfl) ?_
            refine held_take 0 52 _ (.pointer (some ⟨L.g, 0, none⟩)) rfl rfl (by kernel_rfl) (by kernel_rfl) (by kernel_rfl) rfl hcd (fun _ _ => rfl) ?_
            simp only [Act.put, List.setIfInBounds_toArray, List.set_cons_succ, List.set_cons_zero]
            refine held_take 1 53 _ (.pointer (some ⟨L.g, 0, none⟩)) rfl rfl (by kernel_rfl) (by kernel_rfl) (by kernel_rfl) rfl hcd (fun _ _ => rfl) ?_
            simp only [Act.put, List.setIfInBounds_toArray, List.set_cons_succ, List.set_cons_zero]
            refine held_take 2 54 _ (.pointer (some ⟨L.g, 0, none⟩)) rfl rfl (by kernel_rfl) (by kernel_rfl) (by kernel_rfl) rfl hcd (fun _ _ => rfl) ?_
            simp only [Act.put, List.setIfInBounds_toArray, List.set_cons_succ, List.set_cons_zero]
            refine held_take 3 55 _ (.slice (some ⟨L.bn, 0, none⟩) L.n L.cn) rfl rfl (by kernel_rfl) (by kernel_rfl) (by kernel_rfl) rfl hcd (fun W hW => exec_loadc 34 _ rfl _ _ rfl (load_one 34 (fun _ => by kernel_rfl) W _ _ _ hW.1)) ?_
            simp only [Act.put, List.setIfInBounds_toArray, List.set_cons_succ, List.set_cons_zero]
            refine held_take 4 56 _ (.int .i64 (k : Int)) rfl rfl (by kernel_rfl) (by kernel_rfl) (by kernel_rfl) rfl hcd (fun _ _ => rfl) ?_
            simp only [Act.put, List.setIfInBounds_toArray, List.set_cons_succ, List.set_cons_zero]
            refine held_take 5 57 _ (v2) rfl rfl (by kernel_rfl) (by kernel_rfl) (by kernel_rfl) rfl hcd (fun _ _ => rfl) ?_
            simp only [Act.put, List.setIfInBounds_toArray, List.set_cons_succ, List.set_cons_zero]
            refine held_take 6 58 _ (.pointer (some ⟨L.g, 0, none⟩)) rfl rfl (by kernel_rfl) (by kernel_rfl) (by kernel_rfl) rfl hcd (fun _ _ => rfl) ?_
            simp only [Act.put, List.setIfInBounds_toArray, List.set_cons_succ, List.set_cons_zero]
            refine held_take 7 59 _ (.pointer (some ⟨L.g, 0, none⟩)) rfl rfl (by kernel_rfl) (by kernel_rfl) (by kernel_rfl) rfl hcd (fun _ _ => rfl) ?_
            simp only [Act.put, List.setIfInBounds_toArray, List.set_cons_succ, List.set_cons_zero]
            refine held_take 8 60 _ (.pointer (some ⟨L.g, 1, none⟩)) rfl rfl (by kernel_rfl) (by kernel_rfl) (by kernel_rfl) rfl hcd (fun _ _ => rfl) ?_
            simp only [Act.put, List.setIfInBounds_toArray, List.set_cons_succ, List.set_cons_zero]
            refine held_take 9 61 _ (.slice (some ⟨L.bs, 0, none⟩) L.n L.cs) rfl rfl (by kernel_rfl) (by kernel_rfl) (by kernel_rfl) rfl hcd (fun W hW => exec_loadc 34 _ rfl _ _ rfl (load_one 34 (fun _ => by kernel_rfl) W _ _ _ hW.2.1)) ?_
            simp only [Act.put, List.setIfInBounds_toArray, List.set_cons_succ, List.set_cons_zero]
            refine held_take 10 62 _ (.int .i64 (k : Int)) rfl rfl (by kernel_rfl) (by kernel_rfl) (by kernel_rfl) rfl hcd (fun _ _ => rfl) ?_
            simp only [Act.put, List.setIfInBounds_toArray, List.set_cons_succ, List.set_cons_zero]
            refine held_take 11 63 _ (.pointer (some ⟨L.bs, k, none⟩)) rfl rfl (by kernel_rfl) (by kernel_rfl) (by kernel_rfl) rfl hcd (fun W _ => exec_indexat _ _ _ rfl _ _ _ rfl rfl (by have := index_byteses L.bs 0 L.n L.cs k W hkn; rwa [Nat.zero_add] at this)) ?_
            simp only [Act.put, List.setIfInBounds_toArray, List.set_cons_succ, List.set_cons_zero]
            refine held_take 12 64 _ (.slice au 128 cu) rfl rfl (by kernel_rfl) (by kernel_rfl) (by kernel_rfl) rfl hcd (fun W hW => exec_loadc 33 _ rfl _ _ rfl (load_one 33 (fun _ => by kernel_rfl) W _ _ _ hW.2.2)) ?_
            simp only [Act.put, List.setIfInBounds_toArray, List.set_cons_succ, List.set_cons_zero]
            refine held_take 13 65 _ (.int .i64 128) rfl rfl (by kernel_rfl) (by kernel_rfl) (by kernel_rfl) rfl hcd (fun _ _ => rfl) ?_
            simp only [Act.put, List.setIfInBounds_toArray, List.set_cons_succ, List.set_cons_zero]
            refine held_take 14 66 _ (.slice ra (128 - 128) (cu - 128)) rfl rfl (by kernel_rfl) (by kernel_rfl) (by kernel_rfl) rfl hcd (fun W _ => exec_slicel _ _ rfl (.slice au 128 cu) (.int .i64 128) _ rfl rfl (hs2 W)) ?_
            simp only [Act.put, List.setIfInBounds_toArray, List.set_cons_succ, List.set_cons_zero]
            refine held_all1 15 (by kernel_rfl) (op_value 15 67 _ (.slice a3 128 c3) w3 rfl rfl rfl (exec_app _ _ _ _ rfl _ _ _ rfl rfl hr3) ⟨hcd3, ?_⟩)
            simp only [Act.put, List.setIfInBounds_toArray, List.set_cons_succ, List.set_cons_zero]
            refine held_all1 16 (by kernel_rfl) (op_value 16 68 _ _ w3 rfl rfl rfl (exec_indexat _ _ _ rfl _ _ _ rfl rfl hidx2) ⟨hcd3, ?_⟩)
            simp only [Act.put, List.setIfInBounds_toArray, List.set_cons_succ, List.set_cons_zero]
            refine held_all1 17 (by kernel_rfl) (op_skip 17 _ _ rfl rfl rfl (exec_stores _ _ rfl L.bn k _ _ _ _ rfl rfl dn3 fn3) ⟨hcd4, ?_⟩)
            refine wpAnyH_done (by kernel_rfl) ?_ _
            refine NoPanic.normal ?_
            have e0 := hcd4.1
            have e1 := hcd4.2.1
            have e2 := hn4.cell (j := k) (v := .slice a3 128 c3) (by rw [List.getElem?_set_self hnvl])
            have e3 := hcd4.2.2
            have f3 := hu4.frozen k
            obtain ⟨xv5, hh5, _⟩ := hD5.head
            unfold RLay.head at hh5
            have g2 := hh5.cell (j := 2) rfl
            have hdl : k < (List.map Value.bool S.dirt).length := by rw [List.length_map, hDi.ok.dirt]; exact hkn
            have gd := hD5.dirt.cell (List.getElem?_eq_getElem (show k < (List.map Value.bool _).length from hdl))
            have gf := hD5.dirt.frozen k
            clear hD4 hD5 hD6 hh5 hu4 hn4 hh4 hu3 hn3 hh3 hcd hcd3 hcd4 hsa3 hsa4 ho3 ho2 hg3 hg2
            clear hcN
            generalize w3.setCell ⟨L.bn, k, none⟩ (.slice a3 128 c3) = W4 at *
            go_wp2
            go_still_tail 12, (by kernel_rfl)
            go_wp2_with fail
            go_roundw
            case rel => exact ⟨I + 1, hlt, by go_num, by rw [HN.out 128 HSN.out]; exact hD7, hC7⟩
            case measure => simp [intOf]; omega
        · have j1 : ¬ (I : Int) < (stay.length : Int) := by omega
          have HSN : Hid (stayN stay torn cut I = 0) := by show _ = _; unfold stayN; rw [if_neg ht, if_neg (by rw [List.getElem?_eq_none (by omega)]; simp)]
          clear ht 
          obtain ⟨⟨hseg1, hcv⟩, hseg2, hl1, hl2⟩ := HF.out 0 (by omega)
          have hs1 : ∀ w, (Instr.slice 33 (.slice av 128 cv) none (some (.int .i64 0)) none).run Tryz.prog w = .ok (.slice av 0 cv) w := slice_toD av 128 cv 0 hcv
          have hs2 : ∀ w, (Instr.slice 33 (.slice au 128 cu) (some (.int .i64 0)) none none).run Tryz.prog w = .ok (.slice (restD au cu 0) (128 - 0) (cu - 0)) w := slice_restD au 128 cu 0 (by omega)
          generalize hT1 : (S.now.getD k []).take 0 = TN at *
          generalize hT2 : (S.sure.getD k []).drop 0 = TS at *
          have HTR : Hid (tornRow S k 0 = TN ++ TS) := by show _ = _; unfold tornRow; rw [hT1, hT2]
          have hTL : (TN ++ TS).length = 128 := by have h1 := hl1; have h2 := hl2; rw [List.length_append]; omega
          generalize restD au cu 0 = ra at *
          clear hT1 hT2
          go_wp2_with (at_builtin; refine app_own _ rfl (.tmp 41) (.tmp 50) rfl wr.heap.size _ [] rfl (by exact own_emptyD _ _ _ rfl (Nat.le_refl _)) _ TN rfl (by exact hseg1.alloc _) (by simp; omega) (by simp) ?_; intro v2 w2 ho2 hg2 hv2; rw [List.nil_append] at ho2; have hB2 := below_grown ((Below.refl wr.heap.size wr).alloc (Nat.le_refl _) _) hg2 (by simp) (fun q hq => by have h2 : wr.heap.size = q := Option.some.inj hq; omega))
          have hBd : Below wr.heap.size wr w2.drew := hB2.drew
          have hhd := hh.below hBd l0
          have hcd : w2.drew.cell? ⟨L.g, 0, none⟩ = some (.slice (some ⟨L.bn, 0, none⟩) L.n L.cn) ∧ w2.drew.cell? ⟨L.g, 1, none⟩ = some (.slice (some ⟨L.bs, 0, none⟩) L.n L.cs) ∧ w2.drew.cell? ⟨L.bs, k, none⟩ = some (.slice au 128 cu) := ⟨hhd.cell (j := 0) rfl, hhd.cell (j := 1) rfl, (hu.chg (Chg.of_below (S := fun _ => False) hBd (Nat.le_refl _)) id).cell hvs⟩
          obtain ⟨v3, w3, hr3, ho3, hg3, hv3⟩ := app_bytes w2.drew wr.heap.size v2 TN ho2.drew (.slice ra (128 - 0) (cu - 0)) TS (hseg2.below hBd (Nat.le_refl _)) (by omega) hBd.size
          have hB3 : Below wr.heap.size wr w3 := below_grown hBd hg3 hBd.size (fun q hq => (ho2.blocks q hq).1)
          obtain ⟨a3, c3, hv3e⟩ := Seg.shapeD ho3.seg
          rw [hTL] at hv3e
          subst hv3e
          have hh3 := hh.below hB3 l0
          have hn3 := hn.chg (Chg.of_below (S := fun _ => False) hB3 (Nat.le_refl _)) id
          have hu3 := hu.chg (Chg.of_below (S := fun _ => False) hB3 (Nat.le_refl _)) id
          have hcd3 : w3.cell? ⟨L.g, 0, none⟩ = some (.slice (some ⟨L.bn, 0, none⟩) L.n L.cn) ∧ w3.cell? ⟨L.g, 1, none⟩ = some (.slice (some ⟨L.bs, 0, none⟩) L.n L.cs) ∧ w3.cell? ⟨L.bs, k, none⟩ = some (.slice au 128 cu) := ⟨hh3.cell (j := 0) rfl, hh3.cell (j := 1) rfl, hu3.cell hvs⟩
          have dn3 := hn3.cell hvn
          have fn3 := hn3.frozen k
          have hcN : Chg (fun q => q = L.bn) w3 (w3.setCell ⟨L.bn, k, none⟩ (.slice a3 128 c3)) := (Chg.refl _ w3).setCell L.bn k _ (fun _ => rfl)
          have hh4 := hh3.chg hcN hlay.gn
          have hu4 := hu3.chg hcN (fun e => hlay.ns e.symm)
          have hn4 := hn3.set k (.slice a3 128 c3)
          have hcd4 : (w3.setCell ⟨L.bn, k, none⟩ (.slice a3 128 c3)).cell? ⟨L.g, 0, none⟩ = some (.slice (some ⟨L.bn, 0, none⟩) L.n L.cn) ∧ (w3.setCell ⟨L.bn, k, none⟩ (.slice a3 128 c3)).cell? ⟨L.g, 1, none⟩ = some (.slice (some ⟨L.bs, 0, none⟩) L.n L.cs) ∧ (w3.setCell ⟨L.bn, k, none⟩ (.slice a3 128 c3)).cell? ⟨L.bs, k, none⟩ = some (.slice au 128 cu) := ⟨hh4.cell (j := 0) rfl, hh4.cell (j := 1) rfl, hu4.cell hvs⟩
          have hidx1 := index_byteses L.bs 0 L.n L.cs k w3 hkn
          have hidx2 := index_byteses L.bn 0 L.n L.cn k w3 hkn
          rw [Nat.zero_add] at hidx1 hidx2
          have hsa3 : SegA w3 L.U (.slice a3 128 c3) (TN ++ TS) := ho3.segA hTr
          have hD4 := (hDi.after hB3).setNow k _ _ hTL hsa3
          have hsa4 := hsa3.chg (hcN.weaken (fun _ h => .inl (.inr (.inl h))))
          have hD5 := hD4.setSure k _ _ hTL hsa4
          have hD6 := hD5.setDirt k false
          have hD7 := hD6.after ((Below.refl _ _).drew)
          rw [← HTR.out] at hD7
          have hC7 := ((((hCi.trans (S' := L.T) (Chg.of_below hB3 (Nat.le_refl _)) (fun _ _ h => h)).setCell L.bn k (.slice a3 128 c3) (fun _ => .inr (.inl rfl))).setCell L.bs k (.slice a3 128 c3) (fun _ => .inr (.inr (.inl rfl)))).setCell L.bd k (.bool false) (fun _ => .inr (.inr (.inr rfl)))).drew
          refine held_begin (fun W => W.cell? ⟨L.g, 0, none⟩ = some (.slice (some ⟨L.bn, 0, none⟩) L.n L.cn) ∧ W.cell? ⟨L.g, 1, none⟩ = some (.slice (some ⟨L.bs, 0, none⟩) L.n L.cs) ∧ W.cell? ⟨L.bs, k, none⟩ = some (.slice au 128 cu)) (by kernel_rfl) ?_
          refine held_take 0 52 _ (.pointer (some ⟨L.g, 0, none⟩)) rfl rfl (by kernel_rfl) (by kernel_rfl) (by kernel_rfl) rfl hcd (fun _ _ => rfl) ?_
          simp only [Act.put, List.setIfInBounds_toArray, List.set_cons_succ, List.set_cons_zero]
          refine held_take 1 53 _ (.pointer (some ⟨L.g, 0, none⟩)) rfl rfl (by kernel_rfl) (by kernel_rfl) (by kernel_rfl) rfl hcd (fun _ _ => rfl) ?_
          simp only [Act.put, List.setIfInBounds_toArray, List.set_cons_succ, List.set_cons_zero]
          refine held_take 2 54 _ (.pointer (some ⟨L.g, 0, none⟩)) rfl rfl (by kernel_rfl) (by kernel_rfl) (by kernel_rfl) rfl hcd (fun _ _ => rfl) ?_
          simp only [Act.put, List.setIfInBounds_toArray, List.set_cons_succ, List.set_cons_zero]
          refine held_take 3 55 _ (.slice (some ⟨L.bn, 0, none⟩) L.n L.cn) rfl rfl (by kernel_rfl) (by kernel_rfl) (by kernel_rfl) rfl hcd (fun W hW => exec_loadc 34 _ rfl _ _ rfl (load_one 34 (fun _ => by kernel_rfl) W _ _ _ hW.1)) ?_
          simp only [Act.put, List.setIfInBounds_toArray, List.set_cons_succ, List.set_cons_zero]
          refine held_take 4 56 _ (.int .i64 (k : Int)) rfl rfl (by kernel_rfl) (by kernel_rfl) (by kernel_rfl) rfl hcd (fun _ _ => rfl) ?_
          simp only [Act.put, List.setIfInBounds_toArray, List.set_cons_succ, List.set_cons_zero]
          refine held_take 5 57 _ (v2) rfl rfl (by kernel_rfl) (by kernel_rfl) (by kernel_rfl) rfl hcd (fun _ _ => rfl) ?_
          simp only [Act.put, List.setIfInBounds_toArray, List.set_cons_succ, List.set_cons_zero]
          refine held_take 6 58 _ (.pointer (some ⟨L.g, 0, none⟩)) rfl rfl (by kernel_rfl) (by kernel_rfl) (by kernel_rfl) rfl hcd (fun _ _ => rfl) ?_
          simp only [Act.put, List.setIfInBounds_toArray, List.set_cons_succ, List.set_cons_zero]
          refine held_take 7 59 _ (.pointer (some ⟨L.g, 0, none⟩)) rfl rfl (by kernel_rfl) (by kernel_rfl) (by kernel_rfl) rfl hcd (fun _ _ => rfl) ?_
          simp only [Act.put, List.setIfInBounds_toArray, List.set_cons_succ, List.set_cons_zero]
          refine held_take 8 60 _ (.pointer (some ⟨L.g, 1, none⟩)) rfl rfl (by kernel_rfl) (by kernel_rfl) (by kernel_rfl) rfl hcd (fun _ _ => rfl) ?_
          simp only [Act.put, List.setIfInBounds_toArray, List.set_cons_succ, List.set_cons_zero]
          refine held_take 9 61 _ (.slice (some ⟨L.bs, 0, none⟩) L.n L.cs) rfl rfl (by kernel_rfl) (by kernel_rfl) (by kernel_rfl) rfl hcd (fun W hW => exec_loadc 34 _ rfl _ _ rfl (load_one 34 (fun _ => by kernel_rfl) W _ _ _ hW.2.1)) ?_
          simp only [Act.put, List.setIfInBounds_toArray, List.set_cons_succ, List.set_cons_zero]
          refine held_take 10 62 _ (.int .i64 (k : Int)) rfl rfl (by kernel_rfl) (by kernel_rfl) (by kernel_rfl) rfl hcd (fun _ _ => rfl) ?_
          simp only [Act.put, List.setIfInBounds_toArray, List.set_cons_succ, List.set_cons_zero]
          refine held_take 11 63 _ (.pointer (some ⟨L.bs, k, none⟩)) rfl rfl (by kernel_rfl) (by kernel_rfl) (by kernel_rfl) rfl hcd (fun W _ => exec_indexat _ _ _ rfl _ _ _ rfl rfl (by have := index_byteses L.bs 0 L.n L.cs k W hkn; rwa [Nat.zero_add] at this)) ?_
          simp only [Act.put, List.setIfInBounds_toArray, List.set_cons_succ, List.set_cons_zero]
          refine held_take 12 64 _ (.slice au 128 cu) rfl rfl (by kernel_rfl) (by kernel_rfl) (by kernel_rfl) rfl hcd (fun W hW => exec_loadc 33 _ rfl _ _ rfl (load_one 33 (fun _ => by kernel_rfl) W _ _ _ hW.2.2)) ?_
          simp only [Act.put, List.setIfInBounds_toArray, List.set_cons_succ, List.set_cons_zero]
          refine held_take 13 65 _ (.int .i64 0) rfl rfl (by kernel_rfl) (by kernel_rfl) (by kernel_rfl) rfl hcd (fun _ _ => rfl) ?_
          simp only [Act.put, List.setIfInBounds_toArray, List.set_cons_succ, List.set_cons_zero]
          refine held_take 14 66 _ (.slice ra (128 - 0) (cu - 0)) rfl rfl (by kernel_rfl) (by kernel_rfl) (by kernel_rfl) rfl hcd (fun W _ => exec_slicel _ _ rfl (.slice au 128 cu) (.int .i64 0) _ rfl rfl (hs2 W)) ?_
          simp only [Act.put, List.setIfInBounds_toArray, List.set_cons_succ, List.set_cons_zero]
          refine held_all1 15 (by kernel_rfl) (op_value 15 67 _ (.slice a3 128 c3) w3 rfl rfl rfl (exec_app _ _ _ _ rfl _ _ _ rfl rfl hr3) ⟨hcd3, ?_⟩)
          simp only [Act.put, List.setIfInBounds_toArray, List.set_cons_succ, List.set_cons_zero]
          refine held_all1 16 (by kernel_rfl) (op_value 16 68 _ _ w3 rfl rfl rfl (exec_indexat _ _ _ rfl _ _ _ rfl rfl hidx2) ⟨hcd3, ?_⟩)
          simp only [Act.put, List.setIfInBounds_toArray, List.set_cons_succ, List.set_cons_zero]
          refine held_all1 17 (by kernel_rfl) (op_skip 17 _ _ rfl rfl rfl (exec_stores _ _ rfl L.bn k _ _ _ _ rfl rfl dn3 fn3) ⟨hcd4, ?_⟩)
          refine wpAnyH_done (by kernel_rfl) ?_ _
          refine NoPanic.normal ?_
          have e0 := hcd4.1
          have e1 := hcd4.2.1
          have e2 := hn4.cell (j := k) (v := .slice a3 128 c3) (by rw [List.getElem?_set_self hnvl])
          have e3 := hcd4.2.2
          have f3 := hu4.frozen k
          obtain ⟨xv5, hh5, _⟩ := hD5.head
          unfold RLay.head at hh5
          have g2 := hh5.cell (j := 2) rfl
          have hdl : k < (List.map Value.bool S.dirt).length := by rw [List.length_map, hDi.ok.dirt]; exact hkn
          have gd := hD5.dirt.cell (List.getElem?_eq_getElem (show k < (List.map Value.bool _).length from hdl))
          have gf := hD5.dirt.frozen k
          clear hD4 hD5 hD6 hh5 hu4 hn4 hh4 hu3 hn3 hh3 hcd hcd3 hcd4 hsa3 hsa4 ho3 ho2 hg3 hg2
          clear hcN
          generalize w3.setCell ⟨L.bn, k, none⟩ (.slice a3 128 c3) = W4 at *
          go_wp2
          go_still_tail 12, (by kernel_rfl)
          go_wp2_with fail
          go_roundw
          case rel => exact ⟨I + 1, hlt, by go_num, by rw [HN.out 0 HSN.out]; exact hD7, hC7⟩
          case measure => simp [intOf]; omega
    · have i1 : ¬ (I : Int) < (l.length : Int) := by omega
      have HE : Hid (crashTo (stayN stay torn cut) 0 (l.take I) s = crashTo (stayN stay torn cut) 0 (dirtyS s) s) := by
        show _ = _
        rw [HL.out, List.take_of_length_le (by omega)]
      obtain ⟨xv, hh, hxx⟩ := hDi.head
      unfold RLay.head at hh
      have z3 := hh.frozen 3
      have c3 := hh.cell (j := 3) rfl
      have hh2 := hh.set 3 (.slice none 0 0)
      have z4 := hh2.frozen 4
      have c4 := hh2.cell (j := 4) rfl
      go_wp2
      go_end0
      have hcH := ((Chg.refl (fun b => b = L.g) wr).setCell L.g 3 (.slice none 0 0) (fun _ => rfl)).setCell L.g 4 (.bool false) (fun _ => rfl)
      have hDE := hDi.chgHead hcH { crashTo (stayN stay torn cut) 0 (l.take I) s with next := [], down := false } ⟨rfl, rfl, rfl⟩ (.slice none 0 0) (((hh.set 3 _).set 4 _).of_eq rfl) ⟨.inl ⟨rfl, none, 0, rfl, fun _ => rfl⟩, fun _ q hq => by cases hq⟩
      refine ⟨rfl, ?_, ((Chg.of_below hb1 (Nat.le_refl _)).trans (S' := L.T) hCi (fun _ _ h => h)).trans (S' := L.T) (hcH.weaken (fun _ h => .inl h)) (fun _ _ h => h)⟩
      unfold crashS
      rw [← HE.out]
      exact hDE
end Go.Proofs.YtojgeahablphbaaGreat
