/-
  What is proved here: what a store writes: mayWrite and write.
  Conditions: those that each fact names.
-/
import Derived.Test.YtbegphfideopoaaGreatJStoreOps
import Derived.Test.YtbegphfideopoaaGreatJStoreChg
namespace Go.Proofs.YtbegphfideopoaaGreat
open Go.RowKit Go.Maps

theorem RowsV.below {w w' : World} {v : Value} {rs : List (List UInt8)} (h : RowsV w v rs) (hb : Below w.heap.size w w') : RowsV w' v rs := by
  obtain ⟨ao, c, h1, h2, h3⟩ := h
  refine ⟨ao, c, h1, h2, fun i r hr => ?_⟩
  obtain ⟨b, off, e, hl, u, hc, hu⟩ := h3 i r hr
  exact ⟨b, off, e, Nat.lt_of_lt_of_le hl hb.size, u, (hb.cell (p := ⟨b, off + i, none⟩) hl).trans hc, hu.below hb (Nat.le_refl _)⟩
theorem exec_quo8 {a : Act} {o : Oper} {w : World} (t : TypeId) (x y : Operand) (ho : o.op = .binOp .quo t x y t) (m n : Int) (r : Int) (hx : a.eval x = .int .i64 m) (hy : a.eval y = .int .i64 n) (hn : n ≠ 0) (h : IntKind.i64.wrap (Int.tdiv m n) = r) : (execOp a.eval o).run Tryz.prog w = .ok (.value (.int .i64 r)) w := by
  subst h
  unfold execOp
  simp [ho, hx, hy, binOp, Op.intDiv, hn]
  rfl
theorem exec_not8 {a : Act} {o : Oper} {w : World} (t : TypeId) (x : Operand) (ho : o.op = .unOp .not t x) (b r : Bool) (hx : a.eval x = .bool b) (h : (!b) = r) : (execOp a.eval o).run Tryz.prog w = .ok (.value (.bool r)) w := by
  subst h
  unfold execOp
  simp [ho, hx]
  rfl
theorem exec_two9 {a : Act} {o : Oper} {w : World} (f : FuncId) (x : Operand) (g : FuncId) (ts : Array TypeId) (ho : o.op = .call { callee := .value (.func f), args := #[x, .func g], argTypes := ts }) (u : Value) (hx : a.eval x = u) (hc : ∀ args w, (callFunc f args).run Tryz.prog w = .ok (.enter f args) w) : (execOp a.eval o).run Tryz.prog w = .ok (.enter f #[u, .func (.func g) #[] #[]]) w := by
  have he : a.eval (.func f) = .func (.func f) #[] #[] := rfl
  have hg : a.eval (.func g) = .func (.func g) #[] #[] := rfl
  unfold execOp
  simp [ho, resolve, invoke, Deferred.ofValue, he, hx, hg, hc]
set_option maxRecDepth 100000 in
set_option maxHeartbeats 1000000 in
theorem mayWrite_any {w : World} {SG G Mb : Nat} {L : PLay} {CL CV : Nat → Prop} {x : SS} (h : PParts w SG G Mb L CL CV x) {v : Value} {rs : List (List UInt8)} (hv : RowsV w v rs) (hl : ∀ r ∈ rs, r.length ≤ 1000000) (hn : rs.length ≤ 1000000) :
    Calls Tryz.prog 36 #[.pointer (some ⟨SG, 0, none⟩), v] w fun e w' => e = .returned (.bool (!longB rs && decide (reckonB rs ≤ sizeS x.s / 4))) ∧ Below w.heap.size w w' := by
  have hbd : Below w.heap.size w w.drew := (Below.refl _ _).drew
  have c0 : w.drew.cell? ⟨SG, 0, none⟩ = some (.pointer (some ⟨G, 0, none⟩)) := Blk.cell (Blk.drew h.st) (j := 0) rfl
  have cL : Hid (Calls Tryz.prog 66 #[v, .func (.func 65) #[] #[]] w.drew fun e w'' => e = .returned (.bool (longB rs)) ∧ w'' = w.drew) := hasLong_any v rs _ (hv.below hbd)
  have cR : Hid (Calls Tryz.prog 67 #[v] w.drew fun e w'' => e = .returned (.int .i64 (reckonB rs : Int)) ∧ w'' = w.drew) := reckon_any v rs _ (hv.below hbd) hl hn
  have cS : Hid (Calls Tryz.prog 44 #[.pointer (some ⟨G, 0, none⟩)] w.drew fun e w'' => e = .returned (.int .i64 (sizeS x.s : Int)) ∧ w'' = w.drew) := pb_size (h.log.after hbd)
  have hsz := h.log.size_le
  obtain ⟨R, hR⟩ : ∃ R, R = (!longB rs && decide (reckonB rs ≤ sizeS x.s / 4)) := ⟨_, rfl⟩
  rw [← hR]
  obtain ⟨ao, c, rfl, -⟩ := hv
  clear h hl
  generalize hLB : longB rs = B at *
  generalize reckonB rs = A at *
  generalize sizeS x.s = D at *
  cases B with
  | true =>
    have HR : Hid (R = false) := by show _ = _; rw [hR]; rfl
    clear hR hLB
    go_enter Tryz.func36, Tryz.ntmps36
    go_wp2_with fail
    refine held_begin (fun V => V = w.drew) (by kernel_rfl) ?_
    refine held_take 0 6 _ (.slice ao rs.length c) rfl rfl (by kernel_rfl) (by kernel_rfl) (by kernel_rfl) rfl rfl (fun _ _ => rfl) ?_
    simp only [Act.put, List.setIfInBounds_toArray, List.set_cons_succ, List.set_cons_zero]
    refine held_take 1 7 _ (.func (.func 65) #[] #[]) rfl rfl (by kernel_rfl) (by kernel_rfl) (by kernel_rfl) rfl rfl (fun _ _ => rfl) ?_
    simp only [Act.put, List.setIfInBounds_toArray, List.set_cons_succ, List.set_cons_zero]
    refine held_all1 2 (by kernel_rfl) (op_call 2 8 _ 66 #[.slice ao rs.length c, .func (.func 65) #[] #[]] rfl rfl rfl (exec_two8 66 _ _ _ rfl _ _ rfl rfl Tryz.call66) (cL.out.mono ?_))
    rintro e w1 ⟨rfl, hw1⟩
    subst hw1
    refine ⟨_, rfl, rfl, ?_⟩
    simp only [Act.put, List.setIfInBounds_toArray, List.set_cons_succ, List.set_cons_zero]
    refine held_take 3 9 _ (.bool false) rfl rfl (by kernel_rfl) (by kernel_rfl) (by kernel_rfl) rfl rfl (fun V _ => exec_not8 _ _ rfl _ _ rfl rfl) ?_
    simp only [Act.put, List.setIfInBounds_toArray, List.set_cons_succ, List.set_cons_zero]
    refine held_take 4 10 _ (.bool false) rfl rfl (by kernel_rfl) (by kernel_rfl) (by kernel_rfl) rfl rfl (fun _ _ => rfl) ?_
    simp only [Act.put, List.setIfInBounds_toArray, List.set_cons_succ, List.set_cons_zero]
    refine held_pass 5 11 _ rfl rfl (by kernel_rfl) (by kernel_rfl) (by kernel_rfl) rfl rfl ?_
    simp only [Act.put, List.setIfInBounds_toArray, List.set_cons_succ, List.set_cons_zero]
    refine held_pass 6 12 _ rfl rfl (by kernel_rfl) (by kernel_rfl) (by kernel_rfl) rfl rfl ?_
    simp only [Act.put, List.setIfInBounds_toArray, List.set_cons_succ, List.set_cons_zero]
    refine held_pass 7 13 _ rfl rfl (by kernel_rfl) (by kernel_rfl) (by kernel_rfl) rfl rfl ?_
    simp only [Act.put, List.setIfInBounds_toArray, List.set_cons_succ, List.set_cons_zero]
    refine held_pass 8 14 _ rfl rfl (by kernel_rfl) (by kernel_rfl) (by kernel_rfl) rfl rfl ?_
    simp only [Act.put, List.setIfInBounds_toArray, List.set_cons_succ, List.set_cons_zero]
    refine held_pass 9 15 _ rfl rfl (by kernel_rfl) (by kernel_rfl) (by kernel_rfl) rfl rfl ?_
    simp only [Act.put, List.setIfInBounds_toArray, List.set_cons_succ, List.set_cons_zero]
    refine held_pass 10 16 _ rfl rfl (by kernel_rfl) (by kernel_rfl) (by kernel_rfl) rfl rfl ?_
    simp only [Act.put, List.setIfInBounds_toArray, List.set_cons_succ, List.set_cons_zero]
    refine held_pass 11 17 _ rfl rfl (by kernel_rfl) (by kernel_rfl) (by kernel_rfl) rfl rfl ?_
    simp only [Act.put, List.setIfInBounds_toArray, List.set_cons_succ, List.set_cons_zero]
    refine held_pass 12 18 _ rfl rfl (by kernel_rfl) (by kernel_rfl) (by kernel_rfl) rfl rfl ?_
    simp only [Act.put, List.setIfInBounds_toArray, List.set_cons_succ, List.set_cons_zero]
    refine held_pass 13 19 _ rfl rfl (by kernel_rfl) (by kernel_rfl) (by kernel_rfl) rfl rfl ?_
    simp only [Act.put, List.setIfInBounds_toArray, List.set_cons_succ, List.set_cons_zero]
    refine held_take 14 20 _ (.bool false) rfl rfl (by kernel_rfl) (by kernel_rfl) (by kernel_rfl) rfl rfl (fun _ _ => rfl) ?_
    simp only [Act.put, List.setIfInBounds_toArray, List.set_cons_succ, List.set_cons_zero]
    refine held_all1 15 (by kernel_rfl) (op_value 15 4 _ (.bool false) _ rfl rfl rfl (rfl) ⟨rfl, ?_⟩)
    simp only [Act.put, List.setIfInBounds_toArray, List.set_cons_succ, List.set_cons_zero]
    refine wpAnyH_done (by kernel_rfl) ?_ _
    refine NoPanic.normal ?_
    go_wp2_with fail
    go_ret
    rw [HR.out]
    exact ⟨rfl, hbd⟩
  | false =>
    have j1 : decide ((A : Int) ≤ ((D / 4 : Nat) : Int)) = R := by
      rw [hR]
      show _ = decide (A ≤ D / 4)
      by_cases h1 : A ≤ D / 4
      · rw [decide_eq_true h1, decide_eq_true (by omega)]
      · rw [decide_eq_false h1, decide_eq_false (by omega)]
    have j2 : IntKind.i64.wrap (Int.tdiv (D : Int) 4) = ((D / 4 : Nat) : Int) := by
      rw [Int.tdiv_eq_ediv_of_nonneg (by omega), IntKind.wrap_i64]
      omega
    clear hR hLB
    go_enter Tryz.func36, Tryz.ntmps36
    go_wp2_with fail
    refine held_begin (fun V => V = w.drew) (by kernel_rfl) ?_
    refine held_take 0 6 _ (.slice ao rs.length c) rfl rfl (by kernel_rfl) (by kernel_rfl) (by kernel_rfl) rfl rfl (fun _ _ => rfl) ?_
    simp only [Act.put, List.setIfInBounds_toArray, List.set_cons_succ, List.set_cons_zero]
    refine held_take 1 7 _ (.func (.func 65) #[] #[]) rfl rfl (by kernel_rfl) (by kernel_rfl) (by kernel_rfl) rfl rfl (fun _ _ => rfl) ?_
    simp only [Act.put, List.setIfInBounds_toArray, List.set_cons_succ, List.set_cons_zero]
    refine held_all1 2 (by kernel_rfl) (op_call 2 8 _ 66 #[.slice ao rs.length c, .func (.func 65) #[] #[]] rfl rfl rfl (exec_two8 66 _ _ _ rfl _ _ rfl rfl Tryz.call66) (cL.out.mono ?_))
    rintro e w1 ⟨rfl, hw1⟩
    subst hw1
    refine ⟨_, rfl, rfl, ?_⟩
    simp only [Act.put, List.setIfInBounds_toArray, List.set_cons_succ, List.set_cons_zero]
    refine held_take 3 9 _ (.bool true) rfl rfl (by kernel_rfl) (by kernel_rfl) (by kernel_rfl) rfl rfl (fun V _ => exec_not8 _ _ rfl _ _ rfl rfl) ?_
    simp only [Act.put, List.setIfInBounds_toArray, List.set_cons_succ, List.set_cons_zero]
    refine held_take 4 10 _ (.bool true) rfl rfl (by kernel_rfl) (by kernel_rfl) (by kernel_rfl) rfl rfl (fun _ _ => rfl) ?_
    simp only [Act.put, List.setIfInBounds_toArray, List.set_cons_succ, List.set_cons_zero]
    refine held_take 5 11 _ (.slice ao rs.length c) rfl rfl (by kernel_rfl) (by kernel_rfl) (by kernel_rfl) rfl rfl (fun _ _ => rfl) ?_
    simp only [Act.put, List.setIfInBounds_toArray, List.set_cons_succ, List.set_cons_zero]
    refine held_take 7 13 _ (.pointer (some ⟨SG, 0, none⟩)) rfl rfl (by kernel_rfl) (by kernel_rfl) (by kernel_rfl) rfl rfl (fun _ _ => rfl) ?_
    simp only [Act.put, List.setIfInBounds_toArray, List.set_cons_succ, List.set_cons_zero]
    refine held_take 8 14 _ (.pointer (some ⟨SG, 0, none⟩)) rfl rfl (by kernel_rfl) (by kernel_rfl) (by kernel_rfl) rfl rfl (fun _ _ => rfl) ?_
    simp only [Act.put, List.setIfInBounds_toArray, List.set_cons_succ, List.set_cons_zero]
    refine held_take 9 15 _ (.pointer (some ⟨SG, 0, none⟩)) rfl rfl (by kernel_rfl) (by kernel_rfl) (by kernel_rfl) rfl rfl (fun _ _ => rfl) ?_
    simp only [Act.put, List.setIfInBounds_toArray, List.set_cons_succ, List.set_cons_zero]
    refine held_take 10 16 _ (.pointer (some ⟨G, 0, none⟩)) rfl rfl (by kernel_rfl) (by kernel_rfl) (by kernel_rfl) rfl rfl (fun V hV => exec_loadc 66 _ rfl _ _ rfl (load_one 66 (fun _ => by kernel_rfl) V _ _ _ (by rw [hV]; exact c0))) ?_
    simp only [Act.put, List.setIfInBounds_toArray, List.set_cons_succ, List.set_cons_zero]
    refine held_all1 6 (by kernel_rfl) (op_call 6 12 _ 67 #[.slice ao rs.length c] rfl rfl rfl (exec_one 67 _ _ rfl _ rfl Tryz.call67) (cR.out.mono ?_))
    rintro e w1 ⟨rfl, hw1⟩
    subst hw1
    refine ⟨_, rfl, rfl, ?_⟩
    simp only [Act.put, List.setIfInBounds_toArray, List.set_cons_succ, List.set_cons_zero]
    refine held_all1 11 (by kernel_rfl) (op_call 11 17 _ 44 #[.pointer (some ⟨G, 0, none⟩)] rfl rfl rfl (exec_one 44 _ _ rfl _ rfl Tryz.call44) (cS.out.mono ?_))
    rintro e w1 ⟨rfl, hw1⟩
    subst hw1
    refine ⟨_, rfl, rfl, ?_⟩
    simp only [Act.put, List.setIfInBounds_toArray, List.set_cons_succ, List.set_cons_zero]
    refine held_take 12 18 _ (.int .i64 ((D / 4 : Nat) : Int)) rfl rfl (by kernel_rfl) (by kernel_rfl) (by kernel_rfl) rfl rfl (fun V _ => exec_quo8 _ _ _ rfl _ _ _ rfl rfl (by decide) j2) ?_
    simp only [Act.put, List.setIfInBounds_toArray, List.set_cons_succ, List.set_cons_zero]
    refine held_take 13 19 _ (.bool R) rfl rfl (by kernel_rfl) (by kernel_rfl) (by kernel_rfl) rfl rfl (fun V _ => exec_leq7 _ _ _ rfl _ _ _ rfl rfl j1) ?_
    simp only [Act.put, List.setIfInBounds_toArray, List.set_cons_succ, List.set_cons_zero]
    refine held_take 14 20 _ (.bool R) rfl rfl (by kernel_rfl) (by kernel_rfl) (by kernel_rfl) rfl rfl (fun _ _ => rfl) ?_
    simp only [Act.put, List.setIfInBounds_toArray, List.set_cons_succ, List.set_cons_zero]
    refine held_all1 15 (by kernel_rfl) (op_value 15 4 _ (.bool R) _ rfl rfl rfl (rfl) ⟨rfl, ?_⟩)
    simp only [Act.put, List.setIfInBounds_toArray, List.set_cons_succ, List.set_cons_zero]
    refine wpAnyH_done (by kernel_rfl) ?_ _
    refine NoPanic.normal ?_
    go_wp2_with fail
    go_ret
    exact ⟨rfl, hbd⟩
theorem appends_step (s : DS) (l : LS) {rs : List (List UInt8)} {I : Nat} {r : List UInt8} (h : rs[I]? = some r) : appendsW s l (rs.drop I) = if (appendW s l r).1 ≠ 0 then appendW s l r else appendsW s (appendW s l r).2 (rs.drop (I + 1)) := by
  have hl := (List.getElem?_eq_some_iff.1 h).1
  rw [List.drop_eq_getElem_cons hl, (List.getElem?_eq_some_iff.1 h).2]
  rfl
theorem PB.frs {w w1 w2 : World} {G : Nat} {L : PLay} {C : Nat → Prop} {s : DS} {l : LS} (h : PB w2 G L (Fr (Fr C w w1) w1 w2) s l) (h1 : w.heap.size ≤ w1.heap.size) (h2 : w1.heap.size ≤ w2.heap.size) (hC : ∀ q, C q → q < w.heap.size) : PB w2 G L (Fr C w w2) s l :=
  h.mono (fr_trans h1 h2) (fr_lt hC (Nat.le_trans h1 h2))
/-- What a call that writes the log answers. -/
def Wrote (w : World) (G : Nat) (L : PLay) (CL : Nat → Prop) (r : Int × DS × LS) (e : Ending) (w' : World) : Prop := e = .returned (.int .i64 r.1) ∧ PB w' G L (Fr CL w w') r.2.1 r.2.2 ∧ Chg CL w w'
set_option maxRecDepth 100000 in
set_option maxHeartbeats 4000000 in
theorem write_any8 {w : World} {SG G Mb : Nat} {L : PLay} {CL CV : Nat → Prop} {x : SS} (h : PParts w SG G Mb L CL CV x) (hp : PairsR x.m) (hml : x.m.length ≤ 4000) (hms : sizeM x.m ≤ 1000000) {B : Nat} {v : Value} {vs : List Value} {rs : List (List UInt8)} (hG : Gat w B v vs rs) (hB : ∀ q, CL q → q < B) (hl : ∀ r ∈ rs, r.length ≤ 1000000) (hn : rs.length ≤ 1000000) :
    Calls Tryz.prog 37 #[.pointer (some ⟨SG, 0, none⟩), v] w fun e w' => Wrote w G L CL (writeA x.s x.l x.m rs) e w' := by
  have hlt := h.log.lt
  have HK : Hid (∀ W, Chg CL w W → W.cell? ⟨SG, 0, none⟩ = some (.pointer (some ⟨G, 0, none⟩)) ∧ W.cell? ⟨SG, 1, none⟩ = some (.map (some Mb))) := fun W hW => ⟨Blk.cell (Blk.chg h.st hW h.sg.1) (j := 0) rfl, Blk.cell (Blk.chg h.st hW h.sg.1) (j := 1) rfl⟩
  have HM : Hid (∀ W, Chg CL w W → MapP W CV Mb x.m) := fun W hW => h.map.chg hW h.mb.1 h.cv
  have HG : Hid (∀ W, Chg CL w W → Gat W B v vs rs) := fun W hW => hG.chg hW hB
  have HO : Hid (∀ (i : Nat) u r W, vs[i]? = some u → rs[i]? = some r → ∀ q, u.ownBlock = some q → ¬ Fr CL w W q) := fun i u r W h1 h2 q hq e => by
    have := (hG.rows i u r h1 h2).blocks q hq
    rcases e with e | e
    · have := hB q e; omega
    · omega
  have hvl := hG.len
  have hP0 := h.log
  have hRV := hG.rowsV (by unfold maxLen; omega)
  obtain ⟨ao, c, rfl⟩ := hG.sl
  have HRK : Hid (Calls Tryz.prog 67 #[.slice ao rs.length c] w.drew fun e w'' => e = .returned (.int .i64 (reckonB rs : Int)) ∧ w'' = w.drew) := reckon_any _ rs _ (hRV.below (Below.refl _ _).drew) hl hn
  have HRM : Hid (Calls Tryz.prog 68 #[.pointer (some ⟨G, 0, none⟩)] w.drew fun e w' => e = .returned (.int .i64 (roomW x.s x.l)) ∧ Below w.drew.heap.size w.drew w') := pb_room (h.log.after (Below.refl _ _).drew)
  have HLR : Hid (∀ r ∈ rs, r.length ≤ 1000000) := hl
  have hZ : (reckonB rs : Int) = (reckonB rs : Int) := rfl
  obtain ⟨T, hT⟩ : ∃ T, T = writeA x.s x.l x.m rs := ⟨_, rfl⟩
  rw [← hT]
  have HT : Hid (T = writeA x.s x.l x.m rs) := hT
  have hS0 : Chg CL w w.drew := (Chg.refl _ _).drew
  clear hT hG h hl hRV hZ
  go_enter Tryz.func37, Tryz.ntmps37
  go_wp2_with fail
  cases hb : decide (roomW x.s x.l < (reckonB rs : Int)) with
  | false =>
    have HT1 : Hid (roomsW x.s x.l x.m rs = (0, x.s, x.l)) := by show _ = _; unfold roomsW; rw [if_neg (of_decide_eq_false hb)]
    refine held_begin (fun V => Chg CL w V) (by kernel_rfl) ?_
    refine held_take 0 9 _ (.slice ao rs.length c) rfl rfl (by kernel_rfl) (by kernel_rfl) (by kernel_rfl) rfl hS0 (fun _ _ => rfl) ?_
    simp only [Act.put, List.setIfInBounds_toArray, List.set_cons_succ, List.set_cons_zero]
    refine held_take 2 11 _ (.pointer (some ⟨SG, 0, none⟩)) rfl rfl (by kernel_rfl) (by kernel_rfl) (by kernel_rfl) rfl hS0 (fun _ _ => rfl) ?_
    simp only [Act.put, List.setIfInBounds_toArray, List.set_cons_succ, List.set_cons_zero]
    refine held_take 3 12 _ (.pointer (some ⟨SG, 0, none⟩)) rfl rfl (by kernel_rfl) (by kernel_rfl) (by kernel_rfl) rfl hS0 (fun _ _ => rfl) ?_
    simp only [Act.put, List.setIfInBounds_toArray, List.set_cons_succ, List.set_cons_zero]
    refine held_take 4 13 _ (.pointer (some ⟨SG, 0, none⟩)) rfl rfl (by kernel_rfl) (by kernel_rfl) (by kernel_rfl) rfl hS0 (fun _ _ => rfl) ?_
    simp only [Act.put, List.setIfInBounds_toArray, List.set_cons_succ, List.set_cons_zero]
    refine held_take 5 14 _ (.pointer (some ⟨G, 0, none⟩)) rfl rfl (by kernel_rfl) (by kernel_rfl) (by kernel_rfl) rfl hS0 (fun V hV => exec_loadc 66 _ rfl _ _ rfl (load_one 66 (fun _ => by kernel_rfl) V _ _ _ (HK.out V hV).1)) ?_
    simp only [Act.put, List.setIfInBounds_toArray, List.set_cons_succ, List.set_cons_zero]
    refine held_all1 1 (by kernel_rfl) (op_call 1 10 _ 67 #[.slice ao rs.length c] rfl rfl rfl (exec_one 67 _ _ rfl _ rfl Tryz.call67) (HRK.out.mono ?_))
    rintro e w1 ⟨rfl, hw1⟩
    subst hw1
    refine ⟨_, rfl, hS0, ?_⟩
    simp only [Act.put, List.setIfInBounds_toArray, List.set_cons_succ, List.set_cons_zero]
    refine held_all1 6 (by kernel_rfl) (op_call 6 15 _ 68 #[.pointer (some ⟨G, 0, none⟩)] rfl rfl rfl (exec_one 68 _ _ rfl _ rfl Tryz.call68) (HRM.out.mono ?_))
    rintro e w2 ⟨rfl, hb2⟩
    have hc2' : Chg (fun _ => False) w w2 := Chg.of_below ((Below.refl w.heap.size w).drew.trans hb2) (Nat.le_refl _)
    have hc2 : Chg CL w w2 := hc2'.weaken (fun _ h => h.elim)
    refine ⟨_, rfl, hc2, ?_⟩
    simp only [Act.put, List.setIfInBounds_toArray, List.set_cons_succ, List.set_cons_zero]
    refine held_take 7 16 _ (.bool false) rfl rfl (by kernel_rfl) (by kernel_rfl) (by kernel_rfl) rfl hc2 (fun V _ => exec_gtr7 _ _ _ rfl _ _ _ rfl rfl hb) ?_
    simp only [Act.put, List.setIfInBounds_toArray, List.set_cons_succ, List.set_cons_zero]
    refine wpAnyH_done (by kernel_rfl) ?_ _
    refine NoPanic.normal ?_
    clear HRK HRM hb
    have hP2 : PB w2 G L (Fr CL w w2) x.s x.l := (hP0.chg hc2' (fun _ _ => id)).mono (fun q hq => .inl hq) (fr_lt hlt hc2.size)
    clear hP0 hc2'
    obtain ⟨s1, hs1⟩ : ∃ s, s = x.s := ⟨_, rfl⟩
    obtain ⟨l1, hl1⟩ : ∃ l, l = x.l := ⟨_, rfl⟩
    rw [← hs1, ← hl1] at hP2
    have HT1 : Hid (roomsW x.s x.l x.m rs = (0, s1, l1)) := by rw [hs1, hl1]; exact HT1.out
    clear hs1 hl1
    go_wp2_with fail
    go_loopw [32] (fun i wr => ∃ (I : Nat) (lc : LS), i = .int .i64 (I : Int) ∧ I ≤ rs.length ∧ PB wr G L (Fr CL w wr) s1 lc ∧ appendsW s1 l1 rs = appendsW s1 lc (rs.drop I) ∧ Chg CL w wr) (fun i _ => rs.length - (intOf i).toNat)
    case atStart => exact ⟨0, l1, rfl, Nat.zero_le _, hP2, rfl, hc2⟩
    case round =>
      clear hP2 hc2
      obtain ⟨I, lc, rfl, hI, hPr, hA, hcr⟩ := hrel
      obtain ⟨d0, -⟩ := HK.out wr hcr
      by_cases hltI : I < rs.length
      · have i1 : (I : Int) < (rs.length : Int) := by omega
        have hg : rs[I]? = some rs[I] := List.getElem?_eq_getElem hltI
        obtain ⟨r, hr⟩ : ∃ r, rs[I] = r := ⟨_, rfl⟩
        rw [hr] at hg
        clear hr
        have hGr := HG.out wr hcr
        have hgv : vs[I]? = some (vs[I]'(by omega)) := List.getElem?_eq_getElem (by omega)
        obtain ⟨u, hu⟩ : ∃ u, vs[I]'(by omega) = u := ⟨_, rfl⟩
        rw [hu] at hgv
        clear hu
        have hOu := hGr.rows I u r hgv hg
        have hnu := HO.out I u r wr hgv hg
        obtain ⟨b, off, e1, hbl, u', hcu, -⟩ := (hGr.rowsV (by unfold maxLen; omega)).choose_spec.choose_spec.2.2 I r hg
        have hrl := HLR.out r (List.mem_of_getElem? hg)
        have hst := appends_step s1 lc hg
        rw [hst] at hA
        obtain ⟨b2, c2, hv2, hcell⟩ : ∃ b2 c2, ao = some ⟨b2, 0, none⟩ ∧ wr.cell? ⟨b2, I, none⟩ = some u := by
          rcases hGr.own.2 with ⟨_, h0⟩ | ⟨g2, cap2, cur2, e2, hbase2, hb2, q1, q2, q3, q4⟩
          · omega
          · cases e2
            refine ⟨g2, 0, rfl, ?_⟩
            rw [hGr.own.cellAt I (by omega)]
            exact hgv
        subst hv2
        obtain ⟨ua, uc, rfl⟩ := hOu.seg.shapeD
        have HAP : Hid (Calls Tryz.prog 69 #[.pointer (some ⟨G, 0, none⟩), .slice ua r.length uc] wr fun e w' => e = .returned (.int .i64 (appendW s1 lc r).1) ∧ PB w' G L (Fr (Fr CL w wr) wr w') s1 (appendW s1 lc r).2 ∧ Chg (Fr CL w wr) wr w') := pb_append hPr _ r hOu.seg hrl (fun _ q hq => hnu q hq)
        have hix := index_rows b2 0 rs.length c (I : Int) I rfl hltI
        rw [Nat.zero_add] at hix
        have HA : Hid (appendsW s1 l1 rs = if (appendW s1 lc r).1 ≠ 0 then appendW s1 lc r else appendsW s1 (appendW s1 lc r).2 (rs.drop (I + 1))) := hA
        obtain ⟨R2, hR2⟩ : ∃ R, R = appendW s1 lc r := ⟨_, rfl⟩
        rw [← hR2] at HAP HA
        clear hR2 hA hst hgv hg hGr hPr hOu hnu e1 hbl hcu
        obtain ⟨e2, l2⟩ := R2
        go_wp2_with fail
        refine HAP.out.mono ?_
        rintro e w5 ⟨rfl, hP5, hc5⟩
        have hc5' := hcr.fr hc5
        have hP5' : PB w5 G L (Fr CL w w5) s1 l2 := hP5.frs hcr.size hc5.size hlt
        clear hP5 HAP
        by_cases he2 : e2 = 0
        · subst he2
          have HA2 : Hid (appendsW s1 l1 rs = appendsW s1 l2 (rs.drop (I + 1))) := by
            show _ = _
            rw [HA.out]
            exact if_neg (fun h => h rfl)
          clear HA
          go_wp2_with fail
          go_roundw
          case rel => exact ⟨I + 1, l2, by go_num, hltI, hP5', HA2.out, hc5'⟩
          case measure => simp [intOf]; omega
        · have he2' : (e2 == 0) = false := by simpa using he2
          have HT2 : Hid (T = (e2, s1, l2)) := by
            show _ = _
            rw [HT.out]
            unfold writeA
            rw [HT1.out]
            show (if (0 : Int) ≠ 0 then _ else if (appendsW s1 l1 rs).1 ≠ 0 then ((appendsW s1 l1 rs).1, s1, (appendsW s1 l1 rs).2) else _) = _
            rw [HA.out, if_neg (fun h => h rfl)]
            show (if (if e2 ≠ 0 then (e2, l2) else _).1 ≠ 0 then ((if e2 ≠ 0 then (e2, l2) else _).1, s1, (if e2 ≠ 0 then (e2, l2) else _).2) else _) = _
            rw [if_pos he2]
            exact if_pos he2
          clear he2 HT HA
          go_wp2_with fail
          go_ret
          show Wrote w G L CL T _ w5
          rw [HT2.out]
          exact ⟨rfl, hP5', hc5'⟩
      · have i1 : ¬ (I : Int) < (rs.length : Int) := by omega
        obtain rfl : I = rs.length := by omega
        have hA0 : appendsW s1 l1 rs = (0, lc) := by
          rw [hA, List.drop_length]
          rfl
        have HT2 : Hid (T = commitW s1 lc) := by
          show _ = _
          rw [HT.out]
          unfold writeA
          rw [HT1.out]
          show (if (0 : Int) ≠ 0 then _ else if (appendsW s1 l1 rs).1 ≠ 0 then ((appendsW s1 l1 rs).1, s1, (appendsW s1 l1 rs).2) else commitW s1 (appendsW s1 l1 rs).2) = _
          rw [hA0, if_neg (fun h => h rfl)]
          exact if_neg (fun h => h rfl)
        have HCM : Hid (Calls Tryz.prog 70 #[.pointer (some ⟨G, 0, none⟩)] wr fun e w' => e = .returned (.int .i64 (commitW s1 lc).1) ∧ PB w' G L (Fr (Fr CL w wr) wr w') (commitW s1 lc).2.1 (commitW s1 lc).2.2 ∧ Chg (Fr CL w wr) wr w') := pb_commit hPr
        rw [← HT2.out] at HCM
        clear hA hA0 hPr
        go_wp2_with fail
        refine HCM.out.mono ?_
        rintro e w5 ⟨rfl, hP5, hc5⟩
        have hc5' := hcr.fr hc5
        have hP5' := hP5.frs hcr.size hc5.size hlt
        go_wp2_with fail
        go_ret
        show Wrote w G L CL T _ w5
        exact ⟨rfl, hP5', hc5'⟩
  | true =>
    have HT0 : Hid (roomsW x.s x.l x.m rs = checkW x.s x.l (stateM x.m)) := by show _ = _; unfold roomsW; rw [if_pos (of_decide_eq_true hb)]
    refine held_begin (fun V => Chg CL w V) (by kernel_rfl) ?_
    refine held_take 0 9 _ (.slice ao rs.length c) rfl rfl (by kernel_rfl) (by kernel_rfl) (by kernel_rfl) rfl hS0 (fun _ _ => rfl) ?_
    simp only [Act.put, List.setIfInBounds_toArray, List.set_cons_succ, List.set_cons_zero]
    refine held_take 2 11 _ (.pointer (some ⟨SG, 0, none⟩)) rfl rfl (by kernel_rfl) (by kernel_rfl) (by kernel_rfl) rfl hS0 (fun _ _ => rfl) ?_
    simp only [Act.put, List.setIfInBounds_toArray, List.set_cons_succ, List.set_cons_zero]
    refine held_take 3 12 _ (.pointer (some ⟨SG, 0, none⟩)) rfl rfl (by kernel_rfl) (by kernel_rfl) (by kernel_rfl) rfl hS0 (fun _ _ => rfl) ?_
    simp only [Act.put, List.setIfInBounds_toArray, List.set_cons_succ, List.set_cons_zero]
    refine held_take 4 13 _ (.pointer (some ⟨SG, 0, none⟩)) rfl rfl (by kernel_rfl) (by kernel_rfl) (by kernel_rfl) rfl hS0 (fun _ _ => rfl) ?_
    simp only [Act.put, List.setIfInBounds_toArray, List.set_cons_succ, List.set_cons_zero]
    refine held_take 5 14 _ (.pointer (some ⟨G, 0, none⟩)) rfl rfl (by kernel_rfl) (by kernel_rfl) (by kernel_rfl) rfl hS0 (fun V hV => exec_loadc 66 _ rfl _ _ rfl (load_one 66 (fun _ => by kernel_rfl) V _ _ _ (HK.out V hV).1)) ?_
    simp only [Act.put, List.setIfInBounds_toArray, List.set_cons_succ, List.set_cons_zero]
    refine held_all1 1 (by kernel_rfl) (op_call 1 10 _ 67 #[.slice ao rs.length c] rfl rfl rfl (exec_one 67 _ _ rfl _ rfl Tryz.call67) (HRK.out.mono ?_))
    rintro e w1 ⟨rfl, hw1⟩
    subst hw1
    refine ⟨_, rfl, hS0, ?_⟩
    simp only [Act.put, List.setIfInBounds_toArray, List.set_cons_succ, List.set_cons_zero]
    refine held_all1 6 (by kernel_rfl) (op_call 6 15 _ 68 #[.pointer (some ⟨G, 0, none⟩)] rfl rfl rfl (exec_one 68 _ _ rfl _ rfl Tryz.call68) (HRM.out.mono ?_))
    rintro e w2 ⟨rfl, hb2⟩
    have hc2' : Chg (fun _ => False) w w2 := Chg.of_below ((Below.refl w.heap.size w).drew.trans hb2) (Nat.le_refl _)
    have hc2 : Chg CL w w2 := hc2'.weaken (fun _ h => h.elim)
    refine ⟨_, rfl, hc2, ?_⟩
    simp only [Act.put, List.setIfInBounds_toArray, List.set_cons_succ, List.set_cons_zero]
    refine held_take 7 16 _ (.bool true) rfl rfl (by kernel_rfl) (by kernel_rfl) (by kernel_rfl) rfl hc2 (fun V _ => exec_gtr7 _ _ _ rfl _ _ _ rfl rfl hb) ?_
    simp only [Act.put, List.setIfInBounds_toArray, List.set_cons_succ, List.set_cons_zero]
    refine wpAnyH_done (by kernel_rfl) ?_ _
    refine NoPanic.normal ?_
    clear HRK HRM hb
    go_wp2_with fail
    have hbd2 : Chg CL w w2.drew := hc2.drew
    have HEN : Hid (Calls Tryz.prog 30 #[.map (some Mb)] w2.drew fun e w' => ∃ v, e = .returned v ∧ Own w' w2.drew.heap.size v (stateM x.m) ∧ Below w2.drew.heap.size w2.drew w') := encode_any8 Mb CV x.m w2.drew (HM.out _ hbd2) hp (by omega)
    have hP2 : PB w2.drew G L CL x.s x.l := hP0.chg (hc2'.drew) (fun _ _ => id)
    have hst : (stateM x.m).length ≤ 1000000 := by rw [stateM_len]; exact hms
    refine held_begin (fun V => Chg CL w V) (by kernel_rfl) ?_
    refine held_take 0 17 _ (.pointer (some ⟨SG, 0, none⟩)) rfl rfl (by kernel_rfl) (by kernel_rfl) (by kernel_rfl) rfl hbd2 (fun _ _ => rfl) ?_
    simp only [Act.put, List.setIfInBounds_toArray, List.set_cons_succ, List.set_cons_zero]
    refine held_take 1 18 _ (.pointer (some ⟨SG, 0, none⟩)) rfl rfl (by kernel_rfl) (by kernel_rfl) (by kernel_rfl) rfl hbd2 (fun _ _ => rfl) ?_
    simp only [Act.put, List.setIfInBounds_toArray, List.set_cons_succ, List.set_cons_zero]
    refine held_take 2 19 _ (.pointer (some ⟨SG, 0, none⟩)) rfl rfl (by kernel_rfl) (by kernel_rfl) (by kernel_rfl) rfl hbd2 (fun _ _ => rfl) ?_
    simp only [Act.put, List.setIfInBounds_toArray, List.set_cons_succ, List.set_cons_zero]
    refine held_take 3 20 _ (.pointer (some ⟨G, 0, none⟩)) rfl rfl (by kernel_rfl) (by kernel_rfl) (by kernel_rfl) rfl hbd2 (fun V hV => exec_loadc 66 _ rfl _ _ rfl (load_one 66 (fun _ => by kernel_rfl) V _ _ _ (HK.out V hV).1)) ?_
    simp only [Act.put, List.setIfInBounds_toArray, List.set_cons_succ, List.set_cons_zero]
    refine held_take 4 21 _ (.pointer (some ⟨SG, 0, none⟩)) rfl rfl (by kernel_rfl) (by kernel_rfl) (by kernel_rfl) rfl hbd2 (fun _ _ => rfl) ?_
    simp only [Act.put, List.setIfInBounds_toArray, List.set_cons_succ, List.set_cons_zero]
    refine held_take 5 22 _ (.pointer (some ⟨SG, 0, none⟩)) rfl rfl (by kernel_rfl) (by kernel_rfl) (by kernel_rfl) rfl hbd2 (fun _ _ => rfl) ?_
    simp only [Act.put, List.setIfInBounds_toArray, List.set_cons_succ, List.set_cons_zero]
    refine held_take 6 23 _ (.pointer (some ⟨SG, 1, none⟩)) rfl rfl (by kernel_rfl) (by kernel_rfl) (by kernel_rfl) rfl hbd2 (fun _ _ => rfl) ?_
    simp only [Act.put, List.setIfInBounds_toArray, List.set_cons_succ, List.set_cons_zero]
    refine held_take 7 24 _ (.map (some Mb)) rfl rfl (by kernel_rfl) (by kernel_rfl) (by kernel_rfl) rfl hbd2 (fun V hV => exec_loadc 71 _ rfl _ _ rfl (load_one 71 (fun _ => by kernel_rfl) V _ _ _ (HK.out V hV).2)) ?_
    simp only [Act.put, List.setIfInBounds_toArray, List.set_cons_succ, List.set_cons_zero]
    refine held_all1 8 (by kernel_rfl) (op_call 8 25 _ 30 #[.map (some Mb)] rfl rfl rfl (exec_one 30 _ _ rfl _ rfl Tryz.call30) (HEN.out.mono ?_))
    rintro e w3 ⟨sv, rfl, hO3, hb3⟩
    have hc3 : Chg CL w w3 := hbd2.trans (Chg.of_below (S := fun _ => False) hb3 (Nat.le_refl _)) (fun _ _ h => h.elim)
    have hP3 := hP2.after hb3
    refine ⟨_, rfl, hc3, ?_⟩
    simp only [Act.put, List.setIfInBounds_toArray, List.set_cons_succ, List.set_cons_zero]
    refine held_all1 9 (by kernel_rfl) (op_call 9 26 _ 29 #[.pointer (some ⟨G, 0, none⟩), sv] rfl rfl rfl (exec_two8 29 _ _ _ rfl _ _ rfl rfl Tryz.call29) ((pb_check hP3 sv (stateM x.m) hO3.seg hst).mono ?_))
    rintro e w4 ⟨rfl, hP4, hc4'⟩
    have hc4 : Chg CL w w4 := hc3.trans hc4' (fun _ _ h => h)
    have hP4 : PB w4 G L (Fr CL w w4) (checkW x.s x.l (stateM x.m)).2.1 (checkW x.s x.l (stateM x.m)).2.2 := hP4.mono (fun q hq => hq.imp id (fun h => ⟨Nat.le_trans hc3.size h.1, h.2⟩)) (fr_lt hlt hc4.size)
    refine ⟨_, rfl, hc4, ?_⟩
    simp only [Act.put, List.setIfInBounds_toArray, List.set_cons_succ, List.set_cons_zero]
    refine held_all1 10 (by kernel_rfl) (op_value 10 5 _ (.int .i64 (checkW x.s x.l (stateM x.m)).1) _ rfl rfl rfl (rfl) ⟨hc4, ?_⟩)
    simp only [Act.put, List.setIfInBounds_toArray, List.set_cons_succ, List.set_cons_zero]
    refine wpAnyH_done (by kernel_rfl) ?_ _
    refine NoPanic.normal ?_
    obtain ⟨R1, hR1⟩ : ∃ R, R = checkW x.s x.l (stateM x.m) := ⟨_, rfl⟩
    rw [← hR1] at HT0 hP4 ⊢
    clear hR1 HEN hP2 hP0 hbd2 hc2 hc2'
    obtain ⟨e1, s1, l1⟩ := R1
    by_cases he : e1 = 0
    · subst he
      have HT1 : Hid (roomsW x.s x.l x.m rs = (0, s1, l1)) := HT0.out
      obtain ⟨w2, rfl⟩ : ∃ W, W = w4 := ⟨_, rfl⟩
      have hc2 := hc4
      have hP2 : PB w2 G L (Fr CL w w2) s1 l1 := hP4
      clear HT0 hP4 hc4
      go_wp2_with fail
      go_loopw [32] (fun i wr => ∃ (I : Nat) (lc : LS), i = .int .i64 (I : Int) ∧ I ≤ rs.length ∧ PB wr G L (Fr CL w wr) s1 lc ∧ appendsW s1 l1 rs = appendsW s1 lc (rs.drop I) ∧ Chg CL w wr) (fun i _ => rs.length - (intOf i).toNat)
      case atStart => exact ⟨0, l1, rfl, Nat.zero_le _, hP2, rfl, hc2⟩
      case round =>
        clear hP2 hc2
        obtain ⟨I, lc, rfl, hI, hPr, hA, hcr⟩ := hrel
        obtain ⟨d0, -⟩ := HK.out wr hcr
        by_cases hltI : I < rs.length
        · have i1 : (I : Int) < (rs.length : Int) := by omega
          have hg : rs[I]? = some rs[I] := List.getElem?_eq_getElem hltI
          obtain ⟨r, hr⟩ : ∃ r, rs[I] = r := ⟨_, rfl⟩
          rw [hr] at hg
          clear hr
          have hGr := HG.out wr hcr
          have hgv : vs[I]? = some (vs[I]'(by omega)) := List.getElem?_eq_getElem (by omega)
          obtain ⟨u, hu⟩ : ∃ u, vs[I]'(by omega) = u := ⟨_, rfl⟩
          rw [hu] at hgv
          clear hu
          have hOu := hGr.rows I u r hgv hg
          have hnu := HO.out I u r wr hgv hg
          obtain ⟨b, off, e1, hbl, u', hcu, -⟩ := (hGr.rowsV (by unfold maxLen; omega)).choose_spec.choose_spec.2.2 I r hg
          have hrl := HLR.out r (List.mem_of_getElem? hg)
          have hst := appends_step s1 lc hg
          rw [hst] at hA
          obtain ⟨b2, c2, hv2, hcell⟩ : ∃ b2 c2, ao = some ⟨b2, 0, none⟩ ∧ wr.cell? ⟨b2, I, none⟩ = some u := by
            rcases hGr.own.2 with ⟨_, h0⟩ | ⟨g2, cap2, cur2, e2, hbase2, hb2, q1, q2, q3, q4⟩
            · omega
            · cases e2
              refine ⟨g2, 0, rfl, ?_⟩
              rw [hGr.own.cellAt I (by omega)]
              exact hgv
          subst hv2
          obtain ⟨ua, uc, rfl⟩ := hOu.seg.shapeD
          have HAP : Hid (Calls Tryz.prog 69 #[.pointer (some ⟨G, 0, none⟩), .slice ua r.length uc] wr fun e w' => e = .returned (.int .i64 (appendW s1 lc r).1) ∧ PB w' G L (Fr (Fr CL w wr) wr w') s1 (appendW s1 lc r).2 ∧ Chg (Fr CL w wr) wr w') := pb_append hPr _ r hOu.seg hrl (fun _ q hq => hnu q hq)
          have hix := index_rows b2 0 rs.length c (I : Int) I rfl hltI
          rw [Nat.zero_add] at hix
          have HA : Hid (appendsW s1 l1 rs = if (appendW s1 lc r).1 ≠ 0 then appendW s1 lc r else appendsW s1 (appendW s1 lc r).2 (rs.drop (I + 1))) := hA
          obtain ⟨R2, hR2⟩ : ∃ R, R = appendW s1 lc r := ⟨_, rfl⟩
          rw [← hR2] at HAP HA
          clear hR2 hA hst hgv hg hGr hPr hOu hnu e1 hbl hcu
          obtain ⟨e2, l2⟩ := R2
          go_wp2_with fail
          refine HAP.out.mono ?_
          rintro e w5 ⟨rfl, hP5, hc5⟩
          have hc5' := hcr.fr hc5
          have hP5' : PB w5 G L (Fr CL w w5) s1 l2 := hP5.frs hcr.size hc5.size hlt
          clear hP5 HAP
          by_cases he2 : e2 = 0
          · subst he2
            have HA2 : Hid (appendsW s1 l1 rs = appendsW s1 l2 (rs.drop (I + 1))) := by
              show _ = _
              rw [HA.out]
              exact if_neg (fun h => h rfl)
            clear HA
            go_wp2_with fail
            go_roundw
            case rel => exact ⟨I + 1, l2, by go_num, hltI, hP5', HA2.out, hc5'⟩
            case measure => simp [intOf]; omega
          · have he2' : (e2 == 0) = false := by simpa using he2
            have HT2 : Hid (T = (e2, s1, l2)) := by
              show _ = _
              rw [HT.out]
              unfold writeA
              rw [HT1.out]
              show (if (0 : Int) ≠ 0 then _ else if (appendsW s1 l1 rs).1 ≠ 0 then ((appendsW s1 l1 rs).1, s1, (appendsW s1 l1 rs).2) else _) = _
              rw [HA.out, if_neg (fun h => h rfl)]
              show (if (if e2 ≠ 0 then (e2, l2) else _).1 ≠ 0 then ((if e2 ≠ 0 then (e2, l2) else _).1, s1, (if e2 ≠ 0 then (e2, l2) else _).2) else _) = _
              rw [if_pos he2]
              exact if_pos he2
            clear he2 HT HA
            go_wp2_with fail
            go_ret
            show Wrote w G L CL T _ w5
            rw [HT2.out]
            exact ⟨rfl, hP5', hc5'⟩
        · have i1 : ¬ (I : Int) < (rs.length : Int) := by omega
          obtain rfl : I = rs.length := by omega
          have hA0 : appendsW s1 l1 rs = (0, lc) := by
            rw [hA, List.drop_length]
            rfl
          have HT2 : Hid (T = commitW s1 lc) := by
            show _ = _
            rw [HT.out]
            unfold writeA
            rw [HT1.out]
            show (if (0 : Int) ≠ 0 then _ else if (appendsW s1 l1 rs).1 ≠ 0 then ((appendsW s1 l1 rs).1, s1, (appendsW s1 l1 rs).2) else commitW s1 (appendsW s1 l1 rs).2) = _
            rw [hA0, if_neg (fun h => h rfl)]
            exact if_neg (fun h => h rfl)
          have HCM : Hid (Calls Tryz.prog 70 #[.pointer (some ⟨G, 0, none⟩)] wr fun e w' => e = .returned (.int .i64 (commitW s1 lc).1) ∧ PB w' G L (Fr (Fr CL w wr) wr w') (commitW s1 lc).2.1 (commitW s1 lc).2.2 ∧ Chg (Fr CL w wr) wr w') := pb_commit hPr
          rw [← HT2.out] at HCM
          clear hA hA0 hPr
          go_wp2_with fail
          refine HCM.out.mono ?_
          rintro e w5 ⟨rfl, hP5, hc5⟩
          have hc5' := hcr.fr hc5
          have hP5' := hP5.frs hcr.size hc5.size hlt
          go_wp2_with fail
          go_ret
          show Wrote w G L CL T _ w5
          exact ⟨rfl, hP5', hc5'⟩
    · have he' : (e1 == 0) = false := by simpa using he
      have HT2 : Hid (T = (e1, s1, l1)) := by
        show _ = _
        rw [HT.out]
        unfold writeA
        rw [HT0.out, if_pos he]
      clear he HT HT0
      go_wp2_with fail
      go_ret
      show Wrote w G L CL T _ w4
      rw [HT2.out]
      exact ⟨rfl, hP4, hc4⟩
end Go.Proofs.YtbegphfideopoaaGreat
