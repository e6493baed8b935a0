/-
  What is proved here: what a store tells of a key.
  Conditions: the store lies in memory.
-/
import Derived.Test.YtbegphfideopoaaGreatJStoreOpen
namespace Go.Proofs.YtbegphfideopoaaGreat
open Go.RowKit Go.Maps

theorem exec_look {a : Act} {o : Oper} {w : World} (m x : Operand) (ok : Bool) (ho : o.op = .lookup 71 m x ok) (vm vx r : Value) (hm : a.eval m = vm) (hx : a.eval x = vx) (hr : (Instr.lookup 71 vm vx ok).run Tryz.prog w = .ok r w) : (execOp a.eval o).run Tryz.prog w = .ok (.value r) w := by
  unfold execOp
  simp [ho, hm, hx, hr]
/-- What is told of a key. -/
def Told8 (w : World) (r : Option (List UInt8)) (e : Ending) (w' : World) : Prop := ∃ v, e = .returned (.tuple #[v, .bool r.isSome]) ∧ Own w' w.heap.size v (r.getD []) ∧ Below w.heap.size w w'
set_option maxRecDepth 100000 in
set_option maxHeartbeats 1000000 in
theorem get_any8 {w : World} {SG : Nat} {L : PLay} {C : Nat → Prop} {x : SS} (h : PSt w SG L C x) (kv : Value) (k : List UInt8) (hk : Seg w kv k) (hkl : k.length ≤ maxLen) :
    Calls Tryz.prog 26 #[.pointer (some ⟨SG, 0, none⟩), kv] w fun e w' => Told8 w (lookM x.m k) e w' := by
  obtain ⟨G, Mb, CL, CV, hP, -⟩ := h.body
  have hpr := h.pairs
  have hbd : Below w.heap.size w w.drew := (Below.refl _ _).drew
  have c1 : w.drew.cell? ⟨SG, 1, none⟩ = some (.map (some Mb)) := Blk.cell (Blk.drew hP.st) (j := 1) rfl
  obtain ⟨v, hr, hv⟩ := (hP.map.after hbd).look k hkl true
  rw [if_pos rfl] at hr
  have k1 := seg_stringD (hk.below hbd (Nat.le_refl _)) 9 Tryz.underlying9
  obtain ⟨ka, kc, rfl⟩ := hk.shapeD
  have hvl : ((lookM x.m k).getD []).length ≤ 1000000000 := by
    cases hl : lookM x.m k with
    | none => exact Nat.zero_le _
    | some b => have := (hpr _ (look_mem hl)).2.2; show b.length ≤ _; simp at this; omega
  obtain ⟨va, vc, rfl⟩ := hv.1.shapeD
  have HCL := bclone_any _ _ w.drew hvl hv.1
  obtain ⟨r, hrr⟩ : ∃ r, r = lookM x.m k := ⟨_, rfl⟩
  rw [← hrr] at hr hv HCL hvl ⊢
  clear hrr hk hP h hpr hvl
  go_enter Tryz.func26, Tryz.ntmps26
  go_wp2_with fail
  refine held_begin (fun V => V = w.drew) (by kernel_rfl) ?_
  refine held_take 0 9 _ (.pointer (some ⟨SG, 0, none⟩)) rfl rfl (by kernel_rfl) (by kernel_rfl) (by kernel_rfl) rfl rfl (fun _ _ => rfl) ?_
  simp only [Act.put, List.setIfInBounds_toArray, List.set_cons_succ, List.set_cons_zero]
  refine held_take 1 10 _ (.pointer (some ⟨SG, 0, none⟩)) rfl rfl (by kernel_rfl) (by kernel_rfl) (by kernel_rfl) rfl rfl (fun _ _ => rfl) ?_
  simp only [Act.put, List.setIfInBounds_toArray, List.set_cons_succ, List.set_cons_zero]
  refine held_take 2 11 _ (.pointer (some ⟨SG, 1, none⟩)) rfl rfl (by kernel_rfl) (by kernel_rfl) (by kernel_rfl) rfl rfl (fun _ _ => rfl) ?_
  simp only [Act.put, List.setIfInBounds_toArray, List.set_cons_succ, List.set_cons_zero]
  refine held_take 3 12 _ (.map (some Mb)) rfl rfl (by kernel_rfl) (by kernel_rfl) (by kernel_rfl) rfl rfl (fun V hV => exec_loadc 71 _ rfl _ _ rfl (load_one 71 (fun _ => by kernel_rfl) V _ _ _ (by rw [hV]; exact c1))) ?_
  simp only [Act.put, List.setIfInBounds_toArray, List.set_cons_succ, List.set_cons_zero]
  refine held_take 4 13 _ (.slice ka k.length kc) rfl rfl (by kernel_rfl) (by kernel_rfl) (by kernel_rfl) rfl rfl (fun _ _ => rfl) ?_
  simp only [Act.put, List.setIfInBounds_toArray, List.set_cons_succ, List.set_cons_zero]
  refine held_take 5 14 _ (.string ⟨k.toArray⟩) rfl rfl (by kernel_rfl) (by kernel_rfl) (by kernel_rfl) rfl rfl (fun V hV => exec_conv _ _ _ rfl _ _ rfl (by rw [hV]; exact k1)) ?_
  simp only [Act.put, List.setIfInBounds_toArray, List.set_cons_succ, List.set_cons_zero]
  refine held_take 6 15 _ (.tuple #[.slice va (r.getD []).length vc, .bool r.isSome]) rfl rfl (by kernel_rfl) (by kernel_rfl) (by kernel_rfl) rfl rfl (fun V hV => exec_look _ _ _ rfl _ _ _ rfl rfl (by rw [hV]; exact hr)) ?_
  simp only [Act.put, List.setIfInBounds_toArray, List.set_cons_succ, List.set_cons_zero]
  refine held_take 7 8 _ (.tuple #[.slice va (r.getD []).length vc, .bool r.isSome]) rfl rfl (by kernel_rfl) (by kernel_rfl) (by kernel_rfl) rfl rfl (fun _ _ => rfl) ?_
  simp only [Act.put, List.setIfInBounds_toArray, List.set_cons_succ, List.set_cons_zero]
  refine held_take 8 16 _ (.slice va (r.getD []).length vc) rfl rfl (by kernel_rfl) (by kernel_rfl) (by kernel_rfl) rfl rfl (fun _ _ => rfl) ?_
  simp only [Act.put, List.setIfInBounds_toArray, List.set_cons_succ, List.set_cons_zero]
  refine held_take 9 17 _ (.bool r.isSome) rfl rfl (by kernel_rfl) (by kernel_rfl) (by kernel_rfl) rfl rfl (fun _ _ => rfl) ?_
  simp only [Act.put, List.setIfInBounds_toArray, List.set_cons_succ, List.set_cons_zero]
  refine held_all1 10 (by kernel_rfl) (op_value 10 6 _ (.slice va (r.getD []).length vc) _ rfl rfl rfl (rfl) ⟨rfl, ?_⟩)
  simp only [Act.put, List.setIfInBounds_toArray, List.set_cons_succ, List.set_cons_zero]
  refine held_all1 11 (by kernel_rfl) (op_value 11 7 _ (.bool r.isSome) _ rfl rfl rfl (rfl) ⟨rfl, ?_⟩)
  simp only [Act.put, List.setIfInBounds_toArray, List.set_cons_succ, List.set_cons_zero]
  refine wpAnyH_done (by kernel_rfl) ?_ _
  refine NoPanic.normal ?_
  clear hr k1 c1
  obtain ⟨w1, hw1⟩ : ∃ W, W = w.drew := ⟨_, rfl⟩
  rw [← hw1] at HCL hbd hv ⊢
  clear hw1
  go_wp2_with fail
  refine HCL.mono ?_
  rintro e w2 ⟨v2, rfl, hO2, hb2⟩
  have HF : Hid (Told8 w r (.returned (.tuple #[v2, .bool r.isSome])) w2) := ⟨v2, rfl, hO2.mono hbd.size, blift hbd hb2 hbd.size⟩
  clear HCL hv
  go_wp2_with fail
  (try simp only [Exit.inBlock, Exit.then])
  refine bodyPost_ret (results2 rfl _ _ _) rfl ?_
  exact HF.out
end Go.Proofs.YtbegphfideopoaaGreat
