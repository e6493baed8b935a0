/-
  What is proved here: manifest.Encode answers the bytes of a manifest, or that it is none.
  Conditions: those that the fact names.
-/
import Derived.Test.YtmkhdfapoaohfaaJManVals
import Derived.Test.YtmkhdfapoaohfaaJPackMost
namespace Go.Proofs.Ytmkhdfapoaohfaa
open Go.RowKit

/-- A manifest's bytes. -/
def encM (m : MM) : Option (List UInt8) := if okM m then encTop manF (manVs m) else none
theorem exec_noneM {a : Act} {o : Oper} {w : World} (f : FuncId) (ts : Array TypeId) (ho : o.op = .call { callee := .value (.func f), args := #[], argTypes := ts }) (hc : ∀ args w, (callFunc f args).run Try.prog w = .ok (.enter f args) w) : (execOp a.eval o).run Try.prog w = .ok (.enter f #[]) w := by
  have he : a.eval (.func f) = .func (.func f) #[] #[] := rfl
  unfold execOp
  simp [ho, resolve, invoke, Deferred.ofValue, he, hc]
/-- What an encoding answers, in one form. -/
def encIs (W : World) (B : Nat) (b : Value) (k : Int) : Option (List UInt8) → Prop
  | some nb => k = 0 ∧ Own W B b nb
  | none => b = .slice none 0 0 ∧ k = 1
theorem encodePost_form {w : World} {r : Option (List UInt8)} {e : Ending} {w' : World} (h : encodePost w r e w') : ∃ b k, e = .returned (.tuple #[b, .int .i64 k]) ∧ (∀ B, B ≤ w.heap.size → encIs w' B b k r) ∧ Below w.heap.size w w' := by
  obtain ⟨h, hb⟩ := h
  cases r with
  | some nb =>
    obtain ⟨b, rfl, ho⟩ := h
    exact ⟨b, 0, rfl, fun B hB => ⟨rfl, ho.mono hB⟩, hb⟩
  | none =>
    have h : e = .returned (.tuple #[.slice none 0 0, .int .i64 1]) := h
    exact ⟨_, _, h, fun _ _ => ⟨rfl, rfl⟩, hb⟩
theorem encodePost_of {w : World} {r : Option (List UInt8)} {w' : World} {b : Value} {k : Int} (h : encIs w' w.heap.size b k r) (hb : Below w.heap.size w w') : encodePost w r (.returned (.tuple #[b, .int .i64 k])) w' := by
  cases r with
  | some nb =>
    obtain ⟨rfl, ho⟩ := h
    exact ⟨⟨b, rfl, ho⟩, hb⟩
  | none =>
    obtain ⟨rfl, rfl⟩ := h
    exact ⟨rfl, hb⟩
set_option maxRecDepth 100000 in
set_option maxHeartbeats 1000000 in
theorem menc_any (m : MM) (su : Value) (w : World) (hh : m.h.length = 32) (hm : m.u.length ≤ 1000000000) (hu : Wds w su m.u) :
    Calls Try.prog 37 #[manV m su] w fun e w' => encodePost w (encM m) e w' := by
  have hB := (Below.refl w.heap.size w).alloc (Nat.le_refl _) (.cells (manC m su) 25)
  have k := Blk.new w 25 (manC m su)
  have hi := manC_info m su hh
  have HR : Hid (Calls Try.prog 44 #[manV m su] (w.alloc (.cells (manC m su) 25)) fun e w' => e = .returned (.bool (decide (okM m))) ∧ Below (w.alloc (.cells (manC m su) 25)).heap.size (w.alloc (.cells (manC m su) 25)) w') := mright_any m su _ hh hm (hu.alloc _)
  by_cases hok : okM m
  · have HE : Hid (encM m = encTop manF (manVs m)) := if_pos hok
    rw [HE.out]
    rw [decide_eq_true hok] at HR
    have hlu : m.u.length ≤ 128 := by have h1 := hok.1.2.2.2; have h2 := hok.2.1; omega
    have HF : Hid (∀ W, Calls Try.prog 52 #[] W fun e w' => ∃ v, e = .returned v ∧ Flds w' 2 v manF ∧ Below W.heap.size W w') := fun W => mflds_any W
    have HV : Hid (∀ W, Below w.heap.size w W → Calls Try.prog 53 #[manV m su] W fun e w' => ∃ v, e = .returned v ∧ Vals w' 2 v (manVs m) ∧ Below W.heap.size W w') := fun W hW => values_any m su W hh hlu (hu.below hW (Nat.le_refl _)) hok.1
    have HN : Hid (∀ W lv vv, Flds W 2 lv manF → Vals W 2 vv (manVs m) → Calls Try.prog 16 #[lv, vv] W fun e w' => encodePost W (encTop manF (manVs m)) e w') := fun W lv vv h1 h2 => encode_any 2 lv manF 2 vv (manVs m) W h1 h2
    clear HE hu hm hh hlu hok
    unfold manV at *
    generalize encTop manF (manVs m) = R at *
    generalize manC m su = MC at *
    obtain ⟨B0, hB0⟩ : ∃ B0, B0 = w.heap.size := ⟨_, rfl⟩
    rw [← hB0] at k
    go_enter Try.func37, Try.ntmps37
    go_wp2_with (refine wpList_load_row rfl 25 _ rfl w.heap.size rfl 25 _ (0, 0) _ (by rw [← hB0]; exact k) Try.underlying25 rfl hi ?_)
    refine HR.out.mono ?_
    rintro e w1 ⟨rfl, hb1⟩
    have k1 := k.below hb1 k.lt
    have hB1 : Below w.heap.size w w1 := hB.trans (hb1.mono hB.size)
    clear HR hb1 hB k
    go_wp2_with fail
    rw [← hB0]
    have hS0 : Blk w1.drew B0 25 MC := k1.drew
    refine held_begin (fun V => Blk V B0 25 MC) (by kernel_rfl) ?_
    refine held_take 1 8 _ (.agg MC) rfl rfl (by kernel_rfl) (by kernel_rfl) (by kernel_rfl) rfl hS0 (fun V hV => exec_loadM _ rfl _ rfl hV hi) ?_
    simp only [Act.put, List.setIfInBounds_toArray, List.set_cons_succ, List.set_cons_zero]
    refine held_all1 0 (by kernel_rfl) (op_call 0 7 _ 52 #[] rfl rfl rfl (exec_noneM 52 _ rfl Try.call52) ((HF.out _).mono ?_))
    rintro e w2 ⟨lv, rfl, hF2, hb2⟩
    have hS2 := hS0.below hb2 hS0.lt
    have hB2 : Below w.heap.size w w2 := hB1.drew.trans (hb2.mono hB1.size)
    refine ⟨_, rfl, hS2, ?_⟩
    simp only [Act.put, List.setIfInBounds_toArray, List.set_cons_succ, List.set_cons_zero]
    refine held_all1 2 (by kernel_rfl) (op_call 2 9 _ 53 #[.agg MC] rfl rfl rfl (exec_one 53 _ _ rfl _ rfl Try.call53) ((HV.out _ hB2).mono ?_))
    rintro e w3 ⟨vv, rfl, hV3, hb3⟩
    have hS3 := hS2.below hb3 hS2.lt
    have hB3 : Below w.heap.size w w3 := hB2.trans (hb3.mono hB2.size)
    have hF3 := Flds.keeps (Keeps.of_below hb3 (Nat.le_refl _)) 2 _ _ hF2
    refine ⟨_, rfl, hS3, ?_⟩
    simp only [Act.put, List.setIfInBounds_toArray, List.set_cons_succ, List.set_cons_zero]
    refine held_all1 3 (by kernel_rfl) (op_call 3 10 _ 16 #[lv, vv] rfl rfl rfl (exec_two8 16 _ _ _ rfl _ _ rfl rfl Try.call16) ((HN.out _ _ _ hF3 hV3).mono ?_))
    intro e w4 hp
    obtain ⟨b, kk, rfl, hown, hb4⟩ := encodePost_form hp
    clear hp
    have hS4 := hS3.below hb4 hS3.lt
    have hB4 : Below w.heap.size w w4 := hB3.trans (hb4.mono hB3.size)
    refine ⟨_, rfl, hS4, ?_⟩
    simp only [Act.put, List.setIfInBounds_toArray, List.set_cons_succ, List.set_cons_zero]
    refine held_take 4 11 _ b rfl rfl (by kernel_rfl) (by kernel_rfl) (by kernel_rfl) rfl hS4 (fun _ _ => rfl) ?_
    simp only [Act.put, List.setIfInBounds_toArray, List.set_cons_succ, List.set_cons_zero]
    refine held_take 5 12 _ (.int .i64 kk) rfl rfl (by kernel_rfl) (by kernel_rfl) (by kernel_rfl) rfl hS4 (fun _ _ => rfl) ?_
    simp only [Act.put, List.setIfInBounds_toArray, List.set_cons_succ, List.set_cons_zero]
    refine held_take 6 2 _ b rfl rfl (by kernel_rfl) (by kernel_rfl) (by kernel_rfl) rfl hS4 (fun _ _ => rfl) ?_
    simp only [Act.put, List.setIfInBounds_toArray, List.set_cons_succ, List.set_cons_zero]
    refine held_take 7 3 _ (.int .i64 kk) rfl rfl (by kernel_rfl) (by kernel_rfl) (by kernel_rfl) rfl hS4 (fun _ _ => rfl) ?_
    simp only [Act.put, List.setIfInBounds_toArray, List.set_cons_succ, List.set_cons_zero]
    refine wpAnyH_done (by kernel_rfl) ?_ _
    refine NoPanic.normal ?_
    have HO : Hid (encIs w4 w.heap.size b kk R) := hown _ hB3.size
    clear hown
    go_wp2
    go_ret2
    exact encodePost_of HO.out hB4
  · have HE : Hid (encM m = none) := if_neg hok
    rw [HE.out]
    rw [decide_eq_false hok] at HR
    clear HE hu hm hh hok
    unfold manV at *
    generalize manC m su = MC at *
    go_enter Try.func37, Try.ntmps37
    go_wp2_with (refine wpList_load_row rfl 25 _ rfl w.heap.size rfl 25 _ (0, 0) _ k Try.underlying25 rfl hi ?_)
    refine HR.out.mono ?_
    rintro e w1 ⟨rfl, hb1⟩
    have hB1 : Below w.heap.size w w1 := hB.trans (hb1.mono hB.size)
    clear HR
    go_wp2
    go_ret2
    exact ⟨rfl, hB1⟩
end Go.Proofs.Ytmkhdfapoaohfaa
