/-
  What is proved here: entry.encode makes an entry's bytes. boot.allAre tells whether bytes are all one byte.
  Conditions: the record may be, the generation is at most two to the thirtieth; the variable fourBits holds the sixteen words. the bytes lie in memory.
-/
import Derived.Test.YtbdhkkdombdnkaaDoorJBootSmall
import Derived.Test.YtbdhkkdombdnkaaDoorJAppZeros
import Derived.Test.YtbdhkkdombdnkaaDoorJBootPure
import Derived.Test.YtbdhkkdombdnkaaDoorJHeldOps
import Derived.Test.YtbdhkkdombdnkaaDoorJSegKit
namespace Go.Proofs.YtbdhkkdombdnkaaDoor
open Go.RowKit

theorem app_ranZ9 (w w' : World) {ops : Array Oper} {rest : List Oper} {o : Oper} {a : Act} {Q : Exit → Act → World → Prop} (hgd : o.guard = none) (s x : Operand) (t u : TypeId) (ho : o.op = .call { callee := .builtin .append, args := #[s, x], argTypes := #[t, u] }) (vs vx v' : Value) (hs : a.eval s = vs) (hx : a.eval x = vx)
    (hr : ∀ ty, (Builtin.append_ #[t, u] ty #[vs, vx]).run Tryd.prog w = .ok v' w') (h : wpList Tryd.prog ops Q rest (a.put o.dst v') w') : wpList Tryd.prog ops Q (o :: rest) a w := by
  refine wpList_plain hgd fun K hK => ?_
  unfold Oper.wp execOp
  simp only [ho, resolve, invoke, builtin, Sem.run_bind, Sem.run_pure, Result.andThen_ok, List.map_toArray, List.map_cons, List.map_nil, hs, hx, hr]
  exact hK _ _ h
/-- One more value. -/
theorem val_more (w : World) (base k m : Nat) (l : List Nat) (v : Value) (hown : w.ownsRow base 114 3 v k (valCs (l.take k))) (hk : k < 6) (hm : l.take (k + 1) = l.take k ++ [m]) (hbase : base ≤ w.heap.size) : ∃ v' W', (∀ ty, (Builtin.append_ #[110, 110] ty #[v, .slice (some ⟨w.heap.size, 0, none⟩) 1 1]).run Tryd.prog (w.alloc (.cells #[.int .u64 (m : Int), .slice none 0 0, .slice none 0 0] 114)) = .ok v' W') ∧ W'.ownsRow base 114 3 v' (k + 1) (valCs (l.take (k + 1))) ∧ ∀ {B : Nat} {w0 : World}, B ≤ base → Below B w0 w → B ≤ w.heap.size → Below B w0 W' := by
  have := app_one9 110 114 _ 3 56 under_vals9 info_val9 rfl (by decide) (by decide) w base k v (valCs (l.take k)) (valC9 m) hown rfl (one_val m) (by omega) hbase
  rw [hm, ← valCs_snoc]
  exact this
def natsB (g : Nat) (b : BR) : List Nat := [g, b.active.toNat, (b.trial + 1).toNat, b.tries.toNat, b.v0.toNat, b.v1.toNat]
theorem natsB_vals (g : Nat) (b : BR) : (natsB g b).map numV = bootV g b := rfl
def enL (g : Nat) (b : BR) : Array Value := #[.int .i64 (g : Int), .int .i64 b.active, .int .i64 b.trial, .int .i64 b.tries, .int .i64 b.v0, .int .i64 b.v1]
abbrev enV (g : Nat) (b : BR) : Value := .agg (enL g b)

set_option maxRecDepth 100000 in
set_option maxHeartbeats 2000000 in
theorem encode9_any (g : Nat) (b : BR) (w : World) (hg : g ≤ 1073741824) (hb : b.ok) (hgf : 1 < w.heap.size) (hf : Tab w 1 (fours.map v32)) :
    Calls Tryd.prog 53 #[enV g b] w fun e w' => ∃ v, e = .returned v ∧ Own w' w.heap.size v (entB g b) ∧ Below w.heap.size w w' := by
  have HE : Hid (encTop bootF (bootV g b) = some (numsB g b)) := boot_enc g b hg hb
  have HT : Hid (entB g b = textB g b ++ sumB (crcOf (textB g b))) := rfl
  have HT2 : Hid (textB g b = numsB g b ++ noughts 14) := rfl
  have HL : Hid ((numsB g b).length = 15) := numsB_len g b
  have ht := hb.trial
  obtain ⟨⟨a1, a2⟩, ⟨t1, t2⟩, ⟨v1, v2⟩, ⟨u1, u2⟩, _⟩ := hb
  have HV : Hid ((natsB g b).map numV = bootV g b) := rfl
  obtain ⟨l, hl⟩ : ∃ l, l = natsB g b := ⟨_, rfl⟩
  have HS : Hid (∀ x ∈ natsB g b, x < 18446744073709551616) := fun x hx => by
    simp only [natsB, List.mem_cons, List.not_mem_nil, or_false] at hx
    rcases hx with rfl | rfl | rfl | rfl | rfl | rfl <;> omega
  generalize bootV g b = BV at *
  generalize numsB g b = NB at *
  generalize entB g b = EB at *
  generalize textB g b = TB at *
  unfold natsB at *
  unfold enV enL
  obtain ⟨ac, tr, ti, x0, x1⟩ := b
  simp only at *
  obtain ⟨A, rfl⟩ : ∃ A : Nat, ac = (A : Int) := ⟨ac.toNat, by omega⟩
  obtain ⟨T1, hT1⟩ : ∃ T1 : Nat, tr + 1 = (T1 : Int) := ⟨(tr + 1).toNat, by omega⟩
  obtain ⟨R, rfl⟩ : ∃ R : Nat, ti = (R : Int) := ⟨ti.toNat, by omega⟩
  obtain ⟨X0, rfl⟩ : ∃ X0 : Nat, x0 = (X0 : Int) := ⟨x0.toNat, by omega⟩
  obtain ⟨X1, rfl⟩ : ∃ X1 : Nat, x1 = (X1 : Int) := ⟨x1.toNat, by omega⟩
  rw [hT1] at hl HS HV
  simp only [Int.toNat_natCast] at hl HS HV
  have hw1 : IntKind.i64.wrap (tr + 1) = (T1 : Int) := by rw [IntKind.wrap_i64]; omega
  have hwg : IntKind.u64.wrap (g : Int) = (g : Int) := by rw [IntKind.wrap_u64]; omega
  have hwA : IntKind.u64.wrap (A : Int) = (A : Int) := by rw [IntKind.wrap_u64]; omega
  have hwT : IntKind.u64.wrap (T1 : Int) = (T1 : Int) := by rw [IntKind.wrap_u64]; omega
  have hwR : IntKind.u64.wrap (R : Int) = (R : Int) := by rw [IntKind.wrap_u64]; omega
  have hw0 : IntKind.u64.wrap (X0 : Int) = (X0 : Int) := by rw [IntKind.wrap_u64]; omega
  have hwx : IntKind.u64.wrap (X1 : Int) = (X1 : Int) := by rw [IntKind.wrap_u64]; omega
  have HLl : Hid (l = [g, A, T1, R, X0, X1]) := hl
  clear hl hT1 ht a1 a2 t1 t2 v1 v2 u1 u2 hg
  have hB0 := ((Below.refl w.heap.size w).alloc (Nat.le_refl _) (.cells #[.int .i64 (g : Int), .int .i64 (A : Int), .int .i64 tr, .int .i64 (R : Int), .int .i64 (X0 : Int), .int .i64 (X1 : Int)] 65)).alloc (by simp) (.cells #[.int .i64 (A : Int), .int .i64 tr, .int .i64 (R : Int), .int .i64 (X0 : Int), .int .i64 (X1 : Int)] 40)
  go_enter Tryd.func53, Tryd.ntmps53
  go_wp2
  go_loopw [4, 27] (fun v i wr => ∃ k : Nat, k ≤ 6 ∧ i = .int .i64 k ∧ wr.ownsRow w.heap.size 114 3 v k (valCs (l.take k)) ∧ Below w.heap.size w wr) (fun _ i _ => 6 - (intOf i).toNat)
  case atStart => exact ⟨0, Nat.zero_le _, rfl, ⟨rfl, .inl ⟨rfl, rfl⟩⟩, by simpa using hB0⟩
  case round =>
    obtain ⟨k, hk, rfl, hown, hB⟩ := hrel
    clear hB0
    by_cases hlt : k < 6
    · have hcases : k = 0 ∨ k = 1 ∨ k = 2 ∨ k = 3 ∨ k = 4 ∨ k = 5 := by omega
      rcases hcases with rfl | rfl | rfl | rfl | rfl | rfl
      · obtain ⟨v', W', hr, ho, hb⟩ := val_more wr w.heap.size 0 g l _ hown (by decide) (by rw [HLl.out]; rfl) hB.size
        have HB := hb (Nat.le_refl _) hB hB.size
        have HO : Hid (W'.ownsRow w.heap.size 114 3 v' (0 + 1) (valCs (l.take (0 + 1)))) := ho
        have hix : ∀ w, (Instr.index 111 (.agg #[.int .i64 (g : Int), .int .i64 (A : Int), .int .i64 (T1 : Int), .int .i64 (R : Int), .int .i64 (X0 : Int), .int .i64 (X1 : Int)]) (.int .i64 0)).run Tryd.prog w = .ok (.int .i64 (g : Int)) w := fun w => by kernel_rfl
        clear ho hb hown
        go_wp2_with (at_builtin; refine app_ran9 _ W' rfl _ _ 110 rfl _ _ v' rfl rfl hr ?_)
        go_roundw
        case rel => exact ⟨1, by decide, rfl, HO.out, HB⟩
        case measure => simp [intOf]
      · obtain ⟨v', W', hr, ho, hb⟩ := val_more wr w.heap.size 1 A l _ hown (by decide) (by rw [HLl.out]; rfl) hB.size
        have HB := hb (Nat.le_refl _) hB hB.size
        have HO : Hid (W'.ownsRow w.heap.size 114 3 v' (1 + 1) (valCs (l.take (1 + 1)))) := ho
        have hix : ∀ w, (Instr.index 111 (.agg #[.int .i64 (g : Int), .int .i64 (A : Int), .int .i64 (T1 : Int), .int .i64 (R : Int), .int .i64 (X0 : Int), .int .i64 (X1 : Int)]) (.int .i64 1)).run Tryd.prog w = .ok (.int .i64 (A : Int)) w := fun w => by kernel_rfl
        clear ho hb hown
        go_wp2_with (at_builtin; refine app_ran9 _ W' rfl _ _ 110 rfl _ _ v' rfl rfl hr ?_)
        go_roundw
        case rel => exact ⟨2, by decide, rfl, HO.out, HB⟩
        case measure => simp [intOf]
      · obtain ⟨v', W', hr, ho, hb⟩ := val_more wr w.heap.size 2 T1 l _ hown (by decide) (by rw [HLl.out]; rfl) hB.size
        have HB := hb (Nat.le_refl _) hB hB.size
        have HO : Hid (W'.ownsRow w.heap.size 114 3 v' (2 + 1) (valCs (l.take (2 + 1)))) := ho
        have hix : ∀ w, (Instr.index 111 (.agg #[.int .i64 (g : Int), .int .i64 (A : Int), .int .i64 (T1 : Int), .int .i64 (R : Int), .int .i64 (X0 : Int), .int .i64 (X1 : Int)]) (.int .i64 2)).run Tryd.prog w = .ok (.int .i64 (T1 : Int)) w := fun w => by kernel_rfl
        clear ho hb hown
        go_wp2_with (at_builtin; refine app_ran9 _ W' rfl _ _ 110 rfl _ _ v' rfl rfl hr ?_)
        go_roundw
        case rel => exact ⟨3, by decide, rfl, HO.out, HB⟩
        case measure => simp [intOf]
      · obtain ⟨v', W', hr, ho, hb⟩ := val_more wr w.heap.size 3 R l _ hown (by decide) (by rw [HLl.out]; rfl) hB.size
        have HB := hb (Nat.le_refl _) hB hB.size
        have HO : Hid (W'.ownsRow w.heap.size 114 3 v' (3 + 1) (valCs (l.take (3 + 1)))) := ho
        have hix : ∀ w, (Instr.index 111 (.agg #[.int .i64 (g : Int), .int .i64 (A : Int), .int .i64 (T1 : Int), .int .i64 (R : Int), .int .i64 (X0 : Int), .int .i64 (X1 : Int)]) (.int .i64 3)).run Tryd.prog w = .ok (.int .i64 (R : Int)) w := fun w => by kernel_rfl
        clear ho hb hown
        go_wp2_with (at_builtin; refine app_ran9 _ W' rfl _ _ 110 rfl _ _ v' rfl rfl hr ?_)
        go_roundw
        case rel => exact ⟨4, by decide, rfl, HO.out, HB⟩
        case measure => simp [intOf]
      · obtain ⟨v', W', hr, ho, hb⟩ := val_more wr w.heap.size 4 X0 l _ hown (by decide) (by rw [HLl.out]; rfl) hB.size
        have HB := hb (Nat.le_refl _) hB hB.size
        have HO : Hid (W'.ownsRow w.heap.size 114 3 v' (4 + 1) (valCs (l.take (4 + 1)))) := ho
        have hix : ∀ w, (Instr.index 111 (.agg #[.int .i64 (g : Int), .int .i64 (A : Int), .int .i64 (T1 : Int), .int .i64 (R : Int), .int .i64 (X0 : Int), .int .i64 (X1 : Int)]) (.int .i64 4)).run Tryd.prog w = .ok (.int .i64 (X0 : Int)) w := fun w => by kernel_rfl
        clear ho hb hown
        go_wp2_with (at_builtin; refine app_ran9 _ W' rfl _ _ 110 rfl _ _ v' rfl rfl hr ?_)
        go_roundw
        case rel => exact ⟨5, by decide, rfl, HO.out, HB⟩
        case measure => simp [intOf]
      · obtain ⟨v', W', hr, ho, hb⟩ := val_more wr w.heap.size 5 X1 l _ hown (by decide) (by rw [HLl.out]; rfl) hB.size
        have HB := hb (Nat.le_refl _) hB hB.size
        have HO : Hid (W'.ownsRow w.heap.size 114 3 v' (5 + 1) (valCs (l.take (5 + 1)))) := ho
        have hix : ∀ w, (Instr.index 111 (.agg #[.int .i64 (g : Int), .int .i64 (A : Int), .int .i64 (T1 : Int), .int .i64 (R : Int), .int .i64 (X0 : Int), .int .i64 (X1 : Int)]) (.int .i64 5)).run Tryd.prog w = .ok (.int .i64 (X1 : Int)) w := fun w => by kernel_rfl
        clear ho hb hown
        go_wp2_with (at_builtin; refine app_ran9 _ W' rfl _ _ 110 rfl _ _ v' rfl rfl hr ?_)
        go_roundw
        case rel => exact ⟨6, by decide, rfl, HO.out, HB⟩
        case measure => simp [intOf]
    · obtain rfl : k = 6 := by omega
      have HW : Hid (Vals wr 1 u4 BV) := by
        rw [← HV.out, ← HLl.out]
        exact vals9_of (w := wr) l (by rw [HLl.out]; exact Nat.succ_pos _) (by rw [HLl.out]; exact HS.out) (by rw [HLl.out]; show 6 ≤ maxLen; decide) (by rw [HLl.out]; rw [HLl.out] at hown; exact hown)
      clear hown hlt hk HS HV HLl hwg hwA hwT hwR hw0 hwx
      have HFI : Hid (Calls Tryd.prog 63 #[] wr fun e w' => ∃ v, e = .returned v ∧ Flds w' 1 v bootF ∧ Below wr.heap.size wr w') := fields9_any wr
      obtain ⟨au, cu, hu, _, _⟩ := HW.out.form
      subst hu
      go_wp2_with fail
      refine HFI.out.mono ?_
      rintro e w1 ⟨v1, rfl, hF1, hb1⟩
      clear HFI
      have hV1 := Vals.keeps (Keeps.of_below hb1 (Nat.le_refl _)) _ _ _ HW.out
      obtain ⟨af, cf, hfv, _, _⟩ := hF1.form
      subst hfv
      have HEN : Hid (Calls Tryd.prog 62 #[.slice af bootF.length cf, .slice au BV.length cu] w1 fun e w' => encodePost w1 (encTop bootF BV) e w') := encode_any 1 _ bootF 1 _ BV w1 hF1 hV1
      rw [HE.out] at HEN
      go_wp2_with fail
      refine HEN.out.mono ?_
      rintro e w2 ⟨⟨v2, rfl, ho2⟩, hb2⟩
      clear HEN
      have hB2 : Below w.heap.size w w2 := (hB.trans (hb1.mono hB.size)).trans (hb2.mono (Nat.le_trans hB.size hb1.size))
      have hs1 := Nat.le_trans hB.size hb1.size
      obtain ⟨v3, w3, hr3, ho3, hg3, hblk3⟩ := app_zeros w2 w1.heap.size v2 NB ho2 14 (by decide) (by rw [HL.out]; decide) hb2.size
      rw [← HT2.out] at ho3
      have hB3 : Below w.heap.size w w3 := below_grown hB2 hg3 (Nat.le_trans hs1 hb2.size) (fun q hq => Nat.le_trans hs1 (ho2.blocks q hq).1)
      have hTL : TB.length ≤ 100000000 := by rw [HT2.out, List.length_append, HL.out, noughts_length]; decide
      obtain ⟨a2, c2, hv2⟩ := ho2.seg.shapeD
      subst hv2
      go_wp2_with (at_builtin; refine app_ranZ9 _ w3 rfl _ _ 41 3 rfl _ _ v3 rfl rfl hr3 ?_)
      refine (seal_any v3 TB w3 hTL ho3.seg (Nat.lt_of_lt_of_le hgf hB3.size) (hf.below hB3 hgf)).mono ?_
      rintro e w4 ⟨v4, rfl, ho4, hb4⟩
      have HO4 : Own w4 w.heap.size v4 EB := by rw [HT.out]; exact ho4.mono hB3.size
      clear ho4
      go_wp2
      go_ret
      exact ⟨v4, rfl, HO4, hB3.trans (hb4.mono hB3.size)⟩
end Go.Proofs.YtbdhkkdombdnkaaDoor
namespace Go.Proofs.YtbdhkkdombdnkaaDoor
open Go.RowKit

set_option maxRecDepth 100000 in
theorem are1_any (x y q : Nat) (w : World) (hq : w.cell? ⟨q, 0, none⟩ = some (.int .u8 (x : Int))) : Calls Tryd.prog 70 #[.int .u8 (y : Int), .pointer (some ⟨q, 0, none⟩)] w fun e w' => e = .returned (.bool (y != x)) ∧ w' = w := by
  have e1 : ((y : Int) != (x : Int)) = (y != x) := by
    rw [Bool.eq_iff_iff, bne_iff_ne, bne_iff_ne]; omega
  go_enter Tryd.func70, Tryd.ntmps70
  go_wp2
  go_ret
  first
    | exact ⟨rfl, rfl⟩
    | (refine ⟨?_, rfl⟩; rw [e1])
theorem all_take_succ (bs : List UInt8) (x : UInt8) (k : Nat) (h : k < bs.length) (ha : (bs.take k).all (· == x) = true) (hx : bs[k].toNat = x.toNat) : (bs.take (k + 1)).all (· == x) = true := by
  rw [List.take_add_one, List.all_append, ha, List.getElem?_eq_getElem h]
  simp only [Option.toList_some, List.all_cons, List.all_nil, Bool.and_true, Bool.true_and, beq_iff_eq]
  exact UInt8.toNat_inj.1 hx
theorem all_not (bs : List UInt8) (x : UInt8) (k : Nat) (h : k < bs.length) (hx : bs[k].toNat ≠ x.toNat) : bs.all (· == x) = false := by
  rw [List.all_eq_false]
  refine ⟨bs[k], List.getElem_mem h, ?_⟩
  simp only [beq_iff_eq]
  intro e
  exact hx (by rw [e])

/-- What is told: a place of another byte, or none. -/
def IdxOk (bs : List UInt8) (x : UInt8) (r : Int) : Prop := decide (0 ≤ r) = !bs.all (· == x)
set_option maxRecDepth 100000 in
set_option maxHeartbeats 400000 in
theorem index9_any (v : Value) (bs : List UInt8) (x : UInt8) (q : Nat) (w : World) (hm : bs.length ≤ 1000000000) (hseg : Seg w v bs) (hq : w.cell? ⟨q, 0, none⟩ = some (.int .u8 (n8 x))) :
    Calls Tryd.prog 79 #[v, .func (.func 70) #[] #[.pointer (some ⟨q, 0, none⟩)]] w fun e w' => ∃ r : Int, e = .returned (.int .i64 r) ∧ IdxOk bs x r ∧ w' = w := by
  have HC : Hid (∀ y : Nat, Calls Tryd.prog 70 #[.int .u8 (y : Int), .pointer (some ⟨q, 0, none⟩)] w fun e w' => e = .returned (.bool (y != x.toNat)) ∧ w' = w) := fun y => are1_any x.toNat y q w hq
  clear hq
  rcases hseg with ⟨rfl, ao, c, rfl, _⟩ | ⟨b, off, c, rfl, hc, hr, hb⟩
  · go_enter Tryd.func79, Tryd.ntmps79
    go_wp2
    go_loop [8] (fun i => i = .int .i64 0) (fun _ => 0)
    case atStart => exact rfl
    case round =>
      obtain rfl := hrel
      go_wp2
      go_ret
      exact ⟨_, rfl, rfl, rfl⟩
  go_enter Tryd.func79, Tryd.ntmps79
  go_wp2
  go_loop [8] (fun i => ∃ k : Nat, k ≤ bs.length ∧ i = .int .i64 k ∧ (bs.take k).all (· == x) = true) (fun i => bs.length - (intOf i).toNat)
  case atStart => exact ⟨0, Nat.zero_le _, rfl, rfl⟩
  case round =>
    obtain ⟨k, hk, rfl, ha⟩ := hrel
    by_cases hlt : k < bs.length
    · have hc := hr k hlt
      have HA : Hid ((bs.take k).all (· == x) = true) := ha
      clear ha
      have HY : Hid (bs[k].toNat = x.toNat → (bs.take (k + 1)).all (· == x) = true) := all_take_succ bs x k hlt HA.out
      have HN : Hid (bs[k].toNat ≠ x.toNat → bs.all (· == x) = false) := all_not bs x k hlt
      unfold n8 at hc
      generalize bs[k].toNat = y at *
      by_cases hy : y = x.toNat
      · have hb : (y != x.toNat) = false := by simp [hy]
        have HY2 : Hid ((bs.take (k + 1)).all (· == x) = true) := HY.out hy
        clear hy HY HN
        go_wp2_with fail
        refine (HC.out _).mono ?_
        rintro e w1 ⟨rfl, rfl⟩
        go_wp2
        go_round
        case rel => exact ⟨k + 1, hlt, by go_num, HY2.out⟩
        case measure => simp [intOf]; omega
      · have hb : (y != x.toNat) = true := by simp [hy]
        have HN2 : Hid (bs.all (· == x) = false) := HN.out hy
        clear hy HY HN
        go_wp2_with fail
        refine (HC.out _).mono ?_
        rintro e w1 ⟨rfl, rfl⟩
        go_wp2
        go_ret
        exact ⟨_, rfl, by unfold IdxOk; rw [HN2.out]; simp, rfl⟩
    · have HA : Hid (bs.all (· == x) = true) := by rw [List.take_of_length_le (by omega)] at ha; exact ha
      clear ha
      go_wp2
      go_ret
      exact ⟨_, rfl, by unfold IdxOk; rw [HA.out]; rfl, rfl⟩

set_option maxRecDepth 100000 in
theorem contains9_any (v : Value) (bs : List UInt8) (x : UInt8) (q : Nat) (w : World) (hm : bs.length ≤ 1000000000) (hseg : Seg w v bs) (hq : w.cell? ⟨q, 0, none⟩ = some (.int .u8 (n8 x))) :
    Calls Tryd.prog 71 #[v, .func (.func 70) #[] #[.pointer (some ⟨q, 0, none⟩)]] w fun e w' => e = .returned (.bool (!bs.all (· == x))) ∧ w' = w := by
  have HI : Hid (Calls Tryd.prog 79 #[v, .func (.func 70) #[] #[.pointer (some ⟨q, 0, none⟩)]] w fun e w' => ∃ r : Int, e = .returned (.int .i64 r) ∧ IdxOk bs x r ∧ w' = w) := index9_any v bs x q w hm hseg hq
  clear hq
  obtain ⟨ao, c, rfl⟩ := hseg.shapeD
  clear hseg
  unfold IdxOk at HI
  generalize bs.all (· == x) = AL at *
  go_enter Tryd.func71, Tryd.ntmps71
  go_wp2_with fail
  refine HI.out.mono ?_
  rintro e w1 ⟨r, rfl, hr, hw⟩
  subst hw
  have HR : Hid (decide (0 ≤ r) = !AL) := hr
  clear hr HI
  go_wp2
  go_ret
  rw [← HR.out]
  exact ⟨rfl, rfl⟩

set_option maxRecDepth 100000 in
theorem are_any (v : Value) (bs : List UInt8) (x : UInt8) (w : World) (hm : bs.length ≤ 1000000000) (hseg : Seg w v bs) : Calls Tryd.prog 61 #[v, .int .u8 (n8 x)] w fun e w' => e = .returned (.bool (bs.all (· == x))) ∧ Below w.heap.size w w' := by
  have hB := (Below.refl w.heap.size w).alloc (Nat.le_refl _) (.cells #[.int .u8 (n8 x)] 5)
  have HI : Hid (Calls Tryd.prog 71 #[v, .func (.func 70) #[] #[.pointer (some ⟨w.heap.size, 0, none⟩)]] (w.alloc (.cells #[.int .u8 (n8 x)] 5)) fun e w' => e = .returned (.bool (!bs.all (· == x))) ∧ w' = (w.alloc (.cells #[.int .u8 (n8 x)] 5))) := contains9_any v bs x w.heap.size _ hm (hseg.alloc _) ((Blk.new w 5 _).cell (j := 0) rfl)
  obtain ⟨ao, c, rfl⟩ := hseg.shapeD
  clear hseg
  generalize bs.all (· == x) = AL at *
  go_enter Tryd.func61, Tryd.ntmps61
  go_wp2_with fail
  refine HI.out.mono ?_
  rintro e w1 ⟨rfl, hw⟩
  subst hw
  clear HI
  cases AL with
  | true =>
    go_wp2
    go_ret
    exact ⟨rfl, hB⟩
  | false =>
    go_wp2
    go_ret
    exact ⟨rfl, hB⟩
end Go.Proofs.YtbdhkkdombdnkaaDoor
