/-
  What is proved here: wire.messageFields makes the fields of a kind.
  Conditions: none.
-/
import Derived.Test.YtgfcindkfnjeoaaJWireMay
import Derived.Maps.AppendAt
namespace Go.Proofs.Ytgfcindkfnjeoaa
open Go.RowKit

theorem app_ranW (w w' : World) {ops : Array Oper} {rest : List Oper} {o : Oper} {a : Act} {Q : Exit → Act → World → Prop} (hgd : o.guard = none) (s x : Operand) (t : TypeId) (ho : o.op = .call { callee := .builtin .append, args := #[s, x], argTypes := #[t, t] }) (vs vx v' : Value) (hs : a.eval s = vs) (hx : a.eval x = vx)
    (hr : ∀ ty, (Builtin.append_ #[t, t] ty #[vs, vx]).run Try.prog w = .ok v' w') (h : wpList Try.prog ops Q rest (a.put o.dst v') w') : wpList Try.prog ops Q (o :: rest) a w := by
  refine wpList_plain hgd fun K hK => ?_
  unfold Oper.wp execOp
  simp only [ho, resolve, invoke, builtin, Sem.run_bind, Sem.run_pure, Result.andThen_ok, List.map_toArray, List.map_cons, List.map_nil, hs, hx, hr]
  exact hK _ _ h
theorem info_partsW {t : TypeId} {z : Value} {n b : Nat} (h : (Try.prog.info? t).map (fun i => (i.zero, i.size, i.bytes)) = some (some z, n, b)) : ∃ i, Try.prog.info? t = some i ∧ i.zero = some z ∧ i.size = n ∧ i.bytes = b := by
  cases hi : Try.prog.info? t with
  | none => rw [hi] at h; cases h
  | some i =>
    rw [hi] at h
    simp only [Option.map_some, Option.some.injEq, Prod.mk.injEq] at h
    exact ⟨i, rfl, h.1, h.2.1, h.2.2⟩
theorem info_fldW3 : (Try.prog.info? 62).map (fun i => (i.zero, i.size, i.bytes)) = some (some (.agg #[.int .i64 0, .int .u64 0, .int .u64 0, .slice none 0 0]), 4, 48) := by kernel_rfl
theorem info_valW3 : (Try.prog.info? 68).map (fun i => (i.zero, i.size, i.bytes)) = some (some (.agg #[.int .u64 0, .slice none 0 0, .slice none 0 0]), 3, 56) := by kernel_rfl
theorem under_fldsW : Try.prog.underlying 40 = some (.slice 62) := by kernel_rfl
theorem under_valsW : Try.prog.underlying 42 = some (.slice 68) := by kernel_rfl
/-- One more is put behind a slice of the call's own. -/
theorem app_oneW (t e : TypeId) (z : Value) (size bytes : Nat) (ht : Try.prog.underlying t = some (.slice e)) (hz : (Try.prog.info? e).map (fun i => (i.zero, i.size, i.bytes)) = some (some z, size, bytes)) (hzs : z.cells.size = size) (hsz : 0 < size) (hby : bytes ≤ 100) (w : World) (base n : Nat) (v : Value) (xs news : List Value) (hown : w.ownsRow base e size v n xs) (hl : news.length = size) (h1 : ∀ u ∈ news, u.oneCell' = true) (hn : n ≤ 1000000) (hbase : base ≤ w.heap.size) :
    ∃ v' W', (∀ ty, (Builtin.append_ #[t, t] ty #[v, .slice (some ⟨w.heap.size, 0, none⟩) 1 1]).run Try.prog (w.alloc (.cells news.toArray e)) = .ok v' W') ∧ W'.ownsRow base e size v' (n + 1) (xs ++ news) ∧ (w.alloc (.cells news.toArray e)).grownBy W' v.ownBlock ∧ ∀ {B : Nat} {w0 : World}, B ≤ base → Below B w0 w → B ≤ w.heap.size → Below B w0 W' := by
  have hb := (Below.refl w.heap.size w).alloc (Nat.le_refl _) (.cells news.toArray e)
  have hk := Blk.new w e news.toArray
  have h' : (w.alloc (.cells news.toArray e)).ownsRow base e size v n xs := World.ownsRow.alloc hown _
  obtain ⟨i0, hi, hz0, hz1, hz2⟩ := info_partsW hz
  obtain ⟨v', w', h0, h2, h3, _, _⟩ := run_append_own_at (P := Try.prog) _ base t t e i0 z size bytes ht hi hz0 hz1 hz2 hzs hsz v n xs h' ⟨w.heap.size, 0, none⟩ 1 1 news (by omega) (fun j y hy => by
    rw [Addr.add_mid, Nat.zero_add]
    exact hk.cell (by simpa using hy)) h1 (by unfold maxLen; omega) (by
      have : (n + 1) * bytes ≤ (n + 1) * 100 := Nat.mul_le_mul_left _ hby
      omega) (Nat.le_trans hbase hb.size)
  exact ⟨v', w', fun ty => h0, h2, h3, fun {B w0} hB hw hs => below_grown (hw.trans (hb.mono hs)) h3 (Nat.le_trans hs hb.size) (fun q hq => Nat.le_trans hB (World.ownsRow.lt h' q hq).1)⟩
theorem ownsRow_belowW {w w' : World} {base : Nat} {t : TypeId} {k : Nat} {v : Value} {n : Nat} {xs : List Value} (h : w.ownsRow base t k v n xs) (hb : Below w.heap.size w w') : w'.ownsRow base t k v n xs := by
  refine ⟨h.1, ?_⟩
  rcases h.2 with h1 | ⟨g, cap, cur, h1, h2, h3, h4⟩
  · exact .inl h1
  · exact .inr ⟨g, cap, cur, h1, h2, Blk.below h3 hb (Blk.lt h3), h4⟩
theorem fldsW_snoc : ∀ (ns : List (Nat × Nat)) (a b : Nat), fldsW (ns ++ [(a, b)]) none = fldsW ns none ++ (fldW 1 a b).toList
  | [], _, _ => by simp [fldsW]
  | x :: ns, a, b => by
    show (fldW 1 x.1 x.2).toList ++ fldsW (ns ++ [(a, b)]) none = ((fldW 1 x.1 x.2).toList ++ fldsW ns none) ++ _
    rw [fldsW_snoc ns a b, List.append_assoc]
theorem fldsW_byt : ∀ (ns : List (Nat × Nat)) (m : Nat), fldsW ns (some m) = fldsW ns none ++ (fldW 2 0 m).toList
  | [], _ => by simp [fldsW]
  | x :: ns, m => by
    show (fldW 1 x.1 x.2).toList ++ fldsW ns (some m) = ((fldW 1 x.1 x.2).toList ++ fldsW ns none) ++ _
    rw [fldsW_byt ns m, List.append_assoc]
theorem fldW_one (k : Int) (a b : Nat) : ∀ u ∈ (fldW k a b).toList, u.oneCell' = true := by
  intro u hu
  simp only [List.mem_cons, List.not_mem_nil, or_false] at hu
  rcases hu with rfl | rfl | rfl | rfl <;> rfl
/-- Fields of the call's own. -/
theorem fldsW_own {w : World} {base : Nat} {v : Value} (ns : List (Nat × Nat)) (mb : Option Nat) (h : w.ownsRow base 62 4 v (recF ns mb).length (fldsW ns mb)) (h1 : ∀ x ∈ ns, x.1 < 18446744073709551616 ∧ x.2 < 18446744073709551616) (h2 : ∀ m, mb = some m → m < 18446744073709551616) (hl : (recF ns mb).length ≤ 1000) : Flds w 1 v (recF ns mb) := by
  rcases h.2 with ⟨hv, h0⟩ | ⟨g, cap, cur, hv, hg, hk, hc, hm, hs, ht⟩
  · subst hv
    refine ⟨none, 0, by rw [h0], by unfold maxLen; omega, fun h => by omega⟩
  · subst hv
    refine fldsW_flds ns mb hk (fun j v hj => ?_) h1 h2 hl hc
    have hjl := (List.getElem?_eq_some_iff.1 hj).1
    rw [← ht, List.getElem?_take_of_lt (by rw [fldsW_len] at hjl; exact hjl)] at hj
    simpa using hj
def nsK (k : Int) : List (Nat × Nat) := (numK k).map (·.2)
def mbN (k : Int) : Nat := if k = 2 then 500 else if k = 5 then 1024 else 0
def mbK (k : Int) : Option Nat := if k = 2 then some 500 else if k = 5 then some 1024 else none
theorem maxB_any (k : Int) (w : World) : Calls Try.prog 34 #[.int .i64 k] w fun e w' => e = .returned (.int .i64 (mbN k : Int)) ∧ w' = w := by
  unfold mbN
  by_cases h2 : k = 2
  · subst h2
    go_enter Try.func34, Try.ntmps34
    go_wp2
    go_ret
    exact ⟨rfl, rfl⟩
  · by_cases h5 : k = 5
    · subst h5
      go_enter Try.func34, Try.ntmps34
      go_wp2
      go_ret
      exact ⟨rfl, rfl⟩
    · have d2 : (k == 2) = false := beq_eq_false_iff_ne.2 h2
      have d5 : (k == 5) = false := beq_eq_false_iff_ne.2 h5
      rw [if_neg h2, if_neg h5]
      clear h2 h5
      go_enter Try.func34, Try.ntmps34
      go_wp2
      go_ret
      exact ⟨rfl, rfl⟩
set_option maxRecDepth 100000 in
set_option maxHeartbeats 8000000 in
theorem mfields_any (k : Int) (w : World) : Calls Try.prog 16 #[.int .i64 k] w fun e w' => ∃ v, e = .returned v ∧ Flds w' 1 v (recF (nsK k) (mbK k)) ∧ Below w.heap.size w w' := by
  have HNO : Hid (∀ B V, V.cell? ⟨B, 0, none⟩ = some (.int .i64 k) → B < V.heap.size → Calls Try.prog 32 #[.pointer (some ⟨B, 0, none⟩)] V fun e w' => ∃ v, e = .returned v ∧ NumsAt w' B v (numK k) ∧ Below V.heap.size V w') := fun B V h1 h2 => numsOf_any B k V h1 h2
  have HMB : Hid (∀ V, Calls Try.prog 34 #[.int .i64 k] V fun e w' => e = .returned (.int .i64 (mbN k : Int)) ∧ w' = V) := fun V => maxB_any k V
  have HAT : Hid (∀ n ∈ numK k, (1 ≤ n.1 ∧ n.1 ≤ 7) ∧ n.2.1 ≤ 1 ∧ n.2.2 ≤ 1073741824) := fun n hn => numK_at hn
  have HL6 : Hid ((numK k).length ≤ 6) := numK_len k
  have HNS : Hid (nsK k = (numK k).map (·.2)) := rfl
  have HMK : Hid (mbN k = 0 ∧ mbK k = none ∨ (0 < mbN k ∧ mbN k ≤ 1024) ∧ mbK k = some (mbN k)) := by
    show _ ∨ _
    unfold mbN mbK
    by_cases h2 : k = 2
    · right; rw [if_pos h2, if_pos h2]; exact ⟨by decide, rfl⟩
    · by_cases h5 : k = 5
      · right; rw [if_neg h2, if_pos h5, if_neg h2, if_pos h5]; exact ⟨by decide, rfl⟩
      · left; rw [if_neg h2, if_neg h5, if_neg h2, if_neg h5]; exact ⟨rfl, rfl⟩
  generalize mbN k = MB at *
  generalize mbK k = MK at *
  generalize nsK k = NS at *
  go_enter Try.func16, Try.ntmps16
  go_wp2_with fail
  refine (HNO.out _ _ ((Blk.new w _ _).cell (j := 0) rfl) (Blk.new w _ _).lt).mono ?_
  rintro e w1 ⟨v, rfl, hN1, hb1⟩
  have hB1 : Below w.heap.size w w1 := ((Below.refl w.heap.size w).alloc (Nat.le_refl _) _).trans (hb1.mono (by simp))
  generalize numK k = L at *
  obtain ⟨ao, c, e1, hN0⟩ := hN1
  subst e1
  have HN1 : Hid (∀ (i : Nat) n, L[i]? = some n → ∃ g, ao = some ⟨g, 0, none⟩ ∧ g < w1.heap.size ∧ w1.cell? ⟨g, i * 3, none⟩ = some (.pointer (some ⟨w.heap.size, n.1, none⟩)) ∧ w1.cell? ⟨g, i * 3 + 1, none⟩ = some (.int .i64 (n.2.1 : Int)) ∧ w1.cell? ⟨g, i * 3 + 2, none⟩ = some (.int .i64 (n.2.2 : Int))) := hN0
  have HBW : Hid (w.heap.size ≤ w1.heap.size) := hB1.size
  clear hN0 hb1 HNO
  have HNUM : Hid (∀ (a b : Nat) V, a < 9223372036854775808 → b < 9223372036854775808 → Calls Try.prog 33 #[.int .i64 (a : Int), .int .i64 (b : Int)] V fun e w' => e = .returned (.agg (fldW 1 a b)) ∧ Below V.heap.size V w') := fun a b V ha hb => numF_any a b V ha hb
  have HBYT : Hid (∀ (b : Nat) V, b < 9223372036854775808 → Calls Try.prog 35 #[.int .i64 (b : Int)] V fun e w' => e = .returned (.agg (fldW 2 0 b)) ∧ Below V.heap.size V w') := fun b V hb => bytF_any b V hb
  go_wp2_with fail
  go_loopw [3, 12] (fun v i wr => ∃ j : Nat, i = .int .i64 (j : Int) ∧ j ≤ L.length ∧ wr.ownsRow w1.heap.size 62 4 v j (fldsW ((L.take j).map (·.2)) none) ∧ Below w1.heap.size w1 wr) (fun _ i _ => L.length - (intOf i).toNat)
  case atStart => exact ⟨0, rfl, Nat.zero_le _, ⟨rfl, .inl ⟨rfl, rfl⟩⟩, Below.refl _ _⟩
  case round =>
    obtain ⟨j, rfl, hj, hown, hBr⟩ := hrel
    by_cases hlt : j < L.length
    · have hnj : L[j]? = some L[j] := List.getElem?_eq_getElem hlt
      obtain ⟨g, e2, hg, c0, c1, c2⟩ := HN1.out j L[j] hnj
      subst e2
      have hat := HAT.out L[j] (List.getElem_mem hlt)
      have HTK : Hid ((L.take (j + 1)).map (·.2) = (L.take j).map (·.2) ++ [L[j].2]) := by
        show _ = _
        rw [List.take_succ_eq_append_getElem hlt, List.map_append]
        rfl
      generalize L[j] = nn at *
      obtain ⟨O, A, C⟩ := nn
      simp only at hat c0 c1 c2
      have d0 := (hBr.cell (p := ⟨g, j * 3, none⟩) hg).trans c0
      have d1 := (hBr.cell (p := ⟨g, j * 3 + 1, none⟩) hg).trans c1
      have d2 := (hBr.cell (p := ⟨g, j * 3 + 2, none⟩) hg).trans c2
      have ix := index_nums g L.length c j hlt
      have i1 : (j : Int) < (L.length : Int) := by omega
      have hwj : IntKind.i64.wrap ((j : Int) + 1) = (j : Int) + 1 := by have := HL6.out; rw [IntKind.wrap_i64]; omega
      have hj6 : j < 6 := by have := HL6.out; omega
      have HJ : Hid (j < L.length) := hlt
      have kP := Blk.new wr 59 #[.pointer (some ⟨w.heap.size, O, none⟩), .int .i64 (A : Int), .int .i64 (C : Int)]
      have hB2 := hBr.alloc hBr.size (.cells #[.pointer (some ⟨w.heap.size, O, none⟩), .int .i64 (A : Int), .int .i64 (C : Int)] 59)
      have hown2 := World.ownsRow.alloc hown (.cells #[.pointer (some ⟨w.heap.size, O, none⟩), .int .i64 (A : Int), .int .i64 (C : Int)] 59)
      have HNM := HNUM.out A C (wr.alloc (.cells #[.pointer (some ⟨w.heap.size, O, none⟩), .int .i64 (A : Int), .int .i64 (C : Int)] 59)) (by omega) (by omega)
      clear hown hnj hat hlt hj
      go_wp2_with fail
      refine HNM.mono ?_
      rintro e w3 ⟨rfl, hb3⟩
      have hB3 := hB2.trans (hb3.mono hB2.size)
      have hown3 : w3.ownsRow w1.heap.size 62 4 u3 j (fldsW ((L.take j).map (·.2)) none) := ownsRow_belowW hown2 hb3
      obtain ⟨v4, W4, hr4, ho4, -, hb4⟩ := app_oneW 40 62 _ 4 48 under_fldsW info_fldW3 rfl (by decide) (by decide) w3 w1.heap.size j _ _ (fldW 1 A C).toList hown3 rfl (fldW_one 1 A C) (by omega) hB3.size
      have HB4 := hb4 (Nat.le_refl _) hB3 hB3.size
      rw [← fldsW_snoc, ← HTK.out] at ho4
      have HO4 : Hid (W4.ownsRow w1.heap.size 62 4 v4 (j + 1) (fldsW ((L.take (j + 1)).map (·.2)) none)) := ho4
      clear hown2 hown3 ho4 hb4 hb3 hB3 hB2 HNM kP d0 d1 d2 ix c0 c1 c2 hBr
      go_wp2_with (at_builtin; refine app_ranW _ W4 rfl _ _ 40 rfl _ _ v4 rfl rfl hr4 ?_)
      go_roundw
      case rel => exact ⟨j + 1, by go_num, HJ.out, HO4.out, HB4⟩
      case measure => have := HJ.out; simp [intOf]; omega
    · have i1 : ¬ (j : Int) < (L.length : Int) := by omega
      rw [List.take_of_length_le (by omega), ← HNS.out] at hown
      have hnl : j = (recF NS none).length := by rw [recF_len, HNS.out, List.length_map]; simp; omega
      have HB12 : Hid (∀ x ∈ NS, x.1 < 18446744073709551616 ∧ x.2 < 18446744073709551616) := fun x hx => by
        rw [HNS.out] at hx
        obtain ⟨n, hn, rfl⟩ := List.mem_map.1 hx
        have := HAT.out n hn
        omega
      have HLN : Hid ((recF NS none).length ≤ 6) := by show _ ≤ 6; rw [← hnl]; have := HL6.out; omega
      rw [hnl] at hown
      clear hlt hj hnl
      go_wp2_with fail
      refine (HMB.out _).mono ?_
      rintro e w5 ⟨rfl, rfl⟩
      rcases HMK.out with ⟨hm0, hmk⟩ | ⟨hm1, hmk⟩
      · have d9 : decide (0 < MB) = false := decide_eq_false (by omega)
        have HF : Hid (Flds w5 1 u3 (recF NS MK)) := by
          show Flds _ _ _ _
          rw [hmk]
          exact fldsW_own NS none hown HB12.out (fun m h => by cases h) (by have := HLN.out; omega)
        have HBZ : Hid (Below w.heap.size w w5) := hB1.trans (hBr.mono HBW.out)
        clear hown hm0 hmk hBr HMB HMK
        go_wp2
        go_ret
        exact ⟨_, rfl, HF.out, HBZ.out⟩
      · have d9 : decide (0 < MB) = true := decide_eq_true (by omega)
        have HBT := HBYT.out MB w5 (by omega)
        have HMK2 : Hid (MK = some MB ∧ MB ≤ 1024) := ⟨hmk, hm1.2⟩
        clear hm1 hmk HMB HMK
        go_wp2_with fail
        refine HBT.mono ?_
        rintro e w6 ⟨rfl, hb6⟩
        have hB6 := hBr.trans (hb6.mono hBr.size)
        have hown6 := ownsRow_belowW hown hb6
        obtain ⟨v7, W7, hr7, ho7, -, hb7⟩ := app_oneW 40 62 _ 4 48 under_fldsW info_fldW3 rfl (by decide) (by decide) w6 w1.heap.size _ _ _ (fldW 2 0 MB).toList hown6 rfl (fldW_one 2 0 MB) (by have := HLN.out; omega) hB6.size
        have HB7 := hb7 (Nat.le_refl _) hB6 hB6.size
        have HF : Hid (Flds W7 1 v7 (recF NS MK)) := by
          show Flds _ _ _ _
          have hl : (recF NS none).length + 1 = (recF NS (some MB)).length := by rw [recF_len, recF_len]; simp
          rw [← fldsW_byt, hl] at ho7
          rw [HMK2.out.1]
          exact fldsW_own NS (some MB) ho7 HB12.out (fun m h => by cases h; have := HMK2.out.2; omega) (by rw [← hl]; have := HLN.out; omega)
        have HBZ : Hid (Below w.heap.size w W7) := hB1.trans (HB7.mono HBW.out)
        clear hown hown6 ho7 hb7 hb6 hB6 hBr HB7 HBT
        go_wp2_with (at_builtin; refine app_ranW _ W7 rfl _ _ 40 rfl _ _ v7 rfl rfl hr7 ?_)
        go_ret
        exact ⟨_, rfl, HF.out, HBZ.out⟩
end Go.Proofs.Ytgfcindkfnjeoaa
