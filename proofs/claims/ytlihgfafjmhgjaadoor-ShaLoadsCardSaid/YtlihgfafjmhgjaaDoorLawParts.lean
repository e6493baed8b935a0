/-
  What is proved here: of all parts, the statement ShaParts answers true: in whichever parts bytes are written, put down and taken up between, the hash is that of the whole, and its Save, too.
  Conditions: the variables firstWords and roundWords hold the words of SHA-256.
-/
import Derived.Test.YtlihgfafjmhgjaaDoorShaAwake
import Derived.Test.YtlihgfafjmhgjaaDoorShaBack
import Derived.Test.YtlihgfafjmhgjaaDoorRefSum
import Derived.Test.YtlihgfafjmhgjaaDoorRefSave
import Derived.Test.YtlihgfafjmhgjaaDoorAnyHeld
import Derived.Test.YtlihgfafjmhgjaaDoorLawApart
import Derived.Stop.BytesEq
import Derived.Laws.IdiomStrings
namespace Go.Proofs.YtlihgfafjmhgjaaDoor
open Go.RowKit

/-- Rows of bytes: a slice of slices that came in. -/
def Segs (w : World) (v : Value) (L : List (List UInt8)) : Prop :=
  ∃ ao c, v = .slice ao L.length c ∧ L.length ≤ maxLen ∧ (0 < L.length → ∃ b off, ao = some ⟨b, off, none⟩ ∧ b < w.heap.size ∧ L.length ≤ c ∧ ∀ i r, L[i]? = some r → ∃ a n cc, w.cell? ⟨b, off + i, none⟩ = some (.slice a n cc) ∧ r.length = n ∧ n ≤ maxLen ∧ Seg w (.slice a n cc) r)
theorem cat_step (L : List (List UInt8)) (I : Nat) (r : List UInt8) (h : L[I]? = some r) : (L.take (I + 1)).flatten = (L.take I).flatten ++ r := by
  rw [List.take_add_one, h]; simp

set_option maxRecDepth 100000 in
theorem own_string {w : World} {base : Nat} {v : Value} {bs : List UInt8} (h : Own w base v bs) (hn : 0 < bs.length) (t : TypeId) (ht : Tryd.prog.underlying t = some .string) : (convert 26 t v).run Tryd.prog w = .ok (.string ⟨bs.toArray⟩) w := by
  obtain ⟨g, cap, rfl, _, _, _, hr⟩ := h.form hn
  exact run_convert_bytes_back w 26 t 5 ⟨g, 0, none⟩ cap bs Tryd.underlying26 Tryd.underlying5 ht (fun j hj => by rw [Addr.add_mid]; exact hr j hj)

set_option maxRecDepth 100000 in
theorem hlen_any (g : Nat) (s : St) (d : List UInt8) (len : Nat) (w : World) (hh : HashAt w g s d len) (hlen : len < 576460752303423488) :
    Calls Tryd.prog 13 #[.pointer (some ⟨g, 0, none⟩)] w fun e w' => e = .returned (.int .i64 (len : Int)) ∧ w' = w := by
  have hpl := pad64_len (restOf d) (by rw [restOf_len]; omega)
  unfold HashAt at hh
  have hc72 := hh.cell (j := 72) (v := .int .u64 (len : Int)) (by simp [hashCells, St.list, hpl])
  go_enter Tryd.func13, Tryd.ntmps13
  go_wp2
  go_ret
  exact ⟨rfl, rfl⟩
theorem neq_string_self (w : World) (s : ByteArray) : (binOp .neq 9 (.string s) (.string s)).run Tryd.prog w = .ok (.bool false) w := by
  rw [binOp_string_neq]
  simp
theorem exec_len {a : Act} {o : Oper} {w : World} (x : Operand) (ho : o.op = .call { callee := .builtin .len, args := #[x], argTypes := #[26] }) (ao : Option Addr) (n c : Nat) (hx : a.eval x = .slice ao n c) : (execOp a.eval o).run Tryd.prog w = .ok (.value (.int .i64 (n : Int))) w := by
  unfold execOp
  have hl : ∀ cs, builtin .len #[26] o.type cs #[.slice ao n c] = (do pure (.value (← Builtin.len_ #[26] o.type #[.slice ao n c]))) := fun _ => rfl
  simp [ho, resolve, invoke, hx, hl, Builtin.len_, run_underlying Tryd.underlying26]
  rfl
theorem neq_int_self (w : World) (n : Int) : (binOp .neq 3 (.int .i64 n) (.int .i64 n)).run Tryd.prog w = .ok (.bool false) w := by
  show Result.ok (Value.bool (!(n == n))) w = _
  simp

set_option maxRecDepth 100000 in
set_option maxHeartbeats 1000000 in
theorem shaParts_any (x : Value) (L : List (List UInt8)) (w : World) (hL : Segs w x L) (hgf : 0 < w.heap.size) (hf : Tab w 0 (St.start.list.map v32)) (hgk : 1 < w.heap.size) (hk : Tab w 1 (kWords.map v32)) :
    Calls Tryd.prog 3 #[x] w fun e w' => e = .returned (.bool true) ∧ Below w.heap.size w w' := by
  obtain ⟨ao, c, rfl, hm, hrows⟩ := hL
  unfold maxLen at hm
  obtain ⟨len, hlen⟩ : ∃ len, L.length = len := ⟨_, rfl⟩
  rw [hlen] at hm hrows ⊢
  go_enter Tryd.func3, Tryd.ntmps3
  go_wp2_with (first | (go_at_call 7; refine (awake_any _ hgf hf hgk hk).mono ?_; rintro e w1 ⟨rfl, hb1⟩) | (go_at_call 8; refine (new_hash _ (by exact hf.below hb1 hgf)).mono ?_; rintro e w2 ⟨rfl, hH2, hb2⟩) | fail)
  have s1 := hb1.size
  have s2 := hb2.size
  have hB2 : Below w.heap.size w w2 := hb1.trans (hb2.mono s1)
  have hgh := hH2.lt
  clear hb1 hb2
  generalize w1.heap.size = g0 at *
  go_loopw [4, 5, 6] (fun h al i wr => ∃ (I gh : Nat) (D : List UInt8), I ≤ len ∧ I ≤ 50 ∧ i = .int .i64 (I : Int) ∧ h = .pointer (some ⟨gh, 0, none⟩) ∧ D = (L.take I).flatten ∧ D.length ≤ 3000 * I ∧ HashAt wr gh St.start D D.length ∧ w.heap.size ≤ gh ∧ Own wr w.heap.size al D ∧ al.ownBlock ≠ some gh ∧ Below w.heap.size w wr) (fun _ _ i _ => 50 - (intOf i).toNat)
  case atStart => exact ⟨0, g0, [], Nat.zero_le _, Nat.zero_le _, rfl, rfl, rfl, Nat.le_refl _, hH2, s1, ⟨rfl, .inl ⟨rfl, rfl⟩⟩, by simp [Value.ownBlock], hB2⟩
  case round =>
    clear hH2 hB2 s1 s2 hgh
    obtain ⟨I, gh, D, hI, hI5, rfl, rfl, hD, hDl, hH, hgw, hO, hne, hB⟩ := hrel
    have hBs := hB.size
    have hgl := hH.lt
    by_cases hlt : I < len ∧ I < 50
    · obtain ⟨hl1, hl2⟩ := hlt
      obtain ⟨b, off, hao, hbw, hcx, hcell⟩ := hrows (by omega)
      subst hao
      obtain ⟨r, hr⟩ : ∃ r, L[I]? = some r := ⟨L[I], List.getElem?_eq_getElem (by omega)⟩
      obtain ⟨a, n, cc, hce, hrn, hnm, hsg⟩ := hcell I r hr
      unfold maxLen at hnm
      have hce' : wr.cell? ⟨b, off + I, none⟩ = some (.slice a n cc) := ((bcell hB).1 b (off + I) hbw).trans hce
      have i1 : (I : Int) < (len : Int) := by omega
      have i2 : (I : Int) < 50 := by omega
      by_cases hbig : 3000 < n
      · go_wp2_with fail
        go_ret
        exact ⟨rfl, hB⟩
      · go_wp2_with fail
        refine (write_any gh St.start D D.length _ r wr hH rfl (hsg.below hB (Nat.le_refl _)) (seg_apart hsg hrn gh hgw) (by omega) (by omega) (by exact hk.below hB hgk)).mono ?_
        rintro e w3 ⟨rfl, hH3, hg3⟩
        have HD : Hid (D ++ r = (L.take (I + 1)).flatten) := by show _ = _; rw [cat_step L I r hr, hD]
        have hB3 := below_grown hB hg3 hBs (fun q hq => by cases hq; exact hgw)
        have hO3 : Own w3 w.heap.size u5 D := hO.grown hg3 (.inr hne)
        have s3 := hB3.size
        have sr3 := hsg.below hB3 (Nat.le_refl _)
        have hlr : (D ++ r).length = D.length + r.length := by simp
        rw [← hlr] at hH3
        have hDr : (D ++ r).length ≤ 3000 * (I + 1) := by rw [hlr]; omega
        have hce3 : w3.cell? ⟨b, off + I, none⟩ = some (.slice a n cc) := ((bcell hB3).1 b (off + I) hbw).trans hce
        have hg3l := hg3.size
        clear hH hO hB hg3 hce hce' hD
        go_wp2_with (at_builtin; refine app_own _ rfl (.tmp 40) (.tmp 44) rfl w.heap.size _ D rfl hO3 _ r rfl (by exact sr3) (by omega) s3 ?_; intro v4 w4 ho4 hg4 hv4)
        have hB4 := below_grown hB3 hg4 s3 (fun q hq => (hO3.blocks q hq).1)
        have hne4 : v4.ownBlock ≠ some gh := by
          rcases hv4 with h | h
          · rw [h]; exact hne
          · rw [h]; intro h2; have := Option.some.inj h2; omega
        have hH4 := HashAt.grown hH3 hg4 (fun h => hne h.symm)
        have s4 := hB4.size
        have hgl4 := hH4.lt
        obtain ⟨a4, c4, hv4e⟩ : ∃ ao c, v4 = .slice ao (D ++ r).length c := by
          rcases ho4.seg with ⟨h, ao, c, h2, _⟩ | ⟨b, off, c, h2, _, _, _⟩
          · rw [h]; exact ⟨ao, c, h2⟩
          · exact ⟨_, c, h2⟩
        subst hv4e
        clear hH3 hO3 hB3 hg4 hv4 hce3 sr3 hlr
        have hDI : (D ++ r).length ≤ 150000 := by omega
        generalize D ++ r = E at *
        obtain ⟨EL, hEL⟩ : ∃ EL, E.length = EL := ⟨_, rfl⟩
        rw [hEL] at ho4 hH4 hDr hDI hne4 ⊢
        refine (hsave_any gh St.start E EL w4 hH4 (by rw [hEL]) (by omega)).mono ?_
        rintro e w5 ⟨v5, rfl, ho5, hb5⟩
        have hB5 : Below w.heap.size w w5 := hB4.trans (hb5.mono s4)
        have hH5 := hH4.below hb5 hgl4
        have hA5 := ho4.below hb5 (Nat.le_refl _)
        have s5 := hB5.size
        have g5 := hb5.size
        clear hB4 hH4 hb5 ho4
        go_wp2_with fail
        refine (load_save v5 St.start E EL w5 ho5.seg (by omega) (by rw [hEL])).mono ?_
        rintro e w6 ⟨gx, rfl, hgx, hX6, hb6⟩
        have hB6 : Below w.heap.size w w6 := hB5.trans (hb6.mono s5)
        have hH6 := hH5.below hb6 hH5.lt
        have hA6 := hA5.below hb6 (Nat.le_refl _)
        have hO6 := ho5.below hb6 (Nat.le_refl _)
        have s6 := hB6.size
        have hgl6 := hH6.lt
        have hxl6 := hX6.lt
        have hnx : (Value.slice a4 EL c4).ownBlock ≠ some gx := fun h => by have := (hA5.blocks _ h).2; omega
        clear hB5 hH5 hb6 ho5 hA5
        go_wp2_with fail
        have hsv : 0 < (saveOf St.start E EL).length := by rw [save_len]; omega
        have hEs : sumOf St.start E EL = shaOf E := by unfold shaOf; rw [hEL]
        have heq : ∀ w : World, (binOp .neq 34 (.agg ((shaOf E).map v8).toArray) (.agg ((shaOf E).map v8).toArray)).run Tryd.prog w = .ok (.bool false) w := fun w => by
          have h1 := run_equalIn_bytes (P := Tryd.prog) w 9998 34 5 32 Tryd.underlying34 Tryd.underlying5 (fun w => by kernel_rfl) (shaOf E) (shaOf E) (wbytes_len _) (wbytes_len _)
          rw [beq_self_eq_true] at h1
          have h2 : (Op.equalIn 10000 34 (.agg ((shaOf E).map v8).toArray) (.agg ((shaOf E).map v8).toArray)).run Tryd.prog w = .ok true w := h1
          rw [run_neq_struct, h2]; rfl
        refine held_begin (fun W => Below w6.heap.size w6 W) (by kernel_rfl) ?_
        have hS6 : Below w6.heap.size w6 w6.drew := (Below.refl _ _).drew
        refine held_one 0 53 _ (.int .i64 0) rfl rfl (by kernel_rfl) rfl hS6 rfl ?_
        simp only [Act.put, List.setIfInBounds_toArray, List.set_cons_succ, List.set_cons_zero]
        refine held_one 1 54 _ (.bool false) rfl rfl (by kernel_rfl) rfl hS6 (exec_cmp _ _ _ _ _ rfl (.inl rfl) _ _ _ rfl rfl rfl rfl) ?_
        simp only [Act.put, List.setIfInBounds_toArray, List.set_cons_succ, List.set_cons_zero]
        refine held_one 2 55 _ (.bool false) rfl rfl (by kernel_rfl) rfl hS6 rfl ?_
        simp only [Act.put, List.setIfInBounds_toArray, List.set_cons_succ, List.set_cons_zero]
        refine held_one 3 56 _ (.pointer (some ⟨gx, 0, none⟩)) rfl rfl (by kernel_rfl) rfl hS6 rfl ?_
        simp only [Act.put, List.setIfInBounds_toArray, List.set_cons_succ, List.set_cons_zero]
        refine held_one 4 57 _ (.bool false) rfl rfl (by kernel_rfl) rfl hS6 (exec_cmp _ _ _ _ _ rfl (.inr rfl) _ _ _ rfl rfl rfl rfl) ?_
        simp only [Act.put, List.setIfInBounds_toArray, List.set_cons_succ, List.set_cons_zero]
        refine held_one 5 58 _ (.bool false) rfl rfl (by kernel_rfl) rfl hS6 rfl ?_
        simp only [Act.put, List.setIfInBounds_toArray, List.set_cons_succ, List.set_cons_zero]
        refine held_one 6 59 _ (.bool false) rfl rfl (by kernel_rfl) rfl hS6 rfl ?_
        simp only [Act.put, List.setIfInBounds_toArray, List.set_cons_succ, List.set_cons_zero]
        refine held_take 7 60 _ v5 rfl rfl (by kernel_rfl) (by kernel_rfl) (by kernel_rfl) rfl hS6 (fun _ _ => rfl) ?_
        simp only [Act.put, List.setIfInBounds_toArray, List.set_cons_succ, List.set_cons_zero]
        refine held_take 8 61 _ (.string ⟨(saveOf St.start E EL).toArray⟩) rfl rfl (by kernel_rfl) (by kernel_rfl) (by kernel_rfl) rfl hS6 (fun W hW => exec_conv _ _ _ rfl _ _ rfl (own_string (hO6.below hW (Nat.le_refl _)) hsv 9 Tryd.underlying9)) ?_
        simp only [Act.put, List.setIfInBounds_toArray, List.set_cons_succ, List.set_cons_zero]
        refine held_take 9 62 _ (.slice a4 EL c4) rfl rfl (by kernel_rfl) (by kernel_rfl) (by kernel_rfl) rfl hS6 (fun _ _ => rfl) ?_
        simp only [Act.put, List.setIfInBounds_toArray, List.set_cons_succ, List.set_cons_zero]
        refine held_call 10 63 _ 12 _ rfl rfl (by kernel_rfl) rfl (exec_one 12 _ _ rfl _ rfl Tryd.call12) ?_
        refine (refSave_any _ E _ (hA6.seg.below hS6 (Nat.le_refl _)) (by omega)).mono ?_
        rintro e w7 ⟨v7, rfl, ho7, hb7⟩
        rw [hEL] at ho7
        have hS7 : Below w6.heap.size w6 w7 := hS6.trans (hb7.mono hS6.size)
        refine ⟨v7, rfl, hS7, ?_⟩
        simp only [Act.put, List.setIfInBounds_toArray, List.set_cons_succ, List.set_cons_zero]
        refine held_one 11 64 _ (.string ⟨(saveOf St.start E EL).toArray⟩) rfl rfl (by kernel_rfl) rfl hS7 (exec_conv _ _ _ rfl _ _ rfl (own_string ho7 hsv 9 Tryd.underlying9)) ?_
        simp only [Act.put, List.setIfInBounds_toArray, List.set_cons_succ, List.set_cons_zero]
        refine held_one 12 65 _ (.bool false) rfl rfl (by kernel_rfl) rfl hS7 (exec_cmp _ _ _ _ _ rfl (.inl rfl) _ _ _ rfl rfl rfl (neq_string_self _ _)) ?_
        simp only [Act.put, List.setIfInBounds_toArray, List.set_cons_succ, List.set_cons_zero]
        refine held_one 13 66 _ (.bool false) rfl rfl (by kernel_rfl) rfl hS7 rfl ?_
        simp only [Act.put, List.setIfInBounds_toArray, List.set_cons_succ, List.set_cons_zero]
        refine held_one 14 67 _ (.bool false) rfl rfl (by kernel_rfl) rfl hS7 rfl ?_
        simp only [Act.put, List.setIfInBounds_toArray, List.set_cons_succ, List.set_cons_zero]
        refine held_take 15 68 _ (.pointer (some ⟨gh, 0, none⟩)) rfl rfl (by kernel_rfl) (by kernel_rfl) (by kernel_rfl) rfl hS7 (fun _ _ => rfl) ?_
        simp only [Act.put, List.setIfInBounds_toArray, List.set_cons_succ, List.set_cons_zero]
        refine held_take 17 70 _ (.slice a4 EL c4) rfl rfl (by kernel_rfl) (by kernel_rfl) (by kernel_rfl) rfl hS7 (fun _ _ => rfl) ?_
        simp only [Act.put, List.setIfInBounds_toArray, List.set_cons_succ, List.set_cons_zero]
        refine held_take 18 71 _ (.int .i64 (EL : Int)) rfl rfl (by kernel_rfl) (by kernel_rfl) (by kernel_rfl) rfl hS7 (fun _ _ => exec_len _ rfl _ _ _ rfl) ?_
        simp only [Act.put, List.setIfInBounds_toArray, List.set_cons_succ, List.set_cons_zero]
        refine held_call 16 69 _ 13 _ rfl rfl (by kernel_rfl) rfl (exec_one 13 _ _ rfl _ rfl Tryd.call13) ?_
        refine (hlen_any gh St.start E EL _ (hH6.below hS7 hgl6) (by omega)).mono ?_
        rintro e w8 ⟨rfl, rfl⟩
        refine ⟨_, rfl, hS7, ?_⟩
        simp only [Act.put, List.setIfInBounds_toArray, List.set_cons_succ, List.set_cons_zero]
        refine held_one 19 72 _ (.bool false) rfl rfl (by kernel_rfl) rfl hS7 (exec_cmp _ _ _ _ _ rfl (.inl rfl) _ _ _ rfl rfl rfl (neq_int_self _ _)) ?_
        simp only [Act.put, List.setIfInBounds_toArray, List.set_cons_succ, List.set_cons_zero]
        refine held_one 20 73 _ (.bool false) rfl rfl (by kernel_rfl) rfl hS7 rfl ?_
        simp only [Act.put, List.setIfInBounds_toArray, List.set_cons_succ, List.set_cons_zero]
        refine held_one 21 74 _ (.bool false) rfl rfl (by kernel_rfl) rfl hS7 rfl ?_
        simp only [Act.put, List.setIfInBounds_toArray, List.set_cons_succ, List.set_cons_zero]
        refine held_take 22 75 _ (.pointer (some ⟨gh, 0, none⟩)) rfl rfl (by kernel_rfl) (by kernel_rfl) (by kernel_rfl) rfl hS7 (fun _ _ => rfl) ?_
        simp only [Act.put, List.setIfInBounds_toArray, List.set_cons_succ, List.set_cons_zero]
        refine held_take 24 77 _ (.slice a4 EL c4) rfl rfl (by kernel_rfl) (by kernel_rfl) (by kernel_rfl) rfl hS7 (fun _ _ => rfl) ?_
        simp only [Act.put, List.setIfInBounds_toArray, List.set_cons_succ, List.set_cons_zero]
        refine held_call 23 76 _ 14 _ rfl rfl (by kernel_rfl) rfl (exec_one 14 _ _ rfl _ rfl Tryd.call14) ?_
        refine (hsum_any gh St.start E EL _ (hH6.below hS7 hgl6) (by rw [hEL]) (by omega) (by have := hS7.size; omega) ((hk.below hB6 hgk).below hS7 (by omega))).mono ?_
        rintro e w9 ⟨rfl, hb9⟩
        have hS9 : Below w6.heap.size w6 w9 := hS7.trans (hb9.mono hS7.size)
        refine ⟨_, rfl, hS9, ?_⟩
        rw [hEs]
        simp only [Act.put, List.setIfInBounds_toArray, List.set_cons_succ, List.set_cons_zero]
        refine held_call 25 78 _ 15 _ rfl rfl (by kernel_rfl) rfl (exec_one 15 _ _ rfl _ rfl Tryd.call15) ?_
        refine (refSum_any _ E _ (hA6.seg.below hS9 (Nat.le_refl _)) (by omega)).mono ?_
        rintro e w10 ⟨rfl, hb10⟩
        have hS10 : Below w6.heap.size w6 w10 := hS9.trans (hb10.mono hS9.size)
        refine ⟨_, rfl, hS10, ?_⟩
        simp only [Act.put, List.setIfInBounds_toArray, List.set_cons_succ, List.set_cons_zero]
        generalize ((shaOf E).map v8).toArray = AG at heq ⊢
        refine held_one 26 79 _ (.bool false) rfl rfl (by kernel_rfl) rfl hS10 (exec_cmp _ _ _ _ _ rfl (.inl rfl) _ _ _ rfl rfl rfl (heq _)) ?_
        simp only [Act.put, List.setIfInBounds_toArray, List.set_cons_succ, List.set_cons_zero]
        refine held_one 27 80 _ (.bool false) rfl rfl (by kernel_rfl) rfl hS10 rfl ?_
        simp only [Act.put, List.setIfInBounds_toArray, List.set_cons_succ, List.set_cons_zero]
        refine wpAnyH_done (by kernel_rfl) ?_ _
        refine NoPanic.normal ?_
        have hS : Below w.heap.size w w10 := hB6.trans (hS10.mono s6)
        have hH10 := hH6.below hS10 hgl6
        have hX10 := hX6.below hS10 hxl6
        have hO10 := hA6.below hS10 (Nat.le_refl _)
        have hE' := HD.out
        have hgxw : w.heap.size ≤ gx := by omega
        have hwr : IntKind.i64.wrap ((I : Int) + 1) = (I : Int) + 1 := by rw [IntKind.wrap_i64]; omega
        rcases Nat.mod_two_eq_zero_or_one I with hpar | hpar
        · have hp : ((I : Int).tmod 2 == 0) = true := by rw [Int.tmod_eq_emod_of_nonneg (by omega)]; simp; omega
          have hp' : ((I : Int) % 2 == 0) = true := by simp; omega
          go_wp2
          go_roundw
          case rel => exact ⟨I + 1, gx, E, hl1, hl2, by go_num, rfl, hE', by omega, by rw [hEL]; exact hX10, hgxw, hO10, hnx, hS⟩
          case measure => simp [intOf]; omega
        · have hp : ((I : Int).tmod 2 == 0) = false := by rw [Int.tmod_eq_emod_of_nonneg (by omega)]; simp; omega
          have hp' : ((I : Int) % 2 == 0) = false := by simp; omega
          go_wp2
          go_roundw
          case rel => exact ⟨I + 1, gh, E, hl1, hl2, by go_num, rfl, hE', by omega, by rw [hEL]; exact hH10, hgw, hO10, hne4, hS⟩
          case measure => simp [intOf]; omega
    · have heq : ∀ w : World, (Op.equalIn 10000 34 (.agg ((shaOf D).map v8).toArray) (.agg ((shaOf D).map v8).toArray)).run Tryd.prog w = .ok true w := fun w => by
        have h1 := run_equalIn_bytes (P := Tryd.prog) w 9998 34 5 32 Tryd.underlying34 Tryd.underlying5 (fun w => by kernel_rfl) (shaOf D) (shaOf D) (wbytes_len _) (wbytes_len _)
        rw [beq_self_eq_true] at h1
        exact h1
      have hEs : sumOf St.start D D.length = shaOf D := rfl
      have sgD := hO.seg
      clear hD
      by_cases hc1 : I < len
      · have i1 : (I : Int) < (len : Int) := by omega
        have i2 : ¬ (I : Int) < 50 := by omega
        go_wp2_with fail
        refine (hsum_any gh St.start D D.length wr hH rfl (by omega) (by omega) (hk.below hB hgk)).mono ?_
        rintro e w3 ⟨rfl, hb3⟩
        rw [hEs]
        go_wp2_with fail
        have hB3 : Below w.heap.size w w3 := hB.trans (hb3.mono hBs)
        have s3 := hB3.size
        refine (sum_any _ D w3 (sgD.below hb3 (Nat.le_refl _)) (by omega) (by omega) (hf.below hB3 hgf) (by omega) (hk.below hB3 hgk)).mono ?_
        rintro e w4 ⟨rfl, hb4⟩
        generalize ((shaOf D).map v8).toArray = AG at heq ⊢
        go_wp2
        go_ret
        exact ⟨rfl, hB3.trans (hb4.mono s3)⟩
      · have i1 : ¬ (I : Int) < (len : Int) := by omega
        go_wp2_with fail
        refine (hsum_any gh St.start D D.length wr hH rfl (by omega) (by omega) (hk.below hB hgk)).mono ?_
        rintro e w3 ⟨rfl, hb3⟩
        rw [hEs]
        go_wp2_with fail
        have hB3 : Below w.heap.size w w3 := hB.trans (hb3.mono hBs)
        have s3 := hB3.size
        refine (sum_any _ D w3 (sgD.below hb3 (Nat.le_refl _)) (by omega) (by omega) (hf.below hB3 hgf) (by omega) (hk.below hB3 hgk)).mono ?_
        rintro e w4 ⟨rfl, hb4⟩
        generalize ((shaOf D).map v8).toArray = AG at heq ⊢
        go_wp2
        go_ret
        exact ⟨rfl, hB3.trans (hb4.mono s3)⟩
end Go.Proofs.YtlihgfafjmhgjaaDoor
