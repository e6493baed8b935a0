/-
  What is proved here: the document's Plan.
  Conditions: at most a thousand devices.
-/
import Derived.Test.YtnagdgkkkkpekaaDoorRefWave
import Derived.Test.YtnagdgkkkkpekaaDoorWavePlan
import Derived.Lib.QuietBelow
namespace Go.Proofs.YtnagdgkkkkpekaaDoor
open Go.RowKit

theorem add_zero_addrI (ao : Option Addr) : ao.map (·.add 0) = ao := by
  cases ao with
  | none => rfl
  | some a => obtain ⟨b, o, s⟩ := a; simp [Addr.add]
theorem slice_toI (ao : Option Addr) (len c n : Nat) (h : n ≤ c) (w : World) : (Instr.slice 22 (.slice ao len c) none (some (.int .i64 (n : Int))) none).run Tryd.prog w = .ok (.slice ao n c) w := by
  rw [run_slice_h w 22 ao len c (by rw [elem_intsW]; exact Tryd.underlying22) .i64 n (by omega) (by omega), elem_intsW, size_intW]
  simp only [Result.andThen_ok, sliced, Int.toNat_natCast, Nat.zero_mul, add_zero_addrI, Nat.sub_zero, ite_self]
theorem slice_restI (ao : Option Addr) (len c lo : Nat) (h : lo ≤ len) (w : World) : (Instr.slice 22 (.slice ao len c) (some (.int .i64 (lo : Int))) none none).run Tryd.prog w = .ok (.slice (restD ao c lo) (len - lo) (c - lo)) w := by
  rw [run_slice_l w 22 ao len c (by rw [elem_intsW]; exact Tryd.underlying22) .i64 lo (by omega) (by omega), elem_intsW, size_intW]
  simp only [Result.andThen_ok, sliced, Int.toNat_natCast, restD]
theorem IntsI.takes {w : World} {ao : Option Addr} {len c : Nat} {zs : List Int} (h : IntsI w (.slice ao len c) zs) (n : Nat) (hn : n ≤ len) : IntsI w (.slice ao n c) (zs.take n) := by
  obtain ⟨ao', c', e, h2, h3, h3', h4⟩ := h
  cases e
  have hl : (zs.take n).length = n := by simp; omega
  refine ⟨ao, c, by rw [hl], by rw [hl]; omega, by rw [hl]; omega, h3', fun j z hz => ?_⟩
  have hj : j < n := by have := (List.getElem?_eq_some_iff.1 hz).1; omega
  rw [List.getElem?_take_of_lt hj] at hz
  exact h4 j z hz
theorem IntsI.drops {w : World} {ao : Option Addr} {len c : Nat} {zs : List Int} (h : IntsI w (.slice ao len c) zs) (n : Nat) (hn : n ≤ len) : IntsI w (.slice (restD ao c n) (len - n) (c - n)) (zs.drop n) := by
  have := h.mid n (len - n) (by omega)
  obtain ⟨_, _, e, _⟩ := h
  cases e
  rwa [List.take_of_length_le (by simp)] at this
/-- How many come ahead of a device. -/
def posW (c : Int) (S : List Int) (d : Int) : Nat := (S.takeWhile (fun x => befW c x d)).length
theorem posW_le (c : Int) (S : List Int) (d : Int) : posW c S d ≤ S.length := (List.takeWhile_sublist _).length_le
theorem posW_split (c : Int) (S : List Int) (d : Int) : insW c S d = S.take (posW c S d) ++ [d] ++ S.drop (posW c S d) := by
  unfold insW posW
  have h := List.takeWhile_append_dropWhile (p := fun x => befW c x d) (l := S)
  generalize S.takeWhile (fun x => befW c x d) = A at *
  generalize S.dropWhile (fun x => befW c x d) = B at *
  subst h
  simp
theorem posW_yes (c : Int) : ∀ (S : List Int) (d : Int) (t : Nat) (h : t < S.length), t < posW c S d → befW c S[t] d = true
  | [], _, t, h, _ => by simp at h
  | x :: S, d, t, h, ht => by
    unfold posW at ht
    rw [List.takeWhile_cons] at ht
    split at ht
    · next hx =>
      cases t with
      | zero => exact hx
      | succ t => exact posW_yes c S d t (by simpa using h) (by unfold posW; simpa using ht)
    · simp at ht
theorem posW_no (c : Int) : ∀ (S : List Int) (d : Int) (x : Int), S[posW c S d]? = some x → befW c x d = false
  | [], _, _, h => by simp at h
  | y :: S, d, x, h => by
    by_cases hy : befW c y d = true
    · have e : posW c (y :: S) d = posW c S d + 1 := by unfold posW; rw [List.takeWhile_cons, if_pos hy]; rfl
      rw [e, List.getElem?_cons_succ] at h
      exact posW_no c S d x h
    · have e : posW c (y :: S) d = 0 := by unfold posW; rw [List.takeWhile_cons, if_neg hy]; rfl
      rw [e, List.getElem?_cons_zero] at h
      rw [← Option.some.inj h]
      simpa using hy
theorem ints_newR (w : World) (zs : List Int) (t : TypeId) (n : Nat) (hn : n = w.heap.size) (hl : zs.length ≤ maxLen) : IntsI (w.alloc (.cells (zs.map vI).toArray t)) (.slice (some ⟨n, 0, none⟩) zs.length zs.length) zs := by
  subst hn
  refine ⟨_, _, rfl, Nat.le_refl _, hl, (fun e => by cases e), fun j z hz => ⟨w.heap.size, 0, rfl, by simp, ?_⟩⟩
  rw [Nat.zero_add, (Blk.new w t (zs.map vI).toArray).cell (v := vI z) (by simp [hz])]
/-- append onto a slice of ints of the call's own: nothing below its blocks changes. -/
theorem app_intsB (w : World) {ops : Array Oper} {rest : List Oper} {o : Oper} {a : Act} {Q : Exit → Act → World → Prop} (hgd : o.guard = none) (s x : Operand)
    (ho : o.op = .call { callee := .builtin .append, args := #[s, x], argTypes := #[22, 22] })
    (base : Nat) (v : Value) (l : List Int) (hs : a.eval s = v) (hown : OwnZ w base v l) (xv : Value) (nw : List Int) (hx : a.eval x = xv) (hI : IntsI w xv nw)
    (hlen : l.length + nw.length ≤ 1000000000) (hbase : base ≤ w.heap.size)
    (hK : ∀ v' w', OwnZ w' base v' (l ++ nw) → Below base w w' → wpList Tryd.prog ops Q rest (a.put o.dst v') w') :
    wpList Tryd.prog ops Q (o :: rest) a w :=
  app_ints w hgd s x ho base v l hs hown xv nw hx hI hlen hbase fun v' w' h1 h2 _ => hK v' w' h1 ((Below.refl base w).grown h2 hbase (fun q hq => (hown.blocks q hq).1))
set_option maxRecDepth 100000 in
set_option maxHeartbeats 4000000 in
theorem rplan_any (c : Int) (x y : Value) (ds ps : List Int) (w : World) (hx : IntsI w x ds) (hy : IntsI w y ps) (hl : ds.length ≤ 1000) :
    Calls Tryd.prog 11 #[.int .i64 c, x, y] w fun e w' => ∃ v, e = .returned (.tuple #[v, .int .i64 (planW c ds ps).2]) ∧ PlanZ w' w.heap.size v (planW c ds ps).1 ∧ Below w.heap.size w w' := by
  have H3 : Hid (Calls Tryd.prog 14 #[y] w fun e w' => e = .returned (.bool (partsW ps)) ∧ Below w.heap.size w w') := rright15_any y ps w hy
  have HR : Hid (0 < ds.length → ∃ b off c, x = .slice (some ⟨b, off, none⟩) ds.length c ∧ ds.length ≤ c ∧ b < w.heap.size ∧ ∀ (j : Nat) z, ds[j]? = some z → w.cell? ⟨b, off + j, none⟩ = some (vI z)) := fun h => hx.form h
  have HP : Hid (0 < ps.length → ∃ b off c, y = .slice (some ⟨b, off, none⟩) ps.length c ∧ ps.length ≤ c ∧ b < w.heap.size ∧ ∀ (j : Nat) z, ps[j]? = some z → w.cell? ⟨b, off + j, none⟩ = some (vI z)) := fun h => hy.form h
  obtain ⟨ax, cx, rfl⟩ := hx.shape
  obtain ⟨ay, cy, rfl⟩ := hy.shape
  clear hx hy
  by_cases hc0 : c < 1
  · have hp : planW c ds ps = ([], 1) := if_pos (.inl (by omega))
    rw [hp]
    have D : decide (c < 1) = true := decide_eq_true hc0
    clear hc0 hp
    go_enter Tryd.func11, Tryd.ntmps11
    go_wp2_with fail
    refine H3.out.mono ?_
    rintro e w1 ⟨rfl, hb1⟩
    go_wp2
    go_ret2
    exact ⟨_, rfl, PlanZ.nil _ _, hb1⟩
  have D : decide (c < 1) = false := decide_eq_false hc0
  by_cases hc1 : 1073741824 < c
  · have hp : planW c ds ps = ([], 1) := if_pos (.inl (by omega))
    rw [hp]
    have D1 : decide (1073741824 < c) = true := decide_eq_true hc1
    clear hc0 hc1 hp
    go_enter Tryd.func11, Tryd.ntmps11
    go_wp2_with fail
    refine H3.out.mono ?_
    rintro e w1 ⟨rfl, hb1⟩
    go_wp2
    go_ret2
    exact ⟨_, rfl, PlanZ.nil _ _, hb1⟩
  have D1 : decide (1073741824 < c) = false := decide_eq_false hc1
  cases hpt : partsW ps with
  | false =>
    have hp : planW c ds ps = ([], 1) := if_pos (.inr (.inr hpt))
    rw [hp]
    rw [hpt] at H3
    clear hc0 hc1 hp hpt
    go_enter Tryd.func11, Tryd.ntmps11
    go_wp2_with fail
    refine H3.out.mono ?_
    rintro e w1 ⟨rfl, hb1⟩
    go_wp2
    go_ret2
    exact ⟨_, rfl, PlanZ.nil _ _, hb1⟩
  | true =>
    rw [hpt] at H3
    obtain ⟨C, rfl⟩ := Int.eq_ofNat_of_zero_le (show 0 ≤ c by omega)
    have HC : Hid (1 ≤ C ∧ C ≤ 1073741824) := ⟨by omega, by omega⟩
    have HPT : Hid (partsW ps = true) := hpt
    obtain ⟨PL, hPL⟩ : ∃ PL, PL = planW C ds ps := ⟨_, rfl⟩
    rw [← hPL]
    have HPL : Hid (PL = planW C ds ps) := hPL
    clear hc0 hc1 hpt hPL
    go_enter Tryd.func11, Tryd.ntmps11
    go_wp2_with fail
    refine H3.out.mono ?_
    rintro e w1 ⟨rfl, hB1⟩
    go_wp2_with fail
    clear D D1
    go_loopw [9] (fun i wr => ∃ k : Nat, k ≤ ds.length ∧ i = .int .i64 (k : Int) ∧ Hid (∀ j (h : j < ds.length), j < k → 1 ≤ ds[j] ∧ ds[j] ≤ 4096) ∧ Below w.heap.size w wr) (fun i _ => ds.length - (Go.RowKit.intOf i).toNat)
    case atStart => exact ⟨0, Nat.zero_le _, rfl, (fun j _ h => by omega), hB1⟩
    case round =>
      clear hB1
      obtain ⟨k, hk, rfl, HK, hB⟩ := hrel
      by_cases hlt : k < ds.length
      · have i1 : (k : Int) < (ds.length : Int) := by omega
        obtain ⟨b, off, c', hxx, _, hb, hr⟩ := HR.out (by omega)
        cases hxx
        have hc1 : wr.cell? ⟨b, off + k, none⟩ = some (vI ds[k]) := (hB.cell (p := ⟨b, off + k, none⟩) hb).trans (hr k _ (List.getElem?_eq_getElem hlt))
        have ix := fun w => index_intsI b off ds.length cx k w hlt
        have HD : Hid (¬ (1 ≤ ds[k] ∧ ds[k] ≤ 4096) → PL = ([], 1)) := fun h => by
          rw [HPL.out]; exact if_pos (.inr (.inl ⟨ds[k], List.getElem_mem hlt, h⟩))
        have HK2 : Hid (1 ≤ ds[k] ∧ ds[k] ≤ 4096 → ∀ j (h : j < ds.length), j < k + 1 → 1 ≤ ds[j] ∧ ds[j] ≤ 4096) := fun h0 j h hj => by
          by_cases e : j = k
          · subst e; exact h0
          · exact HK.out j h (by omega)
        generalize hdd : ds[k] = d at *
        clear hr hdd HK
        by_cases h1 : d < 1
        · have D : decide (d < 1) = true := decide_eq_true h1
          have HE : Hid (PL = ([], 1)) := HD.out (by omega)
          clear h1 HK2 HD
          go_wp2
          go_ret2
          rw [HE.out]
          exact ⟨_, rfl, PlanZ.nil _ _, hB⟩
        · have D : decide (d < 1) = false := decide_eq_false h1
          by_cases h2 : 4096 < d
          · have D1 : decide (4096 < d) = true := decide_eq_true h2
            have HE : Hid (PL = ([], 1)) := HD.out (by omega)
            clear h1 h2 HK2 HD
            go_wp2
            go_ret2
            rw [HE.out]
            exact ⟨_, rfl, PlanZ.nil _ _, hB⟩
          · have D1 : decide (4096 < d) = false := decide_eq_false h2
            have HN := HK2.out (by omega)
            have HNN : Hid (∀ j (h : j < ds.length), j < k + 1 → 1 ≤ ds[j] ∧ ds[j] ≤ 4096) := HN
            clear h1 h2 HK2 HD HN
            go_wp2
            go_roundw
            case rel => exact ⟨k + 1, hlt, by go_num, HNN.out, hB⟩
            case measure => simp [Go.RowKit.intOf] <;> omega
      · have hkl : k = ds.length := by omega
        have HIN : Hid (∀ d ∈ ds, 1 ≤ d ∧ d ≤ 4096) := fun d hd => by
          obtain ⟨j, hj, rfl⟩ := List.getElem_of_mem hd
          exact HK.out j hj (by omega)
        have HPL2 : Hid (PL = if ¬ ds.Nodup then ([], 5) else (cutW (sortW C ds) 0 ps, 0)) := by
          rw [HPL.out]
          refine if_neg ?_
          rintro (h | ⟨d, hd, h⟩ | h)
          · have := HC.out; omega
          · exact h (HIN.out d hd)
          · rw [HPT.out] at h; cases h
        have i1 : ¬ (k : Int) < (ds.length : Int) := by omega
        clear HK hkl hlt HPL
        go_wp2_with fail
        clear i1 hk
        go_loopw [10, 11, 12, 13] (fun o i _ _ wr => ∃ k : Nat, k ≤ ds.length ∧ i = .int .i64 (k : Int) ∧ OwnZ wr w.heap.size o (sortW C (ds.take k)) ∧ Hid (ds.take k).Nodup ∧ Below w.heap.size w wr) (fun _ i _ _ _ => ds.length - (Go.RowKit.intOf i).toNat)
        case atStart => exact ⟨0, Nat.zero_le _, rfl, by rw [List.take_zero, show sortW C [] = [] by unfold sortW; simp]; exact OwnZ.nil _ _, List.nodup_nil, hB⟩
        case round =>
          clear hB
          obtain ⟨k, hk, rfl, hO, HN, hB⟩ := hrel
          -- THE INSERTION
          by_cases hlt : k < ds.length
          · have i1 : (k : Int) < (ds.length : Int) := by omega
            obtain ⟨b, off, c', hxx, _, hb, hr⟩ := HR.out (by omega)
            cases hxx
            have ix := fun w => index_intsI b off ds.length cx k w hlt
            have hdd := HIN.out ds[k] (List.getElem_mem hlt)
            have hdt : ds.take (k + 1) = ds.take k ++ [ds[k]] := by rw [List.take_add_one, List.getElem?_eq_getElem hlt]; rfl
            have hdc := hr k _ (List.getElem?_eq_getElem hlt)
            have hnotnd : ds[k] ∈ ds.take k → ¬ ds.Nodup := fun hm hnd => by
              have h1 : (ds.take (k + 1)).Nodup := hnd.sublist (List.take_sublist _ _)
              rw [hdt, List.nodup_append] at h1
              exact h1.2.2 _ hm _ (List.mem_singleton.2 rfl) rfl
            have hyesnd : ¬ ds[k] ∈ ds.take k → (ds.take (k + 1)).Nodup := fun hm => by
              rw [hdt, List.nodup_append]
              exact ⟨HN.out, by simp, fun a ha b hb => by rw [List.mem_singleton.1 hb]; rintro rfl; exact hm ha⟩
            obtain ⟨S, hS⟩ : ∃ S, S = sortW C (ds.take k) := ⟨_, rfl⟩
            have hmem : ∀ z, z ∈ S ↔ z ∈ ds.take k := fun z => by rw [hS]; exact (sortW_perm C _).mem_iff
            have HSL : Hid (S.length ≤ 1000) := by show _ ≤ _; rw [hS, sortW_len, List.length_take]; omega
            have HSI : Hid (∀ z ∈ S, 1 ≤ z ∧ z ≤ 4096) := fun z hz => HIN.out z (List.mem_of_mem_take ((hmem z).1 hz))
            have hpair : S.Pairwise (fun a b => leW C a b = true) := by rw [hS]; exact sortW_pair _ _
            have hnew : sortW C (ds.take (k + 1)) = insW C S ds[k] := by rw [hdt, hS, insW_sort]
            rw [← hS] at hO
            obtain ⟨z, hz⟩ : ∃ z, z = ds[k] := ⟨_, rfl⟩
            rw [← hz] at hdd hdc hnotnd hyesnd hnew
            obtain ⟨d, rfl⟩ := Int.eq_ofNat_of_zero_le (show 0 ≤ z by omega)
            obtain ⟨T, hT⟩ : ∃ T, T = posW C S d := ⟨_, rfl⟩
            have HTL : Hid (T ≤ S.length) := by rw [hT]; exact posW_le _ _ _
            have HNEW : Hid (sortW C (ds.take (k + 1)) = S.take T ++ [(d : Int)] ++ S.drop T) := by rw [hT, ← posW_split]; exact hnew
            have HYES : Hid (∀ t (h : t < S.length), t < T → befW C S[t] d = true) := fun t h ht => posW_yes C S d t h (by rw [← hT]; exact ht)
            have HNO : Hid (∀ h : T < S.length, befW C S[T] d = false) := fun h => posW_no C S d _ (by rw [← hT]; exact List.getElem?_eq_getElem h)
            have HEQ : Hid ((S[T]? = some (d : Int)) ↔ (d : Int) ∈ ds.take k) := ⟨fun h => (hmem _).1 (List.mem_of_getElem? h), fun h => by rw [hT]; exact bef_again C S d hpair ((hmem _).2 h)⟩
            have HNND : Hid ((d : Int) ∈ ds.take k → ¬ ds.Nodup) := hnotnd
            have HYND : Hid (¬ (d : Int) ∈ ds.take k → (ds.take (k + 1)).Nodup) := hyesnd
            have HDD : Hid (d ≤ 4096) := (by omega : d ≤ 4096)
            have HDC : Hid (w.cell? ⟨b, off + k, none⟩ = some (vI (d : Int))) := hdc
            obtain ⟨wo, rfl⟩ : ∃ wo : World, wo = wr := ⟨_, rfl⟩
            have HOI : Hid (IntsI wo u10 S) := hO.ints
            obtain ⟨ao, co, rfl⟩ := HOI.out.shape
            have HCO : Hid (S.length ≤ co) := by obtain ⟨_, _, e, h, _⟩ := HOI.out; cases e; exact h
            have HOF : Hid (0 < S.length → ∃ b off c, (Value.slice ao S.length co) = .slice (some ⟨b, off, none⟩) S.length c ∧ S.length ≤ c ∧ b < wo.heap.size ∧ ∀ (j : Nat) z, S[j]? = some z → wo.cell? ⟨b, off + j, none⟩ = some (vI z)) := fun h => HOI.out.form h
            have HBO : Hid (Below w.heap.size w wo) := hB
            have HBF : Hid (∀ (q : Nat) (W : World), q ≤ 4096 → Calls Tryd.prog 24 #[.int .i64 (C : Int), .int .i64 (q : Int), .int .i64 (d : Int)] W fun e w' => e = .returned (.bool (befW C q d)) ∧ Below W.heap.size W w') := fun q W hq => rbefore_any C q d W HC.out.2 (by omega) (by have := HDD.out; omega)
            clear hr hdd hdt hdc hnotnd hyesnd hmem hpair hnew hS hz hT HN hO hB
            go_wp2_with fail
            go_loopw [12] (fun i wr => ∃ t : Nat, t ≤ T ∧ i = .int .i64 (t : Int) ∧ Below w.heap.size w wr ∧ Below wo.heap.size wo wr) (fun i _ => T - (Go.RowKit.intOf i).toNat)
            case atStart => exact ⟨0, Nat.zero_le _, rfl, HBO.out, Below.refl _ _⟩
            case round =>
              obtain ⟨t, ht, rfl, hB, hBo⟩ := hrel
              have hs1000 : S.length ≤ 1000 := HSL.out
              by_cases hts : t < S.length
              · have j1 : decide ((t : Int) < (S.length : Int)) = true := decide_eq_true (by omega)
                obtain ⟨g, go', c9, hx9, _, hgl, hgc⟩ := HOF.out (by omega)
                cases hx9
                have hqb := HSI.out S[t] (List.getElem_mem hts)
                have hqc : wr.cell? ⟨g, go' + t, none⟩ = some (vI S[t]) := (hBo.cell (p := ⟨g, go' + t, none⟩) hgl).trans (hgc t _ (List.getElem?_eq_getElem hts))
                have jx := fun w => index_intsI g go' S.length co t w hts
                have HYT : Hid (t < T → befW C S[t] d = true) := fun h => HYES.out t hts h
                have HNT : Hid (t = T → befW C S[t] d = false) := fun h => by subst h; exact HNO.out hts
                have HQT : Hid (t = T → (S[t] = (d : Int) ↔ (d : Int) ∈ ds.take k)) := fun h => by
                  subst h
                  rw [← HEQ.out, List.getElem?_eq_getElem hts, Option.some.injEq]
                obtain ⟨z, hz⟩ : ∃ z, z = S[t] := ⟨_, rfl⟩
                rw [← hz] at hqb hqc HYT HNT HQT
                obtain ⟨q, rfl⟩ := Int.eq_ofNat_of_zero_le (show 0 ≤ z by omega)
                have hq4 : q ≤ 4096 := by omega
                have hzc : wr.cell? ⟨b, off + k, none⟩ = some (vI (d : Int)) := (hB.cell (p := ⟨b, off + k, none⟩) hb).trans HDC.out
                have g1 : ∀ n os, (Sort.grow (redrawn wr n) os).cell? ⟨g, go' + t, none⟩ = some (vI (q : Int)) := fun n os => cell_regrown hqc n os
                have g2 : ∀ n os, (Sort.grow (redrawn wr n) os).cell? ⟨b, off + k, none⟩ = some (vI (d : Int)) := fun n os => cell_regrown hzc n os
                have cB : ∀ n os, Calls Tryd.prog 24 #[.int .i64 (C : Int), .int .i64 (q : Int), .int .i64 (d : Int)] (Sort.grow (redrawn wr n) os) fun e w'' => e = .returned (.bool (befW C q d)) ∧ ∃ p : Regrown, w'' = Sort.grow (redrawn wr p.d) p.os := fun n os => Calls.regrown_of (HBF.out q _ hq4)
                clear hgc hz hqb hq4
                by_cases htT : t < T
                · rw [HYT.out htT] at cB
                  clear HNT HQT HYT
                  go_wp2_with fail
                  refine wp_region_quiet_below (by kernel_rfl) (by kernel_rfl) ?_
                  repeat (quiet_step (exact cB _ _))
                  refine wpQuiet_nil ?_
                  intro WQ hw'
                  have hBQ : Below wr.heap.size wr WQ := by
                    obtain ⟨p, rfl⟩ := hw'
                    exact below_regrown wr p.d p.os
                  have hB1 : Below w.heap.size w WQ := hB.trans (hBQ.mono hB.size)
                  have hB2 : Below wo.heap.size wo WQ := hBo.trans (hBQ.mono hBo.size)
                  clear hw' cB g1 g2 hqc hzc hBQ hB hBo
                  go_wp2
                  go_roundw
                  case rel => exact ⟨t + 1, htT, by go_num, hB1, hB2⟩
                  case measure => simp [Go.RowKit.intOf] <;> omega
                · have htE : t = T := by omega
                  have HQE : Hid ((q : Int) = (d : Int) ↔ (d : Int) ∈ ds.take k) := HQT.out htE
                  rw [HNT.out htE] at cB
                  subst htE
                  clear HNT HQT HYT htT
                  go_wp2_with fail
                  refine wp_region_quiet_below (by kernel_rfl) (by kernel_rfl) ?_
                  repeat (quiet_step (exact cB _ _))
                  refine wpQuiet_nil ?_
                  intro WQ hw'
                  have hBQ : Below wr.heap.size wr WQ := by
                    obtain ⟨p, rfl⟩ := hw'
                    exact below_regrown wr p.d p.os
                  have hB1 : Below w.heap.size w WQ := hB.trans (hBQ.mono hB.size)
                  have hB2 : Below wo.heap.size wo WQ := hBo.trans (hBQ.mono hBo.size)
                  have hqc2 : WQ.cell? ⟨g, go' + t, none⟩ = some (vI (q : Int)) := (hBQ.cell (p := ⟨g, go' + t, none⟩) (by have := hBo.size; show g < wr.heap.size; omega)).trans hqc
                  have hzc2 : WQ.cell? ⟨b, off + k, none⟩ = some (vI (d : Int)) := (hBQ.cell (p := ⟨b, off + k, none⟩) (by have := hB.size; show b < wr.heap.size; omega)).trans hzc
                  clear hw' cB g1 g2 hqc hzc hBQ hB hBo
                  by_cases hqd : (q : Int) = (d : Int)
                  · have j2 : (q == d) = true := by simpa using (Int.ofNat.inj hqd)
                    have j3 : ((q : Int) == (d : Int)) = true := by simpa using hqd
                    have HE : Hid (PL = ([], 5)) := by
                      show _ = _
                      rw [HPL2.out, if_pos (HNND.out (HQE.out.1 hqd))]
                    clear hqd
                    go_wp2_with fail
                    go_quiet (fail)
                    go_wp2
                    go_ret2
                    rw [HE.out]
                    exact ⟨_, rfl, PlanZ.nil _ _, Below.drewN hB1 _⟩
                  · have j2 : (q == d) = false := by
                      rw [beq_eq_false_iff_ne]; intro e; exact hqd (by rw [e])
                    have j3 : ((q : Int) == (d : Int)) = false := by simpa using hqd
                    have HND : Hid (ds.take (k + 1)).Nodup := HYND.out (fun h => hqd (HQE.out.2 h))
                    clear hqd
                    go_wp2_with fail
                    go_quiet (fail)
                    have hB : Below w.heap.size w (WQ.drewN nq) := Below.drewN hB1 nq
                    have hBo : Below wo.heap.size wo (WQ.drewN nq) := Below.drewN hB2 nq
                    clear j1 j2 j3 hB1 hB2 hqc2 hzc2 jx
                    generalize WQ.drewN nq = wr at *
                    have HBW : Hid (Below w.heap.size w wr) := hB
                    have HBX : Hid (Below wo.heap.size wo wr) := hBo
                    have hzc : wr.cell? ⟨b, off + k, none⟩ = some (vI (d : Int)) := (hB.cell (p := ⟨b, off + k, none⟩) hb).trans HDC.out
                    have HZC : Hid (wr.cell? ⟨b, off + k, none⟩ = some (vI (d : Int)) ∧ b < wr.heap.size) := ⟨hzc, by have := hB.size; omega⟩
                    have HE0 : Hid (Below wr.heap.size wr (wr.alloc (.cells #[] 3))) := (Below.refl _ _).alloc (Nat.le_refl _) _
                    have HOS : Hid (IntsI wr (.slice (some ⟨g, go', none⟩) S.length co) S) := HOI.out.below hBo (Nat.le_refl _)
                    have HE1 : Hid (IntsI (wr.alloc (.cells #[] 3)) (.slice (some ⟨g, go', none⟩) t co) (S.take t)) := (HOS.out.takes t HTL.out).below HE0.out (Nat.le_refl _)
                    have sl1 := slice_toI (some ⟨g, go', none⟩) S.length co t (Nat.le_trans HTL.out HCO.out)
                    have sl2 := slice_restI (some ⟨g, go', none⟩) S.length co t HTL.out
                    have HLA : Hid ((S.take t).length + 1 ≤ 1001) := (by have := HSL.out; simp; omega : (S.take t).length + 1 ≤ 1001)
                    clear hBo hB hzc
                    go_wp2_with (at_builtin; first | (refine app_intsB _ rfl (.tmp 87) (.tmp 90) rfl wr.heap.size _ [] rfl (by exact empty_ints _ _ _ rfl (Nat.le_refl _)) _ (S.take t) rfl (by exact HE1.out) (by have := HLA.out; simp only [List.length_nil]; omega) (by exact HE0.out.size) ?_; intro v2 w2 ho2 hb2; rw [List.nil_append] at ho2; have e2 : Below wr.heap.size wr w2 := HE0.out.trans hb2; have hzc2 : w2.cell? ⟨b, off + k, none⟩ = some (vI (d : Int)) := (e2.cell (p := ⟨b, off + k, none⟩) HZC.out.2).trans HZC.out.1; have HE3 : Hid (Below wr.heap.size wr (w2.alloc (.cells #[vI (d : Int)] 3))) := e2.alloc e2.size _; have HO3 : Hid (OwnZ (w2.alloc (.cells #[vI (d : Int)] 3)) wr.heap.size v2 (S.take t)) := ho2.below ((Below.refl _ _).alloc (Nat.le_refl _) _) (Nat.le_refl _); have HI3 : Hid (IntsI (w2.alloc (.cells #[vI (d : Int)] 3)) (.slice (some ⟨w2.heap.size, 0, none⟩) 1 1) [(d : Int)]) := ints_newR w2 [(d : Int)] 3 _ rfl (by unfold maxLen; simp); clear ho2 hb2 e2) | (refine app_intsB _ rfl (.tmp 92) (.tmp 97) rfl wr.heap.size _ (S.take t) rfl (by exact HO3.out) _ [(d : Int)] rfl (by exact HI3.out) (by have := HLA.out; simp only [List.length_cons, List.length_nil]; omega) (by exact HE3.out.size) ?_; intro v4 w4 ho4 hb4; have HE4 : Hid (Below wr.heap.size wr w4) := HE3.out.trans hb4; have HI4 : Hid (IntsI w4 (.slice (restD (some ⟨g, go', none⟩) co t) (S.length - t) (co - t)) (S.drop t)) := (HOS.out.drops t HTL.out).below HE4.out (Nat.le_refl _); have HO4 : Hid (OwnZ w4 wr.heap.size v4 (S.take t ++ [(d : Int)])) := ho4; clear ho4 hb4 hzc2) | (refine app_intsB _ rfl (.tmp 99) (.tmp 102) rfl wr.heap.size _ (S.take t ++ [(d : Int)]) rfl (by exact HO4.out) _ (S.drop t) rfl (by exact HI4.out) (by have := HSL.out; simp; omega) (by exact HE4.out.size) ?_; intro v6 w6 ho6 hb6; have e6 : Below wr.heap.size wr w6 := HE4.out.trans hb6))
                    go_roundw
                    case rel => exact ⟨k + 1, hlt, by go_num, by rw [HNEW.out]; exact ho6.mono HBW.out.size, HND.out, HBW.out.trans (e6.mono HBW.out.size)⟩
                    case measure => simp [Go.RowKit.intOf] <;> omega
              · have htE : t = T := by have := HTL.out; omega
                have hTS : T = S.length := by have := HTL.out; omega
                have j1 : decide ((t : Int) < (S.length : Int)) = false := decide_eq_false (by omega)
                have HND : Hid (ds.take (k + 1)).Nodup := HYND.out (fun h => by
                  have := HEQ.out.2 h
                  rw [List.getElem?_eq_none (by omega)] at this
                  cases this)
                subst htE
                clear hTS
                have j2 : decide (t < S.length) = false := decide_eq_false hts
                go_wp2_with fail
                go_quiet (fail)
                have hB1 : Below w.heap.size w (wr.drewN nq) := Below.drewN hB nq
                have hB2 : Below wo.heap.size wo (wr.drewN nq) := Below.drewN hBo nq
                clear hB hBo
                generalize wr.drewN nq = WQ at *
                go_wp2_with fail
                go_quiet (fail)
                have hB : Below w.heap.size w (WQ.drewN nq) := Below.drewN hB1 nq
                have hBo : Below wo.heap.size wo (WQ.drewN nq) := Below.drewN hB2 nq
                clear j1 j2 hts hB1 hB2
                generalize WQ.drewN nq = wr at *
                have HBW : Hid (Below w.heap.size w wr) := hB
                have HBX : Hid (Below wo.heap.size wo wr) := hBo
                have hzc : wr.cell? ⟨b, off + k, none⟩ = some (vI (d : Int)) := (hB.cell (p := ⟨b, off + k, none⟩) hb).trans HDC.out
                have HZC : Hid (wr.cell? ⟨b, off + k, none⟩ = some (vI (d : Int)) ∧ b < wr.heap.size) := ⟨hzc, by have := hB.size; omega⟩
                have HE0 : Hid (Below wr.heap.size wr (wr.alloc (.cells #[] 3))) := (Below.refl _ _).alloc (Nat.le_refl _) _
                have HOS : Hid (IntsI wr (.slice ao S.length co) S) := HOI.out.below hBo (Nat.le_refl _)
                have HE1 : Hid (IntsI (wr.alloc (.cells #[] 3)) (.slice ao t co) (S.take t)) := (HOS.out.takes t HTL.out).below HE0.out (Nat.le_refl _)
                have sl1 := slice_toI ao S.length co t (Nat.le_trans HTL.out HCO.out)
                have sl2 := slice_restI ao S.length co t HTL.out
                have HLA : Hid ((S.take t).length + 1 ≤ 1001) := (by have := HSL.out; simp; omega : (S.take t).length + 1 ≤ 1001)
                clear hBo hB hzc
                go_wp2_with (at_builtin; first | (refine app_intsB _ rfl (.tmp 87) (.tmp 90) rfl wr.heap.size _ [] rfl (by exact empty_ints _ _ _ rfl (Nat.le_refl _)) _ (S.take t) rfl (by exact HE1.out) (by have := HLA.out; simp only [List.length_nil]; omega) (by exact HE0.out.size) ?_; intro v2 w2 ho2 hb2; rw [List.nil_append] at ho2; have e2 : Below wr.heap.size wr w2 := HE0.out.trans hb2; have hzc2 : w2.cell? ⟨b, off + k, none⟩ = some (vI (d : Int)) := (e2.cell (p := ⟨b, off + k, none⟩) HZC.out.2).trans HZC.out.1; have HE3 : Hid (Below wr.heap.size wr (w2.alloc (.cells #[vI (d : Int)] 3))) := e2.alloc e2.size _; have HO3 : Hid (OwnZ (w2.alloc (.cells #[vI (d : Int)] 3)) wr.heap.size v2 (S.take t)) := ho2.below ((Below.refl _ _).alloc (Nat.le_refl _) _) (Nat.le_refl _); have HI3 : Hid (IntsI (w2.alloc (.cells #[vI (d : Int)] 3)) (.slice (some ⟨w2.heap.size, 0, none⟩) 1 1) [(d : Int)]) := ints_newR w2 [(d : Int)] 3 _ rfl (by unfold maxLen; simp); clear ho2 hb2 e2) | (refine app_intsB _ rfl (.tmp 92) (.tmp 97) rfl wr.heap.size _ (S.take t) rfl (by exact HO3.out) _ [(d : Int)] rfl (by exact HI3.out) (by have := HLA.out; simp only [List.length_cons, List.length_nil]; omega) (by exact HE3.out.size) ?_; intro v4 w4 ho4 hb4; have HE4 : Hid (Below wr.heap.size wr w4) := HE3.out.trans hb4; have HI4 : Hid (IntsI w4 (.slice (restD ao co t) (S.length - t) (co - t)) (S.drop t)) := (HOS.out.drops t HTL.out).below HE4.out (Nat.le_refl _); have HO4 : Hid (OwnZ w4 wr.heap.size v4 (S.take t ++ [(d : Int)])) := ho4; clear ho4 hb4 hzc2) | (refine app_intsB _ rfl (.tmp 99) (.tmp 102) rfl wr.heap.size _ (S.take t ++ [(d : Int)]) rfl (by exact HO4.out) _ (S.drop t) rfl (by exact HI4.out) (by have := HSL.out; simp; omega) (by exact HE4.out.size) ?_; intro v6 w6 ho6 hb6; have e6 : Below wr.heap.size wr w6 := HE4.out.trans hb6))
                go_roundw
                case rel => exact ⟨k + 1, hlt, by go_num, by rw [HNEW.out]; exact ho6.mono HBW.out.size, HND.out, HBW.out.trans (e6.mono HBW.out.size)⟩
                case measure => simp [Go.RowKit.intOf] <;> omega
          · have hkl : k = ds.length := by omega
            have i1 : ¬ (k : Int) < (ds.length : Int) := by omega
            have HR2 : Hid (PL = (cutW (sortW C ds) 0 ps, 0)) := by
              show _ = _
              have := HN.out
              rw [hkl, List.take_length] at this
              rw [HPL2.out, if_neg (by simpa using this)]
            rw [hkl, List.take_length] at hO
            clear hkl hlt HN hk HPL2
            have hO1000 : (sortW C ds).length ≤ 1000 := by rw [sortW_len]; exact hl
            obtain ⟨O, hOO⟩ : ∃ O, O = sortW C ds := ⟨_, rfl⟩
            rw [← hOO] at hO HR2 hO1000
            obtain ⟨wo, rfl⟩ : ∃ wo : World, wo = wr := ⟨_, rfl⟩
            have HOI : Hid (IntsI wo u10 O) := hO.ints
            obtain ⟨ax2, cx2, rfl⟩ := HOI.out.shape
            have HCX : Hid (O.length ≤ cx2) := by obtain ⟨_, _, e, h, _⟩ := HOI.out; cases e; exact h
            have hprise := partsW_rise HPT.out
            have HRI : Hid (∀ k (h : k < ps.length), aheadW ps k < ps[k] ∧ aheadW ps (k + 1) = ps[k] ∧ 0 < ps[k] ∧ ps[k] ≤ 100) := fun k h => ahead_lt ps hprise.1 k h
            have HTK : Hid (∀ k (h : k < ps.length), (cutW O 0 ps).take (k + 1) = (cutW O 0 ps).take k ++ [(O.drop (upW O.length (aheadW ps k))).take (upW O.length ps[k] - upW O.length (aheadW ps k))]) := fun k h => cutW_take O ps k h
            have HLN : Hid ((cutW O 0 ps).length = ps.length) := cutW_len O ps 0
            have HP8 : Hid (ps.length ≤ 8) := hprise.2
            have HWO : Hid (w.heap.size ≤ wo.heap.size) := hB.size
            clear hO hOO hprise
            go_wp2_with fail
            clear i1
            go_loopw [14, 15, 16, 17] (fun v f i _ wr => ∃ k : Nat, k ≤ ps.length ∧ i = .int .i64 (k : Int) ∧ f = .int .i64 ((upW O.length (aheadW ps k) : Nat) : Int) ∧ Below w.heap.size w wr ∧ Below wo.heap.size wo wr ∧ PlanZ wr wo.heap.size v ((cutW O 0 ps).take k)) (fun _ _ i _ _ => ps.length - (Go.RowKit.intOf i).toNat)
            case atStart => exact ⟨0, Nat.zero_le _, rfl, by rw [show aheadW ps 0 = 0 from rfl, upW_zero]; rfl, hB, Below.refl _ _, PlanZ.nil _ _⟩
            case round =>
              clear hB
              obtain ⟨k, hk, rfl, rfl, hB, hBo, hP⟩ := hrel
              have HPZ : Hid (PlanZ wr wo.heap.size u14 ((cutW O 0 ps).take k)) := hP
              clear hP
              have hp8 : ps.length ≤ 8 := HP8.out
              by_cases hlt : k < ps.length
              · have i1 : (k : Int) < (ps.length : Int) := by omega
                obtain ⟨b, off, c', hyy, _, hb, hrr⟩ := HP.out (by omega)
                cases hyy
                have hc1 := hrr k _ (List.getElem?_eq_getElem hlt)
                have ix := fun w => index_intsI b off ps.length cy k w hlt
                obtain ⟨r1, r2, r3, r4⟩ := HRI.out k hlt
                have htk := HTK.out k hlt
                have hmn := upW_mono O.length (Int.le_of_lt r1)
                have hml := upW_le O.length r4
                have hint := upW_int O.length (Int.le_of_lt r3)
                rw [← r2] at htk hmn hml hint r3 r4
                obtain ⟨p, hpp⟩ : ∃ p, p = aheadW ps (k + 1) := ⟨_, rfl⟩
                rw [← r2, ← hpp] at hc1
                have HAH : Hid (p = aheadW ps (k + 1)) := hpp
                rw [← hpp] at htk hmn hml hint r3 r4
                clear r1 r2 hrr hpp
                have hc2 : wr.cell? ⟨b, off + k, none⟩ = some (vI p) := (hB.cell (p := ⟨b, off + k, none⟩) hb).trans hc1
                obtain ⟨F, hF⟩ : ∃ F, F = upW O.length (aheadW ps k) := ⟨_, rfl⟩
                obtain ⟨G, hG⟩ : ∃ G, G = upW O.length p := ⟨_, rfl⟩
                rw [← hF] at htk hmn ⊢
                rw [← hG] at htk hmn hml hint
                have HTK2 : Hid ((cutW O 0 ps).take (k + 1) = (cutW O 0 ps).take k ++ [(O.drop F).take (G - F)]) := htk
                have HG : Hid (G = upW O.length p) := hG
                have hsl := slice_midI ax2 O.length cx2 F G hmn (Nat.le_trans hml HCX.out)
                have HA1 : Hid (Below wr.heap.size wr (wr.alloc (.cells #[] 3))) := (Below.refl _ _).alloc (Nat.le_refl _) _
                have HI2 : Hid (IntsI (wr.alloc (.cells #[] 3)) (.slice (restD ax2 cx2 F) (G - F) (cx2 - F)) ((O.drop F).take (G - F))) := ((HOI.out.mid F (G - F) (by omega)).below hBo (Nat.le_refl _)).below HA1.out (Nat.le_refl _)
                have HL2 : Hid (((O.drop F).take (G - F)).length ≤ 1000000000) := by show _ ≤ _; simp; omega
                have HLK : Hid (((cutW O 0 ps).take k).length ≤ 1000000) := by show _ ≤ _; rw [List.length_take, HLN.out]; have := HP8.out; omega
                have HBW : Hid (Below w.heap.size w wr ∧ Below wo.heap.size wo wr) := ⟨hB, hBo⟩
                have HPB : Hid (∀ q, u14.ownBlock = some q → wo.heap.size ≤ q) := fun q hq => (HPZ.out.blocks q hq).1
                clear htk hF hG hc1 hB hBo
                generalize (O.drop F).take (G - F) = seg at *
                generalize (cutW O 0 ps).take k = got at *
                have hq1 : 0 ≤ p * (O.length : Int) := Int.mul_nonneg (by omega) (by omega)
                have hq2 : p * (O.length : Int) ≤ 100 * 1000 := Int.mul_le_mul r4 (by omega) (by omega) (by omega)
                have hq3 : (p * (O.length : Int) + 99) / 100 = (G : Int) := by omega
                clear hint
                go_wp2_with (at_builtin; first | (refine app_intsB _ rfl (.tmp 120) (.tmp 124) rfl wr.heap.size _ [] rfl (by exact empty_ints _ _ _ rfl (Nat.le_refl _)) _ seg rfl (by exact HI2.out) (by have := HL2.out; simp only [List.length_nil]; omega) (by exact HA1.out.size) ?_; intro v1 w1 ho1 hb1; rw [List.nil_append] at ho1; have hd1 : Below wr.heap.size wr w1 := HA1.out.trans hb1; have HD2 : Hid (Below wr.heap.size wr (w1.alloc (.cells #[v1] 22))) := hd1.alloc hd1.size _; have HPA : Hid (PlanZ (w1.alloc (.cells #[v1] 22)) wo.heap.size u14 got) := HPZ.out.below HD2.out (Nat.le_refl _); have HOA : Hid (OwnZ (w1.alloc (.cells #[v1] 22)) wo.heap.size v1 seg) := (ho1.mono HBW.out.2.size).below ((Below.refl _ _).alloc (Nat.le_refl _) _) (Nat.le_refl _); have HCE : Hid ((w1.alloc (.cells #[v1] 22)).cell? ⟨w1.heap.size, 0, none⟩ = some v1) := (Blk.new w1 22 #[v1]).cell (j := 0) rfl; have HBS : Hid (wo.heap.size ≤ (w1.alloc (.cells #[v1] 22)).heap.size) := Nat.le_trans HBW.out.2.size HD2.out.size; obtain ⟨av, cv, rfl⟩ := ho1.shape; clear ho1 hb1 hd1) | (refine app_row _ rfl (.tmp 119) (.tmp 126) rfl wo.heap.size _ got rfl (by exact HPA.out) _ _ seg rfl (by exact HCE.out) (by exact HOA.out) HLK.out (by exact HBS.out) ?_; intro v2 w2 hp2 hg2 hv2; have hB4 : Below wo.heap.size wo w2 := (HBW.out.2.trans (HD2.out.mono HBW.out.2.size)).grown hg2 (by exact HBS.out) HPB.out; have hB3 : Below w.heap.size w w2 := (HBW.out.1.trans (HD2.out.mono HBW.out.1.size)).grown hg2 (Nat.le_trans HWO.out HBS.out) (fun q hq => Nat.le_trans HWO.out (HPB.out q hq))))
                go_roundw
                case rel => exact ⟨k + 1, hlt, by go_num, by rw [← HAH.out, ← HG.out], hB3, hB4, by rw [HTK2.out]; exact hp2⟩
                case measure => simp [Go.RowKit.intOf] <;> omega
              · have hkl : k = ps.length := by omega
                have HP2 : Hid (PlanZ wr wo.heap.size u14 (cutW O 0 ps)) := by
                  have := HPZ.out
                  rw [hkl, ← HLN.out, List.take_length] at this
                  exact this
                have hni : ¬ (k : Int) < (ps.length : Int) := by omega
                clear HPZ hkl
                go_wp2
                go_ret2
                rw [HR2.out]
                exact ⟨_, rfl, HP2.out.mono HWO.out, hB⟩
end Go.Proofs.YtnagdgkkkkpekaaDoor
