/-
  What is proved here: the keys of a map that begin so, in order; how many bytes a map's pairs have. how many bytes a map's pairs have.
  Conditions: those that each fact names.
-/
import Derived.Test.YtbegphfideopoaaGreatJPackPure
import Derived.Test.YtbegphfideopoaaGreatJStoreSort
import Derived.Sort.OwnSorted
import Derived.Lib.Walk
import Derived.Lib.Strings
import Derived.Laws.Strings3
namespace Go.Proofs.YtbegphfideopoaaGreat
open Go.RowKit Go.Maps Go.Sort Go.Proofs

/-- The step of a range over the pairs. -/
theorem wpList_next8 (w : World) {ops : Array Oper} {rest : List Oper} {o : Oper} {a : Act} {Q : Exit → Act → World → Prop} (hg : o.guard = none) (it : Operand) (hop : o.op = Op.next it false)
    (b r n : Nat) (D : DataW Value) (left : Lit → Bool) (cnt : Nat) (hit : a.eval it = .pointer (some ⟨r, 0, none⟩)) (h : w.ranges Tryz.prog 9 R8 b r n D left cnt)
    (hDone : (∀ kl, left kl = false) → wpList Tryz.prog ops Q rest (a.put o.dst (.tuple #[.bool false])) w)
    (hMore : ∀ (x : List UInt8) (t : Option Addr × Nat × Nat) (w' : World) (cnt' : Nat), left (.string x) = true → x.length ≤ maxLen → (∀ zd, D.atKey (.string x) zd = .held (.slice t.1 t.2.1 t.2.2)) → w'.ranges Tryz.prog 9 R8 b r n D (fun z => left z && !z.sameKey (.string x)) cnt' → cnt' < cnt →
      w.grownBy w' (some r) → w'.heap.size = w.heap.size → (Instr.entry (.pointer (some ⟨r, 0, none⟩))).run Tryz.prog w' = .ok (.tuple #[.string ⟨x.toArray⟩, .slice t.1 t.2.1 t.2.2]) w' → wpList Tryz.prog ops Q rest (a.put o.dst (.tuple #[.bool true, .string ⟨x.toArray⟩, .slice t.1 t.2.1 t.2.2])) w') :
    wpList Tryz.prog ops Q (o :: rest) a w :=
  wpList_next_ranges w hg it hop 9 keyS R8 encStr (fun t : Option Addr × Nat × Nat => .slice t.1 t.2.1 t.2.2) (fun key kl hkey => by obtain ⟨x, rfl, _⟩ := Maps.keyOf_str Tryz.underlying9 hkey; exact ⟨x, rfl⟩) (fun v y hv => (R8_inv hv).1)
    b r n D left cnt hit h (fun _ => hDone) (fun x c kl y w' cnt' hkey hlk hv hat hrg hlt hgr hsz hen => by
      obtain ⟨x', ex, rfl, hl⟩ := Maps.keyOf_str Tryz.underlying9 hkey
      obtain rfl := encStr_inj ex
      obtain ⟨_, rfl⟩ := R8_inv hv
      exact hMore x c w' cnt' hlk hl hat hrg hlt hgr hsz hen)

set_option maxHeartbeats 1000000 in
theorem prefixLite_any (s p : ByteArray) (w : World) :
    Calls Tryz.prog 101 #[.string s, .string p] w fun e w' => e = .returned (.bool (Lib.hasPrefix s.data.toList p.data.toList)) ∧ w' = w := by
  rw [← Lib.hasPrefix_of_take, ← Lib.size_eq, ← Lib.size_eq]
  go_enter Tryz.func101, Tryz.ntmps101
  go_wp2
  · rename_i h
    go_ret
    refine ⟨?_, rfl⟩
    show Ending.returned (Value.bool ((s.extract 0 p.size).toList == p.toList)) = _
    rw [Lib.extract_toList, Lib.toList_data]
    simp [h]
  · rename_i h
    go_ret
    refine ⟨?_, rfl⟩
    show Ending.returned (Value.bool false) = _
    simp [h]
theorem prefix_any (s p : List UInt8) (w : World) :
    Calls Tryz.prog 73 #[.string ⟨s.toArray⟩, .string ⟨p.toArray⟩] w fun e w' => e = .returned (.bool (p.isPrefixOf s)) ∧ w' = w := by
  have HP : Hid (Calls Tryz.prog 101 #[.string ⟨s.toArray⟩, .string ⟨p.toArray⟩] w fun e w' => e = .returned (.bool (p.isPrefixOf s)) ∧ w' = w) := by
    have := prefixLite_any ⟨s.toArray⟩ ⟨p.toArray⟩ w
    have h2 : Calls Tryz.prog 101 #[.string ⟨s.toArray⟩, .string ⟨p.toArray⟩] w fun e w' => e = .returned (.bool (p.isPrefixOf s)) ∧ w' = w := by simpa [Lib.hasPrefix] using this
    exact h2
  generalize (⟨s.toArray⟩ : ByteArray) = S at *
  generalize (⟨p.toArray⟩ : ByteArray) = P at *
  generalize p.isPrefixOf s = R at *
  go_enter Tryz.func73, Tryz.ntmps73
  go_wp2_with fail
  refine HP.out.mono ?_
  rintro e w1 ⟨rfl, hw⟩
  obtain rfl := hw.symm
  go_wp2_with fail
  go_ret
  exact ⟨rfl, rfl⟩

/-- The keys that begin so. -/
def keysB (begin : List UInt8) (m : PM) : List (List UInt8) := (keysM m).filter (fun k => begin.isPrefixOf k)
theorem sort_keys {m : PM} (hr : RiseM m) (begin : List UInt8) {ss : List (List UInt8)} (h : ss.Perm (keysM m)) : (ss.filter (fun k => begin.isPrefixOf k)).mergeSort (fun x y => decide (x ≤ y)) = keysB begin m := by
  have h1 : (ss.filter (fun k => begin.isPrefixOf k)).mergeSort leB = (keysB begin m).mergeSort leB := mergeSort_of_perm (h.filter _)
  show (ss.filter (fun k => begin.isPrefixOf k)).mergeSort leB = _
  rw [h1]
  apply List.mergeSort_of_pairwise
  refine ((keys_rise hr).filter _).imp fun {a b} hab => ?_
  simp only [leB, decide_eq_true_eq]
  exact List.le_of_lt hab
theorem info_str : (Tryz.prog.info? 9).map (fun i => (i.zero, i.size, i.bytes)) = some (some (.string ⟨#[]⟩), 1, 16) := by kernel_rfl
/-- append of one more string. -/
theorem app_str (w : World) {ops : Array Oper} {rest : List Oper} {o : Oper} {a : Act} {Q : Exit → Act → World → Prop} (hgd : o.guard = none) (s x : Operand)
    (ho : o.op = .call { callee := .builtin .append, args := #[s, x], argTypes := #[90, 90] })
    (base : Nat) (v : Value) (ks : List (List UInt8)) (hs : a.eval s = v) (hown : w.ownsRow base 9 1 v ks.length (ks.map encStr)) (g c : Nat) (k : List UInt8) (hx : a.eval x = .slice (some ⟨g, 0, none⟩) 1 c) (hc : w.cell? ⟨g, 0, none⟩ = some (.string ⟨k.toArray⟩))
    (hlen : ks.length ≤ 1000000000) (hbase : base ≤ w.heap.size)
    (hK : ∀ v' w', w'.ownsRow base 9 1 v' (ks ++ [k]).length ((ks ++ [k]).map encStr) → w.grownBy w' v.ownBlock → wpList Tryz.prog ops Q rest (a.put o.dst v') w') :
    wpList Tryz.prog ops Q (o :: rest) a w := by
  obtain ⟨i0, hi, hz0, hz1, hz2⟩ := info_parts info_str
  refine wpList_append_own_at w hgd s x 90 ho base 9 i0 (.string ⟨#[]⟩) 1 16 Tryz.underlying90 hi hz0 hz1 hz2 rfl (by decide) v ks.length (ks.map encStr) hs hown ⟨g, 0, none⟩ 1 c [encStr k] hx rfl (fun j y hy => ?_) (fun y hy => ?_) (by unfold maxLen; omega) (by omega) hbase ?_
  · match j, hy with
    | 0, hy => cases hy; exact hc
    | (j + 1), hy => cases hy
  · rw [show y = encStr k by simpa using hy]; rfl
  intro v' w' h2 h3 _ h5
  refine hK v' w' ?_ h3
  rw [List.length_append, List.map_append]
  exact h2
set_option maxRecDepth 100000 in
set_option maxHeartbeats 4000000 in
theorem keys_any (b : Nat) (C : Nat → Prop) (m : PM) (begin : List UInt8) (w : World) (hM : MapP w C b m) (hml : m.length ≤ 1000000000) :
    Calls Tryz.prog 41 #[.map (some b), .string ⟨begin.toArray⟩] w fun e w' => ∃ v, e = .returned v ∧ w'.ownsRow w.heap.size 9 1 v (keysB begin m).length ((keysB begin m).map encStr) ∧ Below w.heap.size w w' := by
  obtain ⟨n, D, hown, hH⟩ := hM.body
  have hrise := hM.rise
  have hbl := hM.lt
  have hsz := hH.size hown hrise
  obtain ⟨R, hR⟩ : ∃ R, R = keysB begin m := ⟨_, rfl⟩
  rw [← hR]
  have HR : Hid (R = keysB begin m) := hR
  clear hR
  have HPR : Hid (∀ x W, Calls Tryz.prog 73 #[.string ⟨x.toArray⟩, .string ⟨begin.toArray⟩] W fun e w' => e = .returned (.bool (begin.isPrefixOf x)) ∧ w' = W) := fun x W => prefix_any x begin W
  generalize (⟨begin.toArray⟩ : ByteArray) = BG at *
  go_enter Tryz.func41, Tryz.ntmps41
  go_wp2_with (at_range; refine wpList_range_own _ rfl _ 71 rfl 9 34 keyS Tryz.underlying71 _ b _ D rfl hown ?_; intro w2 hrg2 hg2 hs2)
  go_frame
  rw [hsz] at hrg2
  have hB2 : Below w.heap.size w w2 := below_grown (Below.refl _ _) hg2 (Nat.le_refl _) (fun k hk => by cases hk)
  go_loopw [5] (fun lv wr => ∃ left cnt ss, wr.ranges Tryz.prog 9 R8 b w.heap.size n D left cnt ∧ Collected D left ss ∧ ss.length + cnt ≤ m.length ∧ wr.ownsRow w.heap.size 9 1 lv (ss.filter (fun k => begin.isPrefixOf k)).length ((ss.filter (fun k => begin.isPrefixOf k)).map encStr) ∧ Below w.heap.size w wr) (fun _ wr => wr.rangeLeft b w.heap.size)
  case atStart => exact ⟨_, _, [], hrg2, Collected.start D, by simp, ⟨rfl, .inl ⟨rfl, rfl⟩⟩, hB2⟩
  case round =>
    clear hrg2 hB2 hg2 hs2
    obtain ⟨left, cnt, ss, hrg, hC, hle, hrow, hB⟩ := hrel
    have hrl := hrg.lt
    go_wp2_with (at_next; refine wpList_next8 _ rfl _ rfl b w.heap.size n D left cnt rfl hrg ?_ ?_)
    · intro hl0
      have hp := (hC.perm hrg.owns keyS Tryz.underlying9 hl0).trans (hH.perm hown hrise).symm
      have hso := sort_keys hrise begin hp
      rw [← HR.out] at hso
      have HSO : Hid ((ss.filter (fun k => begin.isPrefixOf k)).mergeSort (fun x y => decide (x ≤ y)) = R) := hso
      have hlR : R.length = (ss.filter (fun k => begin.isPrefixOf k)).length := by rw [← hso, List.length_mergeSort]
      clear hp hso hl0
      obtain ⟨fs, hfs⟩ : ∃ fs, fs = ss.filter (fun k => begin.isPrefixOf k) := ⟨_, rfl⟩
      have hfl : fs.length ≤ 1000000000 := by rw [hfs]; exact Nat.le_trans (List.length_filter_le _ _) (by omega)
      rw [← hfs] at hrow HSO hlR
      clear hfs hC
      rcases hrow.2 with ⟨hnil, h0⟩ | ⟨g, cap, cur, hv, hbase, hb, h1, h2, h3, h4⟩
      · subst hnil
        have hfe : fs = [] := List.eq_nil_of_length_eq_zero h0
        subst hfe
        have hRe : R = [] := by rw [← HSO.out]; exact List.mergeSort_nil
        clear HSO hlR h0 HR
        subst hRe
        go_wp2_with fail
        refine (AnyM.slices_Sort_string_none sortS none 0 wr).mono ?_
        rintro e w5 ⟨rfl, hw5⟩
        obtain rfl := hw5.symm
        go_wp2_with fail
        go_ret
        exact ⟨_, rfl, ⟨rfl, .inl ⟨rfl, rfl⟩⟩, hB⟩
      · subst hv
        have hHo := holds_of_block hb (ss := fs) (by simpa using h4)
        have hgl : g < wr.heap.size := (Array.getElem?_eq_some_iff.1 hb).1
        have HSR : Hid (Calls Tryz.prog 74 #[.slice (some ⟨g, 0, none⟩) fs.length cap] wr fun e w' => e = .returned (.tuple #[]) ∧ ∃ n os, w' = grow (putRow encStr (Sort.ahead wr n) g 0 (fs.mergeSort fun x y => decide (x ≤ y)).toArray) os) := AnyM.slices_Sort_string sortS g 0 cap fs wr hHo hgl (by omega)
        rw [HSO.out] at HSR
        clear hHo
        go_wp2_with fail
        refine HSR.out.mono ?_
        rintro e w5 ⟨rfl, nn, os, hw5⟩
        have hB5 : Below w.heap.size w w5 := by
          rw [hw5]
          exact below_grown hB (grownBy_sorted _) hB.size (fun k hk => by cases hk; exact hbase)
        have hro5 : w5.ownsRow w.heap.size 9 1 (.slice (some ⟨g, 0, none⟩) fs.length cap) R.length (R.map encStr) := by
          rw [hw5]
          have := ownsRow_sorted (n := nn) (os := os) (ss := fs) (ts := R) hlR hbase hb h1 h2 h3
          rw [hlR]
          exact this
        clear hw5 hb h1 h2 h3 h4 hrow HSR
        go_wp2_with fail
        go_ret
        exact ⟨_, rfl, hro5, hB5⟩
    · intro x ta tn tc w3 cnt3 hlx hxl hat hrg3 hlt3 hg3 hs3 hen
      have hC3 := hC.step hlx hat
      have hB3 : Below w.heap.size w w3 := below_grown hB hg3 hB.size (fun k hk => by cases hk; exact Nat.le_refl _)
      have hne := row_ne_iter hrow hrg
      have hrow3 := hrow.kept hg3 (.inr (fun e => hne e.symm))
      clear hlx hC hs3 hrow
      have hms : wr.rangeLeft b w.heap.size = cnt := hrg.left_eq
      cases hpx : begin.isPrefixOf x with
      | false =>
        have hf : (ss ++ [x]).filter (fun k => begin.isPrefixOf k) = ss.filter (fun k => begin.isPrefixOf k) := by rw [List.filter_append]; simp [hpx]
        have HPX := HPR.out x w3
        rw [hpx] at HPX
        clear hpx
        go_wp2_with fail
        refine HPX.mono ?_
        rintro e w4 ⟨rfl, hw4⟩
        obtain rfl := hw4.symm
        clear hw4 HPX
        go_wp2_with fail
        go_roundw
        case rel => exact ⟨_, _, ss ++ [x], hrg3, hC3, by rw [List.length_append, List.length_singleton]; omega, by rw [hf]; exact hrow3, hB3⟩
        case measure => rw [hrg3.left_eq, hms]; exact hlt3
      | true =>
        have hf : (ss ++ [x]).filter (fun k => begin.isPrefixOf k) = ss.filter (fun k => begin.isPrefixOf k) ++ [x] := by rw [List.filter_append]; simp [hpx]
        have HPX := HPR.out x w3
        rw [hpx] at HPX
        clear hpx
        obtain ⟨fs, hfs⟩ : ∃ fs, fs = ss.filter (fun k => begin.isPrefixOf k) := ⟨_, rfl⟩
        have hfl : fs.length ≤ 1000000000 := by rw [hfs]; exact Nat.le_trans (List.length_filter_le _ _) (by omega)
        rw [← hfs] at hrow3 hf
        clear hfs
        have hbl3 : b < w3.heap.size := hrg3.owns.lt
        have hrl3 := hrg3.lt
        have hAl := (Below.refl w3.heap.size w3).alloc (Nat.le_refl _) (.cells #[.string ⟨x.toArray⟩] 9)
        go_wp2_with fail
        refine HPX.mono ?_
        rintro e w4 ⟨rfl, hw4⟩
        obtain rfl := hw4.symm
        clear hw4 HPX
        go_wp2_with (at_builtin; refine app_str _ rfl _ _ rfl w.heap.size _ fs rfl (by exact hrow3.alloc _) w3.heap.size 1 x rfl (by exact (Blk.new w3 9 #[.string ⟨x.toArray⟩]).cell (j := 0) rfl) hfl (by exact Nat.le_trans hB3.size (by simp)) ?_; intro v5 w5 hrow5 hg5)
        have hne3 := row_ne_iter hrow3 hrg3
        have hB5 : Below w.heap.size w w5 := below_grown (hB3.alloc hB3.size _) hg5 (Nat.le_trans hB3.size (by simp)) (fun k hk => (hrow3.lt k hk).1)
        have hrg5 := (hrg3.alloc (.cells #[.string ⟨x.toArray⟩] 9)).kept hg5 (row_ne_low hrow3 hbl) hne3
        go_wp2_with fail
        go_roundw
        case rel => exact ⟨_, _, ss ++ [x], hrg5, hC3, by rw [List.length_append, List.length_singleton]; omega, by rw [hf]; exact hrow5, hB5⟩
        case measure => rw [hrg5.left_eq, hms]; exact hlt3
end Go.Proofs.YtbegphfideopoaaGreat
namespace Go.Proofs.YtbegphfideopoaaGreat
open Go.RowKit Go.Maps Go.Sort Go.Proofs

/-- How many bytes the pairs of such keys have. -/
def pairN (m : PM) (k : List UInt8) : Nat := 4 + k.length + ((lookM m k).getD []).length
def sumK (m : PM) (ks : List (List UInt8)) : Nat := (ks.map (pairN m)).sum
theorem sum_perm : ∀ {a b : List Nat}, a.Perm b → a.sum = b.sum := fun h => by
  induction h with
  | nil => rfl
  | cons x _ ih => simp [ih]
  | swap x y l => simp; omega
  | trans _ _ ih1 ih2 => exact ih1.trans ih2
theorem sumK_perm {m : PM} {a b : List (List UInt8)} (h : a.Perm b) : sumK m a = sumK m b := sum_perm (h.map _)
theorem sumK_keys {m : PM} (hr : RiseM m) : sumK m (keysM m) = sizeM m := by
  unfold sumK keysM sizeM
  rw [List.map_map]
  congr 1
  apply List.map_congr_left
  intro p hp
  show pairN m p.1 = _
  unfold pairN
  rw [mem_look hr (k := p.1) (v := p.2) hp]
  rfl
theorem sumK_le {m : PM} (hp : PairsR m) : ∀ (ks : List (List UInt8)), (∀ k ∈ ks, (lookM m k).isSome = true) → sumK m ks ≤ 1092 * ks.length
  | [], _ => Nat.le_refl _
  | k :: ks, h => by
    have h1 := sumK_le hp ks (fun q hq => h q (List.mem_cons_of_mem _ hq))
    obtain ⟨v, hv⟩ := Option.isSome_iff_exists.1 (h k List.mem_cons_self)
    have h2 := hp _ (look_mem hv)
    show pairN m k + sumK m ks ≤ 1092 * (ks.length + 1)
    unfold pairN
    rw [hv]
    have h3 : (Option.getD (some v) ([] : List UInt8)).length = v.length := rfl
    have h4 : k.length ≤ 64 := h2.2.1
    have h5 : v.length ≤ 1024 := h2.2.2
    omega
theorem sumK_snoc (m : PM) (ks : List (List UInt8)) (k : List UInt8) : sumK m (ks ++ [k]) = sumK m ks + pairN m k := by
  unfold sumK
  rw [List.map_append, List.sum_append]
  simp
set_option maxRecDepth 100000 in
set_option maxHeartbeats 4000000 in
theorem size_any8 (b : Nat) (C : Nat → Prop) (m : PM) (w : World) (hM : MapP w C b m) (hp : PairsR m) (hml : m.length ≤ 1000000000) :
    Calls Tryz.prog 58 #[.map (some b)] w fun e w' => e = .returned (.int .i64 (sizeM m : Int)) ∧ Below w.heap.size w w' := by
  obtain ⟨n, D, hown, hH⟩ := hM.body
  have hrise := hM.rise
  have hbl := hM.lt
  have hsz := hH.size hown hrise
  obtain ⟨R, hR⟩ : ∃ R, R = sizeM m := ⟨_, rfl⟩
  rw [← hR]
  have HR : Hid (R = sizeM m) := hR
  clear hR
  go_enter Tryz.func58, Tryz.ntmps58
  go_wp2_with (at_range; refine wpList_range_own _ rfl _ 71 rfl 9 34 keyS Tryz.underlying71 _ b _ D rfl hown ?_; intro w2 hrg2 hg2 hs2)
  go_frame
  rw [hsz] at hrg2
  have hB2 : Below w.heap.size w w2 := below_grown (Below.refl _ _) hg2 (Nat.le_refl _) (fun k hk => by cases hk)
  go_loopw [3] (fun nv wr => ∃ left cnt ss, wr.ranges Tryz.prog 9 R8 b w.heap.size n D left cnt ∧ Collected D left ss ∧ ss.length + cnt ≤ m.length ∧ (∀ k ∈ ss, (lookM m k).isSome = true) ∧ nv = .int .i64 (sumK m ss : Int) ∧ Below w.heap.size w wr) (fun _ wr => wr.rangeLeft b w.heap.size)
  case atStart => exact ⟨_, _, [], hrg2, Collected.start D, by simp, (fun k hk => by cases hk), rfl, hB2⟩
  case round =>
    clear hrg2 hB2 hg2 hs2
    obtain ⟨left, cnt, ss, hrg, hC, hle, hin, rfl, hB⟩ := hrel
    have hrl := hrg.lt
    have hsum := sumK_le hp ss hin
    go_wp2_with (at_next; refine wpList_next8 _ rfl _ rfl b w.heap.size n D left cnt rfl hrg ?_ ?_)
    · intro hl0
      have hpm := (hC.perm hrg.owns keyS Tryz.underlying9 hl0).trans (hH.perm hown hrise).symm
      have HSO : Hid (sumK m ss = R) := by show _ = _; rw [sumK_perm hpm, sumK_keys hrise, HR.out]
      clear hpm hl0 hC hin
      go_wp2_with fail
      go_ret
      rw [HSO.out]
      exact ⟨rfl, hB⟩
    · intro x ta tn tc w3 cnt3 hlx hxl hat hrg3 hlt3 hg3 hs3 hen
      have hC3 := hC.step hlx hat
      have hB3 : Below w.heap.size w w3 := below_grown hB hg3 hB.size (fun k hk => by cases hk; exact Nat.le_refl _)
      have hms : wr.rangeLeft b w.heap.size = cnt := hrg.left_eq
      have hhas := has_true_of_atKey hat
      rw [hH.has] at hhas
      obtain ⟨bv, hbv⟩ := Option.isSome_iff_exists.1 hhas
      obtain ⟨v, hv1, hv2⟩ := hH.is x bv hbv
      have htn : tn = bv.length := by
        have e := (hat .nil).symm.trans (hv1 .nil)
        injection e with e
        obtain ⟨va, vc, e2⟩ := hv2.1.shapeD
        rw [← e] at e2
        injection e2
      have hbnd := hp _ (look_mem hbv)
      have hx1 : x.length ≤ 64 := hbnd.2.1
      have hx2 : tn ≤ 1024 := by rw [htn]; exact hbnd.2.2
      have hsn : sumK m (ss ++ [x]) = sumK m ss + (4 + x.length + tn) := by
        rw [sumK_snoc]
        unfold pairN
        rw [hbv, htn]
        rfl
      have hin3 : ∀ k ∈ ss ++ [x], (lookM m k).isSome = true := fun k hk => by
        rcases List.mem_append.1 hk with h | h
        · exact hin k h
        · rw [List.mem_singleton.1 h]; exact hhas
      have hxs := str_size x
      clear hlx hC hs3 hin hbv hv1 hv2 hhas htn hat hbnd
      generalize (⟨x.toArray⟩ : ByteArray) = X at *
      generalize hSV : sumK m ss = SV at *
      have hsl : SV ≤ 1092000000000 := by omega
      go_wp2_with fail
      go_roundw
      case rel => exact ⟨_, _, ss ++ [x], hrg3, hC3, by rw [List.length_append, List.length_singleton]; omega, hin3, by rw [hsn]; go_num, hB3⟩
      case measure => rw [hrg3.left_eq, hms]; exact hlt3
end Go.Proofs.YtbegphfideopoaaGreat
