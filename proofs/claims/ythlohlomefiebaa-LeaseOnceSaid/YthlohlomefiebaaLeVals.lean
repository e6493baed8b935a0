/-
  What is proved here: slices.Sorted(maps.Values(..)) of the map of open leases: their numbers, rising.
  Conditions: the map lies in memory and holds what it must.
-/
import Derived.Test.YthlohlomefiebaaLeKeys
import Derived.Lib.SlKeysI
import Derived.Test.YthlohlomefiebaaLeMap
namespace Go.Proofs.Ythlohlomefiebaa
open Go.RowKit Go.Maps Go.Sort Go.Shelf Go.Proofs

/-- All pairs of a map. -/
def ValI (D0 : DataW Unit) (p : Int × Int) : Prop := ∀ zd, D0.atKey (.int .i64 p.1) zd = .lit (.int .i64 p.2)
def AllI (D0 : DataW Unit) (ps : List (Int × Int)) : Prop := (ps.map (·.1)).Perm (intKeys D0) ∧ ∀ p ∈ ps, ValI D0 p
set_option maxRecDepth 100000 in
set_option maxHeartbeats 1000000 in
theorem values1I_in (n : Nat) (hn : 1 ≤ n) (l Bm b nn : Nat) (D0 : DataW Unit) (J : List Int → World → Prop)
    (hY : ∀ pre x W, J pre W → pre.length < Maps.size D0 → YieldAt Fence.wide (n - 1) Try.prog l #[encZ x] W fun e W' => e = .returned (.bool true) ∧ J (pre ++ [x]) W' ∧ KeepsWalks W W')
    (W : World) (hJ : AbidesFrom W.heap.size J) (hm : W.cell? ⟨Bm, 0, none⟩ = some (.map (some b))) (hown : W.ownsMap Try.prog 3 numR b nn D0) (h0 : J [] W) :
    CallsIn Fence.wide n Try.prog 47 #[.func (.yield l) #[] #[], .pointer (some ⟨Bm, 0, none⟩)] W fun e W' => (∃ v, e = .returned v) ∧ ∃ xs, (∃ ps, AllI D0 ps ∧ xs = ps.map (·.2)) ∧ J xs W' := by
  refine callsIn_of_wp Try.func47 rfl trivial ?_ rfl
  simp only [Try.ntmps47, List.size_toArray, List.length_cons, List.length_nil, Nat.reduceAdd, Nat.reduceSub, Array.replicate_succ, Array.replicate_zero, List.push_toArray, List.append_toArray, List.nil_append, List.cons_append]
  gi_wp2_with (first
    | (gi_at_range; refine wpListIn_range_own _ rfl _ 49 rfl 3 3 keyE Try.underlying49 _ b nn _ rfl hown ?_; intro w0 hrg0 hg0 hs0)
    | gi_in)
  go_frame
  gi_loopw [4] (fun _ wr => ∃ (left : Lit → Bool) (cnt : Nat) (ps : List (Int × Int)), wr.ranges Try.prog 3 numR b W.heap.size nn D0 left cnt ∧ ps.length + cnt ≤ Maps.size D0 ∧ CollectedI D0 left (ps.map (·.1)) ∧ (∀ p ∈ ps, ValI D0 p) ∧ J (ps.map (·.2)) wr)
    (fun _ wr => wr.rangeLeft b W.heap.size)
  case atStart =>
    exact ⟨_, _, [], hrg0, by simp, CollectedI.start D0, by simp, hJ [] W w0 none h0 hg0 (fun r e => by cases e)⟩
  case round =>
    obtain ⟨left, cnt, ps, hrg, hcs, hC, hV, hJs⟩ := hrel
    gi_wp2_with (first
      | (gi_at_next; refine wpListIn_next_ranges _ rfl _ rfl 3 keyE numR encZ (Value.int .i64) (fun key kl hk => by obtain ⟨x, hx, _⟩ := Maps.keyOf_i64 Try.underlying3 hk; exact ⟨x, hx⟩) (fun v y hv => by obtain ⟨c, rfl, _⟩ := plainElem_int_inv Try.underlying3 hv; exact ⟨c, rfl⟩) b W.heap.size nn _ _ _ rfl hrg ?_ ?_)
      | gi_in)
    · intro hc0 hl0
      gi_wp2
      go_end0
      exact ⟨⟨_, rfl⟩, _, ⟨ps, ⟨hC.perm hown keyE Try.underlying3 hl0, hV⟩, rfl⟩, hJs⟩
    · intro x c kl yd yp w2 cnt2 hkey hlk hv hat hrg2 hlt hg2 hs2 hen
      obtain ⟨x', ex, rfl, _⟩ := Maps.keyOf_i64 Try.underlying3 hkey
      obtain rfl : x = x' := encZ_inj ex
      obtain ⟨c', ec, ez, _⟩ := plainElem_int_inv Try.underlying3 hv
      obtain rfl : c = c' := by simpa using ec
      obtain rfl : yd = .lit (.int .i64 c) := (Prod.mk.inj ez).1
      have hJ2 : J (ps.map (·.2)) w2 := hJ _ wr w2 (some W.heap.size) hJs hg2 (fun r e => by cases e; exact ⟨Nat.le_refl _, hrg.iter_walk⟩)
      obtain ⟨fn, tmps, assign, body, hy, hR⟩ := hY (ps.map (·.2)) c w2 hJ2 (by simp; omega)
      clear hs2
      gi_wp2
      refine hR.mono ?_
      have hC2 : CollectedI D0 (fun z => left z && !z.sameKey (.int .i64 x)) ((ps ++ [(x, c)]).map (·.1)) := by simpa using hC.step hlk hat
      have hV2 : ∀ p ∈ ps ++ [(x, c)], ValI D0 p := fun p hp => (List.mem_append.1 hp).elim (hV p) (fun e => by simp at e; subst e; exact hat)
      rintro e W3 ⟨rfl, hJ3, hk3⟩
      gi_wp2
      have hrg3 := hrg2.of_walks hk3
      go_roundw
      case rel => exact ⟨_, cnt2, ps ++ [(x, c)], hrg3, by simp; omega, hC2, hV2, by simpa using hJ3⟩
      case measure => rw [hrg3.left_eq, hrg.left_eq]; exact hlt
theorem vals_gives (n : Nat) (hn : 1 ≤ n) (Bm b nn : Nat) (D0 : DataW Unit) (w : World) (hBm : Bm < w.heap.size) (hm : w.cell? ⟨Bm, 0, none⟩ = some (.map (some b))) (hown : w.ownsMap Try.prog 3 numR b nn D0) :
    SeqGives Fence.wide n Try.prog 47 #[.pointer (some ⟨Bm, 0, none⟩)] encZ (fun xs => ∃ ps, AllI D0 ps ∧ xs = ps.map (·.2)) (Maps.size D0) w := fun l J W hW hJ hY h0 => by
  have hown' : W.ownsMap Try.prog 3 numR b nn D0 := by
    have hbl := hown.lt
    obtain ⟨es, clock, hb, Ft, hs, hD⟩ := hown
    exact ⟨es, clock, (hW.block b hbl).trans hb, Ft, hs, hD⟩
  exact values1I_in n hn l Bm b nn D0 J hY W hJ ((hW.cell (p := ⟨Bm, 0, none⟩) hBm).trans hm) hown' h0
/-- The numbers of open leases. -/
def numsT (l : List LE) : List Int := (opens l).map (·.n)
theorem HoldsT.keys {w : World} {b m : Nat} {D : DataW Unit} {l : List LE} (h : HoldsT D l) (hown : w.ownsMap Try.prog 3 numR b m D) (ok : OkT l) : ((opens l).map (·.d)).Perm (intKeys D) := by
  obtain ⟨es, hD, hpw, _⟩ := hown.entries keyE
  obtain ⟨es', hD', hko⟩ := hown.keysOf
  obtain rfl : es = es' := by rw [hD] at hD'; simpa using hD'
  subst hD
  refine perm_intKeys hpw (fun p hp => by obtain ⟨v, hv⟩ := hko p hp; obtain ⟨x, _, hx, _⟩ := Maps.keyOf_i64 Try.underlying3 hv; exact ⟨x, hx⟩) ?_ (fun x => ?_)
  · have hp : l.Pairwise (fun a b => 0 < a.u → 0 < b.u → a.d ≠ b.d) := by
      rw [List.pairwise_iff_getElem]
      intro i j hi hj hij ha hb e
      have := ok.one i j l[i] l[j] (List.getElem?_eq_getElem hi) (List.getElem?_eq_getElem hj) ha hb e
      omega
    unfold opens List.Nodup
    rw [List.pairwise_map, List.pairwise_filter]
    exact hp.imp (fun h ha hb => h (by simpa using ha) (by simpa using hb))
  · rw [h.has x, decide_eq_true_iff]
    unfold opens
    simp only [List.mem_map, List.mem_filter, decide_eq_true_eq]
    constructor
    · rintro ⟨e, ⟨h1, h2⟩, h3⟩; exact ⟨e, h1, h3, h2⟩
    · rintro ⟨e, h1, h3, h2⟩; exact ⟨e, ⟨h1, h2⟩, h3⟩
theorem numOf_open {l : List LE} (ok : OkT l) {e : LE} (he : e ∈ opens l) : numOf l e.d = e.n := by
  unfold opens at he
  obtain ⟨h1, h2⟩ := List.mem_filter.1 he
  unfold numOf
  rw [ok.open h1 (of_decide_eq_true h2)]
  rfl
theorem vals_perm {w : World} {b m : Nat} {D : DataW Unit} {l : List LE} (h : HoldsT D l) (hown : w.ownsMap Try.prog 3 numR b m D) (ok : OkT l) {ps : List (Int × Int)} (hA : AllI D ps) : (ps.map (·.2)).Perm (numsT l) := by
  have hk := hA.1.trans (h.keys hown ok).symm
  have e1 : ps.map (·.2) = (ps.map (·.1)).map (numOf l) := by
    rw [List.map_map]
    apply List.map_congr_left
    intro p hp
    have hm : p.1 ∈ (opens l).map (·.d) := hk.mem_iff.1 (List.mem_map.2 ⟨p, hp, rfl⟩)
    obtain ⟨e, he, hd⟩ := List.mem_map.1 hm
    show p.2 = numOf l p.1
    rw [← hd, numOf_open ok he]
    unfold opens at he
    obtain ⟨h1, h2⟩ := List.mem_filter.1 he
    have a1 := h.is e h1 (of_decide_eq_true h2) .nil
    have a2 := hA.2 p hp .nil
    rw [← hd, a1] at a2
    simpa using a2.symm
  have e2 : numsT l = ((opens l).map (·.d)).map (numOf l) := by
    unfold numsT
    rw [List.map_map]
    apply List.map_congr_left
    intro e he
    exact (numOf_open ok he).symm
  rw [e1, e2]
  exact hk.map _
theorem nums_rise {l : List LE} (ok : OkT l) : (numsT l).Pairwise (fun a b => a < b) := by
  have hp : l.Pairwise (fun a b => a.n < b.n) := by
    rw [List.pairwise_iff_getElem]
    intro i j hi hj hij
    have h1 := ok.num i l[i] (List.getElem?_eq_getElem hi)
    have h2 := ok.num j l[j] (List.getElem?_eq_getElem hj)
    omega
  unfold numsT opens
  rw [List.pairwise_map]
  exact hp.sublist List.filter_sublist
theorem vals_sort {l : List LE} (ok : OkT l) {xs : List Int} (h : xs.Perm (numsT l)) : xs.mergeSort (fun x y => decide (x ≤ y)) = numsT l := by
  have e : xs.mergeSort leI = (numsT l).mergeSort leI := mergeSort_of_perm_i h
  show xs.mergeSort leI = _
  rw [e]
  apply List.mergeSort_of_pairwise
  refine (nums_rise ok).imp (fun h => ?_)
  simp only [leI, decide_eq_true_eq]; omega
theorem sortsE (m : Nat) : AnyZI.SortsIn Try.prog sortedA_ren Fence.wide m :=
  ⟨fun blk off cap ss W hH hblk hsz => callsIn_wide.2 (AnyM.slices_Sort_int sortA blk off cap ss W hH hblk hsz),
   fun p cap W => callsIn_wide.2 (AnyM.slices_Sort_int_none sortA p cap W)⟩
theorem vals16_any (b : Nat) (w : World) : Calls Try.prog 39 #[.map (some b)] w fun e w' => e = .returned (.func (.func 47) #[] #[.pointer (some ⟨w.heap.size, 0, none⟩)]) ∧ w' = w.alloc (.cells #[.map (some b)] 49) := by
  go_enter Try.func39, Try.ntmps39
  go_wp2
  go_ret
  exact ⟨rfl, rfl⟩
theorem sorted16_any (Bm b nn : Nat) (D0 : DataW Unit) (l : List LE) (w : World) (hBm : Bm < w.heap.size) (hm : w.cell? ⟨Bm, 0, none⟩ = some (.map (some b))) (hown : w.ownsMap Try.prog 3 numR b nn D0) (hH : HoldsT D0 l) (ok : OkT l) :
    Calls Try.prog 38 #[.func (.func 47) #[] #[.pointer (some ⟨Bm, 0, none⟩)]] w fun e w' => ∃ v, e = .returned v ∧ w'.ownsRow w.heap.size 3 1 v (numsT l).length ((numsT l).map encZ) ∧ Below w.heap.size w w' := by
  have hsz : Maps.size D0 ≤ 20000 := by
    rw [hH.size]
    have := ok.len
    have h2 : (opens l).length ≤ l.length := by unfold opens; exact List.length_filter_le _ _
    omega
  have cS := (callsIn_wide (n := 5)).1 (AnyZI.sorted_in sortedA Fence.wide 5 trivial trivial trivial trivial rfl (by omega) (sortsE _) (enters_of Try.func46 (by kernel_rfl) rfl) 47 #[.pointer (some ⟨Bm, 0, none⟩)] trivial (enters_of Try.func47 (by kernel_rfl) rfl) _ (Maps.size D0) (by unfold maxLen; omega) (by omega) w (vals_gives _ (by omega) Bm b nn D0 w hBm hm hown))
  change Calls Try.prog 38 _ _ _ at cS
  refine cS.mono ?_
  rintro e w' ⟨v, xs, rfl, ⟨ps, hA, rfl⟩, hrow, hnil, hb⟩
  have hp := vals_perm hH hown ok hA
  rw [vals_sort ok hp, hp.length_eq] at hrow
  exact ⟨v, rfl, hrow, hb⟩
end Go.Proofs.Ythlohlomefiebaa
