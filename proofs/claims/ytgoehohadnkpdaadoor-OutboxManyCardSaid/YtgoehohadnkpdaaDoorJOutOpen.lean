/-
  What is proved here: outbox.Open opens an empty box in two blocks that are all ones; Box.Pending tells what waits.
  Conditions: the flash lies in memory, the power is on, the two blocks are there; the variable fourBits holds the sixteen words.
-/
import Derived.Test.YtgoehohadnkpdaaDoorJOutRoom
namespace Go.Proofs.YtgoehohadnkpdaaDoor
open Go.RowKit

theorem boxC_first (L : PLay6) (j : Nat) : boxC L j (.slice none 0 0) XS.first = #[.pointer (some ⟨L.g, 0, none⟩), .int .i64 (j : Int), .slice none 0 0, .int .i64 0, .int .i64 0, .int .i64 0, .int .i64 0, .int .i64 0, .int .i64 0, .int .i64 (-1), .bool false] := rfl
set_option maxRecDepth 100000 in
set_option maxHeartbeats 4000000 in
theorem openP (L : PLay6) (s : FS) (j base : Nat) (w : World) (hD : PFlash w L s) (hdn : s.down = false) (hj : j + 1 < L.n) (hbl : ∀ wh i, wh ≤ 1 → i < 32 → cellB (blkB s (j + wh)) i = List.replicate 32 255) (hgf : 1 < w.heap.size) (hf : Tab w 1 (fours.map v32)) :
    Calls Tryd.prog 12 #[.pointer (some ⟨L.g, 0, none⟩), .int .i64 (j : Int)] w fun e w' => ∃ g, e = .returned (.tuple #[.pointer (some ⟨g, 0, none⟩), .int .i64 0]) ∧ BX w' L g j base (.slice none 0 0) XS.first s ∧ w.heap.size ≤ g ∧ Below w.heap.size w w' := by
  have hcap := hD.ok.cap
  have hTlt := hD.lt
  have HL : Hid (Calls Tryd.prog 24 #[.pointer (some ⟨L.g, 0, none⟩)] w fun e w' => e = .returned (.int .i64 (L.n : Int)) ∧ w = w') := len6_any L s w hD
  have hw2 : IntKind.i64.wrap ((L.n : Int) - 2) = (L.n : Int) - 2 := by rw [IntKind.wrap_i64]; omega
  have h0 : ¬ (j : Int) < 0 := by omega
  have h1 : ¬ (L.n : Int) - 2 < (j : Int) := by omega
  go_enter Tryd.func12, Tryd.ntmps12
  go_wp2_with fail
  refine HL.out.mono ?_
  rintro e w1 ⟨rfl, rfl⟩
  clear HL
  go_wp2_with fail
  refine (noEntryX w).mono ?_
  rintro e w3 ⟨rfl, hB3⟩
  unfold xeV xeL XE.first
  obtain ⟨g, hg⟩ : ∃ g, g = w3.heap.size := ⟨_, rfl⟩
  have hbK := (Below.refl w3.heap.size w3).alloc (Nat.le_refl _) (.cells (boxC L j (.slice none 0 0) XS.first) 67)
  have hkK := Blk.new w3 67 (boxC L j (.slice none 0 0) XS.first)
  rw [← hg] at hkK
  have hB4 : Below w.heap.size w (w3.alloc (.cells (boxC L j (.slice none 0 0) XS.first) 67)) := hB3.trans (hbK.mono hB3.size)
  have hgw : w.heap.size ≤ g := by have := hB3.size; omega
  have HF : Hid (Calls Tryd.prog 26 #[.pointer (some ⟨g, 0, none⟩)] (w3.alloc (.cells (boxC L j (.slice none 0 0) XS.first) 67)) fun e w' => e = .returned (.int .i64 0) ∧ Below (w3.alloc (.cells (boxC L j (.slice none 0 0) XS.first) 67)).heap.size (w3.alloc (.cells (boxC L j (.slice none 0 0) XS.first) 67)) w') := findX0 L s g j _ hkK (thePF.after hD hB4) hdn hj hbl (Nat.lt_of_lt_of_le hgf hB4.size) (hf.below hB4 hgf)
  have HK : Hid (Blk (w3.alloc (.cells (boxC L j (.slice none 0 0) XS.first) 67)) g 67 (boxC L j (.slice none 0 0) XS.first)) := hkK
  have HD : Hid (PFlash w L s) := hD
  clear hkK hbK hD hf hbl
  rw [boxC_first] at HF hB4 HK
  go_wp2_with fail
  rw [← hg]
  refine HF.out.mono ?_
  rintro e w5 ⟨rfl, hb5⟩
  have hB5 : Below w.heap.size w w5 := hB4.trans (hb5.mono hB4.size)
  have HX : Hid (BX w5 L g j base (.slice none 0 0) XS.first s) := ⟨HK.out.below hb5 HK.out.lt, ⟨rfl, .inl ⟨rfl, rfl⟩⟩, thePF.after HD.out hB5, (fun h => by have := hTlt g h; omega), (fun q hq => by cases hq), Nat.zero_le _⟩
  clear HF hB4 hB3 hg HK HD
  go_wp2
  go_ret2
  exact ⟨g, rfl, HX.out, hgw, hB5⟩

def qL (e : XE) : List Value := [.int .i64 (e.seq : Int), .int .i64 e.r.c, .int .i64 e.r.l, .int .i64 e.r.v, .int .i64 e.r.o]
def qsC (l : List XE) : List Value := l.flatMap qL
theorem qsC_snoc (l : List XE) (e : XE) : qsC l ++ qL e = qsC (l ++ [e]) := by simp [qsC]
theorem qsC_len : ∀ l : List XE, (qsC l).length = l.length * 5
  | [] => rfl
  | x :: l => by
    show (qL x ++ qsC l).length = _
    rw [List.length_append, qsC_len l, List.length_cons]
    show 5 + _ = _
    omega
theorem qsC_at : ∀ (l : List XE) (i k : Nat) (e : XE), l[i]? = some e → k < 5 → (qsC l)[i * 5 + k]? = (qL e)[k]?
  | [], _, _, _, h, _ => by cases h
  | x :: l, 0, k, e, h, hk => by
    cases h
    show (qL x ++ qsC l)[0 * 5 + k]? = _
    rw [Nat.zero_mul, Nat.zero_add, List.getElem?_append_left (by exact hk)]
  | x :: l, i + 1, k, e, h, hk => by
    show (qL x ++ qsC l)[(i + 1) * 5 + k]? = _
    rw [List.getElem?_append_right (by show 5 ≤ _; omega), show (i + 1) * 5 + k - (qL x).length = i * 5 + k by show (i + 1) * 5 + k - 5 = _; omega]
    exact qsC_at l i k e h hk
theorem one_q (e : XE) : ∀ u ∈ qL e, u.oneCell' = true := by
  intro u hu
  simp only [qL, List.mem_cons, List.not_mem_nil, or_false] at hu
  rcases hu with rfl | rfl | rfl | rfl | rfl <;> rfl
theorem info_q : (Tryd.prog.info? 41).map (fun i => (i.zero, i.size, i.bytes)) = some (some (.agg #[.int .i64 0, .int .i64 0, .int .i64 0, .int .i64 0, .int .i64 0]), 5, 40) := by kernel_rfl
theorem under_qs : Tryd.prog.underlying 34 = some (.slice 41) := by kernel_rfl
/-- Entries that are told, in a row of the call's own. -/
def QsR (w : World) (base : Nat) (v : Value) (l : List XE) : Prop := w.ownsRow base 41 5 v l.length (qsC l)
theorem q_more (w : World) (base : Nat) (v : Value) (l : List XE) (e : XE) (h : QsR w base v l) (hn : l.length ≤ 1000000) (hb : base ≤ w.heap.size) : ∃ v' W', (∀ ty, (Builtin.append_ #[34, 34] ty #[v, .slice (some ⟨w.heap.size, 0, none⟩) 1 1]).run Tryd.prog (w.alloc (.cells #[.int .i64 (e.seq : Int), .int .i64 e.r.c, .int .i64 e.r.l, .int .i64 e.r.v, .int .i64 e.r.o] 41)) = .ok v' W') ∧ QsR W' base v' (l ++ [e]) ∧ ∀ {B : Nat} {w0 : World}, B ≤ base → Below B w0 w → B ≤ w.heap.size → Below B w0 W' := by
  have := app_one9 34 41 _ 5 40 under_qs info_q rfl (by decide) (by decide) w base l.length v (qsC l) (qL e) h rfl (one_q e) hn hb
  unfold QsR
  rw [List.length_append, ← qsC_snoc]
  exact this

set_option maxRecDepth 100000 in
set_option maxHeartbeats 2000000 in
theorem pendP (L : PLay6) (s : FS) (g j base : Nat) (wv : Value) (x : XS) (w : World) (h : BX w L g j base wv x s) :
    Calls Tryd.prog 20 #[.pointer (some ⟨g, 0, none⟩)] w fun e w' => ∃ v, e = .returned v ∧ QsR w' w.heap.size v x.wt ∧ Below w.heap.size w w' := by
  have c2 : w.cell? ⟨g, 2, none⟩ = some wv := h.blk.cell (j := 2) rfl
  have HW : Hid (WtR w base wv x.wt) := h.row
  have hlen := h.len
  obtain ⟨ao, c, hv⟩ := h.row.shape
  rw [hv] at HW c2
  generalize x.wt = l at *
  clear h hv
  go_enter Tryd.func20, Tryd.ntmps20
  go_wp2
  go_loopw [3, 11] (fun v i wr => ∃ k : Nat, k ≤ l.length ∧ i = .int .i64 k ∧ QsR wr w.heap.size v (l.take k) ∧ Below w.heap.size w wr) (fun _ i _ => l.length - (intOf i).toNat)
  case atStart => exact ⟨0, Nat.zero_le _, rfl, ⟨rfl, .inl ⟨rfl, rfl⟩⟩, Below.refl _ _⟩
  case round =>
    obtain ⟨k, hk, rfl, hq, hB⟩ := hrel
    by_cases hlt : k < l.length
    · obtain ⟨e, he⟩ : ∃ e, l[k]? = some e := ⟨l[k], List.getElem?_eq_getElem hlt⟩
      obtain ⟨b, c', hbv, hbl, _, hcs⟩ := (HW.out.after hB).at he
      have hao : ao = some ⟨b, 0, none⟩ := by cases hbv; rfl
      subst hao
      have ix := fun w => index_ents b l.length c k w hlt
      have c0 := hcs 0 _ rfl
      have c1 := hcs 1 _ rfl
      have d2 := hcs 2 _ rfl
      have d3 := hcs 3 _ rfl
      have d4 := hcs 4 _ rfl
      have d5 := hcs 5 _ rfl
      have d6 := hcs 6 _ rfl
      rw [Nat.add_zero] at c0
      have hbE := (Below.refl wr.heap.size wr).alloc (Nat.le_refl _) (.cells #[.int .i64 (e.seq : Int), .int .i64 e.r.c, .int .i64 e.r.l, .int .i64 e.r.v, .int .i64 e.r.o, .int .i64 (e.wh : Int), .int .i64 e.la] 63)
      have hqE : QsR (wr.alloc (.cells #[.int .i64 (e.seq : Int), .int .i64 e.r.c, .int .i64 e.r.l, .int .i64 e.r.v, .int .i64 e.r.o, .int .i64 (e.wh : Int), .int .i64 e.la] 63)) w.heap.size u3 (l.take k) := World.ownsRow.alloc hq _
      obtain ⟨v', W', hr, ho, hb⟩ := q_more _ w.heap.size u3 (l.take k) e hqE (by rw [List.length_take]; omega) (Nat.le_trans hB.size hbE.size)
      have HB := hb (Nat.le_refl _) (hB.trans (hbE.mono hB.size)) (Nat.le_trans hB.size hbE.size)
      have HO : Hid (QsR W' w.heap.size v' (l.take (k + 1))) := by
        have e1 : l.take (k + 1) = l.take k ++ [e] := by rw [List.take_add_one, he]; rfl
        rw [e1]
        exact ho
      rw [World.size_alloc] at hr
      clear ho hb hq hcs hbv he hqE hbE
      go_wp2_with (at_builtin; refine app_ran9 _ W' rfl _ _ 34 rfl _ _ v' rfl rfl hr ?_)
      go_roundw
      case rel => exact ⟨k + 1, hlt, by go_num, HO.out, HB⟩
      case measure => simp [intOf]; omega
    · have HO : Hid (QsR wr w.heap.size u3 l) := by rw [List.take_of_length_le (by omega)] at hq; exact hq
      clear hq
      go_wp2
      go_ret
      exact ⟨_, rfl, HO.out, hB⟩
end Go.Proofs.YtgoehohadnkpdaaDoor
