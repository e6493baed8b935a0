/-
  What is proved here: Load makes a table of leases, or tells that there is none.
  Conditions: the leases lie in memory.
-/
import Derived.Test.YthlohlomefiebaaLeMay
namespace Go.Proofs.Ythlohlomefiebaa
open Go.RowKit Go.Maps

/-- May leases be a table? -/
def canT (l : List LE) : Bool := decide (l.length ≤ 20000) && (List.range l.length).all (fun i => mayT (l.take i) (l.getD i noLE))
theorem canT_iff (l : List LE) : canT l = true ↔ l.length ≤ 20000 ∧ ∀ i, i < l.length → mayT (l.take i) (l.getD i noLE) = true := by
  unfold canT
  simp [List.all_eq_true]
theorem cells_le {w : World} {b off : Nat} {e : LE} {i : Nat} (h : ∀ (k : Nat) u, (leL e)[k]? = some u → w.cell? ⟨b, off + i * 3 + k, none⟩ = some u) : w.cell? ⟨b, off + i * 3, none⟩ = some (.int .i64 e.n) ∧ w.cell? ⟨b, off + i * 3 + 1, none⟩ = some (.int .i64 e.d) ∧ w.cell? ⟨b, off + i * 3 + 2, none⟩ = some (.int .i64 e.u) := ⟨h 0 _ rfl, h 1 _ rfl, h 2 _ rfl⟩
set_option maxRecDepth 100000 in
set_option maxHeartbeats 4000000 in
theorem load16_any {w : World} {x : Value} {l : List LE} (hx : LeIn w x l) : Calls Try.prog 14 #[x] w fun e w' => ((canT l = true ∧ ∃ G b v, e = .returned (.tuple #[.pointer (some ⟨G, 0, none⟩), .int .i64 0]) ∧ LeT w' w.heap.size G b v l) ∨ (canT l = false ∧ e = .returned (.tuple #[.pointer none, .int .i64 1]))) ∧ Below w.heap.size w w' := by
  have HR : Hid (0 < l.length → ∃ b off c, x = .slice (some ⟨b, off, none⟩) l.length c ∧ b < w.heap.size ∧ ∀ (i : Nat) e, l[i]? = some e → w.cell? ⟨b, off + i * 3, none⟩ = some (.int .i64 e.n) ∧ w.cell? ⟨b, off + i * 3 + 1, none⟩ = some (.int .i64 e.d) ∧ w.cell? ⟨b, off + i * 3 + 2, none⟩ = some (.int .i64 e.u)) := fun h => by
    obtain ⟨b, off, c, h1, _, h2, h3⟩ := hx.form h
    exact ⟨b, off, c, h1, h2, fun i e hi => cells_le (h3 i e hi)⟩
  obtain ⟨ax, cx, rfl⟩ := hx.shape
  clear hx
  by_cases h20 : 20000 < l.length
  · have d1 : decide ((20000 : Int) < (l.length : Int)) = true := decide_eq_true (by omega)
    have HN : Hid (canT l = false) := by
      show _ = _
      cases hc : canT l with
      | false => rfl
      | true => have := ((canT_iff l).1 hc).1; omega
    clear h20
    go_enter Try.func14, Try.ntmps14
    go_wp2
    go_ret2
    exact ⟨.inr ⟨HN.out, rfl⟩, Below.refl _ _⟩
  have d1 : decide ((20000 : Int) < (l.length : Int)) = false := decide_eq_false (by omega)
  have HL : Hid (l.length ≤ 20000) := by show _ ≤ _; omega
  clear h20
  go_enter Try.func14, Try.ntmps14
  go_wp2_with fail
  refine (new16_any w).mono ?_
  rintro e w1 ⟨G, b, rfl, hT, hB⟩
  have HT0 : Hid (LeT w1 w.heap.size G b (.slice none 0 0) []) := hT
  clear hT
  go_wp2_with fail
  go_loopw [13] (fun i wr => ∃ (k : Nat) (v : Value), i = .int .i64 (k : Int) ∧ k ≤ l.length ∧ Below w.heap.size w wr ∧ Hid (LeT wr w.heap.size G b v (l.take k)) ∧ Hid (∀ i, i < k → mayT (l.take i) (l.getD i noLE) = true)) (fun i _ => l.length - (Go.RowKit.intOf i).toNat)
  case atStart => exact ⟨0, _, rfl, Nat.zero_le _, hB, HT0.out, fun i hi => absurd hi (Nat.not_lt_zero i)⟩
  case round =>
    clear hB HT0
    obtain ⟨k, v, rfl, hk, hB, HT, HM⟩ := hrel
    have hll := HL.out
    by_cases hlt : k < l.length
    · obtain ⟨bd, off, c', hxx, hbd, hr⟩ := HR.out (by omega)
      cases hxx
      obtain ⟨q0, q1, q2⟩ := hr k _ (List.getElem?_eq_getElem hlt)
      have k0 := (hB.cell (p := ⟨bd, off + k * 3, none⟩) hbd).trans q0
      have k1 := (hB.cell (p := ⟨bd, off + k * 3 + 1, none⟩) hbd).trans q1
      have k2 := (hB.cell (p := ⟨bd, off + k * 3 + 2, none⟩) hbd).trans q2
      have ix := fun w => index_le bd off l.length cx k w hlt
      have HGD : Hid (l.getD k noLE = l[k]) := by show _ = _; rw [List.getD_eq_getElem?_getD, List.getElem?_eq_getElem hlt]; rfl
      have HTK : Hid (l.take (k + 1) = l.take k ++ [l[k]]) := by show _ = _; rw [List.take_add_one, List.getElem?_eq_getElem hlt]; rfl
      have HLK : Hid ((l.take k).length < 20000) := by
        show _ < _
        have := HL.out
        rw [List.length_take]; omega
      clear q0 q1 q2 hr
      generalize l[k] = e at *
      obtain ⟨en, ed, eu⟩ := e
      dsimp only at k0 k1 k2
      have hbx := below_newE wr (.cells #[.int .i64 en, .int .i64 ed, .int .i64 eu] 43)
      have HMY := may16_any (HT.out.after hbx (Nat.le_refl _)) ⟨en, ed, eu⟩
      have HX : Hid (Blk (wr.alloc (.cells #[.int .i64 en, .int .i64 ed, .int .i64 eu] 43)) wr.heap.size 43 #[.int .i64 en, .int .i64 ed, .int .i64 eu]) := Blk.new wr 43 _
      have HBX : Hid (Below wr.heap.size wr (wr.alloc (.cells #[.int .i64 en, .int .i64 ed, .int .i64 eu] 43))) := hbx
      have HBR : Hid (Below w.heap.size w wr) := hB
      clear hbx hB
      unfold leV leL at HMY
      dsimp only at HMY
      cases hm : mayT (l.take k) ⟨en, ed, eu⟩ with
      | false =>
        rw [hm] at HMY
        have HN : Hid (canT l = false) := by
          show _ = _
          cases hc : canT l with
          | false => rfl
          | true =>
            have := ((canT_iff l).1 hc).2 k hlt
            rw [HGD.out, hm] at this
            cases this
        clear hm
        go_wp2_with fail
        refine HMY.mono ?_
        rintro e w5 ⟨rfl, hb5⟩
        have HF : Hid (Below w.heap.size w w5) := (low_new HBR.out _).trans (hb5.mono (low_new HBR.out _).size)
        go_wp2
        go_ret2
        exact ⟨.inr ⟨HN.out, rfl⟩, HF.out⟩
      | true =>
        rw [hm] at HMY
        have HMK : Hid (mayT (l.take k) ⟨en, ed, eu⟩ = true) := hm
        clear hm
        go_wp2_with fail
        refine HMY.mono ?_
        rintro e w5 ⟨rfl, hb5⟩
        have hX5 := HX.out.below hb5 HX.out.lt
        have x0 : w5.cell? ⟨wr.heap.size, 0, none⟩ = some (.int .i64 en) := hX5.cell (j := 0) rfl
        have x1 : w5.cell? ⟨wr.heap.size, 1, none⟩ = some (.int .i64 ed) := hX5.cell (j := 1) rfl
        have x2 : w5.cell? ⟨wr.heap.size, 2, none⟩ = some (.int .i64 eu) := hX5.cell (j := 2) rfl
        have hB5 : Below w.heap.size w w5 := (low_new HBR.out _).trans (hb5.mono (low_new HBR.out _).size)
        have hT5 := (HT.out.after HBX.out (Nat.le_refl _)).after hb5 (Nat.le_refl _)
        have HB5 : Hid (Below w.heap.size w w5) := hB5
        obtain ⟨hok, hop⟩ := may_ok hT5.ok HLK.out HMK.out
        have HAD := add16_any hT5 hB5.size ⟨en, ed, eu⟩ hok hop
        have HGE : Hid (∀ q, LeM G b v q → w.heap.size ≤ q) := hT5.ge
        unfold leV leL at HAD
        dsimp only at HAD
        clear hX5 hB5 hT5 hok hop HMY hb5
        go_wp2_with fail
        refine HAD.mono ?_
        rintro e w6 ⟨rfl, v6, hT6, _, hC6⟩
        have HF : Hid (Below w.heap.size w w6 ∧ LeT w6 w.heap.size G b v6 (l.take (k + 1)) ∧ ∀ i, i < k + 1 → mayT (l.take i) (l.getD i noLE) = true) := by
          refine ⟨HB5.out.trans (hC6.below HGE.out HB5.out.size), by rw [HTK.out]; exact hT6, fun i hi => ?_⟩
          by_cases hik : i = k
          · subst hik; rw [HGD.out]; exact HMK.out
          · exact HM.out i (by omega)
        clear hT6 hC6 HAD x0 x1 x2
        go_wp2
        go_roundw
        case rel => exact ⟨k + 1, v6, by go_num, hlt, HF.out.1, HF.out.2.1, HF.out.2.2⟩
        case measure => simp [Go.RowKit.intOf]; omega
    · have hkl : k = l.length := by omega
      have hni : ¬ (k : Int) < (l.length : Int) := by omega
      have HF : Hid (canT l = true ∧ LeT wr w.heap.size G b v l) := by
        refine ⟨(canT_iff l).2 ⟨HL.out, fun i hi => HM.out i (by omega)⟩, ?_⟩
        have := HT.out
        rw [hkl, List.take_length] at this
        exact this
      clear hkl hlt
      go_wp2
      go_ret2
      exact ⟨.inl ⟨HF.out.1, G, rfl, b, v, HF.out.2⟩, hB⟩
end Go.Proofs.Ythlohlomefiebaa
