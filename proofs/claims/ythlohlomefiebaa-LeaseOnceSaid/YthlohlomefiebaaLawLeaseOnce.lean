/-
  What is proved here: the statement LeaseOnce is true of any steps.
  Conditions: they lie in memory.
-/
import Derived.Test.YthlohlomefiebaaLeOnceP
import Derived.Test.YthlohlomefiebaaLeAwake
import Derived.Test.YthlohlomefiebaaLeEq
import Derived.BigQuiet
import Derived.Deep.QuietTactic
namespace Go.Proofs.Ythlohlomefiebaa
open Go.RowKit Go.Maps

set_option maxRecDepth 100000 in
set_option maxHeartbeats 4000000 in
theorem leaseOnce_any (x : Value) (L : List SP) (w : World) (hx : Steps16 w x L) : Calls Try.prog 5 #[x] w fun e w' => e = .returned (.bool true) ∧ Below w.heap.size w w' := by
  have HR : Hid (0 < L.length → ∃ b off c, x = .slice (some ⟨b, off, none⟩) L.length c ∧ b < w.heap.size ∧ ∀ (i : Nat) s, L[i]? = some s → ∀ (j : Nat) u, (spL s)[j]? = some u → w.cell? ⟨b, off + i * 4 + j, none⟩ = some u) := fun h => by
    obtain ⟨b, off, c, h1, _, h2, h3⟩ := hx.1.form h
    exact ⟨b, off, c, h1, h2, h3⟩
  have HW : Hid (∀ s ∈ L, s.good) := hx.2
  obtain ⟨ax, cx, rfl⟩ := hx.1.shape
  clear hx
  go_enter Try.func5, Try.ntmps5
  go_wp2_with fail
  refine (awake16_any w).mono ?_
  rintro e w1 ⟨rfl, hB1⟩
  go_wp2_with fail
  refine (new16_any w1).mono ?_
  rintro e w2 ⟨G, b, rfl, hT, hb2⟩
  have hB2 : Below w.heap.size w w2 := hB1.trans (hb2.mono hB1.size)
  have HS : Hid (w.heap.size ≤ w1.heap.size) := hB1.size
  have HTS : Hid (LeT w2 w1.heap.size G b (.slice none 0 0) []) := hT
  clear hT hb2 hB1
  go_wp2_with fail
  go_loopw [5, 6] (fun g i wr => ∃ (k : Nat) (v : Value) (l : List LE), g = .int .i64 (l.length : Int) ∧ i = .int .i64 (k : Int) ∧ k ≤ L.length ∧ k ≤ 200 ∧ Below w.heap.size w wr ∧ Hid (LeT wr w1.heap.size G b v l)) (fun _ i _ => 200 - (Go.RowKit.intOf i).toNat)
  case atStart => exact ⟨0, _, [], rfl, rfl, Nat.zero_le _, Nat.zero_le _, hB2, HTS.out⟩
  case round =>
    clear hB2 HTS
    obtain ⟨k, v, l, rfl, rfl, hk, hk200, hB, HT⟩ := hrel
    by_cases hlt : k < L.length
    · by_cases h200 : k < 200
      · obtain ⟨bd, off, c', hxx, hbd, hr⟩ := HR.out (by omega)
        cases hxx
        have hgd := HW.out L[k] (List.getElem_mem hlt)
        have hcs := hr k _ (List.getElem?_eq_getElem hlt)
        generalize L[k] = s at *
        obtain ⟨so, sn, st, sf⟩ := s
        have HGD : Hid (-9223372036854775808 ≤ sn ∧ sn ≤ 9223372036854775807) := hgd
        have HS0 : Hid (∀ V, Below w.heap.size w V → V.cell? ⟨bd, off + k * 4, none⟩ = some (.int .i64 so)) := fun V hV => (hV.cell (p := ⟨bd, off + k * 4, none⟩) hbd).trans (hcs 0 _ rfl)
        have HSV : Hid (∀ V, Below w.heap.size w V → V.cell? ⟨bd, off + k * 4 + 1, none⟩ = some (.int .i64 sn) ∧ V.cell? ⟨bd, off + k * 4 + 2, none⟩ = some (.int .i64 st) ∧ V.cell? ⟨bd, off + k * 4 + 3, none⟩ = some (.int .i64 sf)) := fun V hV => ⟨(hV.cell (p := ⟨bd, off + k * 4 + 1, none⟩) hbd).trans (hcs 1 _ rfl), (hV.cell (p := ⟨bd, off + k * 4 + 2, none⟩) hbd).trans (hcs 2 _ rfl), (hV.cell (p := ⟨bd, off + k * 4 + 3, none⟩) hbd).trans (hcs 3 _ rfl)⟩
        have ix := fun w => index_s16 bd off L.length cx k w hlt
        have HIX : Hid (∀ w, (Instr.indexAt 22 (.slice (some ⟨bd, off, none⟩) L.length cx) (.int .i64 (k : Int))).run Try.prog w = .ok (.pointer (some ⟨bd, off + k * 4, none⟩)) w) := ix
        have HBW : Hid (Below w.heap.size w wr) := hB
        have HGV : Hid (∀ q, LeM G b v q → w.heap.size ≤ q) := fun q hq => Nat.le_trans HS.out (HT.out.ge q hq)
        have HKB : Hid (k < L.length ∧ k < 200) := ⟨hlt, h200⟩
        have a0 : wr.cell? ⟨bd, off + k * 4, none⟩ = some (.int .i64 so) := (HS0.out wr HBW.out)
        have a1 : wr.cell? ⟨bd, off + k * 4 + 1, none⟩ = some (.int .i64 sn) := (HSV.out wr HBW.out).1
        have a2 : wr.cell? ⟨bd, off + k * 4 + 2, none⟩ = some (.int .i64 st) := (HSV.out wr HBW.out).2.1
        clear hr hgd hcs hB
        by_cases h0 : so = 0
        · have d0 : (so == 0) = true := beq_iff_eq.2 h0
          clear h0
          rcases grant_cases l sn st sf with ⟨u, hg⟩ | ⟨f, hf, hg⟩
          · have HRN : Hid (∀ W, Below wr.heap.size wr W → Calls Try.prog 16 #[.pointer (some ⟨G, 0, none⟩), .int .i64 sn, .int .i64 st, .int .i64 sf] W fun e w' => e = .returned (.tuple #[.agg #[.int .i64 ((l.length : Int) + 1), .int .i64 sn, .int .i64 u], .int .i64 0]) ∧ ∃ v', LeT w' w1.heap.size G b v' (l ++ [(⟨(l.length : Int) + 1, sn, u⟩ : LE)]) ∧ (∀ q, v'.ownBlock = some q → v.ownBlock = some q ∨ W.heap.size ≤ q) ∧ Chg (LeM G b v) W w') := fun W hW => by
              have hTW := HT.out.after hW (Nat.le_refl _)
              have := grant16_any hTW (Nat.le_trans hTW.gG (Nat.le_of_lt hTW.head.lt)) sn st sf HGD.out.1 HGD.out.2
              rw [hg] at this
              exact this
            have HRA : Hid (Calls Try.prog 16 #[.pointer (some ⟨G, 0, none⟩), .int .i64 sn, .int .i64 st, .int .i64 sf] (wr.drew.alloc (.cells #[.int .i64 0, .int .i64 0, .int .i64 0] 43)) fun e w' => e = .returned (.tuple #[.agg #[.int .i64 ((l.length : Int) + 1), .int .i64 sn, .int .i64 u], .int .i64 0]) ∧ ∃ v', LeT w' w1.heap.size G b v' (l ++ [(⟨(l.length : Int) + 1, sn, u⟩ : LE)]) ∧ Below w.heap.size w w' ∧ Blk w' wr.drew.heap.size 43 #[.int .i64 0, .int .i64 0, .int .i64 0] ∧ ¬ LeM G b v' wr.drew.heap.size) := (HRN.out _ (((Below.refl _ wr).drew).alloc (Nat.le_refl _) _)).mono (fun e w' ⟨q1, v', q2, q3, q4⟩ => ⟨q1, v', q2, (low_new HBW.out.drew _).trans (q4.below HGV.out (low_new HBW.out.drew (.cells #[.int .i64 0, .int .i64 0, .int .i64 0] 43)).size), (Blk.new wr.drew 43 #[.int .i64 0, .int .i64 0, .int .i64 0]).chg q4 (HT.out.fresh (Nat.le_refl _)), fresh_v HT.out q3 (Nat.le_refl _) (Blk.new wr.drew 43 #[.int .i64 0, .int .i64 0, .int .i64 0]).lt⟩)
            have HRB : Hid (Calls Try.prog 16 #[.pointer (some ⟨G, 0, none⟩), .int .i64 sn, .int .i64 st, .int .i64 sf] wr.drew fun e w' => e = .returned (.tuple #[.agg #[.int .i64 ((l.length : Int) + 1), .int .i64 sn, .int .i64 u], .int .i64 0]) ∧ ∃ v', LeT w' w1.heap.size G b v' (l ++ [(⟨(l.length : Int) + 1, sn, u⟩ : LE)]) ∧ Below w.heap.size w w') := (HRN.out _ (Below.refl _ _).drew).mono (fun e w' ⟨q1, v', q2, q3, q4⟩ => ⟨q1, v', q2, (HBW.out.drew).trans (q4.below HGV.out HBW.out.size)⟩)
            have hS0 : (fun V : World => V.cell? ⟨bd, off + k * 4 + 1, none⟩ = some (.int .i64 sn) ∧ V.cell? ⟨bd, off + k * 4 + 2, none⟩ = some (.int .i64 st) ∧ V.cell? ⟨bd, off + k * 4 + 3, none⟩ = some (.int .i64 sf)) wr.drew := HSV.out _ HBW.out.drew
            clear HRN hg
            go_wp2_with fail
            refine held_begin (fun V => V.cell? ⟨bd, off + k * 4 + 1, none⟩ = some (.int .i64 sn) ∧ V.cell? ⟨bd, off + k * 4 + 2, none⟩ = some (.int .i64 st) ∧ V.cell? ⟨bd, off + k * 4 + 3, none⟩ = some (.int .i64 sf)) (by kernel_rfl) ?_
            refine held_take 0 44 _ (.pointer (some ⟨G, 0, none⟩)) rfl rfl (by kernel_rfl) (by kernel_rfl) (by kernel_rfl) rfl hS0 (fun _ _ => rfl) ?_
            simp only [Act.put, List.setIfInBounds_toArray, List.set_cons_succ, List.set_cons_zero]
            refine held_take 1 45 _ (.slice (some ⟨bd, off, none⟩) L.length cx) rfl rfl (by kernel_rfl) (by kernel_rfl) (by kernel_rfl) rfl hS0 (fun _ _ => rfl) ?_
            simp only [Act.put, List.setIfInBounds_toArray, List.set_cons_succ, List.set_cons_zero]
            refine held_take 2 46 _ (.int .i64 (k : Int)) rfl rfl (by kernel_rfl) (by kernel_rfl) (by kernel_rfl) rfl hS0 (fun _ _ => rfl) ?_
            simp only [Act.put, List.setIfInBounds_toArray, List.set_cons_succ, List.set_cons_zero]
            refine held_take 3 47 _ (.pointer (some ⟨bd, off + k * 4, none⟩)) rfl rfl (by kernel_rfl) (by kernel_rfl) (by kernel_rfl) rfl hS0 (fun V hV => exec_indexat 22 _ _ rfl (.slice (some ⟨bd, off, none⟩) L.length cx) (.int .i64 (k : Int)) _ rfl rfl (HIX.out V)) ?_
            simp only [Act.put, List.setIfInBounds_toArray, List.set_cons_succ, List.set_cons_zero]
            refine held_take 4 48 _ (.pointer (some ⟨bd, off + k * 4 + 1, none⟩)) rfl rfl (by kernel_rfl) (by kernel_rfl) (by kernel_rfl) rfl hS0 (fun _ _ => rfl) ?_
            simp only [Act.put, List.setIfInBounds_toArray, List.set_cons_succ, List.set_cons_zero]
            refine held_take 5 49 _ (.int .i64 sn) rfl rfl (by kernel_rfl) (by kernel_rfl) (by kernel_rfl) rfl hS0 (fun V hV => exec_loadc 3 _ rfl _ _ rfl (load_one 3 (fun _ => by kernel_rfl) V _ _ _ hV.1)) ?_
            simp only [Act.put, List.setIfInBounds_toArray, List.set_cons_succ, List.set_cons_zero]
            refine held_take 6 50 _ (.slice (some ⟨bd, off, none⟩) L.length cx) rfl rfl (by kernel_rfl) (by kernel_rfl) (by kernel_rfl) rfl hS0 (fun _ _ => rfl) ?_
            simp only [Act.put, List.setIfInBounds_toArray, List.set_cons_succ, List.set_cons_zero]
            refine held_take 7 51 _ (.int .i64 (k : Int)) rfl rfl (by kernel_rfl) (by kernel_rfl) (by kernel_rfl) rfl hS0 (fun _ _ => rfl) ?_
            simp only [Act.put, List.setIfInBounds_toArray, List.set_cons_succ, List.set_cons_zero]
            refine held_take 8 52 _ (.pointer (some ⟨bd, off + k * 4, none⟩)) rfl rfl (by kernel_rfl) (by kernel_rfl) (by kernel_rfl) rfl hS0 (fun V hV => exec_indexat 22 _ _ rfl (.slice (some ⟨bd, off, none⟩) L.length cx) (.int .i64 (k : Int)) _ rfl rfl (HIX.out V)) ?_
            simp only [Act.put, List.setIfInBounds_toArray, List.set_cons_succ, List.set_cons_zero]
            refine held_take 9 53 _ (.pointer (some ⟨bd, off + k * 4 + 2, none⟩)) rfl rfl (by kernel_rfl) (by kernel_rfl) (by kernel_rfl) rfl hS0 (fun _ _ => rfl) ?_
            simp only [Act.put, List.setIfInBounds_toArray, List.set_cons_succ, List.set_cons_zero]
            refine held_take 10 54 _ (.int .i64 st) rfl rfl (by kernel_rfl) (by kernel_rfl) (by kernel_rfl) rfl hS0 (fun V hV => exec_loadc 3 _ rfl _ _ rfl (load_one 3 (fun _ => by kernel_rfl) V _ _ _ hV.2.1)) ?_
            simp only [Act.put, List.setIfInBounds_toArray, List.set_cons_succ, List.set_cons_zero]
            refine held_take 11 55 _ (.slice (some ⟨bd, off, none⟩) L.length cx) rfl rfl (by kernel_rfl) (by kernel_rfl) (by kernel_rfl) rfl hS0 (fun _ _ => rfl) ?_
            simp only [Act.put, List.setIfInBounds_toArray, List.set_cons_succ, List.set_cons_zero]
            refine held_take 12 56 _ (.int .i64 (k : Int)) rfl rfl (by kernel_rfl) (by kernel_rfl) (by kernel_rfl) rfl hS0 (fun _ _ => rfl) ?_
            simp only [Act.put, List.setIfInBounds_toArray, List.set_cons_succ, List.set_cons_zero]
            refine held_take 13 57 _ (.pointer (some ⟨bd, off + k * 4, none⟩)) rfl rfl (by kernel_rfl) (by kernel_rfl) (by kernel_rfl) rfl hS0 (fun V hV => exec_indexat 22 _ _ rfl (.slice (some ⟨bd, off, none⟩) L.length cx) (.int .i64 (k : Int)) _ rfl rfl (HIX.out V)) ?_
            simp only [Act.put, List.setIfInBounds_toArray, List.set_cons_succ, List.set_cons_zero]
            refine held_take 14 58 _ (.pointer (some ⟨bd, off + k * 4 + 3, none⟩)) rfl rfl (by kernel_rfl) (by kernel_rfl) (by kernel_rfl) rfl hS0 (fun _ _ => rfl) ?_
            simp only [Act.put, List.setIfInBounds_toArray, List.set_cons_succ, List.set_cons_zero]
            refine held_take 15 59 _ (.int .i64 sf) rfl rfl (by kernel_rfl) (by kernel_rfl) (by kernel_rfl) rfl hS0 (fun V hV => exec_loadc 3 _ rfl _ _ rfl (load_one 3 (fun _ => by kernel_rfl) V _ _ _ hV.2.2)) ?_
            simp only [Act.put, List.setIfInBounds_toArray, List.set_cons_succ, List.set_cons_zero]
            refine held_all2 16 20 (by kernel_rfl) ?_ ?_
            · refine op_call 16 60 _ 16 #[.pointer (some ⟨G, 0, none⟩), .int .i64 sn, .int .i64 st, .int .i64 sf] rfl rfl rfl (exec_four8 16 _ _ _ _ _ rfl _ _ _ _ rfl rfl rfl rfl Try.call16) (HRB.out.mono ?_)
              rintro e w3 ⟨rfl, v3, hT3, hB3⟩
              refine ⟨_, rfl, HSV.out w3 hB3, ?_⟩
              simp only [Act.put, List.setIfInBounds_toArray, List.set_cons_succ, List.set_cons_zero]
              refine held_take 17 43 _ (.tuple #[.agg #[.int .i64 ((l.length : Int) + 1), .int .i64 sn, .int .i64 u], .int .i64 0]) rfl rfl (by kernel_rfl) (by kernel_rfl) (by kernel_rfl) rfl (HSV.out w3 hB3) (fun _ _ => rfl) ?_
              simp only [Act.put, List.setIfInBounds_toArray, List.set_cons_succ, List.set_cons_zero]
              refine held_take 18 61 _ (.agg #[.int .i64 ((l.length : Int) + 1), .int .i64 sn, .int .i64 u]) rfl rfl (by kernel_rfl) (by kernel_rfl) (by kernel_rfl) rfl (HSV.out w3 hB3) (fun _ _ => rfl) ?_
              simp only [Act.put, List.setIfInBounds_toArray, List.set_cons_succ, List.set_cons_zero]
              refine held_take 19 62 _ (.int .i64 0) rfl rfl (by kernel_rfl) (by kernel_rfl) (by kernel_rfl) rfl (HSV.out w3 hB3) (fun _ _ => rfl) ?_
              simp only [Act.put, List.setIfInBounds_toArray, List.set_cons_succ, List.set_cons_zero]
              refine held_all1 20 (by kernel_rfl) (op_value 20 7 _ (.pointer (some ⟨w3.heap.size, 0, none⟩)) (w3.alloc (.cells #[.int .i64 0, .int .i64 0, .int .i64 0] 43)) rfl rfl rfl (exec_allocE rfl) ⟨(HSV.out _ (low_new hB3 _)), ?_⟩)
              simp only [Act.put, List.setIfInBounds_toArray, List.set_cons_succ, List.set_cons_zero]
              refine held_all1 21 (by kernel_rfl) (op_row 21 _ rfl rfl rfl 43 _ _ rfl (w3.heap.size) #[.int .i64 ((l.length : Int) + 1), .int .i64 sn, .int .i64 u] rfl rfl 43 _ (Blk.new w3 43 #[.int .i64 0, .int .i64 0, .int .i64 0]) info_le rfl (by simp [Value.oneCell']) ?_)
              intro W4 hY4 hg4 _
              have hT4 := (hT3.after (below_newE w3 _) (Nat.le_refl _)).store hg4 (hT3.fresh (Nat.le_refl _))
              have hB4 : Below w.heap.size w W4 := below_grown (low_new hB3 _) hg4 (low_new hB3 _).size (fun q hq => by cases hq; exact hB3.size)
              refine ⟨HSV.out W4 hB4, ?_⟩
              refine held_take 22 8 _ (.int .i64 0) rfl rfl (by kernel_rfl) (by kernel_rfl) (by kernel_rfl) rfl (HSV.out W4 hB4) (fun _ _ => rfl) ?_
              simp only [Act.put, List.setIfInBounds_toArray, List.set_cons_succ, List.set_cons_zero]
              refine wpAnyH_done (by kernel_rfl) ?_ _
              refine NoPanic.normal ?_
              clear hT3 hB3 hg4
              have a1 : W4.cell? ⟨bd, off + k * 4 + 1, none⟩ = some (.int .i64 sn) := (HSV.out W4 hB4).1
              have y0 : W4.cell? ⟨w3.heap.size, 0, none⟩ = some (.int .i64 ((l.length : Int) + 1)) := hY4.cell (j := 0) rfl
              have y1 : W4.cell? ⟨w3.heap.size, 1, none⟩ = some (.int .i64 sn) := hY4.cell (j := 1) rfl
              have y2 : W4.cell? ⟨w3.heap.size, 2, none⟩ = some (.int .i64 u) := hY4.cell (j := 2) rfl
              have hw : wrap64 ((l.length : Int) + 1) = (l.length : Int) + 1 := by have := HT.out.ok.len; unfold wrap64; omega
              have HT4 : Hid (LeT W4 w1.heap.size G b v3 (l ++ [(⟨(l.length : Int) + 1, sn, u⟩ : LE)])) := hT4
              have HB4 : Hid (Below w.heap.size w W4) := hB4
              clear hT4 hB4 hY4
              go_wp2_with fail
              go_quiet (fail)
              go_wp2
              go_roundw
              case rel => exact ⟨k + 1, v3, (l ++ [(⟨(l.length : Int) + 1, sn, u⟩ : LE)]), by rw [List.length_append]; go_num, by go_num, HKB.out.1, HKB.out.2, Below.drewN HB4.out _, HT4.out.after (Below.drewN (Below.refl _ _) _) (Nat.le_refl _)⟩
              case measure => have := HKB.out.2; simp [Go.RowKit.intOf]; omega
            · refine op_value 20 7 _ (.pointer (some ⟨wr.drew.heap.size, 0, none⟩)) (wr.drew.alloc (.cells #[.int .i64 0, .int .i64 0, .int .i64 0] 43)) rfl rfl rfl (exec_allocE rfl) ⟨(HSV.out _ (low_new HBW.out.drew _)), ?_⟩
              simp only [Act.put, List.setIfInBounds_toArray, List.set_cons_succ, List.set_cons_zero]
              refine held_all1 16 (by kernel_rfl) (op_call 16 60 _ 16 #[.pointer (some ⟨G, 0, none⟩), .int .i64 sn, .int .i64 st, .int .i64 sf] rfl rfl rfl (exec_four8 16 _ _ _ _ _ rfl _ _ _ _ rfl rfl rfl rfl Try.call16) (HRA.out.mono ?_))
              rintro e w3 ⟨rfl, v3, hT3, hB3, hY3, hn3⟩
              refine ⟨_, rfl, HSV.out w3 hB3, ?_⟩
              simp only [Act.put, List.setIfInBounds_toArray, List.set_cons_succ, List.set_cons_zero]
              refine held_take 17 43 _ (.tuple #[.agg #[.int .i64 ((l.length : Int) + 1), .int .i64 sn, .int .i64 u], .int .i64 0]) rfl rfl (by kernel_rfl) (by kernel_rfl) (by kernel_rfl) rfl (HSV.out w3 hB3) (fun _ _ => rfl) ?_
              simp only [Act.put, List.setIfInBounds_toArray, List.set_cons_succ, List.set_cons_zero]
              refine held_take 18 61 _ (.agg #[.int .i64 ((l.length : Int) + 1), .int .i64 sn, .int .i64 u]) rfl rfl (by kernel_rfl) (by kernel_rfl) (by kernel_rfl) rfl (HSV.out w3 hB3) (fun _ _ => rfl) ?_
              simp only [Act.put, List.setIfInBounds_toArray, List.set_cons_succ, List.set_cons_zero]
              refine held_take 19 62 _ (.int .i64 0) rfl rfl (by kernel_rfl) (by kernel_rfl) (by kernel_rfl) rfl (HSV.out w3 hB3) (fun _ _ => rfl) ?_
              simp only [Act.put, List.setIfInBounds_toArray, List.set_cons_succ, List.set_cons_zero]
              refine held_all1 21 (by kernel_rfl) (op_row 21 _ rfl rfl rfl 43 _ _ rfl (wr.drew.heap.size) #[.int .i64 ((l.length : Int) + 1), .int .i64 sn, .int .i64 u] rfl rfl 43 _ hY3 info_le rfl (by simp [Value.oneCell']) ?_)
              intro W4 hY4 hg4 _
              have hT4 := hT3.store hg4 hn3
              have hB4 : Below w.heap.size w W4 := below_grown hB3 hg4 hB3.size (fun q hq => by cases hq; exact HBW.out.size)
              refine ⟨HSV.out W4 hB4, ?_⟩
              refine held_take 22 8 _ (.int .i64 0) rfl rfl (by kernel_rfl) (by kernel_rfl) (by kernel_rfl) rfl (HSV.out W4 hB4) (fun _ _ => rfl) ?_
              simp only [Act.put, List.setIfInBounds_toArray, List.set_cons_succ, List.set_cons_zero]
              refine wpAnyH_done (by kernel_rfl) ?_ _
              refine NoPanic.normal ?_
              clear hT3 hB3 hg4 hY3 hn3
              have a1 : W4.cell? ⟨bd, off + k * 4 + 1, none⟩ = some (.int .i64 sn) := (HSV.out W4 hB4).1
              have y0 : W4.cell? ⟨wr.heap.size, 0, none⟩ = some (.int .i64 ((l.length : Int) + 1)) := hY4.cell (j := 0) rfl
              have y1 : W4.cell? ⟨wr.heap.size, 1, none⟩ = some (.int .i64 sn) := hY4.cell (j := 1) rfl
              have y2 : W4.cell? ⟨wr.heap.size, 2, none⟩ = some (.int .i64 u) := hY4.cell (j := 2) rfl
              have hw : wrap64 ((l.length : Int) + 1) = (l.length : Int) + 1 := by have := HT.out.ok.len; unfold wrap64; omega
              have HT4 : Hid (LeT W4 w1.heap.size G b v3 (l ++ [(⟨(l.length : Int) + 1, sn, u⟩ : LE)])) := hT4
              have HB4 : Hid (Below w.heap.size w W4) := hB4
              clear hT4 hB4 hY4
              go_wp2_with fail
              go_quiet (fail)
              go_wp2
              go_roundw
              case rel => exact ⟨k + 1, v3, (l ++ [(⟨(l.length : Int) + 1, sn, u⟩ : LE)]), by rw [List.length_append]; go_num, by go_num, HKB.out.1, HKB.out.2, Below.drewN HB4.out _, HT4.out.after (Below.drewN (Below.refl _ _) _) (Nat.le_refl _)⟩
              case measure => have := HKB.out.2; simp [Go.RowKit.intOf]; omega
          · have HRN : Hid (∀ W, Below wr.heap.size wr W → Calls Try.prog 16 #[.pointer (some ⟨G, 0, none⟩), .int .i64 sn, .int .i64 st, .int .i64 sf] W fun e w' => e = .returned (.tuple #[.agg #[.int .i64 0, .int .i64 0, .int .i64 0], .int .i64 f]) ∧ ∃ v', LeT w' w1.heap.size G b v' l ∧ (∀ q, v'.ownBlock = some q → v.ownBlock = some q ∨ W.heap.size ≤ q) ∧ Chg (LeM G b v) W w') := fun W hW => by
              have hTW := HT.out.after hW (Nat.le_refl _)
              have := grant16_any hTW (Nat.le_trans hTW.gG (Nat.le_of_lt hTW.head.lt)) sn st sf HGD.out.1 HGD.out.2
              rw [hg] at this
              exact this
            have HRA : Hid (Calls Try.prog 16 #[.pointer (some ⟨G, 0, none⟩), .int .i64 sn, .int .i64 st, .int .i64 sf] (wr.drew.alloc (.cells #[.int .i64 0, .int .i64 0, .int .i64 0] 43)) fun e w' => e = .returned (.tuple #[.agg #[.int .i64 0, .int .i64 0, .int .i64 0], .int .i64 f]) ∧ ∃ v', LeT w' w1.heap.size G b v' l ∧ Below w.heap.size w w' ∧ Blk w' wr.drew.heap.size 43 #[.int .i64 0, .int .i64 0, .int .i64 0] ∧ ¬ LeM G b v' wr.drew.heap.size) := (HRN.out _ (((Below.refl _ wr).drew).alloc (Nat.le_refl _) _)).mono (fun e w' ⟨q1, v', q2, q3, q4⟩ => ⟨q1, v', q2, (low_new HBW.out.drew _).trans (q4.below HGV.out (low_new HBW.out.drew (.cells #[.int .i64 0, .int .i64 0, .int .i64 0] 43)).size), (Blk.new wr.drew 43 #[.int .i64 0, .int .i64 0, .int .i64 0]).chg q4 (HT.out.fresh (Nat.le_refl _)), fresh_v HT.out q3 (Nat.le_refl _) (Blk.new wr.drew 43 #[.int .i64 0, .int .i64 0, .int .i64 0]).lt⟩)
            have HRB : Hid (Calls Try.prog 16 #[.pointer (some ⟨G, 0, none⟩), .int .i64 sn, .int .i64 st, .int .i64 sf] wr.drew fun e w' => e = .returned (.tuple #[.agg #[.int .i64 0, .int .i64 0, .int .i64 0], .int .i64 f]) ∧ ∃ v', LeT w' w1.heap.size G b v' l ∧ Below w.heap.size w w') := (HRN.out _ (Below.refl _ _).drew).mono (fun e w' ⟨q1, v', q2, q3, q4⟩ => ⟨q1, v', q2, (HBW.out.drew).trans (q4.below HGV.out HBW.out.size)⟩)
            have hS0 : (fun V : World => V.cell? ⟨bd, off + k * 4 + 1, none⟩ = some (.int .i64 sn) ∧ V.cell? ⟨bd, off + k * 4 + 2, none⟩ = some (.int .i64 st) ∧ V.cell? ⟨bd, off + k * 4 + 3, none⟩ = some (.int .i64 sf)) wr.drew := HSV.out _ HBW.out.drew
            clear HRN hg
            go_wp2_with fail
            refine held_begin (fun V => V.cell? ⟨bd, off + k * 4 + 1, none⟩ = some (.int .i64 sn) ∧ V.cell? ⟨bd, off + k * 4 + 2, none⟩ = some (.int .i64 st) ∧ V.cell? ⟨bd, off + k * 4 + 3, none⟩ = some (.int .i64 sf)) (by kernel_rfl) ?_
            refine held_take 0 44 _ (.pointer (some ⟨G, 0, none⟩)) rfl rfl (by kernel_rfl) (by kernel_rfl) (by kernel_rfl) rfl hS0 (fun _ _ => rfl) ?_
            simp only [Act.put, List.setIfInBounds_toArray, List.set_cons_succ, List.set_cons_zero]
            refine held_take 1 45 _ (.slice (some ⟨bd, off, none⟩) L.length cx) rfl rfl (by kernel_rfl) (by kernel_rfl) (by kernel_rfl) rfl hS0 (fun _ _ => rfl) ?_
            simp only [Act.put, List.setIfInBounds_toArray, List.set_cons_succ, List.set_cons_zero]
            refine held_take 2 46 _ (.int .i64 (k : Int)) rfl rfl (by kernel_rfl) (by kernel_rfl) (by kernel_rfl) rfl hS0 (fun _ _ => rfl) ?_
            simp only [Act.put, List.setIfInBounds_toArray, List.set_cons_succ, List.set_cons_zero]
            refine held_take 3 47 _ (.pointer (some ⟨bd, off + k * 4, none⟩)) rfl rfl (by kernel_rfl) (by kernel_rfl) (by kernel_rfl) rfl hS0 (fun V hV => exec_indexat 22 _ _ rfl (.slice (some ⟨bd, off, none⟩) L.length cx) (.int .i64 (k : Int)) _ rfl rfl (HIX.out V)) ?_
            simp only [Act.put, List.setIfInBounds_toArray, List.set_cons_succ, List.set_cons_zero]
            refine held_take 4 48 _ (.pointer (some ⟨bd, off + k * 4 + 1, none⟩)) rfl rfl (by kernel_rfl) (by kernel_rfl) (by kernel_rfl) rfl hS0 (fun _ _ => rfl) ?_
            simp only [Act.put, List.setIfInBounds_toArray, List.set_cons_succ, List.set_cons_zero]
            refine held_take 5 49 _ (.int .i64 sn) rfl rfl (by kernel_rfl) (by kernel_rfl) (by kernel_rfl) rfl hS0 (fun V hV => exec_loadc 3 _ rfl _ _ rfl (load_one 3 (fun _ => by kernel_rfl) V _ _ _ hV.1)) ?_
            simp only [Act.put, List.setIfInBounds_toArray, List.set_cons_succ, List.set_cons_zero]
            refine held_take 6 50 _ (.slice (some ⟨bd, off, none⟩) L.length cx) rfl rfl (by kernel_rfl) (by kernel_rfl) (by kernel_rfl) rfl hS0 (fun _ _ => rfl) ?_
            simp only [Act.put, List.setIfInBounds_toArray, List.set_cons_succ, List.set_cons_zero]
            refine held_take 7 51 _ (.int .i64 (k : Int)) rfl rfl (by kernel_rfl) (by kernel_rfl) (by kernel_rfl) rfl hS0 (fun _ _ => rfl) ?_
            simp only [Act.put, List.setIfInBounds_toArray, List.set_cons_succ, List.set_cons_zero]
            refine held_take 8 52 _ (.pointer (some ⟨bd, off + k * 4, none⟩)) rfl rfl (by kernel_rfl) (by kernel_rfl) (by kernel_rfl) rfl hS0 (fun V hV => exec_indexat 22 _ _ rfl (.slice (some ⟨bd, off, none⟩) L.length cx) (.int .i64 (k : Int)) _ rfl rfl (HIX.out V)) ?_
            simp only [Act.put, List.setIfInBounds_toArray, List.set_cons_succ, List.set_cons_zero]
            refine held_take 9 53 _ (.pointer (some ⟨bd, off + k * 4 + 2, none⟩)) rfl rfl (by kernel_rfl) (by kernel_rfl) (by kernel_rfl) rfl hS0 (fun _ _ => rfl) ?_
            simp only [Act.put, List.setIfInBounds_toArray, List.set_cons_succ, List.set_cons_zero]
            refine held_take 10 54 _ (.int .i64 st) rfl rfl (by kernel_rfl) (by kernel_rfl) (by kernel_rfl) rfl hS0 (fun V hV => exec_loadc 3 _ rfl _ _ rfl (load_one 3 (fun _ => by kernel_rfl) V _ _ _ hV.2.1)) ?_
            simp only [Act.put, List.setIfInBounds_toArray, List.set_cons_succ, List.set_cons_zero]
            refine held_take 11 55 _ (.slice (some ⟨bd, off, none⟩) L.length cx) rfl rfl (by kernel_rfl) (by kernel_rfl) (by kernel_rfl) rfl hS0 (fun _ _ => rfl) ?_
            simp only [Act.put, List.setIfInBounds_toArray, List.set_cons_succ, List.set_cons_zero]
            refine held_take 12 56 _ (.int .i64 (k : Int)) rfl rfl (by kernel_rfl) (by kernel_rfl) (by kernel_rfl) rfl hS0 (fun _ _ => rfl) ?_
            simp only [Act.put, List.setIfInBounds_toArray, List.set_cons_succ, List.set_cons_zero]
            refine held_take 13 57 _ (.pointer (some ⟨bd, off + k * 4, none⟩)) rfl rfl (by kernel_rfl) (by kernel_rfl) (by kernel_rfl) rfl hS0 (fun V hV => exec_indexat 22 _ _ rfl (.slice (some ⟨bd, off, none⟩) L.length cx) (.int .i64 (k : Int)) _ rfl rfl (HIX.out V)) ?_
            simp only [Act.put, List.setIfInBounds_toArray, List.set_cons_succ, List.set_cons_zero]
            refine held_take 14 58 _ (.pointer (some ⟨bd, off + k * 4 + 3, none⟩)) rfl rfl (by kernel_rfl) (by kernel_rfl) (by kernel_rfl) rfl hS0 (fun _ _ => rfl) ?_
            simp only [Act.put, List.setIfInBounds_toArray, List.set_cons_succ, List.set_cons_zero]
            refine held_take 15 59 _ (.int .i64 sf) rfl rfl (by kernel_rfl) (by kernel_rfl) (by kernel_rfl) rfl hS0 (fun V hV => exec_loadc 3 _ rfl _ _ rfl (load_one 3 (fun _ => by kernel_rfl) V _ _ _ hV.2.2)) ?_
            simp only [Act.put, List.setIfInBounds_toArray, List.set_cons_succ, List.set_cons_zero]
            refine held_all2 16 20 (by kernel_rfl) ?_ ?_
            · refine op_call 16 60 _ 16 #[.pointer (some ⟨G, 0, none⟩), .int .i64 sn, .int .i64 st, .int .i64 sf] rfl rfl rfl (exec_four8 16 _ _ _ _ _ rfl _ _ _ _ rfl rfl rfl rfl Try.call16) (HRB.out.mono ?_)
              rintro e w3 ⟨rfl, v3, hT3, hB3⟩
              refine ⟨_, rfl, HSV.out w3 hB3, ?_⟩
              simp only [Act.put, List.setIfInBounds_toArray, List.set_cons_succ, List.set_cons_zero]
              refine held_take 17 43 _ (.tuple #[.agg #[.int .i64 0, .int .i64 0, .int .i64 0], .int .i64 f]) rfl rfl (by kernel_rfl) (by kernel_rfl) (by kernel_rfl) rfl (HSV.out w3 hB3) (fun _ _ => rfl) ?_
              simp only [Act.put, List.setIfInBounds_toArray, List.set_cons_succ, List.set_cons_zero]
              refine held_take 18 61 _ (.agg #[.int .i64 0, .int .i64 0, .int .i64 0]) rfl rfl (by kernel_rfl) (by kernel_rfl) (by kernel_rfl) rfl (HSV.out w3 hB3) (fun _ _ => rfl) ?_
              simp only [Act.put, List.setIfInBounds_toArray, List.set_cons_succ, List.set_cons_zero]
              refine held_take 19 62 _ (.int .i64 f) rfl rfl (by kernel_rfl) (by kernel_rfl) (by kernel_rfl) rfl (HSV.out w3 hB3) (fun _ _ => rfl) ?_
              simp only [Act.put, List.setIfInBounds_toArray, List.set_cons_succ, List.set_cons_zero]
              refine held_all1 20 (by kernel_rfl) (op_value 20 7 _ (.pointer (some ⟨w3.heap.size, 0, none⟩)) (w3.alloc (.cells #[.int .i64 0, .int .i64 0, .int .i64 0] 43)) rfl rfl rfl (exec_allocE rfl) ⟨(HSV.out _ (low_new hB3 _)), ?_⟩)
              simp only [Act.put, List.setIfInBounds_toArray, List.set_cons_succ, List.set_cons_zero]
              refine held_all1 21 (by kernel_rfl) (op_row 21 _ rfl rfl rfl 43 _ _ rfl (w3.heap.size) #[.int .i64 0, .int .i64 0, .int .i64 0] rfl rfl 43 _ (Blk.new w3 43 #[.int .i64 0, .int .i64 0, .int .i64 0]) info_le rfl (by simp [Value.oneCell']) ?_)
              intro W4 hY4 hg4 _
              have hT4 := (hT3.after (below_newE w3 _) (Nat.le_refl _)).store hg4 (hT3.fresh (Nat.le_refl _))
              have hB4 : Below w.heap.size w W4 := below_grown (low_new hB3 _) hg4 (low_new hB3 _).size (fun q hq => by cases hq; exact hB3.size)
              refine ⟨HSV.out W4 hB4, ?_⟩
              refine held_take 22 8 _ (.int .i64 f) rfl rfl (by kernel_rfl) (by kernel_rfl) (by kernel_rfl) rfl (HSV.out W4 hB4) (fun _ _ => rfl) ?_
              simp only [Act.put, List.setIfInBounds_toArray, List.set_cons_succ, List.set_cons_zero]
              refine wpAnyH_done (by kernel_rfl) ?_ _
              refine NoPanic.normal ?_
              clear hT3 hB3 hg4
              have HT4 : Hid (LeT W4 w1.heap.size G b v3 l) := hT4
              have HB4 : Hid (Below w.heap.size w W4) := hB4
              clear hT4 hB4 hY4
              go_wp2
              go_roundw
              case rel => exact ⟨k + 1, v3, l, rfl, by go_num, HKB.out.1, HKB.out.2, HB4.out, HT4.out⟩
              case measure => have := HKB.out.2; simp [Go.RowKit.intOf]; omega
            · refine op_value 20 7 _ (.pointer (some ⟨wr.drew.heap.size, 0, none⟩)) (wr.drew.alloc (.cells #[.int .i64 0, .int .i64 0, .int .i64 0] 43)) rfl rfl rfl (exec_allocE rfl) ⟨(HSV.out _ (low_new HBW.out.drew _)), ?_⟩
              simp only [Act.put, List.setIfInBounds_toArray, List.set_cons_succ, List.set_cons_zero]
              refine held_all1 16 (by kernel_rfl) (op_call 16 60 _ 16 #[.pointer (some ⟨G, 0, none⟩), .int .i64 sn, .int .i64 st, .int .i64 sf] rfl rfl rfl (exec_four8 16 _ _ _ _ _ rfl _ _ _ _ rfl rfl rfl rfl Try.call16) (HRA.out.mono ?_))
              rintro e w3 ⟨rfl, v3, hT3, hB3, hY3, hn3⟩
              refine ⟨_, rfl, HSV.out w3 hB3, ?_⟩
              simp only [Act.put, List.setIfInBounds_toArray, List.set_cons_succ, List.set_cons_zero]
              refine held_take 17 43 _ (.tuple #[.agg #[.int .i64 0, .int .i64 0, .int .i64 0], .int .i64 f]) rfl rfl (by kernel_rfl) (by kernel_rfl) (by kernel_rfl) rfl (HSV.out w3 hB3) (fun _ _ => rfl) ?_
              simp only [Act.put, List.setIfInBounds_toArray, List.set_cons_succ, List.set_cons_zero]
              refine held_take 18 61 _ (.agg #[.int .i64 0, .int .i64 0, .int .i64 0]) rfl rfl (by kernel_rfl) (by kernel_rfl) (by kernel_rfl) rfl (HSV.out w3 hB3) (fun _ _ => rfl) ?_
              simp only [Act.put, List.setIfInBounds_toArray, List.set_cons_succ, List.set_cons_zero]
              refine held_take 19 62 _ (.int .i64 f) rfl rfl (by kernel_rfl) (by kernel_rfl) (by kernel_rfl) rfl (HSV.out w3 hB3) (fun _ _ => rfl) ?_
              simp only [Act.put, List.setIfInBounds_toArray, List.set_cons_succ, List.set_cons_zero]
              refine held_all1 21 (by kernel_rfl) (op_row 21 _ rfl rfl rfl 43 _ _ rfl (wr.drew.heap.size) #[.int .i64 0, .int .i64 0, .int .i64 0] rfl rfl 43 _ hY3 info_le rfl (by simp [Value.oneCell']) ?_)
              intro W4 hY4 hg4 _
              have hT4 := hT3.store hg4 hn3
              have hB4 : Below w.heap.size w W4 := below_grown hB3 hg4 hB3.size (fun q hq => by cases hq; exact HBW.out.size)
              refine ⟨HSV.out W4 hB4, ?_⟩
              refine held_take 22 8 _ (.int .i64 f) rfl rfl (by kernel_rfl) (by kernel_rfl) (by kernel_rfl) rfl (HSV.out W4 hB4) (fun _ _ => rfl) ?_
              simp only [Act.put, List.setIfInBounds_toArray, List.set_cons_succ, List.set_cons_zero]
              refine wpAnyH_done (by kernel_rfl) ?_ _
              refine NoPanic.normal ?_
              clear hT3 hB3 hg4 hY3 hn3
              have HT4 : Hid (LeT W4 w1.heap.size G b v3 l) := hT4
              have HB4 : Hid (Below w.heap.size w W4) := hB4
              clear hT4 hB4 hY4
              go_wp2
              go_roundw
              case rel => exact ⟨k + 1, v3, l, rfl, by go_num, HKB.out.1, HKB.out.2, HB4.out, HT4.out⟩
              case measure => have := HKB.out.2; simp [Go.RowKit.intOf]; omega
        · have d0 : (so == 0) = false := beq_eq_false_iff_ne.2 h0
          by_cases h1 : so = 1
          · have d1 : (so == 1) = true := beq_iff_eq.2 h1
            clear h0 h1
            have HRN : Hid (Calls Try.prog 17 #[.pointer (some ⟨G, 0, none⟩), .int .i64 sn, .int .i64 st, .int .i64 sf] wr.drew fun e w' => e = .returned (.tuple #[leV (renewT l sn st sf).1.1, .int .i64 (renewT l sn st sf).1.2]) ∧ LeT w' w1.heap.size G b v (renewT l sn st sf).2 ∧ Below w.heap.size w w') := (renew16_any (HT.out.after ((Below.refl _ _).drew) (Nat.le_refl _)) sn st sf).mono (fun e w' ⟨q1, q2, q3⟩ => ⟨q1, q2, (HBW.out.drew).trans (q3.below HGV.out HBW.out.size)⟩)
            have hS0 : (fun V : World => V.cell? ⟨bd, off + k * 4 + 1, none⟩ = some (.int .i64 sn) ∧ V.cell? ⟨bd, off + k * 4 + 2, none⟩ = some (.int .i64 st) ∧ V.cell? ⟨bd, off + k * 4 + 3, none⟩ = some (.int .i64 sf)) wr.drew := HSV.out _ HBW.out.drew
            go_wp2_with fail
            refine held_begin (fun V => V.cell? ⟨bd, off + k * 4 + 1, none⟩ = some (.int .i64 sn) ∧ V.cell? ⟨bd, off + k * 4 + 2, none⟩ = some (.int .i64 st) ∧ V.cell? ⟨bd, off + k * 4 + 3, none⟩ = some (.int .i64 sf)) (by kernel_rfl) ?_
            refine held_take 0 83 _ (.pointer (some ⟨G, 0, none⟩)) rfl rfl (by kernel_rfl) (by kernel_rfl) (by kernel_rfl) rfl hS0 (fun _ _ => rfl) ?_
            simp only [Act.put, List.setIfInBounds_toArray, List.set_cons_succ, List.set_cons_zero]
            refine held_take 1 84 _ (.slice (some ⟨bd, off, none⟩) L.length cx) rfl rfl (by kernel_rfl) (by kernel_rfl) (by kernel_rfl) rfl hS0 (fun _ _ => rfl) ?_
            simp only [Act.put, List.setIfInBounds_toArray, List.set_cons_succ, List.set_cons_zero]
            refine held_take 2 85 _ (.int .i64 (k : Int)) rfl rfl (by kernel_rfl) (by kernel_rfl) (by kernel_rfl) rfl hS0 (fun _ _ => rfl) ?_
            simp only [Act.put, List.setIfInBounds_toArray, List.set_cons_succ, List.set_cons_zero]
            refine held_take 3 86 _ (.pointer (some ⟨bd, off + k * 4, none⟩)) rfl rfl (by kernel_rfl) (by kernel_rfl) (by kernel_rfl) rfl hS0 (fun V hV => exec_indexat 22 _ _ rfl (.slice (some ⟨bd, off, none⟩) L.length cx) (.int .i64 (k : Int)) _ rfl rfl (HIX.out V)) ?_
            simp only [Act.put, List.setIfInBounds_toArray, List.set_cons_succ, List.set_cons_zero]
            refine held_take 4 87 _ (.pointer (some ⟨bd, off + k * 4 + 1, none⟩)) rfl rfl (by kernel_rfl) (by kernel_rfl) (by kernel_rfl) rfl hS0 (fun _ _ => rfl) ?_
            simp only [Act.put, List.setIfInBounds_toArray, List.set_cons_succ, List.set_cons_zero]
            refine held_take 5 88 _ (.int .i64 sn) rfl rfl (by kernel_rfl) (by kernel_rfl) (by kernel_rfl) rfl hS0 (fun V hV => exec_loadc 3 _ rfl _ _ rfl (load_one 3 (fun _ => by kernel_rfl) V _ _ _ hV.1)) ?_
            simp only [Act.put, List.setIfInBounds_toArray, List.set_cons_succ, List.set_cons_zero]
            refine held_take 6 89 _ (.slice (some ⟨bd, off, none⟩) L.length cx) rfl rfl (by kernel_rfl) (by kernel_rfl) (by kernel_rfl) rfl hS0 (fun _ _ => rfl) ?_
            simp only [Act.put, List.setIfInBounds_toArray, List.set_cons_succ, List.set_cons_zero]
            refine held_take 7 90 _ (.int .i64 (k : Int)) rfl rfl (by kernel_rfl) (by kernel_rfl) (by kernel_rfl) rfl hS0 (fun _ _ => rfl) ?_
            simp only [Act.put, List.setIfInBounds_toArray, List.set_cons_succ, List.set_cons_zero]
            refine held_take 8 91 _ (.pointer (some ⟨bd, off + k * 4, none⟩)) rfl rfl (by kernel_rfl) (by kernel_rfl) (by kernel_rfl) rfl hS0 (fun V hV => exec_indexat 22 _ _ rfl (.slice (some ⟨bd, off, none⟩) L.length cx) (.int .i64 (k : Int)) _ rfl rfl (HIX.out V)) ?_
            simp only [Act.put, List.setIfInBounds_toArray, List.set_cons_succ, List.set_cons_zero]
            refine held_take 9 92 _ (.pointer (some ⟨bd, off + k * 4 + 2, none⟩)) rfl rfl (by kernel_rfl) (by kernel_rfl) (by kernel_rfl) rfl hS0 (fun _ _ => rfl) ?_
            simp only [Act.put, List.setIfInBounds_toArray, List.set_cons_succ, List.set_cons_zero]
            refine held_take 10 93 _ (.int .i64 st) rfl rfl (by kernel_rfl) (by kernel_rfl) (by kernel_rfl) rfl hS0 (fun V hV => exec_loadc 3 _ rfl _ _ rfl (load_one 3 (fun _ => by kernel_rfl) V _ _ _ hV.2.1)) ?_
            simp only [Act.put, List.setIfInBounds_toArray, List.set_cons_succ, List.set_cons_zero]
            refine held_take 11 94 _ (.slice (some ⟨bd, off, none⟩) L.length cx) rfl rfl (by kernel_rfl) (by kernel_rfl) (by kernel_rfl) rfl hS0 (fun _ _ => rfl) ?_
            simp only [Act.put, List.setIfInBounds_toArray, List.set_cons_succ, List.set_cons_zero]
            refine held_take 12 95 _ (.int .i64 (k : Int)) rfl rfl (by kernel_rfl) (by kernel_rfl) (by kernel_rfl) rfl hS0 (fun _ _ => rfl) ?_
            simp only [Act.put, List.setIfInBounds_toArray, List.set_cons_succ, List.set_cons_zero]
            refine held_take 13 96 _ (.pointer (some ⟨bd, off + k * 4, none⟩)) rfl rfl (by kernel_rfl) (by kernel_rfl) (by kernel_rfl) rfl hS0 (fun V hV => exec_indexat 22 _ _ rfl (.slice (some ⟨bd, off, none⟩) L.length cx) (.int .i64 (k : Int)) _ rfl rfl (HIX.out V)) ?_
            simp only [Act.put, List.setIfInBounds_toArray, List.set_cons_succ, List.set_cons_zero]
            refine held_take 14 97 _ (.pointer (some ⟨bd, off + k * 4 + 3, none⟩)) rfl rfl (by kernel_rfl) (by kernel_rfl) (by kernel_rfl) rfl hS0 (fun _ _ => rfl) ?_
            simp only [Act.put, List.setIfInBounds_toArray, List.set_cons_succ, List.set_cons_zero]
            refine held_take 15 98 _ (.int .i64 sf) rfl rfl (by kernel_rfl) (by kernel_rfl) (by kernel_rfl) rfl hS0 (fun V hV => exec_loadc 3 _ rfl _ _ rfl (load_one 3 (fun _ => by kernel_rfl) V _ _ _ hV.2.2)) ?_
            simp only [Act.put, List.setIfInBounds_toArray, List.set_cons_succ, List.set_cons_zero]
            refine held_all1 16 (by kernel_rfl) (op_call 16 99 _ 17 #[.pointer (some ⟨G, 0, none⟩), .int .i64 sn, .int .i64 st, .int .i64 sf] rfl rfl rfl (exec_four8 17 _ _ _ _ _ rfl _ _ _ _ rfl rfl rfl rfl Try.call17) (HRN.out.mono ?_))
            rintro e w3 ⟨rfl, hT3, hB3⟩
            refine ⟨_, rfl, HSV.out w3 hB3, ?_⟩
            simp only [Act.put, List.setIfInBounds_toArray, List.set_cons_succ, List.set_cons_zero]
            refine wpAnyH_done (by kernel_rfl) ?_ _
            refine NoPanic.normal ?_
            have HT4 : Hid (LeT w3 w1.heap.size G b v (renewT l sn st sf).2) := hT3
            have HB4 : Hid (Below w.heap.size w w3) := hB3
            clear hT3 hB3
            go_wp2
            go_roundw
            case rel => exact ⟨k + 1, v, _, by rw [renew_len], by go_num, HKB.out.1, HKB.out.2, HB4.out, HT4.out⟩
            case measure => have := HKB.out.2; simp [Go.RowKit.intOf]; omega
          · have d1 : (so == 1) = false := beq_eq_false_iff_ne.2 h1
            by_cases h2 : so = 2
            · have d2 : (so == 2) = true := beq_iff_eq.2 h2
              clear h0 h1 h2
              have HEN : Calls Try.prog 18 #[.pointer (some ⟨G, 0, none⟩), .int .i64 sn] wr fun e w' => e = .returned (.int .i64 (endT l sn).1) ∧ LeT w' w1.heap.size G b v (endT l sn).2 ∧ Below w.heap.size w w' := (end16_any HT.out sn).mono (fun e w' ⟨q1, q2, q3⟩ => ⟨q1, q2, HBW.out.trans (q3.below HGV.out HBW.out.size)⟩)
              go_wp2_with fail
              refine HEN.mono ?_
              rintro e w3 ⟨rfl, hT3, hB3⟩
              have HT4 : Hid (LeT w3 w1.heap.size G b v (endT l sn).2) := hT3
              have HB4 : Hid (Below w.heap.size w w3) := hB3
              clear hT3 hB3 HEN a0 a1 a2
              go_wp2
              go_roundw
              case rel => exact ⟨k + 1, v, _, by rw [end_len], by go_num, HKB.out.1, HKB.out.2, HB4.out, HT4.out⟩
              case measure => have := HKB.out.2; simp [Go.RowKit.intOf]; omega
            · have d2 : (so == 2) = false := beq_eq_false_iff_ne.2 h2
              by_cases h3 : so = 3
              · have d3 : (so == 3) = true := beq_iff_eq.2 h3
                clear h0 h1 h2 h3
                have HEX := expire16_any HT.out st
                rcases exp_cases l st with hx | ⟨oo, l2, hx, hxl, hxu⟩
                · rw [hx] at HEX
                  dsimp only at HEX
                  clear hx
                  go_wp2_with fail
                  refine HEX.mono ?_
                  rintro e w3 ⟨ux, rfl, hT3, _, hC3⟩
                  have HB3 : Hid (Below w.heap.size w w3) := HBW.out.trans (hC3.below HGV.out HBW.out.size)
                  have HT3 : Hid (LeT w3 w1.heap.size G b v l) := hT3
                  have HAL := all16_any hT3
                  clear hT3 hC3 HEX a0 a1 a2
                  go_wp2_with fail
                  refine HAL.mono ?_
                  rintro e w4 ⟨ua, rfl, hua, hb4⟩
                  obtain ⟨au, cu, rfl⟩ := hua.shape
                  have HB4 : Hid (Below w.heap.size w w4) := HB3.out.trans (hb4.mono HB3.out.size)
                  have HT4 : Hid (LeT w4 w1.heap.size G b v l) := HT3.out.after hb4 (Nat.le_refl _)
                  clear hua hb4 HAL
                  go_wp2_with fail
                  go_loopw [12] (fun j wr => j = .int .i64 0 ∧ Hid (LeT wr w1.heap.size G b v l ∧ Below w.heap.size w wr)) (fun _ _ => 0)
                  case atStart => exact ⟨rfl, HT4.out, HB4.out⟩
                  case round =>
                    obtain ⟨rfl, HI⟩ := hrel
                    by_cases hz : 0 < l.length
                    · have hnz : (0 : Int) < (l.length : Int) := by omega
                      clear hz
                      go_wp2
                      go_roundw
                      case rel => exact ⟨k + 1, v, l, rfl, by go_num, HKB.out.1, HKB.out.2, HI.out.2, HI.out.1⟩
                      case measure => have := HKB.out.2; simp [Go.RowKit.intOf]; omega
                    · have hnz : ¬ (0 : Int) < (l.length : Int) := by omega
                      clear hz
                      go_wp2
                      go_roundw
                      case rel => exact ⟨k + 1, v, l, rfl, by go_num, HKB.out.1, HKB.out.2, HI.out.2, HI.out.1⟩
                      case measure => have := HKB.out.2; simp [Go.RowKit.intOf]; omega
                · rw [hx] at HEX
                  dsimp only at HEX
                  have HLL : Hid (l2.length = l.length ∧ ∀ e ∈ l2, ¬ (0 < e.u ∧ e.u ≤ st)) := ⟨hxl, hxu⟩
                  clear hx hxl hxu
                  go_wp2_with fail
                  refine HEX.mono ?_
                  rintro e w3 ⟨ux, rfl, hT3, _, hC3⟩
                  have HB3 : Hid (Below w.heap.size w w3) := HBW.out.trans (hC3.below HGV.out HBW.out.size)
                  have HT3 : Hid (LeT w3 w1.heap.size G b v l2) := hT3
                  have HAL := all16_any hT3
                  clear hT3 hC3 HEX a0 a1 a2
                  go_wp2_with fail
                  refine HAL.mono ?_
                  rintro e w4 ⟨ua, rfl, hua, hb4⟩
                  obtain ⟨au, cu, rfl⟩ := hua.shape
                  have HB4 : Hid (Below w.heap.size w w4) := HB3.out.trans (hb4.mono HB3.out.size)
                  have HT4 : Hid (LeT w4 w1.heap.size G b v l2) := HT3.out.after hb4 (Nat.le_refl _)
                  have HUA : Hid (LeR w4 w3.heap.size (.slice au l2.length cu) l2) := hua
                  clear hua hb4 HAL
                  go_wp2_with fail
                  go_loopw [12] (fun j wr => ∃ n : Nat, j = .int .i64 (n : Int) ∧ n ≤ l2.length ∧ Hid (Below w4.heap.size w4 wr)) (fun j _ => l2.length - (Go.RowKit.intOf j).toNat)
                  case atStart => exact ⟨0, rfl, Nat.zero_le _, Below.refl _ _⟩
                  case round =>
                    obtain ⟨n, rfl, hn, HI⟩ := hrel
                    by_cases hnl : n < l2.length
                    · have hnz : (n : Int) < (l2.length : Int) := by omega
                      obtain ⟨e, he⟩ : ∃ e, l2[n]? = some e := ⟨_, List.getElem?_eq_getElem hnl⟩
                      have hnu := HLL.out.2 e (List.mem_iff_getElem?.2 ⟨n, he⟩)
                      obtain ⟨ba, ca, hv, hbl, hba, hcell⟩ := HUA.out.at he
                      cases hv
                      obtain ⟨en, ed, eu⟩ := e
                      dsimp only at hnu
                      have k2 : wr.cell? ⟨ba, n * 3 + 2, none⟩ = some (.int .i64 eu) := (HI.out.cell (p := ⟨ba, n * 3 + 2, none⟩) hbl).trans (hcell 2 _ rfl)
                      have s2 : wr.cell? ⟨bd, off + k * 4 + 2, none⟩ = some (.int .i64 st) := (HSV.out wr (HB4.out.trans (HI.out.mono HB4.out.size))).2.1
                      have ixa := fun w => index_le0 ba l2.length cu n w hnl
                      have hnb : n < 20000 := by have := HT4.out.ok.len; omega
                      clear hcell he hbl hba hn
                      by_cases hu : 0 < eu
                      · have d1 : decide (0 < eu) = true := decide_eq_true hu
                        have d2 : decide (eu ≤ st) = false := decide_eq_false (fun h => hnu ⟨hu, h⟩)
                        clear hnu hu
                        go_wp2_with fail
                        go_quiet (fail)
                        go_wp2
                        go_roundw
                        case rel => exact ⟨n + 1, by go_num, by omega, Below.drewN HI.out _⟩
                        case measure => simp [Go.RowKit.intOf]; omega
                      · have d1 : decide (0 < eu) = false := decide_eq_false hu
                        clear hnu hu
                        go_wp2_with fail
                        go_quiet (fail)
                        go_wp2
                        go_roundw
                        case rel => exact ⟨n + 1, by go_num, by omega, Below.drewN HI.out _⟩
                        case measure => simp [Go.RowKit.intOf]; omega
                    · have hnz : ¬ (n : Int) < (l2.length : Int) := by omega
                      go_wp2
                      go_roundw
                      case rel => exact ⟨k + 1, v, l2, by rw [HLL.out.1], by go_num, HKB.out.1, HKB.out.2, HB4.out.trans (HI.out.mono HB4.out.size), HT4.out.after HI.out (Nat.le_refl _)⟩
                      case measure => have := HKB.out.2; simp [Go.RowKit.intOf]; omega
              · have d3 : (so == 3) = false := beq_eq_false_iff_ne.2 h3
                clear h0 h1 h2 h3
                clear a1 a2
                go_wp2
                go_roundw
                case rel => exact ⟨k + 1, v, l, rfl, by go_num, HKB.out.1, HKB.out.2, HBW.out, HT.out⟩
                case measure => have := HKB.out.2; simp [Go.RowKit.intOf]; omega
      · have hni : ¬ (k : Int) < 200 := by omega
        clear h200
        have HAL := all16_any HT.out
        have HT0 : Hid (LeT wr w1.heap.size G b v l) := HT
        have HBW : Hid (Below w.heap.size w wr) := hB
        have hmm := @run_makeMap Try.prog
        clear HT hB
        go_wp2_with fail
        refine HAL.mono ?_
        rintro e w4 ⟨ua, rfl, hua, hb4⟩
        obtain ⟨au, cu, rfl⟩ := hua.shape
        have HB4 : Hid (Below w.heap.size w w4) := HBW.out.trans (hb4.mono HBW.out.size)
        have HT4 : Hid (LeT w4 w1.heap.size G b v l) := HT0.out.after hb4 (Nat.le_refl _)
        have HUA : Hid (LeR w4 wr.heap.size (.slice au l.length cu) l) := hua
        have hown0 : (w4.alloc (.map #[] 0)).ownsMap Try.prog 3 numR w4.heap.size 0 (.map []) := World.ownsMap_made (H := Unit) w4 Try.prog 3 numR
        have hB5 := below_newE w4 (.map #[] 0)
        obtain ⟨bm, hbm⟩ : ∃ b, b = w4.heap.size := ⟨_, rfl⟩
        have HBM : Hid (bm = w4.heap.size) := hbm
        clear hua hb4 HAL
        go_wp2_with fail
        rw [← hbm] at hown0 ⊢
        generalize w4.alloc (.map #[] 0) = w5 at *
        clear hbm hmm
        go_loopw [15] (fun i wr => ∃ (n m : Nat) (D : DataW Unit), i = .int .i64 (n : Int) ∧ n ≤ l.length ∧ Hid (Below w4.heap.size w4 wr) ∧ Hid (wr.ownsMap Try.prog 3 numR bm m D ∧ m ≤ n ∧ HoldsC D (devs (l.take n)))) (fun i _ => l.length - (Go.RowKit.intOf i).toNat)
        case atStart => exact ⟨0, 0, _, rfl, Nat.zero_le _, hB5, hown0, Nat.le_refl _, HoldsC.nil⟩
        case round =>
          clear hown0 hB5
          obtain ⟨n, m, D, rfl, hn, HI, HM⟩ := hrel
          by_cases hnl : n < l.length
          · have hnz : (n : Int) < (l.length : Int) := by omega
            obtain ⟨e, he⟩ : ∃ e, l[n]? = some e := ⟨_, List.getElem?_eq_getElem hnl⟩
            have hel := List.mem_iff_getElem?.2 ⟨n, he⟩
            have hen := HT4.out.ok.num n e he
            have hed := HT4.out.ok.dev e hel
            have HLN : Hid (l.length ≤ 20000) := HT4.out.ok.len
            have HRC : Hid (∀ V, Below w4.heap.size w4 V → ∀ (k : Nat) u, (leL e)[k]? = some u → ∃ ba, au = some ⟨ba, 0, none⟩ ∧ V.cell? ⟨ba, n * 3 + k, none⟩ = some u) := fun V hV k u hu => by
              obtain ⟨ba, ca, hv, hbl, hba, hcell⟩ := HUA.out.at he
              cases hv
              exact ⟨ba, rfl, (hV.cell (p := ⟨ba, n * 3 + k, none⟩) hbl).trans (hcell k u hu)⟩
            obtain ⟨ba, ca, hv, _, _, _⟩ := HUA.out.at he
            cases hv
            have HRD : Hid (∀ V, Below w4.heap.size w4 V → V.cell? ⟨ba, n * 3, none⟩ = some (.int .i64 ((n : Int) + 1)) ∧ V.cell? ⟨ba, n * 3 + 1, none⟩ = some (.int .i64 e.d) ∧ V.cell? ⟨ba, n * 3 + 2, none⟩ = some (.int .i64 e.u)) := fun V hV => by
              obtain ⟨b1, h1, q0⟩ := HRC.out V hV 0 _ rfl
              obtain ⟨b2, h2, q1⟩ := HRC.out V hV 1 _ rfl
              obtain ⟨b3, h3, q2⟩ := HRC.out V hV 2 _ rfl
              cases h1; cases h2; cases h3
              rw [hen] at q0
              exact ⟨q0, q1, q2⟩
            obtain ⟨c0, c1, c2⟩ := HRD.out wr HI.out
            have ixa := fun w => index_le0 ba l.length cu n w hnl
            have hnb : n < 20000 := by have := HLN.out; omega
            clear HRC
            by_cases hu : 0 < e.u
            · have HDV : Hid (devs (l.take (n + 1)) = devs (l.take n) ++ [e.d]) := devs_yes he hu
              have HDN : Hid (e.d ∉ devs (l.take n)) := devs_new HT4.out.ok he hu
              have hof : ofT l e.d = (e, true) := by unfold ofT; rw [HT4.out.ok.open hel hu]
              have HOF : Hid (∀ V, Below w4.heap.size w4 V → Calls Try.prog 20 #[.pointer (some ⟨G, 0, none⟩), .int .i64 e.d] V fun r w' => r = .returned (.tuple #[.agg #[.int .i64 ((n : Int) + 1), .int .i64 e.d, .int .i64 e.u], .bool true]) ∧ Below V.heap.size V w') := fun V hV => by
                have := of16_any (HT4.out.after hV (Nat.le_refl _)) e.d (by omega) (by omega)
                rw [hof] at this
                unfold leV leL at this
                dsimp only at this
                rw [hen] at this
                exact this
              have hlk := lookC HM.out.1 HM.out.2.2 e.d (by omega) (by omega)
              rw [if_neg HDN.out] at hlk
              have HNE : Hid (∀ w, (binOp .neq 43 (.agg #[.int .i64 ((n : Int) + 1), .int .i64 e.d, .int .i64 e.u]) (.agg #[.int .i64 ((n : Int) + 1), .int .i64 e.d, .int .i64 e.u])).run Try.prog w = .ok (.bool false) w) := fun w => by
                have := neq_le e e w
                rw [hen, decide_eq_true rfl] at this
                exact this
              have HED : Hid (1 ≤ e.d ∧ e.d ≤ 4096) := hed
              have d1 : decide (0 < e.u) = true := decide_eq_true hu
              clear he hel hen hed hof hu
              generalize e.d = ed at *
              generalize e.u = eu at *
              have HML : Hid (m < maxLen) := by show m < maxLen; have := HLN.out; have := HM.out.2.1; unfold maxLen; omega
              have HK : Hid (keyOf Try.prog 3 (.int .i64 ed) = some (.int .i64 ed)) := key_intE ed (by have := HED.out; omega) (by have := HED.out; omega)
              go_wp2_with (at_mapUpdate; refine wpList_mapUpdate_own _ rfl _ _ _ 49 rfl 3 3 keyE Try.underlying49 numR bm m D rfl HM.out.1 HML.out _ _ _ rfl rfl HK.out (.lit (.int .i64 1)) [] (numR_mk 1 (by omega) (by omega)) ?_; intro w7 hown7 hg7; have HB7 : Hid (Below w4.heap.size w4 w7) := below_grown HI.out hg7 HI.out.size (fun j hj => by cases hj; rw [HBM.out]; exact Nat.le_refl _); obtain ⟨e0, e1, e2⟩ := HRD.out w7 HB7.out; clear c0 c1 c2 hlk)
              have HO7 : Hid (w7.ownsMap Try.prog 3 numR bm (m + 1) (D.put (.int .i64 ed) (.lit (.int .i64 1)))) := hown7
              have HH7 : Hid (HoldsC (D.put (.int .i64 ed) (.lit (.int .i64 1))) (devs (l.take (n + 1)))) := by
                show HoldsC _ _
                rw [HDV.out]
                exact HM.out.2.2.put (HM.out.1.tidy keyE) ed (keyE.key HK.out)
              clear hown7 hg7
              refine (HOF.out w7 HB7.out).mono ?_
              rintro r w8 ⟨rfl, hb8⟩
              have hb9 := low_new hb8 (.cells #[.int .i64 ((n : Int) + 1), .int .i64 ed, .int .i64 eu] 43)
              have kN := Blk.new w8 43 #[.int .i64 ((n : Int) + 1), .int .i64 ed, .int .i64 eu]
              have y0 := kN.cell (j := 0) rfl
              have y1 := kN.cell (j := 1) rfl
              have y2 := kN.cell (j := 2) rfl
              have HB9 : Hid (Below w4.heap.size w4 (w8.alloc (.cells #[.int .i64 ((n : Int) + 1), .int .i64 ed, .int .i64 eu] 43))) := HB7.out.trans (hb9.mono HB7.out.size)
              have HO9 : Hid ((w8.alloc (.cells #[.int .i64 ((n : Int) + 1), .int .i64 ed, .int .i64 eu] 43)).ownsMap Try.prog 3 numR bm (m + 1) (D.put (.int .i64 ed) (.lit (.int .i64 1)))) := own_chgE (S := fun _ => False) HO7.out (Chg.of_below hb9 (Nat.le_refl _)) id
              obtain ⟨f0, f1, f2⟩ := HRD.out _ HB9.out
              have hlk9 : ∀ N, (Instr.lookup 49 (.map (some bm)) (.int .i64 ed) false).run Try.prog ((w8.alloc (.cells #[.int .i64 ((n : Int) + 1), .int .i64 ed, .int .i64 eu] 43)).drewN N) = .ok (.int .i64 1) ((w8.alloc (.cells #[.int .i64 ((n : Int) + 1), .int .i64 ed, .int .i64 eu] 43)).drewN N) := fun N => by
                have := lookC (own_chgE (S := fun _ => False) HO9.out (Chg.of_below (Below.drewN (Below.refl _ _) N) (Nat.le_refl _)) id) HH7.out ed (by have := HED.out; omega) (by have := HED.out; omega)
                rw [HDV.out, if_pos (by simp)] at this
                exact this
              have hne := HNE.out
              clear hb8 hb9 kN e0 e1 e2 d1
              go_wp2_with fail
              go_quiet (fail)
              go_wp2
              go_roundw
              case rel => exact ⟨n + 1, m + 1, _, by go_num, hnl, Below.drewN HB9.out _, own_chgE (S := fun _ => False) HO9.out (Chg.of_below (Below.drewN (Below.refl _ _) _) (Nat.le_refl _)) id, by have := HM.out.2.1; omega, HH7.out⟩
              case measure => simp [Go.RowKit.intOf]; omega
            · have d1 : decide (0 < e.u) = false := decide_eq_false hu
              have HDV : Hid (devs (l.take (n + 1)) = devs (l.take n)) := devs_no he hu
              clear he hel hen hed hu HRD
              generalize e.d = ed at *
              generalize e.u = eu at *
              go_wp2
              go_roundw
              case rel => exact ⟨n + 1, m, D, by go_num, hnl, HI.out, HM.out.1, by have := HM.out.2.1; omega, by rw [HDV.out]; exact HM.out.2.2⟩
              case measure => simp [Go.RowKit.intOf]; omega
          · have hnz : ¬ (n : Int) < (l.length : Int) := by omega
            have HBZ : Hid (Below w.heap.size w wr) := HB4.out.trans (HI.out.mono HB4.out.size)
            go_wp2
            go_ret
            exact ⟨by simp, HBZ.out⟩
    · have hni : ¬ (k : Int) < (L.length : Int) := by omega
      clear hlt
      have HAL := all16_any HT.out
      have HT0 : Hid (LeT wr w1.heap.size G b v l) := HT
      have HBW : Hid (Below w.heap.size w wr) := hB
      have hmm := @run_makeMap Try.prog
      clear HT hB
      go_wp2_with fail
      refine HAL.mono ?_
      rintro e w4 ⟨ua, rfl, hua, hb4⟩
      obtain ⟨au, cu, rfl⟩ := hua.shape
      have HB4 : Hid (Below w.heap.size w w4) := HBW.out.trans (hb4.mono HBW.out.size)
      have HT4 : Hid (LeT w4 w1.heap.size G b v l) := HT0.out.after hb4 (Nat.le_refl _)
      have HUA : Hid (LeR w4 wr.heap.size (.slice au l.length cu) l) := hua
      have hown0 : (w4.alloc (.map #[] 0)).ownsMap Try.prog 3 numR w4.heap.size 0 (.map []) := World.ownsMap_made (H := Unit) w4 Try.prog 3 numR
      have hB5 := below_newE w4 (.map #[] 0)
      obtain ⟨bm, hbm⟩ : ∃ b, b = w4.heap.size := ⟨_, rfl⟩
      have HBM : Hid (bm = w4.heap.size) := hbm
      clear hua hb4 HAL
      go_wp2_with fail
      rw [← hbm] at hown0 ⊢
      generalize w4.alloc (.map #[] 0) = w5 at *
      clear hbm hmm
      go_loopw [15] (fun i wr => ∃ (n m : Nat) (D : DataW Unit), i = .int .i64 (n : Int) ∧ n ≤ l.length ∧ Hid (Below w4.heap.size w4 wr) ∧ Hid (wr.ownsMap Try.prog 3 numR bm m D ∧ m ≤ n ∧ HoldsC D (devs (l.take n)))) (fun i _ => l.length - (Go.RowKit.intOf i).toNat)
      case atStart => exact ⟨0, 0, _, rfl, Nat.zero_le _, hB5, hown0, Nat.le_refl _, HoldsC.nil⟩
      case round =>
        clear hown0 hB5
        obtain ⟨n, m, D, rfl, hn, HI, HM⟩ := hrel
        by_cases hnl : n < l.length
        · have hnz : (n : Int) < (l.length : Int) := by omega
          obtain ⟨e, he⟩ : ∃ e, l[n]? = some e := ⟨_, List.getElem?_eq_getElem hnl⟩
          have hel := List.mem_iff_getElem?.2 ⟨n, he⟩
          have hen := HT4.out.ok.num n e he
          have hed := HT4.out.ok.dev e hel
          have HLN : Hid (l.length ≤ 20000) := HT4.out.ok.len
          have HRC : Hid (∀ V, Below w4.heap.size w4 V → ∀ (k : Nat) u, (leL e)[k]? = some u → ∃ ba, au = some ⟨ba, 0, none⟩ ∧ V.cell? ⟨ba, n * 3 + k, none⟩ = some u) := fun V hV k u hu => by
            obtain ⟨ba, ca, hv, hbl, hba, hcell⟩ := HUA.out.at he
            cases hv
            exact ⟨ba, rfl, (hV.cell (p := ⟨ba, n * 3 + k, none⟩) hbl).trans (hcell k u hu)⟩
          obtain ⟨ba, ca, hv, _, _, _⟩ := HUA.out.at he
          cases hv
          have HRD : Hid (∀ V, Below w4.heap.size w4 V → V.cell? ⟨ba, n * 3, none⟩ = some (.int .i64 ((n : Int) + 1)) ∧ V.cell? ⟨ba, n * 3 + 1, none⟩ = some (.int .i64 e.d) ∧ V.cell? ⟨ba, n * 3 + 2, none⟩ = some (.int .i64 e.u)) := fun V hV => by
            obtain ⟨b1, h1, q0⟩ := HRC.out V hV 0 _ rfl
            obtain ⟨b2, h2, q1⟩ := HRC.out V hV 1 _ rfl
            obtain ⟨b3, h3, q2⟩ := HRC.out V hV 2 _ rfl
            cases h1; cases h2; cases h3
            rw [hen] at q0
            exact ⟨q0, q1, q2⟩
          obtain ⟨c0, c1, c2⟩ := HRD.out wr HI.out
          have ixa := fun w => index_le0 ba l.length cu n w hnl
          have hnb : n < 20000 := by have := HLN.out; omega
          clear HRC
          by_cases hu : 0 < e.u
          · have HDV : Hid (devs (l.take (n + 1)) = devs (l.take n) ++ [e.d]) := devs_yes he hu
            have HDN : Hid (e.d ∉ devs (l.take n)) := devs_new HT4.out.ok he hu
            have hof : ofT l e.d = (e, true) := by unfold ofT; rw [HT4.out.ok.open hel hu]
            have HOF : Hid (∀ V, Below w4.heap.size w4 V → Calls Try.prog 20 #[.pointer (some ⟨G, 0, none⟩), .int .i64 e.d] V fun r w' => r = .returned (.tuple #[.agg #[.int .i64 ((n : Int) + 1), .int .i64 e.d, .int .i64 e.u], .bool true]) ∧ Below V.heap.size V w') := fun V hV => by
              have := of16_any (HT4.out.after hV (Nat.le_refl _)) e.d (by omega) (by omega)
              rw [hof] at this
              unfold leV leL at this
              dsimp only at this
              rw [hen] at this
              exact this
            have hlk := lookC HM.out.1 HM.out.2.2 e.d (by omega) (by omega)
            rw [if_neg HDN.out] at hlk
            have HNE : Hid (∀ w, (binOp .neq 43 (.agg #[.int .i64 ((n : Int) + 1), .int .i64 e.d, .int .i64 e.u]) (.agg #[.int .i64 ((n : Int) + 1), .int .i64 e.d, .int .i64 e.u])).run Try.prog w = .ok (.bool false) w) := fun w => by
              have := neq_le e e w
              rw [hen, decide_eq_true rfl] at this
              exact this
            have HED : Hid (1 ≤ e.d ∧ e.d ≤ 4096) := hed
            have d1 : decide (0 < e.u) = true := decide_eq_true hu
            clear he hel hen hed hof hu
            generalize e.d = ed at *
            generalize e.u = eu at *
            have HML : Hid (m < maxLen) := by show m < maxLen; have := HLN.out; have := HM.out.2.1; unfold maxLen; omega
            have HK : Hid (keyOf Try.prog 3 (.int .i64 ed) = some (.int .i64 ed)) := key_intE ed (by have := HED.out; omega) (by have := HED.out; omega)
            go_wp2_with (at_mapUpdate; refine wpList_mapUpdate_own _ rfl _ _ _ 49 rfl 3 3 keyE Try.underlying49 numR bm m D rfl HM.out.1 HML.out _ _ _ rfl rfl HK.out (.lit (.int .i64 1)) [] (numR_mk 1 (by omega) (by omega)) ?_; intro w7 hown7 hg7; have HB7 : Hid (Below w4.heap.size w4 w7) := below_grown HI.out hg7 HI.out.size (fun j hj => by cases hj; rw [HBM.out]; exact Nat.le_refl _); obtain ⟨e0, e1, e2⟩ := HRD.out w7 HB7.out; clear c0 c1 c2 hlk)
            have HO7 : Hid (w7.ownsMap Try.prog 3 numR bm (m + 1) (D.put (.int .i64 ed) (.lit (.int .i64 1)))) := hown7
            have HH7 : Hid (HoldsC (D.put (.int .i64 ed) (.lit (.int .i64 1))) (devs (l.take (n + 1)))) := by
              show HoldsC _ _
              rw [HDV.out]
              exact HM.out.2.2.put (HM.out.1.tidy keyE) ed (keyE.key HK.out)
            clear hown7 hg7
            refine (HOF.out w7 HB7.out).mono ?_
            rintro r w8 ⟨rfl, hb8⟩
            have hb9 := low_new hb8 (.cells #[.int .i64 ((n : Int) + 1), .int .i64 ed, .int .i64 eu] 43)
            have kN := Blk.new w8 43 #[.int .i64 ((n : Int) + 1), .int .i64 ed, .int .i64 eu]
            have y0 := kN.cell (j := 0) rfl
            have y1 := kN.cell (j := 1) rfl
            have y2 := kN.cell (j := 2) rfl
            have HB9 : Hid (Below w4.heap.size w4 (w8.alloc (.cells #[.int .i64 ((n : Int) + 1), .int .i64 ed, .int .i64 eu] 43))) := HB7.out.trans (hb9.mono HB7.out.size)
            have HO9 : Hid ((w8.alloc (.cells #[.int .i64 ((n : Int) + 1), .int .i64 ed, .int .i64 eu] 43)).ownsMap Try.prog 3 numR bm (m + 1) (D.put (.int .i64 ed) (.lit (.int .i64 1)))) := own_chgE (S := fun _ => False) HO7.out (Chg.of_below hb9 (Nat.le_refl _)) id
            obtain ⟨f0, f1, f2⟩ := HRD.out _ HB9.out
            have hlk9 : ∀ N, (Instr.lookup 49 (.map (some bm)) (.int .i64 ed) false).run Try.prog ((w8.alloc (.cells #[.int .i64 ((n : Int) + 1), .int .i64 ed, .int .i64 eu] 43)).drewN N) = .ok (.int .i64 1) ((w8.alloc (.cells #[.int .i64 ((n : Int) + 1), .int .i64 ed, .int .i64 eu] 43)).drewN N) := fun N => by
              have := lookC (own_chgE (S := fun _ => False) HO9.out (Chg.of_below (Below.drewN (Below.refl _ _) N) (Nat.le_refl _)) id) HH7.out ed (by have := HED.out; omega) (by have := HED.out; omega)
              rw [HDV.out, if_pos (by simp)] at this
              exact this
            have hne := HNE.out
            clear hb8 hb9 kN e0 e1 e2 d1
            go_wp2_with fail
            go_quiet (fail)
            go_wp2
            go_roundw
            case rel => exact ⟨n + 1, m + 1, _, by go_num, hnl, Below.drewN HB9.out _, own_chgE (S := fun _ => False) HO9.out (Chg.of_below (Below.drewN (Below.refl _ _) _) (Nat.le_refl _)) id, by have := HM.out.2.1; omega, HH7.out⟩
            case measure => simp [Go.RowKit.intOf]; omega
          · have d1 : decide (0 < e.u) = false := decide_eq_false hu
            have HDV : Hid (devs (l.take (n + 1)) = devs (l.take n)) := devs_no he hu
            clear he hel hen hed hu HRD
            generalize e.d = ed at *
            generalize e.u = eu at *
            go_wp2
            go_roundw
            case rel => exact ⟨n + 1, m, D, by go_num, hnl, HI.out, HM.out.1, by have := HM.out.2.1; omega, by rw [HDV.out]; exact HM.out.2.2⟩
            case measure => simp [Go.RowKit.intOf]; omega
        · have hnz : ¬ (n : Int) < (l.length : Int) := by omega
          have HBZ : Hid (Below w.heap.size w wr) := HB4.out.trans (HI.out.mono HB4.out.size)
          go_wp2
          go_ret
          exact ⟨by simp, HBZ.out⟩
end Go.Proofs.Ythlohlomefiebaa
