/-
  What is proved here: the program's log: a state's pieces; appending a record.
  Conditions: those that each fact names.
-/
import Derived.Test.YtcfnbmphonkbpaaPWalSettle
namespace Go.Proofs.Ytcfnbmphonkbpaa
open Go.RowKit

set_option maxRecDepth 100000 in
set_option maxHeartbeats 2000000 in
theorem stateP_any (x : Value) (st : List UInt8) (w : World) (hS : Seg w x st) (hm : st.length ≤ 1000000) :
    Calls Try.prog 36 #[x] w fun e w' => ∃ v, e = .returned v ∧ Own w' w.heap.size v (stateB st) ∧ Below w.heap.size w w' := by
  obtain ⟨ax, cx, rfl⟩ := Seg.shapeD hS
  have HSZ : Hid (Calls Try.prog 35 #[.slice ax st.length cx] w fun e w' => e = .returned (.int .i64 ((stateB st).length : Int)) ∧ w' = w) := stateSz_any _ st w hS (by omega)
  have hsl : (stateB st).length ≤ 1100000 := by rw [stateB_len]; omega
  obtain ⟨SB, hSB⟩ : ∃ SB, SB = stateB st := ⟨_, rfl⟩
  rw [← hSB] at HSZ hsl ⊢
  have HST : Hid (SB = partsB st.length st) := hSB
  clear hSB
  obtain ⟨i0, hi, hz0, hz1, hz2⟩ := info_parts Try.info5
  obtain ⟨w1, hmk, hO0, hg1⟩ : ∃ w', (Instr.makeSlice 30 (.int .i64 0) (.int .i64 (SB.length : Int))).run Try.prog w = .ok (.slice (some ⟨w.heap.size, 0, none⟩) 0 SB.length) w' ∧ Own w' w.heap.size (.slice (some ⟨w.heap.size, 0, none⟩) 0 SB.length) [] ∧ w.grownBy w' none := run_make_own (P := Try.prog) w w.heap.size 30 5 i0 (.int .u8 0) 1 Try.underlying30 hi hz0 hz1 .i64 .i64 SB.length (by rw [hz2]; omega) (by unfold maxLen; omega) (Nat.le_refl _)
  clear hi hz0 hz1 hz2
  have hB1 : Below w.heap.size w w1 := below_grown (Below.refl _ w) hg1 (Nat.le_refl _) (fun q hq => by cases hq)
  go_enter Try.func36, Try.ntmps36
  go_wp2_with fail
  refine HSZ.out.mono ?_
  rintro e w2 ⟨rfl, rfl⟩
  clear HSZ
  go_wp2_with fail
  go_loopw [0, 3] (fun sv bv wr => ∃ (n : Nat) (a : Option Addr) (c : Nat) (A B : List UInt8), sv = .slice a B.length c ∧ Seg w2 (.slice a B.length c) B ∧ B.length ≤ n ∧ B.length ≤ 1000000 ∧ SB = A ++ partsB n B ∧ Own wr w2.heap.size bv A ∧ Below w2.heap.size w2 wr) (fun sv _ _ => lenOf8 sv)
  case atStart => exact ⟨st.length, ax, cx, [], st, rfl, hS, Nat.le_refl _, hm, HST.out, hO0, hB1⟩
  case round =>
    obtain ⟨n, a, c, A, B, rfl, hsB, hBn, hBm, hAB, hA, hB⟩ := hrel
    clear hO0 hB1 HST
    have hAl : A.length ≤ 1100000 := by have := congrArg List.length hAB; rw [List.length_append] at this; omega
    obtain ⟨ab, cb, rfl⟩ := Seg.shapeD hA.seg
    have hblk : ∀ q, (Value.slice ab A.length cb).ownBlock = some q → w2.heap.size ≤ q := fun q hq => (hA.blocks q hq).1
    by_cases hgt : 1024 < B.length
    · have j1 : (1024 : Int) < (B.length : Int) := by omega
      obtain ⟨n', rfl⟩ : ∃ n', n = n' + 1 := ⟨n - 1, by omega⟩
      have hp : partsB (n' + 1) B = pieceB 1 (B.take 1024) ++ partsB n' (B.drop 1024) := by show (if 1024 < B.length then _ else _) = _; rw [if_pos hgt]
      have HAB : Hid (SB = (A ++ pieceB 1 (B.take 1024)) ++ partsB n' (B.drop 1024)) := by show _ = _; rw [hAB, hp, List.append_assoc]
      have htk := hsB.takesD 1024 (by omega)
      have hdp := hsB.dropsD 1024 (by omega)
      have l1 := slice_toD a B.length c 1024 htk.2
      have l2 : ∀ w, (Instr.slice 30 (.slice a B.length c) (some (.int .i64 1024)) none none).run Try.prog w = .ok (.slice (restD a c 1024) (B.length - 1024) (c - 1024)) w := slice_restD a B.length c 1024 (by omega)
      have hdl : B.length - 1024 = (B.drop 1024).length := by rw [List.length_drop]
      rw [hdl] at hdp l2
      have hlt : (B.drop 1024).length < B.length := by rw [List.length_drop]; omega
      have hn' : (B.drop 1024).length ≤ n' ∧ (B.drop 1024).length ≤ 1000000 := by rw [List.length_drop]; omega
      have hap := appP_any w2.heap.size (.slice ab A.length cb) A 1 (.slice a 1024 c) (B.take 1024) wr (by decide) hA hB.size (by omega) (htk.1.below hB (Nat.le_refl _)) (by rw [List.length_take]; omega) (fun h0 q hq e => by
        have h1 := hblk q e
        have h2 : q < w2.heap.size := by
          rcases htk.1 with ⟨e0, _⟩ | ⟨b', off', c', e0, _, _, hb'⟩
          · rw [e0] at h0; cases h0
          · rw [e0] at hq
            obtain rfl : b' = q := Option.some.inj hq
            exact hb'
        omega)
      have HAP : Hid (Calls Try.prog 29 #[.slice ab A.length cb, .int .u8 1, .slice a 1024 c] wr fun e w' => ∃ v', e = .returned v' ∧ Own w' w2.heap.size v' (A ++ pieceB 1 (B.take 1024)) ∧ wr.grownBy w' (Value.slice ab A.length cb).ownBlock ∧ Moved wr (.slice ab A.length cb) v') := hap
      clear hap hAB hp hgt hdl
      generalize B.drop 1024 = BD at *
      generalize restD a c 1024 = ra at *
      generalize c - 1024 = ca at *
      go_wp2_with fail
      refine HAP.out.mono ?_
      rintro e w3 ⟨v3, rfl, ho3, hg3, -⟩
      go_wp2_with fail
      go_roundw
      case rel => exact ⟨n', ra, ca, A ++ pieceB 1 (B.take 1024), BD, rfl, hdp, hn'.1, hn'.2, HAB.out, ho3, below_grown hB hg3 hB.size (fun q hq => hblk q hq)⟩
      case measure => simp only [lenOf8]; exact hlt
    · have j1 : ¬ (1024 : Int) < (B.length : Int) := by omega
      have hp : partsB n B = pieceB 2 B := by
        cases n with
        | zero => rfl
        | succ n' => show (if 1024 < B.length then _ else _) = _; rw [if_neg hgt]
      have HAB : Hid (SB = A ++ pieceB 2 B) := by show _ = _; rw [hAB, hp]
      have HAP : Hid (Calls Try.prog 29 #[.slice ab A.length cb, .int .u8 2, .slice a B.length c] wr fun e w' => ∃ v', e = .returned v' ∧ Own w' w2.heap.size v' (A ++ pieceB 2 B) ∧ wr.grownBy w' (Value.slice ab A.length cb).ownBlock ∧ Moved wr (.slice ab A.length cb) v') := appP_any w2.heap.size (.slice ab A.length cb) A 2 (.slice a B.length c) B wr (by decide) hA hB.size (by omega) (hsB.below hB (Nat.le_refl _)) (by omega) (fun h0 q hq e => by
        have h1 := hblk q e
        have h2 : q < w2.heap.size := by
          rcases hsB with ⟨e0, _⟩ | ⟨b', off', c', e0, _, _, hb'⟩
          · rw [e0] at h0; cases h0
          · rw [e0] at hq
            obtain rfl : b' = q := Option.some.inj hq
            exact hb'
        omega)
      clear hAB hp hgt
      go_wp2_with fail
      refine HAP.out.mono ?_
      rintro e w3 ⟨v3, rfl, ho3, hg3, -⟩
      go_wp2_with fail
      go_ret
      rw [HAB.out]
      exact ⟨_, rfl, ho3, below_grown hB hg3 hB.size (fun q hq => hblk q hq)⟩
/-- What it tells of itself. -/
theorem pb_room {w : World} {G : Nat} {L : PLay} {C : Nat → Prop} {s : DS} {l : LS} (h : PB w G L C s l) :
    Calls Try.prog 21 #[.pointer (some ⟨G, 0, none⟩)] w fun e w' => e = .returned (.int .i64 (roomW s l)) ∧ Below w.heap.size w w' := by
  obtain ⟨CD, len, bg, tv, tb, h1, h2, h3, h4, h5, h6, h7, h8, h9, h10⟩ := h.body
  obtain ⟨ta, tc, rfl⟩ := Seg.shapeD h4.seg
  have hsz := size_lt h1.d.ok h1.d.lay.max
  have e : (if readyE bg l.broke ≠ 0 then 0 else (sizeS s : Int) - ((len / 128 * 128 + tb.length : Nat) : Int)) = roomW s l := by
    unfold readyE roomW
    cases hk : l.broke with
    | true => rfl
    | false =>
      obtain ⟨e1, e2⟩ := h10 hk
      rw [e1]
      cases hg : l.begun with
      | false => rfl
      | true =>
        obtain ⟨e3, e4⟩ := e2 hg
        have hs := h.sure
        have : tb.length = l.b.length - l.sure / 128 * 128 := by rw [e4, List.length_drop]
        simp only [Bool.false_eq_true, if_false, if_true, ne_eq, not_true, Bool.not_true, Bool.or_false]
        rw [e3]
        omega
  rw [← e]
  exact (room_any h3 (by omega) (by omega) (by omega)).mono fun _ _ ⟨a, k, b⟩ => ⟨a, by rw [b]; exact Below.drewN (Below.refl _ _) k⟩
theorem pb_size {w : World} {G : Nat} {L : PLay} {C : Nat → Prop} {s : DS} {l : LS} (h : PB w G L C s l) :
    Calls Try.prog 20 #[.pointer (some ⟨G, 0, none⟩)] w fun e w' => e = .returned (.int .i64 (sizeS s : Int)) ∧ w' = w := by
  obtain ⟨CD, len, bg, tv, tb, h1, h2, h3, h4⟩ := h.body
  exact size_any h3
theorem pb_broken {w : World} {G : Nat} {L : PLay} {C : Nat → Prop} {s : DS} {l : LS} (h : PB w G L C s l) :
    Calls Try.prog 22 #[.pointer (some ⟨G, 0, none⟩)] w fun e w' => e = .returned (.bool l.broke) ∧ w' = w := by
  obtain ⟨CD, len, bg, tv, tb, h1, h2, h3, h4⟩ := h.body
  exact broken_any h3
theorem PB.mono {w : World} {G : Nat} {L : PLay} {C C' : Nat → Prop} {s : DS} {l : LS} (h : PB w G L C s l) (hC : ∀ q, C q → C' q) (hl : ∀ q, C' q → q < w.heap.size) : PB w G L C' s l := by
  obtain ⟨CD, len, bg, tv, tb, h1, h2, h3, h4, h5, h6, h7, h8⟩ := h.body
  exact ⟨⟨CD, len, bg, tv, tb, h1, fun q hq => hC q (h2 q hq), h3, h4, hC G h5, h6, fun q hq => ⟨hC q (h7 q hq).1, (h7 q hq).2⟩, h8⟩, hl, h.n, h.gen, h.b, h.sure, h.one⟩
theorem fr_lt {C : Nat → Prop} {w w' : World} (h : ∀ q, C q → q < w.heap.size) (hs : w.heap.size ≤ w'.heap.size) (q : Nat) (hq : Fr C w w' q) : q < w'.heap.size := by
  rcases hq with hq | hq
  · exact Nat.lt_of_lt_of_le (h q hq) hs
  · exact hq.2
theorem PB.fr {w w' : World} {G : Nat} {L : PLay} {C : Nat → Prop} {s : DS} {l : LS} (h : PB w G L C s l) (hb : Below w.heap.size w w') : PB w' G L (Fr C w w') s l :=
  (h.after hb).mono (fun _ h => .inl h) (fr_lt h.lt hb.size)
set_option maxRecDepth 100000 in
set_option maxHeartbeats 2000000 in
theorem pb_append {w : World} {G : Nat} {L : PLay} {C : Nat → Prop} {s : DS} {l : LS} (h : PB w G L C s l) (x : Value) (bs : List UInt8) (hS : Seg w x bs) (hm : bs.length ≤ 1000000) (hx : 0 < bs.length → ∀ q, x.ownBlock = some q → ¬ C q) :
    Calls Try.prog 12 #[.pointer (some ⟨G, 0, none⟩), x] w fun e w' => e = .returned (.int .i64 (appendW s l bs).1) ∧ PB w' G L (Fr C w w') s (appendW s l bs).2 ∧ Chg C w w' := by
  obtain ⟨CD, len, bg, tv, tb, h1, h2, h3, h4, h5, h6, h7, h8, h9, h10⟩ := id h.body
  have HRD : Hid (Calls Try.prog 27 #[.pointer (some ⟨G, 0, none⟩)] w fun e w' => e = .returned (.int .i64 (readyE bg l.broke)) ∧ w' = w) := ready_any h3
  obtain ⟨ax, cx, rfl⟩ := Seg.shapeD hS
  obtain ⟨R, hR⟩ : ∃ R, R = appendW s l bs := ⟨_, rfl⟩
  rw [← hR]
  unfold appendW at hR
  have hrefl : PB w G L (Fr C w w) s l := h.fr (Below.refl _ _)
  cases hk : l.broke with
  | true =>
    rw [hk, if_pos rfl] at hR
    rw [hk] at HRD
    have HR : Hid (R = (10, l)) := hR
    have HRD2 : Hid (Calls Try.prog 27 #[.pointer (some ⟨G, 0, none⟩)] w fun e w' => e = .returned (.int .i64 10) ∧ w' = w) := HRD
    clear hR hk HRD h10 h3
    go_enter Try.func12, Try.ntmps12
    go_wp2_with (go_at_call 27; refine HRD2.out.mono ?_; rintro e w1 ⟨rfl, rfl⟩)
    go_ret
    rw [HR.out]
    exact ⟨rfl, hrefl, Chg.refl _ _⟩
  | false =>
    rw [hk, if_neg (by decide)] at hR
    obtain ⟨e1, e2⟩ := h10 hk
    cases hg : l.begun with
    | false =>
      rw [hg, if_pos rfl] at hR
      rw [hk, e1, hg] at HRD
      have HR : Hid (R = (9, l)) := hR
      have HRD2 : Hid (Calls Try.prog 27 #[.pointer (some ⟨G, 0, none⟩)] w fun e w' => e = .returned (.int .i64 9) ∧ w' = w) := HRD
      clear hR hk HRD h10 h3 hg e1 e2
      go_enter Try.func12, Try.ntmps12
      go_wp2_with (go_at_call 27; refine HRD2.out.mono ?_; rintro e w1 ⟨rfl, rfl⟩)
      go_ret
      rw [HR.out]
      exact ⟨rfl, hrefl, Chg.refl _ _⟩
    | true =>
      rw [hg, if_neg (by decide)] at hR
      rw [hk, e1, hg] at HRD
      have HRD2 : Hid (Calls Try.prog 27 #[.pointer (some ⟨G, 0, none⟩)] w fun e w' => e = .returned (.int .i64 0) ∧ w' = w) := HRD
      obtain ⟨e3, e4⟩ := e2 hg
      by_cases h4b : 4096 < bs.length
      · rw [if_pos h4b] at hR
        have j4 : (4096 : Int) < (bs.length : Int) := by omega
        have HR : Hid (R = (1, l)) := hR
        clear hR hk HRD h10 h3 hg e1 e2 e3 e4
        go_enter Try.func12, Try.ntmps12
        go_wp2_with (go_at_call 27; refine HRD2.out.mono ?_; rintro e w1 ⟨rfl, rfl⟩)
        go_ret
        rw [HR.out]
        exact ⟨rfl, hrefl, Chg.refl _ _⟩
      rw [if_neg h4b] at hR
      have j4 : ¬ (4096 : Int) < (bs.length : Int) := by omega
      have HRM : Hid (Calls Try.prog 21 #[.pointer (some ⟨G, 0, none⟩)] w fun e w' => e = .returned (.int .i64 (roomW s l)) ∧ Below w.heap.size w w') := pb_room h
      have HPS : Hid (Calls Try.prog 28 #[.slice ax bs.length cx] w fun e w' => e = .returned (.int .i64 ((bs.length : Int) + 5)) ∧ w' = w) := pieceSz_any _ bs w hS (by omega)
      have hrw : roomW s l = (sizeS s : Int) - (l.b.length : Int) := by unfold roomW; rw [hk, hg]; rfl
      have hsz := size_lt h1.d.ok h1.d.lay.max
      obtain ⟨RM, hRM⟩ : ∃ RM, RM = roomW s l := ⟨_, rfl⟩
      rw [← hRM] at hR HRM hrw
      by_cases h5b : RM < (bs.length : Int) + 5
      · rw [if_pos h5b] at hR
        have HR : Hid (R = (3, l)) := hR
        clear hR hk HRD h10 h3 hg e1 e2 e3 e4 hRM hrw h4b
        go_enter Try.func12, Try.ntmps12
        go_wp2_with fail
        refine HRD2.out.mono ?_
        rintro e w1 ⟨rfl, rfl⟩
        go_wp2_with fail
        refine HPS.out.mono ?_
        rintro e w1 ⟨rfl, rfl⟩
        go_wp2_with fail
        refine HRM.out.mono ?_
        rintro e w2 ⟨rfl, hb2⟩
        go_wp2_with fail
        go_ret
        rw [HR.out]
        exact ⟨rfl, h.fr hb2, Chg.of_below hb2 (Nat.le_refl _)⟩
      rw [if_neg h5b] at hR
      have HR : Hid (R = (0, { l with b := l.b ++ pieceB 3 bs })) := by show _ = _; rw [hR, hk, hg]
      have hsu := h.sure
      have hbl := h.b
      have hfit : l.b.length + (bs.length + 5) ≤ 262016 := by omega
      have HFT : Hid (l.b.length + (bs.length + 5) ≤ 262016) := hfit
      have HDR : Hid (tb ++ pieceB 3 bs = (l.b ++ pieceB 3 bs).drop (l.sure / 128 * 128)) := by show _ = _; rw [e4, List.drop_append_of_le_length (by omega)]
      have HK : Hid (l.broke = false ∧ l.begun = true ∧ bg = true ∧ len = l.sure) := ⟨hk, hg, e1.trans hg, e3⟩
      have HLE : Hid ((tb ++ pieceB 3 bs).length ≤ 262016) := by show _ ≤ _; rw [HDR.out, List.length_drop, List.length_append, pieceB_len]; omega
      obtain ⟨ta, tc, rfl⟩ := Seg.shapeD h4.seg
      have HAP : Hid (∀ W : World, Below w.heap.size w W → Calls Try.prog 29 #[.slice ta tb.length tc, .int .u8 3, .slice ax bs.length cx] W fun e w' => ∃ v', e = .returned v' ∧ Own w' 0 v' (tb ++ pieceB 3 bs) ∧ W.grownBy w' (Value.slice ta tb.length tc).ownBlock ∧ Moved W (.slice ta tb.length tc) v') := fun W hW => appP_any 0 _ tb 3 _ bs W (by decide) (h4.below hW (Nat.le_refl _)) (Nat.zero_le _) (by omega) (hS.below hW (Nat.le_refl _)) (by omega) (fun h0 q hq e => hx h0 q hq (h7 q e).1)
      clear hR hk HRD h10 hg e1 e2 e3 e4 hRM hrw h4b hbl hsu hfit
      go_enter Try.func12, Try.ntmps12
      go_wp2_with fail
      refine HRD2.out.mono ?_
      rintro e w1 ⟨rfl, hw1⟩
      obtain rfl := hw1.symm
      clear hw1
      go_wp2_with fail
      refine HPS.out.mono ?_
      rintro e w1 ⟨rfl, hw1⟩
      obtain rfl := hw1.symm
      clear hw1
      go_wp2_with fail
      refine HRM.out.mono ?_
      rintro e w2 ⟨rfl, hb2⟩
      clear HRD2 HPS HRM
      have hL2 := Blk.below h3 hb2 (Blk.lt h3)
      have x7 : w2.cell? ⟨G, 7, none⟩ = some (.slice ta tb.length tc) := hL2.cell (j := 7) rfl
      go_wp2_with fail
      refine (HAP.out w2 hb2).mono ?_
      clear HAP x7
      rintro e w3 ⟨v3, rfl, ho3, hg3, hm3⟩
      have hGl : G < w2.heap.size := Blk.lt hL2
      have hGt : ∀ q, (Value.slice ta tb.length tc).ownBlock = some q → q ≠ G := fun q hq e => by
        obtain ⟨c', f', hcf⟩ := own_cells h4 hq
        rw [e, show _ = _ from h3] at hcf
        cases hcf
      have hL3 : LogB w3 G L.g (sizeS s) l.n l.gen len bg l.broke (.slice ta tb.length tc) := Blk.grown hL2 hg3 (fun e => hGt G e.symm rfl)
      have x7 : w3.cell? ⟨G, 7, none⟩ = some (.slice ta tb.length tc) := hL3.cell (j := 7) rfl
      have f7 := Blk.frozen hL3 7
      obtain ⟨a3, c3, rfl⟩ := Seg.shapeD ho3.seg
      obtain ⟨n3, hn3⟩ : ∃ n3, n3 = (tb ++ pieceB 3 bs).length := ⟨_, rfl⟩
      rw [← hn3] at ho3 hm3 ⊢
      clear hn3
      go_wp2_with fail
      go_ret
      rw [HR.out]
      have hcT : Chg (fun q => q = G ∨ (Value.slice ta tb.length tc).ownBlock = some q) w (w3.setCell ⟨G, 7, none⟩ (.slice a3 n3 c3)) := ((Chg.of_below (S := fun q => q = G ∨ (Value.slice ta tb.length tc).ownBlock = some q) hb2 (Nat.le_refl _)).trans (Chg.of_grown (S := fun q => q = G ∨ (Value.slice ta tb.length tc).ownBlock = some q) hg3 (fun k hk => .inr hk)) (fun _ _ h => h)).setCell G 7 _ (fun _ => .inl rfl)
      have hcC : Chg C w (w3.setCell ⟨G, 7, none⟩ (.slice a3 n3 c3)) := hcT.weaken (fun q hq => by rcases hq with rfl | hq; exact h5; exact (h7 q hq).1)
      have hcG : Chg (fun q => q = G) w3 (w3.setCell ⟨G, 7, none⟩ (.slice a3 n3 c3)) := (Chg.refl (fun q => q = G) w3).setCell G 7 _ (fun _ => rfl)
      have hO3 : Own (w3.setCell ⟨G, 7, none⟩ (.slice a3 n3 c3)) 0 (.slice a3 n3 c3) (tb ++ pieceB 3 bs) := ho3.chg hcG (fun k hk e => by
        subst e
        obtain ⟨c', f', hcf⟩ := own_cells ho3 hk
        rw [show _ = _ from hL3] at hcf
        cases hcf)
      refine ⟨rfl, ⟨⟨CD, len, bg, .slice a3 n3 c3, tb ++ pieceB 3 bs, h1.chg hcT (fun q hq e => by rcases e with rfl | e; exact h6 hq; exact (h7 q e).2 hq), fun q hq => .inl (h2 q hq), ?_, hO3, .inl h5, h6, fun q hq => ?_, h8, HLE.out, fun _ => ⟨HK.out.2.2.1.trans HK.out.2.1.symm, fun _ => ⟨HK.out.2.2.2, HDR.out⟩⟩⟩, fr_lt h.lt hcC.size, h.n, h.gen, ?_, ?_, h.one⟩, hcC⟩
      · exact (Blk.set hL3 7 _).of_eq rfl
      · rcases hm3 with hm3 | ⟨q', hm3, hq'⟩
        · rw [hm3] at hq
          exact ⟨.inl (h7 q hq).1, (h7 q hq).2⟩
        · rw [hm3] at hq
          obtain rfl : q' = q := Option.some.inj hq
          have hq3 : q' < w3.heap.size := (ho3.blocks q' hm3).2
          exact ⟨.inr ⟨Nat.le_trans hb2.size hq', by simpa using hq3⟩, fun e => by have := h1.lt q' e; have := hb2.size; omega⟩
      · show (l.b ++ pieceB 3 bs).length ≤ _
        rw [List.length_append, pieceB_len]
        exact HFT.out
      · show l.sure ≤ (l.b ++ pieceB 3 bs).length
        rw [List.length_append]
        have := h.sure
        omega
end Go.Proofs.Ytcfnbmphonkbpaa
