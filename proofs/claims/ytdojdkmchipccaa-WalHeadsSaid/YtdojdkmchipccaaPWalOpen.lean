/-
  What is proved here: the program's log on its disk, with the blocks that are its own; Open.
  Conditions: the disk lies in memory.
-/
import Derived.Test.YtdojdkmchipccaaPWalReadP
namespace Go.Proofs.Ytdojdkmchipccaa
open Go.RowKit

/-- The program's log on its disk; its own blocks are such. -/
structure PB (w : World) (G : Nat) (L : PLay) (C : Nat → Prop) (s : DS) (l : LS) : Prop where
  body : ∃ (CD : Nat → Prop) (len : Nat) (bg : Bool) (tv : Value) (tb : List UInt8), OD w L CD s ∧ (∀ q, CD q → C q) ∧ LogB w G L.g (sizeS s) l.n l.gen len bg l.broke tv ∧ Own w 0 tv tb ∧ C G ∧ ¬ CD G ∧ (∀ q, tv.ownBlock = some q → C q ∧ ¬ CD q) ∧ len ≤ 262016 ∧ tb.length ≤ 262016 ∧ (l.broke = false → bg = l.begun ∧ (l.begun = true → len = l.sure ∧ tb = l.b.drop (l.sure / 128 * 128)))
  lt : ∀ q, C q → q < w.heap.size
  n : l.n ≤ 1073741824
  gen : l.gen ≤ 1048576
  b : l.b.length ≤ 262016
  sure : l.sure ≤ l.b.length
  one : l.begun = true → 1 ≤ l.gen
theorem PB.chg {w w' : World} {G : Nat} {L : PLay} {C S : Nat → Prop} {s : DS} {l : LS} (h : PB w G L C s l) (hc : Chg S w w') (hS : ∀ q, C q → ¬ S q) : PB w' G L C s l := by
  obtain ⟨CD, len, bg, tv, tb, h1, h2, h3, h4, h5, h6, h7, h8⟩ := h.body
  exact ⟨⟨CD, len, bg, tv, tb, h1.chg hc (fun q hq => hS q (h2 q hq)), h2, Blk.chg h3 hc (hS G h5), h4.chg hc (fun k hk => hS k (h7 k hk).1), h5, h6, h7, h8⟩, fun q hq => Nat.lt_of_lt_of_le (h.lt q hq) hc.size, h.n, h.gen, h.b, h.sure, h.one⟩
theorem PB.after {w w' : World} {G : Nat} {L : PLay} {C : Nat → Prop} {s : DS} {l : LS} (h : PB w G L C s l) (hb : Below w.heap.size w w') : PB w' G L C s l :=
  h.chg (S := fun _ => False) (Chg.of_below hb (Nat.le_refl _)) (fun _ _ => id)
/-- Its disk alone. -/
theorem PB.disk {w : World} {G : Nat} {L : PLay} {C : Nat → Prop} {s : DS} {l : LS} (h : PB w G L C s l) : ∃ CD, OD w L CD s ∧ ∀ q, CD q → C q := by
  obtain ⟨CD, len, bg, tv, tb, h1, h2, _⟩ := h.body
  exact ⟨CD, h1, h2⟩
theorem od_new (n : Nat) (w : World) (h1 : 1 ≤ n) (h2 : n ≤ 4096) :
    Calls Try.prog 6 #[.int .i64 (n : Int)] w fun e w' => ∃ L : PLay, e = .returned (.tuple #[.pointer (some ⟨L.g, 0, none⟩), .int .i64 0]) ∧ OD w' L L.T (newS n) ∧ Below w.heap.size w w' ∧ (∀ q, L.T q → w.heap.size ≤ q) ∧ L.n = n :=
  (new_any n w h1 h2).mono fun _ w' ⟨L, he, hn, hD, hb, hT, hB⟩ => ⟨L, he, ⟨hD.avoid hB (fun q => q < w'.heap.size ∧ ¬ L.T q) (fun _ hq => hq.1), fun _ h => h, hD.lt⟩, hb, hT, hn⟩
theorem newLog7 (L : PLay) (CD : Nat → Prop) (s : DS) (len : Nat) (w : World) (hD : OD w L CD s) (N G0 : Nat) (hn : N ≤ 1073741824) (hg : G0 ≤ 1048576) (hl : len ≤ 262016) (G : Nat) (hG : ¬ CD G) (hL : LogB w G L.g (sizeS s) N G0 len false false (.slice none 0 0)) :
    PB w G L (fun q => CD q ∨ q = G) s ⟨N, G0, [], 0, false, false⟩ :=
  ⟨⟨CD, len, false, .slice none 0 0, [], hD, fun _ h => .inl h, hL, own_none _ _, .inr rfl, hG, fun q hq => (by cases hq), hl, Nat.zero_le _, fun _ => ⟨rfl, fun h => (by cases h)⟩⟩, fun q hq => by rcases hq with h | rfl; exact hD.lt q h; exact Blk.lt hL, hn, hg, Nat.zero_le _, Nat.zero_le _, fun h => by cases h⟩
theorem results47 {fn : Func} {t u v x : Tmp} (h : fn.results = #[.tmp t, .tmp u, .tmp v, .tmp x]) (tmps : Array Value) (P : Program) (w : World) :
    (results fn tmps).run P w = .ok (.tuple #[tmps.getD t undef, tmps.getD u undef, tmps.getD v undef, tmps.getD x undef]) w := by
  simp [results, h]
set_option maxRecDepth 100000 in
set_option maxHeartbeats 1000000 in
theorem open_bad (L : PLay) (C : Nat → Prop) (s : DS) (w : World) (hD : OD w L C s) (he : openE s ≠ 0) :
    Calls Try.prog 11 #[.pointer (some ⟨L.g, 0, none⟩)] w fun e w' => e = .returned (.tuple #[.pointer none, .slice none 0 0, .slice none 0 0, .int .i64 (openE s)]) ∧ Below w.heap.size w w' := by
  have HL : Hid (Calls Try.prog 22 #[.pointer (some ⟨L.g, 0, none⟩)] w fun e w' => e = .returned (.int .i64 (s.now.length : Int)) ∧ w' = w) := od_len L C s w hD
  have HO : Hid (Calls Try.prog 23 #[.pointer (some ⟨L.g, 0, none⟩)] w fun e w' => e = .returned (.bool s.down) ∧ w' = w) := od_off L C s w hD
  have hn := hD.d.ok.now
  have hn1 : 1 ≤ L.n := hD.d.lay.one
  have hn2 : L.n ≤ 4096 := hD.d.lay.max
  have hnn : s.now.length = L.n := hn
  unfold openE at he ⊢
  unfold sizeS halfS at he ⊢
  rw [hnn] at HL he ⊢
  clear hn hnn
  generalize L.n = M at *
  by_cases hM : M = 1
  · subst hM
    rw [if_pos (by decide)]
    clear he hn1 hn2
    go_enter Try.func11, Try.ntmps11
    go_wp2_with fail
    refine HL.out.mono ?_
    rintro e w1 ⟨rfl, rfl⟩
    go_wp2_with fail
    (try simp only [Exit.inBlock, Exit.then])
    refine bodyPost_ret (results47 rfl _ _ _) rfl ?_
    exact ⟨rfl, Below.refl _ _⟩
  obtain ⟨H, hH⟩ : ∃ H, H = (M - 2) / 2 := ⟨_, rfl⟩
  rw [← hH] at he ⊢
  have e1 : (0 : Int) ≤ (M : Int) - 2 := by omega
  have e2 : ((M : Int) - 2) / 2 = (H : Int) := by omega
  have hHl : H ≤ 2047 := by omega
  clear hH
  by_cases h1 : H * 128 < 256
  · have j1 : (H : Int) * 128 < 256 := by omega
    rw [if_pos h1]
    clear he h1
    go_enter Try.func11, Try.ntmps11
    go_wp2_with fail
    refine HL.out.mono ?_
    rintro e w1 ⟨rfl, rfl⟩
    go_wp2_with fail
    (try simp only [Exit.inBlock, Exit.then])
    refine bodyPost_ret (results47 rfl _ _ _) rfl ?_
    exact ⟨rfl, Below.refl _ _⟩
  · have j1 : ¬ (H : Int) * 128 < 256 := by omega
    rw [if_neg h1] at he ⊢
    cases hd : s.down with
    | true =>
      rw [hd] at HO
      rw [if_pos rfl]
      clear he h1 hd
      go_enter Try.func11, Try.ntmps11
      go_wp2_with fail
      refine HL.out.mono ?_
      rintro e w1 ⟨rfl, rfl⟩
      go_wp2_with fail
      refine HO.out.mono ?_
      rintro e w2 ⟨rfl, rfl⟩
      go_wp2_with fail
      (try simp only [Exit.inBlock, Exit.then])
      refine bodyPost_ret (results47 rfl _ _ _) rfl ?_
      exact ⟨rfl, Below.refl _ _⟩
    | false => rw [hd, if_neg (by decide)] at he; exact absurd rfl he
set_option maxRecDepth 100000 in
set_option maxHeartbeats 2000000 in
theorem open_any (L : PLay) (C : Nat → Prop) (s : DS) (w : World) (hD : OD w L C s) (he : openE s = 0) :
    Calls Try.prog 11 #[.pointer (some ⟨L.g, 0, none⟩)] w fun e w' => ∃ G sv rv vs, e = .returned (.tuple #[.pointer (some ⟨G, 0, none⟩), sv, rv, .int .i64 0]) ∧ PB w' G L (fun q => C q ∨ q = G) s (openL s) ∧ w.heap.size ≤ G ∧ Own w' w.heap.size sv (foundS s).1 ∧ Gat w' w.heap.size rv vs (foundS s).2 ∧ Below w.heap.size w w' := by
  have HL : Hid (Calls Try.prog 22 #[.pointer (some ⟨L.g, 0, none⟩)] w fun e w' => e = .returned (.int .i64 (s.now.length : Int)) ∧ w' = w) := od_len L C s w hD
  have HO : Hid (Calls Try.prog 23 #[.pointer (some ⟨L.g, 0, none⟩)] w fun e w' => e = .returned (.bool s.down) ∧ w' = w) := od_off L C s w hD
  have hnn : s.now.length = L.n := hD.d.ok.now
  have hn2 : L.n ≤ 4096 := hD.d.lay.max
  unfold openE at he
  have h1 : ¬ sizeS s < 256 := fun h => by rw [if_pos h] at he; exact absurd he (by decide)
  rw [if_neg h1] at he
  have hd : s.down = false := by
    cases hd : s.down with
    | true => rw [hd, if_pos rfl] at he; exact absurd he (by decide)
    | false => rfl
  clear he
  have hsz := size_lt hD.d.ok hn2
  have hle := thereS_le s
  have hm1 : 256 ≤ sizeS s := by omega
  have hS : sizeS s = (s.now.length - 2) / 2 * 128 := rfl
  obtain ⟨H, hH⟩ : ∃ H, H = (s.now.length - 2) / 2 := ⟨_, rfl⟩
  rw [← hH] at hS
  have e1 : (0 : Int) ≤ (s.now.length : Int) - 2 := by omega
  have e2 : ((s.now.length : Int) - 2) / 2 = (H : Int) := by omega
  have HE : Hid ((H : Int) * 128 = (sizeS s : Int)) := by show _ = _; omega
  have hHl : H ≤ 2047 := by omega
  have j1 : ¬ (H : Int) * 128 < 256 := by omega
  have hlog0 : LogB (w.alloc (.cells (logC L.g (sizeS s) 0 0 0 false false (.slice none 0 0)) 67)) w.heap.size L.g (sizeS s) 0 0 0 false false (.slice none 0 0) := Blk.new _ _ _
  have hB1 := (Below.refl w.heap.size w).alloc (Nat.le_refl _) (.cells (logC L.g (sizeS s) 0 0 0 false false (.slice none 0 0)) 67)
  have hD1 := hD.after hB1
  have HF := findHead_any hlog0 hD1 (by omega) hd
  have hCG : ¬ C w.heap.size := fun h => by have := hD.lt _ h; omega
  rw [hd] at HO
  have HFO : Hid (foundS s = if (thereS s).1 = 0 then ([], []) else toldB ((bankS s ((thereS s).2.1 % 2)).take (thereS s).2.2)) := rfl
  have HLO : Hid (openL s = ⟨(thereS s).1, (thereS s).2.1, [], 0, false, false⟩) := rfl
  have HZ : Hid ((thereS s).1 = 0 → (thereS s).2.2 = 0) := there_zero s
  unfold logC at hlog0 hB1 hD1 HF
  rw [← HE.out] at hlog0 hB1 hD1 HF
  clear hH hS h1 hm1 hnn hn2
  obtain ⟨M, hM⟩ : ∃ M, M = s.now.length := ⟨_, rfl⟩
  rw [← hM] at HL e1 e2
  clear hM
  have HD : Hid (OD w L C s) := hD
  clear hD
  go_enter Try.func11, Try.ntmps11
  go_wp2_with fail
  refine HL.out.mono ?_
  rintro e w1 ⟨rfl, rfl⟩
  go_wp2_with fail
  refine HO.out.mono ?_
  rintro e w2 ⟨rfl, rfl⟩
  clear HL HO
  go_wp2_with fail
  refine HF.mono ?_
  clear HF
  rintro e W2 ⟨rfl, hb2⟩
  have hb02 : Below w2.heap.size w2 W2 := hB1.trans (hb2.mono hB1.size)
  have hlog2 := Blk.below hlog0 hb2 (Blk.lt hlog0)
  have hD2 := HD.out.after hb02
  clear hlog0 hB1 hD1 hb2
  obtain ⟨t1, t2, t3⟩ := hle
  unfold headV
  generalize thereS s = TS at *
  obtain ⟨N0, G0, M0⟩ := TS
  dsimp only at *
  have hx : Blk W2 w2.heap.size 67 (logC L.g (sizeS s) 0 0 0 false false (.slice none 0 0)) := hlog2
  unfold logC at hx
  have x2 := hx.cell (j := 2) rfl
  have x3 := hx.cell (j := 3) rfl
  have x4 := hx.cell (j := 4) rfl
  have f2 := hx.frozen 2
  have f3 := hx.frozen 3
  have f4 := hx.frozen 4
  have hlog3 : LogB (((W2.setCell ⟨w2.heap.size, 2, none⟩ (.int .i64 (N0 : Int))).setCell ⟨w2.heap.size, 3, none⟩ (.int .i64 (G0 : Int))).setCell ⟨w2.heap.size, 4, none⟩ (.int .i64 (M0 : Int))) w2.heap.size L.g (sizeS s) N0 G0 M0 false false (.slice none 0 0) := (((hx.set 2 _).set 3 _).set 4 _).of_eq rfl
  have hc3 : Chg (fun q => q = w2.heap.size) W2 (((W2.setCell ⟨w2.heap.size, 2, none⟩ (.int .i64 (N0 : Int))).setCell ⟨w2.heap.size, 3, none⟩ (.int .i64 (G0 : Int))).setCell ⟨w2.heap.size, 4, none⟩ (.int .i64 (M0 : Int))) := (((Chg.refl (fun q => q = w2.heap.size) W2).setCell w2.heap.size 2 _ (fun _ => rfl)).setCell w2.heap.size 3 _ (fun _ => rfl)).setCell w2.heap.size 4 _ (fun _ => rfl)
  have hB3 : Below w2.heap.size w2 (((W2.setCell ⟨w2.heap.size, 2, none⟩ (.int .i64 (N0 : Int))).setCell ⟨w2.heap.size, 3, none⟩ (.int .i64 (G0 : Int))).setCell ⟨w2.heap.size, 4, none⟩ (.int .i64 (M0 : Int))) := ((hb02.setCell (p := ⟨w2.heap.size, 2, none⟩) (Nat.le_refl _) _).setCell (p := ⟨w2.heap.size, 3, none⟩) (Nat.le_refl _) _).setCell (p := ⟨w2.heap.size, 4, none⟩) (Nat.le_refl _) _
  have hD3 := HD.out.after hB3
  go_wp2_with fail
  generalize ((W2.setCell ⟨w2.heap.size, 2, none⟩ (.int .i64 (N0 : Int))).setCell ⟨w2.heap.size, 3, none⟩ (.int .i64 (G0 : Int))).setCell ⟨w2.heap.size, 4, none⟩ (.int .i64 (M0 : Int)) = W3 at *
  clear hx x2 x3 x4 f2 f3 f4 hlog2 hD2 hc3
  have HRP := readP_any hlog3 hD3 hd t3
  refine HRP.mono ?_
  clear HRP
  rintro e W4 ⟨sv, rv, vs, rfl, ho4, hg4, hb4⟩
  have hB4 : Below w2.heap.size w2 W4 := hB3.trans (hb4.mono hB3.size)
  have hD4 := HD.out.after hB4
  have hlog4 := Blk.below hlog3 hb4 (Blk.lt hlog3)
  go_wp2_with fail
  (try simp only [Exit.inBlock, Exit.then])
  refine bodyPost_ret (results47 rfl _ _ _) rfl ?_
  have hfo : foundS s = toldB ((bankS s (G0 % 2)).take M0) := by
    rw [HFO.out]
    by_cases hz : N0 = 0
    · rw [if_pos hz, HZ.out hz, List.take_zero]; rfl
    · rw [if_neg hz]
  rw [hfo, HLO.out]
  exact ⟨w2.heap.size, sv, rv, vs, rfl, newLog7 L C s M0 W4 hD4 N0 G0 t1 t2 (by omega) w2.heap.size hCG hlog4, Nat.le_refl _, ho4.mono hB3.size, ⟨gat_mono7 hg4.own hB3.size, fun i u r hu hr => (hg4.rows i u r hu hr).mono hB3.size⟩, hB4⟩
end Go.Proofs.Ytdojdkmchipccaa
