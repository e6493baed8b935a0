/-
  What is proved here: the document's log: how it lies in memory; Open.
  Conditions: the disk lies in memory.
-/
import Derived.Test.YtojgeahablphbaaJRefWalThere
import Derived.Test.YtojgeahablphbaaJRefWalTold
namespace Go.Proofs.Ytojgeahablphbaa
open Go.RowKit

theorem results4 {fn : Func} {t u v x : Tmp} (h : fn.results = #[.tmp t, .tmp u, .tmp v, .tmp x]) (tmps : Array Value) (P : Program) (w : World) :
    (results fn tmps).run P w = .ok (.tuple #[tmps.getD t undef, tmps.getD u undef, tmps.getD v undef, tmps.getD x undef]) w := by
  simp [results, h]
theorem bankS_len {w : World} {L : RLay} {s : DS} (hD : RDisk w L s) (k : Nat) (hk : k < 2) : (bankS s k).length = sizeS s := by
  have key : ∀ i, i ≤ halfS s → (bankTo s k i).length = i * 128 := fun i => by
    induction i with
    | zero => intro _; exact (Nat.zero_mul _).symm
    | succ i ih =>
      intro hi
      show (bankTo s k i ++ _).length = _
      rw [List.length_append, ih (by omega), getD_len hD.ok.nows (halfS_in hk (by omega)), Nat.succ_mul]
  exact key _ (Nat.le_refl _)
/-- A log in memory, on a disk. -/
structure RLog (w : World) (G : Nat) (L : RLay) (l : LS) : Prop where
  head : ∃ bv, Blk w G 72 #[.pointer (some ⟨L.g, 0, none⟩), .int .i64 (l.n : Int), .int .i64 (l.gen : Int), bv, .int .i64 (l.sure : Int), .bool l.begun, .bool l.broke] ∧ SegA w (fun q => q = G ∨ L.U q) bv l.b
  off : ¬ L.T G
  n : l.n ≤ 1073741824
  gen : l.gen ≤ 1048576
  b : l.b.length ≤ 262016
  sure : l.sure ≤ l.b.length
theorem newLog (L : RLay) (N G0 : Nat) (w : World) (ho : ¬ L.T w.heap.size) (hn : N ≤ 1073741824) (hg : G0 ≤ 1048576) : RLog (w.alloc (.cells #[.pointer (some ⟨L.g, 0, none⟩), .int .i64 (N : Int), .int .i64 (G0 : Int), .slice none 0 0, .int .i64 0, .bool false, .bool false] 72)) w.heap.size L ⟨N, G0, [], 0, false, false⟩ :=
  ⟨⟨.slice none 0 0, Blk.new w _ _, .inl ⟨rfl, none, 0, rfl, fun _ => rfl⟩, fun _ q hq => by cases hq⟩, ho, hn, hg, Nat.zero_le _, Nat.zero_le _⟩
theorem RLog.chg {S : Nat → Prop} {w w' : World} {G : Nat} {L : RLay} {l : LS} (h : RLog w G L l) (hc : Chg S w w') (hG : ¬ S G) (hS : ∀ q, S q → q = G ∨ L.T q) : RLog w' G L l := by
  obtain ⟨bv, h1, h2⟩ := h.head
  exact ⟨⟨bv, h1.chg hc hG, h2.chg (hc.weaken (fun q hq => (hS q hq).imp_right .inl))⟩, h.off, h.n, h.gen, h.b, h.sure⟩
theorem RLog.lt {w : World} {G : Nat} {L : RLay} {l : LS} (h : RLog w G L l) : G < w.heap.size := by obtain ⟨bv, h1, _⟩ := h.head; exact h1.lt
theorem RLog.below {w w' : World} {B G : Nat} {L : RLay} {l : LS} (h : RLog w G L l) (hb : Below B w w') (hB : w.heap.size ≤ B) : RLog w' G L l :=
  h.chg (S := fun _ => False) (Chg.of_below hb hB) id (fun _ h => h.elim)
theorem gat_mono {w : World} {base base' n : Nat} {v : Value} {xs : List Value} (h : w.ownsRow base 22 1 v n xs) (hb : base' ≤ base) : w.ownsRow base' 22 1 v n xs := by
  refine ⟨h.1, ?_⟩
  rcases h.2 with h2 | ⟨g, cap, cur, h1, h2, h3⟩
  · exact .inl h2
  · exact .inr ⟨g, cap, cur, h1, Nat.le_trans hb h2, h3⟩

set_option maxRecDepth 100000 in
set_option maxHeartbeats 1000000 in
theorem open7_bad (L : RLay) (s : DS) (w : World) (hD : RDisk w L s) (he : openE s ≠ 0) :
    Calls Try.prog 11 #[.pointer (some ⟨L.g, 0, none⟩)] w fun e w' => e = .returned (.tuple #[.pointer none, .slice none 0 0, .slice none 0 0, .int .i64 (openE s)]) ∧ Below w.heap.size w w' := by
  have HH : Hid (Calls Try.prog 23 #[.pointer (some ⟨L.g, 0, none⟩)] w fun e w' => e = .returned (.int .i64 (halfS s : Int)) ∧ w = w') := half7_any L s w hD
  obtain ⟨xv, hx, -⟩ := hD.head
  obtain ⟨hh, -⟩ := halfS_le hD
  unfold RLay.head at hx
  have c4 := hx.cell (j := 4) rfl
  unfold openE at he ⊢
  unfold sizeS at he ⊢
  generalize halfS s = H at *
  have hwr : IntKind.i64.wrap ((H : Int) * 128) = (H : Int) * 128 := by rw [IntKind.wrap_i64]; omega
  by_cases h1 : H * 128 < 256
  · have j1 : (H : Int) * 128 < 256 := by omega
    rw [if_pos h1]
    clear he h1
    go_enter Try.func11, Try.ntmps11
    go_wp2_with (go_at_call 23; refine HH.out.mono ?_; rintro e w1 ⟨rfl, rfl⟩)
    (try simp only [Exit.inBlock, Exit.then])
    refine bodyPost_ret (results4 rfl _ _ _) rfl ?_
    exact ⟨rfl, Below.refl _ _⟩
  · have j1 : ¬ (H : Int) * 128 < 256 := by omega
    rw [if_neg h1] at he ⊢
    cases hd : s.down with
    | true =>
      rw [hd] at c4
      rw [if_pos rfl]
      clear he h1
      go_enter Try.func11, Try.ntmps11
      go_wp2_with (go_at_call 23; refine HH.out.mono ?_; rintro e w1 ⟨rfl, rfl⟩)
      (try simp only [Exit.inBlock, Exit.then])
      refine bodyPost_ret (results4 rfl _ _ _) rfl ?_
      exact ⟨rfl, Below.refl _ _⟩
    | false => rw [hd, if_neg (by decide)] at he; exact absurd rfl he

set_option maxRecDepth 100000 in
set_option maxHeartbeats 2000000 in
theorem open7_any (L : RLay) (s : DS) (w : World) (hD : RDisk w L s) (he : openE s = 0) :
    Calls Try.prog 11 #[.pointer (some ⟨L.g, 0, none⟩)] w fun e w' => ∃ G sv rv vs, e = .returned (.tuple #[.pointer (some ⟨G, 0, none⟩), sv, rv, .int .i64 0]) ∧ RLog w' G L (openL s) ∧ w.heap.size ≤ G ∧ Own w' w.heap.size sv (foundS s).1 ∧ Gat w' w.heap.size rv vs (foundS s).2 ∧ Below w.heap.size w w' := by
  have HH : Hid (Calls Try.prog 23 #[.pointer (some ⟨L.g, 0, none⟩)] w fun e w' => e = .returned (.int .i64 (halfS s : Int)) ∧ w = w') := half7_any L s w hD
  obtain ⟨xv, hx, -⟩ := hD.head
  obtain ⟨hh, hsz⟩ := halfS_le hD
  unfold RLay.head at hx
  have c4 := hx.cell (j := 4) rfl
  unfold openE at he
  have h1 : ¬ sizeS s < 256 := fun h => by rw [if_pos h] at he; exact absurd he (by decide)
  rw [if_neg h1] at he
  have hd : s.down = false := by
    cases hd : s.down with
    | true => rw [hd, if_pos rfl] at he; exact absurd he (by decide)
    | false => rfl
  rw [hd] at c4
  have h2n : 2 ≤ L.n := by
    have := hD.ok.now
    unfold sizeS halfS at h1
    omega
  have HT : Hid (Calls Try.prog 24 #[.pointer (some ⟨L.g, 0, none⟩)] w fun e w' => e = .returned (.tuple #[.int .i64 ((thereS s).1 : Int), .int .i64 ((thereS s).2.1 : Int), .int .i64 ((thereS s).2.2 : Int)]) ∧ Below w.heap.size w w') := there7_any L s w hD hd h2n
  have hoff : ∀ q, L.T q → q < w.heap.size := hD.lt
  have hbl : ∀ k, k < 2 → (bankS s k).length = sizeS s := fun k hk => bankS_len hD k hk
  have HF : Hid (foundS s = if (thereS s).1 = 0 then ([], []) else toldB ((bankS s ((thereS s).2.1 % 2)).take (thereS s).2.2)) := rfl
  have HL : Hid (openL s = ⟨(thereS s).1, (thereS s).2.1, [], 0, false, false⟩) := rfl
  clear he
  have HBK : Hid (∀ (V : World) (k : Nat), RDisk V L s → k < 2 → Calls Try.prog 25 #[.pointer (some ⟨L.g, 0, none⟩), .int .i64 (k : Int)] V fun e w' => ∃ v, e = .returned v ∧ Own w' V.heap.size v (bankS s k) ∧ Below V.heap.size V w') := fun V k hV hk => bank7_any L s k V hV hd hk
  have j1 : ¬ (halfS s : Int) * 128 < 256 := by unfold sizeS at h1; omega
  have hwr : IntKind.i64.wrap ((halfS s : Int) * 128) = (halfS s : Int) * 128 := by rw [IntKind.wrap_i64]; omega
  have hle := thereS_le s
  generalize thereS s = T at *
  obtain ⟨N, G0, M⟩ := T
  dsimp only at hle HT HF HL
  obtain ⟨t1, t2, t3⟩ := hle
  generalize halfS s = H at *
  clear h1 hh
  go_enter Try.func11, Try.ntmps11
  go_wp2_with fail
  refine HH.out.mono ?_
  rintro e w1 ⟨rfl, rfl⟩
  go_wp2_with fail
  refine HT.out.mono ?_
  rintro e w2 ⟨rfl, hb2⟩
  clear HH HT
  by_cases hN : N = 0
  · have jN : ((N : Int) == 0) = true := by rw [hN]; rfl
    rw [if_pos hN] at HF
    have HN : Hid (N = 0) := hN
    clear hN
    go_wp2_with fail
    (try simp only [Exit.inBlock, Exit.then])
    refine bodyPost_ret (results4 rfl _ _ _) rfl ?_
    rw [HF.out, HL.out]
    exact ⟨w2.heap.size, _, _, [], rfl, newLog L N G0 w2 (fun h => by have := hoff _ h; have := hb2.size; omega) t1 t2, hb2.size, ⟨rfl, .inl ⟨rfl, rfl⟩⟩, Gat.nil _ _, hb2.alloc hb2.size _⟩
  · have jN : ((N : Int) == 0) = false := by rw [beq_eq_false_iff_ne]; omega
    rw [if_neg hN] at HF
    clear hN
    have hlog := newLog L N G0 w2 (fun h => by have := hoff _ h; have := hb2.size; omega) t1 t2
    have hB3 : Below w.heap.size w (w2.alloc (.cells #[.pointer (some ⟨L.g, 0, none⟩), .int .i64 (N : Int), .int .i64 (G0 : Int), .slice none 0 0, .int .i64 0, .bool false, .bool false] 72)) := hb2.alloc hb2.size _
    have hgl : w.heap.size ≤ w2.heap.size := hb2.size
    have hD3 := hD.after hB3
    go_wp2_with fail
    have HBK2 := HBK.out _ (G0 % 2) hD3 (Nat.mod_lt _ (by decide))
    rw [show ((G0 % 2 : Nat) : Int) = (G0 : Int) % 2 by omega] at HBK2
    generalize w2.alloc (.cells #[.pointer (some ⟨L.g, 0, none⟩), .int .i64 (N : Int), .int .i64 (G0 : Int), .slice none 0 0, .int .i64 0, .bool false, .bool false] 72) = w3 at *
    refine HBK2.mono ?_
    clear HBK2 HBK
    rintro e w4 ⟨v4, rfl, ho4, hb4⟩
    have hB4 : Below w.heap.size w w4 := hB3.trans (hb4.mono hB3.size)
    have hlog4 := hlog.below hb4 (Nat.le_refl _)
    have hbk := hbl (G0 % 2) (Nat.mod_lt _ (by decide))
    generalize bankS s (G0 % 2) = BK at *
    obtain ⟨a4, c4', rfl⟩ := Seg.shapeD ho4.seg
    have htk := ho4.seg.takesD M (by rw [hbk]; exact t3)
    have hsl := slice_toD a4 BK.length c4' M htk.2
    have HTO : Hid (Calls Try.prog 26 #[.slice a4 M c4'] w4 fun e w' => ∃ sv rv vs, e = .returned (.tuple #[sv, rv]) ∧ Own w' w4.heap.size sv (toldB (BK.take M)).1 ∧ Gat w' w4.heap.size rv vs (toldB (BK.take M)).2 ∧ Below w4.heap.size w4 w') := told7_any _ (BK.take M) w4 htk.1 (by rw [List.length_take]; omega)
    go_wp2_with fail
    refine HTO.out.mono ?_
    rintro e w5 ⟨sv, rv, vs, rfl, ho5, hg5, hb5⟩
    have hB5 : Below w.heap.size w w5 := hB4.trans (hb5.mono hB4.size)
    have hlog5 := hlog4.below hb5 (Nat.le_refl _)
    clear HTO hsl htk ho4
    go_wp2_with fail
    (try simp only [Exit.inBlock, Exit.then])
    refine bodyPost_ret (results4 rfl _ _ _) rfl ?_
    rw [HF.out, HL.out]
    exact ⟨w2.heap.size, _, _, vs, rfl, hlog5, hgl, ho5.mono hB4.size, ⟨gat_mono hg5.own hB4.size, fun i u r h1 h2 => (hg5.rows i u r h1 h2).mono hB4.size⟩, hB5⟩
end Go.Proofs.Ytojgeahablphbaa
