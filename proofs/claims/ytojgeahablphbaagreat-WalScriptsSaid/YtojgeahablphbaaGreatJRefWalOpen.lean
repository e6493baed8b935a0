/-
  What is proved here: the document's log: how it lies in memory; Open. the document's log: its size and room, what breaks it, appending; whether rows are the same.
  Conditions: the disk lies in memory. the disk and the log lie in memory.
-/
import Derived.Test.YtojgeahablphbaaGreatJRefWalThere
import Derived.Test.YtojgeahablphbaaGreatJRefWalTold
import Derived.Test.YtojgeahablphbaaGreatJWalSame
namespace Go.Proofs.YtojgeahablphbaaGreat
open Go.RowKit

theorem results4 {fn : Func} {t u v x : Tmp} (h : fn.results = #[.tmp t, .tmp u, .tmp v, .tmp x]) (tmps : Array Value) (P : Program) (w : World) :
    (results fn tmps).run P w = .ok (.tuple #[tmps.getD t undef, tmps.getD u undef, tmps.getD v undef, tmps.getD x undef]) w := by
  simp [results, h]
theorem bankS_len {w : World} {L : RLay} {s : DS} (hD : RDisk w L s) (k : Nat) (hk : k < 2) : (bankS s k).length = sizeS s := by
  have key : ∀ i, i ≤ halfS s → (bankTo s k i).length = i * 128 := fun i => by
    induction i with
    | zero => intro _; exact (Nat.zero_mul _).symm
    | succ i ih =>
      intro hi
      show (bankTo s k i ++ _).length = _
      rw [List.length_append, ih (by omega), getD_len hD.ok.nows (halfS_in hk (by omega)), Nat.succ_mul]
  exact key _ (Nat.le_refl _)
/-- A log in memory, on a disk. -/
structure RLog (w : World) (G : Nat) (L : RLay) (l : LS) : Prop where
  head : ∃ bv, Blk w G 49 #[.pointer (some ⟨L.g, 0, none⟩), .int .i64 (l.n : Int), .int .i64 (l.gen : Int), bv, .int .i64 (l.sure : Int), .bool l.begun, .bool l.broke] ∧ SegA w (fun q => q = G ∨ L.U q) bv l.b
  off : ¬ L.T G
  n : l.n ≤ 1073741824
  gen : l.gen ≤ 1048576
  b : l.b.length ≤ 262016
  sure : l.sure ≤ l.b.length
theorem newLog (L : RLay) (N G0 : Nat) (w : World) (ho : ¬ L.T w.heap.size) (hn : N ≤ 1073741824) (hg : G0 ≤ 1048576) : RLog (w.alloc (.cells #[.pointer (some ⟨L.g, 0, none⟩), .int .i64 (N : Int), .int .i64 (G0 : Int), .slice none 0 0, .int .i64 0, .bool false, .bool false] 49)) w.heap.size L ⟨N, G0, [], 0, false, false⟩ :=
  ⟨⟨.slice none 0 0, Blk.new w _ _, .inl ⟨rfl, none, 0, rfl, fun _ => rfl⟩, fun _ q hq => by cases hq⟩, ho, hn, hg, Nat.zero_le _, Nat.zero_le _⟩
theorem RLog.chg {S : Nat → Prop} {w w' : World} {G : Nat} {L : RLay} {l : LS} (h : RLog w G L l) (hc : Chg S w w') (hG : ¬ S G) (hS : ∀ q, S q → q = G ∨ L.T q) : RLog w' G L l := by
  obtain ⟨bv, h1, h2⟩ := h.head
  exact ⟨⟨bv, h1.chg hc hG, h2.chg (hc.weaken (fun q hq => (hS q hq).imp_right .inl))⟩, h.off, h.n, h.gen, h.b, h.sure⟩
theorem RLog.lt {w : World} {G : Nat} {L : RLay} {l : LS} (h : RLog w G L l) : G < w.heap.size := by obtain ⟨bv, h1, _⟩ := h.head; exact h1.lt
theorem RLog.below {w w' : World} {B G : Nat} {L : RLay} {l : LS} (h : RLog w G L l) (hb : Below B w w') (hB : w.heap.size ≤ B) : RLog w' G L l :=
  h.chg (S := fun _ => False) (Chg.of_below hb hB) id (fun _ h => h.elim)
theorem gat_mono {w : World} {base base' n : Nat} {v : Value} {xs : List Value} (h : w.ownsRow base 33 1 v n xs) (hb : base' ≤ base) : w.ownsRow base' 33 1 v n xs := by
  refine ⟨h.1, ?_⟩
  rcases h.2 with h2 | ⟨g, cap, cur, h1, h2, h3⟩
  · exact .inl h2
  · exact .inr ⟨g, cap, cur, h1, Nat.le_trans hb h2, h3⟩

set_option maxRecDepth 100000 in
set_option maxHeartbeats 1000000 in
theorem open7_bad (L : RLay) (s : DS) (w : World) (hD : RDisk w L s) (he : openE s ≠ 0) :
    Calls Tryz.prog 9 #[.pointer (some ⟨L.g, 0, none⟩)] w fun e w' => e = .returned (.tuple #[.pointer none, .slice none 0 0, .slice none 0 0, .int .i64 (openE s)]) ∧ Below w.heap.size w w' := by
  have HH : Hid (Calls Tryz.prog 25 #[.pointer (some ⟨L.g, 0, none⟩)] w fun e w' => e = .returned (.int .i64 (halfS s : Int)) ∧ w = w') := half7_any L s w hD
  obtain ⟨xv, hx, -⟩ := hD.head
  obtain ⟨hh, -⟩ := halfS_le hD
  unfold RLay.head at hx
  have c4 := hx.cell (j := 4) rfl
  unfold openE at he ⊢
  unfold sizeS at he ⊢
  generalize halfS s = H at *
  have hwr : IntKind.i64.wrap ((H : Int) * 128) = (H : Int) * 128 := by rw [IntKind.wrap_i64]; omega
  by_cases h1 : H * 128 < 256
  · have j1 : (H : Int) * 128 < 256 := by omega
    rw [if_pos h1]
    clear he h1
    go_enter Tryz.func9, Tryz.ntmps9
    go_wp2_with (go_at_call 25; refine HH.out.mono ?_; rintro e w1 ⟨rfl, rfl⟩)
    (try simp only [Exit.inBlock, Exit.then])
    refine bodyPost_ret (results4 rfl _ _ _) rfl ?_
    exact ⟨rfl, Below.refl _ _⟩
  · have j1 : ¬ (H : Int) * 128 < 256 := by omega
    rw [if_neg h1] at he ⊢
    cases hd : s.down with
    | true =>
      rw [hd] at c4
      rw [if_pos rfl]
      clear he h1
      go_enter Tryz.func9, Tryz.ntmps9
      go_wp2_with (go_at_call 25; refine HH.out.mono ?_; rintro e w1 ⟨rfl, rfl⟩)
      (try simp only [Exit.inBlock, Exit.then])
      refine bodyPost_ret (results4 rfl _ _ _) rfl ?_
      exact ⟨rfl, Below.refl _ _⟩
    | false => rw [hd, if_neg (by decide)] at he; exact absurd rfl he

set_option maxRecDepth 100000 in
set_option maxHeartbeats 2000000 in
theorem open7_any (L : RLay) (s : DS) (w : World) (hD : RDisk w L s) (he : openE s = 0) :
    Calls Tryz.prog 9 #[.pointer (some ⟨L.g, 0, none⟩)] w fun e w' => ∃ G sv rv vs, e = .returned (.tuple #[.pointer (some ⟨G, 0, none⟩), sv, rv, .int .i64 0]) ∧ RLog w' G L (openL s) ∧ w.heap.size ≤ G ∧ Own w' w.heap.size sv (foundS s).1 ∧ Gat w' w.heap.size rv vs (foundS s).2 ∧ Below w.heap.size w w' := by
  have HH : Hid (Calls Tryz.prog 25 #[.pointer (some ⟨L.g, 0, none⟩)] w fun e w' => e = .returned (.int .i64 (halfS s : Int)) ∧ w = w') := half7_any L s w hD
  obtain ⟨xv, hx, -⟩ := hD.head
  obtain ⟨hh, hsz⟩ := halfS_le hD
  unfold RLay.head at hx
  have c4 := hx.cell (j := 4) rfl
  unfold openE at he
  have h1 : ¬ sizeS s < 256 := fun h => by rw [if_pos h] at he; exact absurd he (by decide)
  rw [if_neg h1] at he
  have hd : s.down = false := by
    cases hd : s.down with
    | true => rw [hd, if_pos rfl] at he; exact absurd he (by decide)
    | false => rfl
  rw [hd] at c4
  have h2n : 2 ≤ L.n := by
    have := hD.ok.now
    unfold sizeS halfS at h1
    omega
  have HT : Hid (Calls Tryz.prog 26 #[.pointer (some ⟨L.g, 0, none⟩)] w fun e w' => e = .returned (.tuple #[.int .i64 ((thereS s).1 : Int), .int .i64 ((thereS s).2.1 : Int), .int .i64 ((thereS s).2.2 : Int)]) ∧ Below w.heap.size w w') := there7_any L s w hD hd h2n
  have hoff : ∀ q, L.T q → q < w.heap.size := hD.lt
  have hbl : ∀ k, k < 2 → (bankS s k).length = sizeS s := fun k hk => bankS_len hD k hk
  have HF : Hid (foundS s = if (thereS s).1 = 0 then ([], []) else toldB ((bankS s ((thereS s).2.1 % 2)).take (thereS s).2.2)) := rfl
  have HL : Hid (openL s = ⟨(thereS s).1, (thereS s).2.1, [], 0, false, false⟩) := rfl
  clear he
  have HBK : Hid (∀ (V : World) (k : Nat), RDisk V L s → k < 2 → Calls Tryz.prog 27 #[.pointer (some ⟨L.g, 0, none⟩), .int .i64 (k : Int)] V fun e w' => ∃ v, e = .returned v ∧ Own w' V.heap.size v (bankS s k) ∧ Below V.heap.size V w') := fun V k hV hk => bank7_any L s k V hV hd hk
  have j1 : ¬ (halfS s : Int) * 128 < 256 := by unfold sizeS at h1; omega
  have hwr : IntKind.i64.wrap ((halfS s : Int) * 128) = (halfS s : Int) * 128 := by rw [IntKind.wrap_i64]; omega
  have hle := thereS_le s
  generalize thereS s = T at *
  obtain ⟨N, G0, M⟩ := T
  dsimp only at hle HT HF HL
  obtain ⟨t1, t2, t3⟩ := hle
  generalize halfS s = H at *
  clear h1 hh
  go_enter Tryz.func9, Tryz.ntmps9
  go_wp2_with fail
  refine HH.out.mono ?_
  rintro e w1 ⟨rfl, rfl⟩
  go_wp2_with fail
  refine HT.out.mono ?_
  rintro e w2 ⟨rfl, hb2⟩
  clear HH HT
  by_cases hN : N = 0
  · have jN : ((N : Int) == 0) = true := by rw [hN]; rfl
    rw [if_pos hN] at HF
    have HN : Hid (N = 0) := hN
    clear hN
    go_wp2_with fail
    (try simp only [Exit.inBlock, Exit.then])
    refine bodyPost_ret (results4 rfl _ _ _) rfl ?_
    rw [HF.out, HL.out]
    exact ⟨w2.heap.size, _, _, [], rfl, newLog L N G0 w2 (fun h => by have := hoff _ h; have := hb2.size; omega) t1 t2, hb2.size, ⟨rfl, .inl ⟨rfl, rfl⟩⟩, Gat.nil _ _, hb2.alloc hb2.size _⟩
  · have jN : ((N : Int) == 0) = false := by rw [beq_eq_false_iff_ne]; omega
    rw [if_neg hN] at HF
    clear hN
    have hlog := newLog L N G0 w2 (fun h => by have := hoff _ h; have := hb2.size; omega) t1 t2
    have hB3 : Below w.heap.size w (w2.alloc (.cells #[.pointer (some ⟨L.g, 0, none⟩), .int .i64 (N : Int), .int .i64 (G0 : Int), .slice none 0 0, .int .i64 0, .bool false, .bool false] 49)) := hb2.alloc hb2.size _
    have hgl : w.heap.size ≤ w2.heap.size := hb2.size
    have hD3 := hD.after hB3
    go_wp2_with fail
    have HBK2 := HBK.out _ (G0 % 2) hD3 (Nat.mod_lt _ (by decide))
    rw [show ((G0 % 2 : Nat) : Int) = (G0 : Int) % 2 by omega] at HBK2
    generalize w2.alloc (.cells #[.pointer (some ⟨L.g, 0, none⟩), .int .i64 (N : Int), .int .i64 (G0 : Int), .slice none 0 0, .int .i64 0, .bool false, .bool false] 49) = w3 at *
    refine HBK2.mono ?_
    clear HBK2 HBK
    rintro e w4 ⟨v4, rfl, ho4, hb4⟩
    have hB4 : Below w.heap.size w w4 := hB3.trans (hb4.mono hB3.size)
    have hlog4 := hlog.below hb4 (Nat.le_refl _)
    have hbk := hbl (G0 % 2) (Nat.mod_lt _ (by decide))
    generalize bankS s (G0 % 2) = BK at *
    obtain ⟨a4, c4', rfl⟩ := Seg.shapeD ho4.seg
    have htk := ho4.seg.takesD M (by rw [hbk]; exact t3)
    have hsl := slice_toD a4 BK.length c4' M htk.2
    have HTO : Hid (Calls Tryz.prog 28 #[.slice a4 M c4'] w4 fun e w' => ∃ sv rv vs, e = .returned (.tuple #[sv, rv]) ∧ Own w' w4.heap.size sv (toldB (BK.take M)).1 ∧ Gat w' w4.heap.size rv vs (toldB (BK.take M)).2 ∧ Below w4.heap.size w4 w') := told7_any _ (BK.take M) w4 htk.1 (by rw [List.length_take]; omega)
    go_wp2_with fail
    refine HTO.out.mono ?_
    rintro e w5 ⟨sv, rv, vs, rfl, ho5, hg5, hb5⟩
    have hB5 : Below w.heap.size w w5 := hB4.trans (hb5.mono hB4.size)
    have hlog5 := hlog4.below hb5 (Nat.le_refl _)
    clear HTO hsl htk ho4
    go_wp2_with fail
    (try simp only [Exit.inBlock, Exit.then])
    refine bodyPost_ret (results4 rfl _ _ _) rfl ?_
    rw [HF.out, HL.out]
    exact ⟨w2.heap.size, _, _, vs, rfl, hlog5, hgl, ho5.mono hB4.size, ⟨gat_mono hg5.own hB4.size, fun i u r h1 h2 => (hg5.rows i u r h1 h2).mono hB4.size⟩, hB5⟩
end Go.Proofs.YtojgeahablphbaaGreat
namespace Go.Proofs.YtojgeahablphbaaGreat
open Go.RowKit

/-- Bytes don't lie in a log's own block. -/
theorem seg_log {w : World} {G : Nat} {v bv : Value} {bs : List UInt8} {p : Option Addr} {n g s : Int} {x y : Bool} (h : Seg w v bs) (h0 : 0 < bs.length) (hG : Blk w G 49 #[.pointer p, .int .i64 n, .int .i64 g, bv, .int .i64 s, .bool x, .bool y]) (hb : ∃ ao l c, bv = .slice ao l c) : ∀ q, v.ownBlock = some q → ¬ q = G := by
  intro q hq e
  subst e
  rcases h with ⟨h, _⟩ | ⟨b, off, c, h, _, hr, _⟩
  · rw [h] at h0; cases h0
  · rw [h] at hq
    obtain rfl : b = q := Option.some.inj hq
    have hc := hr 0 h0
    rw [Nat.add_zero] at hc
    obtain ⟨ao, l, c', rfl⟩ := hb
    have hc2 := cell_of_row w b off _ 49 (0, 0) hG
    rw [hc] at hc2
    match off, hc2 with
    | 0, h => cases h
    | 1, h => cases h
    | 2, h => cases h
    | 3, h => cases h
    | 4, h => cases h
    | 5, h => cases h
    | 6, h => cases h
    | (k + 7), h => simp at h
/-- A log's own block has changed. -/
theorem RDisk.chgG {w w' : World} {L : RLay} {s : DS} {G : Nat} {l : LS} (h : RDisk w L s) (hl : RLog w G L l) (hc : Chg (fun q => q = G) w w') : RDisk w' L s := by
  obtain ⟨xv, hx, hx2⟩ := h.head
  obtain ⟨nv, hn, hn2⟩ := h.now
  obtain ⟨sv, hs, hs2⟩ := h.sure
  obtain ⟨bv, hb1, hb2⟩ := hl.head
  have hT : ∀ q, L.T q → ¬ q = G := fun q hq e => hl.off (e ▸ hq)
  have hbs : ∃ ao l c, bv = .slice ao l c := by obtain ⟨a, c, e⟩ := Seg.shapeD hb2.1; exact ⟨_, _, _, e⟩
  have hseg : ∀ v bs, SegA w L.U v bs → SegA w' L.U v bs := fun v bs h => ⟨h.1.chg hc (fun h0 => seg_log h.1 h0 hb1 hbs), h.2⟩
  exact ⟨h.ok, h.lay, ⟨xv, hx.chg hc (hT _ (.inl rfl)), hseg _ _ hx2⟩, ⟨nv, hn.chg hc (hT _ (.inr (.inl rfl))), ⟨hn2.1, fun i v r h1 h2 => hseg _ _ (hn2.2 i v r h1 h2)⟩⟩, ⟨sv, hs.chg hc (hT _ (.inr (.inr (.inl rfl)))), ⟨hs2.1, fun i v r h1 h2 => hseg _ _ (hs2.2 i v r h1 h2)⟩⟩, h.dirt.chg hc (hT _ (.inr (.inr (.inr rfl)))), fun q hq => Nat.lt_of_lt_of_le (h.av q hq) hc.size⟩
/-- A log on its disk. -/
structure RBoth (w : World) (G : Nat) (L : RLay) (s : DS) (l : LS) : Prop where
  d : RDisk w L s
  l : RLog w G L l
def bothG (G : Nat) (L : RLay) (q : Nat) : Prop := q = G ∨ L.T q
theorem RBoth.after {w w' : World} {G : Nat} {L : RLay} {s : DS} {l : LS} (h : RBoth w G L s l) (hb : Below w.heap.size w w') : RBoth w' G L s l := ⟨h.d.after hb, h.l.below hb (Nat.le_refl _)⟩
theorem RBoth.ltU {w : World} {G : Nat} {L : RLay} {s : DS} {l : LS} (h : RBoth w G L s l) : ∀ q, (q = G ∨ L.U q) → q < w.heap.size := fun q hq => by
  rcases hq with rfl | hq
  · exact h.l.lt
  · exact h.d.ltU q hq
theorem RBoth.lt {w : World} {G : Nat} {L : RLay} {s : DS} {l : LS} (h : RBoth w G L s l) : ∀ q, bothG G L q → q < w.heap.size := fun q hq => by
  rcases hq with rfl | hq
  · exact h.l.lt
  · exact h.d.lt q hq

set_option maxRecDepth 100000 in
theorem size7_any (G : Nat) (L : RLay) (s : DS) (l : LS) (w : World) (hB : RBoth w G L s l) :
    Calls Tryz.prog 18 #[.pointer (some ⟨G, 0, none⟩)] w fun e w' => e = .returned (.int .i64 (sizeS s : Int)) ∧ w = w' := by
  have HH : Hid (Calls Tryz.prog 25 #[.pointer (some ⟨L.g, 0, none⟩)] w fun e w' => e = .returned (.int .i64 (halfS s : Int)) ∧ w = w') := half7_any L s w hB.d
  obtain ⟨bv, hx, -⟩ := hB.l.head
  have c0 := hx.cell (j := 0) rfl
  obtain ⟨-, h2⟩ := halfS_le hB.d
  obtain ⟨SZ, hSZ⟩ : ∃ SZ, SZ = sizeS s := ⟨_, rfl⟩
  rw [← hSZ] at h2 ⊢
  unfold sizeS at hSZ
  have hwr : IntKind.i64.wrap ((halfS s : Int) * 128) = (SZ : Int) := by rw [IntKind.wrap_i64]; omega
  generalize halfS s = H at *
  clear hSZ
  go_enter Tryz.func18, Tryz.ntmps18
  go_wp2_with (go_at_call 25; refine HH.out.mono ?_; rintro e w1 ⟨rfl, rfl⟩)
  go_ret
  exact ⟨rfl, rfl⟩

set_option maxRecDepth 100000 in
theorem broke7_any (G : Nat) (L : RLay) (s : DS) (l : LS) (e0 : Int) (w : World) (hB : RBoth w G L s l) (he : e0 ≠ 0) :
    Calls Tryz.prog 66 #[.pointer (some ⟨G, 0, none⟩), .int .i64 e0] w fun e w' => e = .returned (.int .i64 e0) ∧ RBoth w' G L s { l with broke := true } ∧ Chg (fun q => q = G) w w' := by
  obtain ⟨bv, hx, hs⟩ := hB.l.head
  have c6 := hx.cell (j := 6) rfl
  have f6 := hx.frozen 6
  have hx2 := hx.set 6 (.bool true)
  have hc : Chg (fun q => q = G) w (w.setCell ⟨G, 6, none⟩ (.bool true)) := (Chg.refl (fun q => q = G) w).setCell G 6 _ (fun _ => rfl)
  have j1 : (e0 == 0) = false := by rw [beq_eq_false_iff_ne]; exact he
  have HB : Hid (RBoth (w.setCell ⟨G, 6, none⟩ (.bool true)) G L s { l with broke := true }) := ⟨hB.d.chgG hB.l hc, ⟨⟨bv, hx2.of_eq rfl, hs.chg (hc.weaken (fun _ h => .inl h))⟩, hB.l.off, hB.l.n, hB.l.gen, hB.l.b, hB.l.sure⟩⟩
  go_enter Tryz.func66, Tryz.ntmps66
  go_wp2
  go_ret
  exact ⟨rfl, HB.out, hc⟩

set_option maxRecDepth 100000 in
set_option maxHeartbeats 1000000 in
theorem room7_any (G : Nat) (L : RLay) (s : DS) (l : LS) (w : World) (hB : RBoth w G L s l) :
    Calls Tryz.prog 16 #[.pointer (some ⟨G, 0, none⟩)] w fun e w' => e = .returned (.int .i64 (roomW s l)) ∧ Below w.heap.size w w' := by
  have HS := size7_any G L s l w.drew (hB.after ((Below.refl _ _).drew))
  obtain ⟨bv, hx, hsg⟩ := hB.l.head
  obtain ⟨ab, cb, rfl⟩ := Seg.shapeD hsg.1
  obtain ⟨-, hsz⟩ := halfS_le hB.d
  have hbl := hB.l.b
  have c3 := hx.cell (j := 3) rfl
  have c5 := hx.cell (j := 5) rfl
  have c6 := hx.cell (j := 6) rfl
  obtain ⟨R, hR⟩ : ∃ R, R = roomW s l := ⟨_, rfl⟩
  rw [← hR]
  unfold roomW at hR
  cases hk : l.broke with
  | true =>
    rw [hk] at hR c6
    have HR : Hid (R = 0) := hR
    clear hR hk HS
    go_enter Tryz.func16, Tryz.ntmps16
    go_wp2
    go_ret
    rw [HR.out]
    exact ⟨rfl, Below.refl _ _⟩
  | false =>
    rw [hk] at hR c6
    cases hg : l.begun with
    | false =>
      rw [hg] at hR c5
      have HR : Hid (R = 0) := hR
      clear hR hk HS hg
      go_enter Tryz.func16, Tryz.ntmps16
      go_wp2
      go_ret
      rw [HR.out]
      exact ⟨rfl, Below.refl _ _⟩
    | true =>
      rw [hg] at hR c5
      have HR : Hid (R = (sizeS s : Int) - (l.b.length : Int)) := hR
      clear hR hk hg
      generalize sizeS s = SZ at *
      generalize l.b.length = BL at *
      have c3d : w.drew.cell? ⟨G, 3, none⟩ = some (.slice ab BL cb) := c3
      go_enter Tryz.func16, Tryz.ntmps16
      go_wp2_with fail
      refine held_begin (fun V => w.drew = V) (by kernel_rfl) ?_
      refine held_take 0 14 _ (.pointer (some ⟨G, 0, none⟩)) rfl rfl (by kernel_rfl) (by kernel_rfl) (by kernel_rfl) rfl rfl (fun _ _ => rfl) ?_
      simp only [Act.put, List.setIfInBounds_toArray, List.set_cons_succ, List.set_cons_zero]
      refine held_take 2 16 _ (.pointer (some ⟨G, 0, none⟩)) rfl rfl (by kernel_rfl) (by kernel_rfl) (by kernel_rfl) rfl rfl (fun _ _ => rfl) ?_
      simp only [Act.put, List.setIfInBounds_toArray, List.set_cons_succ, List.set_cons_zero]
      refine held_take 3 17 _ (.pointer (some ⟨G, 0, none⟩)) rfl rfl (by kernel_rfl) (by kernel_rfl) (by kernel_rfl) rfl rfl (fun _ _ => rfl) ?_
      simp only [Act.put, List.setIfInBounds_toArray, List.set_cons_succ, List.set_cons_zero]
      refine held_take 4 18 _ (.pointer (some ⟨G, 3, none⟩)) rfl rfl (by kernel_rfl) (by kernel_rfl) (by kernel_rfl) rfl rfl (fun _ _ => rfl) ?_
      simp only [Act.put, List.setIfInBounds_toArray, List.set_cons_succ, List.set_cons_zero]
      refine held_take 5 19 _ (.slice ab BL cb) rfl rfl (by kernel_rfl) (by kernel_rfl) (by kernel_rfl) rfl rfl (fun V hV => by rw [← hV]; exact exec_loadc 33 _ rfl _ _ rfl (load_one 33 (fun _ => by kernel_rfl) _ _ _ _ c3d)) ?_
      simp only [Act.put, List.setIfInBounds_toArray, List.set_cons_succ, List.set_cons_zero]
      refine held_take 6 20 _ (.int .i64 (BL : Int)) rfl rfl (by kernel_rfl) (by kernel_rfl) (by kernel_rfl) rfl rfl (fun _ _ => exec_len _ rfl _ _ _ rfl) ?_
      simp only [Act.put, List.setIfInBounds_toArray, List.set_cons_succ, List.set_cons_zero]
      refine held_all1 1 (by kernel_rfl) (op_call 1 15 _ 18 #[.pointer (some ⟨G, 0, none⟩)] rfl rfl rfl (exec_one 18 _ _ rfl _ rfl Tryz.call18) (HS.mono ?_))
      rintro e V1 ⟨rfl, rfl⟩
      refine ⟨_, rfl, rfl, ?_⟩
      simp only [Act.put, List.setIfInBounds_toArray, List.set_cons_succ, List.set_cons_zero]
      refine held_all1 7 (by kernel_rfl) (op_value 7 21 _ (.int .i64 ((SZ : Int) - (BL : Int))) w.drew rfl rfl rfl (exec_subi 3 _ _ rfl _ _ rfl rfl (by omega) (by omega)) ⟨rfl, ?_⟩)
      simp only [Act.put, List.setIfInBounds_toArray, List.set_cons_succ, List.set_cons_zero]
      refine held_all1 8 (by kernel_rfl) (op_value 8 2 _ (.int .i64 ((SZ : Int) - (BL : Int))) w.drew rfl rfl rfl rfl ⟨rfl, ?_⟩)
      simp only [Act.put, List.setIfInBounds_toArray, List.set_cons_succ, List.set_cons_zero]
      refine wpAnyH_done (by kernel_rfl) ?_ _
      refine NoPanic.normal ?_
      go_wp2
      go_ret
      rw [HR.out]
      exact ⟨rfl, (Below.refl _ _).drew⟩

set_option maxRecDepth 100000 in
set_option maxHeartbeats 2000000 in
theorem append7_any (G : Nat) (L : RLay) (s : DS) (l : LS) (x : Value) (bs : List UInt8) (w : World) (hB : RBoth w G L s l) (hS : Seg w x bs) (hm : bs.length ≤ 1000000) (hx : 0 < bs.length → ∀ q, x.ownBlock = some q → ¬ bothG G L q) :
    Calls Tryz.prog 34 #[.pointer (some ⟨G, 0, none⟩), x] w fun e w' => e = .returned (.int .i64 (appendW s l bs).1) ∧ RBoth w' G L s (appendW s l bs).2 ∧ Chg (fun q => q = G) w w' := by
  have HRM := room7_any G L s l w hB
  obtain ⟨bv, hh, hsg⟩ := hB.l.head
  obtain ⟨ax, cx, rfl⟩ := Seg.shapeD hS
  have c5 := hh.cell (j := 5) rfl
  have c6 := hh.cell (j := 6) rfl
  obtain ⟨R, hR⟩ : ∃ R, R = appendW s l bs := ⟨_, rfl⟩
  rw [← hR]
  unfold appendW at hR
  cases hk : l.broke with
  | true =>
    rw [hk, if_pos rfl] at hR
    rw [hk] at c6
    have HR : Hid (R = (10, l)) := hR
    clear hR hk HRM
    go_enter Tryz.func34, Tryz.ntmps34
    go_wp2
    go_ret
    rw [HR.out]
    exact ⟨rfl, hB, Chg.refl _ _⟩
  | false =>
    rw [hk, if_neg (by decide)] at hR
    rw [hk] at c6
    cases hg : l.begun with
    | false =>
      rw [hg, if_pos rfl] at hR
      rw [hg] at c5
      have HR : Hid (R = (9, l)) := hR
      clear hR hk HRM hg
      go_enter Tryz.func34, Tryz.ntmps34
      go_wp2
      go_ret
      rw [HR.out]
      exact ⟨rfl, hB, Chg.refl _ _⟩
    | true =>
      rw [hg, if_neg (by decide)] at hR
      rw [hg] at c5
      by_cases h4 : 4096 < bs.length
      · rw [if_pos h4] at hR
        have j4 : (4096 : Int) < (bs.length : Int) := by omega
        have HR : Hid (R = (1, l)) := hR
        clear hR hk HRM hg
        go_enter Tryz.func34, Tryz.ntmps34
        go_wp2
        go_ret
        rw [HR.out]
        exact ⟨rfl, hB, Chg.refl _ _⟩
      · rw [if_neg h4] at hR
        have j4 : ¬ (4096 : Int) < (bs.length : Int) := by omega
        have hbl := hB.l.b
        obtain ⟨-, hsz⟩ := halfS_le hB.d
        have hrm : roomW s l = (sizeS s : Int) - (l.b.length : Int) := by unfold roomW; rw [hk, hg]; rfl
        obtain ⟨RM, hRM⟩ : ∃ RM, RM = roomW s l := ⟨_, rfl⟩
        rw [← hRM] at hR HRM hrm
        have HRM' : Hid (Calls Tryz.prog 16 #[.pointer (some ⟨G, 0, none⟩)] w fun e w' => e = .returned (.int .i64 RM) ∧ Below w.heap.size w w') := HRM
        by_cases h5 : RM < (bs.length : Int) + 5
        · rw [if_pos h5] at hR
          have HR : Hid (R = (3, l)) := hR
          clear hR hk HRM hg hRM hrm
          go_enter Tryz.func34, Tryz.ntmps34
          go_wp2_with (go_at_call 16; refine HRM'.out.mono ?_; rintro e w1 ⟨rfl, hb1⟩)
          go_ret
          rw [HR.out]
          exact ⟨rfl, hB.after hb1, Chg.of_below hb1 (Nat.le_refl _)⟩
        · rw [if_neg h5] at hR
          have HR : Hid (R = (0, ⟨l.n, l.gen, l.b ++ pieceB 3 bs, l.sure, true, false⟩)) := hR
          have HK : Hid (l.broke = false) := hk
          have HGN : Hid (l.begun = true) := hg
          rw [hk, hg] at hh
          have hfit : l.b.length + (bs.length + 5) ≤ sizeS s := by omega
          have HPC : Hid (∀ V, Seg V (.slice ax bs.length cx) bs → Calls Tryz.prog 63 #[.int .i64 3, .slice ax bs.length cx] V fun e w' => ∃ v, e = .returned v ∧ Own w' V.heap.size v (pieceB 3 bs) ∧ Below V.heap.size V w') := fun V hV => piece7_any 3 _ bs V (by decide) hV (by omega)
          clear hR hk HRM hg hRM hrm
          obtain ⟨ab, cb, rfl⟩ := Seg.shapeD hsg.1
          go_enter Tryz.func34, Tryz.ntmps34
          go_wp2_with fail
          refine HRM'.out.mono ?_
          rintro e w1 ⟨rfl, hb1⟩
          have hB1 := hB.after hb1
          have hh1 := hh.below hb1 hh.lt
          have hsg1 := hsg.1.below hb1 (Nat.le_refl _)
          have c3 := hh1.cell (j := 3) rfl
          have f3 := hh1.frozen 3
          have hGl := hh1.lt
          have hGn : G ≠ w1.heap.size := Nat.ne_of_lt hGl
          clear HRM'
          go_wp2_with (at_builtin; refine app_own _ rfl (.tmp 28) (.tmp 32) rfl w1.heap.size _ [] rfl (by exact own_emptyD _ _ _ rfl (Nat.le_refl _)) _ l.b rfl (by exact hsg1.alloc _) (by show 0 + _ ≤ _; omega) (by simp) ?_; intro v33 w2 ho2 hg2 hv2; rw [List.nil_append] at ho2; have hb2 : Below w1.heap.size w1 w2 := below_grown ((Below.refl _ w1).alloc (Nat.le_refl _) _) hg2 (by simp) (fun q hq => by have h2 : w1.heap.size = q := Option.some.inj hq; omega))
          have hB2 := hB1.after hb2
          have hS2 := (hS.below hb1 (Nat.le_refl _)).below hb2 (Nat.le_refl _)
          refine (HPC.out w2 hS2).mono ?_
          rintro e w3 ⟨v35, rfl, ho3, hb3⟩
          have ho2' := ho2.below hb3 (Nat.le_refl _)
          have hb13 : Below w1.heap.size w1 w3 := hb2.trans (hb3.mono hb2.size)
          have hh3 := hh1.below hb13 hh1.lt
          clear ho2 hg2 hv2 HPC c3 f3
          go_wp2_with (at_builtin; refine app_own w3 rfl (.tmp 33) (.tmp 35) rfl w1.heap.size _ l.b rfl ho2' v35 (pieceB 3 bs) rfl ho3.seg (by rw [pieceB_len]; omega) hb13.size ?_; intro v36 w4 ho4 hg4 hv4; have hb14 : Below w1.heap.size w1 w4 := below_grown hb13 hg4 hb13.size (fun q hq => (ho2'.blocks q hq).1); have hh4 := hh1.below hb14 hh1.lt; have c3 := hh4.cell (j := 3) rfl; have f3 := hh4.frozen 3; obtain ⟨a36, c36, rfl⟩ := Seg.shapeD ho4.seg)
          go_ret
          rw [HR.out]
          have hB4 := hB1.after hb14
          rw [← List.length_append]
          have hc5 : Chg (fun q => q = G) w4 (w4.setCell ⟨G, 3, none⟩ (.slice a36 (l.b ++ pieceB 3 bs).length c36)) := (Chg.refl (fun q => q = G) w4).setCell G 3 _ (fun _ => rfl)
          have hltU := hB1.ltU
          have hne : ∀ q, (Value.slice a36 (l.b ++ pieceB 3 bs).length c36).ownBlock = some q → ¬ (q = G ∨ L.U q) := fun q hq e => by have := (ho4.blocks q hq).1; have := hltU q e; omega
          refine ⟨rfl, ⟨hB4.d.chgG hB4.l hc5, ⟨⟨.slice a36 (l.b ++ pieceB 3 bs).length c36, (hh4.set 3 _).of_eq rfl, ho4.seg.chg hc5 (fun _ q hq e => hne q hq (.inl e)), fun _ => hne⟩, hB4.l.off, hB4.l.n, hB4.l.gen, ?_, ?_⟩⟩, (Chg.of_below (S := fun q => q = G) hb1 (Nat.le_refl _)).trans (S' := fun q => q = G) ((Chg.of_below (S := fun q => q = G) hb14 (Nat.le_refl _)).trans (S' := fun q => q = G) hc5 (fun _ _ h => h)) (fun _ _ h => h)⟩
          · show (l.b ++ pieceB 3 bs).length ≤ _
            rw [List.length_append, pieceB_len]
            omega
          · show l.sure ≤ (l.b ++ pieceB 3 bs).length
            have := hB.l.sure
            rw [List.length_append]
            omega
end Go.Proofs.YtojgeahablphbaaGreat
