/-
  What is proved here: the program's keeper and the document's side by side, and what both keep to. plain facts on steps as they lie in memory; whether they have more bytes than a test should. the small thing that the statements on boot ask first is so. what '==' tells of two records, and of the two versions of records.
  Conditions: those that each fact names. the variable fourBits holds the sixteen words. none.
-/
import Derived.Test.YtbdhkkdombdnkaaDoorJRefBootOpen
import Derived.Test.YtbdhkkdombdnkaaDoorJBootPut
import Derived.Test.YtbdhkkdombdnkaaDoorJFlashI
import Derived.Test.YtbdhkkdombdnkaaDoorJBootSmall
import Derived.Laws.StructEq
import Derived.ChangeKeysEq
namespace Go.Proofs.YtbdhkkdombdnkaaDoor
open Go.RowKit

/-- What a keeper's numbers keep to. -/
structure KOk (K : KS) : Prop where
  wh : K.wh ≤ 1
  la : -1 ≤ K.la ∧ K.la ≤ 31
  gen : K.gen ≤ 1073741824
theorem kok_first : KOk KS.first := ⟨Nat.zero_le _, ⟨Int.le_refl _, by decide⟩, Nat.zero_le _⟩
theorem kok_seenI {s : FS} {n J wh : Nat} (hs : s.ok n) (hJ : J < n) (hwh : wh ≤ 1) {K : KS} (hK : KOk K) : ∀ I, I ≤ 32 → KOk (seenI wh (blkB s J) K I)
  | 0, _ => hK
  | I + 1, h => by
    have ih := kok_seenI hs hJ hwh hK I (by omega)
    rw [seenI_step]
    split
    · exact ⟨hwh, ⟨by show -1 ≤ (I : Int); omega, by show (I : Int) ≤ 31; omega⟩, toldE_le _ (cell_len9 hs hJ (by omega))⟩
    · exact ih
theorem kok_find {s : FS} {n j : Nat} (hs : s.ok n) (hj : j + 1 < n) : KOk (findK s j) := by
  have h1 : KOk (seenW s j 1) := kok_seenI hs (show j + 0 < n by omega) (Nat.zero_le _) kok_first 32 (Nat.le_refl _)
  exact kok_seenI hs hj (Nat.le_refl _) h1 32 (Nat.le_refl _)
theorem fndI_lt {p : Nat → Bool} {z : Int} {i : Nat} (h : fndI p z = some i) : i < 32 := by
  have := List.mem_of_find?_eq_some h
  simpa using this
theorem kok_broke {K : KS} (h : KOk K) : KOk K.broke := ⟨h.wh, h.la, h.gen⟩
theorem kok_prog {K : KS} (h : KOk K) (hg : K.gen + 1 ≤ 1073741824) (j : Nat) (r : BR) {wn ix : Nat} (hw : wn ≤ 1) (hi : ix < 32) (s : FS) : KOk (progD K j r wn ix s).2.1 := by
  unfold progD
  split
  · exact kok_broke h
  · exact ⟨hw, ⟨by show -1 ≤ (ix : Int); omega, by show (ix : Int) ≤ 31; omega⟩, hg⟩
theorem kok_saveD {K : KS} (h : KOk K) (j : Nat) (s : FS) (r : BR) : KOk (saveD K j s r).2.1 := by
  unfold saveD
  split
  · exact h
  split
  · exact h
  split
  · exact h
  rename_i hg
  have hg1 : K.gen + 1 ≤ 1073741824 := by have := h.gen; omega
  unfold putD
  split
  · rename_i i hi
    exact kok_prog h hg1 j r h.wh (fndI_lt hi) s
  · split
    · exact kok_broke h
    · exact kok_prog h hg1 j r (by omega) (by decide) _
/-- The flashes alone, side by side: w0 is the world ahead of both. -/
structure FP9 (w0 w : World) (L : PLay6) (M : FLay) (s : FS) : Prop where
  p : PFlash w L s
  r : RFlash w M s
  off : ∀ q, L.T q → ¬ M.T q
  lp : ∀ q, L.T q → w0.heap.size ≤ q
  lr : ∀ q, M.T q → w0.heap.size ≤ q
  b : Below w0.heap.size w0 w
theorem FP9.after {w0 w w' : World} {L : PLay6} {M : FLay} {s : FS} (h : FP9 w0 w L M s) (hb : Below w.heap.size w w') : FP9 w0 w' L M s := ⟨h.p.after hb, h.r.after hb, h.off, h.lp, h.lr, h.b.trans (hb.mono h.b.size)⟩
/-- Both flashes do the same. -/
theorem FP9.both {w0 w w1 w2 : World} {L : PLay6} {M : FLay} {s s' : FS} (h : FP9 w0 w L M s) (hp : PFlash w1 L s') (hc1 : Chg L.T w w1) (hr : RFlash w2 M s') (hc2 : Chg M.T w1 w2) : FP9 w0 w2 L M s' :=
  ⟨hp.chg hc2 h.off, hr, h.off, h.lp, h.lr, (h.b.trans (hc1.below h.lp h.b.size)).trans (hc2.below h.lr (Nat.le_trans h.b.size hc1.size))⟩
/-- The document's flash is as it was behind a change of the program's. -/
theorem FP9.still {w0 w w1 : World} {L : PLay6} {M : FLay} {s : FS} (h : FP9 w0 w L M s) (hc1 : Chg L.T w w1) : RFlash w1 M s := h.r.chg hc1 (fun q hq e => h.off q e hq)
/-- The keepers, side by side. -/
structure KP9 (w0 w : World) (L : PLay6) (M : FLay) (j : Nat) (s : FS) (K : KS) (g q : Nat) : Prop where
  f : FP9 w0 w L M s
  k : Blk w g 71 (kpC L j K)
  x : Blk w q 50 (kpR M j K)
  ok : KOk K
  gL : ¬ L.T g
  gM : ¬ M.T g
  qL : ¬ L.T q
  qM : ¬ M.T q
  ne : g ≠ q
  lg : w0.heap.size ≤ g
  lq : w0.heap.size ≤ q
theorem KP9.after {w0 w w' : World} {L : PLay6} {M : FLay} {j : Nat} {s : FS} {K : KS} {g q : Nat} (h : KP9 w0 w L M j s K g q) (hb : Below w.heap.size w w') : KP9 w0 w' L M j s K g q :=
  ⟨h.f.after hb, h.k.below hb h.k.lt, h.x.below hb h.x.lt, h.ok, h.gL, h.gM, h.qL, h.qM, h.ne, h.lg, h.lq⟩
theorem KP9.both {w0 w w1 w2 : World} {L : PLay6} {M : FLay} {j : Nat} {s s' : FS} {K : KS} {g q : Nat} (h : KP9 w0 w L M j s K g q) (hp : PFlash w1 L s') (hc1 : Chg L.T w w1) (hr : RFlash w2 M s') (hc2 : Chg M.T w1 w2) : KP9 w0 w2 L M j s' K g q :=
  ⟨h.f.both hp hc1 hr hc2, (h.k.chg hc1 h.gL).chg hc2 h.gM, (h.x.chg hc1 h.qL).chg hc2 h.qM, h.ok, h.gL, h.gM, h.qL, h.qM, h.ne, h.lg, h.lq⟩
/-- Both save. -/
theorem KP9.saved {w0 w w1 w2 : World} {L : PLay6} {M : FLay} {j : Nat} {s s' : FS} {K K' : KS} {g q : Nat} (h : KP9 w0 w L M j s K g q) (hk : Blk w1 g 71 (kpC L j K')) (hp : PFlash w1 L s') (hc1 : Chg (kT L g) w w1) (hx : Blk w2 q 50 (kpR M j K')) (hr : RFlash w2 M s') (hc2 : Chg (kTR M q) w1 w2) (hok : KOk K') : KP9 w0 w2 L M j s' K' g q := by
  have hb1 : Below w0.heap.size w0 w1 := h.f.b.trans (hc1.below (fun b hb => by rcases hb with hb | hb; exact h.f.lp b hb; rw [hb]; exact h.lg) h.f.b.size)
  refine ⟨⟨hp.chg hc2 (fun b hb e => ?_), hr, h.f.off, h.f.lp, h.f.lr, hb1.trans (hc2.below (fun b hb => ?_) hb1.size)⟩, hk.chg hc2 (fun e => ?_), hx, hok, h.gL, h.gM, h.qL, h.qM, h.ne, h.lg, h.lq⟩
  · rcases e with e | e
    · exact h.f.off b hb e
    · rw [e] at hb; exact h.qL hb
  · rcases hb with hb | hb
    · exact h.f.lr b hb
    · rw [hb]; exact h.lq
  · rcases e with e | e
    · exact h.gM e
    · exact h.ne e
/-- What lies ahead of the document's Save, behind the program's. -/
theorem KP9.mid {w0 w w1 : World} {L : PLay6} {M : FLay} {j : Nat} {s : FS} {K : KS} {g q : Nat} (h : KP9 w0 w L M j s K g q) (hc1 : Chg (kT L g) w w1) : Blk w1 q 50 (kpR M j K) ∧ RFlash w1 M s :=
  ⟨h.x.chg hc1 (fun e => by rcases e with e | e; exact h.qL e; exact h.ne e.symm), h.f.r.chg hc1 (fun b hb e => by rcases e with e | e; exact h.f.off b e hb; rw [e] at hb; exact h.gM hb)⟩
/-- Both are opened, one behind the other. -/
theorem FP9.opened {w0 w w1 w2 : World} {L : PLay6} {M : FLay} {j : Nat} {s : FS} {g q : Nat} (h : FP9 w0 w L M s) (hj : j + 1 < L.n) (hb1 : Below w.heap.size w w1) (hk : Blk w1 g 71 (kpC L j (findK s j))) (hg : w.heap.size ≤ g) (hb2 : Below w1.heap.size w1 w2) (hx : Blk w2 q 50 (kpR M j (findK s j))) (hq : w1.heap.size ≤ q) : KP9 w0 w2 L M j s (findK s j) g q := by
  have hk1 := hk.lt
  have hs1 := hb1.size
  have hs0 := h.b.size
  refine ⟨(h.after hb1).after hb2, hk.below hb2 hk.lt, hx, kok_find h.p.ok hj, fun e => ?_, fun e => ?_, fun e => ?_, fun e => ?_, by omega, by omega, by omega⟩
  · have := h.p.lt g e; omega
  · have := h.r.lt g e; omega
  · have := h.p.lt q e; omega
  · have := h.r.lt q e; omega
end Go.Proofs.YtbdhkkdombdnkaaDoor
namespace Go.Proofs.YtbdhkkdombdnkaaDoor
open Go.RowKit

def IsBool9 (e : Ending) : Prop := ∃ b, e = .returned (.bool b)
structure St9 where
  act : Int
  b : BR
  n : Int
  k : Int
  c : List UInt8
/-- A step's numbers are such, and its bytes lie here. -/
structure At9 (W : World) (cv : Value) (a : St9) : Prop where
  c : Seg W cv a.c
  cm : a.c.length ≤ maxLen
  act : R64 a.act
  n : R64 a.n
  k : R64 a.k
/-- A step lies in these nine cells. -/
structure Cells9 (W : World) (q off : Nat) (a : St9) : Prop where
  lt : q < W.heap.size
  act : W.cell? ⟨q, off, none⟩ = some (.int .i64 a.act)
  b0 : W.cell? ⟨q, off + 1, none⟩ = some (.int .i64 a.b.active)
  b1 : W.cell? ⟨q, off + 2, none⟩ = some (.int .i64 a.b.trial)
  b2 : W.cell? ⟨q, off + 3, none⟩ = some (.int .i64 a.b.tries)
  b3 : W.cell? ⟨q, off + 4, none⟩ = some (.int .i64 a.b.v0)
  b4 : W.cell? ⟨q, off + 5, none⟩ = some (.int .i64 a.b.v1)
  n : W.cell? ⟨q, off + 6, none⟩ = some (.int .i64 a.n)
  k : W.cell? ⟨q, off + 7, none⟩ = some (.int .i64 a.k)
  c : ∃ cv, W.cell? ⟨q, off + 8, none⟩ = some cv ∧ At9 W cv a
def Steps9 (W : World) (v : Value) (l : List St9) : Prop := ∃ ao c, v = .slice ao l.length c ∧ l.length ≤ maxLen ∧ ∀ (i : Nat) a, l[i]? = some a → ∃ q off, ao = some ⟨q, off, none⟩ ∧ Cells9 W q (off + i * 9) a
theorem At9.below {w w' : World} {B : Nat} {cv : Value} {a : St9} (h : At9 w cv a) (hb : Below B w w') (hB : w.heap.size ≤ B) : At9 w' cv a := ⟨h.c.below hb hB, h.cm, h.act, h.n, h.k⟩
theorem Cells9.below {w w' : World} {B q off : Nat} {a : St9} (h : Cells9 w q off a) (hb : Below B w w') (hB : w.heap.size ≤ B) : Cells9 w' q off a := by
  have hc : ∀ o, w'.cell? ⟨q, o, none⟩ = w.cell? ⟨q, o, none⟩ := fun o => hb.cell (p := ⟨q, o, none⟩) (Nat.lt_of_lt_of_le h.lt hB)
  obtain ⟨cv, h8, h9⟩ := h.c
  exact ⟨Nat.lt_of_lt_of_le h.lt hb.size, (hc _).trans h.act, (hc _).trans h.b0, (hc _).trans h.b1, (hc _).trans h.b2, (hc _).trans h.b3, (hc _).trans h.b4, (hc _).trans h.n, (hc _).trans h.k, cv, (hc _).trans h8, h9.below hb hB⟩
theorem Steps9.below {w w' : World} {B : Nat} {v : Value} {l : List St9} (h : Steps9 w v l) (hb : Below B w w') (hB : w.heap.size ≤ B) : Steps9 w' v l := by
  obtain ⟨ao, c, h1, h2, h3⟩ := h
  refine ⟨ao, c, h1, h2, fun i a hi => ?_⟩
  obtain ⟨q, off, e, h4⟩ := h3 i a hi
  exact ⟨q, off, e, h4.below hb hB⟩
theorem index_steps9 (b off len c : Nat) (I : Nat) (h : I < len) (w : World) : (Instr.indexAt 22 (.slice (some ⟨b, off, none⟩) len c) (.int .i64 (I : Int))).run Tryd.prog w = .ok (.pointer (some ⟨b, off + I * 9, none⟩)) w := by
  have hi : (0 : Int) ≤ (I : Int) ∧ (I : Int) < (len : Int) := by omega
  simp [Instr.indexAt, asIntOf, run_underlying Tryd.underlying22, hi, Addr.add_mid]
  first | rfl | (intro h'; omega)

set_option maxRecDepth 100000 in
set_option maxHeartbeats 2000000 in
theorem much9_any (v : Value) (l : List St9) (w : World) (h : Steps9 w v l) : Calls Tryd.prog 6 #[v] w fun e w' => IsBool9 e ∧ w = w' := by
  obtain ⟨ao, c, rfl, hm, hc⟩ := h
  unfold maxLen at hm
  have HC : Hid (∀ (i : Nat) a, l[i]? = some a → ∃ q off, ao = some ⟨q, off, none⟩ ∧ Cells9 w q (off + i * 9) a) := hc
  clear hc
  go_enter Tryd.func6, Tryd.ntmps6
  go_wp2
  go_loop [3] (fun i => ∃ I : Nat, i = .int .i64 (I : Int) ∧ I ≤ l.length ∧ I ≤ 200) (fun i => 200 - (intOf i).toNat)
  case atStart => exact ⟨0, rfl, Nat.zero_le _, by omega⟩
  case round =>
    obtain ⟨I, rfl, hI, hI3⟩ := hrel
    by_cases h1 : I < l.length
    case neg =>
      have i1 : ¬ (I : Int) < (l.length : Int) := by omega
      go_wp2
      go_ret
      exact ⟨⟨_, rfl⟩, rfl⟩
    by_cases h2 : I < 200
    case neg =>
      have i1 : (I : Int) < (l.length : Int) := by omega
      have i2 : ¬ (I : Int) < 200 := by omega
      go_wp2
      go_ret
      exact ⟨⟨_, rfl⟩, rfl⟩
    have i1 : (I : Int) < (l.length : Int) := by omega
    have i2 : (I : Int) < 200 := by omega
    obtain ⟨A, hA⟩ : ∃ A, l[I]? = some A := ⟨_, List.getElem?_eq_getElem h1⟩
    obtain ⟨q, off, rfl, hcs⟩ := HC.out I A hA
    obtain ⟨cv, d8, hat⟩ := hcs.c
    obtain ⟨ab, cb, rfl⟩ := Seg.shapeD hat.c
    have ix := index_steps9 q off l.length c I h1
    clear HC hA hcs
    by_cases hb : 3000 < A.c.length
    · have j1 : (3000 : Int) < (A.c.length : Int) := by omega
      go_wp2
      go_ret
      exact ⟨⟨_, rfl⟩, rfl⟩
    have j1 : ¬ (3000 : Int) < (A.c.length : Int) := by omega
    go_wp2
    go_round
    case rel => exact ⟨I + 1, by go_num, h1, h2⟩
    case measure => simp [intOf]; omega
end Go.Proofs.YtbdhkkdombdnkaaDoor
namespace Go.Proofs.YtbdhkkdombdnkaaDoor
open Go.RowKit

theorem blk_new (n wear j : Nat) (h : j < n) : blkB (newF n wear) j = List.replicate 1024 255 := by
  unfold blkB newF
  rw [List.drop_replicate, List.take_replicate]
  congr 1
  omega
theorem cell_ones (i : Nat) (h : i < 32) : cellB (List.replicate 1024 255) i = List.replicate 32 255 := by
  unfold cellB
  rw [List.drop_replicate, List.take_replicate]
  congr 1
  omega
theorem see_ones (wh : Nat) (k : KS) : seeB wh (List.replicate 1024 255) k = k := by
  unfold seeB
  have : ∀ l : List Nat, (∀ i ∈ l, i < 32) → l.foldl (seeK wh (List.replicate 1024 255)) k = k := by
    intro l
    induction l with
    | nil => intro _; rfl
    | cons i l ih =>
      intro h
      rw [List.foldl_cons]
      have hs : seeK wh (List.replicate 1024 255) k i = k := by
        unfold seeK
        rw [cell_ones i (h i List.mem_cons_self), decE_ones]
      rw [hs]
      exact ih (fun q hq => h q (List.mem_cons_of_mem _ hq))
  exact this _ (fun i hi => List.mem_range.1 hi)
theorem find_new (n wear j : Nat) (h : j + 1 < n) : findK (newF n wear) j = KS.first := by
  unfold findK
  rw [blk_new n wear (j + 1) h, blk_new n wear j (by omega), see_ones, see_ones]
theorem room_ones : roomI (List.replicate 1024 255) (-1) = some 0 := by
  refine roomI_some (k := 1) (q := []) (by decide) rfl (fun x hx => by cases hx) ?_
  unfold freeI
  rw [cell_ones 0 (by decide)]
  decide
def awkB : BR := ⟨0, 1, 0, 0, 0⟩
theorem awk_room : roomE KS.first 1 (newF 3 10) = ((0, 0), 0, newF 3 10) := by
  unfold roomE
  have h0 : (newF 3 10).down = false := rfl
  have hw : KS.first.wh = 0 := rfl
  have hl : KS.first.la = -1 := rfl
  rw [h0, if_neg (by decide), hw, hl, blk_new 3 10 (1 + 0) (by decide), room_ones]
theorem awk_prog : (progE KS.first 1 awkB (roomE KS.first 1 (newF 3 10))).1 = 0 := by
  rw [awk_room]
  unfold progE programF
  have hl : (newF 3 10).b.length = 3072 := by unfold newF; rw [List.length_replicate]
  rw [entB_len, there9 (by decide) (by decide) (by decide) (by rw [hl]; decide), if_neg (by decide), if_neg (by show ¬ false = true; decide)]
  rfl
theorem awk_put : (putE KS.first 1 (newF 3 10) awkB).1 = 0 ∧ (putE KS.first 1 (newF 3 10) awkB).2.1 = ⟨1, awkB, 0, 0, false⟩ := by
  unfold putE
  rw [awk_prog]
  rw [show (roomE KS.first 1 (newF 3 10)).2.1 = 0 by rw [awk_room]]
  rw [if_neg (by decide), if_neg (by decide), awk_room]
  exact ⟨rfl, rfl⟩
theorem awk_save : (saveE KS.first 1 (newF 3 10) awkB).1 = 0 ∧ (saveE KS.first 1 (newF 3 10) awkB).2.1 = ⟨1, awkB, 0, 0, false⟩ := by
  unfold saveE
  rw [if_neg (by decide), if_neg (by decide), if_neg (by decide), awk_put.1, awk_put.2]
  exact ⟨rfl, rfl⟩

set_option maxRecDepth 100000 in
set_option maxHeartbeats 4000000 in
theorem awake9_any (w : World) (hgf : 1 < w.heap.size) (hf : Tab w 1 (fours.map v32)) : Calls Tryd.prog 5 #[] w fun e w' => e = .returned (.bool true) ∧ Below w.heap.size w w' := by
  have HN : Hid (Calls Tryd.prog 7 #[.int .i64 3, .int .i64 10] w fun e w' => ∃ L : PLay6, e = .returned (.tuple #[.pointer (some ⟨L.g, 0, none⟩), .int .i64 0]) ∧ L.n = 3 ∧ PFlash w' L (newF 3 10) ∧ Below w.heap.size w w' ∧ (∀ q, L.T q → w.heap.size ≤ q)) := thePF.new_any 3 10 w (by decide) (by decide) (by decide) (by decide)
  go_enter Tryd.func5, Tryd.ntmps5
  go_wp2_with fail
  refine HN.out.mono ?_
  rintro e w1 ⟨L, rfl, hn, hD1, hB1, hT1⟩
  clear HN
  have HNL : Hid (L.n = 3) := hn
  clear hn
  have HO : Hid (Calls Tryd.prog 9 #[.pointer (some ⟨L.g, 0, none⟩), .int .i64 1] w1 fun e w' => Below w1.heap.size w1 w' ∧ ∃ g, e = .returned (.tuple #[.pointer (some ⟨g, 0, none⟩), .int .i64 0]) ∧ Blk w' g 71 (kpC L 1 KS.first) ∧ w1.heap.size ≤ g) := by
    refine (open9_any L (newF 3 10) 1 w1 hD1 (by rw [HNL.out]; decide) (Nat.lt_of_lt_of_le hgf hB1.size) (hf.below hB1 hgf)).mono ?_
    rintro e w' ⟨h1, h2⟩
    have h0 : (newF 3 10).down = false := rfl
    rw [h0, if_neg (by decide), find_new 3 10 1 (by decide)] at h2
    exact ⟨h1, h2⟩
  go_wp2_with fail
  refine HO.out.mono ?_
  rintro e w2 ⟨hb2, g, rfl, hK2, hg2⟩
  clear HO
  have hB2 : Below w.heap.size w w2 := hB1.trans (hb2.mono hB1.size)
  have hD2 := thePF.after hD1 hb2
  have hgT : ¬ L.T g := fun h => by have := hD1.lt g h; omega
  have hs1 := hB1.size
  have HSV : Hid (Calls Tryd.prog 19 #[.pointer (some ⟨g, 0, none⟩), .agg #[.int .i64 0, .int .i64 1, .int .i64 0, .int .i64 0, .int .i64 0]] w2 fun e w' => e = .returned (.int .i64 0) ∧ Blk w' g 71 (kpC L 1 ⟨1, awkB, 0, 0, false⟩) ∧ Chg (kT L g) w2 w') := by
    refine (save9_any L (newF 3 10) g 1 KS.first awkB w2 hK2 hgT hD2 (by rw [HNL.out]; decide) (by decide) (by decide) (Nat.lt_of_lt_of_le hgf hB2.size) (hf.below hB2 hgf) (fun h => by have := hT1 _ h; omega)).mono ?_
    rintro e w' ⟨h1, h2, h3, h4⟩
    rw [awk_save.1] at h1
    rw [awk_save.2] at h2
    exact ⟨h1, h2, h4⟩
  go_wp2_with fail
  refine HSV.out.mono ?_
  rintro e w3 ⟨rfl, hK3, hc3⟩
  clear HSV
  have hB3 : Below w.heap.size w w3 := hB2.trans (hc3.below (fun q hq => by rcases hq with h | h; exact hT1 q h; omega) hB2.size)
  have HG : Hid (Calls Tryd.prog 22 #[.pointer (some ⟨g, 0, none⟩)] w3 fun e w' => e = .returned (.int .i64 1) ∧ w' = w3) := gen9_any L g 1 _ w3 hK3
  have HR : Hid (Calls Tryd.prog 21 #[.pointer (some ⟨g, 0, none⟩)] w3 fun e w' => e = .returned (.agg #[.int .i64 0, .int .i64 1, .int .i64 0, .int .i64 0, .int .i64 0]) ∧ Below w3.heap.size w3 w') := record9_any L g 1 _ w3 hK3
  clear hK3 hK2 hD1 hD2 hc3
  have heq : ∀ w, (binOp .eql 40 (.agg #[.int .i64 0, .int .i64 1, .int .i64 0, .int .i64 0, .int .i64 0]) (.agg #[.int .i64 0, .int .i64 1, .int .i64 0, .int .i64 0, .int .i64 0])).run Tryd.prog w = .ok (.bool true) w := fun w => by kernel_rfl
  go_wp2_with fail
  refine HG.out.mono ?_
  rintro e w4 ⟨rfl, hw4⟩
  subst hw4
  go_wp2_with fail
  refine HR.out.mono ?_
  rintro e w5 ⟨rfl, hb5⟩
  go_wp2
  go_ret
  exact ⟨rfl, hB3.trans (hb5.mono hB3.size)⟩
end Go.Proofs.YtbdhkkdombdnkaaDoor
namespace Go.Proofs.YtbdhkkdombdnkaaDoor
open Go.RowKit

theorem st24 : Tryd.prog.stoodInHeld 40 = false := by kernel_rfl
theorem un22 : Tryd.prog.underlying 38 = some (.array 2 3) := by kernel_rfl
theorem eq_twoIn (d e d' e' : Int) (n : Nat) (w : World) : (Op.equalIn (n + 1 + 1) 38 (.agg #[.int .i64 d, .int .i64 e]) (.agg #[.int .i64 d', .int .i64 e'])).run Tryd.prog w = .ok (d == d' && e == e') w := by
  have hs : (Tryd.prog.info? 3).isSome = true := by kernel_rfl
  obtain ⟨i, hi⟩ := Option.isSome_iff_exists.1 hs
  have hc : Tryd.prog.cellsOf 3 = 1 := by kernel_rfl
  have hu : Tryd.prog.underlying 3 = some (.int .i64) := by kernel_rfl
  have p0 : ∀ (z y : Int) (w : World), (part 3 #[.int .i64 z, .int .i64 y] 0).run Tryd.prog w = .ok (.int .i64 z) w := fun z y w => by kernel_rfl
  have p1 : ∀ (z y : Int) (w : World), (part 3 #[.int .i64 z, .int .i64 y] 1).run Tryd.prog w = .ok (.int .i64 y) w := fun z y w => by kernel_rfl
  have q : ∀ (z y : Int) (w : World), (Op.equalIn (n + 1) 3 (.int .i64 z) (.int .i64 y)).run Tryd.prog w = .ok (z == y) w := fun z y w => run_equalIn_int w n 3 .i64 .i64 z y hu
  rw [run_equalIn_array w (n + 1) _ _ un22 hi, hc]
  show (Op.eqItems (n + 1) 3 1 _ _ [0, 1]).run Tryd.prog w = _
  simp only [Op.eqItems, Sem.run_bind, Nat.zero_mul, Nat.one_mul, p0, Result.andThen_ok, q]
  cases d == d' with
  | false => simp
  | true =>
    simp [p1, q]
    by_cases h : e = e' <;> simp [h]
theorem eq_two (d e d' e' : Int) (w : World) : (binOp .eql 38 (.agg #[.int .i64 d, .int .i64 e]) (.agg #[.int .i64 d', .int .i64 e'])).run Tryd.prog w = .ok (.bool (d == d' && e == e')) w := by
  rw [run_eql_struct, eq_twoIn d e d' e' 9998 w]
  rfl
theorem ne_two (d e d' e' : Int) (w : World) : (binOp .neq 38 (.agg #[.int .i64 d, .int .i64 e]) (.agg #[.int .i64 d', .int .i64 e'])).run Tryd.prog w = .ok (.bool (!(d == d' && e == e'))) w := by
  rw [run_neq_struct, eq_twoIn d e d' e' 9998 w]
  rfl
theorem eq_brIn (a b c d e a' b' c' d' e' : Int) (w : World) : (Op.equalIn 10000 40 (.agg #[.int .i64 a, .int .i64 b, .int .i64 c, .int .i64 d, .int .i64 e]) (.agg #[.int .i64 a', .int .i64 b', .int .i64 c', .int .i64 d', .int .i64 e'])).run Tryd.prog w = .ok (a == a' && (b == b' && (c == c' && (d == d' && e == e')))) w := by
  have ht : Tryd.prog.underlying 40 = some (.struct (Tryd.prog.fieldsOf 40)) := by kernel_rfl
  rw [run_equalIn_agg w _ _ _ _ ht st24]
  simp [go_sem, eq_twoIn d e d' e' 9997]
  by_cases h1 : a = a' <;> by_cases h2 : b = b' <;> by_cases h3 : c = c' <;> by_cases h4 : d = d' <;> by_cases h5 : e = e' <;> simp [h1, h2, h3, h4, h5]
theorem eq_br (a b c d e a' b' c' d' e' : Int) (w : World) : (binOp .eql 40 (.agg #[.int .i64 a, .int .i64 b, .int .i64 c, .int .i64 d, .int .i64 e]) (.agg #[.int .i64 a', .int .i64 b', .int .i64 c', .int .i64 d', .int .i64 e'])).run Tryd.prog w = .ok (.bool (a == a' && (b == b' && (c == c' && (d == d' && e == e'))))) w := by
  rw [run_eql_struct, eq_brIn]
  rfl
theorem ne_br (a b c d e a' b' c' d' e' : Int) (w : World) : (binOp .neq 40 (.agg #[.int .i64 a, .int .i64 b, .int .i64 c, .int .i64 d, .int .i64 e]) (.agg #[.int .i64 a', .int .i64 b', .int .i64 c', .int .i64 d', .int .i64 e'])).run Tryd.prog w = .ok (.bool (!(a == a' && (b == b' && (c == c' && (d == d' && e == e')))))) w := by
  rw [run_neq_struct, eq_brIn]
  rfl
theorem same_br (x : BR) (w : World) : (binOp .eql 40 (.agg #[.int .i64 x.active, .int .i64 x.trial, .int .i64 x.tries, .int .i64 x.v0, .int .i64 x.v1]) (.agg #[.int .i64 x.active, .int .i64 x.trial, .int .i64 x.tries, .int .i64 x.v0, .int .i64 x.v1])).run Tryd.prog w = .ok (.bool true) w := by
  rw [eq_br]
  simp
end Go.Proofs.YtbdhkkdombdnkaaDoor
