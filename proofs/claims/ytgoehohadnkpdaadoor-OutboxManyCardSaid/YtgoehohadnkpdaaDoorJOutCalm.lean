/-
  What is proved here: plain facts on a box whose flash keeps its power: what Put and Ack do.
  Conditions: the flash is not armed, and no block is worn out.
-/
import Derived.Test.YtgoehohadnkpdaaDoorJOutAck
import Derived.Test.YtgoehohadnkpdaaDoorJOutOpen
import Derived.Test.YtgoehohadnkpdaaDoorJCellKit
namespace Go.Proofs.YtgoehohadnkpdaaDoor

def blkO (k : Nat) : Nat := (k - 1) / 32 % 2
def plO (k : Nat) : Nat := (k - 1) % 32
/-- A box on a flash that keeps its power, erased at most so many times. -/
structure CB (s : FS) (n j e : Nat) (x : XS) : Prop where
  ok : s.ok n
  up : s.down = false
  un : s.armed < 0
  worn : ∀ y ∈ s.worn, y ≤ e
  br : x.br = false
  pos : (x.last.seq = 0 ∧ x.last.wh = 0 ∧ x.last.la = -1) ∨ (1 ≤ x.last.seq ∧ x.last.wh = blkO x.last.seq ∧ x.last.la = (plO x.last.seq : Int))
  free : ∀ i : Nat, i < 32 → x.last.la < (i : Int) → plB s (j + x.last.wh) i = List.replicate 32 255
  wts : ∀ y ∈ x.wt, 1 ≤ y.seq ∧ y.seq ≤ x.last.seq ∧ y.wh = blkO y.seq ∧ y.la = (plO y.seq : Int) ∧ (y.wh = x.last.wh → y.la ≤ x.last.la)
  rise : x.wt.Pairwise (fun a b => a.seq < b.seq)
theorem CB.wh {s : FS} {n j e : Nat} {x : XS} (h : CB s n j e x) : x.last.wh ≤ 1 := by
  rcases h.pos with ⟨_, h2, _⟩ | ⟨_, h2, _⟩
  · omega
  · rw [h2]; unfold blkO; omega
theorem CB.la {s : FS} {n j e : Nat} {x : XS} (h : CB s n j e x) : -1 ≤ x.last.la ∧ x.last.la ≤ 31 := by
  rcases h.pos with ⟨_, _, h2⟩ | ⟨_, _, h2⟩
  · omega
  · rw [h2]; unfold plO; omega
theorem CB.ins {s : FS} {n j e : Nat} {x : XS} (h : CB s n j e x) : ∀ y ∈ x.wt, y.wh ≤ 1 ∧ -1 ≤ y.la ∧ y.la ≤ 31 := fun y hy => by
  obtain ⟨_, _, h3, h4, _⟩ := h.wts y hy
  rw [h3, h4]
  unfold blkO plO
  omega
theorem CB.more {s : FS} {n j e e' : Nat} {x : XS} (h : CB s n j e x) (he : e ≤ e') : CB s n j e' x := ⟨h.ok, h.up, h.un, fun y hy => Nat.le_trans (h.worn y hy) he, h.br, h.pos, h.free, h.wts, h.rise⟩
theorem prog_calm {s : FS} {n : Nat} (ho : s.ok n) (hu : s.down = false) (hn : s.armed < 0) (a : Nat) (bs : List UInt8) (hb : bs.length ≤ 4096) (ha : a + bs.length ≤ 1024 * n) : programF s (a : Int) bs = (0, { s with b := progL s.b a bs bs.length }) := by
  unfold programF
  have hl := ho.b
  rw [there9 (by omega) (by omega) (by omega) (by rw [hl]; omega), if_neg (by decide), if_neg (show ¬ s.down = true by rw [hu]; decide)]
  have hg : goesF s bs.length = (bs.length, 0, s) := by unfold goesF; rw [if_pos hn]
  rw [hg]
  rfl
theorem erase_calm {s : FS} {n e : Nat} (ho : s.ok n) (hu : s.down = false) (hn : s.armed < 0) (hw : ∀ y ∈ s.worn, y ≤ e) (q : Nat) (hq : q < n) (he : e < s.most) : eraseF s (q : Int) = (0, { s with b := onesL s.b (1024 * q) 1024, worn := s.worn.set q (s.worn.getD q 0 + 1) }) ∧ FS.ok { s with b := onesL s.b (1024 * q) 1024, worn := s.worn.set q (s.worn.getD q 0 + 1) } n ∧ (∀ y ∈ s.worn.set q (s.worn.getD q 0 + 1), y ≤ e + 1) := by
  have hl := ho.worn
  have hx : s.worn.getD q 0 ≤ e := by
    rw [List.getD_eq_getElem?_getD, List.getElem?_eq_getElem (by omega)]
    exact hw _ (List.getElem_mem _)
  have hmem : ∀ x ∈ s.worn.set q (s.worn.getD q 0 + 1), x ≤ e + 1 := fun x hx2 => by
    rcases List.mem_or_eq_of_mem_set hx2 with h2 | h2
    · exact Nat.le_succ_of_le (hw x h2)
    · omega
  refine ⟨?_, ⟨by show (onesL s.b _ _).length = _; rw [onesL_len]; exact ho.b, by show (s.worn.set _ _).length = _; rw [List.length_set]; exact ho.worn, ho.one, ho.cap, ho.most, fun x hx2 => ?_, ho.armed, ho.done⟩, hmem⟩
  · unfold eraseF
    rw [if_neg (by omega), if_neg (show ¬ s.down = true by rw [hu]; decide), Int.toNat_natCast, if_neg (by omega)]
    have hg : goesF s 1024 = (1024, 0, s) := by unfold goesF; rw [if_pos hn]
    rw [hg]
  · have := hmem x hx2
    show x ≤ s.most
    omega
def nextX (x : XS) (r : RP) : XE := ⟨x.last.seq + 1, r, blkO (x.last.seq + 1), (plO (x.last.seq + 1) : Int)⟩
/-- No room: the block is full, and something waits in the other one. -/
def fullX (x : XS) : Prop := x.last.la = 31 ∧ ∃ y ∈ x.wt, y.wh = 1 - x.last.wh
theorem CB.first (n wear j : Nat) (h1 : 1 ≤ n) (h2 : n ≤ 256) (h3 : wear ≤ 10000) (hj : j + 1 < n) : CB (newF n wear) n j 0 XS.first := by
  refine ⟨newF_ok n wear h1 h2 h3, rfl, by show (-1 : Int) < 0; decide, fun y hy => ?_, rfl, .inl ⟨rfl, rfl, rfl⟩, fun i hi _ => ?_, (fun y hy => by cases hy), List.Pairwise.nil⟩
  · rw [List.eq_of_mem_replicate hy]
    exact Nat.le_refl _
  · show cellB (blkB (newF n wear) (j + 0)) i = _
    rw [blk_new n wear (j + 0) (by omega), cell_ones i hi]
/-- An entry is programmed at a free place of a calm flash. -/
theorem CB.prog {s : FS} {n j e : Nat} {x : XS} (ho : s.ok n) (hu : s.down = false) (hn : s.armed < 0) (hw : ∀ y ∈ s.worn, y ≤ e) (hj : j + 1 < n) (r : RP)
    (hfree : ∀ i : Nat, i < 32 → plO (x.last.seq + 1) < i → plB s (j + blkO (x.last.seq + 1)) i = List.replicate 32 255)
    (hwt : ∀ y ∈ x.wt, 1 ≤ y.seq ∧ y.seq ≤ x.last.seq ∧ y.wh = blkO y.seq ∧ y.la = (plO y.seq : Int) ∧ (y.wh = blkO (x.last.seq + 1) → y.la ≤ (plO (x.last.seq + 1) : Int)))
    (hri : x.wt.Pairwise (fun a b => a.seq < b.seq)) :
    ∃ s', progX x j s r (blkO (x.last.seq + 1)) (plO (x.last.seq + 1)) = (x.last.seq + 1, 0, ⟨x.wt ++ [nextX x r], nextX x r, false⟩, s') ∧ CB s' n j e ⟨x.wt ++ [nextX x r], nextX x r, false⟩ ∧ s'.most = s.most := by
  have hp : plO (x.last.seq + 1) < 32 := by unfold plO; omega
  have hb : blkO (x.last.seq + 1) ≤ 1 := by unfold blkO; omega
  have hl := ho.b
  refine ⟨{ s with b := progL s.b (1024 * (j + blkO (x.last.seq + 1)) + 32 * plO (x.last.seq + 1)) (entO (x.last.seq + 1) r) 31 }, ?_, ?_, rfl⟩
  · unfold progX
    rw [prog_calm ho hu hn _ (entO (x.last.seq + 1) r) (by rw [entO_len]; decide) (by rw [entO_len]; omega), entO_len]
    rfl
  · refine ⟨ho.bytes _ (progL_len ..), hu, hn, hw, rfl, .inr ⟨by show 1 ≤ x.last.seq + 1; omega, rfl, rfl⟩, fun i hi hl2 => ?_, fun y hy => ?_, ?_⟩
    · have hl3 : plO (x.last.seq + 1) < i := by have h9 : ((plO (x.last.seq + 1) : Nat) : Int) < (i : Int) := hl2; omega
      have := hfree i hi hl3
      rw [pl_at _ _ _ hi] at this ⊢
      rw [← this]
      exact prog_elseN s.b _ _ _ _ (by show 1024 * (j + blkO (x.last.seq + 1)) + 32 * i + 32 ≤ _; omega) (.inr (by show 1024 * (j + blkO (x.last.seq + 1)) + 32 * plO (x.last.seq + 1) + 31 ≤ 1024 * (j + blkO (x.last.seq + 1)) + 32 * i; omega))
    · rcases List.mem_append.1 hy with h | h
      · obtain ⟨y1, y2, y3, y4, y5⟩ := hwt y h
        exact ⟨y1, by show y.seq ≤ x.last.seq + 1; omega, y3, y4, y5⟩
      · rw [List.mem_singleton.1 h]
        exact ⟨by show 1 ≤ x.last.seq + 1; omega, Nat.le_refl _, rfl, rfl, fun _ => Int.le_refl _⟩
    · rw [List.pairwise_append]
      refine ⟨hri, List.pairwise_singleton _ _, fun a ha b hb => ?_⟩
      rw [List.mem_singleton.1 hb]
      have := (hwt a ha).2.1
      show a.seq < x.last.seq + 1
      omega
theorem CB.put {s : FS} {n j e : Nat} {x : XS} (h : CB s n j e x) (hj : j + 1 < n) (r : RP) (hr : r.ok) (hs : x.last.seq < 1073741824) (he : e < s.most) :
    (¬ fullX x ∧ ∃ s', putX x j s r = (x.last.seq + 1, 0, ⟨x.wt ++ [nextX x r], nextX x r, false⟩, s') ∧ CB s' n j (e + 1) ⟨x.wt ++ [nextX x r], nextX x r, false⟩ ∧ s'.most = s.most) ∨ (fullX x ∧ putX x j s r = (0, 3, x, s)) := by
  have hright : rightO r = true := decide_eq_true hr
  have hlen := fun i (hi : i < 32) => pl_len h.ok (j + x.last.wh) i (by have := h.wh; omega) hi
  have hput : putX x j s r = if (roomX x j s).2.1 = 0 then progX (roomX x j s).2.2.1 j (roomX x j s).2.2.2 r (roomX x j s).1.1 (roomX x j s).1.2 else (0, (roomX x j s).2.1, (roomX x j s).2.2.1, (roomX x j s).2.2.2) := by
    unfold putX
    rw [h.br, if_neg (by decide), hright, if_neg (by decide), if_neg (by omega)]
  have hla := h.la
  by_cases hlt : x.last.la < 31
  · left
    refine ⟨fun hf => by have := hf.1; omega, ?_⟩
    have hnx : x.last.wh = blkO (x.last.seq + 1) ∧ x.last.la + 1 = (plO (x.last.seq + 1) : Int) := by
      rcases h.pos with ⟨h1, h2, h3⟩ | ⟨h1, h2, h3⟩
      · rw [h1, h2, h3]; exact ⟨rfl, rfl⟩
      · rw [h3] at hlt ⊢
        rw [h2]
        unfold blkO plO at *
        omega
    have hri : roomI (blkB s (j + x.last.wh)) x.last.la = some (plO (x.last.seq + 1)) := by
      have e1 : x.last.la = ((plO (x.last.seq + 1) : Nat) : Int) - 1 := by omega
      rw [e1]
      refine roomX_some (k := 1) (q := []) (by unfold plO; omega) (by unfold plO; omega) rfl (fun y hy => by cases hy) ?_
      have hf := h.free (plO (x.last.seq + 1)) (by unfold plO; omega) (by omega)
      have hf2 : cellB (blkB s (j + x.last.wh)) (plO (x.last.seq + 1)) = List.replicate 32 255 := hf
      rw [hf2]
      decide
    have hroom : roomX x j s = ((x.last.wh, plO (x.last.seq + 1)), 0, x, s) := by
      unfold roomX
      rw [hri]
    rw [hput, hroom, if_pos rfl]
    dsimp only
    rw [hnx.1]
    obtain ⟨s', h1, h2, h3⟩ := CB.prog h.ok h.up h.un h.worn hj r (fun i hi hl => by rw [← hnx.1]; exact h.free i hi (by omega)) (fun y hy => by
      obtain ⟨y1, y2, y3, y4, y5⟩ := h.wts y hy
      exact ⟨y1, y2, y3, y4, fun e => by have := y5 (e.trans hnx.1.symm); omega⟩) h.rise
    exact ⟨s', h1, h2.more (Nat.le_succ _), h3⟩
  · have hl31 : x.last.la = 31 := by omega
    have hnx : 1 - x.last.wh = blkO (x.last.seq + 1) ∧ plO (x.last.seq + 1) = 0 := by
      rcases h.pos with ⟨h1, h2, h3⟩ | ⟨h1, h2, h3⟩
      · omega
      · rw [h3] at hl31
        rw [h2]
        unfold blkO plO at *
        omega
    have hri : roomI (blkB s (j + x.last.wh)) x.last.la = none := by
      have e1 : x.last.la = ((32 : Nat) : Int) - 1 := by omega
      rw [e1]
      exact roomX_none (by decide) (fun i hi => by cases hi)
    cases hany : x.wt.any (fun e => e.wh == 1 - x.last.wh) with
    | true =>
      right
      obtain ⟨y, hy, hy2⟩ := List.any_eq_true.1 hany
      refine ⟨⟨hl31, y, hy, by simpa using hy2⟩, ?_⟩
      have hroom : roomX x j s = ((0, 0), 3, x, s) := by
        unfold roomX
        rw [hri]
        dsimp only
        rw [hany, if_pos rfl]
      rw [hput, hroom, if_neg (by show ¬ (3 : Int) = 0; decide)]
    | false =>
      left
      have hno : ∀ y ∈ x.wt, y.wh ≠ 1 - x.last.wh := fun y hy => by
        have := List.any_eq_false.1 hany y hy
        simpa using this
      refine ⟨fun ⟨_, y, hy, hy2⟩ => hno y hy hy2, ?_⟩
      have hwh := h.wh
      obtain ⟨e1, e2, e3⟩ := erase_calm h.ok h.up h.un h.worn (j + (1 - x.last.wh)) (by omega) he
      have hx : ({ x with br := (0 : Int) != 0 } : XS) = x := by
        have hb := h.br
        obtain ⟨a, b, c⟩ := x
        simp only at hb
        subst hb
        rfl
      have hroom : roomX x j s = ((1 - x.last.wh, 0), 0, x, { s with b := onesL s.b (1024 * (j + (1 - x.last.wh))) 1024, worn := s.worn.set (j + (1 - x.last.wh)) (s.worn.getD (j + (1 - x.last.wh)) 0 + 1) }) := by
        unfold roomX
        rw [hri]
        dsimp only
        rw [hany, if_neg (by decide), e1]
        dsimp only
        rw [hx]
      rw [hput, hroom, if_pos rfl]
      dsimp only
      have hlb := h.ok.b
      rw [hnx.1] at e2 e3 ⊢
      have := CB.prog (s := { s with b := onesL s.b (1024 * (j + blkO (x.last.seq + 1))) 1024, worn := s.worn.set (j + blkO (x.last.seq + 1)) (s.worn.getD (j + blkO (x.last.seq + 1)) 0 + 1) }) e2 h.up h.un e3 hj r (fun i hi hl => by
        rw [pl_at _ _ _ hi]
        exact ones_here s.b _ _ (by have : blkO (x.last.seq + 1) ≤ 1 := by unfold blkO; omega
                                    omega) (by omega) (by omega)) (fun y hy => by
        obtain ⟨y1, y2, y3, y4, y5⟩ := h.wts y hy
        exact ⟨y1, y2, y3, y4, fun e => absurd (e.trans hnx.1.symm) (hno y hy)⟩) h.rise
      rw [hnx.2] at this
      obtain ⟨s', h1, h2, h3⟩ := this
      exact ⟨s', h1, h2, h3⟩
theorem CB.ack {s : FS} {n j e : Nat} {x : XS} (h : CB s n j e x) (hj : j + 1 < n) (m : Int) (i : Nat) (hi : idxX x.wt m = some i) :
    ∃ s', ackX x j s m = (0, ⟨x.wt.eraseIdx i, x.last, false⟩, s') ∧ CB s' n j e ⟨x.wt.eraseIdx i, x.last, false⟩ ∧ s'.most = s.most := by
  have hil := idxX_lt hi
  have hm : x.wt[i] ∈ x.wt := List.getElem_mem _
  obtain ⟨y1, y2, y3, y4, y5⟩ := h.wts _ hm
  have hgd : x.wt.getD i XE.first = x.wt[i] := by rw [List.getD_eq_getElem?_getD, List.getElem?_eq_getElem hil]; rfl
  have hb : blkO x.wt[i].seq ≤ 1 := by unfold blkO; omega
  have hp : plO x.wt[i].seq < 32 := by unfold plO; omega
  have hst : startX j x.wt[i] + 31 = ((1024 * (j + blkO x.wt[i].seq) + 32 * plO x.wt[i].seq + 31 : Nat) : Int) := by
    unfold startX
    rw [y3, y4]
    omega
  have hl := h.ok.b
  have hpc := prog_calm h.ok h.up h.un (1024 * (j + blkO x.wt[i].seq) + 32 * plO x.wt[i].seq + 31) [0] (by decide) (by show _ + 1 ≤ _; omega)
  refine ⟨{ s with b := progL s.b (1024 * (j + blkO x.wt[i].seq) + 32 * plO x.wt[i].seq + 31) [0] 1 }, ?_, ?_, rfl⟩
  · unfold ackX
    rw [h.br, if_neg (by decide), hi]
    dsimp only
    rw [hgd, hst, hpc, if_pos rfl]
    rfl
  · have hwh := h.wh
    refine ⟨h.ok.bytes _ (progL_len ..), h.up, h.un, h.worn, rfl, h.pos, fun k hk hl2 => ?_, fun y hy => h.wts y (List.mem_of_mem_eraseIdx hy), h.rise.sublist (List.eraseIdx_sublist _ _)⟩
    have hf := h.free k hk hl2
    have hl3 : x.last.la < (k : Int) := hl2
    rw [pl_at _ _ _ hk] at hf ⊢
    rw [← hf]
    refine prog_elseN s.b _ _ _ _ (by show 1024 * (j + x.last.wh) + 32 * k + 32 ≤ _; omega) ?_
    show 1024 * (j + x.last.wh) + 32 * k + 32 ≤ 1024 * (j + blkO x.wt[i].seq) + 32 * plO x.wt[i].seq + 31 ∨ 1024 * (j + blkO x.wt[i].seq) + 32 * plO x.wt[i].seq + 31 + 1 ≤ 1024 * (j + x.last.wh) + 32 * k
    by_cases hs : blkO x.wt[i].seq = x.last.wh
    · have := y5 (y3.trans hs)
      rw [y4] at this
      right
      omega
    · omega
theorem CB.noack {s : FS} {n j e : Nat} {x : XS} (h : CB s n j e x) (m : Int) (hi : idxX x.wt m = none) : ackX x j s m = (4, x, s) := by
  unfold ackX
  rw [h.br, if_neg (by decide), hi]
end Go.Proofs.YtgoehohadnkpdaaDoor
