/-
  What is proved here: the document's Save is the plain save.
  Conditions: the keeper and its flash lie in memory, and its two blocks are there.
-/
import Derived.Test.YtbdhkkdombdnkaaDoorJRefBootFree
import Derived.Test.YtbdhkkdombdnkaaDoorJBootPut
namespace Go.Proofs.YtbdhkkdombdnkaaDoor
open Go.RowKit

def kTR (L : FLay) (g q : Nat) : Prop := L.T q ∨ q = g
/-- The first place behind z that is free. -/
def fndI (p : Nat → Bool) (z : Int) : Option Nat := (List.range 32).find? fun x => decide (z < (x : Int)) && p x
theorem fndI_step (p : Nat → Bool) (I : Nat) (h : I < 32) : fndI p ((I : Int) - 1) = if p I then some I else fndI p (I : Int) := by
  unfold fndI
  cases hp : p I with
  | true =>
    rw [if_pos rfl, List.find?_range_eq_some]
    refine ⟨by rw [hp, decide_eq_true (by omega)]; rfl, by simpa using h, fun x hx => ?_⟩
    rw [decide_eq_false (by omega)]; rfl
  | false =>
    rw [if_neg (by decide)]
    congr 1
    funext x
    by_cases hx : x = I
    · subst hx; rw [hp, Bool.and_false, Bool.and_false]
    · have : ((I : Int) - 1 < (x : Int)) = ((I : Int) < (x : Int)) := by apply propext; omega
      rw [decide_eq_decide.2 (by omega : ((I : Int) - 1 < (x : Int)) ↔ ((I : Int) < (x : Int)))]
theorem fndI_top (p : Nat → Bool) : fndI p 31 = none := by
  unfold fndI
  rw [List.find?_eq_none]
  intro x hx
  have := List.mem_range.1 hx
  simp only [Bool.not_eq_true]
  rw [decide_eq_false (by omega)]; rfl
theorem find_same {p q : Nat → Bool} : ∀ l : List Nat, (∀ x ∈ l, p x = q x) → l.find? p = l.find? q
  | [], _ => rfl
  | a :: l, h => by rw [List.find?_cons, List.find?_cons, h a (by simp), find_same l (fun x hx => h x (by simp [hx]))]
def progD (k : KS) (j : Nat) (r : BR) (wn ix : Nat) (s : FS) : Int × KS × FS := if (programF s (((j : Int) + (wn : Int)) * 1024 + (ix : Int) * 32) (entB (k.gen + 1) r)).1 ≠ 0 then ((programF s (((j : Int) + (wn : Int)) * 1024 + (ix : Int) * 32) (entB (k.gen + 1) r)).1, k.broke, (programF s (((j : Int) + (wn : Int)) * 1024 + (ix : Int) * 32) (entB (k.gen + 1) r)).2) else (0, ⟨k.gen + 1, r, wn, (ix : Int), k.br⟩, (programF s (((j : Int) + (wn : Int)) * 1024 + (ix : Int) * 32) (entB (k.gen + 1) r)).2)
def putD (k : KS) (j : Nat) (s : FS) (r : BR) : Int × KS × FS := match fndI (freeC s (j + k.wh)) k.la with
  | some i => progD k j r k.wh i s
  | none => if (eraseF s ((j : Int) + ((1 - k.wh : Nat) : Int))).1 ≠ 0 then ((eraseF s ((j : Int) + ((1 - k.wh : Nat) : Int))).1, k.broke, (eraseF s ((j : Int) + ((1 - k.wh : Nat) : Int))).2) else progD k j r (1 - k.wh) 0 (eraseF s ((j : Int) + ((1 - k.wh : Nat) : Int))).2
def saveD (k : KS) (j : Nat) (s : FS) (r : BR) : Int × KS × FS := if k.br then (10, k, s) else if rightR r = false then (1, k, s) else if k.gen = 1073741824 then (3, k, s) else putD k j s r
theorem saveD_is {k : KS} {j n : Nat} {s : FS} (r : BR) (hs : s.ok n) (hj : j + 1 < n) (hw : k.wh ≤ 1) : saveD k j s r = saveE k j s r := by
  unfold saveD saveE
  by_cases hb : k.br = true
  · rw [if_pos hb, if_pos hb]
  rw [if_neg hb, if_neg hb]
  have hbf : k.br = false := by simpa using hb
  by_cases hr : rightR r = false
  · rw [if_pos hr, if_pos hr]
  rw [if_neg hr, if_neg hr]
  by_cases hg : k.gen = 1073741824
  · rw [if_pos hg, if_pos hg]
  rw [if_neg hg, if_neg hg]
  have hbr : k.broke = ⟨k.gen, k.r, k.wh, k.la, true⟩ := rfl
  unfold putD putE roomE
  by_cases hd : s.down = true
  · have hn : fndI (freeC s (j + k.wh)) k.la = none := by
      unfold fndI
      rw [List.find?_eq_none]
      intro x _
      unfold freeC lookC
      rw [if_pos hd]
      simp
    have he : eraseF s ((j : Int) + ((1 - k.wh : Nat) : Int)) = (7, s) := by
      unfold eraseF
      rw [if_neg (by have := hs.worn; omega), if_pos hd]
    rw [hn, he, if_pos hd]
    simp [hbr]
  rw [if_neg hd]
  have hf : fndI (freeC s (j + k.wh)) k.la = roomI (blkB s (j + k.wh)) k.la := by
    unfold fndI roomI
    refine find_same _ fun x hx => ?_
    have hx := List.mem_range.1 hx
    unfold freeC lookC
    rw [if_neg hd, cell_len9 hs (by omega) hx]
    simp
  rw [hf]
  cases roomI (blkB s (j + k.wh)) k.la with
  | some i =>
    unfold progD progE
    simp only
    generalize programF s (((j : Int) + (k.wh : Int)) * 1024 + (i : Int) * 32) (entB (k.gen + 1) r) = P
    by_cases h0 : P.1 = 0
    · simp [h0, hbf]
    · simp [h0, hbr]
  | none =>
    rw [show ((j + (1 - k.wh) : Nat) : Int) = (j : Int) + ((1 - k.wh : Nat) : Int) by omega]
    unfold progD progE
    simp only
    generalize eraseF s ((j : Int) + ((1 - k.wh : Nat) : Int)) = E
    by_cases h1 : E.1 = 0
    · generalize programF E.2 (((j : Int) + ((1 - k.wh : Nat) : Int)) * 1024 + ((0 : Nat) : Int) * 32) (entB (k.gen + 1) r) = P
      by_cases h0 : P.1 = 0
      · simp [h0, h1, hbf]
      · simp [h0, h1, hbr]
    · simp [h1, hbr]
theorem exec_add9n {a : Act} {o : Oper} {w : World} (t : TypeId) (x y : Operand) (ho : o.op = .binOp .add t x y t) (m n : Nat) (hx : a.eval x = .int .i64 (m : Int)) (hy : a.eval y = .int .i64 (n : Int)) (h1 : m + n < 9223372036854775808) : (execOp a.eval o).run Tryd.prog w = .ok (.value (.int .i64 ((m + n : Nat) : Int))) w := by
  have h := exec_add9 (a := a) (o := o) (w := w) t x y ho (m : Int) (n : Int) hx hy (by omega) (by omega)
  rw [h]; congr 3
theorem store_mid9 {w : World} {ops : Array Oper} {rest : List Oper} {o : Oper} {a : Act} {Q : Exit → Act → World → Prop} (hgd : o.guard = none) (ty : TypeId) (x y : Operand) (ho : o.op = .store ty x y) (hd : o.dst = none)
    (g off : Nat) (cells : Array Value) (hx : a.eval x = .pointer (some ⟨g, off, none⟩)) (hy : a.eval y = .agg cells) (t : TypeId) (old new : Array Value) (hg : Blk w g t old) (hin : (Tryd.prog.info? ty).map (·.size) = some cells.size) (hfit : off + cells.size ≤ old.size) (h1 : cells.all (·.oneCell') = true) (hnew : (splice old.toList off cells.toList).toArray = new)
    (hK : ∀ w', Blk w' g t new → w.grownBy w' (some g) → wpList Tryd.prog ops Q rest a w') : wpList Tryd.prog ops Q (o :: rest) a w := by
  have hth : w.there g off cells.size := fun j hj => ⟨by rw [hg.cell (v := old[off + j]'(by omega)) (by simp [show off + j < old.size by omega])]; rfl, hg.frozen _⟩
  refine wpList_store_mid hgd ty x y ho g off cells hx hy hth hin h1 ?_
  rw [hd]
  obtain ⟨h2, _⟩ := grown_setCells g cells.toList off w
  exact hK _ ((Blk.setCells cells.toList off w old hg (by simpa using hfit)).of_eq hnew) h2
set_option maxRecDepth 100000 in
set_option maxHeartbeats 4000000 in
theorem rsave9_any (L : FLay) (s : FS) (g j : Nat) (k : KS) (r : BR) (w : World) (hK : Blk w g 50 (kpR L j k)) (hgT : ¬ L.T g) (hD : RFlash w L s) (hj : j + 1 < L.n) (hw : k.wh ≤ 1) (hla : -1 ≤ k.la ∧ k.la ≤ 31) (hgen : k.gen ≤ 1073741824) :
    Calls Tryd.prog 20 #[.pointer (some ⟨g, 0, none⟩), brV r] w fun e w' => e = .returned (.int .i64 (saveD k j s r).1) ∧ Blk w' g 50 (kpR L j (saveD k j s r).2.1) ∧ RFlash w' L (saveD k j s r).2.2 ∧ Chg (kTR L g) w w' := by
  have hglt := hK.lt
  have hTlt := hD.lt
  have hcap := hD.ok.cap
  have HSE : Hid (saveD k j s r = if k.br then (10, k, s) else if rightR r = false then (1, k, s) else if k.gen = 1073741824 then (3, k, s) else putD k j s r) := rfl
  generalize saveD k j s r = SE at *
  obtain ⟨Bx, hBx⟩ : ∃ Bx, Bx = w.heap.size := ⟨_, rfl⟩
  have hbA := (Below.refl w.heap.size w).alloc (Nat.le_refl _) (.cells (brL r) 40)
  have hkE := Blk.new w 40 (brL r)
  have hKA := hK.below hbA hK.lt
  have hDA := hD.after hbA
  have HRG : Hid (Calls Tryd.prog 40 #[.agg #[.int .i64 r.active, .int .i64 r.trial, .int .i64 r.tries, .int .i64 r.v0, .int .i64 r.v1]] (w.alloc (.cells (brL r) 40)) fun e w' => e = .returned (.bool (rightR r)) ∧ Below (w.alloc (.cells (brL r) 40)).heap.size (w.alloc (.cells (brL r) 40)) w') := rright9_any r _
  have HROK : Hid (rightR r = true → r.ok) := fun h => of_decide_eq_true h
  clear hK hD
  unfold brV
  unfold brL at *
  go_enter Tryd.func20, Tryd.ntmps20
  go_wp2_with fail
  refine HRG.out.mono ?_
  rintro e w2 ⟨rfl, hb2⟩
  rw [← hBx]
  have hE2 := hkE.below hb2 hkE.lt
  rw [← hBx] at hE2
  have hK2 := hKA.below hb2 hKA.lt
  have hD2 := hDA.after hb2
  have hc2 : Chg (kTR L g) w w2 := ((Chg.refl (kTR L g) w).alloc _).trans (Chg.of_below (S := kTR L g) hb2 (Nat.le_refl _)) (fun _ _ h => h)
  have d10 : w2.cell? ⟨g, 10, none⟩ = some (.bool k.br) := hK2.cell (j := 10) rfl
  have d2 : w2.cell? ⟨g, 2, none⟩ = some (.int .i64 (k.gen : Int)) := hK2.cell (j := 2) rfl
  have d8 : w2.cell? ⟨g, 8, none⟩ = some (.int .i64 (k.wh : Int)) := hK2.cell (j := 8) rfl
  have hBT : ¬ L.T Bx := fun h => by have := hTlt Bx h; omega
  have hBg : Bx ≠ g := by omega
  have hBw : w.heap.size ≤ Bx := by omega
  clear hkE hKA hDA hb2 HRG hbA hBx
  cases hbr : k.br with
  | true =>
    rw [hbr] at HSE d10
    rw [if_pos rfl] at HSE
    go_wp2
    go_ret
    rw [HSE.out]
    exact ⟨rfl, hK2, hD2, hc2⟩
  | false =>
  rw [hbr] at HSE d10
  rw [if_neg (by decide)] at HSE
  cases hrr : rightR r with
  | false =>
    rw [hrr] at HSE
    rw [if_pos rfl] at HSE
    go_wp2
    go_ret
    rw [HSE.out]
    exact ⟨rfl, hK2, hD2, hc2⟩
  | true =>
  have hrok := HROK.out hrr
  rw [hrr] at HSE
  rw [if_neg (by decide)] at HSE
  by_cases hmx : k.gen = 1073741824
  · rw [if_pos hmx] at HSE
    have hbx : (1073741824 : Int) ≤ (k.gen : Int) := by omega
    clear hmx hgen
    go_wp2
    go_ret
    rw [HSE.out]
    exact ⟨rfl, hK2, hD2, hc2⟩
  rw [if_neg hmx] at HSE
  have hbx : ¬ (1073741824 : Int) ≤ (k.gen : Int) := by omega
  have HG1 : Hid (k.gen + 1 ≤ 1073741824) := by show _ ≤ _; omega
  have HEN : Hid (∀ W, Calls Tryd.prog 43 #[.int .i64 ((k.gen + 1 : Nat) : Int), .agg #[.int .i64 r.active, .int .i64 r.trial, .int .i64 r.tries, .int .i64 r.v0, .int .i64 r.v1]] W fun e w' => ∃ v, e = .returned v ∧ Own w' W.heap.size v (entB (k.gen + 1) r) ∧ Below W.heap.size W w') := fun W => rentry9_any (k.gen + 1) r W HG1.out hrok
  clear hmx hgen hrok HROK
  have HFR : Hid (∀ W (I : Nat), Below w2.heap.size w2 W → I < 32 → Calls Tryd.prog 41 #[.pointer (some ⟨g, 0, none⟩), .int .i64 (k.wh : Int), .int .i64 (I : Int)] W fun e w' => e = .returned (.bool (freeC s (j + k.wh) I)) ∧ Below W.heap.size W w') := fun W I hW hI => rfree9_any L s g j k.wh I k W (hK2.below hW hK2.lt) (hD2.after hW) (by omega) hI
  have HPD : Hid (putD k j s r = match fndI (freeC s (j + k.wh)) k.la with
    | some i => progD k j r k.wh i s
    | none => if (eraseF s ((j : Int) + ((1 - k.wh : Nat) : Int))).1 ≠ 0 then ((eraseF s ((j : Int) + ((1 - k.wh : Nat) : Int))).1, k.broke, (eraseF s ((j : Int) + ((1 - k.wh : Nat) : Int))).2) else progD k j r (1 - k.wh) 0 (eraseF s ((j : Int) + ((1 - k.wh : Nat) : Int))).2) := rfl
  rw [← HSE.out] at HPD
  clear HSE
  have HTOP : Hid (fndI (freeC s (j + k.wh)) 31 = none) := fndI_top _
  have HSTEP : Hid (∀ I : Nat, I < 32 → fndI (freeC s (j + k.wh)) ((I : Int) - 1) = if freeC s (j + k.wh) I then some I else fndI (freeC s (j + k.wh)) (I : Int)) := fun I h => fndI_step _ I h
  generalize freeC s (j + k.wh) = FR at *
  clear hTlt hBw hbr hrr hglt
  obtain ⟨GI, hGI⟩ : ∃ GI : Int, (k.gen : Int) = GI := ⟨_, rfl⟩
  rw [hGI] at d2 hbx
  have HGI : Hid ((k.gen : Int) = GI) := hGI
  have hgb : decide ((1073741824 : Int) ≤ GI) = false := decide_eq_false hbx
  clear hGI hbx
  obtain ⟨LA, hLA⟩ : ∃ LA : Int, LA = k.la := ⟨_, rfl⟩
  have HLA : Hid (LA = k.la) := hLA
  rw [← hLA] at hla HPD
  clear hLA
  go_wp2_with fail
  go_loopw [7, 8] (fun av iv wr => ∃ z : Int, LA ≤ z ∧ z ≤ 31 ∧ iv = .int .i64 z ∧ av = .int .i64 (match fndI FR z with | none => -1 | some x => (x : Int)) ∧ Below w2.heap.size w2 wr) (fun _ iv _ => (intOf iv - LA).toNat)
  case atStart => exact ⟨31, hla.2, Int.le_refl _, rfl, by rw [HTOP.out], Below.refl _ _⟩
  case round =>
    obtain ⟨z, hz0, hz1, rfl, rfl, hB⟩ := hrel
    obtain ⟨w4, rfl⟩ : ∃ w4, w4 = wr := ⟨_, rfl⟩
    have hK4 := hK2.below hB hK2.lt
    have d9 : w4.cell? ⟨g, 9, none⟩ = some (.int .i64 LA) := by have := hK4.cell (j := 9) rfl; rw [HLA.out]; exact this
    by_cases hlt : LA < z
    · obtain ⟨I, hI⟩ : ∃ I : Nat, z = (I : Int) := ⟨z.toNat, by omega⟩
      subst hI
      have HC : Hid (Calls Tryd.prog 41 #[.pointer (some ⟨g, 0, none⟩), .int .i64 (k.wh : Int), .int .i64 (I : Int)] w4 fun e w' => e = .returned (.bool (FR I)) ∧ Below w4.heap.size w4 w') := HFR.out w4 I hB (by omega)
      have HS := HSTEP.out I (by omega)
      have HBB : Hid (∀ W, Below w4.heap.size w4 W → Below w2.heap.size w2 W) := fun W h => hB.trans (h.mono hB.size)
      cases hf : FR I with
      | true =>
        rw [hf, if_pos rfl] at HS
        rw [hf] at HC
        have HS' : Hid (fndI FR ((I : Int) - 1) = some I) := HS
        clear HS hf hK4
        go_wp2_with (go_at_call 41; refine HC.out.mono ?_; rintro e w3 ⟨rfl, hb3⟩)
        go_roundw
        case rel => exact ⟨(I : Int) - 1, by omega, by omega, by go_num, by rw [HS'.out], HBB.out _ hb3⟩
        case measure => simp [intOf]; omega
      | false =>
        rw [hf, if_neg (by decide)] at HS
        rw [hf] at HC
        have HS' : Hid (fndI FR ((I : Int) - 1) = fndI FR (I : Int)) := HS
        clear HS hf hK4
        go_wp2_with (go_at_call 41; refine HC.out.mono ?_; rintro e w3 ⟨rfl, hb3⟩)
        go_roundw
        case rel => exact ⟨(I : Int) - 1, by omega, by omega, by go_num, by rw [HS'.out], HBB.out _ hb3⟩
        case measure => simp [intOf]; omega
    have hze : z = LA := by omega
    subst hze
    have hE4 := hE2.below hB hE2.lt
    have HD4 : Hid (RFlash w4.drew L s) := (hD2.after hB).after (Below.refl _ _).drew
    have hc4 : Chg (kTR L g) w w4 := hc2.trans (Chg.of_below (S := kTR L g) hB (Nat.le_refl _)) (fun _ _ h => h)
    clear hK2 hE2 hD2 hc2 hB HFR HSTEP HTOP d10 d8 hz0 hz1 hgb d2
    cases hF : fndI FR z with
    | some ix =>
      rw [hF] at HPD
      have hix : ix < 32 := by have := List.mem_of_find?_eq_some hF; simpa using this
      have hnn : ¬ (ix : Int) < 0 := by omega
      obtain ⟨wn, hwn⟩ : ∃ wn, wn = k.wh := ⟨_, rfl⟩
      rw [← hwn] at HPD hw ⊢
      have HSX : Hid (SE = progD k j r wn ix s) := HPD.out
      clear HPD hF hwn
      obtain ⟨ET, hET⟩ : ∃ ET, ET = entB (k.gen + 1) r := ⟨_, rfl⟩
      rw [← hET] at HEN
      obtain ⟨PR, hPR⟩ : ∃ PR, PR = programF s (((j : Int) + (wn : Int)) * 1024 + (ix : Int) * 32) ET := ⟨_, rfl⟩
      have HPR : Hid (∀ W x, RFlash W L s → Seg W x ET → (0 < ET.length → ∀ q, x.ownBlock = some q → ¬ L.T q) → Calls Tryd.prog 16 #[.pointer (some ⟨L.g, 0, none⟩), .int .i64 (((j : Int) + (wn : Int)) * 1024 + (ix : Int) * 32), x] W fun e w' => e = .returned (.int .i64 PR.1) ∧ RFlash w' L PR.2 ∧ Chg L.T W w') := fun W x h1 h2 h3 => by rw [hPR]; exact ref6Program_any L s _ x ET W h1 h2 h3
      have HSD : Hid (SE = if PR.1 ≠ 0 then (PR.1, k.broke, PR.2) else (0, ⟨k.gen + 1, r, wn, (ix : Int), k.br⟩, PR.2)) := by show _ = _; rw [HSX.out, hPR, hET]; rfl
      clear hET hPR HSX
      go_upto_region 22 with fail
      have hU0 : Blk w4.drew g 50 (kpR L j k) ∧ Blk w4.drew Bx 40 #[.int .i64 r.active, .int .i64 r.trial, .int .i64 r.tries, .int .i64 r.v0, .int .i64 r.v1] := ⟨hK4.drew, hE4.drew⟩
      refine held_begin (fun V => Blk V g 50 (kpR L j k) ∧ Blk V Bx 40 #[.int .i64 r.active, .int .i64 r.trial, .int .i64 r.tries, .int .i64 r.v0, .int .i64 r.v1]) (by kernel_rfl) ?_
      refine held_take 0 66 _ (.pointer (some ⟨g, 0, none⟩)) rfl rfl (by kernel_rfl) (by kernel_rfl) (by kernel_rfl) rfl hU0 (fun _ _ => rfl) ?_
      simp only [Act.put, List.setIfInBounds_toArray, List.set_cons_succ, List.set_cons_zero]
      refine held_take 1 67 _ (.pointer (some ⟨g, 0, none⟩)) rfl rfl (by kernel_rfl) (by kernel_rfl) (by kernel_rfl) rfl hU0 (fun _ _ => rfl) ?_
      simp only [Act.put, List.setIfInBounds_toArray, List.set_cons_succ, List.set_cons_zero]
      refine held_take 2 68 _ (.pointer (some ⟨g, 0, none⟩)) rfl rfl (by kernel_rfl) (by kernel_rfl) (by kernel_rfl) rfl hU0 (fun _ _ => rfl) ?_
      simp only [Act.put, List.setIfInBounds_toArray, List.set_cons_succ, List.set_cons_zero]
      refine held_take 3 69 _ (.pointer (some ⟨L.g, 0, none⟩)) rfl rfl (by kernel_rfl) (by kernel_rfl) (by kernel_rfl) rfl hU0 (fun V hV => exec_loadc 29 _ rfl _ _ rfl (load_one 29 (fun _ => by kernel_rfl) V _ _ _ (hV.1.cell (j := 0) rfl))) ?_
      simp only [Act.put, List.setIfInBounds_toArray, List.set_cons_succ, List.set_cons_zero]
      refine held_take 4 70 _ (.pointer (some ⟨g, 0, none⟩)) rfl rfl (by kernel_rfl) (by kernel_rfl) (by kernel_rfl) rfl hU0 (fun _ _ => rfl) ?_
      simp only [Act.put, List.setIfInBounds_toArray, List.set_cons_succ, List.set_cons_zero]
      refine held_take 5 71 _ (.pointer (some ⟨g, 0, none⟩)) rfl rfl (by kernel_rfl) (by kernel_rfl) (by kernel_rfl) rfl hU0 (fun _ _ => rfl) ?_
      simp only [Act.put, List.setIfInBounds_toArray, List.set_cons_succ, List.set_cons_zero]
      refine held_take 6 72 _ (.pointer (some ⟨g, 1, none⟩)) rfl rfl (by kernel_rfl) (by kernel_rfl) (by kernel_rfl) rfl hU0 (fun _ _ => rfl) ?_
      simp only [Act.put, List.setIfInBounds_toArray, List.set_cons_succ, List.set_cons_zero]
      refine held_take 7 73 _ (.int .i64 (j : Int)) rfl rfl (by kernel_rfl) (by kernel_rfl) (by kernel_rfl) rfl hU0 (fun V hV => exec_loadc 3 _ rfl _ _ rfl (load_one 3 (fun _ => by kernel_rfl) V _ _ _ (hV.1.cell (j := 1) rfl))) ?_
      simp only [Act.put, List.setIfInBounds_toArray, List.set_cons_succ, List.set_cons_zero]
      refine held_take 8 74 _ (.int .i64 (wn : Int)) rfl rfl (by kernel_rfl) (by kernel_rfl) (by kernel_rfl) rfl hU0 (fun _ _ => rfl) ?_
      simp only [Act.put, List.setIfInBounds_toArray, List.set_cons_succ, List.set_cons_zero]
      refine held_take 9 75 _ (.int .i64 ((j : Int) + (wn : Int))) rfl rfl (by kernel_rfl) (by kernel_rfl) (by kernel_rfl) rfl hU0 (fun V _ => exec_add9 3 _ _ rfl (j : Int) (wn : Int) rfl rfl (by omega) (by omega)) ?_
      simp only [Act.put, List.setIfInBounds_toArray, List.set_cons_succ, List.set_cons_zero]
      refine held_take 10 76 _ (.int .i64 (((j : Int) + (wn : Int)) * 1024)) rfl rfl (by kernel_rfl) (by kernel_rfl) (by kernel_rfl) rfl hU0 (fun V _ => exec_mul9 3 _ _ rfl ((j : Int) + (wn : Int)) 1024 rfl rfl (by omega) (by omega)) ?_
      simp only [Act.put, List.setIfInBounds_toArray, List.set_cons_succ, List.set_cons_zero]
      refine held_take 11 77 _ (.int .i64 (ix : Int)) rfl rfl (by kernel_rfl) (by kernel_rfl) (by kernel_rfl) rfl hU0 (fun _ _ => rfl) ?_
      simp only [Act.put, List.setIfInBounds_toArray, List.set_cons_succ, List.set_cons_zero]
      refine held_take 12 78 _ (.int .i64 ((ix : Int) * 32)) rfl rfl (by kernel_rfl) (by kernel_rfl) (by kernel_rfl) rfl hU0 (fun V _ => exec_mul9 3 _ _ rfl (ix : Int) 32 rfl rfl (by omega) (by omega)) ?_
      simp only [Act.put, List.setIfInBounds_toArray, List.set_cons_succ, List.set_cons_zero]
      refine held_take 13 79 _ (.int .i64 (((j : Int) + (wn : Int)) * 1024 + (ix : Int) * 32)) rfl rfl (by kernel_rfl) (by kernel_rfl) (by kernel_rfl) rfl hU0 (fun V _ => exec_add9 3 _ _ rfl (((j : Int) + (wn : Int)) * 1024) ((ix : Int) * 32) rfl rfl (by omega) (by omega)) ?_
      simp only [Act.put, List.setIfInBounds_toArray, List.set_cons_succ, List.set_cons_zero]
      refine held_take 14 80 _ (.pointer (some ⟨g, 0, none⟩)) rfl rfl (by kernel_rfl) (by kernel_rfl) (by kernel_rfl) rfl hU0 (fun _ _ => rfl) ?_
      simp only [Act.put, List.setIfInBounds_toArray, List.set_cons_succ, List.set_cons_zero]
      refine held_take 15 81 _ (.pointer (some ⟨g, 0, none⟩)) rfl rfl (by kernel_rfl) (by kernel_rfl) (by kernel_rfl) rfl hU0 (fun _ _ => rfl) ?_
      simp only [Act.put, List.setIfInBounds_toArray, List.set_cons_succ, List.set_cons_zero]
      refine held_take 16 82 _ (.pointer (some ⟨g, 2, none⟩)) rfl rfl (by kernel_rfl) (by kernel_rfl) (by kernel_rfl) rfl hU0 (fun _ _ => rfl) ?_
      simp only [Act.put, List.setIfInBounds_toArray, List.set_cons_succ, List.set_cons_zero]
      refine held_take 17 83 _ (.int .i64 (k.gen : Int)) rfl rfl (by kernel_rfl) (by kernel_rfl) (by kernel_rfl) rfl hU0 (fun V hV => exec_loadc 3 _ rfl _ _ rfl (load_one 3 (fun _ => by kernel_rfl) V _ _ _ (hV.1.cell (j := 2) rfl))) ?_
      simp only [Act.put, List.setIfInBounds_toArray, List.set_cons_succ, List.set_cons_zero]
      refine held_take 18 84 _ (.int .i64 ((k.gen + 1 : Nat) : Int)) rfl rfl (by kernel_rfl) (by kernel_rfl) (by kernel_rfl) rfl hU0 (fun V _ => exec_add9n 3 _ _ rfl k.gen 1 rfl rfl (by have := HG1.out; omega)) ?_
      simp only [Act.put, List.setIfInBounds_toArray, List.set_cons_succ, List.set_cons_zero]
      refine held_take 19 85 _ (.agg #[.int .i64 r.active, .int .i64 r.trial, .int .i64 r.tries, .int .i64 r.v0, .int .i64 r.v1]) rfl rfl (by kernel_rfl) (by kernel_rfl) (by kernel_rfl) rfl hU0 (fun V hV => exec_loads 40 _ rfl Bx 0 rfl [.int .i64 r.active, .int .i64 r.trial, .int .i64 r.tries, .int .i64 r.v0, .int .i64 r.v1] _ hV.2.range' Tryd.underlying40 rfl info_boot9) ?_
      simp only [Act.put, List.setIfInBounds_toArray, List.set_cons_succ, List.set_cons_zero]
      refine held_all1 20 (by kernel_rfl) (op_call 20 86 _ 43 #[.int .i64 ((k.gen + 1 : Nat) : Int), .agg #[.int .i64 r.active, .int .i64 r.trial, .int .i64 r.tries, .int .i64 r.v0, .int .i64 r.v1]] rfl rfl rfl (exec_two8 43 _ _ _ rfl _ _ rfl rfl Tryd.call43) ((HEN.out _).mono ?_))
      rintro e w6 ⟨v6, rfl, ho6, hb6⟩
      have hK6 : Blk w6 g 50 (kpR L j k) := hK4.drew.below hb6 hK4.drew.lt
      have hE6 : Blk w6 Bx 40 #[.int .i64 r.active, .int .i64 r.trial, .int .i64 r.tries, .int .i64 r.v0, .int .i64 r.v1] := hE4.drew.below hb6 hE4.drew.lt
      have hD6 := HD4.out.after hb6
      have hc6 : Chg (kTR L g) w w6 := hc4.drew.trans (Chg.of_below (S := kTR L g) hb6 (Nat.le_refl _)) (fun _ _ h => h)
      have hx6 : 0 < ET.length → ∀ q, v6.ownBlock = some q → ¬ L.T q := fun _ q hq ht => by have h1 := (ho6.blocks q hq).1; have h2 := HD4.out.lt q ht; exact absurd h2 (by simpa using h1)
      refine ⟨_, rfl, ⟨hK6, hE6⟩, ?_⟩
      simp only [Act.put, List.setIfInBounds_toArray, List.set_cons_succ, List.set_cons_zero]
      refine held_all1 21 (by kernel_rfl) (op_call 21 87 _ 16 #[.pointer (some ⟨L.g, 0, none⟩), .int .i64 (((j : Int) + (wn : Int)) * 1024 + (ix : Int) * 32), v6] rfl rfl rfl (exec_three8 16 _ _ _ _ rfl _ _ _ rfl rfl rfl Tryd.call16) ((HPR.out _ v6 hD6 ho6.seg hx6).mono ?_))
      rintro e w7 ⟨rfl, hD7, hc7⟩
      have hK7 : Blk w7 g 50 (kpR L j k) := hK6.chg hc7 hgT
      have hE7 : Blk w7 Bx 40 #[.int .i64 r.active, .int .i64 r.trial, .int .i64 r.tries, .int .i64 r.v0, .int .i64 r.v1] := hE6.chg hc7 hBT
      have hc07 : Chg (kTR L g) w w7 := hc6.trans hc7 (fun _ _ h => .inl h)
      refine ⟨_, rfl, ⟨hK7, hE7⟩, ?_⟩
      simp only [Act.put, List.setIfInBounds_toArray, List.set_cons_succ, List.set_cons_zero]
      refine held_all1 22 (by kernel_rfl) (op_value 22 11 _ (.int .i64 PR.1) w7 rfl rfl rfl rfl ⟨⟨hK7, hE7⟩, ?_⟩)
      simp only [Act.put, List.setIfInBounds_toArray, List.set_cons_succ, List.set_cons_zero]
      refine wpAnyH_done (by kernel_rfl) ?_ _
      refine NoPanic.normal ?_
      have d7 : w7.cell? ⟨g, 2, none⟩ = some (.int .i64 (k.gen : Int)) := hK7.cell (j := 2) rfl
      have z7 := hK7.frozen 2
      by_cases hp0 : PR.1 = 0
      · have HSE : Hid (SE = (0, ⟨k.gen + 1, r, wn, (ix : Int), k.br⟩, PR.2)) := by show _ = _; rw [HSD.out]; exact if_neg (fun h => h hp0)
        have hpb : (PR.1 != 0) = false := by rw [hp0]; rfl
        have hwg : IntKind.i64.wrap ((k.gen : Int) + 1) = (k.gen : Int) + 1 := by rw [IntKind.wrap_i64]; have := HG1.out; omega
        clear hp0
        go_upto_region 26 with fail
        have hK8 : Blk (w7.setCell ⟨g, 2, none⟩ (.int .i64 ((k.gen : Int) + 1))) g 50 #[.pointer (some ⟨L.g, 0, none⟩), .int .i64 (j : Int), .int .i64 ((k.gen : Int) + 1), .int .i64 k.r.active, .int .i64 k.r.trial, .int .i64 k.r.tries, .int .i64 k.r.v0, .int .i64 k.r.v1, .int .i64 (k.wh : Int), .int .i64 k.la, .bool k.br] := hK7.set 2 _
        have hE8 := hE7.setOther ⟨g, 2, none⟩ (.int .i64 ((k.gen : Int) + 1)) hBg
        have hc8 : Chg (fun b => b = g) w7 (w7.setCell ⟨g, 2, none⟩ (.int .i64 ((k.gen : Int) + 1))) := (Chg.refl (fun b => b = g) w7).setCell g 2 _ (fun _ => rfl)
        generalize w7.setCell ⟨g, 2, none⟩ (.int .i64 ((k.gen : Int) + 1)) = w8 at hK8 hE8 hc8 ⊢
        have f0 : w8.cell? ⟨Bx, 0, none⟩ = some (.int .i64 r.active) := hE8.cell (j := 0) rfl
        have f1 : w8.cell? ⟨Bx, 1, none⟩ = some (.int .i64 r.trial) := hE8.cell (j := 1) rfl
        have f2 : w8.cell? ⟨Bx, 2, none⟩ = some (.int .i64 r.tries) := hE8.cell (j := 2) rfl
        have f3 : w8.cell? ⟨Bx, 3, none⟩ = some (.int .i64 r.v0) := hE8.cell (j := 3) rfl
        have f4 : w8.cell? ⟨Bx, 4, none⟩ = some (.int .i64 r.v1) := hE8.cell (j := 4) rfl
        clear d7 z7
        go_wp2_with (refine store_mid9 rfl 40 _ _ rfl rfl g 3 #[.int .i64 r.active, .int .i64 r.trial, .int .i64 r.tries, .int .i64 r.v0, .int .i64 r.v1] rfl rfl 50 _ #[.pointer (some ⟨L.g, 0, none⟩), .int .i64 (j : Int), .int .i64 ((k.gen : Int) + 1), .int .i64 r.active, .int .i64 r.trial, .int .i64 r.tries, .int .i64 r.v0, .int .i64 r.v1, .int .i64 (k.wh : Int), .int .i64 k.la, .bool k.br] hK8 info_boot9 (by show 8 ≤ 11; decide) (by simp [Value.oneCell']) (by simp [splice]) ?_; intro w9 hK9 hg9; have x8 : w9.cell? ⟨g, 8, none⟩ = some (.int .i64 (k.wh : Int)) := hK9.cell (j := 8) rfl; have x9 : w9.cell? ⟨g, 9, none⟩ = some (.int .i64 k.la) := hK9.cell (j := 9) rfl; have z8 := hK9.frozen 8; have z9 := hK9.frozen 9; clear f0 f1 f2 f3 f4)
        go_ret
        rw [HSE.out]
        have hc9 : Chg (fun b => b = g) w7 ((w9.setCell ⟨g, 8, none⟩ (.int .i64 (wn : Int))).setCell ⟨g, 9, none⟩ (.int .i64 (ix : Int))) := ((hc8.trans (Chg.of_grown (S := fun b => b = g) hg9 (fun q h => (Option.some.inj h).symm)) (fun _ _ h => h)).setCell g 8 _ (fun _ => rfl)).setCell g 9 _ (fun _ => rfl)
        exact ⟨rfl, (((hK9.set 8 _).set 9 _).of_eq (by simp [kpR])), hD7.chg hc9 (fun q hq h => hgT (h ▸ hq)), hc07.trans hc9 (fun _ _ h => .inr h)⟩
      · have HSE : Hid (SE = (PR.1, k.broke, PR.2)) := by show _ = _; rw [HSD.out]; exact if_pos hp0
        have hpb : (PR.1 != 0) = true := by simpa using hp0
        clear hp0
        go_wp2_with (go_at_call 42; refine (rbroke9_any L g j k PR.1 w7 hK7).mono ?_; rintro e w8 ⟨rfl, hK8, hc8⟩)
        go_ret
        rw [HSE.out]
        exact ⟨rfl, hK8, hD7.chg hc8 (fun q hq h => hgT (h ▸ hq)), hc07.trans hc8 (fun _ _ h => .inr h)⟩
    | none =>
      rw [hF] at HPD
      have hnn : ((-1 : Int)) < 0 := by omega
      obtain ⟨wn, hwn⟩ : ∃ wn, wn = 1 - k.wh := ⟨_, rfl⟩
      have hw1 : (1 : Int) - (k.wh : Int) = (wn : Int) := by omega
      have hwl : wn ≤ 1 := by omega
      obtain ⟨ER, hER⟩ : ∃ ER, ER = eraseF s ((j : Int) + (wn : Int)) := ⟨_, rfl⟩
      have HPE : Hid (SE = if ER.1 ≠ 0 then (ER.1, k.broke, ER.2) else progD k j r wn 0 ER.2) := by show _ = _; rw [HPD.out, hER, hwn]
      have HER : Hid (∀ W, RFlash W L s → Calls Tryd.prog 18 #[.pointer (some ⟨L.g, 0, none⟩), .int .i64 ((j : Int) + (wn : Int))] W fun e w' => e = .returned (.int .i64 ER.1) ∧ RFlash w' L ER.2 ∧ Chg L.T W w') := fun W h => by rw [hER]; exact ref6Erase_any L s _ W h
      have hww : IntKind.i64.wrap (1 - (k.wh : Int)) = (wn : Int) := by rw [IntKind.wrap_i64]; omega
      have HW1 : Hid ((1 : Int) - (k.wh : Int) = (wn : Int)) := hw1
      clear HPD hF hwn hER hw1
      go_upto_region 19 with fail
      (try rw [HW1.out])
      clear hww HW1 hw
      have hS0 : Blk w4.drew g 50 (kpR L j k) ∧ Blk w4.drew Bx 40 #[.int .i64 r.active, .int .i64 r.trial, .int .i64 r.tries, .int .i64 r.v0, .int .i64 r.v1] := ⟨hK4.drew, hE4.drew⟩
      refine held_begin (fun V => Blk V g 50 (kpR L j k) ∧ Blk V Bx 40 #[.int .i64 r.active, .int .i64 r.trial, .int .i64 r.tries, .int .i64 r.v0, .int .i64 r.v1]) (by kernel_rfl) ?_
      refine held_take 0 50 _ (.pointer (some ⟨g, 0, none⟩)) rfl rfl (by kernel_rfl) (by kernel_rfl) (by kernel_rfl) rfl hS0 (fun _ _ => rfl) ?_
      simp only [Act.put, List.setIfInBounds_toArray, List.set_cons_succ, List.set_cons_zero]
      refine held_take 1 51 _ (.pointer (some ⟨g, 0, none⟩)) rfl rfl (by kernel_rfl) (by kernel_rfl) (by kernel_rfl) rfl hS0 (fun _ _ => rfl) ?_
      simp only [Act.put, List.setIfInBounds_toArray, List.set_cons_succ, List.set_cons_zero]
      refine held_take 2 52 _ (.pointer (some ⟨g, 0, none⟩)) rfl rfl (by kernel_rfl) (by kernel_rfl) (by kernel_rfl) rfl hS0 (fun _ _ => rfl) ?_
      simp only [Act.put, List.setIfInBounds_toArray, List.set_cons_succ, List.set_cons_zero]
      refine held_take 3 53 _ (.pointer (some ⟨L.g, 0, none⟩)) rfl rfl (by kernel_rfl) (by kernel_rfl) (by kernel_rfl) rfl hS0 (fun V hV => exec_loadc 29 _ rfl _ _ rfl (load_one 29 (fun _ => by kernel_rfl) V _ _ _ (hV.1.cell (j := 0) rfl))) ?_
      simp only [Act.put, List.setIfInBounds_toArray, List.set_cons_succ, List.set_cons_zero]
      refine held_take 4 54 _ (.pointer (some ⟨g, 0, none⟩)) rfl rfl (by kernel_rfl) (by kernel_rfl) (by kernel_rfl) rfl hS0 (fun _ _ => rfl) ?_
      simp only [Act.put, List.setIfInBounds_toArray, List.set_cons_succ, List.set_cons_zero]
      refine held_take 5 55 _ (.pointer (some ⟨g, 0, none⟩)) rfl rfl (by kernel_rfl) (by kernel_rfl) (by kernel_rfl) rfl hS0 (fun _ _ => rfl) ?_
      simp only [Act.put, List.setIfInBounds_toArray, List.set_cons_succ, List.set_cons_zero]
      refine held_take 6 56 _ (.pointer (some ⟨g, 1, none⟩)) rfl rfl (by kernel_rfl) (by kernel_rfl) (by kernel_rfl) rfl hS0 (fun _ _ => rfl) ?_
      simp only [Act.put, List.setIfInBounds_toArray, List.set_cons_succ, List.set_cons_zero]
      refine held_take 7 57 _ (.int .i64 (j : Int)) rfl rfl (by kernel_rfl) (by kernel_rfl) (by kernel_rfl) rfl hS0 (fun V hV => exec_loadc 3 _ rfl _ _ rfl (load_one 3 (fun _ => by kernel_rfl) V _ _ _ (hV.1.cell (j := 1) rfl))) ?_
      simp only [Act.put, List.setIfInBounds_toArray, List.set_cons_succ, List.set_cons_zero]
      refine held_take 8 58 _ (.int .i64 (wn : Int)) rfl rfl (by kernel_rfl) (by kernel_rfl) (by kernel_rfl) rfl hS0 (fun _ _ => rfl) ?_
      simp only [Act.put, List.setIfInBounds_toArray, List.set_cons_succ, List.set_cons_zero]
      refine held_take 9 59 _ (.int .i64 ((j : Int) + (wn : Int))) rfl rfl (by kernel_rfl) (by kernel_rfl) (by kernel_rfl) rfl hS0 (fun V _ => exec_add9 3 _ _ rfl (j : Int) (wn : Int) rfl rfl (by omega) (by omega)) ?_
      simp only [Act.put, List.setIfInBounds_toArray, List.set_cons_succ, List.set_cons_zero]
      refine held_all1 10 (by kernel_rfl) (op_call 10 60 _ 18 #[.pointer (some ⟨L.g, 0, none⟩), .int .i64 ((j : Int) + (wn : Int))] rfl rfl rfl (exec_two8 18 _ _ _ rfl _ _ rfl rfl Tryd.call18) ((HER.out _ HD4.out).mono ?_))
      rintro e w5 ⟨rfl, hD5, hc5⟩
      have hK5 : Blk w5 g 50 (kpR L j k) := hK4.drew.chg hc5 hgT
      have hE5 : Blk w5 Bx 40 #[.int .i64 r.active, .int .i64 r.trial, .int .i64 r.tries, .int .i64 r.v0, .int .i64 r.v1] := hE4.drew.chg hc5 hBT
      have hc05 : Chg (kTR L g) w w5 := hc4.drew.trans hc5 (fun _ _ h => .inl h)
      refine ⟨_, rfl, ⟨hK5, hE5⟩, ?_⟩
      simp only [Act.put, List.setIfInBounds_toArray, List.set_cons_succ, List.set_cons_zero]
      refine held_all1 11 (by kernel_rfl) (op_value 11 10 _ (.int .i64 ER.1) w5 rfl rfl rfl rfl ⟨⟨hK5, hE5⟩, ?_⟩)
      simp only [Act.put, List.setIfInBounds_toArray, List.set_cons_succ, List.set_cons_zero]
      refine wpAnyH_done (by kernel_rfl) ?_ _
      refine NoPanic.normal ?_
      have HD5 : Hid (RFlash w5.drew L ER.2) := hD5.after (Below.refl _ _).drew
      by_cases he0 : ER.1 = 0
      · have HSX : Hid (SE = progD k j r wn 0 ER.2) := by show _ = _; rw [HPE.out]; exact if_neg (fun h => h he0)
        have heb : (ER.1 != 0) = false := by rw [he0]; rfl
        clear HPE he0
        obtain ⟨ET, hET⟩ : ∃ ET, ET = entB (k.gen + 1) r := ⟨_, rfl⟩
        rw [← hET] at HEN
        obtain ⟨PR, hPR⟩ : ∃ PR, PR = programF ER.2 (((j : Int) + (wn : Int)) * 1024 + 0 * 32) ET := ⟨_, rfl⟩
        have HPR : Hid (∀ W x, RFlash W L ER.2 → Seg W x ET → (0 < ET.length → ∀ q, x.ownBlock = some q → ¬ L.T q) → Calls Tryd.prog 16 #[.pointer (some ⟨L.g, 0, none⟩), .int .i64 (((j : Int) + (wn : Int)) * 1024 + 0 * 32), x] W fun e w' => e = .returned (.int .i64 PR.1) ∧ RFlash w' L PR.2 ∧ Chg L.T W w') := fun W x h1 h2 h3 => by rw [hPR]; exact ref6Program_any L ER.2 _ x ET W h1 h2 h3
        have HSD : Hid (SE = if PR.1 ≠ 0 then (PR.1, k.broke, PR.2) else (0, ⟨k.gen + 1, r, wn, 0, k.br⟩, PR.2)) := by show _ = _; rw [HSX.out, hPR, hET]; rfl
        clear hET hPR HSX
        go_upto_region 22 with fail
        have hU0 : Blk w5.drew g 50 (kpR L j k) ∧ Blk w5.drew Bx 40 #[.int .i64 r.active, .int .i64 r.trial, .int .i64 r.tries, .int .i64 r.v0, .int .i64 r.v1] := ⟨hK5.drew, hE5.drew⟩
        refine held_begin (fun V => Blk V g 50 (kpR L j k) ∧ Blk V Bx 40 #[.int .i64 r.active, .int .i64 r.trial, .int .i64 r.tries, .int .i64 r.v0, .int .i64 r.v1]) (by kernel_rfl) ?_
        refine held_take 0 66 _ (.pointer (some ⟨g, 0, none⟩)) rfl rfl (by kernel_rfl) (by kernel_rfl) (by kernel_rfl) rfl hU0 (fun _ _ => rfl) ?_
        simp only [Act.put, List.setIfInBounds_toArray, List.set_cons_succ, List.set_cons_zero]
        refine held_take 1 67 _ (.pointer (some ⟨g, 0, none⟩)) rfl rfl (by kernel_rfl) (by kernel_rfl) (by kernel_rfl) rfl hU0 (fun _ _ => rfl) ?_
        simp only [Act.put, List.setIfInBounds_toArray, List.set_cons_succ, List.set_cons_zero]
        refine held_take 2 68 _ (.pointer (some ⟨g, 0, none⟩)) rfl rfl (by kernel_rfl) (by kernel_rfl) (by kernel_rfl) rfl hU0 (fun _ _ => rfl) ?_
        simp only [Act.put, List.setIfInBounds_toArray, List.set_cons_succ, List.set_cons_zero]
        refine held_take 3 69 _ (.pointer (some ⟨L.g, 0, none⟩)) rfl rfl (by kernel_rfl) (by kernel_rfl) (by kernel_rfl) rfl hU0 (fun V hV => exec_loadc 29 _ rfl _ _ rfl (load_one 29 (fun _ => by kernel_rfl) V _ _ _ (hV.1.cell (j := 0) rfl))) ?_
        simp only [Act.put, List.setIfInBounds_toArray, List.set_cons_succ, List.set_cons_zero]
        refine held_take 4 70 _ (.pointer (some ⟨g, 0, none⟩)) rfl rfl (by kernel_rfl) (by kernel_rfl) (by kernel_rfl) rfl hU0 (fun _ _ => rfl) ?_
        simp only [Act.put, List.setIfInBounds_toArray, List.set_cons_succ, List.set_cons_zero]
        refine held_take 5 71 _ (.pointer (some ⟨g, 0, none⟩)) rfl rfl (by kernel_rfl) (by kernel_rfl) (by kernel_rfl) rfl hU0 (fun _ _ => rfl) ?_
        simp only [Act.put, List.setIfInBounds_toArray, List.set_cons_succ, List.set_cons_zero]
        refine held_take 6 72 _ (.pointer (some ⟨g, 1, none⟩)) rfl rfl (by kernel_rfl) (by kernel_rfl) (by kernel_rfl) rfl hU0 (fun _ _ => rfl) ?_
        simp only [Act.put, List.setIfInBounds_toArray, List.set_cons_succ, List.set_cons_zero]
        refine held_take 7 73 _ (.int .i64 (j : Int)) rfl rfl (by kernel_rfl) (by kernel_rfl) (by kernel_rfl) rfl hU0 (fun V hV => exec_loadc 3 _ rfl _ _ rfl (load_one 3 (fun _ => by kernel_rfl) V _ _ _ (hV.1.cell (j := 1) rfl))) ?_
        simp only [Act.put, List.setIfInBounds_toArray, List.set_cons_succ, List.set_cons_zero]
        refine held_take 8 74 _ (.int .i64 (wn : Int)) rfl rfl (by kernel_rfl) (by kernel_rfl) (by kernel_rfl) rfl hU0 (fun _ _ => rfl) ?_
        simp only [Act.put, List.setIfInBounds_toArray, List.set_cons_succ, List.set_cons_zero]
        refine held_take 9 75 _ (.int .i64 ((j : Int) + (wn : Int))) rfl rfl (by kernel_rfl) (by kernel_rfl) (by kernel_rfl) rfl hU0 (fun V _ => exec_add9 3 _ _ rfl (j : Int) (wn : Int) rfl rfl (by omega) (by omega)) ?_
        simp only [Act.put, List.setIfInBounds_toArray, List.set_cons_succ, List.set_cons_zero]
        refine held_take 10 76 _ (.int .i64 (((j : Int) + (wn : Int)) * 1024)) rfl rfl (by kernel_rfl) (by kernel_rfl) (by kernel_rfl) rfl hU0 (fun V _ => exec_mul9 3 _ _ rfl ((j : Int) + (wn : Int)) 1024 rfl rfl (by omega) (by omega)) ?_
        simp only [Act.put, List.setIfInBounds_toArray, List.set_cons_succ, List.set_cons_zero]
        refine held_take 11 77 _ (.int .i64 0) rfl rfl (by kernel_rfl) (by kernel_rfl) (by kernel_rfl) rfl hU0 (fun _ _ => rfl) ?_
        simp only [Act.put, List.setIfInBounds_toArray, List.set_cons_succ, List.set_cons_zero]
        refine held_take 12 78 _ (.int .i64 (0 * 32)) rfl rfl (by kernel_rfl) (by kernel_rfl) (by kernel_rfl) rfl hU0 (fun V _ => exec_mul9 3 _ _ rfl 0 32 rfl rfl (by omega) (by omega)) ?_
        simp only [Act.put, List.setIfInBounds_toArray, List.set_cons_succ, List.set_cons_zero]
        refine held_take 13 79 _ (.int .i64 (((j : Int) + (wn : Int)) * 1024 + 0 * 32)) rfl rfl (by kernel_rfl) (by kernel_rfl) (by kernel_rfl) rfl hU0 (fun V _ => exec_add9 3 _ _ rfl (((j : Int) + (wn : Int)) * 1024) (0 * 32) rfl rfl (by omega) (by omega)) ?_
        simp only [Act.put, List.setIfInBounds_toArray, List.set_cons_succ, List.set_cons_zero]
        refine held_take 14 80 _ (.pointer (some ⟨g, 0, none⟩)) rfl rfl (by kernel_rfl) (by kernel_rfl) (by kernel_rfl) rfl hU0 (fun _ _ => rfl) ?_
        simp only [Act.put, List.setIfInBounds_toArray, List.set_cons_succ, List.set_cons_zero]
        refine held_take 15 81 _ (.pointer (some ⟨g, 0, none⟩)) rfl rfl (by kernel_rfl) (by kernel_rfl) (by kernel_rfl) rfl hU0 (fun _ _ => rfl) ?_
        simp only [Act.put, List.setIfInBounds_toArray, List.set_cons_succ, List.set_cons_zero]
        refine held_take 16 82 _ (.pointer (some ⟨g, 2, none⟩)) rfl rfl (by kernel_rfl) (by kernel_rfl) (by kernel_rfl) rfl hU0 (fun _ _ => rfl) ?_
        simp only [Act.put, List.setIfInBounds_toArray, List.set_cons_succ, List.set_cons_zero]
        refine held_take 17 83 _ (.int .i64 (k.gen : Int)) rfl rfl (by kernel_rfl) (by kernel_rfl) (by kernel_rfl) rfl hU0 (fun V hV => exec_loadc 3 _ rfl _ _ rfl (load_one 3 (fun _ => by kernel_rfl) V _ _ _ (hV.1.cell (j := 2) rfl))) ?_
        simp only [Act.put, List.setIfInBounds_toArray, List.set_cons_succ, List.set_cons_zero]
        refine held_take 18 84 _ (.int .i64 ((k.gen + 1 : Nat) : Int)) rfl rfl (by kernel_rfl) (by kernel_rfl) (by kernel_rfl) rfl hU0 (fun V _ => exec_add9n 3 _ _ rfl k.gen 1 rfl rfl (by have := HG1.out; omega)) ?_
        simp only [Act.put, List.setIfInBounds_toArray, List.set_cons_succ, List.set_cons_zero]
        refine held_take 19 85 _ (.agg #[.int .i64 r.active, .int .i64 r.trial, .int .i64 r.tries, .int .i64 r.v0, .int .i64 r.v1]) rfl rfl (by kernel_rfl) (by kernel_rfl) (by kernel_rfl) rfl hU0 (fun V hV => exec_loads 40 _ rfl Bx 0 rfl [.int .i64 r.active, .int .i64 r.trial, .int .i64 r.tries, .int .i64 r.v0, .int .i64 r.v1] _ hV.2.range' Tryd.underlying40 rfl info_boot9) ?_
        simp only [Act.put, List.setIfInBounds_toArray, List.set_cons_succ, List.set_cons_zero]
        refine held_all1 20 (by kernel_rfl) (op_call 20 86 _ 43 #[.int .i64 ((k.gen + 1 : Nat) : Int), .agg #[.int .i64 r.active, .int .i64 r.trial, .int .i64 r.tries, .int .i64 r.v0, .int .i64 r.v1]] rfl rfl rfl (exec_two8 43 _ _ _ rfl _ _ rfl rfl Tryd.call43) ((HEN.out _).mono ?_))
        rintro e w6 ⟨v6, rfl, ho6, hb6⟩
        have hK6 : Blk w6 g 50 (kpR L j k) := hK5.drew.below hb6 hK5.drew.lt
        have hE6 : Blk w6 Bx 40 #[.int .i64 r.active, .int .i64 r.trial, .int .i64 r.tries, .int .i64 r.v0, .int .i64 r.v1] := hE5.drew.below hb6 hE5.drew.lt
        have hD6 := HD5.out.after hb6
        have hc6 : Chg (kTR L g) w w6 := hc05.drew.trans (Chg.of_below (S := kTR L g) hb6 (Nat.le_refl _)) (fun _ _ h => h)
        have hx6 : 0 < ET.length → ∀ q, v6.ownBlock = some q → ¬ L.T q := fun _ q hq ht => by have h1 := (ho6.blocks q hq).1; have h2 := HD5.out.lt q ht; exact absurd h2 (by simpa using h1)
        refine ⟨_, rfl, ⟨hK6, hE6⟩, ?_⟩
        simp only [Act.put, List.setIfInBounds_toArray, List.set_cons_succ, List.set_cons_zero]
        refine held_all1 21 (by kernel_rfl) (op_call 21 87 _ 16 #[.pointer (some ⟨L.g, 0, none⟩), .int .i64 (((j : Int) + (wn : Int)) * 1024 + 0 * 32), v6] rfl rfl rfl (exec_three8 16 _ _ _ _ rfl _ _ _ rfl rfl rfl Tryd.call16) ((HPR.out _ v6 hD6 ho6.seg hx6).mono ?_))
        rintro e w7 ⟨rfl, hD7, hc7⟩
        have hK7 : Blk w7 g 50 (kpR L j k) := hK6.chg hc7 hgT
        have hE7 : Blk w7 Bx 40 #[.int .i64 r.active, .int .i64 r.trial, .int .i64 r.tries, .int .i64 r.v0, .int .i64 r.v1] := hE6.chg hc7 hBT
        have hc07 : Chg (kTR L g) w w7 := hc6.trans hc7 (fun _ _ h => .inl h)
        refine ⟨_, rfl, ⟨hK7, hE7⟩, ?_⟩
        simp only [Act.put, List.setIfInBounds_toArray, List.set_cons_succ, List.set_cons_zero]
        refine held_all1 22 (by kernel_rfl) (op_value 22 11 _ (.int .i64 PR.1) w7 rfl rfl rfl rfl ⟨⟨hK7, hE7⟩, ?_⟩)
        simp only [Act.put, List.setIfInBounds_toArray, List.set_cons_succ, List.set_cons_zero]
        refine wpAnyH_done (by kernel_rfl) ?_ _
        refine NoPanic.normal ?_
        have d7 : w7.cell? ⟨g, 2, none⟩ = some (.int .i64 (k.gen : Int)) := hK7.cell (j := 2) rfl
        have z7 := hK7.frozen 2
        by_cases hp0 : PR.1 = 0
        · have HSE : Hid (SE = (0, ⟨k.gen + 1, r, wn, 0, k.br⟩, PR.2)) := by show _ = _; rw [HSD.out]; exact if_neg (fun h => h hp0)
          have hpb : (PR.1 != 0) = false := by rw [hp0]; rfl
          have hwg : IntKind.i64.wrap ((k.gen : Int) + 1) = (k.gen : Int) + 1 := by rw [IntKind.wrap_i64]; have := HG1.out; omega
          clear hp0
          go_upto_region 26 with fail
          have hK8 : Blk (w7.setCell ⟨g, 2, none⟩ (.int .i64 ((k.gen : Int) + 1))) g 50 #[.pointer (some ⟨L.g, 0, none⟩), .int .i64 (j : Int), .int .i64 ((k.gen : Int) + 1), .int .i64 k.r.active, .int .i64 k.r.trial, .int .i64 k.r.tries, .int .i64 k.r.v0, .int .i64 k.r.v1, .int .i64 (k.wh : Int), .int .i64 k.la, .bool k.br] := hK7.set 2 _
          have hE8 := hE7.setOther ⟨g, 2, none⟩ (.int .i64 ((k.gen : Int) + 1)) hBg
          have hc8 : Chg (fun b => b = g) w7 (w7.setCell ⟨g, 2, none⟩ (.int .i64 ((k.gen : Int) + 1))) := (Chg.refl (fun b => b = g) w7).setCell g 2 _ (fun _ => rfl)
          generalize w7.setCell ⟨g, 2, none⟩ (.int .i64 ((k.gen : Int) + 1)) = w8 at hK8 hE8 hc8 ⊢
          have f0 : w8.cell? ⟨Bx, 0, none⟩ = some (.int .i64 r.active) := hE8.cell (j := 0) rfl
          have f1 : w8.cell? ⟨Bx, 1, none⟩ = some (.int .i64 r.trial) := hE8.cell (j := 1) rfl
          have f2 : w8.cell? ⟨Bx, 2, none⟩ = some (.int .i64 r.tries) := hE8.cell (j := 2) rfl
          have f3 : w8.cell? ⟨Bx, 3, none⟩ = some (.int .i64 r.v0) := hE8.cell (j := 3) rfl
          have f4 : w8.cell? ⟨Bx, 4, none⟩ = some (.int .i64 r.v1) := hE8.cell (j := 4) rfl
          clear d7 z7
          go_wp2_with (refine store_mid9 rfl 40 _ _ rfl rfl g 3 #[.int .i64 r.active, .int .i64 r.trial, .int .i64 r.tries, .int .i64 r.v0, .int .i64 r.v1] rfl rfl 50 _ #[.pointer (some ⟨L.g, 0, none⟩), .int .i64 (j : Int), .int .i64 ((k.gen : Int) + 1), .int .i64 r.active, .int .i64 r.trial, .int .i64 r.tries, .int .i64 r.v0, .int .i64 r.v1, .int .i64 (k.wh : Int), .int .i64 k.la, .bool k.br] hK8 info_boot9 (by show 8 ≤ 11; decide) (by simp [Value.oneCell']) (by simp [splice]) ?_; intro w9 hK9 hg9; have x8 : w9.cell? ⟨g, 8, none⟩ = some (.int .i64 (k.wh : Int)) := hK9.cell (j := 8) rfl; have x9 : w9.cell? ⟨g, 9, none⟩ = some (.int .i64 k.la) := hK9.cell (j := 9) rfl; have z8 := hK9.frozen 8; have z9 := hK9.frozen 9; clear f0 f1 f2 f3 f4)
          go_ret
          rw [HSE.out]
          have hc9 : Chg (fun b => b = g) w7 ((w9.setCell ⟨g, 8, none⟩ (.int .i64 (wn : Int))).setCell ⟨g, 9, none⟩ (.int .i64 0)) := ((hc8.trans (Chg.of_grown (S := fun b => b = g) hg9 (fun q h => (Option.some.inj h).symm)) (fun _ _ h => h)).setCell g 8 _ (fun _ => rfl)).setCell g 9 _ (fun _ => rfl)
          exact ⟨rfl, (((hK9.set 8 _).set 9 _).of_eq (by simp [kpR])), hD7.chg hc9 (fun q hq h => hgT (h ▸ hq)), hc07.trans hc9 (fun _ _ h => .inr h)⟩
        · have HSE : Hid (SE = (PR.1, k.broke, PR.2)) := by show _ = _; rw [HSD.out]; exact if_pos hp0
          have hpb : (PR.1 != 0) = true := by simpa using hp0
          clear hp0
          go_wp2_with (go_at_call 42; refine (rbroke9_any L g j k PR.1 w7 hK7).mono ?_; rintro e w8 ⟨rfl, hK8, hc8⟩)
          go_ret
          rw [HSE.out]
          exact ⟨rfl, hK8, hD7.chg hc8 (fun q hq h => hgT (h ▸ hq)), hc07.trans hc8 (fun _ _ h => .inr h)⟩
      · have HSE : Hid (SE = (ER.1, k.broke, ER.2)) := by show _ = _; rw [HPE.out]; exact if_pos he0
        have heb : (ER.1 != 0) = true := by simpa using he0
        clear he0
        go_wp2_with (go_at_call 42; refine (rbroke9_any L g j k ER.1 w5 hK5).mono ?_; rintro e w8 ⟨rfl, hK8, hc8⟩)
        go_ret
        rw [HSE.out]
        exact ⟨rfl, hK8, hD5.chg hc8 (fun q hq h => hgT (h ▸ hq)), hc05.trans hc8 (fun _ _ h => .inr h)⟩
end Go.Proofs.YtbdhkkdombdnkaaDoor
