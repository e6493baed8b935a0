/-
  What is proved here: the program's store in memory, with the blocks that are its own; what it tells of its size.
  Conditions: those that each fact names.
-/
import Derived.Test.YtfghfciigdkioaaGreatRJStoreSize
import Derived.Test.YtfghfciigdkioaaGreatRJWalSame
import Derived.Test.YtfghfciigdkioaaGreatRJStoreDo
namespace Go.Proofs.YtfghfciigdkioaaGreatR
open Go.RowKit Go.Maps

def StB (w : World) (SG G Mb : Nat) (br : Bool) : Prop := Blk w SG 76 #[.pointer (some ⟨G, 0, none⟩), .map (some Mb), .bool br]
/-- The store's parts: its log's blocks, its values', itself. -/
structure PParts (w : World) (SG G Mb : Nat) (L : PLay) (CL CV : Nat → Prop) (x : SS) : Prop where
  log : PB w G L CL x.s x.l
  st : StB w SG G Mb x.br
  map : MapP w CV Mb x.m
  cv : ∀ q, CV q → ¬ CL q
  sg : ¬ CL SG ∧ ¬ CV SG
  mb : ¬ CL Mb ∧ ¬ CV Mb
  lv : ∀ q, CV q → q < w.heap.size
/-- The program's store; its own blocks are such. -/
structure PSt (w : World) (SG : Nat) (L : PLay) (C : Nat → Prop) (x : SS) : Prop where
  body : ∃ G Mb CL CV, PParts w SG G Mb L CL CV x ∧ (∀ q, CL q → C q) ∧ (∀ q, CV q → C q) ∧ C SG ∧ C Mb
  lt : ∀ q, C q → q < w.heap.size
  pairs : PairsR x.m
  len : x.m.length ≤ 4000
  size : sizeM x.m ≤ 1000000
theorem PParts.ne {w : World} {SG G Mb : Nat} {L : PLay} {CL CV : Nat → Prop} {x : SS} (h : PParts w SG G Mb L CL CV x) : SG ≠ Mb := ne_map h.map.at (Blk.cell h.st (j := 0) rfl)
theorem PParts.chg {w w' : World} {SG G Mb : Nat} {L : PLay} {CL CV S : Nat → Prop} {x : SS} (h : PParts w SG G Mb L CL CV x) (hc : Chg S w w') (h1 : ∀ q, CL q → ¬ S q) (h2 : ∀ q, CV q → ¬ S q) (h3 : ¬ S SG) (h4 : ¬ S Mb) : PParts w' SG G Mb L CL CV x :=
  ⟨h.log.chg hc h1, Blk.chg h.st hc h3, h.map.chg hc h4 h2, h.cv, h.sg, h.mb, fun q hq => Nat.lt_of_lt_of_le (h.lv q hq) hc.size⟩
theorem PParts.after {w w' : World} {SG G Mb : Nat} {L : PLay} {CL CV : Nat → Prop} {x : SS} (h : PParts w SG G Mb L CL CV x) (hb : Below w.heap.size w w') : PParts w' SG G Mb L CL CV x :=
  h.chg (S := fun _ => False) (Chg.of_below hb (Nat.le_refl _)) (fun _ _ => id) (fun _ _ => id) id id
theorem PSt.chg {w w' : World} {SG : Nat} {L : PLay} {C S : Nat → Prop} {x : SS} (h : PSt w SG L C x) (hc : Chg S w w') (hS : ∀ q, C q → ¬ S q) : PSt w' SG L C x := by
  obtain ⟨G, Mb, CL, CV, hp, h1, h2, h3, h4⟩ := h.body
  exact ⟨⟨G, Mb, CL, CV, hp.chg hc (fun q hq => hS q (h1 q hq)) (fun q hq => hS q (h2 q hq)) (hS _ h3) (hS _ h4), h1, h2, h3, h4⟩, fun q hq => Nat.lt_of_lt_of_le (h.lt q hq) hc.size, h.pairs, h.len, h.size⟩
theorem PSt.after {w w' : World} {SG : Nat} {L : PLay} {C : Nat → Prop} {x : SS} (h : PSt w SG L C x) (hb : Below w.heap.size w w') : PSt w' SG L C x :=
  h.chg (S := fun _ => False) (Chg.of_below hb (Nat.le_refl _)) (fun _ _ => id)
theorem PB.okS {w : World} {G : Nat} {L : PLay} {C : Nat → Prop} {s : DS} {l : LS} (h : PB w G L C s l) : s.ok L.n ∧ L.n ≤ 4096 := by
  obtain ⟨CD, h1, _⟩ := h.disk
  exact ⟨h1.d.ok, h1.d.lay.max⟩
theorem PB.size_le {w : World} {G : Nat} {L : PLay} {C : Nat → Prop} {s : DS} {l : LS} (h : PB w G L C s l) : sizeS s ≤ 262016 := size_lt h.okS.1 h.okS.2
set_option maxRecDepth 100000 in
set_option maxHeartbeats 1000000 in
theorem most_any8 {w : World} {SG G Mb : Nat} {L : PLay} {CL CV : Nat → Prop} {x : SS} (h : PParts w SG G Mb L CL CV x) :
    Calls Tryz.prog 23 #[.pointer (some ⟨SG, 0, none⟩)] w fun e w' => e = .returned (.int .i64 (mostW x.s : Int)) ∧ w' = w := by
  have c0 : w.cell? ⟨SG, 0, none⟩ = some (.pointer (some ⟨G, 0, none⟩)) := Blk.cell h.st (j := 0) rfl
  have HS : Hid (Calls Tryz.prog 43 #[.pointer (some ⟨G, 0, none⟩)] w fun e w' => e = .returned (.int .i64 (sizeS x.s : Int)) ∧ w' = w) := pb_size h.log
  have hsz := h.log.size_le
  unfold mostW
  generalize sizeS x.s = N at *
  clear h
  by_cases h1 : 2048 ≤ N
  · obtain ⟨K, hK⟩ : ∃ K, K = (N - 2048) / 2 := ⟨_, rfl⟩
    rw [← hK]
    have e1 : (0 : Int) ≤ (N : Int) - 2048 := by omega
    have e2 : ((N : Int) - 2048) / 2 = (K : Int) := by omega
    clear hK h1
    go_enter Tryz.func23, Tryz.ntmps23
    go_wp2_with fail
    refine HS.out.mono ?_
    rintro e w1 ⟨rfl, hw1⟩
    obtain rfl := hw1.symm
    clear hw1
    go_wp2_with fail
    go_ret
    exact ⟨rfl, rfl⟩
  · have e0 : (N - 2048) / 2 = 0 := by omega
    rw [e0]
    have e1 : ¬ (0 : Int) ≤ (N : Int) - 2048 := by omega
    have e2 : Int.tdiv ((N : Int) - 2048) 2 ≤ 0 := by
      rw [show (N : Int) - 2048 = -((2048 - N : Nat) : Int) by omega, Int.neg_tdiv]
      have := Int.tdiv_nonneg (a := ((2048 - N : Nat) : Int)) (b := 2) (by omega) (by decide)
      omega
    clear e0 h1
    go_enter Tryz.func23, Tryz.ntmps23
    go_wp2_with fail
    refine HS.out.mono ?_
    rintro e w1 ⟨rfl, hw1⟩
    obtain rfl := hw1.symm
    clear hw1
    go_wp2_with fail
    go_ret
    exact ⟨ret_int (by have := e2; omega), rfl⟩
set_option maxRecDepth 100000 in
theorem len_any8 {w : World} {SG G Mb : Nat} {L : PLay} {CL CV : Nat → Prop} {x : SS} (h : PParts w SG G Mb L CL CV x) :
    Calls Tryz.prog 24 #[.pointer (some ⟨SG, 0, none⟩)] w fun e w' => e = .returned (.int .i64 (x.m.length : Int)) ∧ w' = w := by
  have c1 : w.cell? ⟨SG, 1, none⟩ = some (.map (some Mb)) := Blk.cell h.st (j := 1) rfl
  have hl := h.map.len 3
  generalize x.m.length = N at *
  clear h
  go_enter Tryz.func24, Tryz.ntmps24
  go_wp2
  go_ret
  exact ⟨rfl, rfl⟩
set_option maxRecDepth 100000 in
theorem broken_any8 {w : World} {SG G Mb : Nat} {L : PLay} {CL CV : Nat → Prop} {x : SS} (h : PParts w SG G Mb L CL CV x) :
    Calls Tryz.prog 12 #[.pointer (some ⟨SG, 0, none⟩)] w fun e w' => e = .returned (.bool x.br) ∧ w' = w := by
  have c1 : w.cell? ⟨SG, 2, none⟩ = some (.bool x.br) := Blk.cell h.st (j := 2) rfl
  clear h
  generalize x.br = N at *
  go_enter Tryz.func12, Tryz.ntmps12
  go_wp2
  go_ret
  exact ⟨rfl, rfl⟩
set_option maxRecDepth 100000 in
set_option maxHeartbeats 1000000 in
theorem mayHold_any {w : World} {SG G Mb : Nat} {L : PLay} {CL CV : Nat → Prop} {x : SS} (h : PParts w SG G Mb L CL CV x) {N : Nat} {C' : Nat → Prop} {m : PM} (hM : MapP w C' N m) (hp : PairsR m) (hml : m.length ≤ 1000000) :
    Calls Tryz.prog 34 #[.pointer (some ⟨SG, 0, none⟩), .map (some N)] w fun e w' => e = .returned (.bool (decide (sizeM m ≤ mostW x.s) && decide (m.length ≤ 4000))) ∧ Below w.heap.size w w' := by
  have HM : Hid (∀ W, Below w.heap.size w W → Calls Tryz.prog 23 #[.pointer (some ⟨SG, 0, none⟩)] W fun e w' => e = .returned (.int .i64 (mostW x.s : Int)) ∧ w' = W) := fun W hW => most_any8 (h.after hW)
  have HS : Hid (Calls Tryz.prog 57 #[.map (some N)] w fun e w' => e = .returned (.int .i64 (sizeM m : Int)) ∧ Below w.heap.size w w') := size_any8 N C' m w hM hp (by omega)
  have HL : Hid (∀ W, Below w.heap.size w W → ∀ ty, (Builtin.len_ #[70] ty #[.map (some N)]).run Tryz.prog W = .ok (.int .i64 (m.length : Int)) W) := fun W hW ty => (hM.after hW).len ty
  obtain ⟨R, hR⟩ : ∃ R, R = (decide (sizeM m ≤ mostW x.s) && decide (m.length ≤ 4000)) := ⟨_, rfl⟩
  rw [← hR]
  clear h hM
  generalize sizeM m = A at *
  generalize m.length = B at *
  generalize mostW x.s = D at *
  by_cases h1 : A ≤ D
  · have j1 : (A : Int) ≤ (D : Int) := by omega
    by_cases h2 : B ≤ 4000
    · have j2 : (B : Int) ≤ 4000 := by omega
      have HR : Hid (R = true) := by show _ = _; rw [hR]; simp [h1, h2]
      clear hR h1 h2
      go_enter Tryz.func34, Tryz.ntmps34
      go_wp2_with fail
      refine HS.out.mono ?_
      rintro e w1 ⟨rfl, hb1⟩
      go_wp2_with fail
      refine (HM.out w1 hb1).mono ?_
      rintro e w2 ⟨rfl, hw2⟩
      obtain rfl := hw2.symm
      clear hw2
      have hl := HL.out w1 hb1 3
      go_wp2_with fail
      go_ret
      rw [HR.out]
      exact ⟨rfl, hb1⟩
    · have j2 : ¬ (B : Int) ≤ 4000 := by omega
      have HR : Hid (R = false) := by show _ = _; rw [hR]; simp [h2]
      clear hR h1 h2
      go_enter Tryz.func34, Tryz.ntmps34
      go_wp2_with fail
      refine HS.out.mono ?_
      rintro e w1 ⟨rfl, hb1⟩
      go_wp2_with fail
      refine (HM.out w1 hb1).mono ?_
      rintro e w2 ⟨rfl, hw2⟩
      obtain rfl := hw2.symm
      clear hw2
      have hl := HL.out w1 hb1 3
      go_wp2_with fail
      go_ret
      rw [HR.out]
      exact ⟨congrArg (fun b => Ending.returned (Value.bool b)) (decide_eq_false (by omega)), hb1⟩
  · have j1 : ¬ (A : Int) ≤ (D : Int) := by omega
    have HR : Hid (R = false) := by show _ = _; rw [hR]; simp [h1]
    clear hR h1
    go_enter Tryz.func34, Tryz.ntmps34
    go_wp2_with fail
    refine HS.out.mono ?_
    rintro e w1 ⟨rfl, hb1⟩
    go_wp2_with fail
    refine (HM.out w1 hb1).mono ?_
    rintro e w2 ⟨rfl, hw2⟩
    obtain rfl := hw2.symm
    clear hw2
    go_wp2_with fail
    go_ret
    rw [HR.out]
    exact ⟨rfl, hb1⟩
end Go.Proofs.YtfghfciigdkioaaGreatR
