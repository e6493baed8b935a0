/-
  What is proved here: plain facts on the pieces that bytes begin with, one behind the other, and what comes of them. wal.pieces brings the pieces that bytes begin with, one behind the other, to whichever loop goes through them. blocks of unlike types are unlike; how a slice of bytes lies as an element. rows of bytes that a call gathers in a slice.
  Conditions: those that each fact names. at most a million bytes. none.
-/
import Derived.Test.YtbegphfideopoaaGreatJWalPure
import Derived.Test.YtbegphfideopoaaGreatJPWalSmall
import Derived.Laws.OwnMore
import Derived.RangeFuncBox
import Derived.RangeFuncLeaves
import Derived.RangeFuncCalls
import Derived.Shelf.Abstract
import Derived.OwnWalkIn
import Derived.TacticsInMore
import Derived.LoopNIn
import Derived.LoopIn
import Derived.Maps.OwnIn
import Derived.RangeFuncNested
import Derived.Sort.QuietIn
import Derived.Test.YtbegphfideopoaaGreatJShaPure
namespace Go.Proofs.YtbegphfideopoaaGreat

/-- Is the first piece there whole? -/
def wholeP (b : List UInt8) : Prop := 5 ≤ b.length ∧ of4 (b.drop 1) ≤ 4096 ∧ of4 (b.drop 1) ≤ b.length - 5
instance (b : List UInt8) : Decidable (wholeP b) := by unfold wholeP; infer_instance
/-- The pieces that bytes begin with. -/
def seqP : Nat → List UInt8 → List (UInt8 × List UInt8)
  | 0, _ => []
  | n + 1, b => if wholeP b then (b.getD 0 0, (b.drop 5).take (of4 (b.drop 1))) :: seqP n (b.drop (5 + of4 (b.drop 1))) else []
def seqOf (b : List UInt8) : List (UInt8 × List UInt8) := seqP b.length b
theorem seqP_more : ∀ (n m : Nat) (b : List UInt8), b.length ≤ n → b.length ≤ m → seqP n b = seqP m b
  | 0, 0, _, _, _ => rfl
  | 0, m + 1, b, h, _ => by
    show [] = if wholeP b then _ else _
    rw [if_neg (fun hw => by have := hw.1; omega)]
  | n + 1, 0, b, _, h => by
    show (if wholeP b then _ else _) = []
    rw [if_neg (fun hw => by have := hw.1; omega)]
  | n + 1, m + 1, b, h1, h2 => by
    show (if wholeP b then _ :: seqP n _ else []) = if wholeP b then _ :: seqP m _ else []
    by_cases hw : wholeP b
    · rw [if_pos hw, if_pos hw, seqP_more n m (b.drop (5 + of4 (b.drop 1))) (by rw [List.length_drop]; have := hw.1; omega) (by rw [List.length_drop]; have := hw.1; omega)]
    · rw [if_neg hw, if_neg hw]
theorem seqOf_not {b : List UInt8} (h : ¬ wholeP b) : seqOf b = [] := by
  unfold seqOf
  cases hn : b.length with
  | zero => rfl
  | succ n => show (if wholeP b then _ else _) = _; rw [if_neg h]
theorem seqOf_step {b : List UInt8} (h : wholeP b) : seqOf b = (b.getD 0 0, (b.drop 5).take (of4 (b.drop 1))) :: seqOf ((b.drop 5).drop (of4 (b.drop 1))) := by
  unfold seqOf
  obtain ⟨n, hn⟩ : ∃ n, b.length = n + 1 := ⟨b.length - 1, by have := h.1; omega⟩
  rw [hn]
  show (if wholeP b then _ else _) = _
  rw [if_pos h, List.drop_drop]
  congr 1
  exact seqP_more _ _ _ (by rw [List.length_drop]; have := h.1; omega) (Nat.le_refl _)
/-- What has been told. -/
structure T3 where
  state : List UInt8
  recs : List (List UInt8)
  whole : Bool
def stepW (t : T3) (x : UInt8 × List UInt8) : Option T3 :=
  if x.1 = 1 ∧ t.whole = false then some { t with state := t.state ++ x.2 }
  else if x.1 = 2 ∧ t.whole = false then some ⟨t.state ++ x.2, t.recs, true⟩
  else if x.1 = 3 ∧ t.whole = true then some { t with recs := t.recs ++ [x.2] } else none
def goW (t : T3) : List (UInt8 × List UInt8) → T3
  | [] => t
  | x :: xs => match stepW t x with
    | none => t
    | some t' => goW t' xs
def foldW (t : T3) : List (UInt8 × List UInt8) → Option T3
  | [] => some t
  | x :: xs => match stepW t x with
    | none => none
    | some t' => foldW t' xs
theorem foldW_snoc : ∀ (l : List (UInt8 × List UInt8)) (t : T3) (x : UInt8 × List UInt8), foldW t (l ++ [x]) = (foldW t l).bind (stepW · x)
  | [], t, x => by
    show (match stepW t x with | none => none | some t' => some t') = stepW t x
    cases stepW t x <;> rfl
  | y :: l, t, x => by
    show (match stepW t y with | none => none | some t' => foldW t' (l ++ [x])) = (match stepW t y with | none => none | some t' => foldW t' l).bind _
    cases stepW t y with
    | none => rfl
    | some t' => exact foldW_snoc l t' x
theorem goW_append : ∀ (l m : List (UInt8 × List UInt8)) (t u : T3), foldW t l = some u → goW t (l ++ m) = goW u m
  | [], m, t, u, h => by cases h; rfl
  | y :: l, m, t, u, h => by
    show (match stepW t y with | none => t | some t' => goW t' (l ++ m)) = _
    have h2 : (match stepW t y with | none => none | some t' => foldW t' l) = some u := h
    cases hs : stepW t y with
    | none => rw [hs] at h2; cases h2
    | some t' => rw [hs] at h2; exact goW_append l m t' u h2
theorem foldW_len : ∀ (l : List (UInt8 × List UInt8)) (u t : T3), foldW u l = some t → (∀ x ∈ l, x.2.length ≤ 4096) → t.state.length ≤ u.state.length + 4096 * l.length ∧ t.recs.length ≤ u.recs.length + l.length
  | [], u, t, h, _ => by cases h; exact ⟨by omega, by omega⟩
  | y :: l, u, t, h, hl => by
    have h2 : (match stepW u y with | none => none | some t' => foldW t' l) = some t := h
    have hy := hl y List.mem_cons_self
    cases hs : stepW u y with
    | none => rw [hs] at h2; cases h2
    | some t' =>
      rw [hs] at h2
      have ih := foldW_len l t' t h2 (fun x hx => hl x (List.mem_cons_of_mem _ hx))
      have hs2 : t'.state.length ≤ u.state.length + 4096 ∧ t'.recs.length ≤ u.recs.length + 1 := by
        unfold stepW at hs
        split at hs
        · cases hs; exact ⟨by show (u.state ++ y.2).length ≤ _; rw [List.length_append]; omega, by show u.recs.length ≤ _; omega⟩
        · split at hs
          · cases hs; exact ⟨by show (u.state ++ y.2).length ≤ _; rw [List.length_append]; omega, by show u.recs.length ≤ _; omega⟩
          · split at hs
            · cases hs; exact ⟨by show u.state.length ≤ _; omega, by show (u.recs ++ [y.2]).length ≤ _; rw [List.length_append]; exact Nat.le_refl _⟩
            · cases hs
      rw [List.length_cons]
      omega
def zeroT : T3 := ⟨[], [], false⟩
theorem u8_eq (x : UInt8) (n : Nat) (hn : n < 256) : x = UInt8.ofNat n ↔ x.toNat = n := by
  constructor
  · rintro rfl; rw [UInt8.toNat_ofNat']; exact Nat.mod_eq_of_lt hn
  · intro h; exact UInt8.toNat_inj.1 (by rw [h, UInt8.toNat_ofNat']; exact (Nat.mod_eq_of_lt hn).symm)
theorem tell_go : ∀ (n : Nat) (b : List UInt8) (t : T3), b.length ≤ n → (goT n ⟨b, t.state, t.recs, t.whole⟩).state = (goW t (seqP n b)).state ∧ (goT n ⟨b, t.state, t.recs, t.whole⟩).recs = (goW t (seqP n b)).recs ∧ (goT n ⟨b, t.state, t.recs, t.whole⟩).whole = (goW t (seqP n b)).whole
  | 0, b, t, _ => ⟨rfl, rfl, rfl⟩
  | n + 1, b, t, h => by
    have e1 : goT (n + 1) ⟨b, t.state, t.recs, t.whole⟩ = if fitsT ⟨b, t.state, t.recs, t.whole⟩ then goT n (stepT ⟨b, t.state, t.recs, t.whole⟩) else ⟨b, t.state, t.recs, t.whole⟩ := rfl
    have e2 : seqP (n + 1) b = if wholeP b then (b.getD 0 0, (b.drop 5).take (of4 (b.drop 1))) :: seqP n (b.drop (5 + of4 (b.drop 1))) else [] := rfl
    have u1 := u8_eq (b.getD 0 0) 1 (by decide)
    have u2 := u8_eq (b.getD 0 0) 2 (by decide)
    have u3 := u8_eq (b.getD 0 0) 3 (by decide)
    rw [e1, e2]
    by_cases hw : wholeP b
    case neg =>
      have hf : ¬ fitsT ⟨b, t.state, t.recs, t.whole⟩ = true := fun hf => hw (by
        unfold fitsT at hf
        simp only [Bool.and_eq_true, decide_eq_true_eq] at hf
        exact ⟨hf.1.1.1.1.1, hf.1.1.1.1.2, hf.1.1.1.2⟩)
      rw [if_neg hw, if_neg hf]
      exact ⟨rfl, rfl, rfl⟩
    rw [if_pos hw]
    have hft : fitsT ⟨b, t.state, t.recs, t.whole⟩ = (decide (1 ≤ (b.getD 0 0).toNat) && decide ((b.getD 0 0).toNat ≤ 3) && decide (t.whole = decide ((b.getD 0 0).toNat = 3))) := by
      unfold fitsT
      dsimp only
      rw [decide_eq_true hw.1, decide_eq_true hw.2.1, decide_eq_true hw.2.2]
      rfl
    have hless : (b.drop (5 + of4 (b.drop 1))).length ≤ n := by rw [List.length_drop]; have := hw.1; omega
    have hgo : goW t ((b.getD 0 0, (b.drop 5).take (of4 (b.drop 1))) :: seqP n (b.drop (5 + of4 (b.drop 1)))) = match stepW t (b.getD 0 0, (b.drop 5).take (of4 (b.drop 1))) with | none => t | some t' => goW t' (seqP n (b.drop (5 + of4 (b.drop 1)))) := rfl
    rw [hgo]
    have hstop : stepW t (b.getD 0 0, (b.drop 5).take (of4 (b.drop 1))) = none → fitsT ⟨b, t.state, t.recs, t.whole⟩ = false → _ := fun h1 h2 => (by
      rw [h1, if_neg (by rw [h2]; decide)]
      exact ⟨rfl, rfl, rfl⟩ : ((if fitsT ⟨b, t.state, t.recs, t.whole⟩ then goT n (stepT ⟨b, t.state, t.recs, t.whole⟩) else ⟨b, t.state, t.recs, t.whole⟩).state = (match stepW t (b.getD 0 0, (b.drop 5).take (of4 (b.drop 1))) with | none => t | some t' => goW t' (seqP n (b.drop (5 + of4 (b.drop 1))))).state ∧ (if fitsT ⟨b, t.state, t.recs, t.whole⟩ then goT n (stepT ⟨b, t.state, t.recs, t.whole⟩) else ⟨b, t.state, t.recs, t.whole⟩).recs = (match stepW t (b.getD 0 0, (b.drop 5).take (of4 (b.drop 1))) with | none => t | some t' => goW t' (seqP n (b.drop (5 + of4 (b.drop 1))))).recs ∧ (if fitsT ⟨b, t.state, t.recs, t.whole⟩ then goT n (stepT ⟨b, t.state, t.recs, t.whole⟩) else ⟨b, t.state, t.recs, t.whole⟩).whole = (match stepW t (b.getD 0 0, (b.drop 5).take (of4 (b.drop 1))) with | none => t | some t' => goW t' (seqP n (b.drop (5 + of4 (b.drop 1))))).whole))
    have hon : ∀ t' : T3, stepW t (b.getD 0 0, (b.drop 5).take (of4 (b.drop 1))) = some t' → fitsT ⟨b, t.state, t.recs, t.whole⟩ = true → stepT ⟨b, t.state, t.recs, t.whole⟩ = ⟨b.drop (5 + of4 (b.drop 1)), t'.state, t'.recs, t'.whole⟩ → _ := fun t' h1 h2 h3 => (by
      rw [h1, if_pos h2, h3]
      exact tell_go n _ t' hless : ((if fitsT ⟨b, t.state, t.recs, t.whole⟩ then goT n (stepT ⟨b, t.state, t.recs, t.whole⟩) else ⟨b, t.state, t.recs, t.whole⟩).state = (match stepW t (b.getD 0 0, (b.drop 5).take (of4 (b.drop 1))) with | none => t | some t' => goW t' (seqP n (b.drop (5 + of4 (b.drop 1))))).state ∧ (if fitsT ⟨b, t.state, t.recs, t.whole⟩ then goT n (stepT ⟨b, t.state, t.recs, t.whole⟩) else ⟨b, t.state, t.recs, t.whole⟩).recs = (match stepW t (b.getD 0 0, (b.drop 5).take (of4 (b.drop 1))) with | none => t | some t' => goW t' (seqP n (b.drop (5 + of4 (b.drop 1))))).recs ∧ (if fitsT ⟨b, t.state, t.recs, t.whole⟩ then goT n (stepT ⟨b, t.state, t.recs, t.whole⟩) else ⟨b, t.state, t.recs, t.whole⟩).whole = (match stepW t (b.getD 0 0, (b.drop 5).take (of4 (b.drop 1))) with | none => t | some t' => goW t' (seqP n (b.drop (5 + of4 (b.drop 1))))).whole))
    cases hwh : t.whole with
    | false =>
      by_cases k1 : (b.getD 0 0).toNat = 1
      · refine hwh ▸ hon { t with state := t.state ++ (b.drop 5).take (of4 (b.drop 1)) } ?_ ?_ ?_
        · unfold stepW; rw [if_pos ⟨u1.2 k1, hwh⟩]
        · rw [hft, hwh, k1]; rfl
        · unfold stepT pieceT; dsimp only; rw [if_neg (by omega), hwh, k1]; rfl
      by_cases k2 : (b.getD 0 0).toNat = 2
      · refine hwh ▸ hon ⟨t.state ++ (b.drop 5).take (of4 (b.drop 1)), t.recs, true⟩ ?_ ?_ ?_
        · unfold stepW; rw [if_neg (fun h => k1 (u1.1 h.1)), if_pos ⟨u2.2 k2, hwh⟩]
        · rw [hft, hwh, k2]; rfl
        · unfold stepT pieceT; dsimp only; rw [if_neg (by omega), k2]; rfl
      · refine hwh ▸ hstop ?_ ?_
        · unfold stepW; rw [if_neg (fun h => k1 (u1.1 h.1)), if_neg (fun h => k2 (u2.1 h.1)), if_neg (fun h => by rw [hwh] at h; cases h.2)]
        · rw [hft, hwh]
          by_cases k3 : (b.getD 0 0).toNat = 3
          · rw [k3]; rfl
          · have : ¬ (1 ≤ (b.getD 0 0).toNat ∧ (b.getD 0 0).toNat ≤ 3) := by omega
            rw [Bool.and_eq_false_iff, Bool.and_eq_false_iff]
            rcases Nat.lt_or_ge (b.getD 0 0).toNat 1 with h | h
            · exact .inl (.inl (decide_eq_false (by omega)))
            · exact .inl (.inr (decide_eq_false (by omega)))
    | true =>
      by_cases k3 : (b.getD 0 0).toNat = 3
      · refine hwh ▸ hon { t with recs := t.recs ++ [(b.drop 5).take (of4 (b.drop 1))] } ?_ ?_ ?_
        · unfold stepW; rw [if_neg (fun h => by rw [hwh] at h; cases h.2), if_neg (fun h => by rw [hwh] at h; cases h.2), if_pos ⟨u3.2 k3, hwh⟩]
        · rw [hft, hwh, k3]; rfl
        · unfold stepT pieceT; dsimp only; rw [if_pos k3]
      · refine hwh ▸ hstop ?_ ?_
        · unfold stepW; rw [if_neg (fun h => by rw [hwh] at h; cases h.2), if_neg (fun h => by rw [hwh] at h; cases h.2), if_neg (fun h => k3 (u3.1 h.1))]
        · rw [hft, hwh, decide_eq_false k3]; simp
/-- What bytes tell, piece by piece. -/
theorem told_seq (b : List UInt8) : toldB b = if (goW zeroT (seqOf b)).whole then ((goW zeroT (seqOf b)).state, (goW zeroT (seqOf b)).recs) else ([], []) := by
  obtain ⟨h1, h2, h3⟩ := tell_go b.length b zeroT (Nat.le_refl _)
  unfold toldB tellB seqOf
  rw [← h1, ← h2, ← h3]
  rfl
end Go.Proofs.YtbegphfideopoaaGreat
namespace Go.Proofs.YtbegphfideopoaaGreat
open Go.RowKit
attribute [local go_sem] Oper.semAt_some

/-- A piece: a slice, its kind, its bytes. -/
abbrev ItemT (w0 : World) (S : Nat → Prop) := { x : Value × UInt8 × List UInt8 // SegA w0 S x.1 x.2.2 ∧ x.2.2.length ≤ 4096 }
def imgs {w0 : World} {S : Nat → Prop} (ys : List (ItemT w0 S)) : List (UInt8 × List UInt8) := ys.map (·.1.2)
theorem imgs_snoc {w0 : World} {S : Nat → Prop} (ys : List (ItemT w0 S)) (x : ItemT w0 S) : imgs (ys ++ [x]) = imgs ys ++ [x.1.2] := by simp [imgs]
theorem SegA.takes7 {w : World} {S : Nat → Prop} {ao : Option Addr} {len c : Nat} {bs : List UInt8} (h : SegA w S (.slice ao len c) bs) (n : Nat) (hn : n ≤ len) (hl : bs.length = len) : SegA w S (.slice ao n c) (bs.take n) ∧ n ≤ c :=
  ⟨⟨(h.1.takesD n hn).1, fun h0 q hq => h.2 (by rw [List.length_take] at h0; omega) q (by cases ao with | none => simp [Value.ownBlock] at hq | some a => exact hq)⟩, (h.1.takesD n hn).2⟩
theorem SegA.drops7 {w : World} {S : Nat → Prop} {ao : Option Addr} {len c : Nat} {bs : List UInt8} (h : SegA w S (.slice ao len c) bs) (n : Nat) (hn : n ≤ len) (hl : bs.length = len) : SegA w S (.slice (restD ao c n) (len - n) (c - n)) (bs.drop n) :=
  ⟨h.1.dropsD n hn, fun h0 q hq => h.2 (by rw [List.length_drop] at h0; omega) q (rest_block _ _ _ _ _ _ _ hq)⟩
theorem Chg.drewN {S : Nat → Prop} {w w' : World} (h : Chg S w w') (k : Nat) : Chg S w (w'.drewN k) := ⟨Below.drewN h.1 k, h.2⟩
def lenOf8 : Value → Nat
  | .slice _ n _ => n
  | _ => 0
set_option maxRecDepth 100000 in
theorem pieces_any (ao : Option Addr) (n c : Nat) (w : World) :
    Calls Tryz.prog 76 #[.slice ao n c] w fun e w' => e = .returned (.func (.func 107) #[] #[.pointer (some ⟨w.heap.size, 0, none⟩)]) ∧ w' = w.alloc (.cells #[.slice ao n c] 34) := by
  go_enter Tryz.func76, Tryz.ntmps76
  go_wp2
  go_ret
  exact ⟨rfl, rfl⟩
set_option maxRecDepth 100000 in
set_option maxHeartbeats 2000000 in
theorem pieces1_in (n : Nat) (hn : 1 ≤ n) (l Bn : Nat) (w0 : World) (S : Nat → Prop) (ao0 : Option Addr) (c0 : Nat) (bs : List UInt8) (hm : bs.length ≤ 1000000) (hseg : SegA w0 S (.slice ao0 bs.length c0) bs) (J Jx : List (ItemT w0 S) → World → Prop)
    (hY : ∀ pre x W, J pre W → pre.length < bs.length / 5 + 1 → YieldAt Fence.wide (n - 1) Tryz.prog l #[.int .u8 (n8 x.1.2.1), x.1.1] W fun e W' =>
      (e = .returned (.bool true) ∧ J (pre ++ [x]) W' ∧ Chg S W W') ∨ (e = .returned (.bool false) ∧ Jx (pre ++ [x]) W'))
    (hJd : ∀ pre W k, J pre W → J pre (W.drewN k))
    (W : World) (hW : Chg S w0 W) (hBn : W.cell? ⟨Bn, 0, none⟩ = some (.slice ao0 bs.length c0)) (h0 : J [] W) :
    CallsIn Fence.wide n Tryz.prog 107 #[.func (.yield l) #[] #[], .pointer (some ⟨Bn, 0, none⟩)] W fun e W' => (∃ v, e = .returned v) ∧
      ((∃ ys, imgs ys = seqOf bs ∧ J ys W') ∨ (∃ pre, (∃ rest, imgs pre ++ rest = seqOf bs) ∧ Jx pre W')) := by
  have hfn : Fence.wide.fn 105 := trivial
  refine callsIn_of_wp Tryz.func107 rfl trivial ?_ rfl
  simp only [Tryz.ntmps107, List.size_toArray, List.length_cons, List.length_nil, Nat.reduceAdd, Nat.reduceSub, Array.replicate_succ, Array.replicate_zero, List.push_toArray, List.append_toArray, List.nil_append, List.cons_append]
  gi_wp2_with fail
  gi_loopw [3] (fun rv wr => ∃ (pre : List (ItemT w0 S)) (ao : Option Addr) (c : Nat) (rest : List UInt8), rv = .slice ao rest.length c ∧ SegA w0 S (.slice ao rest.length c) rest ∧ imgs pre ++ seqOf rest = seqOf bs ∧ 5 * pre.length + rest.length ≤ bs.length ∧ Chg S w0 wr ∧ J pre wr)
    (fun rv _ => lenOf8 rv)
  case atStart => exact ⟨[], ao0, c0, bs, rfl, hseg, rfl, by simp, hW, h0⟩
  case round =>
    obtain ⟨pre, ao, c, rest, rfl, hs, hst, hl, hb, hJ⟩ := hrel
    by_cases h5 : 5 ≤ rest.length
    case neg =>
      have j5 : ¬ (5 : Int) ≤ (rest.length : Int) := by omega
      have HE : Hid (imgs pre = seqOf bs) := by show _ = _; rw [← hst, seqOf_not (fun h => h5 h.1), List.append_nil]
      clear hst h5
      gi_wp2
      go_end0
      exact ⟨⟨_, rfl⟩, .inl ⟨_, HE.out, hJ⟩⟩
    have j5 : (5 : Int) ≤ (rest.length : Int) := by omega
    have hsr := hs.1.chg hb hs.2
    obtain ⟨b, off, rfl, hbc, hrow, hbl⟩ := hsr.formD (by omega)
    obtain ⟨KB, hKB⟩ : ∃ KB, KB = rest.getD 0 0 := ⟨_, rfl⟩
    have HKB : Hid (rest.getD 0 0 = KB) := hKB.symm
    have hc0 : wr.cell? ⟨b, off, none⟩ = some (.int .u8 (n8 KB)) := by
      rw [hKB]
      have := hrow 0 (by omega)
      rw [Nat.add_zero] at this
      rw [this]
      simp [List.getD, show 0 < rest.length by omega]
    clear hKB
    have hix : ∀ w, (Instr.indexAt 34 (.slice (some ⟨b, off, none⟩) rest.length c) (.int .i64 0)).run Tryz.prog w = .ok (.pointer (some ⟨b, off, none⟩)) w := fun w => index7 b off rest.length c 0 0 rfl (by omega) w
    have KH : ∀ j, Calls Tryz.prog 105 #[.slice (some ⟨b, off, none⟩) rest.length c, .int .i64 1] (wr.drewN j) fun e w' => e = .returned (.int .i64 (of4 (rest.drop 1) : Int)) ∧ ∃ k, w' = (wr.drewN j).drewN k := fun j => (numAt_any _ rest 1 (wr.drewN j) (hsr.below (Below.drewN (Below.refl _ wr) j) (Nat.le_refl _)) (by omega) (by omega)).mono fun _ _ h => ⟨h.1, 1, h.2⟩
    gi_wp2_with fail
    gi_quiet (first | (gi_at_call 105; refine CallsIn.quiet_of (callsIn_wide.2 (KH _))))
    clear KH hix hc0
    have hJ2 := hJd pre wr nq hJ
    have hb2 : Chg S w0 (wr.drewN nq) := hb.drewN nq
    generalize wr.drewN nq = W2 at *
    have hNl := of4_lt (rest.drop 1)
    obtain ⟨N, hN⟩ : ∃ N, N = of4 (rest.drop 1) := ⟨_, rfl⟩
    rw [← hN] at hNl ⊢
    have l5 : ∀ w, (Instr.slice 34 (.slice (some ⟨b, off, none⟩) rest.length c) (some (.int .i64 5)) none none).run Tryz.prog w = .ok (.slice (restD (some ⟨b, off, none⟩) c 5) (rest.length - 5) (c - 5)) w := slice_restD (some ⟨b, off, none⟩) rest.length c 5 (by omega)
    have hd5 := hs.drops7 5 (by omega) rfl
    have hlen5 : (rest.drop 5).length = rest.length - 5 := by rw [List.length_drop]
    have HWP : Hid (wholeP rest ↔ N ≤ 4096 ∧ N ≤ rest.length - 5) := by unfold wholeP; rw [← hN]; exact ⟨fun h => h.2, fun h => ⟨by omega, h⟩⟩
    have HNOT : Hid (¬ wholeP rest → imgs pre = seqOf bs) := fun h => by rw [← hst, seqOf_not h, List.append_nil]
    by_cases h1 : 4096 < N
    · have j1 : (4096 : Int) < (N : Int) := by omega
      have HE : Hid (imgs pre = seqOf bs) := HNOT.out (fun h => by have := (HWP.out.1 h).1; omega)
      clear HNOT HWP hst h1 hN
      gi_wp2
      refine ⟨(fun _ h => nomatch h), ?_⟩
      gi_wp2
      (try simp only [Exit.inBlock, Exit.then])
      refine bodyPost_ret (results_none rfl _ _ _) rfl ?_
      exact ⟨⟨_, rfl⟩, .inl ⟨_, HE.out, hJ2⟩⟩
    have j1 : ¬ (4096 : Int) < (N : Int) := by omega
    obtain ⟨R5, hR5⟩ : ∃ R5, R5 = rest.drop 5 := ⟨_, rfl⟩
    rw [← hR5] at hd5 hlen5
    have HR5 : Hid (rest.drop 5 = R5) := hR5.symm
    rw [← hlen5] at l5 hd5
    by_cases h2 : R5.length < N
    · have j2 : (R5.length : Int) < (N : Int) := by omega
      have HE : Hid (imgs pre = seqOf bs) := HNOT.out (fun h => by have := (HWP.out.1 h).2; omega)
      clear HNOT HWP hst h1 h2 hN hR5 hlen5
      generalize restD (some ⟨b, off, none⟩) c 5 = ra at *
      generalize c - 5 = cr at *
      gi_wp2
      refine ⟨(fun _ h => nomatch h), ?_⟩
      gi_wp2
      (try simp only [Exit.inBlock, Exit.then])
      refine bodyPost_ret (results_none rfl _ _ _) rfl ?_
      exact ⟨⟨_, rfl⟩, .inl ⟨_, HE.out, hJ2⟩⟩
    have j2 : ¬ (R5.length : Int) < (N : Int) := by omega
    have hwh : wholeP rest := HWP.out.2 ⟨by omega, by omega⟩
    have hsq := seqOf_step hwh
    rw [← hN, ← hR5, HKB.out] at hsq
    generalize restD (some ⟨b, off, none⟩) c 5 = ra at *
    generalize c - 5 = cr at *
    have ht := hd5.takes7 N (by omega) rfl
    have l6 := slice_toD ra R5.length cr N ht.2
    have hdn := hd5.drops7 N (by omega) rfl
    have l7 := slice_restD ra R5.length cr N (by omega)
    have hln : (R5.take N).length = N := by rw [List.length_take]; omega
    have hln2 : R5.length - N = (R5.drop N).length := by rw [List.length_drop]
    rw [hln2] at hdn l7
    obtain ⟨X, hX⟩ : ∃ X : ItemT w0 S, X.1 = (.slice ra N cr, KB, R5.take N) := ⟨⟨(.slice ra N cr, KB, R5.take N), ht.1, by show (R5.take N).length ≤ 4096; omega⟩, rfl⟩
    obtain ⟨fn, tmps, assign, body, hy, hR⟩ := hY pre X W2 hJ2 (by omega)
    have hsn := imgs_snoc pre X
    rw [hX] at hy hsn
    dsimp only at hy hsn
    have HX : Hid (imgs (pre ++ [X]) ++ seqOf (R5.drop N) = seqOf bs) := by
      show _ = _
      rw [hsn, ← hst, hsq, List.append_assoc]
      rfl
    have hlm : 5 * (pre ++ [X]).length + (R5.drop N).length ≤ bs.length := by rw [List.length_append, List.length_drop]; show 5 * (pre.length + 1) + _ ≤ _; omega
    have hme : (R5.drop N).length < rest.length := by rw [List.length_drop]; omega
    clear hX hsn hsq hst hN hR5 hwh HNOT HWP hln2 hln h1 h2
    generalize R5.drop N = RD at *
    generalize restD ra cr N = rb at *
    generalize cr - N = cs at *
    clear hlen5
    gi_wp2
    refine hR.mono ?_
    clear hR hy
    rintro e W3 (⟨rfl, hJ3, hk3⟩ | ⟨rfl, hJx3⟩)
    · have hb3 := hb2.trans hk3 (fun _ _ h => h)
      gi_wp2
      go_roundw
      case rel => exact ⟨pre ++ [X], rb, cs, RD, rfl, hdn, HX.out, hlm, hb3, hJ3⟩
      case measure => simp only [lenOf8]; exact hme
    · gi_wp2
      (try simp only [Exit.inBlock, Exit.then])
      refine bodyPost_ret (results_none rfl _ _ _) rfl ?_
      exact ⟨⟨_, rfl⟩, .inr ⟨_, ⟨_, HX.out⟩, hJx3⟩⟩
theorem pieces_stops (n : Nat) (hn : 1 ≤ n) (Bn : Nat) (w0 : World) (S : Nat → Prop) (ao0 : Option Addr) (c0 : Nat) (bs : List UInt8) (hm : bs.length ≤ 1000000) (hseg : SegA w0 S (.slice ao0 bs.length c0) bs) (w : World) (hw : Chg S w0 w) (hBn : Bn < w.heap.size) (hc : w.cell? ⟨Bn, 0, none⟩ = some (.slice ao0 bs.length c0)) :
    SeqStopsK Fence.wide n Tryz.prog 107 #[.pointer (some ⟨Bn, 0, none⟩)] (fun x : ItemT w0 S => #[.int .u8 (n8 x.1.2.1), x.1.1]) (Chg S) (fun ys => imgs ys = seqOf bs) (fun pre => ∃ rest, imgs pre ++ rest = seqOf bs) (bs.length / 5 + 1) w := fun l J Jx W hW hJ _ hY h0 =>
  pieces1_in n hn l Bn w0 S ao0 c0 bs hm hseg J Jx hY (fun pre V k h => hJ pre V (V.drewN k) none h ⟨rfl, rfl, rfl, Nat.le_refl _, fun _ _ _ => rfl⟩ (fun r e => by cases e)) W (hw.trans (Chg.of_below (S := S) hW (Nat.le_refl _)) (fun _ _ h => h)) ((hW.cell (p := ⟨Bn, 0, none⟩) hBn).trans hc) h0
end Go.Proofs.YtbegphfideopoaaGreat
namespace Go.Proofs.YtbegphfideopoaaGreat
open Go.RowKit

theorem Tryz.info34p : (Tryz.prog.info? 34).map (fun i => (i.zero, i.size, i.bytes)) = some (some (.slice none 0 0), 1, 24) := by kernel_rfl
/-- Blocks of unlike types are unlike. -/
theorem Blk.ne {w : World} {a b : Nat} {t t' : TypeId} {x y : Array Value} (h : Blk w a t x) (h' : Blk w b t' y) (ht : t ≠ t') : a ≠ b := fun e => by
  subst e
  unfold Blk at h h'
  rw [h] at h'
  injection h' with h'
  injection h' with _ h2
  exact ht h2
end Go.Proofs.YtbegphfideopoaaGreat
namespace Go.Proofs.YtbegphfideopoaaGreat
open Go.RowKit

/-- Rows of bytes of the call's own, in a slice of its own. -/
structure Gat (w : World) (base : Nat) (v : Value) (vs : List Value) (rs : List (List UInt8)) : Prop where
  own : w.ownsRow base 34 1 v rs.length vs
  rows : ∀ (i : Nat) u r, vs[i]? = some u → rs[i]? = some r → Own w base u r
theorem Gat.nil (w : World) (base : Nat) : Gat w base (.slice none 0 0) [] [] := ⟨⟨rfl, .inl ⟨rfl, rfl⟩⟩, fun i u r h => by simp at h⟩
theorem Gat.len {w : World} {base : Nat} {v : Value} {vs : List Value} {rs : List (List UInt8)} (h : Gat w base v vs rs) : vs.length = rs.length := by have := h.own.1; omega
theorem Gat.sl {w : World} {base : Nat} {v : Value} {vs : List Value} {rs : List (List UInt8)} (h : Gat w base v vs rs) : ∃ ao c, v = .slice ao rs.length c := by
  rcases h.own.2 with ⟨h1, h2⟩ | ⟨g, cap, cur, h1, _⟩
  · rw [h2]; exact ⟨_, _, h1⟩
  · exact ⟨_, _, h1⟩
theorem ownsRow_chg {S : Nat → Prop} {w w' : World} {base : Nat} {e : TypeId} {v : Value} {n : Nat} {xs : List Value} (h : w.ownsRow base e 1 v n xs) (hc : Chg S w w') (hv : ∀ k, v.ownBlock = some k → ¬ S k) : w'.ownsRow base e 1 v n xs := by
  refine ⟨h.1, ?_⟩
  rcases h.2 with h2 | ⟨g, cap, cur, h1, h2, h3, h4⟩
  · exact .inl h2
  · exact .inr ⟨g, cap, cur, h1, h2, by rw [hc.2 g (Array.getElem?_eq_some_iff.1 h3).1 (hv g (by rw [h1]; rfl))]; exact h3, h4⟩
theorem Gat.chg {S : Nat → Prop} {w w' : World} {base : Nat} {v : Value} {vs : List Value} {rs : List (List UInt8)} (h : Gat w base v vs rs) (hc : Chg S w w') (hS : ∀ q, S q → q < base) : Gat w' base v vs rs :=
  ⟨ownsRow_chg h.own hc (fun k hk e => by have := (World.ownsRow.lt h.own k hk).1; have := hS k e; omega), fun i u r hu hr => (h.rows i u r hu hr).chg hc (fun k hk e => by have := ((h.rows i u r hu hr).blocks k hk).1; have := hS k e; omega)⟩
theorem Gat.below {w w' : World} {B base : Nat} {v : Value} {vs : List Value} {rs : List (List UInt8)} (h : Gat w base v vs rs) (hb : Below B w w') (hB : w.heap.size ≤ B) : Gat w' base v vs rs :=
  ⟨ownsRow_chg h.own (Chg.of_below (S := fun _ => False) hb hB) (fun _ _ h => h), fun i u r hu hr => (h.rows i u r hu hr).below hb hB⟩
/-- What is put behind rows keeps bytes of the call's own. -/
theorem gat_keep {w w' : World} {base : Nat} {v : Value} {vs : List Value} {rs : List (List UInt8)} (hown : Gat w base v vs rs) (h3 : w.grownBy w' v.ownBlock) {u' : Value} {r' : List UInt8} (h : Own w base u' r') : Own w' base u' r' := by
  refine h.grown h3 ?_
  cases hv : v.ownBlock with
  | none => cases u'.ownBlock <;> simp
  | some q =>
    right
    intro e
    rcases h.2 with ⟨h1, _⟩ | ⟨g', cap', cur', h1, _, h4, _⟩
    · rw [h1] at e; cases e
    · rw [h1] at e
      obtain rfl : g' = q := Option.some.inj e
      rcases hown.own.2 with ⟨h5, _⟩ | ⟨g'', cap'', cur'', h5, _, h6, _⟩
      · rw [h5] at hv; cases hv
      · rw [h5] at hv
        obtain rfl : g'' = g' := Option.some.inj hv
        exact Blk.ne (show Blk w g'' 5 cur' from h4) (show Blk w g'' 34 cur'' from h6) (by decide) rfl
/-- append of one more row. -/
theorem app_row (w : World) {ops : Array Oper} {rest : List Oper} {o : Oper} {a : Act} {Q : Exit → Act → World → Prop} (hgd : o.guard = none) (s x : Operand)
    (ho : o.op = .call { callee := .builtin .append, args := #[s, x], argTypes := #[67, 67] })
    (base : Nat) (v : Value) (vs : List Value) (rs : List (List UInt8)) (hs : a.eval s = v) (hown : Gat w base v vs rs) (g c : Nat) (u : Value) (r : List UInt8) (hx : a.eval x = .slice (some ⟨g, 0, none⟩) 1 c) (hc : w.cell? ⟨g, 0, none⟩ = some u) (hu : Own w base u r)
    (hlen : rs.length ≤ 1000000) (hbase : base ≤ w.heap.size)
    (hK : ∀ v' w', Gat w' base v' (vs ++ [u]) (rs ++ [r]) → w.grownBy w' v.ownBlock → wpList Tryz.prog ops Q rest (a.put o.dst v') w') :
    wpList Tryz.prog ops Q (o :: rest) a w := by
  obtain ⟨i0, hi, hz0, hz1, hz2⟩ := info_parts Tryz.info34p
  have hu1 : u.oneCell' = true := by
    obtain ⟨ao, c', rfl⟩ := Seg.shapeD hu.seg
    rfl
  refine wpList_append_own_at w hgd s x 67 ho base 34 i0 (.slice none 0 0) 1 24 Tryz.underlying67 hi hz0 hz1 hz2 rfl (by decide) v rs.length vs hs hown.own ⟨g, 0, none⟩ 1 c [u] hx rfl (fun j y hy => ?_) (fun y hy => ?_) (by unfold maxLen; omega) (by omega) hbase ?_
  · match j, hy with
    | 0, hy => cases hy; exact hc
    | (j + 1), hy => cases hy
  · rw [show y = u by simpa using hy]; exact hu1
  intro v' w' h2 h3 _ _
  have hkeep : ∀ u' r', Own w base u' r' → Own w' base u' r' := fun u' r' h => by
    refine h.grown h3 ?_
    cases hv : v.ownBlock with
    | none => cases u'.ownBlock <;> simp
    | some q =>
      right
      intro e
      rcases h.2 with ⟨h1, _⟩ | ⟨g', cap', cur', h1, _, h4, _⟩
      · rw [h1] at e; cases e
      · rw [h1] at e
        obtain rfl : g' = q := Option.some.inj e
        rcases hown.own.2 with ⟨h5, _⟩ | ⟨g'', cap'', cur'', h5, _, h6, _⟩
        · rw [h5] at hv; cases hv
        · rw [h5] at hv
          obtain rfl : g'' = g' := Option.some.inj hv
          exact Blk.ne (show Blk w g'' 5 cur' from h4) (show Blk w g'' 34 cur'' from h6) (by decide) rfl
  refine hK v' w' ⟨by rw [List.length_append]; exact h2, fun i u' r' hu' hr' => ?_⟩ h3
  have hl := hown.len
  rcases Nat.lt_or_ge i vs.length with hi' | hi'
  · rw [List.getElem?_append_left hi'] at hu'
    rw [List.getElem?_append_left (by omega)] at hr'
    exact hkeep _ _ (hown.rows i u' r' hu' hr')
  · rw [List.getElem?_append_right hi'] at hu'
    rw [List.getElem?_append_right (by omega), ← hl] at hr'
    match hd : i - vs.length, hu', hr' with
    | 0, hu', hr' =>
      cases hu'; cases hr'
      exact hkeep _ _ hu
    | (j + 1), hu', hr' => simp at hu'
theorem Gat.at {w : World} {base : Nat} {v : Value} {vs : List Value} {rs : List (List UInt8)} (h : Gat w base v vs rs) {k : Nat} (hk : k < rs.length) : ∃ b c a cc, v = .slice (some ⟨b, 0, none⟩) rs.length c ∧ w.cell? ⟨b, k, none⟩ = some (.slice a (rs.getD k []).length cc) ∧ Seg w (.slice a (rs.getD k []).length cc) (rs.getD k []) := by
  have hl := h.len
  have hu : vs[k]? = some (vs[k]'(by omega)) := List.getElem?_eq_getElem (by omega)
  have hr : rs[k]? = some (rs.getD k []) := by rw [List.getD_eq_getElem?_getD, List.getElem?_eq_getElem hk]; rfl
  have ho := h.rows k _ _ hu hr
  obtain ⟨a, cc, e⟩ := Seg.shapeD ho.seg
  obtain ⟨b, c, hv, _, _⟩ := World.ownsRow.form h.own (by omega)
  refine ⟨b, c, a, cc, hv, ?_, e ▸ ho.seg⟩
  have := World.ownsRow.cells h.own (g := b) (by rw [hv]; rfl) k _ hu
  rw [Addr.add_mid, Nat.zero_add] at this
  rw [this, e]

end Go.Proofs.YtbegphfideopoaaGreat
