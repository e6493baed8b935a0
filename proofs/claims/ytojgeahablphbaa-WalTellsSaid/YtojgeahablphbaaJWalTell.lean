/-
  What is proved here: what was put as pieces is told: a state, in whichever parts, and the records behind it; how many bytes they take.
  Conditions: those that each fact names.
-/
import Derived.Test.YtojgeahablphbaaJWalPure
namespace Go.Proofs.Ytojgeahablphbaa

def tellT (t : TS) : TS := goT t.b.length t
theorem tellT_step {t : TS} (h : fitsT t = true) : tellT t = tellT (stepT t) := by
  have h1 := (fitsT_len h).1
  have h2 := stepT_less h
  obtain ⟨n, hn⟩ : ∃ n, t.b.length = n + 1 := ⟨t.b.length - 1, by omega⟩
  unfold tellT
  rw [hn]
  show (if fitsT t then goT n (stepT t) else t) = _
  rw [if_pos h]
  exact goT_more _ _ _ (by omega) (Nat.le_refl _)
theorem tellT_stop {t : TS} (h : fitsT t = false) : tellT t = t := by
  unfold tellT
  cases hn : t.b.length with
  | zero => rfl
  | succ n =>
    show (if fitsT t then goT n (stepT t) else t) = _
    rw [if_neg (by rw [h]; decide)]
theorem of4_piece (k : Nat) (x rest : List UInt8) (h : x.length ≤ 4096) : of4 ((pieceB k x ++ rest).drop 1) = x.length := by
  show of4 ((num4 x.length ++ x) ++ rest) = _
  rw [List.append_assoc]
  exact of4_num4 _ (by omega) _
theorem kind_piece (k : Nat) (x rest : List UInt8) (h : k < 256) : ((pieceB k x ++ rest).getD 0 0).toNat = k := by
  show (UInt8.ofNat k).toNat = k
  rw [UInt8.toNat_ofNat']
  exact Nat.mod_eq_of_lt h
theorem drop_piece (k : Nat) (x rest : List UInt8) : (pieceB k x ++ rest).drop (5 + x.length) = rest := by
  rw [List.drop_append, List.drop_of_length_le (by rw [pieceB_len]; omega), pieceB_len, show 5 + x.length - (x.length + 5) = 0 by omega]
  simp
theorem take_piece (k : Nat) (x rest : List UInt8) : ((pieceB k x ++ rest).drop 5).take x.length = x := by
  show ((x ++ rest)).take x.length = x
  rw [List.take_left]
theorem fits_piece {t : TS} {k : Nat} {x rest : List UInt8} (hb : t.b = pieceB k x ++ rest) (hx : x.length ≤ 4096) (h1 : 1 ≤ k) (h3 : k ≤ 3) (hw : t.whole = decide (k = 3)) : fitsT t = true := by
  unfold fitsT
  rw [hb, of4_piece k x rest hx, kind_piece k x rest (by omega), hw, List.length_append, pieceB_len]
  simp only [Bool.and_eq_true, decide_eq_true_eq]
  refine ⟨⟨⟨⟨⟨by omega, hx⟩, by omega⟩, h1⟩, h3⟩, ?_⟩
  first | rfl | trivial | simp
theorem step_piece {t : TS} {k : Nat} {x rest : List UInt8} (hb : t.b = pieceB k x ++ rest) (hx : x.length ≤ 4096) (h3 : k ≤ 3) : stepT t = if k = 3 then { t with b := rest, recs := t.recs ++ [x] } else { t with b := rest, state := t.state ++ x, whole := decide (k = 2) } := by
  unfold stepT pieceT
  rw [hb, of4_piece k x rest hx, kind_piece k x rest (by omega), drop_piece, take_piece]
/-- Records' pieces. -/
def recsB (rs : List (List UInt8)) : List UInt8 := (rs.map (pieceB 3)).flatten
theorem recsB_snoc (rs : List (List UInt8)) (x : List UInt8) : recsB (rs ++ [x]) = recsB rs ++ pieceB 3 x := by simp [recsB]
theorem tell_recs : ∀ (rs : List (List UInt8)), (∀ x ∈ rs, x.length ≤ 4096) → ∀ (st : List UInt8) (acc : List (List UInt8)), tellT ⟨recsB rs, st, acc, true⟩ = ⟨[], st, acc ++ rs, true⟩
  | [], _, st, acc => by rw [List.append_nil]; exact tellT_stop rfl
  | x :: rs, h, st, acc => by
    have hb : recsB (x :: rs) = pieceB 3 x ++ recsB rs := by simp [recsB]
    have hx := h x List.mem_cons_self
    rw [tellT_step (fits_piece (k := 3) (x := x) (rest := recsB rs) hb hx (by decide) (by decide) rfl), step_piece (k := 3) (x := x) (rest := recsB rs) hb hx (by decide), if_pos rfl]
    show tellT ⟨recsB rs, st, acc ++ [x], true⟩ = _
    rw [tell_recs rs (fun y hy => h y (List.mem_cons_of_mem _ hy)) st (acc ++ [x]), List.append_assoc]
    rfl
theorem tell_parts : ∀ (n : Nat) (b : List UInt8), b.length ≤ n * 1024 + 1024 → ∀ (acc rest : List UInt8), tellT ⟨partsB n b ++ rest, acc, [], false⟩ = tellT ⟨rest, acc ++ b, [], true⟩
  | 0, b, h, acc, rest => by
    have hx : b.length ≤ 4096 := by omega
    rw [tellT_step (fits_piece (k := 2) (x := b) (rest := rest) rfl hx (by decide) (by decide) rfl), step_piece (k := 2) (x := b) (rest := rest) rfl hx (by decide), if_neg (by decide)]
    rfl
  | n + 1, b, h, acc, rest => by
    by_cases hl : 1024 < b.length
    · have e : partsB (n + 1) b = pieceB 1 (b.take 1024) ++ partsB n (b.drop 1024) := by show (if 1024 < b.length then _ else _) = _; rw [if_pos hl]
      have hx : (b.take 1024).length ≤ 4096 := by rw [List.length_take]; omega
      rw [e, List.append_assoc]
      rw [tellT_step (fits_piece (k := 1) (x := b.take 1024) (rest := partsB n (b.drop 1024) ++ rest) rfl hx (by decide) (by decide) rfl), step_piece (k := 1) (x := b.take 1024) (rest := partsB n (b.drop 1024) ++ rest) rfl hx (by decide), if_neg (by decide)]
      show tellT ⟨partsB n (b.drop 1024) ++ rest, acc ++ b.take 1024, [], false⟩ = _
      rw [tell_parts n (b.drop 1024) (by rw [List.length_drop]; omega) (acc ++ b.take 1024) rest, List.append_assoc, List.take_append_drop]
    · have e : partsB (n + 1) b = pieceB 2 b := by show (if 1024 < b.length then _ else _) = _; rw [if_neg hl]
      have hx : b.length ≤ 4096 := by omega
      rw [e, tellT_step (fits_piece (k := 2) (x := b) (rest := rest) rfl hx (by decide) (by decide) rfl), step_piece (k := 2) (x := b) (rest := rest) rfl hx (by decide), if_neg (by decide)]
      rfl
/-- What was put is told. -/
theorem told_put (st : List UInt8) (rs : List (List UInt8)) (h : ∀ x ∈ rs, x.length ≤ 4096) : toldB (stateB st ++ recsB rs) = (st, rs) := by
  have e : tellB (stateB st ++ recsB rs) = ⟨[], st, rs, true⟩ := by
    show tellT ⟨stateB st ++ recsB rs, [], [], false⟩ = _
    unfold stateB
    rw [tell_parts st.length st (by omega) [] (recsB rs), tell_recs rs h]
    rfl
  unfold toldB
  rw [e]
  rfl
theorem partsB_len : ∀ (n : Nat) (b : List UInt8), b.length ≤ n * 1024 + 1024 → (partsB n b).length = b.length + 5 * max ((b.length + 1023) / 1024) 1
  | 0, b, h => by
    show (pieceB 2 b).length = _
    rw [pieceB_len]
    omega
  | n + 1, b, h => by
    by_cases hl : 1024 < b.length
    · have e : partsB (n + 1) b = pieceB 1 (b.take 1024) ++ partsB n (b.drop 1024) := by show (if 1024 < b.length then _ else _) = _; rw [if_pos hl]
      rw [e, List.length_append, pieceB_len, partsB_len n (b.drop 1024) (by rw [List.length_drop]; omega), List.length_take, List.length_drop]
      omega
    · have e : partsB (n + 1) b = pieceB 2 b := by show (if 1024 < b.length then _ else _) = _; rw [if_neg hl]
      rw [e, pieceB_len]
      omega
theorem stateB_len (b : List UInt8) : (stateB b).length = b.length + 5 * max ((b.length + 1023) / 1024) 1 := partsB_len b.length b (by omega)
end Go.Proofs.Ytojgeahablphbaa
