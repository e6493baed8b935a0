/-
  What is proved here: of all numbers and rows of bytes, the statement FlashArms answers true: the power goes in just that change which was armed, when so many bytes are done; those ahead of it are whole, those behind it not done.
  Conditions: the program's flash keeps to what is asked of it.
-/
import Derived.Test.YtjcbkimibmdggaaFlashCalm
namespace Go.Proofs.Ytjcbkimibmdggaa
open Go.RowKit

/-- Rows of bytes: a slice of slices that came in. -/
def Segs6 (w : World) (v : Value) (L : List (List UInt8)) : Prop :=
  ∃ ao c, v = .slice ao L.length c ∧ L.length ≤ maxLen ∧ (0 < L.length → ∃ b off, ao = some ⟨b, off, none⟩ ∧ b < w.heap.size ∧ L.length ≤ c ∧ ∀ i r, L[i]? = some r → ∃ a n cc, w.cell? ⟨b, off + i, none⟩ = some (.slice a n cc) ∧ r.length = n ∧ n ≤ maxLen ∧ Seg w (.slice a n cc) r)
/-- The first n of these bytes are put from a place on. -/
def putL (l : List UInt8) (a : Nat) (b : List UInt8) (n : Nat) : List UInt8 := (List.range l.length).map fun i => if a ≤ i ∧ i < a + n then b.getD (i - a) 0 else l.getD i 0
theorem putL_len (l : List UInt8) (a : Nat) (b : List UInt8) (n : Nat) : (putL l a b n).length = l.length := by simp [putL]
theorem putL_at (l : List UInt8) (a : Nat) (b : List UInt8) (n i : Nat) (h : i < l.length) : (putL l a b n).getD i 0 = if a ≤ i ∧ i < a + n then b.getD (i - a) 0 else l.getD i 0 := by
  simp [putL, h]
theorem putL_zero (l : List UInt8) (a : Nat) (b : List UInt8) : putL l a b 0 = l :=
  bytes_ext (putL_len ..) fun i h => by rw [putL_at _ _ _ _ _ (by rwa [putL_len] at h), if_neg (by omega)]
theorem putL_step (l : List UInt8) (a : Nat) (b : List UInt8) (n : Nat) (h : a + n < l.length) : (putL l a b n).set (a + n) (b.getD n 0) = putL l a b (n + 1) := by
  refine bytes_ext (by rw [List.length_set, putL_len, putL_len]) fun i hi => ?_
  rw [List.length_set, putL_len] at hi
  rw [getD_set8 _ _ _ _ (by rw [putL_len]; exact h), putL_at _ _ _ _ _ hi, putL_at _ _ _ _ _ hi]
  by_cases e : i = a + n
  · subst e
    rw [if_pos rfl, if_pos (by omega), show a + n - a = n by omega]
  · rw [if_neg e]
    by_cases h2 : a ≤ i ∧ i < a + n
    · rw [if_pos h2, if_pos (by omega)]
    · rw [if_neg h2, if_neg (by omega)]
theorem and_ones (x : UInt8) : 255 &&& x = x := by
  apply UInt8.toNat_inj.1
  rw [UInt8.toNat_and, show (255 : UInt8).toNat = 2 ^ 8 - 1 from rfl, Nat.and_comm, Nat.and_two_pow_sub_one_eq_mod]
  exact Nat.mod_eq_of_lt x.toNat_lt
theorem prog_put (l : List UInt8) (a : Nat) (b : List UInt8) (n : Nat) (h : ∀ j, a ≤ j → j < a + n → l.getD j 0 = 255) : progL l a b n = putL l a b n := by
  refine bytes_ext (by rw [progL_len, putL_len]) fun i hi => ?_
  rw [progL_len] at hi
  rw [progL_at _ _ _ _ _ hi, putL_at _ _ _ _ _ hi]
  by_cases h2 : a ≤ i ∧ i < a + n
  · rw [if_pos h2, if_pos h2, h i h2.1 h2.2, and_ones]
  · rw [if_neg h2, if_neg h2]
/-- How it stands behind so many changes: A bytes were handed over, B is what there should be. -/
structure ArmI (s : FS) (C D : Int) (I A : Nat) (B : List UInt8) : Prop where
  len : B.length = 4096
  a : A ≤ 30 * I
  b : s.b = B
  on : (I : Int) ≤ C → s.down = false ∧ s.armed = C - (I : Int) ∧ s.done = D ∧ ∀ j, A ≤ j → j < 4096 → B.getD j 0 = 255
  off : C < (I : Int) → s.down = true
theorem ArmI.there {s : FS} {C D : Int} {I A : Nat} {B : List UInt8} (h : ArmI s C D I A B) (r : List UInt8) (hr : r.length ≤ 30) (hI : I < 100) : thereB s (A : Int) (r.length : Int) = true := by
  have h1 := h.a
  exact there_true (by omega) (by omega) (by omega) (by rw [h.b, h.len]; omega)
theorem ArmI.ahead {s : FS} {C D : Int} {I A : Nat} {B : List UInt8} (h : ArmI s C D I A B) (r : List UInt8) (hr : r.length ≤ 30) (hI : I < 100) (hC : (I : Int) < C) :
    (programF s (A : Int) r).1 = 0 ∧ ArmI (programF s (A : Int) r).2 C D (I + 1) (A + r.length) (putL B A r r.length) := by
  obtain ⟨h1, h2, h3, h4⟩ := h.on (by omega)
  have ha := h.a
  have hg : goesF s r.length = (r.length, 0, { s with armed := s.armed - 1 }) := by
    unfold goesF
    rw [if_neg (by omega), if_pos (by omega)]
  have hp : programF s (A : Int) r = (0, { s with armed := s.armed - 1, b := progL B A r r.length }) := by
    unfold programF
    rw [h.there r hr hI, if_neg (by decide), if_neg (by rw [h1]; decide), hg, h.b, Int.toNat_natCast]
  rw [hp, prog_put _ _ _ _ (fun j j1 j2 => h4 j j1 (by omega))]
  refine ⟨rfl, ⟨by rw [putL_len]; exact h.len, by omega, rfl, fun _ => ⟨h1, by show s.armed - 1 = C - ((I + 1 : Nat) : Int); omega, h3, fun j j1 j2 => ?_⟩, fun e => by omega⟩⟩
  rw [putL_at _ _ _ _ _ (by rw [h.len]; exact j2), if_neg (by omega)]
  exact h4 j (by omega) j2
theorem ArmI.here {s : FS} {C D : Int} {I A : Nat} {B : List UInt8} (h : ArmI s C D I A B) (r : List UInt8) (hr : r.length ≤ 30) (hI : I < 100) (hC : (I : Int) = C) (N : Nat) (hN : (N : Int) = min (r.length : Int) D) :
    (programF s (A : Int) r).1 = 7 ∧ ArmI (programF s (A : Int) r).2 C D (I + 1) (A + r.length) (putL B A r N) := by
  obtain ⟨h1, h2, h3, h4⟩ := h.on (by omega)
  have ha := h.a
  have hg : goesF s r.length = (N, 7, { s with armed := -1, down := true }) := by
    unfold goesF
    rw [if_neg (by omega), if_neg (by omega), h3, ← hN, Int.toNat_natCast]
  have hp : programF s (A : Int) r = (7, { s with armed := -1, down := true, b := progL B A r N }) := by
    unfold programF
    rw [h.there r hr hI, if_neg (by decide), if_neg (by rw [h1]; decide), hg, h.b, Int.toNat_natCast]
  rw [hp, prog_put _ _ _ _ (fun j j1 j2 => h4 j j1 (by omega))]
  exact ⟨rfl, ⟨by rw [putL_len]; exact h.len, by omega, rfl, fun e => by omega, fun _ => rfl⟩⟩
theorem ArmI.behind {s : FS} {C D : Int} {I A : Nat} {B : List UInt8} (h : ArmI s C D I A B) (r : List UInt8) (hr : r.length ≤ 30) (hI : I < 100) (hC : C < (I : Int)) :
    (programF s (A : Int) r).1 = 7 ∧ ArmI (programF s (A : Int) r).2 C D (I + 1) (A + r.length) B := by
  have h1 := h.off hC
  have ha := h.a
  have hp : programF s (A : Int) r = (7, s) := by
    unfold programF
    rw [h.there r hr hI, if_neg (by decide), if_pos h1]
  rw [hp]
  exact ⟨rfl, ⟨h.len, by omega, h.b, fun e => by omega, fun _ => h1⟩⟩
theorem arm_start (C D : Int) (hC : 0 ≤ C) (hD : 0 ≤ D) : ArmI (armF (newF 4 5) C D) C D 0 0 (List.replicate 4096 255) :=
  ⟨List.length_replicate .., Nat.le_refl _, rfl, fun _ => ⟨rfl, by show max C 0 = C - ((0 : Nat) : Int); omega, by show max D 0 = D; omega, fun j _ h => by rw [List.getD_eq_getElem?_getD, List.getElem?_replicate, if_pos h]; rfl⟩, fun e => by omega⟩
/-- A byte put into what is wanted. -/
theorem blk_put {w : World} {g : Nat} {l : List UInt8} (h : Blk w g 5 (l.map v8).toArray) (k : Nat) (x : UInt8) : Blk (w.setCell ⟨g, k, none⟩ (v8 x)) g 5 ((l.set k x).map v8).toArray := (h.set k (v8 x)).of_eq (by simp [List.map_set])

set_option maxRecDepth 100000 in
set_option maxHeartbeats 8000000 in
theorem flashArms_any (P : PF) (C D : Int) (v : Value) (l : List (List UInt8)) (w : World) (hC : R64 C) (hD : R64 D) (hl : Segs6 w v l) :
    Calls Try.prog 8 #[.int .i64 C, .int .i64 D, v] w fun e w' => e = .returned (.bool true) ∧ Below w.heap.size w w' := by
  obtain ⟨ao, c, rfl, hlm, hrows⟩ := hl
  unfold maxLen at hlm
  go_enter Try.func8, Try.ntmps8
  go_wp2_with fail
  refine (awake6_any P _).mono ?_
  rintro e w1 ⟨rfl, hB1⟩
  go_wp2_with fail
  have HN : Hid (Calls Try.prog 10 #[.int .i64 4, .int .i64 5] w1 fun e w' => ∃ L : P.Lay, e = .returned (.tuple #[.pointer (some ⟨P.g L, 0, none⟩), .int .i64 0]) ∧ P.n L = 4 ∧ P.Rel w' L (newF 4 5) ∧ Below w1.heap.size w1 w' ∧ (∀ q, P.T L q → w1.heap.size ≤ q)) := P.new_any 4 5 w1 (by decide) (by decide) (by decide) (by decide)
  refine HN.out.mono ?_
  rintro e w2 ⟨L, rfl, hLn, hD2, hb2, hT2⟩
  have hB2 : Below w.heap.size w w2 := hB1.trans (hb2.mono hB1.size)
  have hTL : ∀ q, P.T L q → w.heap.size ≤ q := fun q h => Nat.le_trans hB1.size (hT2 q h)
  clear HN hb2 hT2 hB1
  by_cases h1 : C < 0
  · go_wp2
    go_ret
    exact ⟨rfl, hB2⟩
  by_cases h2 : D < 0
  · go_wp2
    go_ret
    exact ⟨rfl, hB2⟩
  by_cases h3 : 100 < l.length
  · have j3 : (100 : Int) < (l.length : Int) := by omega
    go_wp2
    go_ret
    exact ⟨rfl, hB2⟩
  have j3 : ¬ (100 : Int) < (l.length : Int) := by omega
  go_wp2_with fail
  refine (P.arm L _ C D w2 hD2 hC hD).mono ?_
  rintro e w3 ⟨rfl, hD3, hc3⟩
  have hB3 : Below w.heap.size w w3 := hB2.trans (hc3.below hTL hB2.size)
  have hA0 := arm_start C D (by omega) (by omega)
  generalize armF (newF 4 5) C D = s0 at *
  have hmk : ∀ W : World, (Instr.makeSlice 35 (.int .i64 4096) (.int .i64 4096)).run Try.prog W = .ok (.slice (some ⟨W.heap.size, 0, none⟩) 4096 4096) (W.alloc (.cells (zbytes 4096) 5)) := fun W => by
    have := run_make_row' (P := Try.prog) 35 5 (.int .u8 0) 1 Try.underlying35 Try.info5q rfl .i64 .i64 4096 (by omega) (by omega) W
    rw [made_zbytes] at this
    exact this
  have hbw0 : Blk (w3.alloc (.cells (zbytes 4096) 5)) w3.heap.size 5 ((onesL (List.replicate 4096 0) 0 0).map v8).toArray := by rw [onesL_zero]; exact Blk.new w3 5 _
  have hlz : (List.replicate 4096 (0 : UInt8)).length = 4096 := List.length_replicate ..
  have hfin := ones_all 4096
  generalize List.replicate 4096 (0 : UInt8) = Z at *
  generalize zbytes 4096 = ZB at *
  have hb4 : Below w3.heap.size w3 (w3.alloc (.cells ZB 5)) := (Below.refl _ w3).alloc (Nat.le_refl _) _
  have hD4 := P.after hD3 hb4
  have hB4 : Below w.heap.size w (w3.alloc (.cells ZB 5)) := hB3.trans (hb4.mono hB3.size)
  obtain ⟨bw, hbw⟩ : ∃ bw, bw = w3.heap.size := ⟨_, rfl⟩
  rw [← hbw] at hbw0
  have hoff : ∀ q, P.T L q → q ≠ bw := fun q h e => by have := P.lt hD3 q h; omega
  have hwb : w.heap.size ≤ bw := by rw [hbw]; exact hB3.size
  clear hD2 hD3 hc3 hb4 hB2
  go_wp2_with fail
  rw [← hbw]
  have HOFF : Hid (∀ q, P.T L q → q ≠ bw) := hoff
  have HTL : Hid (∀ q, P.T L q → w.heap.size ≤ q) := hTL
  clear hbw hoff hTL
  generalize w3.alloc (.cells ZB 5) = w4 at *
  go_loopw [12] (fun i wr => ∃ I : Nat, i = .int .i64 (I : Int) ∧ I ≤ 4096 ∧ P.Rel wr L s0 ∧ Blk wr bw 5 ((onesL Z 0 I).map v8).toArray ∧ Below w.heap.size w wr) (fun i _ => 4096 - (intOf i).toNat)
  case atStart => exact ⟨0, rfl, Nat.zero_le _, hD4, hbw0, hB4⟩
  case round =>
    obtain ⟨I, rfl, hI, hDr, hbr, hBr⟩ := hrel
    clear hD4 hbw0 hB4
    by_cases hlt : I < 4096
    · have i1 : (I : Int) < 4096 := by omega
      have hc := hbr.cell (j := I) (bytes_at (by rw [onesL_len, hlz]; exact hlt))
      have hf := hbr.frozen I
      have hput := blk_put hbr I 255
      have HS : Hid ((onesL Z 0 I).set I 255 = onesL Z 0 (I + 1)) := by show _ = _; have := onesL_step Z 0 I (by rw [hlz]; omega); rwa [Nat.zero_add] at this
      have hcg : Chg (fun q => q = bw) wr (wr.setCell ⟨bw, I, none⟩ (v8 255)) := (Chg.refl (fun q => q = bw) wr).setCell bw I _ (fun _ => rfl)
      have hDn := P.chg hDr hcg (fun q h => HOFF.out q h)
      have hBn : Below w.heap.size w (wr.setCell ⟨bw, I, none⟩ (v8 255)) := hBr.trans (hcg.below (fun k e => by rw [e]; exact hwb) hBr.size)
      rw [HS.out] at hput
      clear HS hbr
      go_wp2
      go_roundw
      case rel => exact ⟨I + 1, by go_num, hlt, hDn, hput, hBn⟩
      case measure => simp [intOf]; omega
    · have i1 : ¬ (I : Int) < 4096 := by omega
      obtain rfl : I = 4096 := by omega
      rw [hfin] at hbr
      clear hfin hlz
      go_wp2_with fail
      go_loopw [10, 13] (fun av i wr => ∃ (I A : Nat) (B : List UInt8) (s : FS), av = .int .i64 (A : Int) ∧ i = .int .i64 (I : Int) ∧ I ≤ l.length ∧ ArmI s C D I A B ∧ P.Rel wr L s ∧ Blk wr bw 5 (B.map v8).toArray ∧ Below w.heap.size w wr) (fun _ i _ => l.length - (intOf i).toNat)
      case atStart => exact ⟨0, 0, _, s0, rfl, rfl, Nat.zero_le _, hA0, hDr, hbr, hBr⟩
      case round =>
        obtain ⟨I, A, B, s, rfl, rfl, hIl, hA, hDs, hbs, hBs⟩ := hrel
        clear hA0 hDr hbr hBr
        by_cases hgo : I < l.length
        · have k1 : (I : Int) < (l.length : Int) := by omega
          obtain ⟨b, off, rfl, hbw1, hcx, hcell⟩ := hrows (by omega)
          obtain ⟨r, hr⟩ : ∃ r, l[I]? = some r := ⟨l[I], List.getElem?_eq_getElem hgo⟩
          obtain ⟨ra, n, cc, hce, hrn, hnm, hsg⟩ := hcell I r hr
          have hce' : wr.cell? ⟨b, off + I, none⟩ = some (.slice ra n cc) := ((bcell hBs).1 b (off + I) hbw1).trans hce
          clear hcell hr
          by_cases hbig : 30 < n
          · go_wp2_with fail
            go_ret
            exact ⟨rfl, hBs⟩
          have hnb : ¬ (30 : Int) < (n : Int) := by omega
          subst hrn
          have hAl : A + r.length ≤ 4096 := by have := hA.a; omega
          have hAm : A ≤ 3000 := by have := hA.a; omega
          have hBl := hA.len
          go_wp2_with fail
          refine (P.program L s (A : Int) _ r wr hDs (r64_small _ (by omega) (by omega)) (hsg.below hBs (Nat.le_refl _)) hnm (hsg.apart6 HTL.out)).mono ?_
          rintro e w5 ⟨rfl, hD5, hc5⟩
          have hB5 : Below w.heap.size w w5 := hBs.trans (hc5.below HTL.out hBs.size)
          have hbs5 : Blk w5 bw 5 (B.map v8).toArray := hbs.chg hc5 (fun e => HOFF.out bw e rfl)
          have hce5 : w5.cell? ⟨b, off + I, none⟩ = some (.slice ra r.length cc) := ((bcell hB5).1 b (off + I) hbw1).trans hce
          clear hDs hbs hBs hc5 hce'
          unfold R64 at hC hD
          unfold maxLen at hnm
          rcases Int.lt_trichotomy (I : Int) C with hIC | hIC | hIC
          · obtain ⟨he5, hA5⟩ := hA.ahead r (by omega) (by omega) hIC
            rw [he5]
            generalize (programF s (A : Int) r).2 = s5 at *
            clear he5 hA
            have hEq : ((I : Int) == C) = false := by simp; omega
            have hLe : (I : Int) ≤ C := by omega
            have hNr : r.length ≤ r.length := by omega
            go_wp2_with fail
            go_loopw [16] (fun k wk => ∃ J : Nat, k = .int .i64 (J : Int) ∧ J ≤ r.length ∧ Blk wk bw 5 ((putL B A r J).map v8).toArray ∧ Chg (fun q => q = bw) w5 wk) (fun k _ => r.length - (intOf k).toNat)
            case atStart => exact ⟨0, rfl, Nat.zero_le _, by rw [putL_zero]; exact hbs5, Chg.refl _ _⟩
            case round =>
              obtain ⟨J, rfl, hJ, hbk, hck⟩ := hrel
              have hBk : Below w.heap.size w wr := hB5.trans (hck.below (fun q e => by rw [e]; exact hwb) hB5.size)
              by_cases hlt2 : J < r.length
              · have m1 : (J : Int) < (r.length : Int) := by omega
                have hJr : J < r.length := by omega
                have hcek : wr.cell? ⟨b, off + I, none⟩ = some (.slice ra r.length cc) := ((bcell hBk).1 b (off + I) hbw1).trans hce
                obtain ⟨rb, ro, rfl, hrc, hrow, hrl⟩ := (hsg.below hBk (Nat.le_refl _)).formD (by omega)
                have hcj : wr.cell? ⟨rb, ro + J, none⟩ = some (v8 (r.getD J 0)) := by rw [hrow J hJr]; simp [hJr]
                obtain ⟨PP, hPP⟩ : ∃ PP, PP = A + J := ⟨_, rfl⟩
                have hPl : PP < 4096 := by have := hAl; omega
                have hwr : IntKind.i64.wrap ((A : Int) + (J : Int)) = (PP : Int) := by rw [IntKind.wrap_i64]; omega
                have hix := index_bytesZ bw 0 4096 4096 (PP : Int) PP rfl hPl
                rw [Nat.zero_add] at hix
                have hiy := index_bytesZ rb ro r.length cc (J : Int) J rfl hJr
                have hcc := hbk.cell (j := PP) (bytes_at (by rw [putL_len, hBl]; exact hPl))
                have hff := hbk.frozen PP
                have hput := blk_put hbk PP (r.getD J 0)
                have HS : Hid ((putL B A r J).set PP (r.getD J 0) = putL B A r (J + 1)) := by show _ = _; rw [hPP]; exact putL_step B A r J (by rw [hBl]; omega)
                have hckn : Chg (fun q => q = bw) w5 (wr.setCell ⟨bw, PP, none⟩ (v8 (r.getD J 0))) := hck.setCell bw PP _ (fun _ => rfl)
                rw [HS.out] at hput
                generalize r.getD J 0 = Y at *
                generalize ((putL B A r J).getD PP 0) = Y0 at *
                clear hPP hPl HS hbk hrow hrl
                go_wp2
                go_roundw
                case rel => exact ⟨J + 1, by go_num, hlt2, hput, hckn⟩
                case measure => simp [intOf]; omega
              · have m1 : ¬ (J : Int) < (r.length : Int) := by omega
                obtain rfl : J = r.length := by omega
                have hcek : wr.cell? ⟨b, off + I, none⟩ = some (.slice ra r.length cc) := ((bcell hBk).1 b (off + I) hbw1).trans hce
                have hDk := P.chg hD5 hck (fun q h => HOFF.out q h)
                go_wp2_with fail
                go_roundw
                case rel => exact ⟨I + 1, A + r.length, _, _, by go_num, by go_num, hgo, hA5, hDk, hbk, hBk⟩
                case measure => simp [intOf]; omega

          · obtain ⟨N, hN⟩ : ∃ N : Nat, (N : Int) = min (r.length : Int) D := ⟨(min (r.length : Int) D).toNat, by omega⟩
            obtain ⟨he5, hA5⟩ := hA.here r (by omega) (by omega) hIC N hN
            rw [he5]
            generalize (programF s (A : Int) r).2 = s5 at *
            clear he5 hA
            have hEq : ((I : Int) == C) = true := by simp; omega
            have hLe : (I : Int) ≤ C := by omega
            have hLt : ¬ (I : Int) < C := by omega
            have hmin : min (r.length : Int) D = (N : Int) := hN.symm
            have HN : Hid (N ≤ r.length) := by show _ ≤ _; omega
            clear hIC hN
            have hNr : N ≤ r.length := HN.out
            go_wp2_with fail
            go_loopw [16] (fun k wk => ∃ J : Nat, k = .int .i64 (J : Int) ∧ J ≤ N ∧ Blk wk bw 5 ((putL B A r J).map v8).toArray ∧ Chg (fun q => q = bw) w5 wk) (fun k _ => N - (intOf k).toNat)
            case atStart => exact ⟨0, rfl, Nat.zero_le _, by rw [putL_zero]; exact hbs5, Chg.refl _ _⟩
            case round =>
              obtain ⟨J, rfl, hJ, hbk, hck⟩ := hrel
              have hBk : Below w.heap.size w wr := hB5.trans (hck.below (fun q e => by rw [e]; exact hwb) hB5.size)
              by_cases hlt2 : J < N
              · have m1 : (J : Int) < (N : Int) := by omega
                have hJr : J < r.length := by omega
                have hcek : wr.cell? ⟨b, off + I, none⟩ = some (.slice ra r.length cc) := ((bcell hBk).1 b (off + I) hbw1).trans hce
                obtain ⟨rb, ro, rfl, hrc, hrow, hrl⟩ := (hsg.below hBk (Nat.le_refl _)).formD (by omega)
                have hcj : wr.cell? ⟨rb, ro + J, none⟩ = some (v8 (r.getD J 0)) := by rw [hrow J hJr]; simp [hJr]
                obtain ⟨PP, hPP⟩ : ∃ PP, PP = A + J := ⟨_, rfl⟩
                have hPl : PP < 4096 := by have := hAl; omega
                have hwr : IntKind.i64.wrap ((A : Int) + (J : Int)) = (PP : Int) := by rw [IntKind.wrap_i64]; omega
                have hix := index_bytesZ bw 0 4096 4096 (PP : Int) PP rfl hPl
                rw [Nat.zero_add] at hix
                have hiy := index_bytesZ rb ro r.length cc (J : Int) J rfl hJr
                have hcc := hbk.cell (j := PP) (bytes_at (by rw [putL_len, hBl]; exact hPl))
                have hff := hbk.frozen PP
                have hput := blk_put hbk PP (r.getD J 0)
                have HS : Hid ((putL B A r J).set PP (r.getD J 0) = putL B A r (J + 1)) := by show _ = _; rw [hPP]; exact putL_step B A r J (by rw [hBl]; omega)
                have hckn : Chg (fun q => q = bw) w5 (wr.setCell ⟨bw, PP, none⟩ (v8 (r.getD J 0))) := hck.setCell bw PP _ (fun _ => rfl)
                rw [HS.out] at hput
                generalize r.getD J 0 = Y at *
                generalize ((putL B A r J).getD PP 0) = Y0 at *
                clear hPP hPl HS hbk hrow hrl
                go_wp2
                go_roundw
                case rel => exact ⟨J + 1, by go_num, hlt2, hput, hckn⟩
                case measure => simp [intOf]; omega
              · have m1 : ¬ (J : Int) < (N : Int) := by omega
                obtain rfl : J = N := by omega
                have hcek : wr.cell? ⟨b, off + I, none⟩ = some (.slice ra r.length cc) := ((bcell hBk).1 b (off + I) hbw1).trans hce
                have hDk := P.chg hD5 hck (fun q h => HOFF.out q h)
                go_wp2_with fail
                go_roundw
                case rel => exact ⟨I + 1, A + r.length, _, _, by go_num, by go_num, hgo, hA5, hDk, hbk, hBk⟩
                case measure => simp [intOf]; omega

          · obtain ⟨he5, hA5⟩ := hA.behind r (by omega) (by omega) hIC
            rw [he5]
            generalize (programF s (A : Int) r).2 = s5 at *
            clear he5 hA
            have hEq : ((I : Int) == C) = false := by simp; omega
            have hLe : ¬ (I : Int) ≤ C := by omega
            have hLt : ¬ (I : Int) < C := by omega
            go_wp2_with fail
            go_loopw [16] (fun k wk => k = .int .i64 0 ∧ w5 = wk) (fun _ _ => 0)
            case atStart => exact ⟨rfl, rfl⟩
            case round =>
              obtain ⟨rfl, rfl⟩ := hrel
              by_cases h0 : 0 < r.length
              · have m1 : (0 : Int) < (r.length : Int) := by omega
                go_wp2_with fail
                go_roundw
                case rel => exact ⟨I + 1, A + r.length, _, _, by go_num, by go_num, hgo, hA5, hD5, hbs5, hB5⟩
                case measure => simp [intOf]; omega
              · have m1 : ¬ (0 : Int) < (r.length : Int) := by omega
                go_wp2_with fail
                go_roundw
                case rel => exact ⟨I + 1, A + r.length, _, _, by go_num, by go_num, hgo, hA5, hD5, hbs5, hB5⟩
                case measure => simp [intOf]; omega
        · have k1 : ¬ (I : Int) < (l.length : Int) := by omega
          go_wp2_with fail
          refine (P.power L s wr hDs).mono ?_
          rintro e w5 ⟨rfl, hD5, hc5⟩
          have hB5 : Below w.heap.size w w5 := hBs.trans (hc5.below HTL.out hBs.size)
          have hbs5 : Blk w5 bw 5 (B.map v8).toArray := hbs.chg hc5 (fun e => HOFF.out bw e rfl)
          have hk5 : (powerF s).ok 4 := by have := P.ok hD5; rwa [hLn] at this
          have hall : readF (powerF s) 0 4096 = (B, 0) := by rw [readF_all rfl hk5]; exact Prod.ext hA.b rfl
          go_wp2_with fail
          refine (P.read L _ 0 4096 w5 hD5 (r64_small _ (by omega) (by omega)) (r64_small _ (by omega) (by omega))).mono ?_
          rw [hall]
          rintro e w6 ⟨v6, rfl, ho6, hb6⟩
          have hB6 : Below w.heap.size w w6 := hB5.trans (hb6.mono hB5.size)
          have hbs6 := hbs5.below hb6 hbs5.lt
          have hsw : Seg w6 (.slice (some ⟨bw, 0, none⟩) 4096 4096) B := Seg.of_row (Blk.row hbs6) hA.len (Nat.le_refl _) hbs6.lt
          have q1 := seg_stringD ho6.seg 9 Try.underlying9
          have q2 := seg_stringD hsw 9 Try.underlying9
          obtain ⟨a6, c6, rfl⟩ := Seg.shapeD ho6.seg
          clear ho6 hsw hbs5 hbs6
          generalize (⟨B.toArray⟩ : ByteArray) = X at q1 q2
          go_wp2
          go_ret
          exact ⟨rfl, hB6⟩
end Go.Proofs.Ytjcbkimibmdggaa
