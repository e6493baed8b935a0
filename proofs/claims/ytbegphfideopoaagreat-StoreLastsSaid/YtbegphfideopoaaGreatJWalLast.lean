/-
  What is proved here: plain facts on a log on a disk that fails at any change, and behind any crash: what is found is what was there, or what was being written.
  Conditions: those that each fact names.
-/
import Derived.Test.YtbegphfideopoaaGreatJPWalSmall
namespace Go.Proofs.YtbegphfideopoaaGreat

/-! ### a crash -/
theorem mix_same {A : List UInt8} (m : Nat) : A.take m ++ A.drop m = A := List.take_append_drop m A
theorem crashTo_mix (N : Nat → Nat) : ∀ (l : List Nat) (i : Nat) (t : DS), (∀ k ∈ l, k < t.now.length ∧ k < t.sure.length) → (∀ q, (t.now.getD q []).length ≤ 128 ∧ (t.sure.getD q []).length ≤ 128) → (∀ i, N i ≤ 128) → ∀ q, ∃ m, m ≤ 128 ∧ (crashTo N i l t).now.getD q [] = (t.now.getD q []).take m ++ (t.sure.getD q []).drop m
  | [], i, t, _, h, _, q => ⟨128, Nat.le_refl _, by
    show t.now.getD q [] = _
    rw [List.take_of_length_le (h q).1, List.drop_of_length_le (h q).2, List.append_nil]⟩
  | k :: l, i, t, hl, h, hN, q => by
    have hk := hl k List.mem_cons_self
    have hn : ∀ q, q ≠ k → (crashOne t k (N i)).now.getD q [] = t.now.getD q [] ∧ (crashOne t k (N i)).sure.getD q [] = t.sure.getD q [] := fun q hq =>
      ⟨getD_set_ne _ _ _ _ _ (fun e => hq e.symm), getD_set_ne _ _ _ _ _ (fun e => hq e.symm)⟩
    have he : (crashOne t k (N i)).now.getD k [] = tornRow t k (N i) ∧ (crashOne t k (N i)).sure.getD k [] = tornRow t k (N i) := ⟨getD_set_self _ _ _ _ hk.1, getD_set_self _ _ _ _ hk.2⟩
    have hlen : ∀ q, ((crashOne t k (N i)).now.getD q []).length ≤ 128 ∧ ((crashOne t k (N i)).sure.getD q []).length ≤ 128 := fun q => by
      by_cases hq : q = k
      · subst hq
        rw [he.1, he.2]
        have h1 : (tornRow t q (N i)).length ≤ 128 := by
          unfold tornRow
          have := h q
          have := hN i
          rw [List.length_append, List.length_take, List.length_drop]
          omega
        exact ⟨h1, h1⟩
      · rw [(hn q hq).1, (hn q hq).2]
        exact h q
    obtain ⟨m, hm, hc⟩ := crashTo_mix N l (i + 1) (crashOne t k (N i)) (fun j hj => by
      show j < (t.now.set _ _).length ∧ j < (t.sure.set _ _).length
      rw [List.length_set, List.length_set]
      exact hl j (List.mem_cons_of_mem _ hj)) hlen hN q
    by_cases hq : q = k
    · subst hq
      refine ⟨N i, hN i, hc.trans ?_⟩
      rw [he.1, he.2, mix_same]
      rfl
    · refine ⟨m, hm, hc.trans ?_⟩
      rw [(hn q hq).1, (hn q hq).2]
theorem row_le {l : List (List UInt8)} (h : ∀ r ∈ l, r.length = 128) (q : Nat) : (l.getD q []).length ≤ 128 := by
  rcases Nat.lt_or_ge q l.length with hq | hq
  · rw [getD_len h hq]; exact Nat.le_refl _
  · rw [List.getD_eq_getElem?_getD, List.getElem?_eq_none hq]; exact Nat.zero_le _
/-- Each sector is a beginning of the new and the end of the old. -/
theorem crash_mix {t : DS} {n0 : Nat} (ok : t.ok n0) (stay : List Bool) (torn cut : Int) (q : Nat) : ∃ m, m ≤ 128 ∧ (crashS t stay torn cut).now.getD q [] = (t.now.getD q []).take m ++ (t.sure.getD q []).drop m :=
  crashTo_mix (stayN stay torn cut) (dirtyS t) 0 t (fun k hk => by have := dirtyAt_lt _ _ _ hk; have := ok.dirt; have := ok.now; have := ok.sure; omega) (fun q => ⟨row_le ok.nows q, row_le ok.sures q⟩) (stayN_le _ _ _) q
theorem crash_calm (t : DS) (stay : List Bool) (torn cut : Int) : calmS (crashS t stay torn cut) := ⟨rfl, rfl⟩
theorem mix_take {A B : List UInt8} {m p : Nat} (hA : A.length = B.length) (h : A.take p = B.take p) : (A.take m ++ B.drop m).take p = B.take p := by
  have hg : ∀ i, i < p → A[i]? = B[i]? := fun i hi => by
    have : (A.take p)[i]? = (B.take p)[i]? := by rw [h]
    rwa [List.getElem?_take_of_lt hi, List.getElem?_take_of_lt hi] at this
  apply List.ext_getElem?
  intro i
  rcases Nat.lt_or_ge i p with hi | hi
  · rw [List.getElem?_take_of_lt hi, List.getElem?_take_of_lt hi, List.getElem?_append]
    split
    · rename_i h2
      rw [List.length_take] at h2
      rw [List.getElem?_take_of_lt (by omega)]
      exact hg i hi
    · rename_i h2
      rw [List.length_take] at h2 ⊢
      rw [List.getElem?_drop]
      rcases Nat.lt_or_ge m A.length with hm | hm
      · congr 1; omega
      · rw [List.getElem?_eq_none (by omega), List.getElem?_eq_none (by omega)]
  · rw [List.getElem?_take_eq_none hi, List.getElem?_take_eq_none hi]
/-! ### what a change meets -/
theorem may_rows (s : DS) : (mayS s).2.now = s.now ∧ (mayS s).2.sure = s.sure ∧ (mayS s).2.dirt = s.dirt ∧ ((mayS s).1 = 0 → (mayS s).2.down = false) ∧ ((mayS s).1 = 0 ∨ (mayS s).1 = 6 ∨ (mayS s).1 = 7) := by
  unfold mayS
  split
  · exact ⟨rfl, rfl, rfl, fun h => by (have h9 : (7 : Int) = 0 := h); omega, .inr (.inr rfl)⟩
  · rename_i hd
    have hd' : s.down = false := by simpa using hd
    split
    · exact ⟨rfl, rfl, rfl, fun _ => hd', .inl rfl⟩
    · split
      · exact ⟨rfl, rfl, rfl, fun h => by (have h9 : (6 : Int) = 0 := h); omega, .inr (.inl rfl)⟩
      · split
        · exact ⟨rfl, rfl, rfl, fun h => by (have h9 : (7 : Int) = 0 := h); omega, .inr (.inr rfl)⟩
        · exact ⟨rfl, rfl, rfl, fun _ => hd', .inl rfl⟩
/-- A write's two ends. -/
theorem write_ends {s : DS} {k : Nat} {b : List UInt8} (hk : k < s.now.length) (hb : b.length ≤ 128) :
    ((writeS s (k : Int) b).1 = 0 ∧ (writeS s (k : Int) b).2.now = s.now.set k (padS b) ∧ (writeS s (k : Int) b).2.sure = s.sure ∧ (writeS s (k : Int) b).2.down = false) ∨
    (((writeS s (k : Int) b).1 = 6 ∨ (writeS s (k : Int) b).1 = 7) ∧ (writeS s (k : Int) b).2.now = s.now ∧ (writeS s (k : Int) b).2.sure = s.sure) := by
  obtain ⟨h1, h2, _, h4, h5⟩ := may_rows s
  unfold writeS
  rw [if_neg (by omega)]
  by_cases h : (mayS s).1 = 0
  · rw [if_neg (fun e => e h)]
    refine .inl ⟨rfl, ?_, h2, h4 h⟩
    show (mayS s).2.now.set _ _ = _
    rw [h1, Int.toNat_natCast]
  · rw [if_pos h]
    exact .inr ⟨h5.resolve_left h, h1, h2⟩
theorem sync_ends (s : DS) : ((syncS s).1 = 0 ∧ (syncS s).2.now = s.now ∧ (syncS s).2.sure = s.now ∧ (syncS s).2.down = false ∧ cleanD (syncS s).2) ∨ (((syncS s).1 = 6 ∨ (syncS s).1 = 7) ∧ (syncS s).2.now = s.now ∧ (syncS s).2.sure = s.sure) := by
  obtain ⟨h1, h2, _, h4, h5⟩ := may_rows s
  unfold syncS
  by_cases h : (mayS s).1 = 0
  · rw [if_neg (fun e => e h)]
    exact .inl ⟨rfl, h1, h1, h4 h, fun x hx => List.eq_of_mem_replicate hx⟩
  · rw [if_pos h]
    exact .inr ⟨h5.resolve_left h, h1, h2⟩
/-- What rows that were written leave, or some of them. -/
theorem rowsW_any (n0 first : Nat) (b : List UInt8) : ∀ (n i : Nat) (s : DS), s.ok n0 → s.down = false → b.length ≤ (i + n) * 128 → (∀ j, j * 128 < b.length → first + j < n0) →
    ((rowsW first b n i s).2.ok n0 ∧ (rowsW first b n i s).2.sure = s.sure ∧ (∀ q, (rowsW first b n i s).2.now.getD q [] = s.now.getD q [] ∨ ∃ j, i ≤ j ∧ q = first + j ∧ j * 128 < b.length ∧ (rowsW first b n i s).2.now.getD q [] = padS (rowB b j)) ∧
    (((rowsW first b n i s).1 = 0 ∧ (rowsW first b n i s).2.down = false ∧ ∀ j, i ≤ j → j * 128 < b.length → (rowsW first b n i s).2.now.getD (first + j) [] = padS (rowB b j)) ∨ (rowsW first b n i s).1 = 6 ∨ (rowsW first b n i s).1 = 7))
  | 0, i, s, ok, hd, hb, _ => ⟨ok, rfl, fun q => .inl rfl, .inl ⟨rfl, hd, fun j h1 h2 => by omega⟩⟩
  | n + 1, i, s, ok, hd, hb, hr => by
    by_cases h : b.length ≤ i * 128
    · have e : rowsW first b (n + 1) i s = (0, s) := by
        show (if b.length ≤ i * 128 then _ else _) = _
        rw [if_pos h]
      rw [e]
      exact ⟨ok, rfl, fun q => .inl rfl, .inl ⟨rfl, hd, fun j h1 h2 => by omega⟩⟩
    · have hfi := hr i (by omega)
      have hok := ok.write ((first + i : Nat) : Int) (rowB b i)
      rcases write_ends (s := s) (k := first + i) (b := rowB b i) (by rw [ok.now]; exact hfi) (rowB_le b i) with ⟨w1, w2, w3, w4⟩ | ⟨w1, w2, w3⟩
      · have e : rowsW first b (n + 1) i s = rowsW first b n (i + 1) (writeS s ((first + i : Nat) : Int) (rowB b i)).2 := by
          show (if b.length ≤ i * 128 then _ else if (writeS s ((first + i : Nat) : Int) (rowB b i)).1 ≠ 0 then _ else _) = _
          rw [if_neg h, if_neg (fun e => e w1)]
        obtain ⟨a1, a2, a3, a4⟩ := rowsW_any n0 first b n (i + 1) (writeS s ((first + i : Nat) : Int) (rowB b i)).2 hok w4 (by omega) hr
        rw [e]
        have hself : (writeS s ((first + i : Nat) : Int) (rowB b i)).2.now.getD (first + i) [] = padS (rowB b i) := by rw [w2]; exact getD_set_self _ _ _ _ (by rw [ok.now]; exact hfi)
        have hne : ∀ q, q ≠ first + i → (writeS s ((first + i : Nat) : Int) (rowB b i)).2.now.getD q [] = s.now.getD q [] := fun q hq => by rw [w2]; exact getD_set_ne _ _ _ _ _ (fun e => hq e.symm)
        refine ⟨a1, a2.trans w3, fun q => ?_, ?_⟩
        · rcases a3 q with h1 | ⟨j, j1, j2, j3, j4⟩
          · by_cases hq : q = first + i
            · exact .inr ⟨i, Nat.le_refl _, hq, by omega, by rw [h1, hq]; exact hself⟩
            · exact .inl (h1.trans (hne q hq))
          · exact .inr ⟨j, by omega, j2, j3, j4⟩
        · rcases a4 with ⟨b1, b2, b3⟩ | h6
          · refine .inl ⟨b1, b2, fun j h1 h2 => ?_⟩
            by_cases hj : i + 1 ≤ j
            · exact b3 j hj h2
            · have hji : j = i := by omega
              subst hji
              rcases a3 (first + j) with h1 | ⟨j', j1, j2, _, _⟩
              · exact h1.trans hself
              · omega
          · exact .inr h6
      · have e : rowsW first b (n + 1) i s = writeS s ((first + i : Nat) : Int) (rowB b i) := by
          show (if b.length ≤ i * 128 then _ else if (writeS s ((first + i : Nat) : Int) (rowB b i)).1 ≠ 0 then _ else _) = _
          rw [if_neg h, if_pos (by rcases w1 with h1 | h1 <;> rw [h1] <;> decide)]
        rw [e]
        exact ⟨hok, w3, fun q => .inl (by rw [w2]), .inr w1⟩
/-! ### a change -/
/-- All is synced, as it is; the power is on. -/
structure Rest (s : DS) (n0 : Nat) : Prop where
  ok : s.ok n0
  clean : cleanD s
  same : s.sure = s.now
  on : s.down = false
/-- A row that a change writes. -/
def InRows (first : Nat) (b : List UInt8) (i q : Nat) (r : List UInt8) : Prop := ∃ j, i ≤ j ∧ q = first + j ∧ j * 128 < b.length ∧ r = padS (rowB b j)
/-- A change that was done. -/
structure Done (s t : DS) (n0 n gen frm : Nat) (b : List UInt8) : Prop where
  rest : Rest t n0
  head : t.now.getD ((n + 1) % 2) [] = padS (headB (n + 1) gen b.length)
  rows : ∀ j, frm / 128 ≤ j → j * 128 < b.length → t.now.getD (2 + gen % 2 * halfS s + j) [] = padS (rowB b j)
  others : ∀ q, q ≠ (n + 1) % 2 → t.now.getD q [] = s.now.getD q [] ∨ InRows (2 + gen % 2 * halfS s) b (frm / 128) q (t.now.getD q [])
/-- A change that was cut off. -/
structure CutW (s t : DS) (n0 n gen frm : Nat) (b : List UInt8) : Prop where
  ok : t.ok n0
  is : (t.sure = s.sure ∧ ∀ q, t.now.getD q [] = s.now.getD q [] ∨ InRows (2 + gen % 2 * halfS s) b (frm / 128) q (t.now.getD q [])) ∨
    ((∀ q, t.sure.getD q [] = s.now.getD q [] ∨ InRows (2 + gen % 2 * halfS s) b (frm / 128) q (t.sure.getD q [])) ∧ (∀ j, frm / 128 ≤ j → j * 128 < b.length → t.sure.getD (2 + gen % 2 * halfS s + j) [] = padS (rowB b j)) ∧
      (∀ q, q ≠ (n + 1) % 2 → t.now.getD q [] = t.sure.getD q []) ∧ (t.now.getD ((n + 1) % 2) [] = t.sure.getD ((n + 1) % 2) [] ∨ t.now.getD ((n + 1) % 2) [] = padS (headB (n + 1) gen b.length)))
theorem writeW_any {s : DS} {n0 n gen frm : Nat} {b : List UInt8} (ok : s.ok n0) (on : s.down = false) (hb : b.length ≤ sizeS s) (h2 : 2 ≤ n0) :
    ((writeW s n gen frm b).1 = 0 ∧ Done s (writeW s n gen frm b).2 n0 n gen frm b) ∨ (((writeW s n gen frm b).1 = 6 ∨ (writeW s n gen frm b).1 = 7) ∧ CutW s (writeW s n gen frm b).2 n0 n gen frm b) := by
  have hr : ∀ j, j * 128 < b.length → 2 + gen % 2 * halfS s + j < n0 := fun j hj => half_in ok (Nat.mod_lt _ (by decide)) (by unfold sizeS at hb; omega)
  obtain ⟨a1, a2, a3, a4⟩ := rowsW_any n0 (2 + gen % 2 * halfS s) b (b.length + 1) (frm / 128) s ok on (by omega) hr
  unfold writeW
  generalize rowsW (2 + gen % 2 * halfS s) b (b.length + 1) (frm / 128) s = R at *
  rcases a4 with ⟨b1, b2, b3⟩ | h6
  · rw [if_neg (fun h => h b1)]
    unfold sealW
    have hlt : (n + 1) % 2 < n0 := by omega
    have c0 := a1.sync
    rcases sync_ends R.2 with ⟨c1, c2, c3, c4, c5⟩ | ⟨c1, c2, c3⟩
    · rw [if_neg (fun h => h c1)]
      generalize syncS R.2 = U at *
      have d0 := c0.write (((n + 1) % 2 : Nat) : Int) (headB (n + 1) gen b.length)
      rcases write_ends (s := U.2) (k := (n + 1) % 2) (b := headB (n + 1) gen b.length) (by rw [c0.now]; exact hlt) (by rw [headB_len]; decide) with ⟨d1, d2, d3, d4⟩ | ⟨d1, d2, d3⟩
      · rw [if_neg (fun h => h d1)]
        generalize writeS U.2 (((n + 1) % 2 : Nat) : Int) (headB (n + 1) gen b.length) = V at *
        have hself : V.2.now.getD ((n + 1) % 2) [] = padS (headB (n + 1) gen b.length) := by rw [d2]; exact getD_set_self _ _ _ _ (by rw [c0.now]; exact hlt)
        have hne : ∀ q, q ≠ (n + 1) % 2 → V.2.now.getD q [] = R.2.now.getD q [] := fun q hq => by rw [d2, getD_set_ne _ _ _ _ _ (fun e => hq e.symm), c2]
        have hVs : ∀ q, V.2.sure.getD q [] = R.2.now.getD q [] := fun q => by rw [d3, c3]
        have e0 := d0.sync
        rcases sync_ends V.2 with ⟨e1, e2, e3, e4, e5⟩ | ⟨e1, e2, e3⟩
        · refine .inl ⟨e1, ⟨e0, e5, by rw [e2, e3], e4⟩, by rw [e2]; exact hself, fun j h1 h3 => ?_, fun q hq => ?_⟩
          · rw [e2, hne _ (by omega)]; exact b3 j h1 h3
          · rw [e2, hne q hq]; exact a3 q
        · refine .inr ⟨e1, e0, .inr ⟨fun q => ?_, fun j h1 h3 => ?_, fun q hq => ?_, .inr (by rw [e2]; exact hself)⟩⟩
          · rw [e3, hVs]; exact a3 q
          · rw [e3, hVs]; exact b3 j h1 h3
          · rw [e2, e3, hVs, hne q hq]
      · rw [if_pos (by rcases d1 with h1 | h1 <;> rw [h1] <;> decide)]
        refine .inr ⟨d1, d0, .inr ⟨fun q => ?_, fun j h1 h3 => ?_, fun q hq => ?_, .inl ?_⟩⟩
        · rw [d3, c3]; exact a3 q
        · rw [d3, c3]; exact b3 j h1 h3
        · rw [d2, d3, c2, c3]
        · rw [d2, d3, c2, c3]
    · rw [if_pos (by rcases c1 with h1 | h1 <;> rw [h1] <;> decide)]
      exact .inr ⟨c1, c0, .inl ⟨c3.trans a2, fun q => by rw [c2]; exact a3 q⟩⟩
  · rw [if_pos (by rcases h6 with h1 | h1 <;> rw [h1] <;> decide)]
    exact .inr ⟨h6, a1, .inl ⟨a2, a3⟩⟩
/-! ### what is found -/
/-- Two banks whose first bytes are alike. -/
theorem bank_like {s t : DS} {n0 k L : Nat} (ok : s.ok n0) (ok2 : t.ok n0) (hk : k < 2) (h : ∀ j, j * 128 < L → (t.now.getD (2 + k * halfS s + j) []).take (L - j * 128) = (s.now.getD (2 + k * halfS s + j) []).take (L - j * 128)) : (bankS t k).take L = (bankS s k).take L := by
  have hh := halfS_of ok ok2
  have key : ∀ j, j ≤ halfS s → (bankTo t k j).take L = (bankTo s k j).take L := fun j => by
    induction j with
    | zero => intro _; rfl
    | succ j ih =>
      intro hj
      show (bankTo t k j ++ t.now.getD (2 + k * halfS t + j) []).take L = (bankTo s k j ++ s.now.getD (2 + k * halfS s + j) []).take L
      rw [List.take_append, List.take_append, ih (by omega), bankTo_len ok hk j (by omega), bankTo_len ok2 hk j (by omega), hh]
      rcases Nat.lt_or_ge (j * 128) L with hl | hl
      · rw [h j hl]
      · rw [show L - j * 128 = 0 by omega, List.take_zero, List.take_zero]
  unfold bankS
  rw [hh]
  exact key _ (Nat.le_refl _)
theorem nextH_like {s t : DS} {k : Nat} (hz : sizeS t = sizeS s) (h : t.now.getD k [] = s.now.getD k []) (u : Nat × Nat × Nat) : nextH t k u = nextH s k u := by
  unfold nextH
  rw [h, standsB_size hz]
theorem there_like {s t : DS} (hz : sizeS t = sizeS s) (h : ∀ k, k < 2 → t.now.getD k [] = s.now.getD k []) : thereS t = thereS s := by
  show nextH t 1 (nextH t 0 (0, 0, 0)) = nextH s 1 (nextH s 0 (0, 0, 0))
  rw [nextH_like hz (h 0 (by decide)), nextH_like hz (h 1 (by decide))]
theorem found_like {s t : DS} {n0 : Nat} (ok : s.ok n0) (ok2 : t.ok n0) (h1 : thereS t = thereS s) (h : ∀ j, j * 128 < (thereS s).2.2 → (t.now.getD (2 + (thereS s).2.1 % 2 * halfS s + j) []).take ((thereS s).2.2 - j * 128) = (s.now.getD (2 + (thereS s).2.1 % 2 * halfS s + j) []).take ((thereS s).2.2 - j * 128)) : foundS t = foundS s := by
  unfold foundS
  rw [h1, bank_like ok ok2 (Nat.mod_lt _ (by decide)) h]
/-- The three numbers of a sector, twice. -/
def twin (r : List UInt8) : Prop := r.take 12 = (r.drop 12).take 12
/-- The head that counts stands in its sector. -/
theorem there_at {s : DS} {n g m : Nat} (h : thereS s = (n, g, m)) (hn : 1 ≤ n) : standsB s (n % 2) (s.now.getD (n % 2) []) = true ∧ of4 (s.now.getD (n % 2) []) = n ∧ of4 ((s.now.getD (n % 2) []).drop 4) = g ∧ of4 ((s.now.getD (n % 2) []).drop 8) = m := by
  have hpar : ∀ k, standsB s k (s.now.getD k []) = true → of4 (s.now.getD k []) % 2 = k := fun k hk => by
    unfold standsB at hk
    simp only [Bool.and_eq_true, decide_eq_true_eq] at hk
    exact hk.1.1.1.1.2
  have e : nextH s 1 (nextH s 0 (0, 0, 0)) = (n, g, m) := h
  have key : ∀ k, standsB s k (s.now.getD k []) = true → (of4 (s.now.getD k []), of4 ((s.now.getD k []).drop 4), of4 ((s.now.getD k []).drop 8)) = (n, g, m) → standsB s (n % 2) (s.now.getD (n % 2) []) = true ∧ of4 (s.now.getD (n % 2) []) = n ∧ of4 ((s.now.getD (n % 2) []).drop 4) = g ∧ of4 ((s.now.getD (n % 2) []).drop 8) = m := fun k hk h => by
    simp only [Prod.mk.injEq] at h
    have hp := hpar k hk
    rw [h.1] at hp
    rw [hp]
    exact ⟨hk, h⟩
  by_cases h1 : (nextH s 0 (0, 0, 0)).1 < of4 (s.now.getD 1 []) ∧ standsB s 1 (s.now.getD 1 []) = true
  · have e1 : nextH s 1 (nextH s 0 (0, 0, 0)) = (of4 (s.now.getD 1 []), of4 ((s.now.getD 1 []).drop 4), of4 ((s.now.getD 1 []).drop 8)) := by
      show (if _ then _ else _) = _
      rw [if_pos h1]
    exact key 1 h1.2 (e1.symm.trans e)
  · have e1 : nextH s 1 (nextH s 0 (0, 0, 0)) = nextH s 0 (0, 0, 0) := by
      show (if _ then _ else _) = _
      rw [if_neg h1]
    by_cases h0 : (0 : Nat) < of4 (s.now.getD 0 []) ∧ standsB s 0 (s.now.getD 0 []) = true
    · have e0 : nextH s 0 (0, 0, 0) = (of4 (s.now.getD 0 []), of4 ((s.now.getD 0 []).drop 4), of4 ((s.now.getD 0 []).drop 8)) := by
        show (if _ then _ else _) = _
        rw [if_pos h0]
      exact key 0 h0.2 (e0.symm.trans (e1.symm.trans e))
    · have e0 : nextH s 0 (0, 0, 0) = (0, 0, 0) := by
        show (if _ then _ else _) = _
        rw [if_neg h0]
      have := e0.symm.trans (e1.symm.trans e)
      simp only [Prod.mk.injEq] at this
      omega
theorem stands_twin {s : DS} {k : Nat} {r : List UInt8} (h : standsB s k r = true) : twin r := by
  unfold standsB at h
  simp only [Bool.and_eq_true, decide_eq_true_eq] at h
  exact h.2
theorem there_twin {s : DS} {n g m : Nat} (h : thereS s = (n, g, m)) (hn : 1 ≤ n) : twin (s.now.getD (n % 2) []) := stands_twin (there_at h hn).1
/-- The head that counts goes on counting, if the other sector has none behind it. -/
theorem there_keep {s t : DS} {n g m : Nat} (h : thereS s = (n, g, m)) (hn : 1 ≤ n) (hz : sizeS t = sizeS s) (ho : t.now.getD (n % 2) [] = s.now.getD (n % 2) []) (hh : ¬ (n < of4 (t.now.getD ((n + 1) % 2) []) ∧ standsB t ((n + 1) % 2) (t.now.getD ((n + 1) % 2) []) = true)) : thereS t = (n, g, m) := by
  obtain ⟨h1, h2, h3, h4⟩ := there_at h hn
  have hst : standsB t (n % 2) (t.now.getD (n % 2) []) = true := by rw [ho, standsB_size hz]; exact h1
  have hme : ∀ u : Nat × Nat × Nat, u.1 < n → nextH t (n % 2) u = (n, g, m) := fun u hu => by
    unfold nextH
    rw [ho] at hst ⊢
    rw [h2, h3, h4, if_pos ⟨hu, hst⟩]
  have hoth : ∀ u : Nat × Nat × Nat, u.1 = n → nextH t ((n + 1) % 2) u = u := fun u hu => by
    unfold nextH
    rw [if_neg (by rw [hu]; exact hh)]
  have hlow : (nextH t ((n + 1) % 2) (0, 0, 0)).1 < n := by
    unfold nextH
    split
    · rename_i hc
      dsimp only
      have hp : of4 (t.now.getD ((n + 1) % 2) []) % 2 = (n + 1) % 2 := by
        have := hc.2
        unfold standsB at this
        simp only [Bool.and_eq_true, decide_eq_true_eq] at this
        exact this.1.1.1.1.2
      have : ¬ n < of4 (t.now.getD ((n + 1) % 2) []) := fun h9 => hh ⟨h9, hc.2⟩
      omega
    · exact hn
  show nextH t 1 (nextH t 0 (0, 0, 0)) = _
  rcases (show (n % 2 = 0 ∧ (n + 1) % 2 = 1) ∨ (n % 2 = 1 ∧ (n + 1) % 2 = 0) by omega) with ⟨e0, e1⟩ | ⟨e0, e1⟩
  · rw [e0] at hme; rw [e1] at hoth
    rw [hme (0, 0, 0) hn]
    exact hoth _ rfl
  · rw [e0] at hme; rw [e1] at hlow
    exact hme _ hlow
/-! ### a head by halves -/
theorem torn_twin {A B : List UInt8} (hA : A.length = 24) (_ : B.length = 24) (hA2 : A.take 12 = A.drop 12) (hB2 : B.take 12 = B.drop 12) {k : Nat} (hk : k ≤ 24) (h : (A.take k ++ B.drop k).take 12 = (A.take k ++ B.drop k).drop 12) : A.take k ++ B.drop k = A ∨ A.take k ++ B.drop k = B := by
  have hk1 : (A.take k).length = k := by rw [List.length_take]; omega
  have h2 : A.take k ++ B.drop k = (A.take k ++ B.drop k).take 12 ++ (A.take k ++ B.drop k).drop 12 := (List.take_append_drop 12 _).symm
  rcases Nat.lt_or_ge 12 k with hc | hc
  · left
    have h3 : (A.take k ++ B.drop k).take 12 = A.take 12 := by
      rw [List.take_append_of_le_length (by omega), List.take_take, Nat.min_eq_left (by omega)]
    rw [h2, ← h, h3]
    conv => rhs; rw [← List.take_append_drop 12 A, ← hA2]
  · right
    have h3 : (A.take k ++ B.drop k).drop 12 = B.drop 12 := by
      rw [List.drop_append, List.drop_of_length_le (by omega), List.nil_append, List.drop_drop, hk1]
      congr 1
      omega
    rw [h2, h, h3]
    conv => rhs; rw [← List.take_append_drop 12 B, hB2]
theorem get_like {r r' : List UInt8} (h : r.take 24 = r'.take 24) {i : Nat} (hi : i < 24) : r.getD i 0 = r'.getD i 0 := by
  have : (r.take 24)[i]? = (r'.take 24)[i]? := by rw [h]
  rw [List.getElem?_take_of_lt hi, List.getElem?_take_of_lt hi] at this
  rw [List.getD_eq_getElem?_getD, List.getD_eq_getElem?_getD, this]
theorem of4_like {r r' : List UInt8} (h : r.take 24 = r'.take 24) (d : Nat) (hd : d + 4 ≤ 24) : of4 (r.drop d) = of4 (r'.drop d) := by
  have e : ∀ (x : List UInt8) i, (x.drop d).getD i 0 = x.getD (d + i) 0 := fun x i => by rw [List.getD_eq_getElem?_getD, List.getElem?_drop, List.getD_eq_getElem?_getD]
  unfold of4
  rw [e, e, e, e, e, e, e, e, get_like h (by omega), get_like h (by omega), get_like h (by omega), get_like h (by omega)]
theorem stands_like {s : DS} {k : Nat} {r r' : List UInt8} (h : r.take 24 = r'.take 24) : standsB s k r = standsB s k r' := by
  have h0 : of4 r = of4 r' := of4_like h 0 (by omega)
  have h1 : r.take 12 = r'.take 12 := by
    have : (r.take 24).take 12 = (r'.take 24).take 12 := by rw [h]
    rwa [List.take_take, List.take_take] at this
  have h2 : (r.drop 12).take 12 = (r'.drop 12).take 12 := by
    have : (r.take 24).drop 12 = (r'.take 24).drop 12 := by rw [h]
    rwa [List.drop_take, List.drop_take] at this
  unfold standsB
  rw [h0, of4_like h 4 (by omega), of4_like h 8 (by omega), h1, h2]
/-- A head that is written over another row by halves: it is none, or the one, or the other. -/
theorem torn_head {s : DS} {k n g len m : Nat} {B : List UInt8} (hB : B.length = 128) (htw : twin B) (h : standsB s k ((padS (headB n g len)).take m ++ B.drop m) = true) : ((padS (headB n g len)).take m ++ B.drop m).take 24 = headB n g len ∨ ((padS (headB n g len)).take m ++ B.drop m).take 24 = B.take 24 := by
  have hA : padS (headB n g len) = headB n g len ++ noughts 104 := rfl
  have hAl := headB_len n g len
  rcases Nat.lt_or_ge 24 m with hm | hm
  · left
    have h1 : (padS (headB n g len)).take m = headB n g len ++ (noughts 104).take (m - 24) := by rw [hA, List.take_append, List.take_of_length_le (l := headB n g len) (by omega), hAl]
    rw [h1, List.append_assoc, List.take_append_of_le_length (by omega), List.take_of_length_le (by omega)]
  · have hBl : (B.take 24).length = 24 := by rw [List.length_take]; omega
    have e1 : (padS (headB n g len)).take m ++ B.drop m = ((headB n g len).take m ++ (B.take 24).drop m) ++ B.drop 24 := by
      have : B.drop m = (B.take 24).drop m ++ B.drop 24 := by
        conv => lhs; rw [← List.take_append_drop 24 B]
        rw [List.drop_append_of_le_length (by omega)]
      rw [hA, List.take_append_of_le_length (by omega), this, List.append_assoc]
    have hl : ((headB n g len).take m ++ (B.take 24).drop m).length = 24 := by rw [List.length_append, List.length_take, List.length_drop]; omega
    have e2 : ((padS (headB n g len)).take m ++ B.drop m).take 24 = (headB n g len).take m ++ (B.take 24).drop m := by
      rw [e1, List.take_append_of_le_length (by omega), List.take_of_length_le (by omega)]
    have ht := stands_twin h
    unfold twin at ht htw
    rw [e1] at ht
    have key : ∀ X Z : List UInt8, X.length = 24 → (X ++ Z).take 12 = ((X ++ Z).drop 12).take 12 → X.take 12 = X.drop 12 := fun X Z hX h => by
      rw [List.take_append_of_le_length (by omega), List.drop_append_of_le_length (by omega), List.take_append_of_le_length (by rw [List.length_drop]; omega)] at h
      rwa [List.take_of_length_le (l := X.drop 12) (by rw [List.length_drop]; omega)] at h
    have ht := key _ _ hl ht
    have hB2 : (B.take 24).take 12 = (B.take 24).drop 12 := by
      rw [List.take_take, List.drop_take]
      exact htw
    rw [e2]
    exact torn_twin hAl hBl rfl hB2 hm ht
theorem there_newH {s t : DS} {n g m : Nat} (hn : (thereS s).1 = n) (hst : standsB t ((n + 1) % 2) (t.now.getD ((n + 1) % 2) []) = true) (h1 : of4 (t.now.getD ((n + 1) % 2) []) = n + 1) (h2 : of4 ((t.now.getD ((n + 1) % 2) []).drop 4) = g) (h3 : of4 ((t.now.getD ((n + 1) % 2) []).drop 8) = m) (ho : t.now.getD (n % 2) [] = s.now.getD (n % 2) []) (hz : sizeS t = sizeS s) : thereS t = (n + 1, g, m) := by
  have hnew : ∀ u : Nat × Nat × Nat, u.1 ≤ n → nextH t ((n + 1) % 2) u = (n + 1, g, m) := fun u hu => by
    unfold nextH
    rw [h1, h2, h3, if_pos ⟨by omega, hst⟩]
  have hle : standsB t (n % 2) (t.now.getD (n % 2) []) = true → of4 (t.now.getD (n % 2) []) ≤ n := fun hc => by
    rw [ho, ← hn]
    exact stands_le (Nat.mod_lt _ (by decide)) (by rw [hn, ← ho, ← standsB_size hz]; exact hc)
  have hold : ∀ u : Nat × Nat × Nat, (nextH t (n % 2) u).1 ≤ max n u.1 := fun u => by
    unfold nextH
    split
    · rename_i hc
      exact Nat.le_trans (hle hc.2) (Nat.le_max_left _ _)
    · exact Nat.le_max_right _ _
  have hkeep : nextH t (n % 2) (n + 1, g, m) = (n + 1, g, m) := by
    unfold nextH
    rw [if_neg]
    intro hc
    have := hle hc.2
    have := hc.1
    dsimp only at this
    omega
  show nextH t 1 (nextH t 0 (0, 0, 0)) = _
  rcases (show (n % 2 = 0 ∧ (n + 1) % 2 = 1) ∨ (n % 2 = 1 ∧ (n + 1) % 2 = 0) by omega) with ⟨e0, e1⟩ | ⟨e0, e1⟩
  · rw [e1] at hnew; rw [e0] at hold
    exact hnew _ (by have := hold (0, 0, 0); dsimp only at this; omega)
  · rw [e1] at hnew; rw [e0] at hkeep
    rw [hnew _ (Nat.zero_le _)]
    exact hkeep
theorem bank_inj {k k' j j' h : Nat} (hk : k < 2) (hk' : k' < 2) (hj : j < h) (hj' : j' < h) (e : 2 + k * h + j = 2 + k' * h + j') : k = k' ∧ j = j' := by
  rcases (show k = 0 ∨ k = 1 by omega) with rfl | rfl <;> rcases (show k' = 0 ∨ k' = 1 by omega) with rfl | rfl <;> omega
/-! ### behind a crash -/
theorem cut_crash {s t : DS} {n0 n gen frm g m : Nat} {b : List UInt8} (ok : s.ok n0) (hsame : s.sure = s.now) (hth : thereS s = (n, g, m)) (hn : 1 ≤ n) (hn2 : n < 1073741824) (hg1 : 1 ≤ gen) (hg2 : gen ≤ 1048576) (hb : b.length ≤ sizeS s) (hb2 : b.length < 4294967296) (h2 : 2 ≤ n0) (htw : twin (s.now.getD ((n + 1) % 2) []))
    (hsafe : ∀ j, frm / 128 ≤ j → j * 128 < b.length → gen % 2 = g % 2 → j * 128 < m → (padS (rowB b j)).take (m - j * 128) = (s.now.getD (2 + g % 2 * halfS s + j) []).take (m - j * 128))
    (hold : ∀ j, (j + 1) * 128 ≤ frm → s.now.getD (2 + gen % 2 * halfS s + j) [] = padS (rowB b j))
    (h : CutW s t n0 n gen frm b) (stay : List Bool) (torn cut : Int) :
    (thereS (crashS t stay torn cut) = (n, g, m) ∧ foundS (crashS t stay torn cut) = foundS s) ∨ (thereS (crashS t stay torn cut) = (n + 1, gen, b.length) ∧ foundS (crashS t stay torn cut) = toldB b) := by
  have hmix := crash_mix h.ok stay torn cut
  have okc := h.ok.crash stay torn cut
  generalize crashS t stay torn cut = c at *
  have hhf := halfS_of ok okc
  have hz : sizeS c = sizeS s := by unfold sizeS; rw [hhf]
  have hml : m ≤ sizeS s := by have := (thereS_le s).2.2; rw [hth] at this; exact this
  have hlen : ∀ q, q < n0 → (s.now.getD q []).length = 128 := fun q hq => getD_len ok.nows (by rw [ok.now]; exact hq)
  have hin : ∀ j, j * 128 < m → j < halfS s := fun j hj => by unfold sizeS at hml; omega
  have hinb : ∀ j, j * 128 < b.length → j < halfS s := fun j hj => by unfold sizeS at hb; omega
  have hmod : ∀ x : Nat, x % 2 < 2 := fun x => Nat.mod_lt _ (by decide)
  -- a row in the counted bank that is written
  have hrow : ∀ j r, j * 128 < m → InRows (2 + gen % 2 * halfS s) b (frm / 128) (2 + g % 2 * halfS s + j) r → r.length = 128 ∧ r.take (m - j * 128) = (s.now.getD (2 + g % 2 * halfS s + j) []).take (m - j * 128) := fun j r hj hr => by
    obtain ⟨j', k1, k2, k3, rfl⟩ := hr
    obtain ⟨e1, e2⟩ := bank_inj (hmod g) (hmod gen) (hin j hj) (hinb j' k3) k2
    subst e2
    exact ⟨padS_length (rowB_le b j), hsafe j k1 k3 e1.symm hj⟩
  have hnot : ∀ q r, q < 2 → ¬ InRows (2 + gen % 2 * halfS s) b (frm / 128) q r := fun q r hq hr => by
    obtain ⟨j', _, k2, _, _⟩ := hr
    omega
  rcases h.is with ⟨a1, a2⟩ | ⟨a1, a2, a3, a4⟩
  · left
    have hsame2 : ∀ q, t.now.getD q [] = s.now.getD q [] → c.now.getD q [] = s.now.getD q [] := fun q hq => by
      obtain ⟨mm, _, e⟩ := hmix q
      rw [e, a1, hsame, hq, mix_same]
    have hth2 : thereS c = thereS s := there_like hz (fun k hk => hsame2 k ((a2 k).resolve_right (hnot k _ hk)))
    refine ⟨hth2.trans hth, found_like ok okc hth2 ?_⟩
    rw [hth]
    intro j hj
    dsimp only at hj ⊢
    rcases a2 (2 + g % 2 * halfS s + j) with e | e
    · rw [hsame2 _ e]
    · obtain ⟨r1, r2⟩ := hrow j _ hj e
      obtain ⟨mm, _, e⟩ := hmix (2 + g % 2 * halfS s + j)
      rw [e, a1, hsame]
      exact mix_take (r1.trans (hlen _ (half_in ok (hmod g) (hin j hj))).symm) r2
  · have hc : ∀ q, q ≠ (n + 1) % 2 → c.now.getD q [] = t.sure.getD q [] := fun q hq => by
      obtain ⟨mm, _, e⟩ := hmix q
      rw [e, a3 q hq, mix_same]
    have hlike : ∀ j, j * 128 < m → (c.now.getD (2 + g % 2 * halfS s + j) []).take (m - j * 128) = (s.now.getD (2 + g % 2 * halfS s + j) []).take (m - j * 128) := fun j hj => by
      rw [hc _ (by have := hmod (n + 1); omega)]
      rcases a1 (2 + g % 2 * halfS s + j) with e | e
      · rw [e]
      · exact (hrow j _ hj e).2
    have hother : c.now.getD (n % 2) [] = s.now.getD (n % 2) [] := by
      rw [hc _ (by omega)]
      exact (a1 _).resolve_right (hnot _ _ (hmod n))
    have hB : t.sure.getD ((n + 1) % 2) [] = s.now.getD ((n + 1) % 2) [] := (a1 _).resolve_right (hnot _ _ (hmod (n + 1)))
    have hleB : standsB s ((n + 1) % 2) (s.now.getD ((n + 1) % 2) []) = true → of4 (s.now.getD ((n + 1) % 2) []) ≤ n := fun hst => by
      have := stands_le (hmod (n + 1)) hst
      rw [hth] at this
      exact this
    have hkeep : ¬ (n < of4 (c.now.getD ((n + 1) % 2) []) ∧ standsB c ((n + 1) % 2) (c.now.getD ((n + 1) % 2) []) = true) → thereS c = (n, g, m) ∧ foundS c = foundS s := fun hno => by
      have h9 := there_keep hth hn hz hother hno
      refine ⟨h9, found_like ok okc (h9.trans hth.symm) ?_⟩
      rw [hth]
      exact hlike
    obtain ⟨mm, _, e⟩ := hmix ((n + 1) % 2)
    rcases a4 with e4 | e4
    · left
      refine hkeep ?_
      rw [e, e4, mix_same, hB]
      rintro ⟨k1, k2⟩
      rw [standsB_size hz] at k2
      have := hleB k2
      omega
    · rw [e4, hB] at e
      by_cases hst : standsB c ((n + 1) % 2) (c.now.getD ((n + 1) % 2) []) = true
      · rw [e] at hst
        rcases torn_head (hlen _ (by omega)) htw hst with hh | hh
        · right
          have hA : (headB (n + 1) gen b.length).take 24 = headB (n + 1) gen b.length := List.take_of_length_le (by rw [headB_len]; exact Nat.le_refl _)
          have hP : (padS (headB (n + 1) gen b.length)).take 24 = headB (n + 1) gen b.length := by
            show (headB (n + 1) gen b.length ++ noughts 104).take 24 = _
            rw [List.take_append_of_le_length (by rw [headB_len]; exact Nat.le_refl _), hA]
          obtain ⟨o1, o2, o3, _⟩ := head_of (n + 1) gen b.length (by omega) (by omega) hb2
          have hlk := hh.trans hP.symm
          rw [← e] at hlk hst
          have h9 : thereS c = (n + 1, gen, b.length) := there_newH (s := s) (by rw [hth]) hst ((of4_like hlk 0 (by omega)).trans o1) ((of4_like hlk 4 (by omega)).trans o2) ((of4_like hlk 8 (by omega)).trans o3) hother hz
          refine ⟨h9, ?_⟩
          unfold foundS
          rw [h9]
          dsimp only
          rw [if_neg (by omega), bank_is okc (hmod gen) ?_ (by rw [hz]; exact hb)]
          intro j hj
          rw [hhf, hc _ (by have := hmod (n + 1); omega)]
          by_cases hf : frm / 128 ≤ j
          · exact a2 j hf hj
          · rcases a1 (2 + gen % 2 * halfS s + j) with e5 | ⟨j', k1, k2, k3, _⟩
            · rw [e5]
              exact hold j (by omega)
            · omega
        · left
          refine hkeep ?_
          rintro ⟨k1, k2⟩
          rw [e] at k1
          have e6 : of4 ((padS (headB (n + 1) gen b.length)).take mm ++ (s.now.getD ((n + 1) % 2) []).drop mm) = of4 (s.now.getD ((n + 1) % 2) []) := of4_like hh 0 (by omega)
          rw [stands_like hh, standsB_size hz] at hst
          have := hleB hst
          omega
      · exact .inl (hkeep (fun h9 => hst h9.2))
end Go.Proofs.YtbegphfideopoaaGreat
