/-
  What is proved here: plain facts on a log whose heads and bank are whole: a Checkpoint or Commit that is done leaves it so; one that fails leaves, behind any crash, what was there or what it wrote.
  Conditions: those that each fact names.
-/
import Derived.Test.YtbegphfideopoaaGreatJWalLast
namespace Go.Proofs.YtbegphfideopoaaGreat

/-- A log whose state stands on a disk at rest. -/
structure Sound (s : DS) (n0 : Nat) (l : LS) : Prop where
  rest : Rest s n0
  there : thereS s = (l.n, l.gen, l.sure)
  part : ∀ j, j * 128 < l.sure → (s.now.getD (2 + l.gen % 2 * halfS s + j) []).take (l.sure - j * 128) = (rowB l.b j).take (l.sure - j * 128)
  rows : ∀ j, (j + 1) * 128 ≤ l.sure → s.now.getD (2 + l.gen % 2 * halfS s + j) [] = padS (rowB l.b j)
  found : foundS s = toldB (l.b.take l.sure)
  sure : l.sure ≤ l.b.length
  size : l.b.length ≤ sizeS s
  gen1 : 1 ≤ l.gen
  gen2 : l.gen ≤ 1048576
  n1 : 1 ≤ l.n
  n2 : l.n ≤ 1073741824
  begun : l.begun = true
  broke : l.broke = false
  tw : twin (s.now.getD ((l.n + 1) % 2) [])
theorem Done.sound {s t : DS} {n0 n gen frm : Nat} {b : List UInt8} (h : Done s t n0 n gen frm b) (ok : s.ok n0) (hn : (thereS s).1 = n) (hn2 : n < 1073741824) (hg1 : 1 ≤ gen) (hg2 : gen ≤ 1048576) (hb : b.length ≤ sizeS s) (hb2 : b.length < 4294967296) (htw : twin (s.now.getD (n % 2) []))
    (hold : ∀ j, (j + 1) * 128 ≤ frm → s.now.getD (2 + gen % 2 * halfS s + j) [] = padS (rowB b j)) : Sound t n0 ⟨n + 1, gen, b, b.length, true, false⟩ ∧ sizeS t = sizeS s ∧ foundS t = toldB b := by
  have hhf := halfS_of ok h.rest.ok
  have hz : sizeS t = sizeS s := by unfold sizeS; rw [hhf]
  have ho : t.now.getD (n % 2) [] = s.now.getD (n % 2) [] := by
    rcases h.others (n % 2) (by omega) with e | ⟨j, _, k2, _, _⟩
    · exact e
    · omega
  have hth : thereS t = (n + 1, gen, b.length) := there_new hn h.head ho hz hn2 hg1 hg2 hb hb2
  have hrows : ∀ j, j * 128 < b.length → t.now.getD (2 + gen % 2 * halfS t + j) [] = padS (rowB b j) := fun j hj => by
    rw [hhf]
    by_cases hf : frm / 128 ≤ j
    · exact h.rows j hf hj
    · rcases h.others (2 + gen % 2 * halfS s + j) (by omega) with e | ⟨j', k1, k2, _, _⟩
      · rw [e]; exact hold j (by omega)
      · omega
  have hfo : foundS t = toldB b := by
    unfold foundS
    rw [hth]
    dsimp only
    rw [if_neg (by omega), bank_is h.rest.ok (Nat.mod_lt _ (by decide)) hrows (by rw [hz]; exact hb)]
  refine ⟨⟨h.rest, hth, fun j hj => ?_, fun j hj => ?_, ?_, Nat.le_refl _, by rw [hz]; exact hb, hg1, hg2, by show 1 ≤ n + 1; omega, by show n + 1 ≤ _; omega, rfl, rfl, ?_⟩, hz, hfo⟩
  · dsimp only at hj ⊢
    rw [hrows j hj, padS_take b j hj, List.take_of_length_le (by rw [rowB_len]; omega)]
  · dsimp only at hj ⊢
    exact hrows j (by omega)
  · show foundS t = toldB (b.take b.length)
    rw [List.take_length]; exact hfo
  · show twin (t.now.getD ((n + 1 + 1) % 2) [])
    rw [show (n + 1 + 1) % 2 = n % 2 by omega, ho]
    exact htw
/-- A record waits behind. -/
theorem Sound.append {s : DS} {n0 : Nat} {l : LS} (h : Sound s n0 l) (x : List UInt8) (hf : l.b.length + x.length + 5 ≤ sizeS s) : Sound s n0 { l with b := l.b ++ pieceB 3 x } := by
  have hs := h.sure
  refine ⟨h.rest, h.there, fun j hj => ?_, fun j hj => ?_, ?_, by show l.sure ≤ (l.b ++ pieceB 3 x).length; rw [List.length_append]; omega, by show (l.b ++ pieceB 3 x).length ≤ _; rw [List.length_append, pieceB_len]; omega, h.gen1, h.gen2, h.n1, h.n2, h.begun, h.broke, h.tw⟩
  · dsimp only at hj ⊢
    rw [h.part j hj]
    unfold rowB
    rw [List.take_take, List.take_take, List.drop_append_of_le_length (by omega), List.take_append_of_le_length (by rw [List.length_drop]; omega)]
  · dsimp only at hj ⊢
    rw [rowB_app _ _ _ (by omega)]
    exact h.rows j hj
  · show foundS s = toldB ((l.b ++ pieceB 3 x).take l.sure)
    rw [List.take_append_of_le_length hs]
    exact h.found
theorem Sound.appends {s : DS} {n0 : Nat} {l : LS} (h : Sound s n0 l) (x : List UInt8) (hx : x.length ≤ 4096) (hf : l.b.length + x.length + 5 ≤ sizeS s) : appendW s l x = (0, { l with b := l.b ++ pieceB 3 x }) := by
  unfold appendW roomW
  rw [h.broke, h.begun]
  simp only [Bool.false_eq_true, if_false, Bool.or_false, Bool.not_true]
  rw [if_neg (by decide), if_neg (by omega), if_neg (by omega)]
theorem Sound.room {s : DS} {n0 : Nat} {l : LS} (h : Sound s n0 l) : roomW s l = (sizeS s : Int) - (l.b.length : Int) := by
  unfold roomW; rw [h.broke, h.begun]; rfl
/-- What is behind any crash. -/
def Either (t : DS) (A B : (Nat × Nat × Nat) × (List UInt8 × List (List UInt8))) : Prop := ∀ (stay : List Bool) (torn cut : Int), (thereS (crashS t stay torn cut), foundS (crashS t stay torn cut)) = A ∨ (thereS (crashS t stay torn cut), foundS (crashS t stay torn cut)) = B
/-- A crash at rest. -/
theorem Sound.crash {s : DS} {n0 : Nat} {l : LS} (h : Sound s n0 l) (stay : List Bool) (torn cut : Int) : thereS (crashS s stay torn cut) = thereS s ∧ foundS (crashS s stay torn cut) = foundS s := by
  have okc := h.rest.ok.crash stay torn cut
  have hq : ∀ q, (crashS s stay torn cut).now.getD q [] = s.now.getD q [] := fun q => by
    obtain ⟨m, _, e⟩ := crash_mix h.rest.ok stay torn cut q
    rw [e, h.rest.same, mix_same]
  have hz : sizeS (crashS s stay torn cut) = sizeS s := by unfold sizeS; rw [halfS_of h.rest.ok okc]
  have h1 := there_like hz (fun k _ => hq k)
  exact ⟨h1, found_like h.rest.ok okc h1 (fun j _ => by rw [hq])⟩
theorem Sound.commit {s : DS} {n0 : Nat} {l : LS} (h : Sound s n0 l) (hm : n0 ≤ 4096) (h256 : 256 ≤ sizeS s) (hne : l.sure ≠ l.b.length) (hn2 : l.n < 1073741824) :
    ((commitW s l).1 = 0 ∧ (commitW s l).2.2 = { l with n := l.n + 1, sure := l.b.length } ∧ Sound (commitW s l).2.1 n0 { l with n := l.n + 1, sure := l.b.length } ∧ sizeS (commitW s l).2.1 = sizeS s) ∨
    (((commitW s l).1 = 6 ∨ (commitW s l).1 = 7) ∧ (commitW s l).2.1.ok n0 ∧ Either (commitW s l).2.1 ((l.n, l.gen, l.sure), foundS s) ((l.n + 1, l.gen, l.b.length), toldB l.b)) := by
  have hsz := size_lt h.rest.ok hm
  have hb := h.size
  have h2 := size_two h.rest.ok h256
  have e : commitW s l = if (writeW s l.n l.gen l.sure l.b).1 ≠ 0 then ((writeW s l.n l.gen l.sure l.b).1, (writeW s l.n l.gen l.sure l.b).2, { l with broke := true }) else (0, (writeW s l.n l.gen l.sure l.b).2, { l with n := l.n + 1, sure := l.b.length }) := by
    unfold commitW
    rw [h.broke, if_neg (by decide), h.begun, if_neg (by decide), if_neg hne, if_neg (by omega)]
  rcases writeW_any (n := l.n) (gen := l.gen) (frm := l.sure) (b := l.b) h.rest.ok h.rest.on hb h2 with ⟨a1, a2⟩ | ⟨a1, a2⟩
  · rw [e, if_neg (fun h => h a1)]
    obtain ⟨k1, k2, _⟩ := a2.sound h.rest.ok (by rw [h.there]) hn2 h.gen1 h.gen2 hb (by omega) (there_twin h.there h.n1) h.rows
    have e2 : ({ l with n := l.n + 1, sure := l.b.length } : LS) = ⟨l.n + 1, l.gen, l.b, l.b.length, true, false⟩ := by
      rw [← h.begun, ← h.broke]
    exact .inl ⟨rfl, rfl, by rw [e2]; exact k1, k2⟩
  · rw [e, if_pos (by rcases a1 with h1 | h1 <;> rw [h1] <;> decide)]
    refine .inr ⟨a1, a2.ok, fun stay torn cut => ?_⟩
    have hsafe : ∀ j, l.sure / 128 ≤ j → j * 128 < l.b.length → l.gen % 2 = l.gen % 2 → j * 128 < l.sure → (padS (rowB l.b j)).take (l.sure - j * 128) = (s.now.getD (2 + l.gen % 2 * halfS s + j) []).take (l.sure - j * 128) := fun j _ hj _ hjm => by
      rw [h.part j hjm]
      have hl := rowB_len l.b j
      unfold padS
      rw [List.take_append]
      have hs := h.sure
      by_cases h128 : (rowB l.b j).length = 128
      · rw [h128]
        show _ ++ List.take _ [] = _
        rw [List.take_nil, List.append_nil]
      · rw [show l.sure - j * 128 - (rowB l.b j).length = 0 by omega, List.take_zero, List.append_nil]
    rcases cut_crash h.rest.ok h.rest.same h.there h.n1 hn2 h.gen1 h.gen2 hb (by omega) h2 h.tw hsafe h.rows a2 stay torn cut with ⟨c1, c2⟩ | ⟨c1, c2⟩
    · left; dsimp only; rw [c1, c2]
    · right; dsimp only; rw [c1, c2]
theorem Sound.check {s : DS} {n0 : Nat} {l : LS} {st : List UInt8} (h : Sound s n0 l) (hm : n0 ≤ 4096) (h256 : 256 ≤ sizeS s) (hn2 : l.n < 1073741824) (hg : l.gen < 1048576) (hf : (stateB st).length ≤ sizeS s) :
    ((checkW s l st).1 = 0 ∧ (checkW s l st).2.2 = ⟨l.n + 1, l.gen + 1, stateB st, (stateB st).length, true, false⟩ ∧ Sound (checkW s l st).2.1 n0 ⟨l.n + 1, l.gen + 1, stateB st, (stateB st).length, true, false⟩ ∧ sizeS (checkW s l st).2.1 = sizeS s) ∨
    (((checkW s l st).1 = 6 ∨ (checkW s l st).1 = 7) ∧ (checkW s l st).2.1.ok n0 ∧ Either (checkW s l st).2.1 ((l.n, l.gen, l.sure), foundS s) ((l.n + 1, l.gen + 1, (stateB st).length), toldB (stateB st))) := by
  have hsz := size_lt h.rest.ok hm
  have h2 := size_two h.rest.ok h256
  have e : checkW s l st = if (writeW s l.n (l.gen + 1) 0 (stateB st)).1 ≠ 0 then ((writeW s l.n (l.gen + 1) 0 (stateB st)).1, (writeW s l.n (l.gen + 1) 0 (stateB st)).2, { l with broke := true }) else (0, (writeW s l.n (l.gen + 1) 0 (stateB st)).2, { l with n := l.n + 1, gen := l.gen + 1, b := stateB st, sure := (stateB st).length, begun := true }) := by
    unfold checkW
    rw [h.broke, if_neg (by decide), if_neg (by omega)]
  rcases writeW_any (n := l.n) (gen := l.gen + 1) (frm := 0) (b := stateB st) h.rest.ok h.rest.on hf h2 with ⟨a1, a2⟩ | ⟨a1, a2⟩
  · rw [e, if_neg (fun h => h a1)]
    obtain ⟨k1, k2, _⟩ := a2.sound h.rest.ok (by rw [h.there]) hn2 (by omega) (by omega) hf (by omega) (there_twin h.there h.n1) (fun j hj => by omega)
    have e2 : ({ l with n := l.n + 1, gen := l.gen + 1, b := stateB st, sure := (stateB st).length, begun := true } : LS) = ⟨l.n + 1, l.gen + 1, stateB st, (stateB st).length, true, false⟩ := by
      rw [← h.broke]
    exact .inl ⟨rfl, e2, k1, k2⟩
  · rw [e, if_pos (by rcases a1 with h1 | h1 <;> rw [h1] <;> decide)]
    refine .inr ⟨a1, a2.ok, fun stay torn cut => ?_⟩
    rcases cut_crash h.rest.ok h.rest.same h.there h.n1 hn2 (by omega) (by omega) hf (by omega) h2 h.tw (fun j _ _ hpar _ => by omega) (fun j hj => by omega) a2 stay torn cut with ⟨c1, c2⟩ | ⟨c1, c2⟩
    · left; dsimp only; rw [c1, c2]
    · right; dsimp only; rw [c1, c2]
/-- A Checkpoint on a calm disk that was opened leaves all whole. -/
theorem check_sound {s : DS} {n0 : Nat} {l : LS} {st : List UInt8} (hc : calmS s) (ok : s.ok n0) (hm : n0 ≤ 4096) (h256 : 256 ≤ sizeS s) (hbr : l.broke = false) (hn : (thereS s).1 = l.n) (hn2 : l.n < 1073741824) (hg : l.gen < 1048576) (hf : (stateB st).length ≤ sizeS s) (htw : twin (s.now.getD (l.n % 2) [])) :
    ∃ t, checkW s l st = (0, t, ⟨l.n + 1, l.gen + 1, stateB st, (stateB st).length, true, false⟩) ∧ Sound t n0 ⟨l.n + 1, l.gen + 1, stateB st, (stateB st).length, true, false⟩ ∧ sizeS t = sizeS s := by
  have hsz := size_lt ok hm
  have h2 := size_two ok h256
  obtain ⟨t, ht, _, _, hz⟩ := check_calm (st := st) hc ok hm h256 hbr hn hn2 hg hf
  refine ⟨t, ht, ?_, hz⟩
  have e : checkW s l st = if (writeW s l.n (l.gen + 1) 0 (stateB st)).1 ≠ 0 then ((writeW s l.n (l.gen + 1) 0 (stateB st)).1, (writeW s l.n (l.gen + 1) 0 (stateB st)).2, { l with broke := true }) else (0, (writeW s l.n (l.gen + 1) 0 (stateB st)).2, { l with n := l.n + 1, gen := l.gen + 1, b := stateB st, sure := (stateB st).length, begun := true }) := by
    unfold checkW
    rw [hbr, if_neg (by decide), if_neg (by omega)]
  rw [e] at ht
  rcases writeW_any (n := l.n) (gen := l.gen + 1) (frm := 0) (b := stateB st) ok hc.2 hf h2 with ⟨a1, a2⟩ | ⟨a1, a2⟩
  · rw [if_neg (fun h => h a1)] at ht
    obtain ⟨k1, _, _⟩ := a2.sound ok hn hn2 (by omega) (by omega) hf (by omega) htw (fun j hj => by omega)
    simp only [Prod.mk.injEq] at ht
    rw [← ht.2.1]
    exact k1
  · rw [if_pos (by rcases a1 with h1 | h1 <;> rw [h1] <;> decide)] at ht
    simp only [Prod.mk.injEq] at ht
    omega
theorem newS_twin (n : Nat) (h : 2 ≤ n) : twin ((newS n).now.getD 0 []) := by
  have e : (newS n).now.getD 0 [] = noughts 128 := by
    show (List.replicate n (noughts 128)).getD 0 [] = _
    rw [List.getD_eq_getElem?_getD, List.getElem?_replicate, if_pos (by omega)]
    rfl
  rw [e]
  rfl
end Go.Proofs.YtbegphfideopoaaGreat
