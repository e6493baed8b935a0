/-
  What is proved here: of all acts and numbers, the statement FlashAgain answers true: a change in which the power went, done again, leaves what it would have left at once.
  Conditions: the program's flash keeps to what is asked of it; the acts, and one more, have room.
-/
import Derived.Test.YtjcbkimibmdggaaFlashWorn
import Derived.Test.YtjcbkimibmdggaaBlkMid
import Derived.Deep.Cut
namespace Go.Proofs.Ytjcbkimibmdggaa
open Go.RowKit

/-! ### plain facts -/
theorem and_one (x : Int) : bits .and .i64 x 1 = 0 ∨ bits .and .i64 x 1 = 1 := by
  have h : bits .and .i64 x 1 = IntKind.i64.wrap ((BitVec.ofInt 64 x &&& BitVec.ofInt 64 1).toNat : Int) := rfl
  rw [h, BitVec.toNat_and, show (BitVec.ofInt 64 1).toNat = 2 ^ 1 - 1 from rfl, Nat.and_two_pow_sub_one_eq_mod, IntKind.wrap_i64]
  omega
theorem actF_zero (s : FS) (a : Act6) (h : a.act = 0) : actF s a = (programF s a.k a.b).2 := by unfold actF; rw [if_pos h]
theorem actF_one (s : FS) (a : Act6) (h : a.act = 1) : actF s a = (eraseF s a.k).2 := by unfold actF; rw [if_neg (by rw [h]; decide), if_pos h]
/-- Armed for the change that comes next. -/
theorem goesF_armed (s : FS) (z : Int) (n : Nat) : goesF (armF s 0 z) n = ((min (n : Int) (max z 0)).toNat, 7, { armF s 0 z with armed := -1, down := true }) := by
  unfold goesF
  rw [if_neg (by show ¬ max (0 : Int) 0 < 0; decide), if_neg (by show ¬ 0 < max (0 : Int) 0; decide)]
  rfl
/-- A change in which the power went, done again. -/
theorem again_same (s : FS) (hs : calm6 s) (h1 : mostW s 100) (h2 : s.most = 10000) (a : Act6) (ha : a.act = 0 ∨ a.act = 1) (z : Int) :
    (actF (powerF (actF (armF s 0 z) a)) a).b = (actF s a).b ∧ (actF (powerF (actF (armF s 0 z) a)) a).down = false ∧ (actF s a).down = false := by
  rcases ha with ha | ha
  · rw [actF_zero _ _ ha, actF_zero _ _ ha, actF_zero _ _ ha]
    rw [programF_calm hs]
    cases ht : thereB s a.k a.b.length with
    | false =>
      have e : programF (armF s 0 z) a.k a.b = (1, armF s 0 z) := by unfold programF; rw [show thereB (armF s 0 z) a.k a.b.length = false from ht, if_pos rfl]
      rw [e, if_pos rfl, programF_calm (s := powerF (armF s 0 z)) ⟨rfl, rfl⟩, show thereB (powerF (armF s 0 z)) a.k a.b.length = false from ht, if_pos rfl]
      exact ⟨rfl, rfl, hs.1⟩
    | true =>
      obtain ⟨M, hM⟩ : ∃ M, M = (min (a.b.length : Int) (max z 0)).toNat := ⟨_, rfl⟩
      have e : programF (armF s 0 z) a.k a.b = (7, { armF s 0 z with armed := -1, down := true, b := progL s.b a.k.toNat a.b M }) := by
        unfold programF
        rw [show thereB (armF s 0 z) a.k a.b.length = true from ht, if_neg (by decide), if_neg (by show ¬ s.down = true; rw [hs.1]; decide), goesF_armed, hM]
        rfl
      rw [e, if_neg (by decide), programF_calm (s := powerF { armF s 0 z with armed := -1, down := true, b := progL s.b a.k.toNat a.b M }) ⟨rfl, rfl⟩]
      rw [thereB_len (s := s) (t := powerF { armF s 0 z with armed := -1, down := true, b := progL s.b a.k.toNat a.b M }) (progL_len ..), ht, if_neg (by decide)]
      refine ⟨?_, rfl, hs.1⟩
      show progL (progL s.b a.k.toNat a.b M) a.k.toNat a.b a.b.length = progL s.b a.k.toNat a.b a.b.length
      exact progL_again _ _ _ _ _ _ (by omega) (fun _ _ => rfl)
  · rw [actF_one _ _ ha, actF_one _ _ ha, actF_one _ _ ha]
    rw [eraseF_calm hs]
    by_cases hk : a.k < 0 ∨ (s.worn.length : Int) ≤ a.k
    · have e : eraseF (armF s 0 z) a.k = (1, armF s 0 z) := by unfold eraseF; rw [if_pos (show a.k < 0 ∨ ((armF s 0 z).worn.length : Int) ≤ a.k from hk)]
      rw [e, if_pos hk, eraseF_calm (s := powerF (armF s 0 z)) ⟨rfl, rfl⟩, if_pos (show a.k < 0 ∨ ((powerF (armF s 0 z)).worn.length : Int) ≤ a.k from hk)]
      exact ⟨rfl, rfl, hs.1⟩
    · have hw := worn_getD h1 a.k.toNat
      obtain ⟨M, hM⟩ : ∃ M, M = (min ((1024 : Nat) : Int) (max z 0)).toNat := ⟨_, rfl⟩
      have e : eraseF (armF s 0 z) a.k = (7, { armF s 0 z with armed := -1, down := true, b := onesL s.b (1024 * a.k.toNat) M, worn := s.worn.set a.k.toNat (s.worn.getD a.k.toNat 0 + 1) }) := by
        unfold eraseF
        rw [if_neg (show ¬ (a.k < 0 ∨ ((armF s 0 z).worn.length : Int) ≤ a.k) from hk), if_neg (by show ¬ s.down = true; rw [hs.1]; decide), if_neg (by show ¬ s.most ≤ s.worn.getD a.k.toNat 0; omega), goesF_armed, hM]
        rfl
      rw [e, if_neg hk, if_neg (by omega), eraseF_calm (s := powerF { armF s 0 z with armed := -1, down := true, b := onesL s.b (1024 * a.k.toNat) M, worn := s.worn.set a.k.toNat (s.worn.getD a.k.toNat 0 + 1) }) ⟨rfl, rfl⟩]
      have hl : a.k.toNat < s.worn.length := by omega
      rw [if_neg (by show ¬ (a.k < 0 ∨ (((s.worn.set a.k.toNat (s.worn.getD a.k.toNat 0 + 1)).length : Nat) : Int) ≤ a.k); rw [List.length_set]; exact hk), if_neg (by
        show ¬ s.most ≤ (s.worn.set a.k.toNat (s.worn.getD a.k.toNat 0 + 1)).getD a.k.toNat 0
        rw [List.getD_eq_getElem?_getD, List.getElem?_set_self hl, Option.getD_some]
        omega)]
      refine ⟨?_, rfl, hs.1⟩
      show onesL (onesL s.b (1024 * a.k.toNat) M) (1024 * a.k.toNat) 1024 = onesL s.b (1024 * a.k.toNat) 1024
      exact onesL_again _ _ _ _ (by omega)

/-! ### acts appended to acts -/
theorem Try.info37a : (Try.prog.info? 37).map (fun i => (i.zero, i.size, i.bytes)) = some (some (.agg #[.int .i64 0, .int .i64 0, .int .i64 0, .slice none 0 0]), 4, 48) := by kernel_rfl
theorem At6.one {W : World} {bv : Value} {a : Act6} (h : At6 W bv a) : ∀ u ∈ actL6 a bv, u.oneCell' = true := by
  obtain ⟨ab, cb, rfl⟩ := Seg.shapeD h.b
  intro u hu
  unfold actL6 at hu
  simp only [List.mem_cons, List.not_mem_nil, or_false] at hu
  rcases hu with rfl | rfl | rfl | rfl <;> rfl
/-- Acts' cells in a row. -/
def RowA (W : World) (news : List Value) (l : List Act6) : Prop := news.length = l.length * 4 ∧ (∀ u ∈ news, u.oneCell' = true) ∧ ∀ (i : Nat) a, l[i]? = some a → ∃ bv, At6 W bv a ∧ news[4 * i]? = some (.int .i64 a.act) ∧ news[4 * i + 1]? = some (.int .i64 a.k) ∧ news[4 * i + 2]? = some (.int .i64 a.n) ∧ news[4 * i + 3]? = some bv
theorem acts_news {W : World} {q : Nat} : ∀ (l : List Act6) (off : Nat), (∀ (i : Nat) a, l[i]? = some a → Cells6 W q (off + 4 * i) a) → ∃ news, RowA W news l ∧ ∀ (j : Nat) u, news[j]? = some u → W.cell? ⟨q, off + j, none⟩ = some u
  | [], off, _ => ⟨[], ⟨rfl, (fun u hu => by cases hu), (fun i a h => by simp at h)⟩, fun j u h => by simp at h⟩
  | a :: l, off, h => by
    obtain ⟨news, ⟨h1, h2, h3⟩, h4⟩ := acts_news l (off + 4) (fun i b hi => by have := h (i + 1) b (by simpa using hi); rwa [show off + 4 * (i + 1) = off + 4 + 4 * i by omega] at this)
    obtain ⟨bv, hr, hat⟩ := (h 0 a rfl).range
    refine ⟨actL6 a bv ++ news, ⟨?_, ?_, ?_⟩, ?_⟩
    · rw [List.length_append, h1, List.length_cons]; show 4 + _ = _; omega
    · intro u hu
      rcases List.mem_append.1 hu with hu | hu
      · exact hat.one u hu
      · exact h2 u hu
    · intro i b hi
      cases i with
      | zero =>
        obtain rfl : a = b := by simpa using hi
        exact ⟨bv, hat, rfl, rfl, rfl, rfl⟩
      | succ i =>
        obtain ⟨bv', k0, k1, k2, k3, k4⟩ := h3 i b (by simpa using hi)
        have e : ∀ k, (actL6 a bv ++ news)[4 * (i + 1) + k]? = news[4 * i + k]? := fun k => by
          rw [List.getElem?_append_right (by show 4 ≤ _; omega)]
          congr 1
          show 4 * (i + 1) + k - 4 = _
          omega
        exact ⟨bv', k0, (e 0).trans k1, (e 1).trans k2, (e 2).trans k3, (e 3).trans k4⟩
    · intro j u hu
      by_cases hj : j < 4
      · rw [List.getElem?_append_left (by show j < 4; exact hj)] at hu
        have := hr j u hu
        rwa [Nat.mul_zero, Nat.add_zero] at this
      · rw [List.getElem?_append_right (by show 4 ≤ j; omega)] at hu
        have := h4 (j - 4) u hu
        rwa [show off + 4 + (j - 4) = off + j by omega] at this
theorem RowA.below {w w' : World} {B : Nat} {news : List Value} {l : List Act6} (h : RowA w news l) (hb : Below B w w') (hB : w.heap.size ≤ B) : RowA w' news l :=
  ⟨h.1, h.2.1, fun i a hi => by obtain ⟨bv, k0, k⟩ := h.2.2 i a hi; exact ⟨bv, k0.below hb hB, k⟩⟩
theorem RowA.snoc {W : World} {news : List Value} {l : List Act6} (h : RowA W news l) {a : Act6} {bv : Value} (ha : At6 W bv a) : RowA W (news ++ actL6 a bv) (l ++ [a]) := by
  refine ⟨?_, fun u hu => ?_, fun i b hi => ?_⟩
  · rw [List.length_append, h.1, List.length_append]; show _ + 4 = (_ + 1) * 4; omega
  · rcases List.mem_append.1 hu with hu | hu
    · exact h.2.1 u hu
    · exact ha.one u hu
  · by_cases hil : i < l.length
    · rw [List.getElem?_append_left hil] at hi
      obtain ⟨bv', k0, k1, k2, k3, k4⟩ := h.2.2 i b hi
      have e : ∀ k, k < 4 → (news ++ actL6 a bv)[4 * i + k]? = news[4 * i + k]? := fun k hk => List.getElem?_append_left (by rw [h.1]; omega)
      exact ⟨bv', k0, (e 0 (by decide)).trans k1, (e 1 (by decide)).trans k2, (e 2 (by decide)).trans k3, (e 3 (by decide)).trans k4⟩
    · rw [List.getElem?_append_right (by omega)] at hi
      have hi0 : i - l.length = 0 := by
        rcases Nat.eq_zero_or_pos (i - l.length) with h0 | h0
        · exact h0
        · rw [List.getElem?_eq_none (by show 1 ≤ _; exact h0)] at hi; cases hi
      rw [hi0] at hi
      obtain rfl : a = b := by simpa using hi
      obtain rfl : i = l.length := by omega
      have e : ∀ k, (news ++ actL6 a bv)[4 * l.length + k]? = (actL6 a bv)[k]? := fun k => by
        rw [List.getElem?_append_right (by rw [h.1]; omega), h.1, show 4 * l.length + k - l.length * 4 = k by omega]
      exact ⟨bv, ha, e 0, e 1, e 2, e 3⟩
/-- A slice of the call's own holds acts. -/
theorem RowA.acts {W : World} {base : Nat} {v : Value} {news : List Value} {l : List Act6} (h : RowA W news l) (ho : W.ownsRow base 37 4 v l.length news) (h0 : 0 < l.length) (hm : l.length ≤ maxLen) : Acts6 W v l := by
  obtain ⟨g, cap, hv, hb, hl⟩ := World.ownsRow.form ho h0
  refine ⟨some ⟨g, 0, none⟩, cap, hv, hm, fun i a hi => ⟨g, 0, rfl, ?_⟩⟩
  obtain ⟨bv, k0, k1, k2, k3, k4⟩ := h.2.2 i a hi
  have hc : ∀ (j : Nat) u, news[j]? = some u → W.cell? ⟨g, j, none⟩ = some u := fun j u hu => by
    have := World.ownsRow.cells ho (g := g) (by rw [hv]; rfl) j u hu
    rwa [Addr.add_mid, Nat.zero_add] at this
  rw [Nat.zero_add]
  exact ⟨hl, hc _ _ k1, hc _ _ k2, hc _ _ k3, bv, hc _ _ k4, k0⟩
theorem app_acts (w : World) (base : Nat) (v : Value) (n : Nat) (xs : List Value) (hown : w.ownsRow base 37 4 v n xs) (ao : Option Addr) (m c : Nat) (news : List Value) (hl : news.length = m * 4) (h1 : ∀ u ∈ news, u.oneCell' = true) (hn : ao = none → c = 0 ∧ m = 0)
    (hs : ∀ ad, ao = some ad → ∀ (j : Nat) u, news[j]? = some u → w.cell? (ad.add j) = some u) (hr : (n + m) * 48 ≤ 140737488355328) (hbase : base ≤ w.heap.size) :
    ∃ v' w', (∀ ty, (Builtin.append_ #[32, 32] ty #[v, .slice ao m c]).run Try.prog w = .ok v' w') ∧ w'.ownsRow base 37 4 v' (n + m) (xs ++ news) ∧ w.grownBy w' v.ownBlock := by
  obtain ⟨i0, hi, hz0, hz1, hz2⟩ := info_parts Try.info37a
  cases ao with
  | none =>
    obtain ⟨rfl, rfl⟩ := hn rfl
    obtain rfl : news = [] := List.eq_nil_of_length_eq_zero (by omega)
    rw [List.append_nil, Nat.add_zero]
    exact ⟨v, w, fun ty => run_append_owned_none (P := Try.prog) (w := w) base 32 ty 37 i0 4 Try.underlying32 hi v n xs hown, hown, ⟨rfl, rfl, rfl, Nat.le_refl _, fun _ _ _ => rfl⟩⟩
  | some ad =>
    obtain ⟨v', w', h0, k1, k2, _, _⟩ := run_append_own_at (P := Try.prog) w base 32 32 37 i0 _ 4 48 Try.underlying32 hi hz0 hz1 hz2 rfl (by decide) v n xs hown ad m c news hl (hs ad rfl) h1 (by unfold maxLen; omega) hr hbase
    exact ⟨v', w', fun ty => h0, k1, k2⟩
theorem exec_actsE {a : Act} {o : Oper} {w : World} (ho : o.op = .buildSlice 32 0 #[]) : (execOp a.eval o).run Try.prog w = .ok (.value (.slice (some ⟨w.heap.size, 0, none⟩) 0 0)) (w.alloc (.cells #[] 37)) := by
  unfold execOp
  simp only [ho]
  simp [go_sem]
theorem exec_acts1 {a : Act} {o : Oper} {w : World} (x : Operand) (ho : o.op = .buildSlice 32 1 #[(0, x)]) (v0 v1 v2 v3 : Value) (hx : a.eval x = .agg #[v0, v1, v2, v3]) : (execOp a.eval o).run Try.prog w = .ok (.value (.slice (some ⟨w.heap.size, 0, none⟩) 1 1)) (w.alloc (.cells #[v0, v1, v2, v3] 37)) := by
  generalize a.eval = ρ at *
  unfold execOp
  simp only [ho]
  simp [go_sem, hx]
theorem owns_base {w : World} {base n : Nat} {v : Value} {xs : List Value} (h : w.ownsRow base 37 4 v n xs) (k : Nat) (hk : v.ownBlock = some k) : base ≤ k := by
  rcases h.2 with ⟨rfl, _⟩ | ⟨g, cap, cur, rfl, h2, _⟩
  · cases hk
  · cases hk; exact h2
theorem owns_empty (w : World) (base n : Nat) (hn : n = w.heap.size) (hb : base ≤ w.heap.size) : (w.alloc (.cells #[] 37)).ownsRow base 37 4 (.slice (some ⟨n, 0, none⟩) 0 0) 0 [] := by
  subst hn
  exact ⟨rfl, .inr ⟨w.heap.size, 0, #[], rfl, hb, heap_alloc_new w _, Nat.le_refl _, Nat.zero_le _, rfl, rfl⟩⟩

set_option maxRecDepth 100000 in
set_option maxHeartbeats 8000000 in
theorem flashAgain_any (P : PF) (v : Value) (l : List Act6) (a : Act6) (bv : Value) (z : Int) (w : World) (hl : Acts6 w v l) (hnil : ∀ n c, v = .slice none n c → c = 0) (ha : At6 w bv a) (hz : R64 z) (hroom : l.length * 48 ≤ 140737488351232) :
    Calls Try.prog 5 #[v, .agg #[.int .i64 a.act, .int .i64 a.k, .int .i64 a.n, bv], .int .i64 z] w fun e w' => e = .returned (.bool true) ∧ Below w.heap.size w w' := by
  obtain ⟨ao, c, rfl, hlm, hlc⟩ := id hl
  have hbw : Below w.heap.size w (w.alloc (.cells #[.int .i64 a.act, .int .i64 a.k, .int .i64 a.n, bv] 37)) := (Below.refl _ w).alloc (Nat.le_refl _) _
  have hbox0 : Blk (w.alloc (.cells #[.int .i64 a.act, .int .i64 a.k, .int .i64 a.n, bv] 37)) w.heap.size 37 #[.int .i64 a.act, .int .i64 a.k, .int .i64 a.n, bv] := Blk.new _ _ _
  go_enter Try.func5, Try.ntmps5
  go_wp2_with fail
  refine (awake6_any P _).mono ?_
  rintro e w1 ⟨rfl, hB1⟩
  have hB : Below w.heap.size w w1 := hbw.trans (hB1.mono hbw.size)
  have hbox := hbox0.below hB1 hbox0.lt
  clear hB1 hbox0 hbw
  go_wp2_with fail
  go_cut [8] from 14 (fun s8 wx => ∃ mb : Bool, s8 = .bool mb ∧ Below w.heap.size w wx ∧ Blk wx w.heap.size 37 #[.int .i64 a.act, .int .i64 a.k, .int .i64 a.n, bv])
  case first =>
    obtain ⟨news, hrowA, hcells⟩ : ∃ news, RowA w news l ∧ ∀ ad, ao = some ad → ∀ (j : Nat) u, news[j]? = some u → w.cell? (ad.add j) = some u := by
      cases l with
      | nil => exact ⟨[], ⟨rfl, (fun u hu => by cases hu), (fun i a h => by simp at h)⟩, fun ad _ j u h => by simp at h⟩
      | cons a0 l0 =>
        obtain ⟨q, off, rfl, _⟩ := hlc 0 a0 rfl
        obtain ⟨news, h1, h2⟩ := acts_news (a0 :: l0) off (fun i b hi => by obtain ⟨q', off', e, h⟩ := hlc i b hi; cases e; exact h)
        exact ⟨news, h1, fun ad e j u hu => by cases e; rw [Addr.add_mid]; exact h2 j u hu⟩
    have hn0 : ao = none → c = 0 ∧ l.length = 0 := fun e => by
      subst e
      refine ⟨hnil _ _ rfl, ?_⟩
      cases l with
      | nil => rfl
      | cons a0 l0 => obtain ⟨q, off, e, _⟩ := hlc 0 a0 rfl; cases e
    have hsrcB : ∀ W, Below w.heap.size w W → ∀ ad, ao = some ad → ∀ (j : Nat) u, news[j]? = some u → W.cell? (ad.add j) = some u := fun W hW ad e j u hu => by
      have h := hcells ad e j u hu
      rw [hW.cell (block_lt_of_cell h)]
      exact h
    have hone := ha.one
    have hcs : #[.int .i64 a.act, .int .i64 a.k, .int .i64 a.n, bv] = (actL6 a bv).toArray := rfl
    rw [hcs] at hbox ⊢
    have hi4 : (Try.prog.info? 37).map (·.size) = some (actL6 a bv).length := Try.info37s
    have HFIN : ∀ (W : World) (v16 : Value) (q : Nat), Below w.heap.size w W → Blk W w.heap.size 37 (actL6 a bv).toArray → W.ownsRow (w.heap.size + 1) 37 4 v16 l.length news → Blk W q 37 (actL6 a bv).toArray → w.heap.size + 1 ≤ W.heap.size →
        ∃ v19 W', (∀ ty, (Builtin.append_ #[32, 32] ty #[v16, .slice (some ⟨q, 0, none⟩) 1 1]).run Try.prog W = .ok v19 W') ∧ Acts6 W' v19 (l ++ [a]) ∧ Below w.heap.size w W' ∧ Blk W' w.heap.size 37 (actL6 a bv).toArray := by
      intro W v16 q hW hbx hown hq hsz
      obtain ⟨v19, W', h1, h2, h3⟩ := app_acts W (w.heap.size + 1) v16 l.length news hown (some ⟨q, 0, none⟩) 1 1 (actL6 a bv) rfl hone (fun e => by cases e) (fun ad e j u hu => by cases e; rw [Addr.add_mid, Nat.zero_add]; exact hq.cell (by simpa using hu)) (by omega) hsz
      have hne : ∀ k, v16.ownBlock = some k → w.heap.size + 1 ≤ k := fun k hk => owns_base hown k hk
      have hB' : Below w.heap.size w W' := below_grown hW h3 hW.size (fun k hk => by have := hne k hk; omega)
      have hR := (hrowA.below hB' (Nat.le_refl _)).snoc (ha.below hB' (Nat.le_refl _))
      have hl1 : (l ++ [a]).length = l.length + 1 := by simp
      refine ⟨v19, W', h1, hR.acts (by rw [hl1]; exact h2) (by omega) (by rw [hl1]; unfold maxLen; omega), hB', hbx.grown h3 (fun e => by have := hne _ e.symm; omega)⟩
    refine held_begin (fun W => Blk W w.heap.size 37 (actL6 a bv).toArray) (by kernel_rfl) ?_
    have hbS : Blk w1.drew w.heap.size 37 (actL6 a bv).toArray := hbox.drew
    have hBd : Below w.heap.size w w1.drew := hB.drew
    have hs1 : w.heap.size + 1 ≤ w1.drew.heap.size := hbS.lt
    generalize w1.drew = W1 at *
    clear hB hbox
    refine held_take 1 15 _ (.slice ao l.length c) rfl rfl (by kernel_rfl) (by kernel_rfl) (by kernel_rfl) rfl hbS (fun _ _ => rfl) ?_
    simp only [Act.put, List.setIfInBounds_toArray, List.set_cons_succ, List.set_cons_zero]
    refine held_take 3 17 _ (.agg (actL6 a bv).toArray) rfl rfl (by kernel_rfl) (by kernel_rfl) (by kernel_rfl) rfl hbS (fun W hW => exec_load 37 _ rfl w.heap.size 0 rfl (actL6 a bv) _ (hW.range 0 _ (fun j u hu => by rw [Nat.zero_add]; simpa using hu)) Try.underlying37 rfl hi4) ?_
    simp only [Act.put, List.setIfInBounds_toArray, List.set_cons_succ, List.set_cons_zero]
    refine held_all2 0 4 (by kernel_rfl) (op_value 0 14 _ _ _ rfl rfl rfl (exec_actsE rfl) ⟨hbS.alloc _, ?_⟩) (op_value 4 18 _ _ (W1.alloc (.cells (actL6 a bv).toArray 37)) rfl rfl rfl (exec_acts1 _ rfl (.int .i64 a.act) (.int .i64 a.k) (.int .i64 a.n) bv rfl) ⟨hbS.alloc _, ?_⟩)
    · skip
      have hBa : Below w.heap.size w (W1.alloc (.cells #[] 37)) := hBd.alloc hBd.size _
      have hba := hbS.alloc (.cells #[] 37)
      have hoa := owns_empty W1 (w.heap.size + 1) W1.heap.size rfl hs1
      have hsa : (W1.alloc (.cells #[] 37)).heap.size = W1.heap.size + 1 := by simp
      generalize W1.alloc (.cells #[] 37) = Wa at *
      simp only [Act.put, List.setIfInBounds_toArray, List.set_cons_succ, List.set_cons_zero]
      refine held_all2 2 4 (by kernel_rfl) ?_ ?_
      · skip
        obtain ⟨v16, Wb, hrb, hob, hgb⟩ := app_acts Wa (w.heap.size + 1) (.slice (some ⟨W1.heap.size, 0, none⟩) 0 0) 0 [] hoa ao l.length c news hrowA.1 hrowA.2.1 hn0 (hsrcB _ hBa) (by omega) (by omega)
        rw [List.nil_append, Nat.zero_add] at hob
        have hBb : Below w.heap.size w Wb := below_grown hBa hgb hBa.size (fun k hk => by have h2 : W1.heap.size = k := Option.some.inj hk; omega)
        have hbb := hba.grown hgb (fun e => by have h2 : w.heap.size = W1.heap.size := Option.some.inj e; omega)
        have hzb := hgb.size
        refine op_value 2 16 _ v16 Wb rfl rfl rfl (exec_app _ _ _ _ rfl (.slice (some ⟨W1.heap.size, 0, none⟩) 0 0) (.slice ao l.length c) _ rfl rfl hrb) ⟨hbb, ?_⟩
        simp only [Act.put, List.setIfInBounds_toArray, List.set_cons_succ, List.set_cons_zero]
        refine held_all1 4 (by kernel_rfl) (op_value 4 18 _ _ (Wb.alloc (.cells (actL6 a bv).toArray 37)) rfl rfl rfl (exec_acts1 _ rfl (.int .i64 a.act) (.int .i64 a.k) (.int .i64 a.n) bv rfl) ⟨hbb.alloc _, ?_⟩)
        have hBc : Below w.heap.size w (Wb.alloc (.cells (actL6 a bv).toArray 37)) := hBb.alloc hBb.size _
        have hbc := hbb.alloc (.cells (actL6 a bv).toArray 37)
        have hoc := World.ownsRow.alloc hob (.cells (actL6 a bv).toArray 37)
        have hqc := Blk.new Wb 37 (actL6 a bv).toArray
        have hsc : w.heap.size + 1 ≤ (Wb.alloc (.cells (actL6 a bv).toArray 37)).heap.size := by simp; omega
        generalize Wb.alloc (.cells (actL6 a bv).toArray 37) = Wc at *
        simp only [Act.put, List.setIfInBounds_toArray, List.set_cons_succ, List.set_cons_zero]
        obtain ⟨v19, W9, hr9, hA9, hB9, hb9⟩ := HFIN Wc v16 Wb.heap.size hBc hbc hoc hqc hsc
        refine held_all1 5 (by kernel_rfl) (op_value 5 19 _ v19 W9 rfl rfl rfl (exec_app _ _ _ _ rfl (v16) (.slice (some ⟨Wb.heap.size, 0, none⟩) 1 1) _ rfl rfl hr9) ⟨hb9, ?_⟩)
        simp only [Act.put, List.setIfInBounds_toArray, List.set_cons_succ, List.set_cons_zero]
        refine held_all1 6 (by kernel_rfl) (op_call 6 20 _ 13 #[v19] rfl rfl rfl (exec_one 13 _ _ rfl _ rfl Try.call13) ((much6_any v19 _ W9 hA9).mono ?_))
        rintro e W10 ⟨⟨mb, rfl⟩, rfl⟩
        refine ⟨_, rfl, hb9, ?_⟩
        simp only [Act.put, List.setIfInBounds_toArray, List.set_cons_succ, List.set_cons_zero]
        refine held_all1 7 (by kernel_rfl) (op_value 7 8 _ (.bool mb) W9 rfl rfl rfl rfl ⟨hb9, ?_⟩)
        simp only [Act.put, List.setIfInBounds_toArray, List.set_cons_succ, List.set_cons_zero]
        refine wpAnyH_done (by kernel_rfl) ?_ _
        refine NoPanic.normal ?_
        go_wp2
        go_meet
        exact ⟨mb, rfl, hB9, hb9⟩
      · skip
        refine op_value 4 18 _ _ (Wa.alloc (.cells (actL6 a bv).toArray 37)) rfl rfl rfl (exec_acts1 _ rfl (.int .i64 a.act) (.int .i64 a.k) (.int .i64 a.n) bv rfl) ⟨hba.alloc _, ?_⟩
        have hBb : Below w.heap.size w (Wa.alloc (.cells (actL6 a bv).toArray 37)) := hBa.alloc hBa.size _
        have hbb := hba.alloc (.cells (actL6 a bv).toArray 37)
        have hob := World.ownsRow.alloc hoa (.cells (actL6 a bv).toArray 37)
        have hqb := Blk.new Wa 37 (actL6 a bv).toArray
        have hsb : (Wa.alloc (.cells (actL6 a bv).toArray 37)).heap.size = Wa.heap.size + 1 := by simp
        generalize Wa.alloc (.cells (actL6 a bv).toArray 37) = Wb at *
        simp only [Act.put, List.setIfInBounds_toArray, List.set_cons_succ, List.set_cons_zero]
        obtain ⟨v16, Wc, hrc, hoc, hgc⟩ := app_acts Wb (w.heap.size + 1) (.slice (some ⟨W1.heap.size, 0, none⟩) 0 0) 0 [] hob ao l.length c news hrowA.1 hrowA.2.1 hn0 (hsrcB _ hBb) (by omega) (by omega)
        rw [List.nil_append, Nat.zero_add] at hoc
        have hBc : Below w.heap.size w Wc := below_grown hBb hgc hBb.size (fun k hk => by have h2 : W1.heap.size = k := Option.some.inj hk; omega)
        have hbc := hbb.grown hgc (fun e => by have h2 : w.heap.size = W1.heap.size := Option.some.inj e; omega)
        have hzc := hgc.size
        refine held_all1 2 (by kernel_rfl) (op_value 2 16 _ v16 Wc rfl rfl rfl (exec_app _ _ _ _ rfl (.slice (some ⟨W1.heap.size, 0, none⟩) 0 0) (.slice ao l.length c) _ rfl rfl hrc) ⟨hbc, ?_⟩)
        simp only [Act.put, List.setIfInBounds_toArray, List.set_cons_succ, List.set_cons_zero]
        have hqc := hqb.grown hgc (fun e => by have h2 : Wa.heap.size = W1.heap.size := Option.some.inj e; omega)
        have hsc : w.heap.size + 1 ≤ Wc.heap.size := by omega
        obtain ⟨v19, W9, hr9, hA9, hB9, hb9⟩ := HFIN Wc v16 Wa.heap.size hBc hbc hoc hqc hsc
        refine held_all1 5 (by kernel_rfl) (op_value 5 19 _ v19 W9 rfl rfl rfl (exec_app _ _ _ _ rfl (v16) (.slice (some ⟨Wa.heap.size, 0, none⟩) 1 1) _ rfl rfl hr9) ⟨hb9, ?_⟩)
        simp only [Act.put, List.setIfInBounds_toArray, List.set_cons_succ, List.set_cons_zero]
        refine held_all1 6 (by kernel_rfl) (op_call 6 20 _ 13 #[v19] rfl rfl rfl (exec_one 13 _ _ rfl _ rfl Try.call13) ((much6_any v19 _ W9 hA9).mono ?_))
        rintro e W10 ⟨⟨mb, rfl⟩, rfl⟩
        refine ⟨_, rfl, hb9, ?_⟩
        simp only [Act.put, List.setIfInBounds_toArray, List.set_cons_succ, List.set_cons_zero]
        refine held_all1 7 (by kernel_rfl) (op_value 7 8 _ (.bool mb) W9 rfl rfl rfl rfl ⟨hb9, ?_⟩)
        simp only [Act.put, List.setIfInBounds_toArray, List.set_cons_succ, List.set_cons_zero]
        refine wpAnyH_done (by kernel_rfl) ?_ _
        refine NoPanic.normal ?_
        go_wp2
        go_meet
        exact ⟨mb, rfl, hB9, hb9⟩
    · skip
      have hBa : Below w.heap.size w (W1.alloc (.cells (actL6 a bv).toArray 37)) := hBd.alloc hBd.size _
      have hba := hbS.alloc (.cells (actL6 a bv).toArray 37)
      have hqa := Blk.new W1 37 (actL6 a bv).toArray
      have hsa : (W1.alloc (.cells (actL6 a bv).toArray 37)).heap.size = W1.heap.size + 1 := by simp
      generalize W1.alloc (.cells (actL6 a bv).toArray 37) = Wa at *
      simp only [Act.put, List.setIfInBounds_toArray, List.set_cons_succ, List.set_cons_zero]
      refine held_all1 0 (by kernel_rfl) (op_value 0 14 _ _ _ rfl rfl rfl (exec_actsE rfl) ⟨hba.alloc _, ?_⟩)
      have hBb : Below w.heap.size w (Wa.alloc (.cells #[] 37)) := hBa.alloc hBa.size _
      have hbb := hba.alloc (.cells #[] 37)
      have hob := owns_empty Wa (w.heap.size + 1) Wa.heap.size rfl (by omega)
      have hqb := hqa.alloc (.cells #[] 37)
      have hsb : (Wa.alloc (.cells #[] 37)).heap.size = Wa.heap.size + 1 := by simp
      generalize Wa.alloc (.cells #[] 37) = Wb at *
      simp only [Act.put, List.setIfInBounds_toArray, List.set_cons_succ, List.set_cons_zero]
      obtain ⟨v16, Wc, hrc, hoc, hgc⟩ := app_acts Wb (w.heap.size + 1) (.slice (some ⟨Wa.heap.size, 0, none⟩) 0 0) 0 [] hob ao l.length c news hrowA.1 hrowA.2.1 hn0 (hsrcB _ hBb) (by omega) (by omega)
      rw [List.nil_append, Nat.zero_add] at hoc
      have hBc : Below w.heap.size w Wc := below_grown hBb hgc hBb.size (fun k hk => by have h2 : Wa.heap.size = k := Option.some.inj hk; omega)
      have hbc := hbb.grown hgc (fun e => by have h2 : w.heap.size = Wa.heap.size := Option.some.inj e; omega)
      have hzc := hgc.size
      refine held_all1 2 (by kernel_rfl) (op_value 2 16 _ v16 Wc rfl rfl rfl (exec_app _ _ _ _ rfl (.slice (some ⟨Wa.heap.size, 0, none⟩) 0 0) (.slice ao l.length c) _ rfl rfl hrc) ⟨hbc, ?_⟩)
      simp only [Act.put, List.setIfInBounds_toArray, List.set_cons_succ, List.set_cons_zero]
      have hqc := hqb.grown hgc (fun e => by have h2 : W1.heap.size = Wa.heap.size := Option.some.inj e; omega)
      have hsc : w.heap.size + 1 ≤ Wc.heap.size := by omega
      obtain ⟨v19, W9, hr9, hA9, hB9, hb9⟩ := HFIN Wc v16 W1.heap.size hBc hbc hoc hqc hsc
      refine held_all1 5 (by kernel_rfl) (op_value 5 19 _ v19 W9 rfl rfl rfl (exec_app _ _ _ _ rfl (v16) (.slice (some ⟨W1.heap.size, 0, none⟩) 1 1) _ rfl rfl hr9) ⟨hb9, ?_⟩)
      simp only [Act.put, List.setIfInBounds_toArray, List.set_cons_succ, List.set_cons_zero]
      refine held_all1 6 (by kernel_rfl) (op_call 6 20 _ 13 #[v19] rfl rfl rfl (exec_one 13 _ _ rfl _ rfl Try.call13) ((much6_any v19 _ W9 hA9).mono ?_))
      rintro e W10 ⟨⟨mb, rfl⟩, rfl⟩
      refine ⟨_, rfl, hb9, ?_⟩
      simp only [Act.put, List.setIfInBounds_toArray, List.set_cons_succ, List.set_cons_zero]
      refine held_all1 7 (by kernel_rfl) (op_value 7 8 _ (.bool mb) W9 rfl rfl rfl rfl ⟨hb9, ?_⟩)
      simp only [Act.put, List.setIfInBounds_toArray, List.set_cons_succ, List.set_cons_zero]
      refine wpAnyH_done (by kernel_rfl) ?_ _
      refine NoPanic.normal ?_
      go_wp2
      go_meet
      exact ⟨mb, rfl, hB9, hb9⟩
  case rest =>
    obtain ⟨mb, rfl, hB2, hbox2⟩ := hcut
    clear hB hbox
    cases mb with
    | true =>
      go_wp2
      go_ret
      exact ⟨rfl, hB2⟩
    | false =>
      go_wp2_with fail
      refine (begun6_any P _ l wc (hl.below hB2 (Nat.le_refl _))).mono ?_
      rintro e w3 ⟨L, rfl, hLn, hD3, hb3, hT3⟩
      have hB3 : Below w.heap.size w w3 := hB2.trans (hb3.mono hB2.size)
      have hbox3 := hbox2.below hb3 hbox2.lt
      go_wp2_with fail
      refine (begun6_any P _ l w3 (hl.below hB3 (Nat.le_refl _))).mono ?_
      rintro e w4 ⟨K, rfl, hKn, hE4, hb4, hT4⟩
      have hB4 : Below w.heap.size w w4 := hB3.trans (hb4.mono hB3.size)
      have hD4 := P.after hD3 hb4
      have hbox4 := hbox3.below hb4 hbox3.lt
      go_wp2_with fail
      have HM : Hid (Calls Try.prog 11 #[.int .i64 4, .int .i64 10000] w4 fun e w' => ∃ L : FLay, e = .returned (.tuple #[.pointer (some ⟨L.g, 0, none⟩), .int .i64 0]) ∧ L.n = 4 ∧ RFlash w' L (newF 4 10000) ∧ Below w4.heap.size w4 w' ∧ (∀ q, L.T q → w4.heap.size ≤ q)) := ref6New_any 4 10000 w4 (by decide) (by decide) (by decide) (by decide)
      refine HM.out.mono ?_
      rintro e w5 ⟨M, rfl, -, hR5, hb5, hT5⟩
      have hB5 : Below w.heap.size w w5 := hB4.trans (hb5.mono hB4.size)
      have hbox5 := hbox4.below hb5 hbox4.lt
      have hP5 := pair6_new hD4 hb5 hR5 hT5
      have hE5 := P.after hE4 hb5
      have oLK : ∀ q, P.T L q → ¬ P.T K q := fun q h1 h2 => by have := P.lt hD3 q h1; have := hT4 q h2; omega
      have oKM : ∀ q, P.T K q → ¬ M.T q := fun q h1 h2 => by have := P.lt hE4 q h1; have := hT5 q h2; omega
      have bLt := hbox2.lt
      have tL : ∀ q, P.T L q → wc.heap.size ≤ q := hT3
      have tK : ∀ q, P.T K q → wc.heap.size ≤ q := fun q h => Nat.le_trans hb3.size (hT4 q h)
      have tM : ∀ q, M.T q → wc.heap.size ≤ q := fun q h => Nat.le_trans (Nat.le_trans hb3.size hb4.size) (hT5 q h)
      have hs := begunF_calm l
      obtain ⟨hw1, hw2⟩ := begun_worn l
      have hd1 := and_one a.act
      generalize begunF l = s at *
      clear HM hb3 hb4 hb5 hD3 hD4 hE4 hR5 hT3 hT4 hT5 hbox2 hbox3 hbox4 hB3 hB4
      have c0 := hbox5.cell (j := 0) rfl
      have f0 := hbox5.frozen 0
      go_wp2_with fail
      generalize bits .and .i64 a.act 1 = d at *
      have hbox6 : Blk (w5.setCell ⟨w.heap.size, 0, none⟩ (.int .i64 d)) w.heap.size 37 #[.int .i64 d, .int .i64 a.k, .int .i64 a.n, bv] := (hbox5.set 0 _).of_eq rfl
      have hc6 : Chg (fun q => q = w.heap.size) w5 (w5.setCell ⟨w.heap.size, 0, none⟩ (.int .i64 d)) := (Chg.refl (fun q => q = w.heap.size) w5).setCell w.heap.size 0 _ (fun _ => rfl)
      have hP6 : Pair6 P (w5.setCell ⟨w.heap.size, 0, none⟩ (.int .i64 d)) L M s (newF 4 10000) := ⟨P.chg hP5.p hc6 (fun q h e => by have := tL q h; omega), hP5.r.chg hc6 (fun q h e => by have := tM q h; omega), hP5.off⟩
      have hE6 := P.chg hE5 hc6 (fun q h e => by have := tK q h; omega)
      have hB6 : Below w.heap.size w (w5.setCell ⟨w.heap.size, 0, none⟩ (.int .i64 d)) := hB5.trans (hc6.below (fun q e => by omega) hB5.size)
      generalize w5.setCell ⟨w.heap.size, 0, none⟩ (.int .i64 d) = w6 at *
      obtain ⟨A, hAd⟩ : ∃ A : Act6, A = ⟨d, a.k, a.n, a.b⟩ := ⟨_, rfl⟩
      have hA : At6 w bv A := by rw [hAd]; exact ⟨ha.b, ha.bm, r64_small _ (by show -1000000 ≤ d; omega) (by show d ≤ 1000000; omega), ha.k, ha.n⟩
      have hbA : #[.int .i64 d, .int .i64 a.k, .int .i64 a.n, bv] = (actL6 A bv).toArray := by rw [hAd]; rfl
      have hdA : A.act = 0 ∨ A.act = 1 := by rw [hAd]; exact hd1
      rw [hbA] at hbox6
      have HSAME := again_same s hs hw1 hw2 A hdA z
      clear hbA hAd hd1 hP5 hE5 hbox5 hB5 hc6 c0 f0 hs hw1 hw2 hdA
      have uL : ∀ q, P.T L q → w.heap.size ≤ q := fun q h => by have := tL q h; omega
      have uK : ∀ q, P.T K q → w.heap.size ≤ q := fun q h => by have := tK q h; omega
      have uLM : ∀ q, both6 P L M q → w.heap.size ≤ q := fun q h => by rcases h with h | h; exact uL q h; have := tM q h; omega
      have uKM : ∀ q, both6 P K M q → w.heap.size ≤ q := fun q h => by rcases h with h | h; exact uK q h; have := tM q h; omega
      have nL : ¬ P.T L w.heap.size := fun h => by have := tL _ h; omega
      have nLM : ¬ both6 P L M w.heap.size := fun h => by rcases h with h | h; exact nL h; have := tM _ h; omega
      have nKM : ¬ both6 P K M w.heap.size := fun h => by rcases h with h | h; (have := tK _ h; omega); have := tM _ h; omega
      clear tL tK tM
      refine (P.arm L s 0 z w6 hP6.p (r64_small _ (by omega) (by omega)) hz).mono ?_
      rintro e w7 ⟨rfl, hD7, hc7⟩
      have hP7 : Pair6 P w7 L M (armF s 0 z) (newF 4 10000) := ⟨hD7, hP6.stepP hc7, hP6.off⟩
      have hE7 := P.chg hE6 hc7 (fun q h1 h2 => oLK q h2 h1)
      have hB7 : Below w.heap.size w w7 := hB6.trans (hc7.below uL hB6.size)
      have hbox7 := hbox6.chg hc7 nL
      clear hP6 hE6 hB6 hbox6 hD7 hc7
      generalize newF 4 10000 = t0 at *
      have HDO1 : Hid (Calls Try.prog 14 #[.pointer (some ⟨P.g L, 0, none⟩), .pointer (some ⟨M.g, 0, none⟩), .agg (actL6 A bv).toArray] w7 fun e w' => Tells e (armF s 0 z = t0) ∧ Pair6 P w' L M (actF (armF s 0 z) A) (actF (t0) A) ∧ Chg (both6 P L M) w7 w') := does6_any P L M _ _ A bv w7 hP7 (hA.below hB7 (Nat.le_refl _)) (hA.b.apart6 uLM)
      have hrg1 : w7.rangeAt w.heap.size 0 (actL6 A bv) := hbox7.range 0 _ (fun j u hu => by rw [Nat.zero_add]; simpa [actL6] using hu)
      go_wp2_with (first | (go_at_call 14; refine HDO1.out.mono ?_; rintro e w8 ⟨⟨bb1, rfl, -⟩, hP8, hc8⟩) | (refine wpList_load_mid rfl 37 _ rfl w.heap.size 0 rfl (actL6 A bv) _ hrg1 Try.underlying37 rfl Try.info37s ?_))
      clear HDO1 hrg1
      have hB8 : Below w.heap.size w w8 := hB7.trans (hc8.below uLM hB7.size)
      have hbox8 := hbox7.chg hc8 (nLM)
      have hE8 := P.chg hE7 hc8 (fun q h1 h2 => by rcases h2 with h2 | h2; exact oLK q h2 h1; exact oKM q h1 h2)
      clear hP7 hE7 hB7 hbox7
      generalize hs8 : actF (armF s 0 z) A = s8 at *
      go_wp2_with fail
      refine (P.power L s8 w8 hP8.p).mono ?_
      rintro e w9 ⟨rfl, hD9, hc9⟩
      have hP9 : Pair6 P w9 L M (powerF s8) (actF t0 A) := ⟨hD9, hP8.stepP hc9, hP8.off⟩
      have hE9 := P.chg hE8 hc9 (fun q h1 h2 => oLK q h2 h1)
      have hB9 : Below w.heap.size w w9 := hB8.trans (hc9.below uL hB8.size)
      have hbox9 := hbox8.chg hc9 nL
      clear hP8 hE8 hB8 hbox8 hD9 hc9
      generalize actF t0 A = t1 at *
      have HDO2 : Hid (Calls Try.prog 14 #[.pointer (some ⟨P.g L, 0, none⟩), .pointer (some ⟨M.g, 0, none⟩), .agg (actL6 A bv).toArray] w9 fun e w' => Tells e (powerF s8 = t1) ∧ Pair6 P w' L M (actF (powerF s8) A) (actF (t1) A) ∧ Chg (both6 P L M) w9 w') := does6_any P L M _ _ A bv w9 hP9 (hA.below hB9 (Nat.le_refl _)) (hA.b.apart6 uLM)
      have hrg2 : w9.rangeAt w.heap.size 0 (actL6 A bv) := hbox9.range 0 _ (fun j u hu => by rw [Nat.zero_add]; simpa [actL6] using hu)
      go_upto_region 15 with (first | (go_at_call 14; refine HDO2.out.mono ?_; rintro e w10 ⟨⟨bb2, rfl, -⟩, hP10, hc10⟩) | (refine wpList_load_mid rfl 37 _ rfl w.heap.size 0 rfl (actL6 A bv) _ hrg2 Try.underlying37 rfl Try.info37s ?_))
      clear HDO2 hrg2
      have hbox10 := hbox9.chg hc10 nLM
      have hB10 : Below w.heap.size w w10 := hB9.trans (hc10.below uLM hB9.size)
      have hE10 := P.chg hE9 hc10 (fun q h1 h2 => by rcases h2 with h2 | h2; exact oLK q h2 h1; exact oKM q h1 h2)
      clear hP9 hE9 hB9 hbox9
      generalize hs10 : actF (powerF s8) A = s10 at *
      generalize actF t1 A = t2 at *
      have hQ10 : Pair6 P w10 K M s t2 := ⟨hE10, hP10.r, oKM⟩
      have HDO3 : Hid (Calls Try.prog 14 #[.pointer (some ⟨P.g K, 0, none⟩), .pointer (some ⟨M.g, 0, none⟩), .agg (actL6 A bv).toArray] w10 fun e w' => Tells e (s = t2) ∧ Pair6 P w' K M (actF (s) A) (actF (t2) A) ∧ Chg (both6 P K M) w10 w') := does6_any P K M _ _ A bv w10 hQ10 (hA.below hB10 (Nat.le_refl _)) (hA.b.apart6 uKM)
      have hrg3 : w10.rangeAt w.heap.size 0 (actL6 A bv) := hbox10.range 0 _ (fun j u hu => by rw [Nat.zero_add]; simpa [actL6] using hu)
      go_upto_region 16 with (first | (go_at_call 14; refine HDO3.out.mono ?_; rintro e w11 ⟨⟨bb3, rfl, -⟩, hP11, hc11⟩) | (refine wpList_load_mid rfl 37 _ rfl w.heap.size 0 rfl (actL6 A bv) _ hrg3 Try.underlying37 rfl Try.info37s ?_))
      clear HDO3 hrg3
      have hB11 : Below w.heap.size w w11 := hB10.trans (hc11.below uKM hB10.size)
      have hbox11 := hbox10.chg hc11 (nKM)
      have hD11 := P.chg hP10.p hc11 (fun q h1 h2 => by rcases h2 with h2 | h2; exact oLK q h1 h2; exact hP10.off q h1 h2)
      have hE11 := hP11.p
      clear hP10 hQ10 hP11 hE10 hB10 hbox10 hbox11
      generalize hs11 : actF s A = s11 at *
      obtain ⟨e1, e2, e3⟩ := HSAME
      have E1 : Hid (s10.b = s11.b) := e1
      clear e1
      have k10 : s10.ok 4 := by have := P.ok hD11; rwa [hLn] at this
      have k11 : s11.ok 4 := by have := P.ok hE11; rwa [hKn] at this
      have HA := all6_any P L s10 w11 hD11
      rw [readF_all e2 k10] at HA
      go_wp2_with fail
      refine HA.mono ?_
      rintro e w12 ⟨rfl, hb12⟩
      have hB12 : Below w.heap.size w w12 := hB11.trans (hb12.mono hB11.size)
      have HE := all6_any P K s11 w12 (P.after hE11 hb12)
      rw [readF_all e3 k11, ← E1.out] at HE
      go_wp2_with fail
      refine HE.mono ?_
      rintro e w13 ⟨rfl, hb13⟩
      have hB13 : Below w.heap.size w w13 := hB12.trans (hb13.mono hB12.size)
      clear HA HE
      generalize (⟨s10.b.toArray⟩ : ByteArray) = X
      go_wp2
      go_ret
      exact ⟨rfl, hB13⟩
end Go.Proofs.Ytjcbkimibmdggaa
