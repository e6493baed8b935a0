/-
  What is proved here: whether rows of bytes are the same. the program's log beside rows that a call gathers: what the log does keeps these rows. of rows of bytes: how many bytes of a bank they want, and whether one is too long.
  Conditions: the rows lie in memory. those that each fact names.
-/
import Derived.Test.YtbegphfideopoaaGreatJShaPure
import Derived.Deep.Slices
import Derived.Test.YtbegphfideopoaaGreatJWalPure
import Derived.Test.YtbegphfideopoaaGreatJPWalCheck
import Derived.Test.YtbegphfideopoaaGreatJWalSeq
import Derived.Test.YtbegphfideopoaaGreatJPackPure
namespace Go.Proofs.YtbegphfideopoaaGreat
open Go.RowKit

/-- Rows of bytes in a slice. -/
def RowsV (w : World) (v : Value) (rs : List (List UInt8)) : Prop := ∃ ao c, v = .slice ao rs.length c ∧ rs.length ≤ maxLen ∧ ∀ (i : Nat) r, rs[i]? = some r → ∃ b off, ao = some ⟨b, off, none⟩ ∧ b < w.heap.size ∧ ∃ u, w.cell? ⟨b, off + i, none⟩ = some u ∧ Seg w u r

end Go.Proofs.YtbegphfideopoaaGreat
namespace Go.Proofs.YtbegphfideopoaaGreat
open Go.RowKit

def Off (B : Nat) (D : Nat → Prop) : Nat → Prop := fun q => B ≤ q ∧ ¬ D q
def LogX (B : Nat) (D : Nat → Prop) (w : World) (G : Nat) (L : PLay) (s : DS) (l : LS) : Prop := ∃ C, PB w G L C s l ∧ (∀ q, C q → Off B D q) ∧ (∀ q, D q → q < w.heap.size) ∧ B ≤ w.heap.size
def DiskX (B : Nat) (D : Nat → Prop) (w : World) (L : PLay) (s : DS) : Prop := ∃ C, OD w L C s ∧ (∀ q, C q → Off B D q) ∧ (∀ q, D q → q < w.heap.size) ∧ B ≤ w.heap.size
theorem LogAt.x {B : Nat} {w : World} {G : Nat} {L : PLay} {s : DS} {l : LS} (h : LogAt B w G L s l) (D : Nat → Prop) (hD : ∀ q, ¬ D q) : LogX B D w G L s l := by
  obtain ⟨C, h1, h2, h3⟩ := h
  exact ⟨C, h1, fun q hq => ⟨h2 q hq, hD q⟩, fun q hq => absurd hq (hD q), h3⟩
theorem LogX.le {B : Nat} {D : Nat → Prop} {w : World} {G : Nat} {L : PLay} {s : DS} {l : LS} (h : LogX B D w G L s l) : B ≤ w.heap.size := h.choose_spec.2.2.2
theorem DiskX.le {B : Nat} {D : Nat → Prop} {w : World} {L : PLay} {s : DS} (h : DiskX B D w L s) : B ≤ w.heap.size := h.choose_spec.2.2.2
theorem LogX.disk {B : Nat} {D : Nat → Prop} {w : World} {G : Nat} {L : PLay} {s : DS} {l : LS} (h : LogX B D w G L s l) : DiskX B D w L s := by
  obtain ⟨C, h1, h2, h3⟩ := h
  obtain ⟨CD, k1, k2⟩ := h1.disk
  exact ⟨CD, k1, fun q hq => h2 q (k2 q hq), h3⟩
theorem DiskX.d {B : Nat} {D : Nat → Prop} {w : World} {L : PLay} {s : DS} (h : DiskX B D w L s) : DiskAt B w L s := by
  obtain ⟨C, h1, h2, h3, h4⟩ := h
  exact ⟨C, h1, fun q hq => (h2 q hq).1, h4⟩
theorem LogX.after {B : Nat} {D : Nat → Prop} {w w' : World} {G : Nat} {L : PLay} {s : DS} {l : LS} (h : LogX B D w G L s l) (hb : Below w.heap.size w w') : LogX B D w' G L s l := by
  obtain ⟨C, h1, h2, h3, h4⟩ := h
  exact ⟨C, h1.after hb, h2, fun q hq => Nat.lt_of_lt_of_le (h3 q hq) hb.size, Nat.le_trans h4 hb.size⟩
theorem x_fr {C : Nat → Prop} {B : Nat} {D : Nat → Prop} {w w' : World} (h : ∀ q, C q → Off B D q) (hD : ∀ q, D q → q < w.heap.size) (hB : B ≤ w.heap.size) (q : Nat) (hq : Fr C w w' q) : Off B D q := by
  rcases hq with e | e
  · exact h q e
  · exact ⟨Nat.le_trans hB e.1, fun d => by have := hD q d; omega⟩
theorem off_below {B : Nat} {D : Nat → Prop} {w w' : World} (h : Chg (Off B D) w w') (hB : B ≤ w.heap.size) : Below B w w' := h.below (fun _ hk => hk.1) hB
theorem x_check {B : Nat} {D : Nat → Prop} {w : World} {G : Nat} {L : PLay} {s : DS} {l : LS} (h : LogX B D w G L s l) (x : Value) (st : List UInt8) (hS : Seg w x st) (hm : st.length ≤ 1000000) :
    Calls Tryz.prog 29 #[.pointer (some ⟨G, 0, none⟩), x] w fun e w' => e = .returned (.int .i64 (checkW s l st).1) ∧ LogX B D w' G L (checkW s l st).2.1 (checkW s l st).2.2 ∧ Chg (Off B D) w w' := by
  obtain ⟨C, h1, h2, h3, h4⟩ := h
  refine (pb_check h1 x st hS hm).mono ?_
  rintro e w' ⟨rfl, hP, hc⟩
  exact ⟨rfl, ⟨_, hP, x_fr h2 h3 h4, fun q hq => Nat.lt_of_lt_of_le (h3 q hq) hc.size, Nat.le_trans h4 hc.size⟩, hc.weaken h2⟩
theorem x_append {B : Nat} {D : Nat → Prop} {w : World} {G : Nat} {L : PLay} {s : DS} {l : LS} (h : LogX B D w G L s l) (x : Value) (bs : List UInt8) (hS : Seg w x bs) (hm : bs.length ≤ 1000000) (hx : 0 < bs.length → ∀ q, x.ownBlock = some q → q < B) :
    Calls Tryz.prog 69 #[.pointer (some ⟨G, 0, none⟩), x] w fun e w' => e = .returned (.int .i64 (appendW s l bs).1) ∧ LogX B D w' G L s (appendW s l bs).2 ∧ Chg (Off B D) w w' := by
  obtain ⟨C, h1, h2, h3, h4⟩ := h
  refine (pb_append h1 x bs hS hm (fun h0 q hq e => by have := hx h0 q hq; have := (h2 q e).1; omega)).mono ?_
  rintro e w' ⟨rfl, hP, hc⟩
  exact ⟨rfl, ⟨_, hP, x_fr h2 h3 h4, fun q hq => Nat.lt_of_lt_of_le (h3 q hq) hc.size, Nat.le_trans h4 hc.size⟩, hc.weaken h2⟩
theorem x_commit {B : Nat} {D : Nat → Prop} {w : World} {G : Nat} {L : PLay} {s : DS} {l : LS} (h : LogX B D w G L s l) :
    Calls Tryz.prog 70 #[.pointer (some ⟨G, 0, none⟩)] w fun e w' => e = .returned (.int .i64 (commitW s l).1) ∧ LogX B D w' G L (commitW s l).2.1 (commitW s l).2.2 ∧ Chg (Off B D) w w' := by
  obtain ⟨C, h1, h2, h3, h4⟩ := h
  refine (pb_commit h1).mono ?_
  rintro e w' ⟨rfl, hP, hc⟩
  exact ⟨rfl, ⟨_, hP, x_fr h2 h3 h4, fun q hq => Nat.lt_of_lt_of_le (h3 q hq) hc.size, Nat.le_trans h4 hc.size⟩, hc.weaken h2⟩
/-- Rows that came in, in a slice of the call's own. -/
structure Kept (w0 w : World) (v : Value) (vs : List Value) (rs : List (List UInt8)) : Prop where
  own : w.ownsRow w0.heap.size 34 1 v rs.length vs
  rows : ∀ (i : Nat) u r, vs[i]? = some u → rs[i]? = some r → Seg w0 u r
def OwnOf (v : Value) : Nat → Prop := fun q => v.ownBlock = some q
theorem Kept.nil (w0 w : World) : Kept w0 w (.slice none 0 0) [] [] := ⟨⟨rfl, .inl ⟨rfl, rfl⟩⟩, fun i u r h => by simp at h⟩
theorem Kept.chg {w0 w w' : World} {v : Value} {vs : List Value} {rs : List (List UInt8)} {B : Nat} (h : Kept w0 w v vs rs) (hc : Chg (Off B (OwnOf v)) w w') : Kept w0 w' v vs rs :=
  ⟨ownsRow_chg h.own hc (fun _ hk e => e.2 hk), h.rows⟩
theorem Kept.after {w0 w w' : World} {v : Value} {vs : List Value} {rs : List (List UInt8)} (h : Kept w0 w v vs rs) (hb : Below w.heap.size w w') : Kept w0 w' v vs rs :=
  ⟨ownsRow_chg h.own (Chg.of_below (S := fun _ => False) hb (Nat.le_refl _)) (fun _ _ => id), h.rows⟩
theorem Kept.sl {w0 w : World} {v : Value} {vs : List Value} {rs : List (List UInt8)} (h : Kept w0 w v vs rs) : ∃ ao c, v = .slice ao rs.length c := by
  rcases h.own.2 with ⟨rfl, e⟩ | ⟨g, cap, cur, rfl, _⟩
  · exact ⟨none, 0, by rw [e]⟩
  · exact ⟨_, _, rfl⟩
theorem Kept.rowsV {w0 w : World} {v : Value} {vs : List Value} {rs : List (List UInt8)} (h : Kept w0 w v vs rs) (hB : Below w0.heap.size w0 w) (hm : rs.length ≤ maxLen) : RowsV w v rs := by
  obtain ⟨h1, h2⟩ := h.own
  rcases h2 with ⟨rfl, e⟩ | ⟨g, cap, cur, rfl, hb, hg, hc, hcm, hcs, ht⟩
  · have e' : rs = [] := List.eq_nil_of_length_eq_zero e
    subst e'
    exact ⟨none, 0, rfl, hm, fun i r hr => by simp at hr⟩
  · refine ⟨_, _, rfl, hm, fun i r hr => ?_⟩
    have hi : i < rs.length := (List.getElem?_eq_some_iff.1 hr).1
    have hiv : i < vs.length := by omega
    refine ⟨g, 0, rfl, Blk.lt (show Blk w g 34 cur from hg), vs[i], ?_, (h.rows i _ r (List.getElem?_eq_getElem hiv) hr).below hB (Nat.le_refl _)⟩
    rw [Nat.zero_add]
    refine Blk.cell (show Blk w g 34 cur from hg) ?_
    have : (cur.toList.take (rs.length * 1))[i]? = some vs[i] := by rw [ht]; exact List.getElem?_eq_getElem hiv
    rw [List.getElem?_take_of_lt (by omega)] at this
    simpa using this
theorem Gat.rowsV {w : World} {base : Nat} {v : Value} {vs : List Value} {rs : List (List UInt8)} (h : Gat w base v vs rs) (hm : rs.length ≤ maxLen) : RowsV w v rs := by
  obtain ⟨h1, h2⟩ := h.own
  rcases h2 with ⟨rfl, e⟩ | ⟨g, cap, cur, rfl, hb, hg, hc, hcm, hcs, ht⟩
  · have e' : rs = [] := List.eq_nil_of_length_eq_zero e
    subst e'
    exact ⟨none, 0, rfl, hm, fun i r hr => by simp at hr⟩
  · refine ⟨_, _, rfl, hm, fun i r hr => ?_⟩
    have hi : i < rs.length := (List.getElem?_eq_some_iff.1 hr).1
    have hiv : i < vs.length := by omega
    refine ⟨g, 0, rfl, Blk.lt (show Blk w g 34 cur from hg), vs[i], ?_, (h.rows i _ r (List.getElem?_eq_getElem hiv) hr).seg⟩
    rw [Nat.zero_add]
    refine Blk.cell (show Blk w g 34 cur from hg) ?_
    have : (cur.toList.take (rs.length * 1))[i]? = some vs[i] := by rw [ht]; exact List.getElem?_eq_getElem hiv
    rw [List.getElem?_take_of_lt (by omega)] at this
    simpa using this
/-- append of one more row that came in. -/
theorem app_kept (w : World) {ops : Array Oper} {rest : List Oper} {o : Oper} {a : Act} {Q : Exit → Act → World → Prop} (hgd : o.guard = none) (s x : Operand)
    (ho : o.op = .call { callee := .builtin .append, args := #[s, x], argTypes := #[67, 67] })
    (w0 : World) (v : Value) (vs : List Value) (rs : List (List UInt8)) (hs : a.eval s = v) (hown : Kept w0 w v vs rs) (g c : Nat) (u : Value) (r : List UInt8) (hx : a.eval x = .slice (some ⟨g, 0, none⟩) 1 c) (hc : w.cell? ⟨g, 0, none⟩ = some u) (hu : Seg w0 u r)
    (hlen : rs.length ≤ 1000000) (hbase : w0.heap.size ≤ w.heap.size)
    (hK : ∀ v' w', Kept w0 w' v' (vs ++ [u]) (rs ++ [r]) → w.grownBy w' v.ownBlock → (v'.ownBlock = v.ownBlock ∨ v'.ownBlock = some w.heap.size) → wpList Tryz.prog ops Q rest (a.put o.dst v') w') :
    wpList Tryz.prog ops Q (o :: rest) a w := by
  obtain ⟨i0, hi, hz0, hz1, hz2⟩ := info_parts Tryz.info34p
  have hu1 : u.oneCell' = true := by
    obtain ⟨ao, c', rfl⟩ := Seg.shapeD hu
    rfl
  refine wpList_append_own_at w hgd s x 67 ho w0.heap.size 34 i0 (.slice none 0 0) 1 24 Tryz.underlying67 hi hz0 hz1 hz2 rfl (by decide) v rs.length vs hs hown.own ⟨g, 0, none⟩ 1 c [u] hx rfl (fun j y hy => ?_) (fun y hy => ?_) (by unfold maxLen; omega) (by omega) hbase ?_
  · match j, hy with
    | 0, hy => cases hy; exact hc
    | (j + 1), hy => cases hy
  · rw [show y = u by simpa using hy]; exact hu1
  intro v' w' h2 h3 _ h5
  refine hK v' w' ⟨by rw [List.length_append]; exact h2, fun i u' r' hu' hr' => ?_⟩ h3 h5
  have hl : vs.length = rs.length := by have := hown.own.1; omega
  rcases Nat.lt_or_ge i vs.length with hi' | hi'
  · rw [List.getElem?_append_left hi'] at hu'
    rw [List.getElem?_append_left (by omega)] at hr'
    exact hown.rows i u' r' hu' hr'
  · rw [List.getElem?_append_right hi'] at hu'
    rw [List.getElem?_append_right (by omega), ← hl] at hr'
    match hd : i - vs.length, hu', hr' with
    | 0, hu', hr' =>
      cases hu'; cases hr'
      exact hu
    | (j + 1), hu', hr' => simp at hu'
/-- The log, when the rows have grown. -/
theorem LogX.grow {B : Nat} {v v' : Value} {w w' : World} {G : Nat} {L : PLay} {s : DS} {l : LS} (h : LogX B (OwnOf v) w G L s l) (hg : w.grownBy w' v.ownBlock) (hv : v'.ownBlock = v.ownBlock ∨ v'.ownBlock = some w.heap.size) (hv2 : ∀ q, v'.ownBlock = some q → q < w'.heap.size) : LogX B (OwnOf v') w' G L s l := by
  obtain ⟨C, h1, h2, h3, h4⟩ := h
  have hc : Chg (OwnOf v) w w' := Chg.of_grown hg (fun k hk => hk)
  refine ⟨C, h1.chg hc (fun q hq e => (h2 q hq).2 e), fun q hq => ⟨(h2 q hq).1, fun e => ?_⟩, hv2, Nat.le_trans h4 hc.size⟩
  rcases hv with k | k
  · exact (h2 q hq).2 (k.symm.trans e)
  · have := h1.lt q hq
    have e : v'.ownBlock = some q := e
    rw [k] at e
    cases e
    omega
theorem Kept.lt {w0 w : World} {v : Value} {vs : List Value} {rs : List (List UInt8)} (h : Kept w0 w v vs rs) (q : Nat) (hq : v.ownBlock = some q) : q < w.heap.size := by
  rcases h.own.2 with ⟨rfl, e⟩ | ⟨g, cap, cur, rfl, hb, hg, _⟩
  · cases hq
  · cases hq
    exact Blk.lt (show Blk w g 34 cur from hg)
theorem Kept.ge {w0 w : World} {v : Value} {vs : List Value} {rs : List (List UInt8)} (h : Kept w0 w v vs rs) (q : Nat) (hq : v.ownBlock = some q) : w0.heap.size ≤ q := by
  rcases h.own.2 with ⟨rfl, e⟩ | ⟨g, cap, cur, rfl, hb, hg, _⟩
  · cases hq
  · cases hq
    exact hb
end Go.Proofs.YtbegphfideopoaaGreat
namespace Go.Proofs.YtbegphfideopoaaGreat
open Go.RowKit

theorem reckon_step {rs : List (List UInt8)} {I : Nat} {r : List UInt8} (h : rs[I]? = some r) : reckonB (rs.take (I + 1)) = reckonB (rs.take I) + (r.length + 24) := by
  unfold reckonB
  rw [List.take_add_one, h, List.map_append, List.sum_append]
  simp
theorem reckon_le (rs : List (List UInt8)) (h : ∀ r ∈ rs, r.length ≤ 1000000) : reckonB rs ≤ 1000024 * rs.length := by
  induction rs with
  | nil => exact Nat.le_refl _
  | cons r rs ih =>
    have h1 := ih (fun q hq => h q (List.mem_cons_of_mem _ hq))
    have h2 := h r List.mem_cons_self
    show r.length + 24 + reckonB rs ≤ 1000024 * (rs.length + 1)
    omega
set_option maxRecDepth 100000 in
set_option maxHeartbeats 2000000 in
theorem reckon_any (v : Value) (rs : List (List UInt8)) (w : World) (hv : RowsV w v rs) (hl : ∀ r ∈ rs, r.length ≤ 1000000) (hn : rs.length ≤ 1000000) :
    Calls Tryz.prog 67 #[v] w fun e w' => e = .returned (.int .i64 (reckonB rs : Int)) ∧ w' = w := by
  obtain ⟨ao, c, rfl, hm, hat⟩ := hv
  obtain ⟨R, hR⟩ : ∃ R, R = reckonB rs := ⟨_, rfl⟩
  rw [← hR]
  have HR : Hid (R = reckonB rs) := hR
  clear hR hm
  go_enter Tryz.func67, Tryz.ntmps67
  go_wp2_with fail
  go_loop [3, 8] (fun nv i => ∃ I : Nat, i = .int .i64 (I : Int) ∧ I ≤ rs.length ∧ nv = .int .i64 (reckonB (rs.take I) : Int)) (fun _ i => rs.length - (intOf i).toNat)
  case atStart => exact ⟨0, rfl, Nat.zero_le _, rfl⟩
  case round =>
    obtain ⟨I, rfl, hI, rfl⟩ := hrel
    have hb := reckon_le (rs.take I) (fun r hr => hl r (List.mem_of_mem_take hr))
    rw [List.length_take] at hb
    by_cases hlt : I < rs.length
    · have i1 : (I : Int) < (rs.length : Int) := by omega
      have hg : rs[I]? = some rs[I] := List.getElem?_eq_getElem hlt
      obtain ⟨r, hr⟩ : ∃ r, rs[I] = r := ⟨_, rfl⟩
      rw [hr] at hg
      clear hr
      obtain ⟨b, off, rfl, hbl, u, hc, hu⟩ := hat I r hg
      obtain ⟨ua, uc, rfl⟩ := hu.shapeD
      have hrl := hl r (List.mem_of_getElem? hg)
      have HST : Hid (reckonB (rs.take (I + 1)) = reckonB (rs.take I) + (r.length + 24)) := reckon_step hg
      have hix := index_rows b off rs.length c (I : Int) I rfl hlt
      clear hg hat hu
      obtain ⟨Z, hZ⟩ : ∃ Z, Z = reckonB (rs.take I) := ⟨_, rfl⟩
      rw [← hZ] at hb HST ⊢
      have hzb : Z ≤ 2000000000000 := by omega
      clear hZ
      go_wp2_with fail
      go_round
      case rel => exact ⟨I + 1, by go_num, hlt, by rw [HST.out]; go_num⟩
      case measure => simp [intOf]; omega
    · have i1 : ¬ (I : Int) < (rs.length : Int) := by omega
      obtain rfl : I = rs.length := by omega
      rw [List.take_length]
      rw [← HR.out]
      go_wp2_with fail
      go_ret
      exact ⟨rfl, rfl⟩
set_option maxRecDepth 100000 in
theorem tooLong_any (ao : Option Addr) (n c : Nat) (w : World) : Calls Tryz.prog 65 #[.slice ao n c] w fun e w' => e = .returned (.bool (decide (4096 < n))) ∧ w' = w := by
  by_cases h : 4096 < n
  · have i1 : (4096 : Int) < (n : Int) := by omega
    rw [decide_eq_true h]
    clear h
    go_enter Tryz.func65, Tryz.ntmps65
    go_wp2
    go_ret
    exact ⟨rfl, rfl⟩
  · have i1 : ¬ (4096 : Int) < (n : Int) := by omega
    rw [decide_eq_false h]
    clear h
    go_enter Tryz.func65, Tryz.ntmps65
    go_wp2
    go_ret
    exact ⟨rfl, rfl⟩
def longB (rs : List (List UInt8)) : Bool := rs.any (fun r => decide (4096 < r.length))
set_option maxRecDepth 100000 in
set_option maxHeartbeats 2000000 in
theorem indexRows_any (v : Value) (rs : List (List UInt8)) (w : World) (h : RowsV w v rs) :
    Calls Tryz.prog 93 #[v, .func (.func 65) #[] #[]] w fun e w' => ∃ z : Int, e = .returned (.int .i64 z) ∧ decide (0 ≤ z) = longB rs ∧ w' = w := by
  obtain ⟨ao, c, rfl, hm, hc⟩ := h
  unfold maxLen at hm
  go_enter Tryz.func93, Tryz.ntmps93
  go_wp2_with fail
  go_loop [8] (fun i => ∃ I : Nat, i = .int .i64 (I : Int) ∧ I ≤ rs.length ∧ (rs.take I).any (fun r => decide (4096 < r.length)) = false) (fun i => rs.length - (intOf i).toNat)
  case atStart => exact ⟨0, rfl, Nat.zero_le _, rfl⟩
  case round =>
    obtain ⟨I, rfl, hI, hT⟩ := hrel
    by_cases hlt : I < rs.length
    · have i1 : (I : Int) < (rs.length : Int) := by omega
      have hg : rs[I]? = some rs[I] := List.getElem?_eq_getElem hlt
      obtain ⟨o, ho⟩ : ∃ o, rs[I] = o := ⟨_, rfl⟩
      rw [ho] at hg
      clear ho
      obtain ⟨b, off, rfl, hl, u, d0, hu⟩ := hc I o hg
      obtain ⟨uo, uc, rfl⟩ := hu.shapeD
      have HG : Hid (rs[I]? = some o) := hg
      have HT : Hid ((rs.take I).any (fun r => decide (4096 < r.length)) = false) := hT
      clear hg hT hc hu
      have hix := index_rows b off rs.length c (I : Int) I rfl hlt
      go_wp2_with fail
      refine (tooLong_any uo o.length uc _).mono ?_
      rintro e w1 ⟨rfl, hw1⟩
      obtain rfl := hw1.symm
      clear hw1
      cases hop : decide (4096 < o.length) with
      | true =>
        have HF : Hid (longB rs = true) := by
          show _ = _
          exact List.any_eq_true.2 ⟨o, List.mem_of_getElem? HG.out, hop⟩
        clear hop
        go_wp2_with fail
        go_ret
        exact ⟨_, rfl, by rw [HF.out]; simp, rfl⟩
      | false =>
        have HT2 : Hid ((rs.take (I + 1)).any (fun r => decide (4096 < r.length)) = false) := by
          show _ = _
          rw [List.take_add_one, HG.out, List.any_append, HT.out]
          simpa using hop
        clear hop
        go_wp2_with fail
        go_round
        case rel => exact ⟨I + 1, by go_num, hlt, HT2.out⟩
        case measure => simp [intOf]; omega
    · have i1 : ¬ (I : Int) < (rs.length : Int) := by omega
      obtain rfl : I = rs.length := by omega
      rw [List.take_length] at hT
      have HT : Hid (longB rs = false) := hT
      clear hT
      go_wp2_with fail
      go_ret
      exact ⟨_, rfl, by rw [HT.out]; rfl, rfl⟩
set_option maxRecDepth 100000 in
theorem hasLong_any (v : Value) (rs : List (List UInt8)) (w : World) (h : RowsV w v rs) :
    Calls Tryz.prog 66 #[v, .func (.func 65) #[] #[]] w fun e w' => e = .returned (.bool (longB rs)) ∧ w' = w := by
  have HC := indexRows_any v rs w h
  obtain ⟨ao, c, rfl, -⟩ := h
  obtain ⟨R, hR⟩ : ∃ R, R = longB rs := ⟨_, rfl⟩
  rw [← hR] at HC ⊢
  have HC : Hid (Calls Tryz.prog 93 #[.slice ao rs.length c, .func (.func 65) #[] #[]] w fun e w' => ∃ z : Int, e = .returned (.int .i64 z) ∧ decide (0 ≤ z) = R ∧ w' = w) := HC
  clear hR
  go_enter Tryz.func66, Tryz.ntmps66
  go_wp2_with fail
  refine HC.out.mono ?_
  rintro e w1 ⟨z, rfl, hz, hw1⟩
  obtain rfl := hw1.symm
  go_wp2_with fail
  go_ret
  refine ⟨?_, rfl⟩
  rw [← hz]
  rfl
end Go.Proofs.YtbegphfideopoaaGreat
