/-
  What is proved here: slices.Delete takes the first rows of bytes away; rows and packets in slices of one's own; a link as laws hold it.
  Conditions: they lie in a row of one's own.
-/
import Derived.Test.YtichmnbhephkkaaLinkMore
import Derived.Lib.SliceRun
namespace Go.Proofs.Ytichmnbhephkkaa
open Go.RowKit

theorem under_rows : Try.prog.underlying 41 = some (.slice 32) := by kernel_rfl
theorem elem_rows : Try.prog.elem 41 = 32 := by kernel_rfl
theorem size_bytesK (w : World) : (sizeOf 32).run Try.prog w = .ok 1 w := by kernel_rfl
theorem info_bytesK : (Try.prog.info? 32).map (fun i => (i.zero, i.size, i.bytes)) = some (some (.slice none 0 0), 1, 24) := by kernel_rfl
theorem parts_bytesK : ∃ i, Try.prog.info? 32 = some i ∧ i.zero = some (.slice none 0 0) ∧ i.size = 1 ∧ i.bytes = 24 := info_parts info_bytesK
def restK (ao : Option Addr) (c lo : Nat) : Option Addr := if c = lo then ao else ao.map (·.add (lo * 1))
theorem slice_toK (ao : Option Addr) (len c n : Nat) (h : n ≤ c) (w : World) : (Instr.slice 41 (.slice ao len c) none (some (.int .i64 (n : Int))) none).run Try.prog w = .ok (.slice ao n c) w := by
  rw [run_slice_h w 41 ao len c (by rw [elem_rows]; exact under_rows) .i64 n (by omega) (by omega), elem_rows, size_bytesK]
  simp only [Result.andThen_ok, sliced, Int.toNat_natCast, Nat.zero_mul, add_zero_addrD, Nat.sub_zero, ite_self]
theorem slice_restK (ao : Option Addr) (len c lo : Nat) (h : lo ≤ len) (w : World) : (Instr.slice 41 (.slice ao len c) (some (.int .i64 (lo : Int))) none none).run Try.prog w = .ok (.slice (restK ao c lo) (len - lo) (c - lo)) w := by
  rw [run_slice_l w 41 ao len c (by rw [elem_rows]; exact under_rows) .i64 lo (by omega) (by omega), elem_rows, size_bytesK]
  simp only [Result.andThen_ok, sliced, Int.toNat_natCast, restK]
theorem slice_midK (ao : Option Addr) (len c lo hi : Nat) (h : lo ≤ hi) (hc : hi ≤ c) (w : World) : (Instr.slice 41 (.slice ao len c) (some (.int .i64 (lo : Int))) (some (.int .i64 (hi : Int))) none).run Try.prog w = .ok (.slice (restK ao c lo) (hi - lo) (c - lo)) w := by
  rw [run_slice_lh w 41 ao len c (by rw [elem_rows]; exact under_rows) .i64 .i64 lo hi (by omega) (by omega) (by omega), elem_rows, size_bytesK]
  simp only [Result.andThen_ok, sliced, Int.toNat_natCast, restK]
theorem slice_allK (ao : Option Addr) (len c lo hi m : Nat) (h : lo ≤ hi) (hm : hi ≤ m) (hc : m ≤ c) : ∃ v, ∀ w, (Instr.slice 41 (.slice ao len c) (some (.int .i64 (lo : Int))) (some (.int .i64 (hi : Int))) (some (.int .i64 (m : Int)))).run Try.prog w = .ok v w := by
  refine ⟨.slice (restK ao m lo) (hi - lo) (m - lo), fun w => ?_⟩
  rw [run_slice_lhm w 41 ao len c (by rw [elem_rows]; exact under_rows) .i64 .i64 .i64 lo hi m (by omega) (by omega) (by omega) (by omega), elem_rows, size_bytesK]
  simp only [Result.andThen_ok, sliced, Int.toNat_natCast, restK]
theorem exec_sliceK {a : Act} {o : Oper} {w : World} (x : Operand) (l h m : Option Operand) (ho : o.op = .slice 41 x l h m) (u r : Value) (lv hv mv : Option Value) (hx : a.eval x = u) (hl : l.map a.eval = lv) (hh : h.map a.eval = hv) (hm : m.map a.eval = mv) (hr : (Instr.slice 41 u lv hv mv).run Try.prog w = .ok r w) : (execOp a.eval o).run Try.prog w = .ok (.value r) w := by
  subst hl; subst hh; subst hm
  unfold execOp
  simp [ho, hx, hr, Instr.sliceAt, run_underlying under_rows]
def nilsK (n : Nat) : List Value := List.replicate n (.slice none 0 0)
theorem clear_n (w : World) (b o n c : Nat) (h0 : n ≠ 0) (hc : ∀ j, j < n → (w.cell? ⟨b, o + j, none⟩).isSome = true) (hf : ∀ j, j < n → w.frozen? ⟨b, o + j, none⟩ = false) (ty : TypeId) :
    (Builtin.clear_ #[41] ty #[.slice (some ⟨b, o, none⟩) n c]).run Try.prog w = .ok (.tuple #[]) (w.setCells b o (nilsK n)) := by
  have hv : ∀ w, (zeroValue 32).run Try.prog w = .ok (.slice none 0 0) w := fun w => by kernel_rfl
  have hzc : (Builtin.zeroCells (Value.slice none 0 0).cells n).toList = nilsK n := by
    unfold nilsK
    rw [List.eq_replicate_iff]
    refine ⟨by simp [Builtin.zeroCells, Value.cells], fun x hx => ?_⟩
    simp only [Builtin.zeroCells, Value.cells] at hx
    simp at hx
    obtain ⟨i, _, rfl⟩ := hx
    simp [Nat.mod_one]
  have hst := run_storeCells_cells (P := Try.prog) b o (nilsK n) 0 w (by simpa [nilsK] using hc) (by simpa [nilsK] using hf) (by intro v hv'; rw [List.eq_of_mem_replicate hv']; rfl)
  simp only [Nat.add_zero] at hst
  obtain ⟨m, rfl⟩ : ∃ m, n = m + 1 := ⟨n - 1, by omega⟩
  simp [Builtin.clear_, run_underlying under_rows, hv, hzc, hst]
theorem splice_lenK {α : Type} (L : List α) (o : Nat) (cs : List α) (h : o + cs.length ≤ L.length) : (splice L o cs).length = L.length := by
  unfold splice
  rw [List.length_append, List.length_append, List.length_take, List.length_drop]
  omega
theorem splice_low {α : Type} (L : List α) (o : Nat) (cs : List α) (h : o + cs.length ≤ L.length) (k : Nat) (hk : k < o) : (splice L o cs)[k]? = L[k]? := by
  unfold splice
  rw [List.getElem?_append_left (by rw [List.length_take]; omega), List.getElem?_take_of_lt hk]
theorem splice_mid {α : Type} (L : List α) (o : Nat) (cs : List α) (h : o + cs.length ≤ L.length) (j : Nat) (hj : j < cs.length) : (splice L o cs)[o + j]? = cs[j]? := by
  unfold splice
  have hl : (L.take o).length = o := by rw [List.length_take]; omega
  rw [List.getElem?_append_right (by omega), hl, List.getElem?_append_left (by omega), show o + j - o = j by omega]

set_option maxRecDepth 100000 in
set_option maxHeartbeats 2000000 in
theorem deleteK (lo : Nat) (v : Value) (len n : Nat) (vs : List Value) (w : World) (hl : len ≤ 1000000) (hn : n ≤ len) (hW : OwnO w lo 32 1 v len vs) (h1 : ∀ u ∈ vs, u.oneCell' = true) :
    Calls Try.prog 40 #[v, .int .i64 0, .int .i64 (n : Int)] w fun e w' => ∃ v', e = .returned v' ∧ OwnO w' lo 32 1 v' (len - n) (vs.drop n) ∧ v'.ownBlock = v.ownBlock ∧ Chg (fun q => v.ownBlock = some q) w w' := by
  by_cases h0 : n = 0
  · subst h0
    obtain ⟨ao, c, rfl⟩ := hW.shape
    have hcl : len ≤ c := by
      rcases hW.2 with ⟨e, e2⟩ | ⟨g, off, cap, cur, e, _, _, h5, _⟩
      · cases e; omega
      · cases e; exact h5
    obtain ⟨v1, s1⟩ : ∃ v, ∀ w, (Instr.slice 41 (.slice ao len c) (some (.int .i64 0)) (some (.int .i64 0)) (some (.int .i64 (len : Int)))).run Try.prog w = .ok v w := slice_allK ao len c 0 0 len (by omega) (by omega) hcl
    have HW : Hid (OwnO w lo 32 1 (.slice ao len c) (len - 0) (vs.drop 0)) := by
      show OwnO _ _ _ _ _ _ _
      rw [Nat.sub_zero, List.drop_zero]
      exact hW
    clear hW h1 hcl hl hn
    go_enter Try.func40, Try.ntmps40
    go_wp2
    go_ret
    exact ⟨_, rfl, HW.out, rfl, Chg.refl _ _⟩
  obtain ⟨hvl, hW⟩ := hW
  rcases hW with ⟨_, e2⟩ | ⟨b, off, c, cur, rfl, hb, hk, hlc, hcm, hcs, hat⟩
  · omega
  rw [Nat.mul_one] at hvl hcs
  obtain ⟨news, hnews⟩ : ∃ news, news = vs.drop n := ⟨_, rfl⟩
  have hnl : news.length = len - n := by rw [hnews, List.length_drop, hvl]
  obtain ⟨i0, hi0, hz0, hz1, hz2⟩ := parts_bytesK
  have hcell : ∀ j, j < off + c → (w.cell? ⟨b, j, none⟩).isSome = true := fun j hj => by
    rw [hk.cell (v := cur[j]'(by omega)) (by simp [show j < cur.size by omega])]
    rfl
  obtain ⟨A, hA, hsrc⟩ : ∃ A : Addr, restK (some ⟨b, off, none⟩) c n = some A ∧ (∀ t u, news[t]? = some u → w.drew.cell? (A.add t) = some u) := by
    unfold restK
    by_cases h : c = n
    · refine ⟨⟨b, off, none⟩, by rw [if_pos h], fun t u hu => ?_⟩
      have h0 : news.length = 0 := by rw [hnl]; omega
      rw [List.length_eq_zero_iff.1 h0] at hu
      simp at hu
    · refine ⟨⟨b, off + n * 1, none⟩, by rw [if_neg h, Option.map_some, Addr.add_mid], fun t u hu => ?_⟩
      rw [Addr.add_mid]
      refine hk.cell ?_
      rw [hnews, List.getElem?_drop] at hu
      rw [Nat.mul_one, Nat.add_assoc]
      exact hat _ _ hu
  have hap : ∀ ty, (Builtin.append_ #[41, 41] ty #[.slice (some ⟨b, off, none⟩) 0 c, .slice (some A) (len - n) (c - n)]).run Try.prog w.drew = .ok (.slice (some ⟨b, off, none⟩) (0 + (len - n)) c) (w.drew.setCells b off news) := fun ty => by
    have := run_append_room_cells (P := Try.prog) w.drew 41 ty 32 i0 under_rows hi0 b off 0 c A (len - n) (c - n) news (by rw [hnl, hz1]; omega) hsrc (by rw [hnews]; exact fun u hu => h1 u (List.mem_of_mem_drop hu)) (by omega) (fun j hj => by rw [hz1]; exact hcell _ (by omega)) (fun j _ => hk.frozen _)
    rw [Nat.zero_mul, Nat.add_zero] at this
    exact this
  have hkW : Blk (w.drew.setCells b off news) b 32 (splice cur.toList off news).toArray := Blk.setCells news off w.drew cur hk (by omega)
  have hgW := (grown_setCells b news off w.drew).1
  have hcW : Chg (fun q => (Value.slice (some ⟨b, off, none⟩) len c).ownBlock = some q) w (w.drew.setCells b off news) := ((Chg.refl _ w).drew).trans (Chg.of_grown (S := fun q => (Value.slice (some ⟨b, off, none⟩) len c).ownBlock = some q) hgW (fun k e => by cases e; rfl)) (fun _ _ h => h)
  generalize w.drew.setCells b off news = W1 at *
  have hctl : cur.toList.length = cur.size := by simp
  have hsl : (splice cur.toList off news).length = cur.size := by rw [splice_lenK _ _ _ (by omega)]; omega
  have hz : (nilsK n).length = n := by simp [nilsK]
  have hcl := clear_n W1 b (off + (len - n)) n (c - (len - n)) h0 (fun j hj => by
    rw [hkW.cell (v := (splice cur.toList off news)[off + (len - n) + j]'(by omega)) (by simp [show off + (len - n) + j < (splice cur.toList off news).length by omega])]
    rfl) (fun j _ => hkW.frozen _)
  have hk2 : Blk (W1.setCells b (off + (len - n)) (nilsK n)) b 32 (splice (splice cur.toList off news) (off + (len - n)) (nilsK n)).toArray := (Blk.setCells (nilsK n) (off + (len - n)) W1 _ hkW (by rw [List.size_toArray]; omega)).of_eq (by simp)
  have hg2 := (grown_setCells b (nilsK n) (off + (len - n)) W1).1
  have hc2 : Chg (fun q => (Value.slice (some ⟨b, off, none⟩) len c).ownBlock = some q) w (W1.setCells b (off + (len - n)) (nilsK n)) := hcW.trans (Chg.of_grown (S := fun q => (Value.slice (some ⟨b, off, none⟩) len c).ownBlock = some q) hg2 (fun k e => by cases e; rfl)) (fun _ _ h => h)
  have hrow : OwnO (W1.setCells b (off + (len - n)) (nilsK n)) lo 32 1 (.slice (some ⟨b, off, none⟩) (len - n) c) (len - n) (vs.drop n) := by
    refine ⟨by rw [List.length_drop, hvl, Nat.mul_one], .inr ⟨b, off, c, _, rfl, hb, hk2, by omega, hcm, ?_, fun j u hu => ?_⟩⟩
    · rw [List.size_toArray, splice_lenK _ _ _ (by omega), hsl, Nat.mul_one]
      exact hcs
    · have hj : j < len - n := by
        have := (List.getElem?_eq_some_iff.1 hu).1
        rwa [← hnews, hnl] at this
      rw [List.getElem?_toArray, splice_low _ _ _ (by omega) _ (by omega), splice_mid _ _ _ (by omega) _ (by omega), hnews]
      exact hu
  generalize W1.setCells b (off + (len - n)) (nilsK n) = W2 at *
  obtain ⟨v1, s1⟩ : ∃ v, ∀ w, (Instr.slice 41 (.slice (some ⟨b, off, none⟩) len c) (some (.int .i64 0)) (some (.int .i64 (n : Int))) (some (.int .i64 (len : Int)))).run Try.prog w = .ok v w := slice_allK (some ⟨b, off, none⟩) len c 0 n len (by omega) (by omega) hlc
  have s2 : ∀ w, (Instr.slice 41 (.slice (some ⟨b, off, none⟩) len c) none (some (.int .i64 0)) none).run Try.prog w = .ok (.slice (some ⟨b, off, none⟩) 0 c) w := slice_toK (some ⟨b, off, none⟩) len c 0 (by omega)
  have s3 : ∀ w, (Instr.slice 41 (.slice (some ⟨b, off, none⟩) len c) (some (.int .i64 (n : Int))) none none).run Try.prog w = .ok (.slice (some A) (len - n) (c - n)) w := fun w => by
    have := slice_restK (some ⟨b, off, none⟩) len c n (by omega) w
    rwa [hA] at this
  obtain ⟨M, hM⟩ : ∃ M, M = len - n := ⟨_, rfl⟩
  have hrE : restK (some ⟨b, off, none⟩) c M = some ⟨b, off + M, none⟩ := by
    unfold restK
    rw [if_neg (by omega), Option.map_some, Addr.add_mid, Nat.mul_one]
  have s4 : ∀ w, (Instr.slice 41 (.slice (some ⟨b, off, none⟩) M c) (some (.int .i64 (M : Int))) (some (.int .i64 (len : Int))) none).run Try.prog w = .ok (.slice (some ⟨b, off + M, none⟩) n (c - M)) w := fun w => by
    have := slice_midK (some ⟨b, off, none⟩) M c M len (by omega) hlc w
    rw [hrE, show len - M = n by omega] at this
    exact this
  rw [Nat.zero_add, ← hM] at hap
  rw [← hM] at hcl hrow ⊢
  rw [← hM] at s3
  have hne : ((0 : Int) == (n : Int)) = false := beq_eq_false_iff_ne.2 (by omega)
  clear hM hrE hcs hat hnl hnews hsrc hcell hkW hgW hcW hsl hctl hz hk2 hg2 hk hA hz0 hz1 hz2 hi0 h1 hvl h0 hn hl hlc hcm
  go_enter Try.func40, Try.ntmps40
  go_wp2_with fail
  refine held_begin (fun _ => True) (by kernel_rfl) ?_
  refine held_take 0 20 _ (.slice (some ⟨b, off, none⟩) len c) rfl rfl (by kernel_rfl) (by kernel_rfl) (by kernel_rfl) rfl trivial (fun _ _ => rfl) ?_
  simp only [Act.put, List.setIfInBounds_toArray, List.set_cons_succ, List.set_cons_zero]
  refine held_take 1 21 _ (.int .i64 0) rfl rfl (by kernel_rfl) (by kernel_rfl) (by kernel_rfl) rfl trivial (fun _ _ => rfl) ?_
  simp only [Act.put, List.setIfInBounds_toArray, List.set_cons_succ, List.set_cons_zero]
  refine held_take 2 22 _ (.slice (some ⟨b, off, none⟩) 0 c) rfl rfl (by kernel_rfl) (by kernel_rfl) (by kernel_rfl) rfl trivial (fun V _ => exec_sliceK (.tmp 20) none (some (.tmp 21)) none rfl (.slice (some ⟨b, off, none⟩) len c) (.slice (some ⟨b, off, none⟩) 0 c) none (some (.int .i64 0)) none rfl rfl rfl rfl (s2 V)) ?_
  simp only [Act.put, List.setIfInBounds_toArray, List.set_cons_succ, List.set_cons_zero]
  refine held_take 3 23 _ (.slice (some ⟨b, off, none⟩) len c) rfl rfl (by kernel_rfl) (by kernel_rfl) (by kernel_rfl) rfl trivial (fun _ _ => rfl) ?_
  simp only [Act.put, List.setIfInBounds_toArray, List.set_cons_succ, List.set_cons_zero]
  refine held_take 4 24 _ (.int .i64 (n : Int)) rfl rfl (by kernel_rfl) (by kernel_rfl) (by kernel_rfl) rfl trivial (fun _ _ => rfl) ?_
  simp only [Act.put, List.setIfInBounds_toArray, List.set_cons_succ, List.set_cons_zero]
  refine held_take 5 25 _ (.slice (some A) M (c - n)) rfl rfl (by kernel_rfl) (by kernel_rfl) (by kernel_rfl) rfl trivial (fun V _ => exec_sliceK (.tmp 23) (some (.tmp 24)) none none rfl (.slice (some ⟨b, off, none⟩) len c) (.slice (some A) M (c - n)) (some (.int .i64 (n : Int))) none none rfl rfl rfl rfl (s3 V)) ?_
  simp only [Act.put, List.setIfInBounds_toArray, List.set_cons_succ, List.set_cons_zero]
  refine held_all1 6 (by kernel_rfl) (op_value 6 26 _ (.slice (some ⟨b, off, none⟩) M c) W1 rfl rfl rfl (exec_app (.tmp 22) (.tmp 25) 41 41 rfl (.slice (some ⟨b, off, none⟩) 0 c) (.slice (some A) M (c - n)) (.slice (some ⟨b, off, none⟩) M c) rfl rfl hap) ⟨trivial, ?_⟩)
  simp only [Act.put, List.setIfInBounds_toArray, List.set_cons_succ, List.set_cons_zero]
  refine held_all1 7 (by kernel_rfl) (op_value 7 0 _ (.slice (some ⟨b, off, none⟩) M c) W1 rfl rfl rfl rfl ⟨trivial, ?_⟩)
  simp only [Act.put, List.setIfInBounds_toArray, List.set_cons_zero]
  refine wpAnyH_done (by kernel_rfl) ?_ _
  refine NoPanic.normal ?_
  go_wp2
  go_ret
  exact ⟨_, rfl, hrow, rfl, hc2⟩
end Go.Proofs.Ytichmnbhephkkaa
