/-
  What is proved here: Link.Tick answers the packets of the next moment.
  Conditions: the link lies in memory as laws hold it.
-/
import Derived.Test.YtichmnbhephkkaaLinkSend
import Derived.Lib.MinMax
namespace Go.Proofs.Ytichmnbhephkkaa
open Go.RowKit

/-- One packet in a new slice. -/
theorem pks_one {w : World} {T : Nat → Prop} {lo : Nat} (p : KP) (bv : Value) (h : SegA w T bv p.b) (_hT : ∀ q, T q → q < w.heap.size) (hl : lo ≤ w.heap.size) : PksO (w.alloc (.cells (kpL p bv).toArray 34)) T lo (.slice (some ⟨w.heap.size, 0, none⟩) 1 1) [p] := by
  have hk := Blk.new w 34 (kpL p bv).toArray
  have hb := below_new w (.cells (kpL p bv).toArray 34)
  refine ⟨[bv], rfl, ⟨rfl, .inr ⟨w.heap.size, 0, 1, _, rfl, hl, hk, Nat.le_refl _, by unfold maxLen; omega, by simp [kpL], fun j u hu => ?_⟩⟩, fun i u q hu hq => ?_⟩
  · rw [Nat.zero_add]
    simpa [cellsK] using hu
  · match i, hu, hq with
    | 0, hu, hq =>
      cases hu; cases hq
      exact h.after hb
    | (i + 1), hu, hq => simp at hu
theorem segA_nil (w : World) (T : Nat → Prop) : SegA w T (.slice none 0 0) [] := ⟨.inl ⟨rfl, none, 0, rfl, fun _ => rfl⟩, fun h => by simp at h⟩
theorem index_rowsK (b off len c I : Nat) (h : I < len) (w : World) : (Instr.indexAt 41 (.slice (some ⟨b, off, none⟩) len c) (.int .i64 (I : Int))).run Try.prog w = .ok (.pointer (some ⟨b, off + I, none⟩)) w := by
  have hi : (0 : Int) ≤ (I : Int) ∧ (I : Int) < (len : Int) := by omega
  simp [Instr.indexAt, asIntOf, run_underlying under_rows, hi, Addr.add_mid]
  intro h'
  omega
theorem exec_pktK {a : Act} {o : Oper} {w : World} (x : Operand) (ho : o.op = .buildSlice 38 1 #[(0, x)]) (k f t s n : Int) (ao : Option Addr) (l c : Nat) (hx : a.eval x = .agg #[.int .i64 k, .int .i64 f, .int .i64 t, .int .i64 s, .int .i64 n, .slice ao l c]) : (execOp a.eval o).run Try.prog w = .ok (.value (.slice (some ⟨w.heap.size, 0, none⟩) 1 1)) (w.alloc (.cells #[.int .i64 k, .int .i64 f, .int .i64 t, .int .i64 s, .int .i64 n, .slice ao l c] 34)) := by
  generalize hy : a.eval x = y at hx
  subst hx
  unfold execOp
  simp only [ho]
  simp only [List.map_toArray, List.map_cons, List.map_nil, hy]
  simp [go_sem]
theorem exec_lenK {a : Act} {o : Oper} {w : World} (x : Operand) (ho : o.op = .call { callee := .builtin .len, args := #[x], argTypes := #[41] }) (ao : Option Addr) (n c : Nat) (hx : a.eval x = .slice ao n c) : (execOp a.eval o).run Try.prog w = .ok (.value (.int .i64 (n : Int))) w := by
  unfold execOp
  simp [ho, resolve, invoke, builtin, hx]
  rfl
theorem exec_minK {a : Act} {o : Oper} {w : World} (x y : Operand) {ts : Array TypeId} (ho : o.op = .call { callee := .builtin .min, args := #[x, y], argTypes := ts }) (m n r : Int) (hx : a.eval x = .int .i64 m) (hy : a.eval y = .int .i64 n) (h : min m n = r) : (execOp a.eval o).run Try.prog w = .ok (.value (.int .i64 r)) w := by
  subst h
  unfold execOp
  simp [ho, resolve, invoke, builtin, hx, hy, Lib.run_min_ints]
theorem exec_lssK {a : Act} {o : Oper} {w : World} (t : TypeId) (x y : Operand) (ho : o.op = .binOp .lss t x y t) (m n : Int) (b : Bool) (hx : a.eval x = .int .i64 m) (hy : a.eval y = .int .i64 n) (h : decide (m < n) = b) : (execOp a.eval o).run Try.prog w = .ok (.value (.bool b)) w := by
  subst h
  unfold execOp
  simp [ho, hx, hy]
  rfl
theorem PksO.less {w : World} {T T' : Nat → Prop} {lo : Nat} {v : Value} {ps : List KP} (h : PksO w T lo v ps) (hT : ∀ q, T' q → T q) : PksO w T' lo v ps := h.grow (fun q e => .inl (hT q e))
def lenV : Value → Nat
  | .slice _ n _ => n
  | _ => 0
set_option maxRecDepth 100000 in
set_option maxHeartbeats 4000000 in
theorem tickK_any (w : World) (T : Nat → Prop) (lo G : Nat) (v : Value) (s : KS) (h : LP w T lo G v s) :
    Calls Try.prog 11 #[.pointer (some ⟨G, 0, none⟩)] w fun e w' => ∃ pv, e = .returned pv ∧ LP w' T lo G v (tickK s).2 ∧ PksO w' T w.heap.size pv (tickK s).1 ∧ Chg (fun q => q = G) w w' := by
  obtain ⟨c0, c1, c2, c3, c4, c5, c6⟩ := linkC_cells h.head
  clear c0 c2 c3 c4 c5 c6
  unfold tickK
  by_cases hp : s.pe = 0
  · rw [if_pos hp]
    rw [hp] at c1
    have HH : Hid (Calls Try.prog 26 #[.pointer (some ⟨G, 0, none⟩)] w fun r w' => r = .returned (kpV (bareK s 1) (.slice none 0 0)) ∧ Below w.heap.size w w') := hello_any G s v w h.head
    have HBK : Hid (bareK s 1 = ⟨1, s.ep, s.pe, 0, 0, []⟩) := rfl
    unfold kpV kpL at HH
    rw [HBK.out, hp] at HH
    clear HBK
    go_enter Try.func11, Try.ntmps11
    go_wp2_with fail
    refine HH.out.mono ?_
    rintro e w1 ⟨rfl, hb1⟩
    have h1 := h.after hb1
    have hbN := below_new w1 (.cells #[.int .i64 1, .int .i64 s.ep, .int .i64 0, .int .i64 0, .int .i64 0, .slice none 0 0] 34)
    have hB2 : Below w.heap.size w (w1.alloc (.cells #[.int .i64 1, .int .i64 s.ep, .int .i64 0, .int .i64 0, .int .i64 0, .slice none 0 0] 34)) := hb1.trans (hbN.mono hb1.size)
    have hP : PksO (w1.alloc (.cells #[.int .i64 1, .int .i64 s.ep, .int .i64 0, .int .i64 0, .int .i64 0, .slice none 0 0] 34)) T w.heap.size (.slice (some ⟨w1.heap.size, 0, none⟩) 1 1) [bareK s 1] := by
      have := pks_one (lo := w.heap.size) (bareK s 1) (.slice none 0 0) (segA_nil w1 T) h1.lt hb1.size
      have e : bareK s 1 = ⟨1, s.ep, 0, 0, 0, []⟩ := by unfold bareK; rw [hp]
      rw [e] at this ⊢
      exact this
    clear HH c1
    go_wp2
    go_ret
    exact ⟨_, rfl, h1.after hbN, hP, Chg.of_below hB2 (Nat.le_refl _)⟩
  · have HT : topK s = topK (passK s) := by unfold topK; rw [passK_wt]
    rw [if_neg hp, HT]
    have hp1 : (s.pe == 0) = false := beq_eq_false_iff_ne.2 hp
    have HPS : Hid (Calls Try.prog 27 #[.pointer (some ⟨G, 0, none⟩)] w fun r w' => r = .returned (.tuple #[]) ∧ Blk w' G 69 (linkC (passK s) v) ∧ Chg (fun q => q = G) w w' ∧ w'.heap.size = w.heap.size) := passK_any G s v w h.head h.ok.ti
    have hpk := passK_ok h.ok
    have hpw := passK_wt s
    have HFIN : Hid ((datasK (passK s) (passK s).se (topK s - (passK s).se), { passK s with se := max (passK s).se (topK s) }).2.ok) := by
      have := tickK_ok h.ok
      unfold tickK at this
      rw [if_neg hp] at this
      exact this
    rw [HT] at HFIN
    clear hp
    generalize passK s = t at *
    clear HT
    go_enter Try.func11, Try.ntmps11
    go_wp2_with fail
    refine HPS.out.mono ?_
    rintro e w1 ⟨rfl, hk1, hc1, hz1⟩
    have h1 : LP w1 T lo G v t := ⟨hk1, by rw [hpw]; exact h.row.chg hc1 (fun q e => by rw [e]; exact h.tG) (fun q hq e => h.ne (by rw [← e]; exact hq)), hpk, h.tG, h.tv, fun q hq => by rw [hz1]; exact h.lt q hq, h.ge, h.ne⟩
    clear HPS c1 hk1 hpw hpk hp1
    have hsz : w.heap.size = w1.heap.size := hz1.symm
    have hwl := h.lt
    have hC01 : Chg (fun q => q = G) w w1 := hc1
    have HMIN : Hid (min (4 : Int) (t.wt.length : Int) = (topK t : Int)) := by
      show _ = _
      unfold topK
      omega
    have htop : topK t ≤ t.wt.length ∧ topK t ≤ 4 := by unfold topK; omega
    obtain ⟨av, cv, hav⟩ := h1.row.shape
    subst hav
    go_wp2_with fail
    go_loopw [3] (fun pv wr => ∃ j, j ≤ topK t - t.se ∧ PksO wr (fun q => T q ∨ pv.ownBlock = some q) w.heap.size pv (datasK t t.se j) ∧ Blk wr G 69 (linkC { t with se := t.se + j } (.slice av t.wt.length cv)) ∧ Chg (fun q => q = G) w1 wr) (fun pv _ => 5 - lenV pv)
    case atStart => exact ⟨0, Nat.zero_le _, PksO.nil _ _ _, h1.head, Chg.refl _ _⟩
    case round =>
      obtain ⟨j, hj, hP, hK, hC⟩ := hrel
      obtain ⟨ap, cp, rfl⟩ := hP.shape
      have hlj : Hid ((datasK t t.se j).length = j) := datasK_len t t.se j
      obtain ⟨K, hKK⟩ : ∃ K, K = t.se + j := ⟨_, rfl⟩
      rw [← hKK] at hK
      have c3 : wr.cell? ⟨G, 3, none⟩ = some (.int .i64 (K : Int)) := hK.cell (j := 3) rfl
      have c6 : wr.cell? ⟨G, 6, none⟩ = some (.slice av t.wt.length cv) := hK.cell (j := 6) rfl
      have hS0 : wr.drew.cell? ⟨G, 3, none⟩ = some (.int .i64 (K : Int)) ∧ wr.drew.cell? ⟨G, 6, none⟩ = some (.slice av t.wt.length cv) := ⟨c3, c6⟩
      have hGs : G < w.heap.size := hwl G h1.tG
      have hrow := h1.row.chg hC (fun q e => by rw [e]; exact h1.tG) (fun q hq e => h1.ne (by rw [← e]; exact hq))
      by_cases hlt : j < topK t - t.se
      · have i1 : decide ((K : Int) < (topK t : Int)) = true := decide_eq_true (by omega)
        have hkk : K < t.wt.length := by omega
        obtain ⟨b, off, c, a, cc, e1, hbl, hcb, hsb⟩ := hrow.at hkk
        cases e1
        have HIX : Hid (∀ V, (Instr.indexAt 41 (.slice (some ⟨b, off, none⟩) t.wt.length cv) (.int .i64 (K : Int))).run Try.prog V = .ok (.pointer (some ⟨b, off + K, none⟩)) V) := fun V => index_rowsK b off t.wt.length cv K hkk V
        have hbody : (t.wt.getD K []).length ≤ 1500 := h1.ok.each _ (by rw [List.getD_eq_getElem?_getD, List.getElem?_eq_getElem hkk]; exact List.getElem_mem hkk)
        have HDT0 : ∀ V, Below wr.heap.size wr V → Calls Try.prog 28 #[.pointer (some ⟨G, 0, none⟩), .int .i64 (K : Int), .slice a (t.wt.getD K []).length cc] V fun r w' => ∃ bv, r = .returned (kpV ⟨3, t.ep, t.pe, (t.fi : Int) + (K : Int), (t.ne : Int) - 1, t.wt.getD K []⟩ bv) ∧ Own w' V.heap.size bv (t.wt.getD K []) ∧ Below V.heap.size V w' := fun V hV => dataK_any G { t with se := K } (.slice (some ⟨b, off, none⟩) t.wt.length cv) K _ (t.wt.getD K []) V (hK.below hV hK.lt) h1.ok.ne.2 h1.ok.fi.2 (by have := h1.ok.wt; omega) (hsb.1.below hV (Nat.le_refl _)) hbody
        have hTb : T b := h1.tv b rfl
        have hbs : b < w.heap.size := hwl b hTb
        generalize hnb : (t.wt.getD K []).length = nb at hcb HDT0
        have HDT : Hid (∀ V, Below wr.heap.size wr V → Calls Try.prog 28 #[.pointer (some ⟨G, 0, none⟩), .int .i64 (K : Int), .slice a nb cc] V fun r w' => ∃ bv, r = .returned (kpV ⟨3, t.ep, t.pe, (t.fi : Int) + (K : Int), (t.ne : Int) - 1, t.wt.getD K []⟩ bv) ∧ Own w' V.heap.size bv (t.wt.getD K []) ∧ Below V.heap.size V w') := HDT0
        unfold kpV kpL at HDT
        have hGwr : G < wr.heap.size := hK.lt
        have hwsr : w.heap.size ≤ wr.heap.size := by rw [hsz]; exact hC.size
        have HS : Hid (∀ V, Chg (fun q => w.heap.size ≤ q) wr V → (V.cell? ⟨G, 3, none⟩ = some (.int .i64 (K : Int)) ∧ V.cell? ⟨G, 6, none⟩ = some (.slice (some ⟨b, off, none⟩) t.wt.length cv)) ∧ V.cell? ⟨b, off + K, none⟩ = some (.slice a nb cc)) := fun V hV => by
          have hkV := hK.chg hV (by omega)
          refine ⟨⟨hkV.cell (j := 3) rfl, hkV.cell (j := 6) rfl⟩, ?_⟩
          rw [World.cell?_of_block (w := wr) (a := ⟨b, off + K, none⟩) (hV.2 b hbl (by omega))]
          exact hcb
        have hS1 := HS.out wr.drew ((Chg.refl _ wr).drew)
        have HAP : Hid (∀ W2 ab lb cb, Below wr.heap.size wr W2 → Own W2 wr.drew.heap.size (.slice ab lb cb) (t.wt.getD K []) → (t.wt.getD K []).length = lb → ∃ a3 n3 c3 W3, (∀ ty, (Builtin.append_ #[38, 38] ty #[.slice ap (datasK t t.se j).length cp, .slice (some ⟨W2.heap.size, 0, none⟩) 1 1]).run Try.prog (W2.alloc (.cells #[.int .i64 3, .int .i64 t.ep, .int .i64 t.pe, .int .i64 ((t.fi : Int) + (K : Int)), .int .i64 ((t.ne : Int) - 1), .slice ab lb cb] 34)) = .ok (.slice a3 n3 c3) W3) ∧
            PksO W3 (fun q => T q ∨ (Value.slice a3 n3 c3).ownBlock = some q) w.heap.size (.slice a3 n3 c3) (datasK t t.se (j + 1)) ∧ Chg (fun q => w.heap.size ≤ q) wr W3 ∧ n3 = j + 1) := by
          intro W2 ab lb cb hB2 ho2 hlb
          subst hlb
          have hbN := below_new W2 (.cells #[.int .i64 3, .int .i64 t.ep, .int .i64 t.pe, .int .i64 ((t.fi : Int) + (K : Int)), .int .i64 ((t.ne : Int) - 1), .slice ab (t.wt.getD K []).length cb] 34)
          have hB3 := hB2.trans (hbN.mono hB2.size)
          have hkN := Blk.new W2 34 #[.int .i64 3, .int .i64 t.ep, .int .i64 t.pe, .int .i64 ((t.fi : Int) + (K : Int)), .int .i64 ((t.ne : Int) - 1), .slice ab (t.wt.getD K []).length cb]
          have hP2 := hP.after hB3
          have ho3 := ho2.below hbN (Nat.le_refl _)
          have hsz2 := hB2.size
          have hsz3 := hB3.size
          generalize W2.alloc (.cells #[.int .i64 3, .int .i64 t.ep, .int .i64 t.pe, .int .i64 ((t.fi : Int) + (K : Int)), .int .i64 ((t.ne : Int) - 1), .slice ab (t.wt.getD K []).length cb] 34) = W4 at *
          have hpl := hP.lt
          have hseg : SegA W4 (fun q => T q ∨ (Value.slice ap (datasK t t.se j).length cp).ownBlock = some q) (.slice ab (t.wt.getD K []).length cb) (t.wt.getD K []) := ho3.segK (fun q hq => by
            have hz := wr.size_drew
            rcases hq with e | e
            · have := hwl q e; omega
            · have := (hpl q e).2; omega)
          obtain ⟨v', W3, r1, r2, r3, r4⟩ := hP2.app (fun q e => .inr e) ⟨W2.heap.size, 0, none⟩ 1 [dataK t K] [.slice ab (t.wt.getD K []).length cb] rfl (fun i u hu => by
            rw [Addr.add_mid, Nat.zero_add]
            exact hkN.cell (by simpa [cellsK, kpL, dataK] using hu)) (fun i u p hu hp => by
            match i, hu, hp with
            | 0, hu, hp => cases hu; cases hp; exact hseg
            | (i + 1), hu, hp => simp at hu) (by rw [hlj.out]; show j + 1 ≤ _; omega) (by omega)
          obtain ⟨a3, c3, rfl⟩ := r2.shape
          have hmore : datasK t t.se (j + 1) = datasK t t.se j ++ [dataK t K] := by rw [datasK_more, hKK]
          rw [← hmore] at r1 r2 r4
          have hn3 : (datasK t t.se (j + 1)).length = j + 1 := datasK_len _ _ _
          refine ⟨a3, _, c3, W3, r1, r2.less (fun q hq => ?_), ?_, hn3⟩
          · rcases hq with e | e
            · exact .inl (.inl e)
            · exact .inr e
          · exact (Chg.of_below (S := fun q => w.heap.size ≤ q) hB3 (Nat.le_refl _)).trans (S' := fun q => w.heap.size ≤ q) (Chg.of_grown r3 (fun k e => (hpl k e).1)) (fun _ _ e => e)
        have HKK : Hid (K = t.se + j) := hKK
        clear hKK
        go_wp2_with fail
        refine held_begin (fun V => V.cell? ⟨G, 3, none⟩ = some (.int .i64 (K : Int)) ∧ V.cell? ⟨G, 6, none⟩ = some (.slice (some ⟨b, off, none⟩) t.wt.length cv)) (by kernel_rfl) ?_
        refine held_take 0 19 _ (.pointer (some ⟨G, 0, none⟩)) rfl rfl (by kernel_rfl) (by kernel_rfl) (by kernel_rfl) rfl hS0 (fun _ _ => rfl) ?_
        simp only [Act.put, List.setIfInBounds_toArray, List.set_cons_succ, List.set_cons_zero]
        refine held_take 1 20 _ (.pointer (some ⟨G, 0, none⟩)) rfl rfl (by kernel_rfl) (by kernel_rfl) (by kernel_rfl) rfl hS0 (fun _ _ => rfl) ?_
        simp only [Act.put, List.setIfInBounds_toArray, List.set_cons_succ, List.set_cons_zero]
        refine held_take 2 21 _ (.pointer (some ⟨G, 0, none⟩)) rfl rfl (by kernel_rfl) (by kernel_rfl) (by kernel_rfl) rfl hS0 (fun _ _ => rfl) ?_
        simp only [Act.put, List.setIfInBounds_toArray, List.set_cons_succ, List.set_cons_zero]
        refine held_take 3 22 _ (.pointer (some ⟨G, 3, none⟩)) rfl rfl (by kernel_rfl) (by kernel_rfl) (by kernel_rfl) rfl hS0 (fun _ _ => rfl) ?_
        simp only [Act.put, List.setIfInBounds_toArray, List.set_cons_succ, List.set_cons_zero]
        refine held_take 4 23 _ (.int .i64 (K : Int)) rfl rfl (by kernel_rfl) (by kernel_rfl) (by kernel_rfl) rfl hS0 (fun V hV => exec_loadc 3 _ rfl _ _ rfl (load_one 3 (fun _ => by kernel_rfl) V _ _ _ hV.1)) ?_
        simp only [Act.put, List.setIfInBounds_toArray, List.set_cons_succ, List.set_cons_zero]
        refine held_take 5 24 _ (.pointer (some ⟨G, 0, none⟩)) rfl rfl (by kernel_rfl) (by kernel_rfl) (by kernel_rfl) rfl hS0 (fun _ _ => rfl) ?_
        simp only [Act.put, List.setIfInBounds_toArray, List.set_cons_succ, List.set_cons_zero]
        refine held_take 6 25 _ (.pointer (some ⟨G, 0, none⟩)) rfl rfl (by kernel_rfl) (by kernel_rfl) (by kernel_rfl) rfl hS0 (fun _ _ => rfl) ?_
        simp only [Act.put, List.setIfInBounds_toArray, List.set_cons_succ, List.set_cons_zero]
        refine held_take 7 26 _ (.pointer (some ⟨G, 6, none⟩)) rfl rfl (by kernel_rfl) (by kernel_rfl) (by kernel_rfl) rfl hS0 (fun _ _ => rfl) ?_
        simp only [Act.put, List.setIfInBounds_toArray, List.set_cons_succ, List.set_cons_zero]
        refine held_take 8 27 _ (.slice (some ⟨b, off, none⟩) t.wt.length cv) rfl rfl (by kernel_rfl) (by kernel_rfl) (by kernel_rfl) rfl hS0 (fun V hV => exec_loadc 41 _ rfl _ _ rfl (load_one 41 (fun _ => by kernel_rfl) V _ _ _ hV.2)) ?_
        simp only [Act.put, List.setIfInBounds_toArray, List.set_cons_succ, List.set_cons_zero]
        refine held_take 9 28 _ (.int .i64 (t.wt.length : Int)) rfl rfl (by kernel_rfl) (by kernel_rfl) (by kernel_rfl) rfl hS0 (fun _ _ => exec_lenK _ rfl _ _ _ rfl) ?_
        simp only [Act.put, List.setIfInBounds_toArray, List.set_cons_succ, List.set_cons_zero]
        refine held_take 10 29 _ (.int .i64 (topK t : Int)) rfl rfl (by kernel_rfl) (by kernel_rfl) (by kernel_rfl) rfl hS0 (fun _ _ => exec_minK _ _ rfl _ _ _ rfl rfl HMIN.out) ?_
        simp only [Act.put, List.setIfInBounds_toArray, List.set_cons_succ, List.set_cons_zero]
        refine held_take 11 30 _ (.bool true) rfl rfl (by kernel_rfl) (by kernel_rfl) (by kernel_rfl) rfl hS0 (fun _ _ => exec_lssK 3 _ _ rfl _ _ _ rfl rfl i1) ?_
        simp only [Act.put, List.setIfInBounds_toArray, List.set_cons_succ, List.set_cons_zero]
        refine wpAnyH_done (by kernel_rfl) ?_ _
        refine NoPanic.normal ?_
        go_wp2_with fail
        refine held_begin (fun V => (V.cell? ⟨G, 3, none⟩ = some (.int .i64 (K : Int)) ∧ V.cell? ⟨G, 6, none⟩ = some (.slice (some ⟨b, off, none⟩) t.wt.length cv)) ∧ V.cell? ⟨b, off + K, none⟩ = some (.slice a nb cc)) (by kernel_rfl) ?_
        refine held_take 0 40 _ (.slice ap (datasK t t.se j).length cp) rfl rfl (by kernel_rfl) (by kernel_rfl) (by kernel_rfl) rfl hS1 (fun _ _ => rfl) ?_
        simp only [Act.put, List.setIfInBounds_toArray, List.set_cons_succ, List.set_cons_zero]
        refine held_take 1 41 _ (.pointer (some ⟨G, 0, none⟩)) rfl rfl (by kernel_rfl) (by kernel_rfl) (by kernel_rfl) rfl hS1 (fun _ _ => rfl) ?_
        simp only [Act.put, List.setIfInBounds_toArray, List.set_cons_succ, List.set_cons_zero]
        refine held_take 2 42 _ (.pointer (some ⟨G, 0, none⟩)) rfl rfl (by kernel_rfl) (by kernel_rfl) (by kernel_rfl) rfl hS1 (fun _ _ => rfl) ?_
        simp only [Act.put, List.setIfInBounds_toArray, List.set_cons_succ, List.set_cons_zero]
        refine held_take 3 43 _ (.pointer (some ⟨G, 0, none⟩)) rfl rfl (by kernel_rfl) (by kernel_rfl) (by kernel_rfl) rfl hS1 (fun _ _ => rfl) ?_
        simp only [Act.put, List.setIfInBounds_toArray, List.set_cons_succ, List.set_cons_zero]
        refine held_take 4 44 _ (.pointer (some ⟨G, 0, none⟩)) rfl rfl (by kernel_rfl) (by kernel_rfl) (by kernel_rfl) rfl hS1 (fun _ _ => rfl) ?_
        simp only [Act.put, List.setIfInBounds_toArray, List.set_cons_succ, List.set_cons_zero]
        refine held_take 5 45 _ (.pointer (some ⟨G, 0, none⟩)) rfl rfl (by kernel_rfl) (by kernel_rfl) (by kernel_rfl) rfl hS1 (fun _ _ => rfl) ?_
        simp only [Act.put, List.setIfInBounds_toArray, List.set_cons_succ, List.set_cons_zero]
        refine held_take 6 46 _ (.pointer (some ⟨G, 0, none⟩)) rfl rfl (by kernel_rfl) (by kernel_rfl) (by kernel_rfl) rfl hS1 (fun _ _ => rfl) ?_
        simp only [Act.put, List.setIfInBounds_toArray, List.set_cons_succ, List.set_cons_zero]
        refine held_take 7 47 _ (.pointer (some ⟨G, 3, none⟩)) rfl rfl (by kernel_rfl) (by kernel_rfl) (by kernel_rfl) rfl hS1 (fun _ _ => rfl) ?_
        simp only [Act.put, List.setIfInBounds_toArray, List.set_cons_succ, List.set_cons_zero]
        refine held_take 8 48 _ (.int .i64 (K : Int)) rfl rfl (by kernel_rfl) (by kernel_rfl) (by kernel_rfl) rfl hS1 (fun V hV => exec_loadc 3 _ rfl _ _ rfl (load_one 3 (fun _ => by kernel_rfl) V _ _ _ hV.1.1)) ?_
        simp only [Act.put, List.setIfInBounds_toArray, List.set_cons_succ, List.set_cons_zero]
        refine held_take 9 49 _ (.pointer (some ⟨G, 0, none⟩)) rfl rfl (by kernel_rfl) (by kernel_rfl) (by kernel_rfl) rfl hS1 (fun _ _ => rfl) ?_
        simp only [Act.put, List.setIfInBounds_toArray, List.set_cons_succ, List.set_cons_zero]
        refine held_take 10 50 _ (.pointer (some ⟨G, 0, none⟩)) rfl rfl (by kernel_rfl) (by kernel_rfl) (by kernel_rfl) rfl hS1 (fun _ _ => rfl) ?_
        simp only [Act.put, List.setIfInBounds_toArray, List.set_cons_succ, List.set_cons_zero]
        refine held_take 11 51 _ (.pointer (some ⟨G, 6, none⟩)) rfl rfl (by kernel_rfl) (by kernel_rfl) (by kernel_rfl) rfl hS1 (fun _ _ => rfl) ?_
        simp only [Act.put, List.setIfInBounds_toArray, List.set_cons_succ, List.set_cons_zero]
        refine held_take 12 52 _ (.slice (some ⟨b, off, none⟩) t.wt.length cv) rfl rfl (by kernel_rfl) (by kernel_rfl) (by kernel_rfl) rfl hS1 (fun V hV => exec_loadc 41 _ rfl _ _ rfl (load_one 41 (fun _ => by kernel_rfl) V _ _ _ hV.1.2)) ?_
        simp only [Act.put, List.setIfInBounds_toArray, List.set_cons_succ, List.set_cons_zero]
        refine held_take 13 53 _ (.pointer (some ⟨G, 0, none⟩)) rfl rfl (by kernel_rfl) (by kernel_rfl) (by kernel_rfl) rfl hS1 (fun _ _ => rfl) ?_
        simp only [Act.put, List.setIfInBounds_toArray, List.set_cons_succ, List.set_cons_zero]
        refine held_take 14 54 _ (.pointer (some ⟨G, 0, none⟩)) rfl rfl (by kernel_rfl) (by kernel_rfl) (by kernel_rfl) rfl hS1 (fun _ _ => rfl) ?_
        simp only [Act.put, List.setIfInBounds_toArray, List.set_cons_succ, List.set_cons_zero]
        refine held_take 15 55 _ (.pointer (some ⟨G, 0, none⟩)) rfl rfl (by kernel_rfl) (by kernel_rfl) (by kernel_rfl) rfl hS1 (fun _ _ => rfl) ?_
        simp only [Act.put, List.setIfInBounds_toArray, List.set_cons_succ, List.set_cons_zero]
        refine held_take 16 56 _ (.pointer (some ⟨G, 3, none⟩)) rfl rfl (by kernel_rfl) (by kernel_rfl) (by kernel_rfl) rfl hS1 (fun _ _ => rfl) ?_
        simp only [Act.put, List.setIfInBounds_toArray, List.set_cons_succ, List.set_cons_zero]
        refine held_take 17 57 _ (.int .i64 (K : Int)) rfl rfl (by kernel_rfl) (by kernel_rfl) (by kernel_rfl) rfl hS1 (fun V hV => exec_loadc 3 _ rfl _ _ rfl (load_one 3 (fun _ => by kernel_rfl) V _ _ _ hV.1.1)) ?_
        simp only [Act.put, List.setIfInBounds_toArray, List.set_cons_succ, List.set_cons_zero]
        refine held_take 18 58 _ (.pointer (some ⟨b, off + K, none⟩)) rfl rfl (by kernel_rfl) (by kernel_rfl) (by kernel_rfl) rfl hS1 (fun V _ => exec_indexat 41 _ _ rfl (.slice (some ⟨b, off, none⟩) t.wt.length cv) (.int .i64 (K : Int)) _ rfl rfl (HIX.out V)) ?_
        simp only [Act.put, List.setIfInBounds_toArray, List.set_cons_succ, List.set_cons_zero]
        refine held_take 19 59 _ (.slice a nb cc) rfl rfl (by kernel_rfl) (by kernel_rfl) (by kernel_rfl) rfl hS1 (fun V hV => exec_loadc 32 _ rfl _ _ rfl (load_one 32 (fun _ => by kernel_rfl) V _ _ _ hV.2)) ?_
        simp only [Act.put, List.setIfInBounds_toArray, List.set_cons_succ, List.set_cons_zero]
        refine held_all1 20 (by kernel_rfl) (op_call 20 60 _ 28 #[.pointer (some ⟨G, 0, none⟩), .int .i64 (K : Int), .slice a nb cc] rfl rfl rfl (exec_three8 28 _ _ _ _ rfl _ _ _ rfl rfl rfl Try.call28) ((HDT.out wr.drew.drew (Below.refl _ _).drew.drew).mono ?_))
        rintro e W2 ⟨bv, rfl, ho2, hb2⟩
        have hB2 : Below wr.heap.size wr W2 := ((Below.refl _ _).drew.drew).trans hb2
        obtain ⟨ab, cb, hbv⟩ := ho2.seg.shapeD
        generalize hlb : (t.wt.getD K []).length = lb at hbv
        subst hbv
        have hS2 := HS.out W2 (Chg.of_below hB2 (Nat.le_refl _))
        obtain ⟨a3, n3, c3', W3, happ, hP3, hc3, hb3⟩ := HAP.out W2 ab lb cb hB2 ho2 hlb
        refine ⟨_, rfl, hS2, ?_⟩
        simp only [Act.put, List.setIfInBounds_toArray, List.set_cons_succ, List.set_cons_zero]
        refine held_all1 21 (by kernel_rfl) (op_value 21 61 _ (.slice (some ⟨W2.heap.size, 0, none⟩) 1 1) (W2.alloc (.cells #[.int .i64 3, .int .i64 t.ep, .int .i64 t.pe, .int .i64 ((t.fi : Int) + (K : Int)), .int .i64 ((t.ne : Int) - 1), .slice ab lb cb] 34)) rfl rfl rfl (exec_pktK _ rfl _ _ _ _ _ _ _ _ rfl) ⟨HS.out _ (Chg.of_below (hB2.trans ((below_new W2 _).mono hB2.size)) (Nat.le_refl _)), ?_⟩)
        simp only [Act.put, List.setIfInBounds_toArray, List.set_cons_succ, List.set_cons_zero]
        refine held_all1 22 (by kernel_rfl) (op_value 22 62 _ (.slice a3 n3 c3') W3 rfl rfl rfl (exec_app (.tmp 40) (.tmp 61) 38 38 rfl (.slice ap (datasK t t.se j).length cp) (.slice (some ⟨W2.heap.size, 0, none⟩) 1 1) (.slice a3 n3 c3') rfl rfl happ) ⟨HS.out _ hc3, ?_⟩)
        simp only [Act.put, List.setIfInBounds_toArray, List.set_cons_succ, List.set_cons_zero]
        refine held_all1 23 (by kernel_rfl) (op_value 23 3 _ (.slice a3 n3 c3') W3 rfl rfl rfl (rfl) ⟨HS.out _ hc3, ?_⟩)
        simp only [Act.put, List.setIfInBounds_toArray, List.set_cons_succ, List.set_cons_zero]
        refine wpAnyH_done (by kernel_rfl) ?_ _
        refine NoPanic.normal ?_
        have hKK := HKK.out
        have kM3 := hK.chg hc3 (by omega)
        have x3 : W3.cell? ⟨G, 3, none⟩ = some (.int .i64 (K : Int)) := kM3.cell (j := 3) rfl
        have z3 := kM3.frozen 3
        have hw3 : IntKind.i64.wrap ((K : Int) + 1) = (K : Int) + 1 := by rw [IntKind.wrap_i64]; omega
        have hcG : Chg (fun q => q = G) W3 (W3.setCell ⟨G, 3, none⟩ (.int .i64 ((K : Int) + 1))) := (Chg.refl (fun q => q = G) W3).setCell G 3 _ (fun _ => rfl)
        have hP4 := hP3.chg hcG (fun q e => by rw [e]; exact .inl h1.tG) (fun q hq e => by have := (hP3.lt q hq).1; omega)
        have hK4 : Blk (W3.setCell ⟨G, 3, none⟩ (.int .i64 ((K : Int) + 1))) G 69 (linkC { t with se := t.se + (j + 1) } (.slice (some ⟨b, off, none⟩) t.wt.length cv)) := (kM3.set 3 _).of_eq (by unfold linkC; simp; omega)
        have hC4 : Chg (fun q => q = G) w1 (W3.setCell ⟨G, 3, none⟩ (.int .i64 ((K : Int) + 1))) := (hC.trans (S' := fun q => w.heap.size ≤ q) hc3 (fun q hq e => by omega)).trans (S' := fun q => q = G) hcG (fun _ _ e => e)
        have HJ1 : Hid (j + 1 ≤ topK t - t.se) := (by omega : j + 1 ≤ topK t - t.se)
        have HMS : Hid (topK t ≤ 4) := htop.2
        clear hKK HKK hP3 hc3 hcG HAP HS HDT HIX hS0 hS1 hS2 kM3 hrow hP hK hC ho2 hb2 hB2 happ
        go_wp2_with fail
        go_roundw
        case rel => exact ⟨j + 1, HJ1.out, hP4, hK4, hC4⟩
        case measure => have := hlj.out; simp only [lenV]; omega
      · have i1 : decide ((K : Int) < (topK t : Int)) = false := decide_eq_false (by omega)
        have HE : Hid (j = topK t - t.se ∧ K = max t.se (topK t)) := ⟨by omega, by omega⟩
        go_wp2_with fail
        refine held_begin (fun V => V.cell? ⟨G, 3, none⟩ = some (.int .i64 (K : Int)) ∧ V.cell? ⟨G, 6, none⟩ = some (.slice (av) t.wt.length cv)) (by kernel_rfl) ?_
        refine held_take 0 19 _ (.pointer (some ⟨G, 0, none⟩)) rfl rfl (by kernel_rfl) (by kernel_rfl) (by kernel_rfl) rfl hS0 (fun _ _ => rfl) ?_
        simp only [Act.put, List.setIfInBounds_toArray, List.set_cons_succ, List.set_cons_zero]
        refine held_take 1 20 _ (.pointer (some ⟨G, 0, none⟩)) rfl rfl (by kernel_rfl) (by kernel_rfl) (by kernel_rfl) rfl hS0 (fun _ _ => rfl) ?_
        simp only [Act.put, List.setIfInBounds_toArray, List.set_cons_succ, List.set_cons_zero]
        refine held_take 2 21 _ (.pointer (some ⟨G, 0, none⟩)) rfl rfl (by kernel_rfl) (by kernel_rfl) (by kernel_rfl) rfl hS0 (fun _ _ => rfl) ?_
        simp only [Act.put, List.setIfInBounds_toArray, List.set_cons_succ, List.set_cons_zero]
        refine held_take 3 22 _ (.pointer (some ⟨G, 3, none⟩)) rfl rfl (by kernel_rfl) (by kernel_rfl) (by kernel_rfl) rfl hS0 (fun _ _ => rfl) ?_
        simp only [Act.put, List.setIfInBounds_toArray, List.set_cons_succ, List.set_cons_zero]
        refine held_take 4 23 _ (.int .i64 (K : Int)) rfl rfl (by kernel_rfl) (by kernel_rfl) (by kernel_rfl) rfl hS0 (fun V hV => exec_loadc 3 _ rfl _ _ rfl (load_one 3 (fun _ => by kernel_rfl) V _ _ _ hV.1)) ?_
        simp only [Act.put, List.setIfInBounds_toArray, List.set_cons_succ, List.set_cons_zero]
        refine held_take 5 24 _ (.pointer (some ⟨G, 0, none⟩)) rfl rfl (by kernel_rfl) (by kernel_rfl) (by kernel_rfl) rfl hS0 (fun _ _ => rfl) ?_
        simp only [Act.put, List.setIfInBounds_toArray, List.set_cons_succ, List.set_cons_zero]
        refine held_take 6 25 _ (.pointer (some ⟨G, 0, none⟩)) rfl rfl (by kernel_rfl) (by kernel_rfl) (by kernel_rfl) rfl hS0 (fun _ _ => rfl) ?_
        simp only [Act.put, List.setIfInBounds_toArray, List.set_cons_succ, List.set_cons_zero]
        refine held_take 7 26 _ (.pointer (some ⟨G, 6, none⟩)) rfl rfl (by kernel_rfl) (by kernel_rfl) (by kernel_rfl) rfl hS0 (fun _ _ => rfl) ?_
        simp only [Act.put, List.setIfInBounds_toArray, List.set_cons_succ, List.set_cons_zero]
        refine held_take 8 27 _ (.slice (av) t.wt.length cv) rfl rfl (by kernel_rfl) (by kernel_rfl) (by kernel_rfl) rfl hS0 (fun V hV => exec_loadc 41 _ rfl _ _ rfl (load_one 41 (fun _ => by kernel_rfl) V _ _ _ hV.2)) ?_
        simp only [Act.put, List.setIfInBounds_toArray, List.set_cons_succ, List.set_cons_zero]
        refine held_take 9 28 _ (.int .i64 (t.wt.length : Int)) rfl rfl (by kernel_rfl) (by kernel_rfl) (by kernel_rfl) rfl hS0 (fun _ _ => exec_lenK _ rfl _ _ _ rfl) ?_
        simp only [Act.put, List.setIfInBounds_toArray, List.set_cons_succ, List.set_cons_zero]
        refine held_take 10 29 _ (.int .i64 (topK t : Int)) rfl rfl (by kernel_rfl) (by kernel_rfl) (by kernel_rfl) rfl hS0 (fun _ _ => exec_minK _ _ rfl _ _ _ rfl rfl HMIN.out) ?_
        simp only [Act.put, List.setIfInBounds_toArray, List.set_cons_succ, List.set_cons_zero]
        refine held_take 11 30 _ (.bool false) rfl rfl (by kernel_rfl) (by kernel_rfl) (by kernel_rfl) rfl hS0 (fun _ _ => exec_lssK 3 _ _ rfl _ _ _ rfl rfl i1) ?_
        simp only [Act.put, List.setIfInBounds_toArray, List.set_cons_succ, List.set_cons_zero]
        refine wpAnyH_done (by kernel_rfl) ?_ _
        refine NoPanic.normal ?_
        go_wp2
        go_ret
        obtain ⟨e1, e2⟩ := HE.out
        have hPf : PksO wr T w.heap.size (.slice ap (datasK t t.se j).length cp) (datasK t t.se (topK t - t.se)) := by
          rw [← e1]
          exact hP.less (fun q e => .inl e)
        refine ⟨_, rfl, ⟨?_, ?_, HFIN.out, h1.tG, h1.tv, fun q hq => ?_, h1.ge, h1.ne⟩, hPf.after ((Below.refl _ _).drew), (hC01.trans (S' := fun q => q = G) hC (fun _ _ e => e)).drew⟩
        · have := hK.drew
          rw [e2] at this
          exact this
        · exact hrow.after ((Below.refl _ _).drew)
        · have := hwl q hq
          have := hC.size
          rw [World.size_drew]
          omega
end Go.Proofs.Ytichmnbhephkkaa
