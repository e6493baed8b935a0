/-
  What is proved here: a part of a slice of bytes; a row that is read under a guard. store.decodeState's closure takes one text off the bytes. store.decodeState answers the pairs whose bytes these are.
  Conditions: those that each fact names. there is one. the pairs may be, and their keys rise.
-/
import Derived.Test.YtbegphfideopoaaGreatJShaPure
import Derived.Test.YtbegphfideopoaaGreatJPWalSmall
import Derived.Test.YtbegphfideopoaaGreatJPackPure
import Derived.Test.YtbegphfideopoaaGreatJStoreOpen
namespace Go.Proofs.YtbegphfideopoaaGreat
open Go.RowKit

theorem slice_midM (ao : Option Addr) (len c lo hi : Nat) (h : lo ≤ hi) (hc : hi ≤ c) (w : World) : (Instr.slice 34 (.slice ao len c) (some (.int .i64 (lo : Int))) (some (.int .i64 (hi : Int))) none).run Tryz.prog w = .ok (.slice (restD ao c lo) (hi - lo) (c - lo)) w := by
  rw [run_slice_lh w 34 ao len c (by rw [elem_bytesD]; exact Tryz.underlying34) .i64 .i64 lo hi (by omega) (by omega) (by omega), elem_bytesD, size_byteD]
  simp only [Result.andThen_ok, sliced, Int.toNat_natCast, restD]
/-- A part of a slice. -/
theorem seg_mid {w : World} {ao : Option Addr} {len c : Nat} {bs : List UInt8} (h : Seg w (.slice ao len c) bs) (lo n : Nat) (hn : lo + n ≤ len) : Seg w (.slice (restD ao c lo) n (c - lo)) ((bs.drop lo).take n) := by
  have h1 := h.dropsD lo (by omega)
  exact (h1.takesD n (by omega)).1
theorem seg_cap {w : World} {ao : Option Addr} {len c : Nat} {bs : List UInt8} (h : Seg w (.slice ao len c) bs) : len ≤ c := (h.takesD len (Nat.le_refl _)).2
/-- A row that is read under a guard. -/
theorem load_guarded {P : Program} {ops : Array Oper} {rest : List Oper} {o : Oper} {a : Act} {w : World} {Q : Exit → Act → World → Prop} (hw : Region.wanted o (yielded ops a.tmps) = true) (ty : TypeId) (x : Operand) (ho : o.op = .load ty x)
    (g : Nat) (hx : a.eval x = .pointer (some ⟨g, 0, none⟩)) (t : TypeId) (cs : Array Value) (fr : Nat × Nat) (d : TypeDesc) (hg : w.heap[g]? = some (.cells cs t fr))
    (hu : P.underlying ty = some d) (hd : (match d with | .struct _ | .array _ _ => true | _ => false) = true) (hi : (P.info? ty).map (·.size) = some cs.size)
    (h : wpList P ops Q rest (a.put o.dst (.agg cs)) w) : wpList P ops Q (o :: rest) a w :=
  wpList_step fun _ hK => by rw [if_pos hw]; exact wp_load_row ty x ho g hx t cs fr d hg hu hd hi (hK _ _ h)
end Go.Proofs.YtbegphfideopoaaGreat
namespace Go.Proofs.YtbegphfideopoaaGreat
open Go.RowKit

theorem or_two (c0 c1 : Nat) (h0 : c0 < 256) (h1 : c1 < 256) : bits .or .i64 (c0 : Int) ((c1 * 256 : Nat) : Int) = ((c0 + c1 * 256 : Nat) : Int) := by
  rw [or_i64 _ _ (by omega) (by omega), show c0 ||| c1 * 256 = c0 + c1 * 256 from or_high c0 c1 8 h0]
set_option maxRecDepth 100000 in
set_option maxHeartbeats 2000000 in
/-- One text is taken off. -/
theorem take_any8 (q : Nat) (ao : Option Addr) (c : Nat) (k rest : List UInt8) (w : World) (hq : Blk w q 34 #[.slice ao (k.length + 2 + rest.length) c]) (hS : Seg w (.slice ao (k.length + 2 + rest.length) c) (textB k ++ rest)) (hk : k.length ≤ 1024) (hm : rest.length ≤ 1000000000) :
    Calls Tryz.prog 78 #[.pointer (some ⟨q, 0, none⟩)] w fun e w' => e = .returned (.tuple #[.slice (restD ao c 2) k.length (c - 2), .bool true]) ∧ Blk w' q 34 #[.slice (restD ao c (2 + k.length)) rest.length (c - (2 + k.length))] ∧ w.grownBy w' (some q) := by
  obtain ⟨n, hn⟩ : ∃ n, n = k.length := ⟨_, rfl⟩
  obtain ⟨r, hr⟩ : ∃ r, r = rest.length := ⟨_, rfl⟩
  rw [← hn, ← hr] at hq hS
  rw [← hn] at hk
  rw [← hr] at hm
  rw [← hn, ← hr]
  have hcap := seg_cap hS
  obtain ⟨b, off, rfl, _, hrow, _⟩ := hS.formD (by omega)
  obtain ⟨lo, hlo⟩ : ∃ lo, lo = n % 256 := ⟨_, rfl⟩
  obtain ⟨hi, hhi⟩ : ∃ hi, hi = n / 256 := ⟨_, rfl⟩
  have d0 : w.cell? ⟨b, off, none⟩ = some (.int .u8 (lo : Int)) := by
    have := hrow 0 (by simp [textB])
    rw [Nat.add_zero] at this
    rw [this, hlo, hn]
    simp [textB, n8]
  have d1 : w.cell? ⟨b, off + 1, none⟩ = some (.int .u8 (hi : Int)) := by
    have := hrow 1 (by simp [textB])
    rw [this, hhi]
    rw [hn] at hk ⊢
    have e : k.length / 256 % 256 = k.length / 256 := by omega
    simp [textB, n8]
    omega
  have c0 : w.cell? ⟨q, 0, none⟩ = some (.slice (some ⟨b, off, none⟩) (n + 2 + r) c) := hq.cell (j := 0) rfl
  have f0 := hq.frozen 0
  have HGR : Hid (∀ V : World, V.grownBy (V.setCell ⟨q, 0, none⟩ (.slice (restD (some ⟨b, off, none⟩) c (2 + n)) r (c - (2 + n)))) (some q)) := fun V => ⟨rfl, rfl, rfl, by simp, fun k _ hk => Below.heap_setCell V ⟨q, 0, none⟩ _ k (fun e => hk (by rw [e]))⟩
  have hor := or_two lo hi (by omega) (by omega)
  rw [show lo + hi * 256 = n by omega] at hor
  have w0 : IntKind.i64.wrap (lo : Int) = (lo : Int) := wrap_small _ (by omega) (by omega)
  have w1 : IntKind.i64.wrap (IntKind.i64.wrap (hi : Int) * 256) = ((hi * 256 : Nat) : Int) := by rw [wrap_small (hi : Int) (by omega) (by omega), wrap_small _ (by omega) (by omega)]; rfl
  have HW : Hid (bits .or .i64 (IntKind.i64.wrap (lo : Int)) (IntKind.i64.wrap (IntKind.i64.wrap (hi : Int) * 256)) = (n : Int)) := by show _ = _; rw [w0, w1]; exact hor
  have i0 := index7 b off (n + 2 + r) c 0 0 rfl (by omega)
  have i1 := index7 b off (n + 2 + r) c 1 1 rfl (by omega)
  have hs1 : ∀ V, (Instr.slice 34 (.slice (some ⟨b, off, none⟩) (n + 2 + r) c) (some (.int .i64 2)) (some (.int .i64 (2 + (n : Int)))) none).run Tryz.prog V = .ok (.slice (restD (some ⟨b, off, none⟩) c 2) n (c - 2)) V := fun V => by
    have := slice_midM (some ⟨b, off, none⟩) (n + 2 + r) c 2 (2 + n) (by omega) (by omega) V
    rw [show 2 + n - 2 = n by omega] at this
    exact this
  have hs2 : ∀ V, (Instr.slice 34 (.slice (some ⟨b, off, none⟩) (n + 2 + r) c) (some (.int .i64 (2 + (n : Int)))) none none).run Tryz.prog V = .ok (.slice (restD (some ⟨b, off, none⟩) c (2 + n)) r (c - (2 + n))) V := fun V => by
    have := slice_restD (some ⟨b, off, none⟩) (n + 2 + r) c (2 + n) (by omega) V
    rw [show n + 2 + r - (2 + n) = r by omega] at this
    exact this
  obtain ⟨A2, hA2⟩ : ∃ A2, A2 = restD (some ⟨b, off, none⟩) c 2 := ⟨_, rfl⟩
  obtain ⟨A3, hA3⟩ : ∃ A3, A3 = restD (some ⟨b, off, none⟩) c (2 + n) := ⟨_, rfl⟩
  simp only [← hA2] at hs1 ⊢
  simp only [← hA3] at hs2 HGR ⊢
  have c0d : w.drew.cell? ⟨q, 0, none⟩ = some (.slice (some ⟨b, off, none⟩) (n + 2 + r) c) := c0
  have f0d : w.drew.frozen? ⟨q, 0, none⟩ = false := f0
  have HSD : Hid (∀ z, Blk (w.drew.setCell ⟨q, 0, none⟩ z) q 34 #[z]) := fun z => ((show Blk w.drew q _ _ from hq).set 0 z).of_eq rfl
  clear hrow hS hq hn hr hA2 hA3 hor w0 w1 hlo hhi
  go_enter Tryz.func78, Tryz.ntmps78
  go_wp2_with fail
  go_still (by kernel_rfl)
  rw [HW.out]
  obtain ⟨W1, hW1⟩ : ∃ W1, W1 = w.drew := ⟨_, rfl⟩
  have HW1 : Hid (W1 = w.drew) := hW1
  rw [← hW1] at c0d f0d HSD
  show Exit.then _ _ Exit.normal _ w.drew
  rw [← hW1]
  have gt1 : ¬ ((n : Int) + 2 + (r : Int)) - 2 < (n : Int) := by omega
  clear c0 f0 hW1 d0 d1 i0 i1 HW
  go_wp2_with fail
  go_ret2
  exact ⟨rfl, HSD.out _, (show w.grownBy W1 (some q) by rw [HW1.out]; exact ⟨rfl, rfl, rfl, Nat.le_refl _, fun _ _ _ => rfl⟩).trans (HGR.out W1)⟩
end Go.Proofs.YtbegphfideopoaaGreat
namespace Go.Proofs.YtbegphfideopoaaGreat
open Go.RowKit Go.Maps

/-- The same, by letters. -/
theorem take_n8 (q : Nat) (ao : Option Addr) (c : Nat) (k rest : List UInt8) (n r : Nat) (hn : k.length = n) (hr : rest.length = r) (w : World) (hq : Blk w q 34 #[.slice ao (n + 2 + r) c]) (hS : Seg w (.slice ao (n + 2 + r) c) (textB k ++ rest)) (hk : n ≤ 1024) (hm : r ≤ 1000000000) :
    Calls Tryz.prog 78 #[.pointer (some ⟨q, 0, none⟩)] w fun e w' => e = .returned (.tuple #[.slice (restD ao c 2) n (c - 2), .bool true]) ∧ Blk w' q 34 #[.slice (restD ao c (2 + n)) r (c - (2 + n))] ∧ w.grownBy w' (some q) := by
  subst hn
  subst hr
  exact take_any8 q ao c k rest w hq hS hk hm
theorem state_cons (p : List UInt8 × List UInt8) (m : PM) : stateM (p :: m) = textB p.1 ++ (textB p.2 ++ stateM m) := by
  show pairB p ++ stateM m = _
  unfold pairB
  rw [List.append_assoc]
theorem put_last : ∀ (m : PM) (k v : List UInt8), RiseM (m ++ [(k, v)]) → putM k v m = m ++ [(k, v)]
  | [], _, _, _ => rfl
  | p :: m, k, v, h => by
    obtain ⟨h1, h2⟩ := List.pairwise_cons.1 h
    have hp : p.1 < k := h1 (k, v) (List.mem_append_right _ List.mem_cons_self)
    unfold putM
    rw [if_neg (fun e => lt_irr _ (lt_tr hp e)), if_neg (fun e => by rw [e] at hp; exact lt_irr _ hp), put_last m k v h2]
    rfl
/-- The key of the pair ahead. -/
def lastK (m : PM) : Nat → List UInt8
  | 0 => []
  | I + 1 => (m.getD I ([], [])).1
theorem last_lt {m : PM} (hr : RiseM m) (hp : PairsR m) {I : Nat} {p : List UInt8 × List UInt8} (h : m[I]? = some p) : lastK m I < p.1 := by
  cases I with
  | zero =>
    have := (hp p (List.mem_of_getElem? h)).1
    show [] < p.1
    cases hp1 : p.1 with
    | nil => rw [hp1] at this; simp at this
    | cons a l => exact List.nil_lt_cons _ _
  | succ I =>
    obtain ⟨hI, h2⟩ := List.getElem?_eq_some_iff.1 h
    show (m.getD I ([], [])).1 < p.1
    have e : m.getD I ([], []) = m[I]'(by omega) := by rw [List.getD_eq_getElem?_getD, List.getElem?_eq_getElem (by omega)]; rfl
    rw [e, ← h2]
    exact List.pairwise_iff_getElem.1 hr I (I + 1) (by omega) hI (by omega)
theorem less_not {a b : List UInt8} (h : b < a) : Op.bytesLess a b = false ∧ (a == b) = false := by
  rw [bytesLess_eq]
  have h1 : ¬ a < b := fun e => lt_irr _ (lt_tr h e)
  have h2 : a ≠ b := fun e => by rw [e] at h; exact lt_irr _ h
  simp [h1, h2]
def lenOf : Option Value → Nat
  | some (.slice _ n _) => n
  | _ => 0
theorem opsV_one {w : World} {g c : Nat} {ka va : Option Addr} {kc vc : Nat} {k v : List UInt8} (hb : Blk w g 59 #[.slice ka k.length kc, .bool false, .slice va v.length vc]) (h1 : Seg w (.slice ka k.length kc) k) (h2 : Seg w (.slice va v.length vc) v) (hk : k.length ≤ 1024) (hv : v.length ≤ 1024) : OpsV w (.slice (some ⟨g, 0, none⟩) 1 c) [⟨k, false, v⟩] := by
  refine ⟨_, c, rfl, show (1 : Nat) ≤ maxLen by decide, fun i o ho => ?_⟩
  match i, ho with
  | 0, ho =>
    cases ho
    exact ⟨g, 0, rfl, hb.lt, ka, kc, va, vc, hb.cell (j := 0) rfl, hb.cell (j := 1) rfl, hb.cell (j := 2) rfl, h1, h2, by show k.length ≤ maxLen; unfold maxLen; omega, by show v.length ≤ maxLen; unfold maxLen; omega⟩
  | (i + 1), ho => cases ho
set_option maxRecDepth 100000 in
set_option maxHeartbeats 4000000 in
theorem decodeState_any (sv : Value) (m : PM) (w : World) (hS : Seg w sv (stateM m)) (hr : RiseM m) (hp : PairsR m) (hml : m.length ≤ 100000) : Calls Tryz.prog 49 #[sv] w fun e w' => RepOut w m e w' := by
  obtain ⟨ao, c, rfl⟩ := hS.shapeD
  obtain ⟨n0, hn0⟩ : ∃ n0, n0 = (stateM m).length := ⟨_, rfl⟩
  have hbig : n0 ≤ 1000000000 := by rw [hn0, stateM_len]; have := sizeM_le hp; omega
  rw [← hn0] at hS ⊢
  have HN0 : Hid (n0 = (stateM m).length) := hn0
  clear hn0
  have hmk := fun W : World => run_makeMap (P := Tryz.prog) 71 W
  have hMP := MapP.made (w.alloc (.cells #[.slice ao n0 c] 34)) (fun _ => False)
  have kq0 := (Blk.new w 34 #[.slice ao n0 c]).alloc (.map #[] 0)
  have hB0 : Below w.heap.size w ((w.alloc (.cells #[.slice ao n0 c] 34)).alloc (.map #[] 0)) := ((Below.refl _ _).alloc (Nat.le_refl _) _).alloc (by simp) _
  rw [World.size_alloc] at hMP
  go_enter Tryz.func49, Tryz.ntmps49
  go_wp2_with fail
  obtain ⟨w2, hw2⟩ : ∃ W, W = (w.alloc (.cells #[.slice ao n0 c] 34)).alloc (.map #[] 0) := ⟨_, rfl⟩
  obtain ⟨q, hq⟩ : ∃ q, q = w.heap.size := ⟨_, rfl⟩
  obtain ⟨M, hM⟩ : ∃ M, M = w.heap.size + 1 := ⟨_, rfl⟩
  have hs2 : w2.heap.size = w.heap.size + 2 := by rw [hw2]; simp
  rw [← hw2, ← hM] at hMP
  rw [← hw2, ← hq] at kq0
  rw [← hw2] at hB0
  rw [← hw2, ← hM, ← hq]
  have HQ : Hid (q = w.heap.size ∧ M = w.heap.size + 1 ∧ w2.heap.size = w.heap.size + 2) := ⟨hq, hM, hs2⟩
  clear hw2 hmk hq hM hs2
  go_loopw [6] (fun last wr => ∃ (I : Nat) (ao : Option Addr) (n c : Nat), I ≤ m.length ∧ last = .string ⟨(lastK m I).toArray⟩ ∧ Blk wr q 34 #[.slice ao n c] ∧ Hid (n = (stateM (m.drop I)).length) ∧ n ≤ 1000000000 ∧ Seg w (.slice ao n c) (stateM (m.drop I)) ∧ MapP wr (Fr (fun _ => False) w2 wr) M (m.take I) ∧ Below w.heap.size w wr ∧ w2.heap.size ≤ wr.heap.size) (fun _ wr => lenOf (wr.cell? ⟨q, 0, none⟩))
  case atStart => exact ⟨0, ao, n0, c, Nat.zero_le _, rfl, kq0, HN0, hbig, hS, hMP.mono (fun _ h => h.elim), hB0, Nat.le_refl _⟩
  case round =>
    clear kq0 hMP hB0 hS hbig HN0
    obtain ⟨I, ao, n, c, hI, rfl, kq, HN, hnb, hSg, hM, hB, hsz⟩ := hrel
    have cq := kq.cell (j := 0) rfl
    by_cases hlt : I < m.length
    · obtain ⟨p, hpI⟩ : ∃ p, m[I]? = some p := ⟨m[I], List.getElem?_eq_getElem hlt⟩
      have hdrop : m.drop I = p :: m.drop (I + 1) := by
        rw [List.drop_eq_getElem_cons hlt]
        rw [List.getElem?_eq_getElem hlt] at hpI
        cases hpI
        rfl
      have HLT : Hid (lastK m I < p.1) := last_lt hr hp hpI
      have HNX : Hid (lastK m (I + 1) = p.1) := by
        show (m.getD I ([], [])).1 = p.1
        rw [List.getD_eq_getElem?_getD, hpI]
        rfl
      have HTK : Hid (doM (m.take I) [⟨p.1, false, p.2⟩] = m.take (I + 1)) := by
        show putM p.1 p.2 (m.take I) = _
        have e : m.take (I + 1) = m.take I ++ [p] := by rw [List.take_add_one, hpI]; rfl
        rw [e]
        exact put_last _ _ _ (by
          rw [show (p.1, p.2) = p from rfl, ← e]
          exact List.Pairwise.sublist (List.take_sublist _ _) hr)
      obtain ⟨pk1, pk2, pv⟩ := hp p (List.mem_of_getElem? hpI)
      have HOR : Hid (opR ⟨p.1, false, p.2⟩ = true) := by
        show opR _ = true
        unfold opR
        simp [pk1, pk2, pv]
      obtain ⟨kl, hkl⟩ : ∃ kl, kl = p.1.length := ⟨_, rfl⟩
      obtain ⟨vl, hvl⟩ : ∃ vl, vl = p.2.length := ⟨_, rfl⟩
      obtain ⟨rl, hrl⟩ : ∃ rl, rl = (stateM (m.drop (I + 1))).length := ⟨_, rfl⟩
      have hn : n = kl + 2 + (vl + 2 + rl) := by
        rw [HN.out, hdrop, state_cons, List.length_append, List.length_append, textB_len, textB_len, ← hkl, ← hvl, ← hrl]
      rw [hdrop, state_cons] at hSg
      subst hn
      rw [← hkl] at pk1 pk2
      rw [← hvl] at pv
      have HRL : Hid (rl = (stateM (m.drop (I + 1))).length) := hrl
      have hS1 := hSg.dropsD (2 + kl) (by omega)
      rw [show kl + 2 + (vl + 2 + rl) - (2 + kl) = vl + 2 + rl by omega, show (textB p.1 ++ (textB p.2 ++ stateM (m.drop (I + 1)))).drop (2 + kl) = textB p.2 ++ stateM (m.drop (I + 1)) by rw [show 2 + kl = (textB p.1).length by rw [textB_len]; omega, List.drop_left]] at hS1
      have hS2 := hS1.dropsD (2 + vl) (by omega)
      rw [show vl + 2 + rl - (2 + vl) = rl by omega, show (textB p.2 ++ stateM (m.drop (I + 1))).drop (2 + vl) = stateM (m.drop (I + 1)) by rw [show 2 + vl = (textB p.2).length by rw [textB_len]; omega, List.drop_left]] at hS2
      have hSk := seg_mid hSg 2 kl (by omega)
      rw [show ((textB p.1 ++ (textB p.2 ++ stateM (m.drop (I + 1)))).drop 2).take kl = p.1 by
        show ((p.1 ++ (textB p.2 ++ stateM (m.drop (I + 1)))).take kl) = p.1
        rw [hkl, List.take_left]] at hSk
      have hSv := seg_mid hS1 2 vl (by omega)
      rw [show ((textB p.2 ++ stateM (m.drop (I + 1))).drop 2).take vl = p.2 by
        show ((p.2 ++ stateM (m.drop (I + 1))).take vl) = p.2
        rw [hvl, List.take_left]] at hSv
      have HT1 : Hid (∀ W, Blk W q 34 #[.slice ao (kl + 2 + (vl + 2 + rl)) c] → Below w.heap.size w W → Calls Tryz.prog 78 #[.pointer (some ⟨q, 0, none⟩)] W fun e w' => e = .returned (.tuple #[.slice (restD ao c 2) kl (c - 2), .bool true]) ∧ Blk w' q 34 #[.slice (restD ao c (2 + kl)) (vl + 2 + rl) (c - (2 + kl))] ∧ W.grownBy w' (some q)) := fun W h1 h2 => take_n8 q ao c p.1 _ kl (vl + 2 + rl) hkl.symm (by rw [List.length_append, textB_len, ← hvl, ← hrl]) W h1 (hSg.below h2 (Nat.le_refl _)) (by omega) (by omega)
      have HT2 : Hid (∀ W, Blk W q 34 #[.slice (restD ao c (2 + kl)) (vl + 2 + rl) (c - (2 + kl))] → Below w.heap.size w W → Calls Tryz.prog 78 #[.pointer (some ⟨q, 0, none⟩)] W fun e w' => e = .returned (.tuple #[.slice (restD (restD ao c (2 + kl)) (c - (2 + kl)) 2) vl (c - (2 + kl) - 2), .bool true]) ∧ Blk w' q 34 #[.slice (restD (restD ao c (2 + kl)) (c - (2 + kl)) (2 + vl)) rl (c - (2 + kl) - (2 + vl))] ∧ W.grownBy w' (some q)) := fun W h1 h2 => take_n8 q _ _ p.2 _ vl rl hvl.symm hrl.symm W h1 (hS1.below h2 (Nat.le_refl _)) (by omega) (by omega)
      obtain ⟨A3, hA3⟩ : ∃ A3, A3 = restD (restD ao c (2 + kl)) (c - (2 + kl)) (2 + vl) := ⟨_, rfl⟩
      obtain ⟨A2, hA2⟩ : ∃ A2, A2 = restD (restD ao c (2 + kl)) (c - (2 + kl)) 2 := ⟨_, rfl⟩
      rw [← hA3] at hS2 HT2
      rw [← hA2] at hSv HT2
      clear hA3 hA2
      obtain ⟨A1, hA1⟩ : ∃ A1, A1 = restD ao c (2 + kl) := ⟨_, rfl⟩
      obtain ⟨A0, hA0⟩ : ∃ A0, A0 = restD ao c 2 := ⟨_, rfl⟩
      rw [← hA1] at HT1 HT2
      rw [← hA0] at hSk HT1
      clear hA1 hA0 hSg hS1 HN hdrop
      generalize c - (2 + kl) - (2 + vl) = C3 at *
      generalize c - (2 + kl) - 2 = C2 at *
      generalize c - (2 + kl) = C1 at *
      generalize c - 2 = C0 at *
      have HSK : Hid (∀ V, Below w.heap.size w V → Seg V (.slice A0 kl C0) p.1) := fun V h => hSk.below h (Nat.le_refl _)
      have HSV : Hid (∀ V, Below w.heap.size w V → Seg V (.slice A2 vl C2) p.2) := fun V h => hSv.below h (Nat.le_refl _)
      have HST : Hid (∀ V, Below w.heap.size w V → (convert 34 9 (.slice A0 kl C0)).run Tryz.prog V = .ok (.string ⟨p.1.toArray⟩) V) := fun V h => seg_stringD (hSk.below h (Nat.le_refl _)) 9 Tryz.underlying9
      have HOM : Hid (∀ V, Calls Tryz.prog 61 #[.agg #[.slice A0 kl C0, .bool false, .slice A2 vl C2]] V fun e w' => e = .returned (.bool true) ∧ Below V.heap.size V w') := fun V => by
        have := opMayBe_any ⟨p.1, false, p.2⟩ A0 A2 C0 C2 V
        rw [HOR.out] at this
        unfold opV at this
        simp only [← hkl, ← hvl] at this
        exact this
      have HDO : Hid (∀ (V : World) (g c : Nat) (C : Nat → Prop), MapP V C M (m.take I) → ¬ C M → Below w.heap.size w V → Blk V g 59 #[.slice A0 kl C0, .bool false, .slice A2 vl C2] → Calls Tryz.prog 51 #[.map (some M), .slice (some ⟨g, 0, none⟩) 1 c] V fun e w' => e = .returned (.tuple #[]) ∧ MapP w' (Fr C V w') M (m.take (I + 1)) ∧ Chg (fun q => q = M) V w') := fun V g c C h1 h2 h3 h4 => by
        rw [← HTK.out]
        refine do_any M C (m.take I) _ [⟨p.1, false, p.2⟩] V h1 h2 (opsV_one (k := p.1) (v := p.2) (by rw [← hkl, ← hvl]; exact h4) (by rw [← hkl]; exact HSK.out V h3) (by rw [← hvl]; exact HSV.out V h3) (by omega) (by omega)) (by simp [HOR.out]) (by simp; omega)
      have hpos : (0 : Int) < ((kl + 2 + (vl + 2 + rl) : Nat) : Int) := by omega
      obtain ⟨LK, hLK⟩ : ∃ LK, LK = lastK m I := ⟨_, rfl⟩
      rw [← hLK] at HLT ⊢
      have HLE : Hid (Op.bytesLess p.1 LK = false ∧ (p.1 == LK) = false) := less_not HLT.out
      clear hLK hSk hSv HSK HSV HTK HOR hkl hvl hrl hpI pk1 pk2 pv
      have hMq : M ≠ q := by have := HQ.out; omega
      have hqW : w.heap.size ≤ q := by have := HQ.out; omega
      have hMW : w.heap.size ≤ M := by have := HQ.out; omega
      have hq2 : q < w2.heap.size := by have := HQ.out; omega
      have hM2 : M < w2.heap.size := by have := HQ.out; omega
      have hFq : ∀ V x, Fr (fun _ => False) w2 V x → ¬ x = q := fun V x h e => by rcases h with h | h; exact h; omega
      have hFM : ∀ V, ¬ Fr (fun _ => False) w2 V M := fun V h => by rcases h with h | h; exact h; omega
      generalize p.1 = PK at *
      go_wp2_with fail
      refine (HT1.out wr kq hB).mono ?_
      rintro e w3 ⟨rfl, kq3, hg3⟩
      have hB3 : Below w.heap.size w w3 := below_grown hB hg3 hB.size (fun x hx => by cases hx; exact hqW)
      have hM3 := hM.chg (Chg.of_grown (S := fun x => x = q) hg3 (fun x hx => (Option.some.inj hx).symm)) hMq (hFq wr)
      have s3 := hg3.size
      clear kq hB hM HT1 hg3
      go_wp2_with fail
      refine (HT2.out w3 kq3 hB3).mono ?_
      rintro e w4 ⟨rfl, kq4, hg4⟩
      have hB4 : Below w.heap.size w w4 := below_grown hB3 hg4 hB3.size (fun x hx => by cases hx; exact hqW)
      have hM4 := hM3.chg (Chg.of_grown (S := fun x => x = q) hg4 (fun x hx => (Option.some.inj hx).symm)) hMq (hFq wr)
      have s4 := hg4.size
      clear kq3 hB3 hM3 HT2 hg4
      have hbk : Blk (w4.alloc (.cells #[.slice A0 kl C0, .bool false, .slice A2 vl C2] 59)) w4.heap.size 59 #[.slice A0 kl C0, .bool false, .slice A2 vl C2] := Blk.new w4 59 _
      have hb5 : Below w4.heap.size w4 (w4.alloc (.cells #[.slice A0 kl C0, .bool false, .slice A2 vl C2] 59)) := (Below.refl _ _).alloc (Nat.le_refl _) _
      have hiO : (Tryz.prog.info? 59).map (·.size) = some (#[Value.slice A0 kl C0, .bool false, .slice A2 vl C2] : Array Value).size := by kernel_rfl
      go_wp2_with (refine load_guarded rfl 59 _ rfl w4.heap.size rfl 59 _ (0, 0) _ hbk Tryz.underlying59 rfl hiO ?_)
      refine (HOM.out _).mono ?_
      rintro e w6 ⟨rfl, hb6⟩
      have hbk6 := hbk.below hb6 hbk.lt
      have hb46 : Below w4.heap.size w4 w6 := hb5.trans (hb6.mono hb5.size)
      have hB6 : Below w.heap.size w w6 := hB4.trans (hb46.mono hB4.size)
      have hM6 := hM4.after hb46
      have kq6 := kq4.below hb46 kq4.lt
      have k1 := HST.out w6 hB6
      obtain ⟨hl1, hl2⟩ := HLE.out
      have s6 := hb46.size
      clear hbk hb5 hb6 hb46 hM4 kq4 hB4 HOM HLE
      obtain ⟨B, hBe⟩ : ∃ B, B = w4.heap.size := ⟨_, rfl⟩
      rw [← hBe] at hbk6 ⊢
      clear hBe
      have e0 := hbk6.cell (j := 0) rfl
      have e1 := hbk6.cell (j := 1) rfl
      have e2 := hbk6.cell (j := 2) rfl
      have hb7 : Below w6.heap.size w6 (w6.alloc (.cells #[.slice A0 kl C0, .bool false, .slice A2 vl C2] 59)) := (Below.refl _ _).alloc (Nat.le_refl _) _
      have hbk7 : Blk (w6.alloc (.cells #[.slice A0 kl C0, .bool false, .slice A2 vl C2] 59)) w6.heap.size 59 #[.slice A0 kl C0, .bool false, .slice A2 vl C2] := Blk.new w6 59 _
      have hB7 : Below w.heap.size w (w6.alloc (.cells #[.slice A0 kl C0, .bool false, .slice A2 vl C2] 59)) := hB6.trans (hb7.mono hB6.size)
      have HD7 := HDO.out _ w6.heap.size 1 _ (hM6.after hb7) (hFM wr) hB7 hbk7
      have kq7 := kq6.below hb7 kq6.lt
      have s7 := hb7.size
      clear hM6 kq6 hbk7 HDO hb7
      go_wp2_with fail
      refine HD7.mono ?_
      rintro e w8 ⟨rfl, hM8, hc8⟩
      have hB8 : Below w.heap.size w w8 := hB7.trans ((hc8.below (B := w.heap.size) (fun x hx => by cases hx; exact hMW) hB7.size))
      have kq8 := kq7.chg hc8 (fun e => hMq e.symm)
      have k8 := HST.out w8 hB8
      have s8 := hc8.size
      have hMM : MapP w8 (Fr (fun _ => False) w2 w8) M (m.take (I + 1)) := hM8.mono (fun x hx => by
        rcases hx with (hx | hx) | hx
        · exact hx.elim
        · exact .inr ⟨hx.1, by omega⟩
        · exact .inr ⟨by omega, hx.2⟩)
      clear HD7 hM8 hc8 hB7 kq7 k1 hl1 hl2 HST
      go_wp2_with fail
      go_roundw
      case rel => exact ⟨I + 1, A3, rl, C3, hlt, by rw [HNX.out], kq8, HRL, by omega, hS2, hMM, hB8, by omega⟩
      case measure =>
        rw [kq8.cell (j := 0) rfl, cq]
        show rl < kl + 2 + (vl + 2 + rl)
        omega
    · obtain rfl : I = m.length := by omega
      have hn : n = 0 := by rw [HN.out, List.drop_length]; rfl
      subst hn
      rw [List.take_length] at hM
      have HF : Hid (RepOut w m (.returned (.tuple #[.map (some M), .bool true])) wr) := ⟨M, _, rfl, by have := HQ.out; omega, hM.lt, (fun h => by rcases h with h | h; exact h; have := HQ.out; omega), (fun x hx => by rcases hx with h | h; exact h.elim; have := HQ.out; omega), hM, hB⟩
      clear hM hB
      go_wp2_with fail
      (try simp only [Exit.inBlock, Exit.then])
      refine bodyPost_ret (results2 rfl _ _ _) rfl ?_
      exact HF.out
end Go.Proofs.YtbegphfideopoaaGreat
