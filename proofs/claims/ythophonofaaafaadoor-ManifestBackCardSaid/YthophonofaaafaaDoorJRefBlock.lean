/-
  What is proved here: the document's block answers what becomes of eight words by a block of 64 bytes.
  Conditions: the slice holds 64 bytes.
-/
import Derived.Test.YthophonofaaafaaDoorProg
import Derived.Test.YthophonofaaafaaDoorJShaTake
namespace Go.Proofs.YthophonofaaafaaDoor
open Go.RowKit
attribute [local go_sem] bits_or32 bits_and32 bits_xor32 add32

/-- The number of the first j bytes of a block's word t. -/
def partW (blk : List UInt8) (t j : Nat) : BitVec 32 := BitVec.ofNat 32 (beNat ((blk.drop (4 * t)).take j))

theorem quiet_plus {P : Program} {f : Nat} {args : Array Value} {W : World} {nq x : Nat} {v : Value} (h : Calls P f args (W.drewN (nq + x)) fun e w' => e = .returned v ∧ w' = W.drewN (nq + x)) :
    Calls P f args (W.drewN (nq + x)) fun e w'' => e = .returned v ∧ ∃ n, w'' = W.drewN (nq + n) := h.mono fun _ _ hh => ⟨hh.1, x, hh.2⟩
theorem partW_zero (blk : List UInt8) (t : Nat) : partW blk t 0 = 0#32 := by simp [partW, beNat]
theorem partW_four (blk : List UInt8) (t : Nat) (h : t < 16) : partW blk t 4 = schW blk t := by rw [schW_first blk t h]; rfl
theorem partW_succ (blk : List UInt8) (h64 : blk.length = 64) (t j : Nat) (ht : t < 16) (hj : j < 4) :
    (n32 (partW blk t j) * 256 + n8 (blk.getD (4 * t + j) 0)) % 4294967296 = n32 (partW blk t (j + 1)) := by
  have hl : j < (blk.drop (4 * t)).length := by simp; omega
  have hb := beNat_take_succ (blk.drop (4 * t)) j hl
  have hx : (blk.drop (4 * t))[j].toNat = (blk.getD (4 * t + j) 0).toNat := by
    simp [List.getD, show 4 * t + j < blk.length by omega]
  unfold partW n32 n8
  rw [hb, hx]
  simp only [BitVec.toNat_ofNat]
  omega
theorem set_same (A : Array Value) (k : Nat) (v : Value) (h : A[k]? = some v) : A.setIfInBounds k v = A := by
  apply Array.ext
  · simp
  · intro i h1 h2
    rw [Array.getElem_setIfInBounds (by simpa using h1)]
    by_cases he : k = i
    · subst he; rw [if_pos rfl]
      exact (Array.getElem?_eq_some_iff.1 h).2.symm
    · rw [if_neg he]
theorem set_set (A : Array Value) (k : Nat) (u v : Value) : (A.setIfInBounds k u).setIfInBounds k v = A.setIfInBounds k v := by simp

set_option maxRecDepth 100000 in
set_option maxHeartbeats 4000000 in
theorem block_aux (s : St) (blk : List UInt8) (h64 : blk.length = 64) (bb off cap : Nat) (w : World) (hr : Row w bb off blk) (hbb : bb < w.heap.size) :
    Calls Tryd.prog 48 #[.agg (s.list.map v32).toArray, .slice (some ⟨bb, off, none⟩) 64 cap] w fun e w' => e = .returned (.agg ((compress s blk).list.map v32).toArray) ∧ Below w.heap.size w w' := by
  go_enter Tryd.func48, Tryd.ntmps48
  go_wp2
  go_loopw [6] (fun i wr => ∃ k : Nat, k ≤ 16 ∧ i = .int .i64 k ∧ Blk wr w.heap.size 68 (s.list.map v32).toArray ∧ Blk wr (w.heap.size + 1) 68 (upTo 8 0 (fun _ => .int .u32 0) (.int .u32 0)) ∧ Blk wr (w.heap.size + 1 + 1) 95 (schC blk k) ∧ Below w.heap.size w wr) (fun i _ => 16 - (intOf i).toNat)
  case atStart => exact ⟨0, by omega, rfl, ((Blk.new _ _ _).alloc _).alloc _, ((Blk.newAt _ _ _ _ (by simp)).alloc _).of_eq rfl, (Blk.newAt _ _ _ _ (by simp)).of_eq rfl, (((Below.refl _ _).alloc (Nat.le_refl _) _).alloc (by simp) _).alloc (by simp; omega) _⟩
  case round =>
    obtain ⟨k, hk, rfl, hb0, hb1, hb2, hbl⟩ := hrel
    by_cases hlt : k < 16
    · go_wp2
      obtain ⟨wo, rfl⟩ : ∃ wo : World, wo = wr := ⟨_, rfl⟩
      go_loopw [7] (fun i wr => ∃ j : Nat, j ≤ 4 ∧ i = .int .i64 j ∧ Blk wr w.heap.size 68 (s.list.map v32).toArray ∧ Blk wr (w.heap.size + 1) 68 (upTo 8 0 (fun _ => .int .u32 0) (.int .u32 0)) ∧ Blk wr (w.heap.size + 1 + 1) 95 ((schC blk k).setIfInBounds k (v32 (partW blk k j))) ∧ Below w.heap.size w wr) (fun i _ => 4 - (intOf i).toNat)
      case atStart =>
        exact ⟨0, by omega, rfl, hb0, hb1, hb2.of_eq (by rw [partW_zero]; exact (set_same _ _ _ (by rw [upTo_at _ _ _ _ _ (by omega), if_neg (Nat.lt_irrefl k)]; rfl)).symm), hbl⟩
      case round =>
        clear hb0 hb1 hb2 hbl
        obtain ⟨j, hj, rfl, hb0, hb1, hb2, hbl⟩ := hrel
        by_cases hjl : j < 4
        · as_aux_lemma =>
          have hcb : wr.cell? ⟨bb, off + (4 * k + j), none⟩ = some (v8 (blk.getD (4 * k + j) 0)) := by
            rw [(hr.below hbl hbb) (4 * k + j) (by omega)]; simp [List.getD, show 4 * k + j < blk.length by omega]
          have hcw : wr.cell? ⟨w.heap.size + 1 + 1, k, none⟩ = some (v32 (partW blk k j)) := hb2.cell (by rw [Array.getElem?_setIfInBounds_self_of_lt (by rw [upTo_size]; omega)])
          have hfr := hb2.frozen k
          have i16 : (k : Int) < 16 := by omega
          have i4 : (j : Int) < 4 := by omega
          have hne : bb ≠ w.heap.size + 1 + 1 := by omega
          have hp := partW_succ blk h64 k j hlt hjl
          have R : ∀ v, v = v32 (partW blk k (j + 1)) → Blk (wr.setCell ⟨w.heap.size + 1 + 1, k, none⟩ v).drew (w.heap.size + 1 + 1) 95 ((schC blk k).setIfInBounds k (v32 (partW blk k (j + 1)))) := fun v hv => by
            subst hv; exact ((hb2.set k _).of_eq (set_set _ _ _ _)).drew
          obtain ⟨q', hq'⟩ : ∃ q', q' = partW blk k (j + 1) := ⟨_, rfl⟩
          rw [← hq'] at hp
          replace R := R (v32 q') (by rw [hq'])
          clear hq'
          generalize blk.getD (4 * k + j) 0 = x at hcb hp
          generalize partW blk k j = q at hcw hp
          go_wp2_with fail
          go_region
          go_wp2
          go_roundw
          case rel => exact ⟨j + 1, by omega, by go_num, (hb0.setOther _ _ (by simp; omega)).drew, (hb1.setOther _ _ (by simp)).drew, R, (hbl.setCell (by simp; omega) _).drew⟩
          case measure => simp [intOf]; omega
        · as_aux_lemma =>
          obtain rfl : j = 4 := by omega
          have R : Blk wr (w.heap.size + 1 + 1) 95 (schC blk (k + 1)) := hb2.of_eq (by rw [partW_four blk k hlt]; exact upTo_set 64 k (fun j => v32 (schW blk j)) (.int .u32 0))
          go_wp2
          go_roundw
          case rel => exact ⟨k + 1, by omega, by go_num, hb0, hb1, R, hbl⟩
          case measure => simp [intOf]; omega
    · have HK : Hid (k = 16) := by show k = 16; omega
      replace hb2 : Blk wr (w.heap.size + 1 + 1) 95 (schC blk 16) := hb2.of_eq (by rw [HK.out])
      go_wp2
      obtain ⟨wo, rfl⟩ : ∃ wo : World, wo = wr := ⟨_, rfl⟩
      go_loopw [8] (fun i wr => ∃ k : Nat, 16 ≤ k ∧ k ≤ 64 ∧ i = .int .i64 k ∧ Blk wr w.heap.size 68 (s.list.map v32).toArray ∧ Blk wr (w.heap.size + 1) 68 (upTo 8 0 (fun _ => .int .u32 0) (.int .u32 0)) ∧ Blk wr (w.heap.size + 1 + 1) 95 (schC blk k) ∧ Below w.heap.size w wr) (fun i _ => 64 - (intOf i).toNat)
      case atStart => exact ⟨16, by omega, by omega, rfl, hb0, hb1, hb2, hbl⟩
      case round =>
        clear hb0 hb1 hb2 hbl hlt hk HK
        obtain ⟨k, hk16, hk, rfl, hb0, hb1, hb2, hbl⟩ := hrel
        by_cases hlt : k < 64
        · as_aux_lemma =>
          have hc2 := hb2.cell (j := k) (v := .int .u32 0) (by rw [upTo_at _ _ _ _ _ hlt, if_neg (Nat.lt_irrefl k)])
          have hfr := hb2.frozen k
          have hset := upTo_set 64 k (fun j => v32 (schW blk j)) (.int .u32 0)
          have R : ∀ v, v = v32 (schW blk k) → Blk (wr.setCell ⟨w.heap.size + 1 + 1, k, none⟩ v).drew (w.heap.size + 1 + 1) 95 (schC blk (k + 1)) := fun v hv => by subst hv; exact ((hb2.set k _).of_eq hset).drew
          clear hset
          have cell : ∀ d, 0 < d → d ≤ 16 → wr.cell? ⟨w.heap.size + 1 + 1, k - d, none⟩ = some (v32 (schW blk (k - d))) := fun d h0 hd =>
            hb2.cell (by rw [upTo_at _ _ _ _ _ (by omega), if_pos (by omega)])
          have c15 := cell 15 (by omega) (by omega)
          have c2 := cell 2 (by omega) (by omega)
          have c7 := cell 7 (by omega) (by omega)
          have c16 := cell 16 (by omega) (by omega)
          have HN : Hid (schW blk k = sg1 (schW blk (k - 2)) + schW blk (k - 7) + sg0 (schW blk (k - 15)) + schW blk (k - 16)) := schW_next blk k (by omega) hlt
          have i15 : (15 : Int) ≤ (k : Int) := by omega
          have i16 : (16 : Int) ≤ (k : Int) := by omega
          have i64 : (k : Int) < 64 := by omega
          clear cell
          generalize schW blk (k - 15) = x15 at c15 HN
          generalize schW blk (k - 2) = x2 at c2 HN
          generalize schW blk (k - 7) = x7 at c7 HN
          generalize schW blk (k - 16) = x16 at c16 HN
          generalize schW blk k = xk at R HN
          have s3 := shr3 x15
          have s10 := shr10 x2
          go_wp2_with (go_at_call 66; refine (rotr_any _ _ _ (by omega) (by omega)).mono ?_; rintro e w' ⟨rfl, rfl⟩)
          go_region
          go_wp2
          go_roundw
          case rel => exact ⟨k + 1, by omega, by omega, by go_num, (hb0.setOther _ _ (by simp; omega)).drew, (hb1.setOther _ _ (by simp)).drew, R _ (congrArg v32 HN.out.symm), (hbl.setCell (by simp; omega) _).drew⟩
          case measure => simp [intOf]; omega
        · have HK : Hid (k = 64) := by show k = 64; omega
          replace hb2 : Blk wr (w.heap.size + 1 + 1) 95 ((sched blk 64).map v32).toArray := hb2.of_eq (by rw [HK.out]; exact schC_full blk)
          have hws := sched_len blk 64
          have HC : Hid (compress s blk = s.add (rounds (sched blk 64) s 64)) := rfl
          generalize sched blk 64 = ws at hb2 hws HC
          have hi1 : (Tryd.prog.info? 68).map (·.size) = some (s.list.map v32).toArray.size := Tryd.info68s
          go_wp2_with (first | (refine wpList_load_row rfl 68 _ rfl w.heap.size rfl 68 _ (0, 0) _ hb0 Tryd.underlying68 rfl hi1 ?_) | (refine store_blk rfl 68 _ _ rfl rfl wr.heap.size (s.list.map v32).toArray rfl rfl 68 _ (by exact Blk.new _ _ _) hi1 (by rfl) (one32 s.list) ?_; intro w2 hbl2 hgr2 hsz2) | (go_at_call 67; refine (k_any _).mono ?_; rintro e w3 ⟨rfl, hb3⟩) | (refine store_blk rfl 95 _ _ rfl rfl _ (kWords.map v32).toArray rfl rfl 95 _ (by exact Blk.new _ _ _) Tryd.info95s (by rfl) (one32 kWords) ?_; intro w4 hbk hgr4 hsz4))
          have hl0 := hb0.lt
          have hl2 := hb2.lt
          have hs3 := hb3.size
          simp only [World.size_alloc] at hsz2 hsz4
          have carry : ∀ {g t arr}, Blk wr g t arr → Blk w4 g t arr := fun {g t arr} h =>
            ((((h.alloc _).grown hgr2 (by have := h.lt; simp; omega)).below hb3 (by have := h.lt; omega)).alloc _).grown hgr4 (by have := h.lt; simp; omega)
          have hB0 := carry hb0
          have hB1 := carry hb1
          have hB2 := carry hb2
          have hBl := ((hbl2.below hb3 (by omega)).alloc _).grown hgr4 (by simp; omega)
          have hBel : Below w.heap.size w w4 := by
            refine below_grown (((below_grown (hbl.alloc (by omega) _) hgr2 (by simp; omega) (fun k h => by cases h; omega)).trans (hb3.mono (by omega))).alloc (by omega) _) hgr4 (by simp; omega) (fun k h => by cases h; omega)
          have hlk : wr.heap.size < w3.heap.size := by omega
          clear carry hgr2 hgr4 hb3 hbl2 hb0 hb1 hb2 hbl hs3 hsz4 hsz2 hl0 hlt hk hk16 HK
          generalize wr.heap.size = gl at *
          generalize w3.heap.size = gk at *
          obtain ⟨wo2, rfl⟩ : ∃ wo2 : World, wo2 = wr := ⟨_, rfl⟩
          go_loopw [15] (fun i wr => ∃ k : Nat, k ≤ 64 ∧ i = .int .i64 k ∧ Blk wr gl 68 ((rounds ws s k).list.map v32).toArray ∧ Blk wr gk 95 (kWords.map v32).toArray ∧ Blk wr w.heap.size 68 (s.list.map v32).toArray ∧ Blk wr (w.heap.size + 1) 68 (upTo 8 0 (fun _ => .int .u32 0) (.int .u32 0)) ∧ Blk wr (w.heap.size + 1 + 1) 95 (ws.map v32).toArray ∧ Below w.heap.size w wr) (fun i _ => 64 - (intOf i).toNat)
          case atStart => exact ⟨0, by omega, rfl, hBl, hbk, hB0, hB1, hB2, hBel⟩
          case round =>
            clear hBl hbk hB0 hB1 hB2 hBel
            obtain ⟨k, hk, rfl, hbl, hbk, hb0, hb1, hb2, hbel⟩ := hrel
            by_cases hlt : k < 64
            · have cw := hb2.cell (at32 ws k (by omega))
              have ck := hbk.cell (j := k) (v := v32 (kAt k)) (by have := at32 kWords k hlt; exact this)
              have HR : Hid (rounds ws s (k + 1) = (rounds ws s k).round (kAt k) (ws.getD k 0#32)) := rfl
              have i64 : (k : Int) < 64 := by omega
              have c0 := hbl.cell (j := 0) (v := v32 (rounds ws s k).a) rfl
              have c1 := hbl.cell (j := 1) (v := v32 (rounds ws s k).b) rfl
              have c2 := hbl.cell (j := 2) (v := v32 (rounds ws s k).c) rfl
              have c3 := hbl.cell (j := 3) (v := v32 (rounds ws s k).d) rfl
              have c4 := hbl.cell (j := 4) (v := v32 (rounds ws s k).e) rfl
              have c5 := hbl.cell (j := 5) (v := v32 (rounds ws s k).f) rfl
              have c6 := hbl.cell (j := 6) (v := v32 (rounds ws s k).g) rfl
              have c7 := hbl.cell (j := 7) (v := v32 (rounds ws s k).h) rfl
              generalize ws.getD k 0#32 = wk at cw HR
              generalize kAt k = kk at ck HR
              generalize rounds ws s k = r at hbl HR c0 c1 c2 c3 c4 c5 c6 c7
              have hnot := not32 r.e
              go_wp2_with fail
              go_quiet ((go_at_call 66; refine Calls.quiet_of_same (rotr_any _ _ _ ?_ ?_) <;> decide))
              go_wp2_with fail
              go_quiet ((go_at_call 66; refine quiet_plus (rotr_any _ _ _ ?_ ?_) <;> decide))
              go_wp2_with (refine store_blk rfl 68 _ _ rfl rfl gl _ rfl rfl 68 _ (by exact Blk.drewN hbl _) (by exact Tryd.info68s) (by rfl) (by simp [Value.oneCell']) ?_; intro w5 hbl5 hgr5 hsz5)
              go_roundw
              case rel =>
                refine ⟨k + 1, by omega, by go_num, hbl5.of_eq (by rw [HR.out]; rfl), (hbk.drewN _).grown hgr5 (by simp; omega), (hb0.drewN _).grown hgr5 (by simp; omega), (hb1.drewN _).grown hgr5 (by simp; omega), (hb2.drewN _).grown hgr5 (by simp; omega), ?_⟩
                exact below_grown (Below.drewN hbel _) hgr5 (by exact Nat.le_of_lt hb0.lt) (fun q h => by cases h; omega)
              case measure => simp [intOf]; omega
            · have HK : Hid (k = 64) := by show k = 64; omega
              replace hbl : Blk wr gl 68 ((rounds ws s 64).list.map v32).toArray := hbl.of_eq (by rw [HK.out])
              generalize rounds ws s 64 = r at hbl HC
              clear HK hb2 hbk
              go_wp2
              obtain ⟨wo3, rfl⟩ : ∃ wo3 : World, wo3 = wr := ⟨_, rfl⟩
              go_loopw [20] (fun i wr => ∃ k : Nat, k ≤ 8 ∧ i = .int .i64 k ∧ Blk wr w.heap.size 68 (mixTo 8 k (fun j => v32 ((s.add r).list.getD j 0#32)) (fun j => v32 (s.list.getD j 0#32))) ∧ Blk wr (w.heap.size + 1) 68 (upTo 8 0 (fun _ => .int .u32 0) (.int .u32 0)) ∧ Blk wr gl 68 (r.list.map v32).toArray ∧ Below w.heap.size w wr) (fun i _ => 8 - (intOf i).toNat)
              case atStart => exact ⟨0, by omega, rfl, hb0.of_eq rfl, hb1, hbl, hbel⟩
              case round =>
                clear hb0 hb1 hbl hlt hk hbel
                obtain ⟨k, hk, rfl, hb0, hb1, hbl, hbel⟩ := hrel
                by_cases hlt : k < 8
                · as_aux_lemma =>
                  have hc := hb0.cell (j := k) (v := v32 (s.list.getD k 0#32)) (by rw [mixTo_at _ _ _ _ _ hlt, if_neg (Nat.lt_irrefl k)])
                  have hcl := hbl.cell (at32 r.list k hlt)
                  have hfr := hb0.frozen k
                  have R := ((hb0.set k (v32 ((s.add r).list.getD k 0#32))).of_eq (mixTo_set 8 k (fun j => v32 ((s.add r).list.getD j 0#32)) (fun j => v32 (s.list.getD j 0#32)))).drew
                  rw [← add_getD s r k hlt] at R
                  have i8 : (k : Int) < 8 := by omega
                  generalize s.list.getD k 0#32 = x at hc R
                  generalize r.list.getD k 0#32 = y at hcl R
                  go_wp2_with fail
                  go_region
                  go_wp2
                  go_roundw
                  case rel => exact ⟨k + 1, by omega, by go_num, R, (hb1.setOther _ _ (by simp)).drew, (hbl.setOther _ _ (by simp; omega)).drew, (hbel.setCell (by simp) _).drew⟩
                  case measure => simp [intOf]; omega
                · as_aux_lemma =>
                  have HK : Hid (k = 8) := by show k = 8; omega
                  have hb2 : Blk wr w.heap.size 68 ((s.add r).list.map v32).toArray := hb0.of_eq (by rw [HK.out]; rfl)
                  have hst : (upTo 8 0 (fun _ => Value.int .u32 0) (.int .u32 0)).size = ((s.add r).list.map v32).toArray.size := rfl
                  have hinfo : (Tryd.prog.info? 68).map (·.size) = some ((s.add r).list.map v32).toArray.size := Tryd.info68s
                  have hone := one32 (s.add r).list
                  have HRES : Hid (((s.add r).list.map v32).toArray = ((compress s blk).list.map v32).toArray) := by show _ = _; rw [HC.out]
                  clear hb0 hbl
                  generalize ((s.add r).list.map v32).toArray = res at hb2 hst hinfo hone HRES
                  go_wp2_with (first | (refine wpList_load_row rfl 68 _ rfl w.heap.size rfl 68 _ (0, 0) _ hb2 Tryd.underlying68 rfl hinfo ?_) | (refine wpList_store_row rfl 68 _ _ rfl (w.heap.size + 1) _ rfl rfl 68 _ hb1 hinfo hst hone ?_))
                  refine bodyPost_ret (v := .agg res) (results_cell_row Tryd.results48 _ _ (w.heap.size + 1) 68 res (0, 0) _ rfl (hb1.setRow _) Tryd.underlying68 rfl hinfo) rfl ⟨ret_agg HRES.out, ?_⟩
                  exact Below.setRow hbel _ _ (by omega)
end Go.Proofs.YthophonofaaafaaDoor
