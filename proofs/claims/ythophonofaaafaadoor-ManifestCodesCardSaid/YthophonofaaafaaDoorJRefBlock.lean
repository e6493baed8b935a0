/-
  What is proved here: the document's block answers what becomes of eight words by a block of 64 bytes. the document's Sum answers the hash of bytes. the document's Add is the plain function crc of the lowest 24 bits, its Sum that of B704CE.
  Conditions: the slice holds 64 bytes. at most 1000000 bytes. at most a thousand million bytes.
-/
import Derived.Test.YthophonofaaafaaDoorProg
import Derived.Test.YthophonofaaafaaDoorJShaSpread
import Derived.Test.YthophonofaaafaaDoorJShaEight
import Derived.Test.YthophonofaaafaaDoorJCrcPure
namespace Go.Proofs.YthophonofaaafaaDoor
open Go.RowKit
attribute [local go_sem] bits_or32 bits_and32 bits_xor32 add32

/-- The number of the first j bytes of a block's word t. -/
def partW (blk : List UInt8) (t j : Nat) : BitVec 32 := BitVec.ofNat 32 (beNat ((blk.drop (4 * t)).take j))

theorem quiet_plus {P : Program} {f : Nat} {args : Array Value} {W : World} {nq x : Nat} {v : Value} (h : Calls P f args (W.drewN (nq + x)) fun e w' => e = .returned v ∧ w' = W.drewN (nq + x)) :
    Calls P f args (W.drewN (nq + x)) fun e w'' => e = .returned v ∧ ∃ n, w'' = W.drewN (nq + n) := h.mono fun _ _ hh => ⟨hh.1, x, hh.2⟩
theorem partW_zero (blk : List UInt8) (t : Nat) : partW blk t 0 = 0#32 := by simp [partW, beNat]
theorem partW_four (blk : List UInt8) (t : Nat) (h : t < 16) : partW blk t 4 = schW blk t := by rw [schW_first blk t h]; rfl
theorem partW_succ (blk : List UInt8) (h64 : blk.length = 64) (t j : Nat) (ht : t < 16) (hj : j < 4) :
    (n32 (partW blk t j) * 256 + n8 (blk.getD (4 * t + j) 0)) % 4294967296 = n32 (partW blk t (j + 1)) := by
  have hl : j < (blk.drop (4 * t)).length := by simp; omega
  have hb := beNat_take_succ (blk.drop (4 * t)) j hl
  have hx : (blk.drop (4 * t))[j].toNat = (blk.getD (4 * t + j) 0).toNat := by
    simp [List.getD, show 4 * t + j < blk.length by omega]
  unfold partW n32 n8
  rw [hb, hx]
  simp only [BitVec.toNat_ofNat]
  omega
theorem set_same (A : Array Value) (k : Nat) (v : Value) (h : A[k]? = some v) : A.setIfInBounds k v = A := by
  apply Array.ext
  · simp
  · intro i h1 h2
    rw [Array.getElem_setIfInBounds (by simpa using h1)]
    by_cases he : k = i
    · subst he; rw [if_pos rfl]
      exact (Array.getElem?_eq_some_iff.1 h).2.symm
    · rw [if_neg he]
theorem set_set (A : Array Value) (k : Nat) (u v : Value) : (A.setIfInBounds k u).setIfInBounds k v = A.setIfInBounds k v := by simp

set_option maxRecDepth 100000 in
set_option maxHeartbeats 4000000 in
theorem block_aux (s : St) (blk : List UInt8) (h64 : blk.length = 64) (bb off cap : Nat) (w : World) (hr : Row w bb off blk) (hbb : bb < w.heap.size) :
    Calls Tryd.prog 48 #[.agg (s.list.map v32).toArray, .slice (some ⟨bb, off, none⟩) 64 cap] w fun e w' => e = .returned (.agg ((compress s blk).list.map v32).toArray) ∧ Below w.heap.size w w' := by
  go_enter Tryd.func48, Tryd.ntmps48
  go_wp2
  go_loopw [6] (fun i wr => ∃ k : Nat, k ≤ 16 ∧ i = .int .i64 k ∧ Blk wr w.heap.size 68 (s.list.map v32).toArray ∧ Blk wr (w.heap.size + 1) 68 (upTo 8 0 (fun _ => .int .u32 0) (.int .u32 0)) ∧ Blk wr (w.heap.size + 1 + 1) 95 (schC blk k) ∧ Below w.heap.size w wr) (fun i _ => 16 - (intOf i).toNat)
  case atStart => exact ⟨0, by omega, rfl, ((Blk.new _ _ _).alloc _).alloc _, ((Blk.newAt _ _ _ _ (by simp)).alloc _).of_eq rfl, (Blk.newAt _ _ _ _ (by simp)).of_eq rfl, (((Below.refl _ _).alloc (Nat.le_refl _) _).alloc (by simp) _).alloc (by simp; omega) _⟩
  case round =>
    obtain ⟨k, hk, rfl, hb0, hb1, hb2, hbl⟩ := hrel
    by_cases hlt : k < 16
    · go_wp2
      obtain ⟨wo, rfl⟩ : ∃ wo : World, wo = wr := ⟨_, rfl⟩
      go_loopw [7] (fun i wr => ∃ j : Nat, j ≤ 4 ∧ i = .int .i64 j ∧ Blk wr w.heap.size 68 (s.list.map v32).toArray ∧ Blk wr (w.heap.size + 1) 68 (upTo 8 0 (fun _ => .int .u32 0) (.int .u32 0)) ∧ Blk wr (w.heap.size + 1 + 1) 95 ((schC blk k).setIfInBounds k (v32 (partW blk k j))) ∧ Below w.heap.size w wr) (fun i _ => 4 - (intOf i).toNat)
      case atStart =>
        exact ⟨0, by omega, rfl, hb0, hb1, hb2.of_eq (by rw [partW_zero]; exact (set_same _ _ _ (by rw [upTo_at _ _ _ _ _ (by omega), if_neg (Nat.lt_irrefl k)]; rfl)).symm), hbl⟩
      case round =>
        clear hb0 hb1 hb2 hbl
        obtain ⟨j, hj, rfl, hb0, hb1, hb2, hbl⟩ := hrel
        by_cases hjl : j < 4
        · as_aux_lemma =>
          have hcb : wr.cell? ⟨bb, off + (4 * k + j), none⟩ = some (v8 (blk.getD (4 * k + j) 0)) := by
            rw [(hr.below hbl hbb) (4 * k + j) (by omega)]; simp [List.getD, show 4 * k + j < blk.length by omega]
          have hcw : wr.cell? ⟨w.heap.size + 1 + 1, k, none⟩ = some (v32 (partW blk k j)) := hb2.cell (by rw [Array.getElem?_setIfInBounds_self_of_lt (by rw [upTo_size]; omega)])
          have hfr := hb2.frozen k
          have i16 : (k : Int) < 16 := by omega
          have i4 : (j : Int) < 4 := by omega
          have hne : bb ≠ w.heap.size + 1 + 1 := by omega
          have hp := partW_succ blk h64 k j hlt hjl
          have R : ∀ v, v = v32 (partW blk k (j + 1)) → Blk (wr.setCell ⟨w.heap.size + 1 + 1, k, none⟩ v).drew (w.heap.size + 1 + 1) 95 ((schC blk k).setIfInBounds k (v32 (partW blk k (j + 1)))) := fun v hv => by
            subst hv; exact ((hb2.set k _).of_eq (set_set _ _ _ _)).drew
          obtain ⟨q', hq'⟩ : ∃ q', q' = partW blk k (j + 1) := ⟨_, rfl⟩
          rw [← hq'] at hp
          replace R := R (v32 q') (by rw [hq'])
          clear hq'
          generalize blk.getD (4 * k + j) 0 = x at hcb hp
          generalize partW blk k j = q at hcw hp
          go_wp2_with fail
          go_region
          go_wp2
          go_roundw
          case rel => exact ⟨j + 1, by omega, by go_num, (hb0.setOther _ _ (by simp; omega)).drew, (hb1.setOther _ _ (by simp)).drew, R, (hbl.setCell (by simp; omega) _).drew⟩
          case measure => simp [intOf]; omega
        · as_aux_lemma =>
          obtain rfl : j = 4 := by omega
          have R : Blk wr (w.heap.size + 1 + 1) 95 (schC blk (k + 1)) := hb2.of_eq (by rw [partW_four blk k hlt]; exact upTo_set 64 k (fun j => v32 (schW blk j)) (.int .u32 0))
          go_wp2
          go_roundw
          case rel => exact ⟨k + 1, by omega, by go_num, hb0, hb1, R, hbl⟩
          case measure => simp [intOf]; omega
    · have HK : Hid (k = 16) := by show k = 16; omega
      replace hb2 : Blk wr (w.heap.size + 1 + 1) 95 (schC blk 16) := hb2.of_eq (by rw [HK.out])
      go_wp2
      obtain ⟨wo, rfl⟩ : ∃ wo : World, wo = wr := ⟨_, rfl⟩
      go_loopw [8] (fun i wr => ∃ k : Nat, 16 ≤ k ∧ k ≤ 64 ∧ i = .int .i64 k ∧ Blk wr w.heap.size 68 (s.list.map v32).toArray ∧ Blk wr (w.heap.size + 1) 68 (upTo 8 0 (fun _ => .int .u32 0) (.int .u32 0)) ∧ Blk wr (w.heap.size + 1 + 1) 95 (schC blk k) ∧ Below w.heap.size w wr) (fun i _ => 64 - (intOf i).toNat)
      case atStart => exact ⟨16, by omega, by omega, rfl, hb0, hb1, hb2, hbl⟩
      case round =>
        clear hb0 hb1 hb2 hbl hlt hk HK
        obtain ⟨k, hk16, hk, rfl, hb0, hb1, hb2, hbl⟩ := hrel
        by_cases hlt : k < 64
        · as_aux_lemma =>
          have hc2 := hb2.cell (j := k) (v := .int .u32 0) (by rw [upTo_at _ _ _ _ _ hlt, if_neg (Nat.lt_irrefl k)])
          have hfr := hb2.frozen k
          have hset := upTo_set 64 k (fun j => v32 (schW blk j)) (.int .u32 0)
          have R : ∀ v, v = v32 (schW blk k) → Blk (wr.setCell ⟨w.heap.size + 1 + 1, k, none⟩ v).drew (w.heap.size + 1 + 1) 95 (schC blk (k + 1)) := fun v hv => by subst hv; exact ((hb2.set k _).of_eq hset).drew
          clear hset
          have cell : ∀ d, 0 < d → d ≤ 16 → wr.cell? ⟨w.heap.size + 1 + 1, k - d, none⟩ = some (v32 (schW blk (k - d))) := fun d h0 hd =>
            hb2.cell (by rw [upTo_at _ _ _ _ _ (by omega), if_pos (by omega)])
          have c15 := cell 15 (by omega) (by omega)
          have c2 := cell 2 (by omega) (by omega)
          have c7 := cell 7 (by omega) (by omega)
          have c16 := cell 16 (by omega) (by omega)
          have HN : Hid (schW blk k = sg1 (schW blk (k - 2)) + schW blk (k - 7) + sg0 (schW blk (k - 15)) + schW blk (k - 16)) := schW_next blk k (by omega) hlt
          have i15 : (15 : Int) ≤ (k : Int) := by omega
          have i16 : (16 : Int) ≤ (k : Int) := by omega
          have i64 : (k : Int) < 64 := by omega
          clear cell
          generalize schW blk (k - 15) = x15 at c15 HN
          generalize schW blk (k - 2) = x2 at c2 HN
          generalize schW blk (k - 7) = x7 at c7 HN
          generalize schW blk (k - 16) = x16 at c16 HN
          generalize schW blk k = xk at R HN
          have s3 := shr3 x15
          have s10 := shr10 x2
          go_wp2_with (go_at_call 66; refine (rotr_any _ _ _ (by omega) (by omega)).mono ?_; rintro e w' ⟨rfl, rfl⟩)
          go_region
          go_wp2
          go_roundw
          case rel => exact ⟨k + 1, by omega, by omega, by go_num, (hb0.setOther _ _ (by simp; omega)).drew, (hb1.setOther _ _ (by simp)).drew, R _ (congrArg v32 HN.out.symm), (hbl.setCell (by simp; omega) _).drew⟩
          case measure => simp [intOf]; omega
        · have HK : Hid (k = 64) := by show k = 64; omega
          replace hb2 : Blk wr (w.heap.size + 1 + 1) 95 ((sched blk 64).map v32).toArray := hb2.of_eq (by rw [HK.out]; exact schC_full blk)
          have hws := sched_len blk 64
          have HC : Hid (compress s blk = s.add (rounds (sched blk 64) s 64)) := rfl
          generalize sched blk 64 = ws at hb2 hws HC
          have hi1 : (Tryd.prog.info? 68).map (·.size) = some (s.list.map v32).toArray.size := Tryd.info68s
          go_wp2_with (first | (refine wpList_load_row rfl 68 _ rfl w.heap.size rfl 68 _ (0, 0) _ hb0 Tryd.underlying68 rfl hi1 ?_) | (refine store_blk rfl 68 _ _ rfl rfl wr.heap.size (s.list.map v32).toArray rfl rfl 68 _ (by exact Blk.new _ _ _) hi1 (by rfl) (one32 s.list) ?_; intro w2 hbl2 hgr2 hsz2) | (go_at_call 67; refine (k_any _).mono ?_; rintro e w3 ⟨rfl, hb3⟩) | (refine store_blk rfl 95 _ _ rfl rfl _ (kWords.map v32).toArray rfl rfl 95 _ (by exact Blk.new _ _ _) Tryd.info95s (by rfl) (one32 kWords) ?_; intro w4 hbk hgr4 hsz4))
          have hl0 := hb0.lt
          have hl2 := hb2.lt
          have hs3 := hb3.size
          simp only [World.size_alloc] at hsz2 hsz4
          have carry : ∀ {g t arr}, Blk wr g t arr → Blk w4 g t arr := fun {g t arr} h =>
            ((((h.alloc _).grown hgr2 (by have := h.lt; simp; omega)).below hb3 (by have := h.lt; omega)).alloc _).grown hgr4 (by have := h.lt; simp; omega)
          have hB0 := carry hb0
          have hB1 := carry hb1
          have hB2 := carry hb2
          have hBl := ((hbl2.below hb3 (by omega)).alloc _).grown hgr4 (by simp; omega)
          have hBel : Below w.heap.size w w4 := by
            refine below_grown (((below_grown (hbl.alloc (by omega) _) hgr2 (by simp; omega) (fun k h => by cases h; omega)).trans (hb3.mono (by omega))).alloc (by omega) _) hgr4 (by simp; omega) (fun k h => by cases h; omega)
          have hlk : wr.heap.size < w3.heap.size := by omega
          clear carry hgr2 hgr4 hb3 hbl2 hb0 hb1 hb2 hbl hs3 hsz4 hsz2 hl0 hlt hk hk16 HK
          generalize wr.heap.size = gl at *
          generalize w3.heap.size = gk at *
          obtain ⟨wo2, rfl⟩ : ∃ wo2 : World, wo2 = wr := ⟨_, rfl⟩
          go_loopw [15] (fun i wr => ∃ k : Nat, k ≤ 64 ∧ i = .int .i64 k ∧ Blk wr gl 68 ((rounds ws s k).list.map v32).toArray ∧ Blk wr gk 95 (kWords.map v32).toArray ∧ Blk wr w.heap.size 68 (s.list.map v32).toArray ∧ Blk wr (w.heap.size + 1) 68 (upTo 8 0 (fun _ => .int .u32 0) (.int .u32 0)) ∧ Blk wr (w.heap.size + 1 + 1) 95 (ws.map v32).toArray ∧ Below w.heap.size w wr) (fun i _ => 64 - (intOf i).toNat)
          case atStart => exact ⟨0, by omega, rfl, hBl, hbk, hB0, hB1, hB2, hBel⟩
          case round =>
            clear hBl hbk hB0 hB1 hB2 hBel
            obtain ⟨k, hk, rfl, hbl, hbk, hb0, hb1, hb2, hbel⟩ := hrel
            by_cases hlt : k < 64
            · have cw := hb2.cell (at32 ws k (by omega))
              have ck := hbk.cell (j := k) (v := v32 (kAt k)) (by have := at32 kWords k hlt; exact this)
              have HR : Hid (rounds ws s (k + 1) = (rounds ws s k).round (kAt k) (ws.getD k 0#32)) := rfl
              have i64 : (k : Int) < 64 := by omega
              have c0 := hbl.cell (j := 0) (v := v32 (rounds ws s k).a) rfl
              have c1 := hbl.cell (j := 1) (v := v32 (rounds ws s k).b) rfl
              have c2 := hbl.cell (j := 2) (v := v32 (rounds ws s k).c) rfl
              have c3 := hbl.cell (j := 3) (v := v32 (rounds ws s k).d) rfl
              have c4 := hbl.cell (j := 4) (v := v32 (rounds ws s k).e) rfl
              have c5 := hbl.cell (j := 5) (v := v32 (rounds ws s k).f) rfl
              have c6 := hbl.cell (j := 6) (v := v32 (rounds ws s k).g) rfl
              have c7 := hbl.cell (j := 7) (v := v32 (rounds ws s k).h) rfl
              generalize ws.getD k 0#32 = wk at cw HR
              generalize kAt k = kk at ck HR
              generalize rounds ws s k = r at hbl HR c0 c1 c2 c3 c4 c5 c6 c7
              have hnot := not32 r.e
              go_wp2_with fail
              go_quiet ((go_at_call 66; refine Calls.quiet_of_same (rotr_any _ _ _ ?_ ?_) <;> decide))
              go_wp2_with fail
              go_quiet ((go_at_call 66; refine quiet_plus (rotr_any _ _ _ ?_ ?_) <;> decide))
              go_wp2_with (refine store_blk rfl 68 _ _ rfl rfl gl _ rfl rfl 68 _ (by exact Blk.drewN hbl _) (by exact Tryd.info68s) (by rfl) (by simp [Value.oneCell']) ?_; intro w5 hbl5 hgr5 hsz5)
              go_roundw
              case rel =>
                refine ⟨k + 1, by omega, by go_num, hbl5.of_eq (by rw [HR.out]; rfl), (hbk.drewN _).grown hgr5 (by simp; omega), (hb0.drewN _).grown hgr5 (by simp; omega), (hb1.drewN _).grown hgr5 (by simp; omega), (hb2.drewN _).grown hgr5 (by simp; omega), ?_⟩
                exact below_grown (Below.drewN hbel _) hgr5 (by exact Nat.le_of_lt hb0.lt) (fun q h => by cases h; omega)
              case measure => simp [intOf]; omega
            · have HK : Hid (k = 64) := by show k = 64; omega
              replace hbl : Blk wr gl 68 ((rounds ws s 64).list.map v32).toArray := hbl.of_eq (by rw [HK.out])
              generalize rounds ws s 64 = r at hbl HC
              clear HK hb2 hbk
              go_wp2
              obtain ⟨wo3, rfl⟩ : ∃ wo3 : World, wo3 = wr := ⟨_, rfl⟩
              go_loopw [20] (fun i wr => ∃ k : Nat, k ≤ 8 ∧ i = .int .i64 k ∧ Blk wr w.heap.size 68 (mixTo 8 k (fun j => v32 ((s.add r).list.getD j 0#32)) (fun j => v32 (s.list.getD j 0#32))) ∧ Blk wr (w.heap.size + 1) 68 (upTo 8 0 (fun _ => .int .u32 0) (.int .u32 0)) ∧ Blk wr gl 68 (r.list.map v32).toArray ∧ Below w.heap.size w wr) (fun i _ => 8 - (intOf i).toNat)
              case atStart => exact ⟨0, by omega, rfl, hb0.of_eq rfl, hb1, hbl, hbel⟩
              case round =>
                clear hb0 hb1 hbl hlt hk hbel
                obtain ⟨k, hk, rfl, hb0, hb1, hbl, hbel⟩ := hrel
                by_cases hlt : k < 8
                · as_aux_lemma =>
                  have hc := hb0.cell (j := k) (v := v32 (s.list.getD k 0#32)) (by rw [mixTo_at _ _ _ _ _ hlt, if_neg (Nat.lt_irrefl k)])
                  have hcl := hbl.cell (at32 r.list k hlt)
                  have hfr := hb0.frozen k
                  have R := ((hb0.set k (v32 ((s.add r).list.getD k 0#32))).of_eq (mixTo_set 8 k (fun j => v32 ((s.add r).list.getD j 0#32)) (fun j => v32 (s.list.getD j 0#32)))).drew
                  rw [← add_getD s r k hlt] at R
                  have i8 : (k : Int) < 8 := by omega
                  generalize s.list.getD k 0#32 = x at hc R
                  generalize r.list.getD k 0#32 = y at hcl R
                  go_wp2_with fail
                  go_region
                  go_wp2
                  go_roundw
                  case rel => exact ⟨k + 1, by omega, by go_num, R, (hb1.setOther _ _ (by simp)).drew, (hbl.setOther _ _ (by simp; omega)).drew, (hbel.setCell (by simp) _).drew⟩
                  case measure => simp [intOf]; omega
                · as_aux_lemma =>
                  have HK : Hid (k = 8) := by show k = 8; omega
                  have hb2 : Blk wr w.heap.size 68 ((s.add r).list.map v32).toArray := hb0.of_eq (by rw [HK.out]; rfl)
                  have hst : (upTo 8 0 (fun _ => Value.int .u32 0) (.int .u32 0)).size = ((s.add r).list.map v32).toArray.size := rfl
                  have hinfo : (Tryd.prog.info? 68).map (·.size) = some ((s.add r).list.map v32).toArray.size := Tryd.info68s
                  have hone := one32 (s.add r).list
                  have HRES : Hid (((s.add r).list.map v32).toArray = ((compress s blk).list.map v32).toArray) := by show _ = _; rw [HC.out]
                  clear hb0 hbl
                  generalize ((s.add r).list.map v32).toArray = res at hb2 hst hinfo hone HRES
                  go_wp2_with (first | (refine wpList_load_row rfl 68 _ rfl w.heap.size rfl 68 _ (0, 0) _ hb2 Tryd.underlying68 rfl hinfo ?_) | (refine wpList_store_row rfl 68 _ _ rfl (w.heap.size + 1) _ rfl rfl 68 _ hb1 hinfo hst hone ?_))
                  refine bodyPost_ret (v := .agg res) (results_cell_row Tryd.results48 _ _ (w.heap.size + 1) 68 res (0, 0) _ rfl (hb1.setRow _) Tryd.underlying68 rfl hinfo) rfl ⟨ret_agg HRES.out, ?_⟩
                  exact Below.setRow hbel _ _ (by omega)
end Go.Proofs.YthophonofaaafaaDoor
namespace Go.Proofs.YthophonofaaafaaDoor
open Go.RowKit

theorem slice_mid (b off r c lo : Nat) (n : Int) (hn : n = (lo : Int) + 64) (h1 : lo + 64 ≤ c) (w : World) :
    (Instr.slice 22 (.slice (some ⟨b, off, none⟩) r c) (some (.int .i64 (lo : Int))) (some (.int .i64 n)) none).run Tryd.prog w = .ok (.slice (some ⟨b, off + lo, none⟩) 64 (c - lo)) w := by
  have he : Tryd.prog.elem 22 = 5 := by kernel_rfl
  have hs : (sizeOf 5).run Tryd.prog w = .ok 1 w := by kernel_rfl
  subst hn
  rw [run_slice_lh w 22 (some ⟨b, off, none⟩) r c (by rw [he]; exact Tryd.underlying22) .i64 .i64 lo ((lo : Int) + 64) (by omega) (by omega) (by omega), he, hs]
  simp only [Result.andThen_ok, sliced, Int.toNat_natCast, Nat.mul_one]
  rw [if_neg (by omega), Option.map_some, Addr.add_mid, show ((lo : Int) + 64).toNat - lo = 64 by omega]
theorem size8 (s : St) : (s.list.map v32).toArray.size = 8 := rfl
theorem blocks_step (s : St) (D : List UInt8) (k : Nat) : blocks s D (k + 1) = compress (blocks s D k) ((D.drop (64 * k)).take 64) := rfl

set_option maxRecDepth 100000 in
set_option maxHeartbeats 1000000 in
theorem refSum_any (x : Value) (bs : List UInt8) (w : World) (hseg : Seg w x bs) (hlen : bs.length ≤ 1000000) :
    Calls Tryd.prog 28 #[x] w fun e w' => e = .returned (.agg ((shaOf bs).map v8).toArray) ∧ Below w.heap.size w w' := by
  have hlx : ∃ ao c, x = .slice ao bs.length c := by
    rcases hseg with ⟨rfl, ao, c, rfl, _⟩ | ⟨b, off, c, rfl, _, _, _⟩
    · exact ⟨ao, c, rfl⟩
    · exact ⟨_, c, rfl⟩
  obtain ⟨ao, cx, rfl⟩ := hlx
  go_enter Tryd.func28, Tryd.ntmps28
  obtain ⟨m, hm⟩ : ∃ m, m = (119 - bs.length % 64) % 64 := ⟨_, rfl⟩
  have hm64 : m < 64 := by omega
  have hm56 : (bs.length + 1 + m) % 64 = 56 := by omega
  have hmlt : ∀ k, k < m → (bs.length + 1 + k) % 64 ≠ 56 := fun k hk => by omega
  have HE : Hid (endOf bs.length = 128 :: (List.replicate m 0 ++ be8 (8 * bs.length))) := by show _ = _; rw [hm]; rfl
  have HM : Hid ((bs.length + 1 + m) % 64 = 56 ∧ ∀ k, k < m → (bs.length + 1 + k) % 64 ≠ 56) := ⟨hm56, hmlt⟩
  clear hm hm56 hmlt
  go_wp2_with (first | (at_builtin; refine app_own _ rfl (.tmp 6) (.tmp 7) rfl (w.heap.size + 1) _ [] rfl (by exact own_empty _ _ _ (by simp) (by simp)) _ bs rfl (by exact (hseg.alloc _).alloc _) (by simp; omega) (by simp) ?_; intro v1 w1 ho1 hg1 hv1; rw [List.nil_append] at ho1; have hA1 := ((Blk.new w 24 _).alloc _).grown hg1 (fun h => by have h2 : w.heap.size = w.heap.size + 1 := Option.some.inj h; omega); have hB1 := below_grown (((Below.refl w.heap.size w).alloc (Nat.le_refl _) _).alloc (by simp) _) hg1 (by simp; omega) (fun q hq => by have h2 : w.heap.size + 1 = q := Option.some.inj hq; omega); have hs1 := hg1.size; simp only [World.size_alloc] at hs1; clear hv1 hg1) | (at_builtin; refine app_own _ rfl (.tmp 9) (.tmp 10) rfl (w.heap.size + 1) _ bs rfl (ho1.alloc _) _ [128] rfl (by exact Seg.of_row (row_one _ 128 _) rfl (by simp) (by simp)) (by simp; omega) (by simp; omega) ?_; intro v2 w2 ho2 hg2 hv2; have hA2 := (hA1.alloc _).grown hg2 (by intro h; have := (ho1.blocks _ h.symm).1; omega); have hB2 := below_grown (hB1.alloc (by omega) _) hg2 (by simp; omega) (fun q hq => by have := (ho1.blocks _ hq).1; omega); obtain ⟨g2, c2, hv2e, hgb2, hgl2, hc2, hr2⟩ := ho2.form (by simp); rw [hv2e]; rw [hv2e] at ho2; clear hv2 hg2 hv2e))
  have hA2' := hA2.of_eq (show _ = upTo 32 0 (fun _ => Value.int .u8 0) (.int .u8 0) from rfl)
  have hsz2 := hB2.size
  clear hA2 hA1 hB1 ho1 hs1 hr2 hgb2 hc2
  go_loopw [3] (fun v wr => ∃ k N g c : Nat, k ≤ m ∧ Hid (N = bs.length + 1 + k) ∧ v = .slice (some ⟨g, 0, none⟩) N c ∧ Own wr (w.heap.size + 1) (.slice (some ⟨g, 0, none⟩) N c) (bs ++ 128 :: List.replicate k 0) ∧ Blk wr w.heap.size 24 (upTo 32 0 (fun _ => Value.int .u8 0) (.int .u8 0)) ∧ Below w.heap.size w wr ∧ w.heap.size < wr.heap.size) (fun v _ => bs.length + 1 + m - sliceLen v)
  case atStart => exact ⟨0, bs.length + 1, g2, c2, Nat.zero_le _, rfl, rfl, by simpa using ho2, hA2', hB2, by have := hA2'.lt; omega⟩
  case round =>
    clear ho2 hA2' hB2 hsz2 hgl2
    obtain ⟨k, N, g, c, hk, HN, rfl, ho, hA, hB, hsz⟩ := hrel
    by_cases hlt : k < m
    · as_aux_lemma =>
      have ht : (((N : Int) % 64) != 56) = true := by have := HM.out.2 k hlt; have e := HN.out; rw [bne_iff_ne]; omega
      have hNb : N ≤ 1000100 := by have e := HN.out; omega
      have HO : Hid (bs ++ 128 :: List.replicate (k + 1) 0 = (bs ++ 128 :: List.replicate k 0) ++ [0]) := by show _ = _; rw [List.replicate_succ']; simp
      have hbl := ho.blocks g rfl
      have hOl : (bs ++ 128 :: List.replicate k (0 : UInt8)).length ≤ 1000100 := by simp; omega
      go_wp2_with (at_builtin; refine app_own _ rfl (.tmp 16) (.tmp 17) rfl (w.heap.size + 1) _ _ rfl (ho.alloc _) _ [0] rfl (by exact Seg.of_row (row_one _ 0 _) rfl (by simp) (by simp)) (by simp only [List.length_singleton]; omega) (by simp; omega) ?_; intro v2 w2 ho2 hg2 hv2; obtain ⟨g2, c2, hv2e, hgb2, hgl2, hc2, hr2⟩ := ho2.form (by simp only [List.length_append, List.length_cons]; omega); rw [hv2e]; rw [hv2e] at ho2)
      go_roundw
      case rel =>
        refine ⟨k + 1, _, g2, c2, hlt, ?_, rfl, ?_, (hA.alloc _).grown hg2 (fun h => by have h2 : w.heap.size = g := Option.some.inj h; omega), ?_, ?_⟩
        · show _ = _
          omega
        · rw [HO.out]
          have e : (bs ++ 128 :: List.replicate k 0 ++ [(0 : UInt8)]).length = bs.length + (k + 1 + 1) := by simp
          rw [e] at ho2
          exact ho2
        · exact below_grown (hB.alloc (by omega) _) hg2 (by simp; omega) (fun q hq => by have h2 : g = q := Option.some.inj hq; omega)
        · have := hg2.size; simp at this; omega
      case measure =>
        have e := HN.out
        simp [sliceLen]; omega
    · have HK : Hid (k = m) := by show k = m; omega
      have ht : (((N : Int) % 64) != 56) = false := by
        have := HM.out.1; have e := HN.out; have e2 := HK.out
        simp only [bne_eq_false_iff_eq]; omega
      have hbl := ho.blocks g rfl
      have hOl : (bs ++ 128 :: List.replicate k (0 : UInt8)).length ≤ 1000100 := by simp; omega
      have HD : Hid (bs ++ endOf bs.length = (bs ++ 128 :: List.replicate k 0) ++ be8 (8 * bs.length)) := by show _ = _; rw [HE.out, HK.out]; simp
      have hDl : (bs ++ endOf bs.length).length % 64 = 0 := by
        have := HM.out.1
        rw [List.length_append, endOf_len]; omega
      go_wp2_with (first | (go_at_call 46; refine (eight_any _ (8 * bs.length) (by omega) (by omega) _).mono ?_; rintro e w3 ⟨rfl, hb3, hbel3⟩) | (at_builtin; refine app_own _ rfl (.tmp 19) (.tmp 24) rfl (w.heap.size + 1) _ _ rfl (ho.below hbel3 (Nat.le_refl _)) _ (be8 (8 * bs.length)) rfl (by exact Seg.of_row hb3.row (be8_len _) (Nat.le_refl _) hb3.lt) (by rw [be8_len]; omega) (by have := hbel3.size; omega) ?_; intro v4 w4 ho4 hg4 hv4) | (go_at_call 47; refine (start_any _).mono ?_; rintro e w5 ⟨rfl, hb5⟩) | (refine store_blk rfl 68 _ _ rfl rfl _ (St.start.list.map v32).toArray rfl rfl 68 _ (by exact Blk.new _ _ _) Tryd.info68s (by rfl) (one32 St.start.list) ?_; intro w6 hb6 hg6 hs6))
      rw [← HD.out] at ho4
      have hD0 : 0 < (bs ++ endOf bs.length).length := by rw [List.length_append, endOf_len]; omega
      have hDm : (bs ++ endOf bs.length).length ≤ 1000200 := by rw [List.length_append, endOf_len]; omega
      obtain ⟨g4, c4, hv4e, hgb4, hgl4, hc4, hr4⟩ := ho4.form hD0
      rw [hv4e]
      have s3 := hbel3.size
      have s4 := hg4.size
      have s5 := hb5.size
      simp only [World.size_alloc] at hs6
      have hB4 := below_grown (hB.trans (hbel3.mono (by omega))) hg4 (by omega) (fun q hq => by have h2 : g = q := Option.some.inj hq; omega)
      have hA4 := (hA.below hbel3 (by omega)).grown hg4 (fun h => by have h2 : w.heap.size = g := Option.some.inj h; omega)
      have hA6 := ((hA4.below hb5 (by omega)).alloc _).grown hg6 (by simp; omega)
      have hB6 := below_grown ((hB4.trans (hb5.mono (by omega))).alloc (by omega) _) hg6 (by simp; omega) (fun q hq => by cases hq; omega)
      have hr6 : Row w6 g4 0 (bs ++ endOf bs.length) := ((hr4.below hb5 hgl4).below ((Below.refl w5.heap.size w5).alloc (Nat.le_refl _) _) (by omega)).grown hg6 (by simp; omega)
      have hg4h : g4 < w5.heap.size := by omega
      have HSH : Hid (shaOf bs = wbytes (blocks St.start (bs ++ endOf bs.length) ((bs ++ endOf bs.length).length / 64)).list) := rfl
      have hgh : w.heap.size + 1 ≤ w5.heap.size := by omega
      clear hB4 hA4 hr4 hb5 hg6 ho4 hg4 hv4 hbel3 hb3 hs6 s3 s4 s5 ho hA hB hsz hbl hOl HD HK HN HE HM ht hgl4 hgb4
      generalize bs ++ endOf bs.length = D at *
      generalize w5.heap.size = gh at *
      generalize hSM : shaOf bs = SM at *
      have HSM : Hid (shaOf bs = SM) := hSM
      clear hSM
      obtain ⟨DL, hDL⟩ : ∃ DL, DL = D.length := ⟨_, rfl⟩
      rw [← hDL] at hc4 hD0 hDm hDl ⊢
      have HDL : Hid (DL = D.length) := hDL
      clear hDL
      obtain ⟨wo, rfl⟩ : ∃ wo : World, wo = wr := ⟨_, rfl⟩
      go_loopw [5] (fun i wr => ∃ k I : Nat, Hid (I = 64 * k) ∧ I ≤ DL ∧ i = .int .i64 (I : Int) ∧ Blk wr gh 68 ((blocks St.start D k).list.map v32).toArray ∧ Blk wr w.heap.size 24 (upTo 32 0 (fun _ => Value.int .u8 0) (.int .u8 0)) ∧ Row wr g4 0 D ∧ Below w.heap.size w wr ∧ gh < wr.heap.size) (fun i _ => DL - (intOf i).toNat)
      case atStart => exact ⟨0, 0, rfl, Nat.zero_le _, rfl, hb6, hA6, hr6, hB6, hb6.lt⟩
      case round =>
        clear hb6 hA6 hr6 hB6
        obtain ⟨k, I, HI, hI, rfl, hbh, hA, hr, hB, hgl⟩ := hrel
        by_cases hlt : I < DL
        · have h64 : I + 64 ≤ DL := by have := HI.out; omega
          have hsl := fun w' => slice_mid g4 0 DL c4 I ((I : Int) + 64) rfl (by omega) w'
          rw [Nat.zero_add] at hsl
          have hrb : Row wr g4 I ((D.drop I).take 64) := by
            have := (hr.drop I).take 64
            rwa [Nat.zero_add] at this
          have hbl : ((D.drop I).take 64).length = 64 := by have := HDL.out; simp; omega
          have HST : Hid (blocks St.start D (k + 1) = compress (blocks St.start D k) ((D.drop I).take 64)) := by show _ = _; rw [HI.out]; rfl
          have HCL : Hid (∀ W : World, Row W g4 I ((D.drop I).take 64) → g4 < W.heap.size → Calls Tryd.prog 48 #[.agg ((blocks St.start D k).list.map v32).toArray, .slice (some ⟨g4, I, none⟩) 64 (c4 - I)] W fun e w' => e = .returned (.agg ((compress (blocks St.start D k) ((D.drop I).take 64)).list.map v32).toArray) ∧ Below W.heap.size W w') := fun W h1 h2 => block_aux _ _ hbl g4 I (c4 - I) W h1 h2
          generalize compress (blocks St.start D k) ((D.drop I).take 64) = S1 at HST HCL
          generalize (D.drop I).take 64 = blk at hrb HCL
          generalize blocks St.start D k = S0 at hbh HCL
          have rW := hbh.drew.range 0 (S0.list.map v32) (fun j v hv => by rw [Nat.zero_add]; simpa using hv)
          have i64 : (I : Int) < (DL : Int) := by omega
          have hI2 : I ≤ 1000200 := by omega
          have hwr : IntKind.i64.wrap ((I : Int) + 64) = (I : Int) + 64 := by rw [IntKind.wrap_i64]; omega
          have HROW : Hid (Row wr g4 0 D) := hr
          clear hr hbl
          go_wp2_with fail
          refine region_tail 6 (by kernel_rfl) (by kernel_rfl) ?_
          simp only [List.take_succ_cons, List.take_zero, List.drop_succ_cons, List.drop_zero]
          refine still_load rfl 68 _ rfl gh 0 rfl (S0.list.map v32) _ rW Tryd.underlying68 rfl Tryd.info68s ?_
          repeat still_step
          refine wpStill_nil ?_
          go_wp2_with (first | (go_at_call 48; refine (HCL.out _ (by exact hrb) (by exact Nat.lt_trans hg4h hgl)).mono ?_; rintro e w7 ⟨rfl, hb7⟩) | (refine store_blk rfl 68 _ _ rfl rfl gh (S1.list.map v32).toArray rfl rfl 68 _ (by exact hbh.drew.below hb7 hgl) Tryd.info68s ((size8 S0).trans (size8 S1).symm) (one32 S1.list) ?_; intro w8 hb8 hg8 hs8))
          go_roundw
          case rel =>
            replace hb7 : Below wr.heap.size wr w7 := ⟨hb7.os, hb7.tape, hb7.output, hb7.size, hb7.block⟩
            have s7 := hb7.size
            refine ⟨k + 1, I + 64, ?_, h64, by go_num, ?_, (hA.below hb7 hA.lt).grown hg8 (by simp; omega), ?_, ?_, ?_⟩
            · show _ = _
              have := HI.out; omega
            · rw [HST.out]; exact hb8
            · exact ((HROW.out).below hb7 (Nat.lt_trans hg4h hgl)).grown hg8 (by simp; omega)
            · exact below_grown (hB.trans (hb7.mono (by exact Nat.le_of_lt hA.lt))) hg8 (by have := hA.lt; exact Nat.le_trans (Nat.le_of_lt this) s7) (fun q hq => by cases hq; omega)
            · rw [hs8]; exact Nat.lt_of_lt_of_le hgl s7
          case measure => simp [intOf]; omega
        · as_aux_lemma =>
          have HK : Hid (I = DL) := by show I = DL; omega
          have HB : Hid (((blocks St.start D k).list.map v32).toArray = ((blocks St.start D (D.length / 64)).list.map v32).toArray) := by
            show _ = _
            have h1 := HI.out; have h2 := HK.out; have h3 := HDL.out
            rw [show D.length / 64 = k by omega]
          have hbh' := hbh.of_eq HB.out
          generalize blocks St.start D (D.length / 64) = S0 at hbh' HSH
          have hwb := fun W => words_any S0.list rfl W
          rw [← HSH.out] at hwb
          have hsl : SM.length = 32 := by rw [HSH.out]; exact wbytes_len _
          have HW : Hid (∀ W : World, Calls Tryd.prog 49 #[.agg (S0.list.map v32).toArray] W fun e w' => e = .returned (.agg (SM.map v8).toArray) ∧ Below W.heap.size W w') := hwb
          have hi24 : (Tryd.prog.info? 24).map (·.size) = some (SM.map v8).toArray.size := by rw [List.size_toArray, List.length_map, hsl]; exact Tryd.info24s
          have hst : (upTo 32 0 (fun _ => Value.int .u8 0) (.int .u8 0)).size = (SM.map v8).toArray.size := by rw [upTo_size, List.size_toArray, List.length_map, hsl]
          have hone := one8 SM
          have i64 : ¬ (I : Int) < (DL : Int) := by omega
          clear hwb hbh HB HSH hsl
          go_wp2_with (first | (refine wpList_load_row rfl 68 _ rfl gh rfl 68 _ (0, 0) _ hbh' Tryd.underlying68 rfl Tryd.info68s ?_) | (go_at_call 49; refine (HW.out _).mono ?_; rintro e w7 ⟨rfl, hb7⟩) | (refine store_blk rfl 24 _ _ rfl rfl w.heap.size (SM.map v8).toArray rfl rfl 24 _ (by exact hA.below hb7 hA.lt) hi24 hst hone ?_; intro w8 hb8 hg8 hs8))
          refine bodyPost_ret (v := .agg (SM.map v8).toArray) (results_cell_row Tryd.results28 _ _ w.heap.size 24 _ (0, 0) _ rfl hb8 Tryd.underlying24 rfl hi24) rfl ⟨ret_agg (by rw [HSM.out]), ?_⟩
          exact below_grown (hB.trans (hb7.mono (Nat.le_of_lt hA.lt))) hg8 (Nat.le_trans (Nat.le_of_lt hA.lt) hb7.size) (fun q hq => by cases hq; omega)
end Go.Proofs.YthophonofaaafaaDoor
namespace Go.Proofs.YthophonofaaafaaDoor
open Go.RowKit

set_option maxRecDepth 100000 in
set_option maxHeartbeats 400000 in
theorem refAdd_any (s : BitVec 32) (x : Value) (bs : List UInt8) (w : World) (hm : bs.length ≤ 1000000000) (hseg : Seg w x bs) :
    Calls Tryd.prog 55 #[v32 s, x] w fun e w' => e = .returned (v32 (crc (low24 s) bs)) ∧ w' = w := by
  have ha := rem24' s
  rcases hseg with ⟨rfl, ao, c, rfl, _⟩ | ⟨b, off, c, rfl, hc, hr, hb⟩
  · go_enter Tryd.func55, Tryd.ntmps55
    go_wp2
    go_loop [5, 6] (fun n i => i = .int .i64 0 ∧ n = v32 (low24 s)) (fun _ _ => 0)
    case atStart => exact ⟨rfl, rfl⟩
    case round =>
      obtain ⟨rfl, rfl⟩ := hrel
      go_wp2
      go_ret
      exact ⟨rfl, rfl⟩
  have hl0 := low24_lt s
  go_enter Tryd.func55, Tryd.ntmps55
  go_wp2
  go_loop [5, 6] (fun n i => ∃ k : Nat, k ≤ bs.length ∧ i = .int .i64 k ∧ n = v32 (crc (low24 s) (bs.take k))) (fun _ i => bs.length - (intOf i).toNat)
  case atStart => exact ⟨0, Nat.zero_le _, rfl, rfl⟩
  case round =>
    obtain ⟨k, hk, rfl, rfl⟩ := hrel
    by_cases hlt : k < bs.length
    · have hc := hr k hlt
      have ht := crc_take_succ bs k hlt (low24 s)
      have hbd := crc_lt (bs.take k) (low24 s) hl0
      generalize crc (low24 s) (bs.take k) = u at ht hbd
      generalize hxk : bs[k] = xk at hc ht
      have hs := shl16_form xk
      have hx := bits_xor32 u (w8 xk <<< 16)
      have hv := xor_lt u _ hbd (shl_lt xk)
      have hst : step u xk = dbls 8 (u ^^^ (w8 xk <<< 16)) := rfl
      have h8 := lt8 xk
      have h80 := ge8 xk
      generalize u ^^^ (w8 xk <<< 16) = v at hx hv hst
      have HH : Hid (crc (low24 s) (bs.take (k + 1)) = dbls 8 v) := ht.trans hst
      clear ht hst hbd hxk
      go_wp2
      have HV : Hid (v.toNat < 16777216) := hv
      clear hs hx h8 h80 hc hv ha hl0
      go_loop [5, 7] (fun n i => ∃ j : Nat, j ≤ 8 ∧ i = .int .i64 j ∧ n = v32 (dbls j v)) (fun _ i => 8 - (intOf i).toNat)
      case atStart => exact ⟨0, Nat.zero_le _, rfl, rfl⟩
      case round =>
        obtain ⟨j, hj, rfl, rfl⟩ := hrel
        by_cases hlj : j < 8
        · have hd := dbls_succ j v
          have hyb := dbls_lt j v HV.out
          generalize dbls j v = y at hd hyb
          have HDH : Hid (8388608 ≤ n32 y → bits .xor .u32 ((2 : Int) * n32 y) 25578747 = n32 (dbls (j + 1) v)) := fun h => by rw [hd]; exact dbl_hi y hyb (by unfold n32 at h; omega)
          have HDL : Hid (n32 y < 8388608 → (2 : Int) * n32 y = n32 (dbls (j + 1) v)) := fun h => by rw [hd]; exact dbl_lo y hyb (by unfold n32 at h; omega)
          have hZ0 := ge32 y
          have hZ1 : n32 y < 16777216 := by unfold n32; omega
          clear hd hyb
          show Code.wp _ _ _ { tmps := #[_, _, _, _, _, .int .u32 (n32 y), _, _, _, _, _, _, _, _, _, _, _, _, _, _, _, _, _, _, _, _, _, _, _, _, _, _, _, _, _], defers := _ } _
          generalize n32 y = Z at *
          by_cases hhi : 8388608 ≤ Z
          · have hD := HDH.out hhi
            clear HDH HDL
            go_wp2
            go_round
            case rel => exact ⟨j + 1, by omega, by go_num, rfl⟩
            case measure => simp [intOf]; omega
          · have hlo : Z < 8388608 := by omega
            have HD : Hid ((2 : Int) * Z = n32 (dbls (j + 1) v)) := HDL.out hlo
            clear HDH HDL hhi
            go_wp2
            go_round
            case rel => exact ⟨j + 1, by omega, by go_num, by unfold v32; rw [← HD.out]⟩
            case measure => simp [intOf]; omega
        · obtain hj8 : j = 8 := by omega
          go_wp2
          go_round
          case rel => exact ⟨k + 1, by omega, by go_num, by rw [HH.out, hj8]⟩
          case measure => simp [intOf]; omega
    · have hk' : bs.length ≤ k := by omega
      go_wp2
      go_ret
      exact ⟨ret_int (by rw [crc_take_all _ _ _ hk']), rfl⟩

set_option maxRecDepth 100000 in
theorem refCsum_any (x : Value) (bs : List UInt8) (w : World) (hm : bs.length ≤ 1000000000) (hseg : Seg w x bs) :
    Calls Tryd.prog 32 #[x] w fun e w' => e = .returned (v32 (crcOf bs)) ∧ w' = w := by
  have h := refAdd_any 0xB704CE#32 x bs w hm hseg
  rw [show v32 0xB704CE#32 = .int .u32 11994318 from rfl, show low24 0xB704CE#32 = 0xB704CE#32 from rfl] at h
  have H : Hid (Calls Tryd.prog 55 #[.int .u32 11994318, x] w fun e w' => e = .returned (v32 (crcOf bs)) ∧ w' = w) := h
  clear h
  go_enter Tryd.func32, Tryd.ntmps32
  go_wp2_with fail
  refine H.out.mono ?_
  rintro e w1 ⟨rfl, rfl⟩
  go_wp2
  go_ret
  exact ⟨rfl, rfl⟩

end Go.Proofs.YthophonofaaafaaDoor
