/-
  What is proved here: of all bytes, the statement ShaOne answers true: written byte by byte, the hash and its Save are the document's.
  Conditions: the variables firstWords and roundWords hold the words of SHA-256.
-/
import Derived.Test.YtapghcjbfeaobaaDoorShaAwake
import Derived.Test.YtapghcjbfeaobaaDoorRefSum
import Derived.Test.YtapghcjbfeaobaaDoorRefSave
import Derived.Test.YtapghcjbfeaobaaDoorAnyHeld
import Derived.Stop.BytesEq
import Derived.Laws.IdiomStrings
namespace Go.Proofs.YtapghcjbfeaobaaDoor
open Go.RowKit

theorem slice_one (b off r c lo : Nat) (n : Int) (hn : n = (lo : Int) + 1) (h1 : lo + 1 ≤ c) (w : World) :
    (Instr.slice 22 (.slice (some ⟨b, off, none⟩) r c) (some (.int .i64 (lo : Int))) (some (.int .i64 n)) none).run Tryd.prog w = .ok (.slice (some ⟨b, off + lo, none⟩) 1 (c - lo)) w := by
  have he : Tryd.prog.elem 22 = 5 := by kernel_rfl
  have hs : (sizeOf 5).run Tryd.prog w = .ok 1 w := by kernel_rfl
  subst hn
  rw [run_slice_lh w 22 (some ⟨b, off, none⟩) r c (by rw [he]; exact Tryd.underlying22) .i64 .i64 lo ((lo : Int) + 1) (by omega) (by omega) (by omega), he, hs]
  simp only [Result.andThen_ok, sliced, Int.toNat_natCast, Nat.mul_one]
  rw [if_neg (by omega), Option.map_some, Addr.add_mid, show ((lo : Int) + 1).toNat - lo = 1 by omega]

set_option maxRecDepth 100000 in
theorem own_string {w : World} {base : Nat} {v : Value} {bs : List UInt8} (h : Own w base v bs) (hn : 0 < bs.length) (t : TypeId) (ht : Tryd.prog.underlying t = some .string) : (convert 22 t v).run Tryd.prog w = .ok (.string ⟨bs.toArray⟩) w := by
  obtain ⟨g, cap, rfl, _, _, _, hr⟩ := h.form hn
  exact run_convert_bytes_back w 22 t 5 ⟨g, 0, none⟩ cap bs Tryd.underlying22 Tryd.underlying5 ht (fun j hj => by rw [Addr.add_mid]; exact hr j hj)

set_option maxRecDepth 100000 in
set_option maxHeartbeats 1000000 in
theorem shaOne_any (x : Value) (bs : List UInt8) (ao : Option Addr) (len c : Nat) (w : World) (hx : x = .slice ao len c) (hl : bs.length = len) (hm : len ≤ maxLen) (hseg : Seg w x bs) (hgf : 0 < w.heap.size) (hf : Tab w 0 (St.start.list.map v32)) (hgk : 1 < w.heap.size) (hk : Tab w 1 (kWords.map v32)) :
    Calls Tryd.prog 7 #[x] w fun e w' => e = .returned (.bool true) ∧ Below w.heap.size w w' := by
  subst hx
  unfold maxLen at hm
  by_cases hbig : 2000 < len
  · go_enter Tryd.func7, Tryd.ntmps7
    go_wp2_with (first | (go_at_call 9; refine (awake_any _ hgf hf hgk hk).mono ?_; rintro e w1 ⟨rfl, hb1⟩) | (go_at_call 12; refine (new_hash _ (by exact hf.below hb1 hgf)).mono ?_; rintro e w2 ⟨rfl, hH2, hb2⟩))
    go_ret
    exact ⟨rfl, hb1.trans (hb2.mono hb1.size)⟩
  · go_enter Tryd.func7, Tryd.ntmps7
    go_wp2_with (first | (go_at_call 9; refine (awake_any _ hgf hf hgk hk).mono ?_; rintro e w1 ⟨rfl, hb1⟩) | (go_at_call 12; refine (new_hash _ (by exact hf.below hb1 hgf)).mono ?_; rintro e w2 ⟨rfl, hH2, hb2⟩))
    have s1 := hb1.size
    have s2 := hb2.size
    have hB2 : Below w.heap.size w w2 := hb1.trans (hb2.mono s1)
    have hgh := hH2.lt
    clear hb1 hb2
    generalize w1.heap.size = gh at *
    go_loopw [5] (fun i wr => ∃ I : Nat, I ≤ len ∧ i = .int .i64 (I : Int) ∧ HashAt wr gh St.start (bs.take I) I ∧ Below w.heap.size w wr ∧ gh < wr.heap.size) (fun i _ => len - (intOf i).toNat)
    case atStart => exact ⟨0, Nat.zero_le _, rfl, hH2, hB2, hgh⟩
    case round =>
      clear hH2 hB2
      obtain ⟨I, hI, rfl, hH, hB, hgl⟩ := hrel
      have hBs := hB.size
      by_cases hlt : I < len
      · obtain ⟨b, off, hao, hcx, hrow, hbw⟩ : ∃ b off, ao = some ⟨b, off, none⟩ ∧ len ≤ c ∧ Row w b off bs ∧ b < w.heap.size := by
          rcases hseg with ⟨h, _⟩ | ⟨b, off, c, h, h2, h3, h4⟩
          · rw [h] at hl; simp at hl; omega
          · cases h; exact ⟨b, off, rfl, by omega, h3, h4⟩
        subst hao
        have hsl := fun w' => slice_one b off len c I ((I : Int) + 1) rfl (by omega) w'
        have hwr : IntKind.i64.wrap ((I : Int) + 1) = (I : Int) + 1 := by rw [IntKind.wrap_i64]; omega
        have HT : Hid (bs.take I ++ (bs.drop I).take 1 = bs.take (I + 1)) := by show _ = _; rw [List.take_add]
        have hl1 : ((bs.drop I).take 1).length = 1 := by simp; omega
        have hlI : (bs.take I).length = I := by simp; omega
        have i64 : (I : Int) < (len : Int) := by omega
        go_wp2_with fail
        refine (write_any gh St.start (bs.take I) I _ ((bs.drop I).take 1) wr hH (by rw [hlI]) (by exact Seg.of_row (((hrow.below hB hbw).drop I).take 1) hl1 (by omega) (by omega)) (fun b' o' c' n' h _ => by cases h; omega) (by omega) (by omega) (by exact hk.below hB hgk)).mono ?_
        rintro e w4 ⟨rfl, hH4, hg4⟩
        rw [HT.out, hl1] at hH4
        have hB4 := below_grown hB hg4 hBs (fun q hq => by cases hq; omega)
        clear hg4 hsl
        go_wp2_with fail
        refine (write_any gh St.start (bs.take (I + 1)) (I + 1) _ [] w4 hH4 (by simp; omega) (by exact .inl ⟨rfl, none, 0, rfl, fun _ => rfl⟩) (fun b' o' c' n' h _ => by cases h) (by simp; omega) (by omega) (by exact hk.below hB4 hgk)).mono ?_
        rintro e w5 ⟨rfl, hH5, hg5⟩
        rw [List.append_nil, List.length_nil, Nat.add_zero] at hH5
        have hB5 := below_grown hB4 hg5 hB4.size (fun q hq => by cases hq; omega)
        go_wp2
        go_roundw
        case rel => exact ⟨I + 1, hlt, by go_num, hH5, hB5, hH5.lt⟩
        case measure => simp [intOf]; omega
      · obtain rfl : I = len := by omega
        rw [List.take_of_length_le (by omega)] at hH
        go_wp2_with fail
        have hS0 : Below wr.heap.size wr wr.drew := (Below.refl _ _).drew
        have hlen1 : 0 < (saveOf St.start bs I).length := by simp [saveOf, be8_len]; omega
        have hsl : (shaOf bs).length = 32 := wbytes_len _
        have hIs : sumOf St.start bs I = shaOf bs := by unfold shaOf; rw [hl]
        have hIv : saveOf St.start bs bs.length = saveOf St.start bs I := by rw [hl]
        have heq : ∀ w : World, (binOp .eql 24 (.agg ((shaOf bs).map v8).toArray) (.agg ((shaOf bs).map v8).toArray)).run Tryd.prog w = .ok (.bool true) w := fun w => by
          have := run_eql_bytes (P := Tryd.prog) w 24 5 32 Tryd.underlying24 Tryd.underlying5 (fun w => by kernel_rfl) (shaOf bs) (shaOf bs) hsl hsl
          rw [beq_self_eq_true] at this
          exact this
        refine held_begin (fun W => Below wr.heap.size wr W) (by kernel_rfl) ?_
        refine held_take 0 39 _ (.pointer (some ⟨gh, 0, none⟩)) rfl rfl (by kernel_rfl) (by kernel_rfl) (by kernel_rfl) rfl hS0 (fun _ _ => rfl) ?_
        simp only [Act.put, List.setIfInBounds_toArray, List.set_cons_succ, List.set_cons_zero]
        refine held_take 2 41 _ (.slice ao I c) rfl rfl (by kernel_rfl) (by kernel_rfl) (by kernel_rfl) rfl hS0 (fun _ _ => rfl) ?_
        simp only [Act.put, List.setIfInBounds_toArray, List.set_cons_succ, List.set_cons_zero]
        refine held_call 1 40 _ 18 _ rfl rfl (by kernel_rfl) rfl (exec_one 18 _ _ rfl _ rfl Tryd.call18) ?_
        refine (hsum_any gh St.start bs I _ (hH.below hS0 hgl) (by omega) (by omega) (by have := hS0.size; omega) ((hk.below hB hgk).below hS0 (by omega))).mono ?_
        rintro e w4 ⟨rfl, hb4⟩
        have hS4 : Below wr.heap.size wr w4 := hS0.trans hb4
        refine ⟨_, rfl, hS4, ?_⟩
        rw [hIs]
        simp only [Act.put, List.setIfInBounds_toArray, List.set_cons_succ, List.set_cons_zero]
        refine held_call 3 42 _ 11 _ rfl rfl (by kernel_rfl) rfl (exec_one 11 _ _ rfl _ rfl Tryd.call11) ?_
        refine (refSum_any _ bs _ ((hseg.below hB (Nat.le_refl _)).below hS4 (Nat.le_refl _)) (by omega)).mono ?_
        rintro e w5 ⟨rfl, hb5⟩
        have hS5 : Below wr.heap.size wr w5 := hS4.trans (hb5.mono hS4.size)
        refine ⟨_, rfl, hS5, ?_⟩
        simp only [Act.put, List.setIfInBounds_toArray, List.set_cons_succ, List.set_cons_zero]
        generalize ((shaOf bs).map v8).toArray = AG at heq ⊢
        refine held_one 4 43 _ (.bool true) rfl rfl (by kernel_rfl) rfl hS5 (exec_cmp _ _ _ _ _ rfl (.inr rfl) _ _ _ rfl rfl rfl (heq _)) ?_
        simp only [Act.put, List.setIfInBounds_toArray, List.set_cons_succ, List.set_cons_zero]
        refine held_one 5 44 _ (.bool true) rfl rfl (by kernel_rfl) rfl hS5 rfl ?_
        simp only [Act.put, List.setIfInBounds_toArray, List.set_cons_succ, List.set_cons_zero]
        refine held_take 6 45 _ (.pointer (some ⟨gh, 0, none⟩)) rfl rfl (by kernel_rfl) (by kernel_rfl) (by kernel_rfl) rfl hS5 (fun _ _ => rfl) ?_
        simp only [Act.put, List.setIfInBounds_toArray, List.set_cons_succ, List.set_cons_zero]
        refine held_take 9 48 _ (.slice ao I c) rfl rfl (by kernel_rfl) (by kernel_rfl) (by kernel_rfl) rfl hS5 (fun _ _ => rfl) ?_
        simp only [Act.put, List.setIfInBounds_toArray, List.set_cons_succ, List.set_cons_zero]
        refine held_call 7 46 _ 14 _ rfl rfl (by kernel_rfl) rfl (exec_one 14 _ _ rfl _ rfl Tryd.call14) ?_
        refine (hsave_any gh St.start bs I _ (hH.below hS5 hgl) (by omega) (by omega)).mono ?_
        rintro e w6 ⟨v6, rfl, ho6, hb6⟩
        have hS6 : Below wr.heap.size wr w6 := hS5.trans (hb6.mono hS5.size)
        refine ⟨v6, rfl, hS6, ?_⟩
        refine held_weaken (S' := fun W => Below w6.heap.size w6 W) (fun W hW => hS6.trans (hW.mono hS6.size)) _ _ _ _ ?_
        simp only [Act.put, List.setIfInBounds_toArray, List.set_cons_succ, List.set_cons_zero]
        have hT6 : Below w6.heap.size w6 w6 := Below.refl _ _
        refine held_take 8 47 _ (.string ⟨(saveOf St.start bs I).toArray⟩) rfl rfl (by kernel_rfl) (by kernel_rfl) (by kernel_rfl) rfl hT6 (fun W hW => exec_conv _ _ _ rfl _ _ rfl (own_string (ho6.below hW (Nat.le_refl _)) hlen1 9 Tryd.underlying9)) ?_
        simp only [Act.put, List.setIfInBounds_toArray, List.set_cons_succ, List.set_cons_zero]
        refine held_call 10 49 _ 16 _ rfl rfl (by kernel_rfl) rfl (exec_one 16 _ _ rfl _ rfl Tryd.call16) ?_
        refine (refSave_any _ bs _ ((hseg.below hB (Nat.le_refl _)).below hS6 (Nat.le_refl _)) (by omega)).mono ?_
        rintro e w7 ⟨v7, rfl, ho7, hb7⟩
        rw [hIv] at ho7
        refine ⟨v7, rfl, hb7, ?_⟩
        simp only [Act.put, List.setIfInBounds_toArray, List.set_cons_succ, List.set_cons_zero]
        have hS7 : Below wr.heap.size wr w7 := hS6.trans (hb7.mono hS6.size)
        refine held_one 11 50 _ (.string ⟨(saveOf St.start bs I).toArray⟩) rfl rfl (by kernel_rfl) rfl hb7 (exec_conv _ _ _ rfl _ _ rfl (own_string ho7 hlen1 9 Tryd.underlying9)) ?_
        simp only [Act.put, List.setIfInBounds_toArray, List.set_cons_succ, List.set_cons_zero]
        refine held_one 12 51 _ (.bool true) rfl rfl (by kernel_rfl) rfl hb7 (exec_cmp _ _ _ _ _ rfl (.inr rfl) _ _ _ rfl rfl rfl (eql_string_self _ _)) ?_
        simp only [Act.put, List.setIfInBounds_toArray, List.set_cons_succ, List.set_cons_zero]
        refine held_one 13 52 _ (.bool true) rfl rfl (by kernel_rfl) rfl hb7 rfl ?_
        simp only [Act.put, List.setIfInBounds_toArray, List.set_cons_succ, List.set_cons_zero]
        refine held_one 14 2 _ (.bool true) rfl rfl (by kernel_rfl) rfl hb7 rfl ?_
        simp only [Act.put, List.setIfInBounds_toArray, List.set_cons_succ, List.set_cons_zero]
        refine wpAnyH_done (by kernel_rfl) ?_ _
        refine NoPanic.normal ?_
        go_wp2
        go_ret
        exact ⟨rfl, hB.trans (hS7.mono hBs)⟩
end Go.Proofs.YtapghcjbfeaobaaDoor
