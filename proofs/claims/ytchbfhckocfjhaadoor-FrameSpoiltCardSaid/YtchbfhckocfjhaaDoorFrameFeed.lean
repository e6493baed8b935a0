/-
  What is proved here: a reader's Feed.
  Conditions: at most 100000 bytes; the variable fourBits holds the sixteen words.
-/
import Derived.Test.YtchbfhckocfjhaaDoorFrameTold
import Derived.WalkMore
namespace Go.Proofs.YtchbfhckocfjhaaDoor
open Go.RowKit

/-- What Feed answers, and what it leaves. -/
def feedPost (t : TypeId) (w : World) (lo g : Nat) (hv : Value) (F : FS) (e : Ending) (w' : World) : Prop :=
  ∃ tv vs hv', e = .returned (.tuple #[tv, .int .i64 (F.bad : Int)]) ∧ Rd t w' lo g hv' F.held F.sp ∧ Told w' w.heap.size tv hv' vs F.told ∧ Chg (Touch g hv) w w' ∧ Goes w hv hv'

theorem feed_take (st : FS) (rest : List UInt8) (k : Nat) (h : k < rest.length) : feedS st (rest.take (k + 1)) = fstep (feedS st (rest.take k)) rest[k] := by
  rw [List.take_succ_eq_append_getElem h, feedS_append]; rfl
theorem feed_drop (st : FS) (rest : List UInt8) (k : Nat) (h : k < rest.length) : feedS st rest = feedS (fstep (feedS st (rest.take k)) rest[k]) (rest.drop (k + 1)) := by
  rw [← feed_take st rest k h, ← feedS_append, List.take_append_drop]
theorem fhold_fields (s : FS) (x : UInt8) : (fhold ⟨s.held, s.sp, [], 0⟩ x).held = (fhold s x).held ∧ (fhold ⟨s.held, s.sp, [], 0⟩ x).sp = (fhold s x).sp ∧ (fhold s x).told = s.told ∧ (fhold s x).bad = s.bad := by
  unfold fhold
  dsimp only
  split <;> exact ⟨rfl, rfl, rfl, rfl⟩
theorem rest_block (a : Option Addr) (c k n m n' m' : Nat) (b : Nat) (h : (Value.slice (restF a c k) n m).ownBlock = some b) : (Value.slice a n' m').ownBlock = some b := by
  unfold restF at h
  split at h
  · cases a with
    | none => simp [Value.ownBlock] at h
    | some ad => simpa [Value.ownBlock] using h
  · cases a with
    | none => simp [Value.ownBlock] at h
    | some ad =>
      have e : (ad.add (k * 1)).block = ad.block := by unfold Addr.add; split <;> rfl
      simp only [Option.map_some, Value.ownBlock, e] at h
      exact h
theorem Chg.weaken {S S' : Nat → Prop} {w w' : World} (h : Chg S w w') (hS : ∀ k, S k → S' k) : Chg S' w w' := ⟨h.1, fun k hk hn => h.2 k hk (fun e => hn (hS k e))⟩
theorem Told.alloc {w : World} {lo : Nat} {tv hv : Value} {vs : List Value} {L : List (List UInt8)} (h : Told w lo tv hv vs L) (o : Obj) : Told (w.alloc o) lo tv hv vs L := ⟨World.ownsRow.alloc h.row o, h.len, fun j v b h1 h2 => ⟨(h.each j v b h1 h2).1.alloc o, (h.each j v b h1 h2).2⟩⟩
theorem segV_one (w : World) (v : Value) (k : Nat) (hk : k = w.heap.size) : SegV (w.alloc (.cells #[v] 22)) (.slice (some ⟨k, 0, none⟩) 1 1) [v] := by
  subst hk
  refine .inr ⟨_, 0, 1, rfl, by simp, Nat.le_refl _, fun j u hu => ?_⟩
  have hj : j = 0 := by
    rcases Nat.eq_zero_or_pos j with h | h
    · exact h
    · rw [List.getElem?_eq_none (by simp; omega)] at hu; cases hu
  subst hj
  simp at hu
  subst hu
  simp

set_option maxRecDepth 100000 in
set_option maxHeartbeats 4000000 in
theorem feed_any (lo g : Nat) (hv : Value) (held : List UInt8) (sp : Bool) (x : Value) (bs : List UInt8) (w : World) (hm : bs.length ≤ 100000) (hR : Rd 45 w lo g hv held sp) (hok : FS.ok ⟨held, sp, [], 0⟩) (hlo : lo ≤ w.heap.size)
    (hseg : Seg w x bs) (hx : 0 < bs.length → ∀ k, x.ownBlock = some k → ¬ Touch g hv k) (hgf : 0 < lo) (hf : Tab w 0 (fours.map v32)) :
    Calls Tryd.prog 11 #[.pointer (some ⟨g, 0, none⟩), x] w (feedPost 45 w lo g hv (feedS ⟨held, sp, [], 0⟩ bs)) := by
  obtain ⟨ao, c, rfl⟩ := hseg.shapeF
  obtain ⟨F, hF⟩ : ∃ F, F = feedS ⟨held, sp, [], 0⟩ bs := ⟨_, rfl⟩
  rw [← hF]
  go_enter Tryd.func11, Tryd.ntmps11
  have HF : Hid (F = feedS ⟨held, sp, [], 0⟩ bs) := hF
  clear hF
  go_wp2_with fail
  go_step3
  go_wp2_with fail
  go_step3
  go_wp2_with fail
  go_loopw [1, 6, 7] (fun bv tv sv wr => ∃ (a : Option Addr) (c : Nat) (rest : List UInt8) (hvr : Value) (vs : List Value) (st : FS), bv = .slice a rest.length c ∧ Seg w (.slice a rest.length c) rest ∧ (0 < rest.length → ∀ k, (Value.slice a rest.length c).ownBlock = some k → ¬ Touch g hv k) ∧ sv = .int .i64 (st.bad : Int) ∧ Rd 45 wr lo g hvr st.held st.sp ∧ Told wr w.heap.size tv hvr vs st.told ∧ Chg (Touch g hv) w wr ∧ Goes w hv hvr ∧ st.ok ∧ feedS st rest = F ∧ st.bad + rest.length ≤ 100000 ∧ st.told.length + rest.length ≤ 100000) (fun bv _ _ _ => lenOf bv)
  case atStart => exact ⟨ao, c, bs, hv, [], ⟨held, sp, [], 0⟩, rfl, hseg, hx, rfl, hR, Told.nil _ _ _, Chg.refl _ _, Goes.refl _ _, hok, HF.out.symm, by simpa using hm, by simpa using hm⟩
  case round =>
    obtain ⟨a, c2, rest, hvr, vs, st, rfl, hs, hsx, rfl, hRr, hT, hC, hG, hokr, hfin, hb1, hb2⟩ := hrel
    obtain ⟨wo, rfl⟩ : ∃ wo : World, wo = wr := ⟨_, rfl⟩
    obtain ⟨tv, rfl⟩ : ∃ tv : Value, tv = u6 := ⟨_, rfl⟩
    have HFI : Hid (feedS st rest = F) := hfin
    clear hfin HF
    go_wp2_with fail
    go_loopw [1, 6, 7, 14] (fun bv tv' sv iv wi => bv = .slice a rest.length c2 ∧ tv' = tv ∧ sv = .int .i64 (st.bad : Int) ∧ ∃ (k : Nat) (hvi : Value), iv = .int .i64 (k : Int) ∧ k ≤ rest.length ∧ Rd 45 wi lo g hvi (feedS st (rest.take k)).held (feedS st (rest.take k)).sp ∧ Told wi w.heap.size tv hvi vs st.told ∧ Chg (Touch g hv) w wi ∧ Goes w hv hvi ∧ (feedS st (rest.take k)).told = st.told ∧ (feedS st (rest.take k)).bad = st.bad) (fun _ _ _ iv _ => rest.length - (intOf iv).toNat)
    case atStart => exact ⟨rfl, rfl, rfl, 0, hvr, rfl, Nat.zero_le _, hRr, hT, hC, hG, rfl, rfl⟩
    case round =>
      obtain ⟨rfl, rfl, rfl, k, hvi, rfl, hk, hRi, hTi, hCi, hGi, htold, hbad⟩ := hrel
      have hoki := FS.ok_feed (rest.take k) st hokr
      have si := hCi.size
      by_cases hkl : k < rest.length
      · obtain ⟨b, off, rfl, hlc, hrow, hbl⟩ := (hs.chg hCi hsx).formF (by omega)
        have hcell := hrow k hkl
        have hft := feed_take st rest k hkl
        have hfd := feed_drop st rest k hkl
        rw [HFI.out] at hfd
        by_cases hz : rest[k] = 0
        · have hst : fstep (feedS st (rest.take k)) rest[k] = fend (feedS st (rest.take k)) := by unfold fstep; rw [if_pos hz]
          rw [hst] at hfd
          have hc0 : wr.cell? ⟨b, off + k, none⟩ = some (.int .u8 0) := by rw [hcell, hz]; rfl
          have l3 : ∀ w, (Instr.slice 22 (.slice (some ⟨b, off, none⟩) rest.length c2) (some (.int .i64 ((k : Int) + 1))) none none).run Tryd.prog w = .ok (.slice (restF (some ⟨b, off, none⟩) c2 (k + 1)) (rest.length - (k + 1)) (c2 - (k + 1))) w := fun w => by
            have := slice_restF (some ⟨b, off, none⟩) rest.length c2 (k + 1) (by omega) w
            simpa using this
          have hsd := hs.dropsF (k + 1) (by omega)
          have hsb : 0 < rest.length - (k + 1) → ∀ q, (Value.slice (restF (some ⟨b, off, none⟩) c2 (k + 1)) (rest.length - (k + 1)) (c2 - (k + 1))).ownBlock = some q → ¬ Touch g hv q := fun _ q hq => hsx (by omega) q (rest_block _ _ _ _ _ _ _ _ hq)
          have HL : Hid (rest.length - (k + 1) = (rest.drop (k + 1)).length) := by show _ = _; simp
          have hme : rest.length - (k + 1) < rest.length := by omega
          have HH : Hid (Calls Tryd.prog 14 #[.pointer (some ⟨g, 0, none⟩)] wr fun e w' => e = .returned (.int .i64 ((feedS st (rest.take k)).held.length : Int)) ∧ w' = wr) := held_any lo g hvi _ _ wr hRi
          have HE : Hid (∀ R, R = (if (feedS st (rest.take k)).sp then none else takenOf (feedS st (rest.take k)).held) → Calls Tryd.prog 20 #[.pointer (some ⟨g, 0, none⟩)] wr fun e w' => ∃ v, e = .returned (.tuple #[v, .bool R.isSome]) ∧ Own w' wr.heap.size v (R.getD []) ∧ Rd 45 w' lo g (.slice none 0 0) [] false ∧ Chg (fun k => k = g) wr w') := fun R hRR => end_any lo g hvi _ _ wr hRi hoki.1 (by omega) hgf (hf.chg hCi (by omega) (fun ht => by have := hR.touch _ ht; omega)) R hRR
          have HFD : Hid (F = feedS (fend (feedS st (rest.take k))) (rest.drop (k + 1))) := hfd
          clear hft hfd hst hz hcell HFI
          generalize feedS st (rest.take k) = ST1 at *
          by_cases h0 : ST1.held.length = 0
          · have hfe : fend ST1 = ST1 := by unfold fend; rw [if_pos h0]
            have HF2 : Hid (F = feedS ST1 (rest.drop (k + 1))) := by show _ = _; rw [HFD.out, hfe]
            have hh0 : ((ST1.held.length : Int) == 0) = true := by rw [h0]; rfl
            clear h0 hfe HFD HE
            go_wp2_with (go_at_call 14; refine HH.out.mono ?_; rintro e w2 ⟨rfl, rfl⟩)
            go_roundw
            case rel => exact ⟨restF (some ⟨b, off, none⟩) c2 (k + 1), c2 - (k + 1), rest.drop (k + 1), hvi, vs, ST1, by rw [HL.out], by rw [← HL.out]; exact hsd, by rw [← HL.out]; exact hsb, by rw [hbad], hRi, by rw [htold]; exact hTi, hCi, hGi, hoki, HF2.out.symm, by rw [← HL.out, hbad]; omega, by rw [← HL.out, htold]; omega⟩
            case measure => simp only [lenOf]; exact hme
          · have hh0 : ((ST1.held.length : Int) == 0) = false := by rw [beq_eq_false_iff_ne]; omega
            obtain ⟨R, hRe⟩ : ∃ R, R = (if ST1.sp then none else takenOf ST1.held) := ⟨_, rfl⟩
            have HE2 := HE.out R hRe
            have hTs : ∀ w', Chg (Touch g hvi) wr w' → Goes wr hvi (.slice none 0 0) → Told w' w.heap.size u6 (.slice none 0 0) vs st.told := fun w' h1 h2 => hTi.step hRi (by decide) (by decide) h1 h2
            cases R with
            | none =>
              have hfe : fend ST1 = ⟨[], false, ST1.told, ST1.bad + 1⟩ := by unfold fend; rw [if_neg h0, ← hRe]
              have HF2 : Hid (F = feedS ⟨[], false, ST1.told, ST1.bad + 1⟩ (rest.drop (k + 1))) := by show _ = _; rw [HFD.out, hfe]
              have HE3 : Hid (Calls Tryd.prog 20 #[.pointer (some ⟨g, 0, none⟩)] wr fun e w' => ∃ v, e = .returned (.tuple #[v, .bool false]) ∧ Own w' wr.heap.size v [] ∧ Rd 45 w' lo g (.slice none 0 0) [] false ∧ Chg (fun k => k = g) wr w') := HE2
              clear h0 hfe HFD HE hRe HE2
              go_wp2_with (first | (go_at_call 14; refine HH.out.mono ?_; rintro e w2 ⟨rfl, rfl⟩) | (go_at_call 20; refine HE3.out.mono ?_; rintro e w2 ⟨v2, rfl, ho2, hR2, hC2⟩))
              go_roundw
              case rel =>
                refine ⟨restF (some ⟨b, off, none⟩) c2 (k + 1), c2 - (k + 1), rest.drop (k + 1), .slice none 0 0, vs, ⟨[], false, ST1.told, ST1.bad + 1⟩, by rw [HL.out], by rw [← HL.out]; exact hsd, by rw [← HL.out]; exact hsb, by rw [hbad]; simp, hR2, ?_, hCi.trans hC2 (fun q _ hq => .inl hq), fun q hq => by simp [Value.ownBlock] at hq, ⟨by simp, fun h => by cases h⟩, HF2.out.symm, by rw [← HL.out]; simp only; rw [hbad]; omega, by rw [← HL.out]; simp only; rw [htold]; omega⟩
                show Told _ _ _ _ _ ST1.told
                rw [htold]
                exact hTs _ (hC2.weaken (fun q hq => .inl hq)) (fun q hq => by simp [Value.ownBlock] at hq)
              case measure => simp only [lenOf]; exact hme
            | some f =>
              have hfe : fend ST1 = ⟨[], false, ST1.told ++ [f], ST1.bad⟩ := by unfold fend; rw [if_neg h0, ← hRe]
              have HF2 : Hid (F = feedS ⟨[], false, ST1.told ++ [f], ST1.bad⟩ (rest.drop (k + 1))) := by show _ = _; rw [HFD.out, hfe]
              have HE3 : Hid (Calls Tryd.prog 20 #[.pointer (some ⟨g, 0, none⟩)] wr fun e w' => ∃ v, e = .returned (.tuple #[v, .bool true]) ∧ Own w' wr.heap.size v f ∧ Rd 45 w' lo g (.slice none 0 0) [] false ∧ Chg (fun k => k = g) wr w') := HE2
              have hvl : vs.length ≤ 100000 := by have := hTi.len; omega
              clear h0 hfe HFD HE hRe HE2
              go_wp2_with (first | (go_at_call 14; refine HH.out.mono ?_; rintro e w2 ⟨rfl, rfl⟩) | (go_at_call 20; refine HE3.out.mono ?_; rintro e w2 ⟨v2, rfl, ho2, hR2, hC2⟩; have hT2 := hTs _ (hC2.weaken (fun q hq => .inl hq)) (fun q hq => (by simp [Value.ownBlock] at hq)); have s2 := hC2.size; obtain ⟨a2, c3, rfl⟩ := ho2.seg.shapeF) | (at_builtin; refine app_rows _ rfl (.tmp 37) (.tmp 39) rfl w.heap.size _ vs rfl (by exact World.ownsRow.alloc hT2.row _) _ [.slice a2 f.length c3] rfl (by exact segV_one w2 _ _ rfl) (fun u hu => (by rw [List.mem_singleton.1 hu]; rfl)) (by simp; omega) (by simp; omega) ?_; intro tv3 w3 hr3 hg3 _))
              go_roundw
              case rel =>
                have hRa : Rd 45 (w2.alloc (.cells #[.slice a2 f.length c3] 22)) lo g (.slice none 0 0) [] false := hR2.chg (S := fun _ => False) ((Chg.refl _ _).alloc _) (fun _ _ h => h)
                have hTa := hT2.alloc (.cells #[.slice a2 f.length c3] 22)
                have hT3 := hTa.more hr3 hg3 ((ho2.mono si).alloc _) (fun q _ e => by simp [Value.ownBlock] at e)
                have hR3 := hRa.chg (Chg.of_grown hg3 (S := fun q => u6.ownBlock = some q) (fun q hq => hq)) (fun q hq e => by
                  rcases hq with rfl | hq
                  · exact row_blk hTa.row hRa.blk (by decide) e
                  · simp [Value.ownBlock] at hq)
                have hC3 : Chg (Touch g hv) w w3 := ((hCi.trans hC2 (fun q _ hq => .inl hq)).alloc _).trans (Chg.of_grown hg3 (S := fun q => u6.ownBlock = some q) (fun q hq => hq)) (fun q hq e => by have := (row_blocks hTa.row q e).1; omega)
                refine ⟨restF (some ⟨b, off, none⟩) c2 (k + 1), c2 - (k + 1), rest.drop (k + 1), .slice none 0 0, vs ++ [.slice a2 f.length c3], ⟨[], false, ST1.told ++ [f], ST1.bad⟩, by rw [HL.out], by rw [← HL.out]; exact hsd, by rw [← HL.out]; exact hsb, by rw [hbad], hR3, ?_, hC3, fun q hq => by simp [Value.ownBlock] at hq, ⟨by simp, fun h => by cases h⟩, HF2.out.symm, by rw [← HL.out]; simp only; rw [hbad]; omega, by rw [← HL.out]; simp only [List.length_append, List.length_cons, List.length_nil]; rw [htold]; omega⟩
                show Told _ _ _ _ _ (ST1.told ++ [f])
                rw [htold]
                exact hT3
              case measure => simp only [lenOf]; exact hme
        · have hXz : (n8 rest[k] == 0) = false := by
            simp only [beq_eq_false_iff_ne, ne_eq, n8]
            intro h
            exact hz (UInt8.toNat_inj.1 (by simpa using h))
          have hst : fstep (feedS st (rest.take k)) rest[k] = fhold (feedS st (rest.take k)) rest[k] := by unfold fstep; rw [if_neg hz]
          have HFT : Hid (feedS st (rest.take (k + 1)) = fhold (feedS st (rest.take k)) rest[k]) := hft.trans hst
          have hH := hold_any lo g hvi _ _ rest[k] wr hRi hoki.1 (by omega)
          have HH : Hid (Calls Tryd.prog 19 #[.pointer (some ⟨g, 0, none⟩), .int .u8 (n8 rest[k])] wr fun e w' => (∃ v, e = .returned v) ∧ ∃ hv', Rd 45 w' lo g hv' (fhold (feedS st (rest.take k)) rest[k]).held (fhold (feedS st (rest.take k)) rest[k]).sp ∧ Chg (Touch g hvi) wr w' ∧ Goes wr hvi hv') := by
            rw [(fhold_fields (feedS st (rest.take k)) rest[k]).1, (fhold_fields (feedS st (rest.take k)) rest[k]).2.1] at hH
            exact hH
          obtain ⟨_, _, h3, h4⟩ := fhold_fields (feedS st (rest.take k)) rest[k]
          clear hft hfd hst hH hz
          generalize fhold (feedS st (rest.take k)) rest[k] = ST2 at *
          generalize feedS st (rest.take k) = ST1 at *
          generalize n8 rest[k] = X at *
          go_wp2_with (go_at_call 19; refine HH.out.mono ?_; rintro e w2 ⟨⟨v2, rfl⟩, hv2, hR2, hC2, hG2⟩)
          go_roundw
          case rel =>
            refine ⟨rfl, rfl, rfl, k + 1, hv2, by simp, by omega, ?_, hTi.step hRi (by decide) (by decide) hC2 hG2, hCi.trans hC2 (Touch.goes hGi), hGi.trans hG2 si, ?_, ?_⟩
            · rw [HFT.out]; exact hR2
            · rw [HFT.out, h3]; exact htold
            · rw [HFT.out, h4]; exact hbad
          case measure => simp only [intOf]; omega
      · obtain rfl : k = rest.length := by omega
        rw [List.take_length, HFI.out] at *
        go_wp2
        go_ret2
        refine ⟨_, vs, hvi, by rw [hbad]; rfl, hRi, ?_, hCi, hGi⟩
        rw [htold]; exact hTi
end Go.Proofs.YtchbfhckocfjhaaDoor
