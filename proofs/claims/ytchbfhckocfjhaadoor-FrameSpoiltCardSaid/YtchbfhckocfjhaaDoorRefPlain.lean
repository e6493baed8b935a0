/-
  What is proved here: the document's Plain answers the bytes whose Stuff is handed in, and OK; none and ErrForm, if there are none.
  Conditions: at most a million bytes.
-/
import Derived.Test.YtchbfhckocfjhaaDoorRefStuff
import Derived.Test.YtchbfhckocfjhaaDoorFramePlain
import Derived.Test.YtchbfhckocfjhaaDoorAnyHeld
namespace Go.Proofs.YtchbfhckocfjhaaDoor
open Go.RowKit

theorem docA_zero (acc : List UInt8) (x : UInt8) (t : List UInt8) (h : x = 0 ∨ t.length + 1 < x.toNat) : docA acc (x :: t) = none := by
  rw [docA, if_pos h]
theorem docA_step (acc : List UInt8) (x : UInt8) (t : List UInt8) (n : Nat) (hx : x.toNat = n + 1) (h : n ≤ t.length) : docA acc (x :: t) = docA (acc ++ t.take n ++ (if n < 254 then [0] else [])) (t.drop n) := by
  rw [docA, if_neg, hx, Nat.add_sub_cancel]
  rintro (h1 | h1)
  · rw [h1] at hx; simp at hx
  · omega

set_option maxRecDepth 100000 in
set_option maxHeartbeats 4000000 in
theorem refPlain_any (x : Value) (bs : List UInt8) (w : World) (hm : bs.length ≤ 1000000) (hseg : Seg w x bs) :
    Calls Tryd.prog 21 #[x] w (plainPost w (plainOf bs)) := by
  obtain ⟨ao, c, rfl⟩ := hseg.shapeF
  rw [← docPlain_eq]
  generalize hPO : docPlain bs = PO
  have HPO : Hid (docPlain bs = PO) := hPO
  clear hPO
  have HW : Hid (∀ (W : World) (k : Nat), k = W.heap.size → Row (W.alloc (.cells #[.int .u8 0] 5)) k 0 [0]) := fun W k hk => by subst hk; exact row_one W 0 _
  go_enter Tryd.func21, Tryd.ntmps21
  go_wp2_with fail
  go_loopw [4, 5] (fun out rv wr => ∃ (a : Option Addr) (c : Nat) (r acc : List UInt8), rv = .slice a r.length c ∧ Seg w (.slice a r.length c) r ∧ Own wr w.heap.size out acc ∧ Below w.heap.size w wr ∧ docA acc r = docA [] bs ∧ acc.length + r.length ≤ bs.length) (fun _ rv _ => lenOf rv)
  case atStart => exact ⟨ao, c, bs, [], rfl, hseg, ⟨rfl, .inl ⟨rfl, rfl⟩⟩, Below.refl _ _, rfl, by simp⟩
  case round =>
    obtain ⟨a, c4, r, acc, rfl, hs, ho, hb, hdoc, hl⟩ := hrel
    have sw := hb.size
    cases r with
    | nil =>
      have hD : docPlain bs = if acc.getLast? = some 0 then if stuff acc.dropLast = bs then some acc.dropLast else none else none := by
        unfold docPlain; rw [← hdoc, docA]
      rw [HPO.out] at hD
      clear hdoc HW
      rcases List.eq_nil_or_concat acc with rfl | ⟨d, z, rfl⟩
      · have hPn : PO = none := by rw [hD]; simp
        subst hPn
        clear hD HPO
        obtain ⟨ab, cb, rfl⟩ := ho.seg.shapeF
        go_wp2
        go_ret2
        exact ⟨rfl, hb⟩
      · obtain ⟨g, cap, rfl, hgb, hgl, hgc, hrow⟩ := ho.form (by simp)
        simp only [List.concat_eq_append, List.length_append, List.length_cons, List.length_nil, Nat.zero_add] at ho hgc hl ⊢
        have hz := hrow d.length (by simp)
        rw [Nat.zero_add] at hz
        simp only [List.concat_eq_append, List.getElem_concat_length] at hz
        simp only [List.concat_eq_append, List.getLast?_concat, List.dropLast_concat, Option.some.injEq] at hD
        clear hrow
        have hne0 : ((d.length : Int) + 1 == 0) = false := by simp; omega
        by_cases h0 : z = 0
        · subst h0
          rw [if_pos rfl] at hD
          have hz' : wr.cell? ⟨g, d.length, none⟩ = some (.int .u8 0) := hz
          have l1 := slice_toF (some ⟨g, 0, none⟩) (d.length + 1) cap d.length (by omega)
          have ho2 := ho.shrink d.length (by omega)
          rw [List.take_append_of_le_length (Nat.le_refl _), List.take_length] at ho2
          clear hz HPO
          go_wp2_with fail
          refine held_begin (fun W => Below wr.heap.size wr W) (by kernel_rfl) ?_
          have hS0 : Below wr.heap.size wr wr.drew := (Below.refl _ _).drew
          refine held_take 0 57 _ _ rfl rfl (by kernel_rfl) (by kernel_rfl) (by kernel_rfl) rfl hS0 (fun _ _ => rfl) ?_
          refine held_take 3 60 _ _ rfl rfl (by kernel_rfl) (by kernel_rfl) (by kernel_rfl) rfl hS0 (fun _ _ => rfl) ?_
          refine held_take 4 61 _ (.string ⟨bs.toArray⟩) rfl rfl (by kernel_rfl) (by kernel_rfl) (by kernel_rfl) rfl hS0 (fun W hW => exec_conv _ _ _ rfl _ _ rfl (seg_stringF (hseg.below (hb.trans (hW.mono sw)) (Nat.le_refl _)) 9 Tryd.underlying9)) ?_
          refine held_call 1 58 _ 17 _ rfl rfl (by kernel_rfl) rfl (exec_one 17 _ _ rfl _ rfl Tryd.call17) ?_
          refine (refStuff_any _ d _ (by omega) ho2.seg.drew).mono ?_
          rintro e w1 ⟨v1, rfl, ho1, hb1⟩
          have hS1 : Below wr.heap.size wr w1 := hS0.trans hb1
          refine ⟨v1, rfl, hS1, ?_⟩
          refine held_one 2 59 _ (.string ⟨(stuff d).toArray⟩) rfl rfl (by kernel_rfl) rfl hS1 (exec_conv _ _ _ rfl _ _ rfl (seg_stringF ho1.seg 9 Tryd.underlying9)) ?_
          refine held_one 5 62 _ (.bool (!decide (stuff d = bs))) rfl rfl (by kernel_rfl) rfl hS1 (exec_cmp _ _ _ _ _ rfl (.inl rfl) _ _ _ rfl rfl rfl (neq_string _ _ _)) ?_
          refine wpAnyH_done (by kernel_rfl) ?_ _
          refine NoPanic.normal ?_
          have hBw := hb.trans (hS1.mono sw)
          have ho4 := ho2.below hS1 (Nat.le_refl _)
          generalize (⟨(stuff d).toArray⟩ : ByteArray) = B1
          by_cases hE : stuff d = bs
          · rw [if_pos hE] at hD
            subst hD
            rw [show decide (stuff d = bs) = true by simp [hE]]
            clear hE ho1 hb1
            go_wp2
            go_ret2
            exact ⟨⟨_, rfl, ho4⟩, hBw⟩
          · rw [if_neg hE] at hD
            subst hD
            rw [show decide (stuff d = bs) = false by simp [hE]]
            clear hE ho1 hb1
            go_wp2
            go_ret2
            exact ⟨rfl, hBw⟩
        · rw [if_neg h0] at hD
          subst hD
          have hzb : (n8 z == 0) = false := by
            simp only [beq_eq_false_iff_ne, ne_eq, n8]
            intro h
            exact h0 (UInt8.toNat_inj.1 (by simpa using h))
          generalize n8 z = Z at hz hzb
          clear HPO h0
          go_wp2
          go_ret2
          exact ⟨rfl, hb⟩
    | cons y t =>
      obtain ⟨b, off, rfl, hlc, hr, hbl⟩ := hs.formF (by simp)
      have hcell : wr.cell? ⟨b, off, none⟩ = some (.int .u8 (y.toNat : Int)) := by
        have := (hr.below hb hbl) 0 (by simp)
        rw [Nat.add_zero] at this
        exact this
      have hlt := y.toNat_lt
      obtain ⟨ab, cb, rfl⟩ := ho.seg.shapeF
      simp only [List.length_cons] at hs hlc hl ⊢
      rcases Nat.eq_zero_or_pos y.toNat with hy | hy
      · have hno := docA_zero acc y t (.inl (UInt8.toNat_inj.1 (by simpa using hy)))
        have hPn : PO = none := by rw [← HPO.out]; unfold docPlain; rw [← hdoc, hno]
        subst hPn
        rw [hy] at hcell
        clear hy hdoc hno HPO HW
        go_wp2
        go_ret2
        exact ⟨rfl, hb⟩
      · obtain ⟨n, hn⟩ : ∃ n, y.toNat = n + 1 := ⟨y.toNat - 1, by omega⟩
        have hn255 : n ≤ 254 := by omega
        by_cases hnt : n ≤ t.length
        · have hstep := docA_step acc y t n hn hnt
          rw [hdoc] at hstep
          have hst := hs.takesF (n + 1) (by omega)
          have hsT := hst.1.dropsF 1 (by omega)
          have htk : ((y :: t).take (n + 1)).drop 1 = t.take n := by simp
          rw [htk, Nat.add_sub_cancel] at hsT
          have hsTw := hsT.below hb (Nat.le_refl _)
          have hsD := hs.dropsF (n + 1) (by omega)
          have hdr : (y :: t).drop (n + 1) = t.drop n := by simp
          rw [hdr] at hsD
          have l1 : ∀ w, (Instr.slice 22 (.slice (some ⟨b, off, none⟩) (t.length + 1) c4) (some (.int .i64 1)) (some (.int .i64 ((n : Int) + 1))) none).run Tryd.prog w = .ok (.slice (restF (some ⟨b, off, none⟩) c4 1) n (c4 - 1)) w := fun w => by
            have := slice_midF (some ⟨b, off, none⟩) (t.length + 1) c4 1 (n + 1) (by omega) hst.2 w
            simpa using this
          have l2 : ∀ w, (Instr.slice 22 (.slice (some ⟨b, off, none⟩) (t.length + 1) c4) (some (.int .i64 ((n : Int) + 1))) none none).run Tryd.prog w = .ok (.slice (restF (some ⟨b, off, none⟩) c4 (n + 1)) (t.length + 1 - (n + 1)) (c4 - (n + 1))) w := fun w => by
            have := slice_restF (some ⟨b, off, none⟩) (t.length + 1) c4 (n + 1) (by omega) w
            simpa using this
          have HL : Hid (t.length - n = (t.drop n).length) := by show _ = _; simp
          have hTl : (t.take n).length ≤ n := by simp; omega
          obtain ⟨RP, hRP⟩ : ∃ RP, RP = acc ++ t.take n := ⟨_, rfl⟩
          have HP : Hid (acc ++ t.take n = RP) := hRP.symm
          have hRl : RP.length + (t.length - n) ≤ acc.length + t.length := by rw [hRP]; simp; omega
          rw [← hRP] at hstep
          clear hRP hdoc htk hdr hst hy
          generalize t.take n = TK at *
          generalize hTD : t.drop n = TD at *
          clear hTD
          rw [hn] at hcell
          have e1 : t.length + 1 - (n + 1) = t.length - n := by omega
          rw [e1] at hsD l2
          clear e1 hn hlt hr hs
          by_cases h254 : n < 254
          · rw [if_pos h254] at hstep
            have HST : Hid (docA [] bs = docA (RP ++ [0]) TD) := hstep
            have hdd : decide ((n : Int) < 254) = true := by simp; omega
            clear hstep
            go_wp2_with (first
              | (at_builtin; refine app_own _ rfl (.tmp 25) (.tmp 29) rfl w.heap.size _ acc rfl ho _ TK rfl hsTw (by omega) sw ?_; intro v5 w5 ho5 hg5 _; rw [HP.out] at ho5; have hB5 := below_grown hb hg5 sw (fun q hq => (ho.blocks q hq).1); have s5 := hB5.size; clear hg5; obtain ⟨a5, c5, rfl⟩ := ho5.seg.shapeF)
              | (at_builtin; refine app_own _ rfl (.tmp 37) (.tmp 38) rfl w.heap.size _ RP rfl (by exact ho5.alloc _) _ [0] rfl (by exact Seg.of_row (HW.out w5 _ rfl) rfl (Nat.le_refl _) (by simp)) (by simp; omega) (by simp; omega) ?_; intro v6 w6 ho6 hg6 _; have hB6 := below_grown (hB5.alloc s5 _) hg6 (by simp; omega) (fun q hq => (ho5.blocks q hq).1); clear hg6)
              | fail)
            go_roundw
            case rel => exact ⟨_, _, TD, RP ++ [0], by rw [HL.out], by rw [← HL.out]; exact hsD, ho6, hB6, HST.out.symm, by rw [← HL.out]; simp; omega⟩
            case measure => simp only [lenOf]; omega
          · rw [if_neg h254, List.append_nil] at hstep
            have HST : Hid (docA [] bs = docA RP TD) := hstep
            have hdd : decide ((n : Int) < 254) = false := by simp; omega
            clear hstep
            go_wp2_with (first
              | (at_builtin; refine app_own _ rfl (.tmp 25) (.tmp 29) rfl w.heap.size _ acc rfl ho _ TK rfl hsTw (by omega) sw ?_; intro v5 w5 ho5 hg5 _; rw [HP.out] at ho5; have hB5 := below_grown hb hg5 sw (fun q hq => (ho.blocks q hq).1); have s5 := hB5.size; clear hg5; obtain ⟨a5, c5, rfl⟩ := ho5.seg.shapeF)
              | fail)
            go_roundw
            case rel => exact ⟨_, _, TD, RP, by rw [HL.out], by rw [← HL.out]; exact hsD, ho5, hB5, HST.out.symm, by rw [← HL.out]; omega⟩
            case measure => simp only [lenOf]; omega
        · have hno := docA_zero acc y t (.inr (by omega))
          have hPn : PO = none := by rw [← HPO.out]; unfold docPlain; rw [← hdoc, hno]
          subst hPn
          rw [hn] at hcell
          clear hy hdoc hno HPO HW hn hlt
          go_wp2
          go_ret2
          exact ⟨rfl, hb⟩
end Go.Proofs.YtchbfhckocfjhaaDoor
