/-
  What is proved here: pack's reader takes a record, if it takes the values in it.
  Conditions: those that each fact names.
-/
import Derived.Test.YtjepeonekhhgfaaPackReader
namespace Go.Proofs.Ytjepeonekhhgfaa
open Go.RowKit

set_option maxRecDepth 100000 in
set_option maxHeartbeats 1000000 in
theorem takeR_any (r : Nat) (hv : valSaid r) : recSaid (r + 1) := by
  intro n lv l M s g w0 w hM hF hR
  obtain ⟨hS, hl1, hl16, hMb⟩ := mostL_succ hM
  obtain ⟨ao, c, hlv, _, _⟩ := hF.form
  have HC0 := listV_any r l lv w0 g (rec1_any r hv n l lv M w0 g hS hF) hl16
  subst hlv
  have hgw := hR.lt
  have hres : decL (r + 1) l s = seqD (oneD (decL r)) l s := rfl
  rw [hres]
  generalize seqD (oneD (decL r)) l = SD at HC0 ⊢
  obtain ⟨W, hW⟩ : ∃ W, W = (w.alloc (.cells #[.pointer (some ⟨g, 0, none⟩)] 64)).alloc (.cells #[.slice ao l.length c] 22) := ⟨_, rfl⟩
  have hb0 : Below w.heap.size w W := by rw [hW]; exact ((Below.refl _ _).alloc (Nat.le_refl _) _).alloc (by simp) _
  have hCap : Cap W g w.heap.size (w.heap.size + 1) 22 #[.slice ao l.length c] := ⟨by rw [hW]; exact (Blk.new _ _ _).alloc _, by rw [hW]; exact Blk.newAt _ _ _ _ (by simp), by omega, by omega⟩
  have HC : Hid (Calls Try.prog 34 #[.int .i64 (l.length : Int), .func (.func 35) #[] #[.pointer (some ⟨w.heap.size, 0, none⟩), .pointer (some ⟨w.heap.size + 1, 0, none⟩)]] W fun e w' => takePost w0 W g (SD s) (fun v val w' => ValsK w' (fun b => W.heap.size ≤ b) (r + 1) val v) (.slice none 0 0) e w') := HC0 _ _ s W (hR.below hb0) hCap
  have sW := hb0.size
  clear HC0 hF hM hS
  obtain ⟨res, hre⟩ : ∃ res, res = SD s := ⟨_, rfl⟩
  rw [← hre] at HC ⊢
  clear hre
  obtain ⟨len, hle⟩ : ∃ len, l.length = len := ⟨_, rfl⟩
  rw [hle] at HC hW hl1 hl16 ⊢
  rw [hW] at HC
  go_enter Try.func28, Try.ntmps28
  cases res with
  | none =>
    go_wp2_with (go_at_call 34; refine HC.out.mono ?_; rw [← hW]; rintro e w3 ⟨⟨s3, rfl, hR3⟩, hg3⟩)
    go_ret2
    exact ⟨⟨s3, rfl, hR3⟩, grown_trans (grows_below hb0 _) hg3⟩
  | some q =>
    go_wp2_with (go_at_call 34; refine HC.out.mono ?_; rw [← hW]; rintro e w3 ⟨⟨v3, rfl, hv3, hR3⟩, hg3⟩; obtain ⟨a3, n3, c3, rfl⟩ := vals_form (hv3 _ (Agree.refl _ _)))
    go_ret2
    exact ⟨⟨_, rfl, hv3.mono (fun b hb => Nat.le_trans sW hb), hR3⟩, grown_trans (grows_below hb0 _) hg3⟩
end Go.Proofs.Ytjepeonekhhgfaa
