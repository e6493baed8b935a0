/-
  What is proved here: the disk's crash, beside rows that a call gathers.
  Conditions: those that the fact names.
-/
import Derived.Test.YtojgeahablphbaaGreatJWalSegs
import Derived.Test.YtojgeahablphbaaGreatJPDiskCrash
namespace Go.Proofs.YtojgeahablphbaaGreat
open Go.RowKit

theorem x_crash {B : Nat} {D : Nat → Prop} {w : World} {L : PLay} {s : DS} (h : DiskX B D w L s) (sv : Value) (stay : List Bool) (torn cut : Int) (hS : BoolsA w L.T sv stay) :
    Calls Tryz.prog 11 #[.pointer (some ⟨L.g, 0, none⟩), sv, .int .i64 torn, .int .i64 cut] w fun e w' => e = .returned (.tuple #[]) ∧ DiskX B D w' L (crashS s stay torn cut) ∧ Chg (Off B D) w w' := by
  obtain ⟨C, h1, h2, h3, h4⟩ := h
  refine (crash_any (L.off w C) s sv stay torn cut w h1.d hS).mono ?_
  rintro e w' ⟨rfl, hP, hc⟩
  exact ⟨rfl, ⟨_, h1.step hP hc, x_fr h2 h3 h4, fun q hq => Nat.lt_of_lt_of_le (h3 q hq) hc.size, Nat.le_trans h4 hc.size⟩, hc.weaken (fun q hq => h2 q (h1.own q hq))⟩
end Go.Proofs.YtojgeahablphbaaGreat
