/- Package utf's Put and Text. -/
import Derived.Test.YtfapoicnkdallaaMh12Thre
import Derived.Laws.BytesArg
import Derived.Test.YtfapoicnkdallaaMh35Thre
import Derived.Test.YtfapoicnkdallaaMh14Thre
import Derived.Test.YtfapoicnkdallaaMh13Thre
import Derived.Test.YtfapoicnkdallaaMh4Thre
import Derived.Test.YtfapoicnkdallaaMh1Thre
import Derived.Deep.QuietTactic
import Derived.BigQuiet
import Derived.Deep.RegionWith
import Derived.Lib.ConvBytes
import Derived.Deep.RegionHeld3
import Derived.Deep.DeepCutAuto
import Derived.Test.YtfapoicnkdallaaMh19Thre
import Derived.Test.YtfapoicnkdallaaMh16Thre
import Derived.Laws.MakeOwn
import Derived.Lib.AppendZeros
import Derived.RegionTactic
import Derived.Lib.SliceRun
import Derived.Test.YtfapoicnkdallaaMh21Thre
namespace Go.Proofs.Ytfapoicnkdallaa
open Go.RowKit Go.Shelf
def U.okAll (l : List Int) : Bool := l.all fun c => U.size c != 0
/-- the text of codes; whether all are codes -/
def U.text (l : List Int) : ByteArray × Bool := if U.okAll l then (strOfNums (l.flatMap U.put), true) else (ByteArray.empty, false)
end Go.Proofs.Ytfapoicnkdallaa

/- Layer 14, the document: get, Scan, Parse. -/
set_option linter.unusedVariables false
set_option linter.unusedSimpArgs false
namespace Go.Proofs.Ytfapoicnkdallaa
open Go.RowKit Go.Shelf
namespace Vt
theorem txt_err {f : Nat} : ∀ {l : List Int} {p : Nat} {acc : List Int} {a : Nat} {er : Int}, l.length + 1 ≤ p + f → p ≤ l.length → txt f l p acc = .inl (a, er) → er ≠ 0 := by
  induction f with
  | zero => intro l p acc a er hf hp h; omega
  | succ f ih =>
    intro l p acc a er hf hp h
    simp only [txt] at h
    split at h
    · cases h; decide
    · split at h
      · cases h
      · split at h
        · split at h
          · exact ih (by omega) (by omega) h
          · cases h; decide
        · exact ih (by omega) (by omega) h
theorem items_err {rv : Nat → Out (PV × Nat)} {l : List Int} (hrv : ∀ p a er, rv p = .inl (a, er) → er ≠ 0) (hpl : ∀ p v q, rv p = .inr (v, q) → p + szV v ≤ q ∧ q ≤ l.length) {f : Nat} : ∀ {p : Nat} {acc : List PV} {a : Nat} {er : Int}, p ≤ l.length → l.length + 1 ≤ p + f → items rv l f p acc = .inl (a, er) → er ≠ 0 := by
  induction f with
  | zero => intro p acc a er hp hf h; omega
  | succ f ih =>
    intro p acc a er hp hf h
    simp only [items] at h
    split at h
    · rename_i e he
      cases h
      exact hrv _ _ _ he
    · rename_i v q hv
      have h1 := hpl _ _ _ hv
      have h2 := szV_pos v
      split at h
      · cases h; decide
      · split at h
        · exact ih (by omega) (by omega) h
        · split at h
          · cases h
          · cases h; decide
theorem flat_err {l : List Int} {p : Nat} {a : Nat} {er : Int} (hp : p < l.length) (h : flat l p = .inl (a, er)) : er ≠ 0 := by
  unfold flat txV wdV at h
  split at h
  · split at h
    · rename_i e he
      cases h
      exact txt_err (by omega) (by omega) he
    · cases h
  · split at h
    · split at h
      · cases h
      · cases h; decide
    · split at h
      · split at h
        · cases h
        · rename_i he; cases h; exact he
      · split at h
        · split at h
          · cases h
          · cases h; decide
        · cases h; decide
theorem one_err {sub : Nat → Out (List PV × Nat)} {l : List Int} (hs : ∀ p a er, p < l.length → sub p = .inl (a, er) → er ≠ 0) {p : Nat} {a : Nat} {er : Int} (h : one sub l p = .inl (a, er)) : er ≠ 0 := by
  unfold one lsV at h
  split at h
  · cases h; decide
  · split at h
    · split at h
      · rename_i e he
        cases h
        exact hs _ _ _ (by omega) he
      · cases h
    · exact flat_err (by omega) h
theorem val_err (l : List Int) : ∀ d p a er, val d l p = .inl (a, er) → er ≠ 0 := by
  intro d
  induction d with
  | zero => intro p a er h; exact one_err (fun p a er _ h => by cases h; decide) h
  | succ d ih =>
    intro p a er h
    refine one_err (fun p a er hp h => ?_) h
    unfold lst at h
    split at h
    · cases h; decide
    · split at h
      · cases h
      · exact items_err (fun p a er h => ih p a er h) (fun p v q h => val_place l d p v q h) (by omega) (by omega) h
end Vt
end Go.Proofs.Ytfapoicnkdallaa
