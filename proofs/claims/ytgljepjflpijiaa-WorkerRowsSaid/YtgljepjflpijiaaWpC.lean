/-
  Package worker keeps the contracts asked of it. No condition.
-/
import Derived.Test.YtgljepjflpijiaaWpUn
import Derived.Test.YtgljepjflpijiaaWpNew
namespace Go.Proofs.Ytgljepjflpijiaa
open Go.RowKit Go.Deep
set_option linter.unusedVariables false

theorem WpTurn.lift {W : World} {q m : Nat} {s' : Wk.W} {v : Value} {e : Ending} {w' : World} {X : Nat → Prop} (hX : ∀ i, X i ↔ i = q ∨ i = m) (h : WpTurn W q m s' v e w') : WkTurn WpL X q s' v W e w' :=
  ⟨X, h.1, ⟨m, hX, h.2.1⟩, fun _ hi => .inl hi, h.2.2.more fun i _ hi => (hX i).2 hi⟩
theorem wc_any : WC WpL where
  keep := fun w w' X q s ⟨m, hX, h⟩ hz hk => ⟨m, hX, h.keep (hk q ((hX q).2 (.inl rfl))) (hk m ((hX m).2 (.inr rfl)))⟩
  lt := fun w X q s ⟨m, hX, h⟩ i hi => by
    rcases (hX i).1 hi with rfl | rfl
    · exact h.cells.2.2.2
    · exact h.lt
  ok := fun w X q s ⟨m, hX, h⟩ => h.ok
  make := fun W n many _ _ hm => (wpnew_make W n many hm).mono fun e w' ⟨q, m, h1, h2, h3, h4, h5⟩ => ⟨q, fun i => i = q ∨ i = m, h1, ⟨m, fun _ => Iff.rfl, h2⟩, fun i hi => by rcases hi with rfl | rfl <;> assumption, h5⟩
  none_ := fun W n many _ _ hm => wpnew_none W n many hm
  apply := fun W X q s x ⟨m, hX, h⟩ hx => (wpapply_any W q m s x h hx).mono fun _ _ hp => hp.lift hX
  go := fun W X q s u ⟨m, hX, h⟩ hu => (wpgo_any W q m s u h hu).mono fun _ _ hp => hp.lift hX
  hurt := fun W X q s u ⟨m, hX, h⟩ hu => (wphurt_any W q m s u h hu).mono fun _ _ hp => hp.lift hX
  heal := fun W X q s u ⟨m, hX, h⟩ hu => (wpheal_any W q m s u h hu).mono fun _ _ hp => hp.lift hX
  fall := fun W X q s ⟨m, hX, h⟩ => (wpfall_any W q m s h).mono fun _ _ hp => hp.lift hX
  report := fun W X q s u ⟨m, hX, h⟩ hu => wpreport_any W q m s u h hu
  slot := fun W X q s u ⟨m, hX, h⟩ hu => wpslot_any W q m s u h hu
  units := fun W X q s ⟨m, hX, h⟩ => wpunits_any W q m s h
  seen := fun W X q s ⟨m, hX, h⟩ => wpseen_any W q m s h
  count := fun W X q s st ⟨m, hX, h⟩ _ => wpcount_any W q m s st h
end Go.Proofs.Ytgljepjflpijiaa
