/-
  What a round of the plays of layer 5 finds: a disk, and steps in a row of the call's own, apart from each other.
-/
import Derived.Test.YtoapdkncddhgiaaDskX
import Derived.Test.YtoapdkncddhgiaaDskSteps
import Derived.Test.YtoapdkncddhgiaaTxt
namespace Go.Proofs.Ytoapdkncddhgiaa
open Go.RowKit

structure PRel (w : World) (X : Nat → Prop) (B : Nat) (v : Value) (es : List Stp) (r : Nat) (d : Dk.St) (W : World) : Prop where
  below : Below w.heap.size w W
  row : OwnR 3 EStp 32 w W B v es
  disk : DskX W X r d
  inX : ∀ i, X i → w.heap.size ≤ i ∧ v.ownBlock ≠ some i
  fresh : ∀ i, W.heap.size ≤ i → X i
section
variable {w : World} {X : Nat → Prop} {B : Nat} {v : Value} {es : List Stp} {r : Nat} {d : Dk.St} {W : World}
theorem PRel.on {W' : World} (h : PRel w X B v es r d W) (hb : Below W.heap.size W W') : PRel w X B v es r d W' :=
  ⟨h.below.trans (hb.mono h.below.size), h.row.below hb, h.disk.below hb, h.inX, fun i hi => h.fresh i (Nat.le_trans hb.size hi)⟩
/-- A store to a block that is neither the disk's nor the row's. -/
theorem PRel.other {W' : World} {g : Nat} (h : PRel w X B v es r d W) (hg : W.grownBy W' (some g)) (h1 : w.heap.size ≤ g) (h2 : ¬ X g) (h3 : v.ownBlock ≠ some g) : PRel w X B v es r d W' :=
  ⟨h.below.grown hg h.below.size (fun k hk => by injection hk with hk; omega), h.row.keep (fun k hk => hg.block k (h.row.lt k hk).2 (fun e => h3 (by rw [hk, e]))),
    h.disk.keep (fun i hi hlt => hg.block i hlt (fun e => h2 (by injection e with e; rw [← e]; exact hi))), h.inX, fun i hi => h.fresh i (Nat.le_trans hg.size hi)⟩
theorem PRel.step {d' : Dk.St} {x : Value} {e : Ending} {w' : World} (h : PRel w X B v es r d W) (hp : XPost W X r d' x e w') : e = .returned x ∧ PRel w X B v es r d' w' ∧ Kept X W w' := by
  obtain ⟨rfl, h1, h2⟩ := hp
  exact ⟨rfl, ⟨h.below.trans (h2.below h.below.size fun i hi => (h.inX i hi).1), h.row.keep fun k hk => h2.block k (h.row.lt k hk).2 (fun hx => (h.inX k hx).2 hk), h1, h.inX, fun i hi => h.fresh i (Nat.le_trans h2.size hi)⟩, h2⟩
end
def PPost (w : World) (X : Nat → Prop) (B : Nat) (v : Value) (es : List Stp) (r : Nat) (d : Dk.St) (W : World) (x : Value) (e : Ending) (w' : World) : Prop :=
  e = .returned x ∧ PRel w X B v es r d w' ∧ Kept X W w'
section
variable {w : World} {X : Nat → Prop} {B : Nat} {v : Value} {es : List Stp} {r : Nat} {d : Dk.St} (W : World) (h : PRel w X B v es r d W)
include h
theorem dWrite_p {n c : Nat} {A : Option Addr} {b : List Nat} (hs : Sl W A n c b) : Calls Try.prog 15 #[.pointer (some ⟨r, 0, none⟩), .slice A n c] W (PPost w X B v es r (Dk.write d b) W (.int .i64 (Dk.writeE d b))) :=
  (dWrite_x W h.disk h.fresh hs).mono fun _ _ hp => h.step hp
theorem dSwap_p {n c : Nat} {A : Option Addr} {b : List Nat} (hs : Sl W A n c b) : Calls Try.prog 23 #[.pointer (some ⟨r, 0, none⟩), .slice A n c] W (PPost w X B v es r (Dk.swap d b) W (.int .i64 (Dk.swapE d b))) :=
  (dSwap_x W h.disk h.fresh hs).mono fun _ _ hp => h.step hp
theorem dSync_p : Calls Try.prog 17 #[.pointer (some ⟨r, 0, none⟩)] W (PPost w X B v es r (Dk.sync d) W (.int .i64 (Dk.opens d : Nat))) :=
  (dSync_x W h.disk h.fresh).mono fun _ _ hp => h.step hp
theorem dCrash_p {keep : Int} (hk : -9223372036854775808 ≤ keep ∧ keep ≤ 9223372036854775807) : Calls Try.prog 19 #[.pointer (some ⟨r, 0, none⟩), .int .i64 keep] W (PPost w X B v es r (Dk.crash d keep) W (.int .i64 (Dk.lost d keep : Nat))) :=
  (dCrash_x W h.disk h.fresh hk).mono fun _ _ hp => h.step hp
theorem dCut_p {n : Int} (hk : -9223372036854775808 ≤ n ∧ n ≤ 9223372036854775807) : Calls Try.prog 21 #[.pointer (some ⟨r, 0, none⟩), .int .i64 n] W (PPost w X B v es r (Dk.cut d n) W (.int .i64 (Dk.cutE d n))) :=
  (dCut_x W h.disk h.fresh hk).mono fun _ _ hp => h.step hp
end
/-- Each call leaves the room; what is refused leaves all. -/
theorem dk_room (d : Dk.St) : (∀ b, (Dk.write d b).room = d.room) ∧ (Dk.sync d).room = d.room ∧ (∀ k, (Dk.crash d k).room = d.room) ∧ (∀ k, (Dk.cut d k).room = d.room) ∧ (∀ b, (Dk.swap d b).room = d.room) := by
  refine ⟨fun b => ?_, rfl, fun k => rfl, fun k => ?_, fun b => ?_⟩
  · unfold Dk.write; split <;> rfl
  · unfold Dk.cut; split <;> rfl
  · unfold Dk.swap; split <;> rfl
theorem dk_same (d : Dk.St) : (∀ b, Dk.writeE d b = 0 ∨ (Dk.writeE d b ≠ 0 ∧ Dk.write d b = d)) ∧ (∀ k, Dk.cutE d k = 0 ∨ (Dk.cutE d k ≠ 0 ∧ Dk.cut d k = d)) ∧ (∀ b, Dk.swapE d b = 0 ∨ (Dk.swapE d b ≠ 0 ∧ Dk.swap d b = d)) := by
  refine ⟨fun b => ?_, fun k => ?_, fun b => ?_⟩
  · unfold Dk.writeE Dk.write
    by_cases h : Dk.goes d b
    · rw [if_pos h]; exact .inl rfl
    · rw [if_neg h, if_neg h]; exact .inr ⟨by omega, rfl⟩
  · unfold Dk.cutE Dk.cut
    by_cases h : Dk.within d k
    · rw [if_pos h]; exact .inl rfl
    · rw [if_neg h, if_neg h]; exact .inr ⟨by omega, rfl⟩
  · unfold Dk.swapE Dk.swap
    by_cases h : b.length ≤ d.room
    · rw [if_pos h]; exact .inl rfl
    · rw [if_neg h, if_neg h]; exact .inr ⟨by omega, rfl⟩
end Go.Proofs.Ytoapdkncddhgiaa
