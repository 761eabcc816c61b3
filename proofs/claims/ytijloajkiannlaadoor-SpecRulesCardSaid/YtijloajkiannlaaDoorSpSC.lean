/-
  What is asked of a package spec (of whatever code), and the document's example.
-/
import Derived.Test.YtijloajkiannlaaDoorSpRef7
import Derived.Test.YtijloajkiannlaaDoorSpRef8
import Derived.Test.YtijloajkiannlaaDoorSameI
import Derived.Test.YtijloajkiannlaaDoorSpN3
import Derived.Test.YtijloajkiannlaaDoorSpN5
namespace Go.Proofs.YtijloajkiannlaaDoor
open Go.RowKit

def RowI (l : List Int) (w : World) (e : Ending) (w' : World) : Prop := ∃ A c, e = .returned (.slice A l.length c) ∧ SlI w' A l.length c l ∧ Below w.heap.size w w'
structure SC : Prop where
  read : ∀ t W, Tb W → (∀ x ∈ t, x < 256) → t.length ≤ 1000 → Calls Tryd.prog 8 #[.string (txt t)] W (RPost t W)
  text : ∀ s W, Tb W → Spc.In s → Calls Tryd.prog 11 #[Spc.val s] W (APos W (.string (txt (Spc.text s))))
  make : ∀ l A n c W, SlI W A n c l → (∀ x ∈ l, Spc.i64 x) → n ≤ 1000 → Calls Tryd.prog 12 #[.slice A n c] W (APos W (.tuple #[Spc.val (mkS l), .int .i64 (mkE l)]))
  fields : ∀ s W, Spc.In s → Calls Tryd.prog 13 #[Spc.val s] W (RowI (Spc.flds s) W)
  check : ∀ s W, Spc.In s → Calls Tryd.prog 16 #[Spc.val s] W (CPost s W)
  steps : ∀ s W, Spc.In s → Calls Tryd.prog 18 #[Spc.val s] W (RowI (Spc.steps s) W)
  budget : ∀ s W, Spc.In s → Calls Tryd.prog 17 #[Spc.val s] W (APos W (.tuple #[.int .i64 (Spc.low s), .int .i64 (Spc.high s)]))
/-- The document's example. -/
def exS : Spc.Sp := ⟨1, 4, 1, 0, 1, 0, 0, 0, 0, 5, 0, 50⟩
theorem ex_may : Spc.May exS := Spc.may_of (by decide)
theorem ex_text : Spc.text exS = [49, 32, 52, 32, 49, 32, 48, 32, 49, 32, 48, 32, 48, 32, 48, 32, 48, 32, 53, 32, 48, 32, 53, 48] := by
  have h0 : Spc.digs 0 = [48] := by unfold Spc.digs; rw [if_neg (by omega)]; exact Spc.dg_one (by omega)
  have h1 : Spc.digs 1 = [49] := by unfold Spc.digs; rw [if_neg (by omega)]; exact Spc.dg_one (by omega)
  have h4 : Spc.digs 4 = [52] := by unfold Spc.digs; rw [if_neg (by omega)]; exact Spc.dg_one (by omega)
  have h5 : Spc.digs 5 = [53] := by unfold Spc.digs; rw [if_neg (by omega)]; exact Spc.dg_one (by omega)
  have h50 : Spc.digs 50 = [53, 48] := by unfold Spc.digs; rw [if_neg (by omega)]; show Spc.dg 50 = _; rw [Spc.dg_more (by omega), Spc.dg_one (by omega)]; rfl
  unfold Spc.text Spc.flds exS Spc.join
  simp [h0, h1, h4, h5, h50]
theorem ex_in : Spc.In exS := fun n hn => by have := ex_may.small n hn; unfold Spc.i64; omega
theorem ex_txt : (⟨#[49, 32, 52, 32, 49, 32, 48, 32, 49, 32, 48, 32, 48, 32, 48, 32, 48, 32, 53, 32, 48, 32, 53, 48]⟩ : ByteArray) = txt (Spc.text exS) := by rw [ex_text]; rfl
set_option maxHeartbeats 1600000 in
theorem slives_any (hS : SC) (w : World) (ht : Tb w) : Calls Tryd.prog 7 #[] w fun e w' => e = .returned (.bool true) ∧ Below w.heap.size w w' := by
  have HS := Lib.hid hS
  have C1 := Lib.hid (HS.out.read (Spc.text exS) w ht (Spc.text_byte exS) (by rw [ex_text]; simp))
  unfold RPost at C1
  rw [(Spc.back ex_may).1, (Spc.back ex_may).2, ← ex_txt] at C1
  have HTB := Lib.hid ht
  have C2 : Hid (∀ W, Tb W → Calls Tryd.prog 11 #[Spc.val exS] W (APos W (.string ⟨#[49, 32, 52, 32, 49, 32, 48, 32, 49, 32, 48, 32, 48, 32, 48, 32, 48, 32, 53, 32, 48, 32, 53, 48]⟩))) := fun W hW => by rw [ex_txt]; exact HS.out.text exS W hW ex_in
  have C3 : Hid (∀ W, Calls Tryd.prog 13 #[Spc.val exS] W (RowI (Spc.flds exS) W)) := fun W => HS.out.fields exS W ex_in
  have HV : Hid (Spc.val exS = .agg #[.int .i64 1, .int .i64 4, .int .i64 1, .int .i64 0, .int .i64 1, .int .i64 0, .int .i64 0, .int .i64 0, .int .i64 0, .int .i64 5, .int .i64 0, .int .i64 50]) := rfl
  rw [HV.out] at C1 C2 C3
  clear hS ht
  go_enter Tryd.func7, Tryd.ntmps7
  go_wp2_with fail
  refine C1.out.mono ?_
  rintro e w1 ⟨rfl, hb1⟩
  have B1 := Lib.hid hb1
  clear hb1 C1
  go_wp2_with fail
  have hn := heap_alloc_new w1 (.cells (Spc.cells exS) 25)
  have hb2 := (Below.refl w1.heap.size w1).alloc (Nat.le_refl _) (.cells (Spc.cells exS) 25)
  have hz : w1.heap.size < (w1.alloc (.cells (Spc.cells exS) 25)).heap.size := by simp
  have A2 := Lib.hid (spAt_of hn)
  have Z2 := Lib.hid hz
  have B2 := Lib.hid (B1.out.trans (hb2.mono B1.out.size))
  clear hn hb2 hz B1
  unfold Spc.cells exS at A2 Z2 B2
  generalize w1.alloc (.cells #[.int .i64 1, .int .i64 4, .int .i64 1, .int .i64 0, .int .i64 1, .int .i64 0, .int .i64 0, .int .i64 0, .int .i64 0, .int .i64 5, .int .i64 0, .int .i64 50] 25) = w2 at *
  refine (C2.out w2 (HTB.out.on B2.out)).mono ?_
  rintro e w3 ⟨rfl, hb3⟩
  have B3 := Lib.hid (B2.out.trans (hb3.mono B2.out.size))
  obtain ⟨f0, f1, f2, f3, f4, f5, f6, f7, f8, f9, f10, f11⟩ := A2.out.below Z2.out hb3
  clear hb3 A2 Z2 B2 C2
  go_wp2_with fail
  refine (C3.out w3).mono ?_
  rintro e w4 ⟨A4, c4, rfl, _, hb4⟩
  have B4 := Lib.hid (B3.out.trans (hb4.mono B3.out.size))
  clear hb4 C3 f0 f1 f2 f3 f4 f5 f6 f7 f8 f9 f10 f11
  rw [show (Spc.flds exS).length = 12 from rfl]
  go_wp2_with fail
  go_ret
  exact ⟨rfl, B4.out⟩
end Go.Proofs.YtijloajkiannlaaDoor
