/-
  Same: two rows of numbers that read alike.
-/
import Derived.Test.YtgljepjflpijiaaInts
namespace Go.Proofs.Ytgljepjflpijiaa
open Go.RowKit

set_option maxRecDepth 100000 in
theorem same_any (n c1 c2 : Nat) (A1 A2 : Option Addr) (l : List Int) (w : World) (h1 : SlI w A1 n c1 l) (h2 : SlI w A2 n c2 l) (hn : n ≤ 1000000) :
    Calls Try.prog 25 #[.slice A1 n c1, .slice A2 n c2] w fun e w' => e = .returned (.bool true) ∧ ∃ d, w' = w.drewN d := by
  have H1 := Lib.hid h1; clear h1
  have H2 := Lib.hid h2; clear h2
  go_enter Try.func25, Try.ntmps25
  go_wp2_with fail
  go_loopw [5] (fun i wr => ∃ m : Nat, m ≤ n ∧ i = .int .i64 m ∧ ∃ d, wr = w.drewN d) (fun i _ => n - (intOf i).toNat)
  case atStart => exact ⟨0, by omega, rfl, 0, rfl⟩
  case round =>
    obtain ⟨m, hm, rfl, d, rfl⟩ := hrel
    by_cases hlt : m < n
    · have hml : m < l.length := by rw [← H1.out.len]; exact hlt
      obtain ⟨b1, o1, rfl, _, e1⟩ := H1.out.rd (by omega)
      obtain ⟨b2, o2, rfl, _, e2⟩ := H2.out.rd (by omega)
      have f1 := e1 m hml
      have f2 := e2 m hml
      clear e1 e2
      generalize l.getD m 0 = x at *
      have i1 : (0 : Int) ≤ (m : Int) := by omega
      have i2 : (m : Int) < (n : Int) := by omega
      go_wp2_with fail
      go_quiet (fail)
      go_wp2_with fail
      refine ⟨⟨m + 1, by omega, by go_num, _, rfl⟩, by simp [intOf]; omega⟩
    · obtain rfl : m = n := by omega
      go_wp2_with fail
      go_ret
      exact ⟨rfl, d, rfl⟩
end Go.Proofs.Ytgljepjflpijiaa
