/-
  Bytes and Read: what they answer, from any world.
-/
import Derived.Test.YtdamnamhbjfnlaaCrcMore
import Derived.Deep.QuietTactic
import Derived.BigQuiet
import Derived.OwnWalk
import Derived.Laws.OwnMore
namespace Go.Proofs.Ytdamnamhbjfnlaa
open Go.RowKit

/-- Four bytes, the highest first; and back. -/
def be4 (s : Nat) : List Nat := [s / 16777216 % 256, s / 65536 % 256, s / 256 % 256, s % 256]
def rdN (l : List Nat) : Nat := if l.length = 4 then l.getD 0 0 * 16777216 + l.getD 1 0 * 65536 + l.getD 2 0 * 256 + l.getD 3 0 else 0
def rdE (l : List Nat) : Int := if l.length = 4 then 0 else 2
theorem be4_byte (s : Nat) : ∀ x ∈ be4 s, x < 256 := by
  intro x hx
  simp only [be4, List.mem_cons, List.mem_nil_iff, or_false] at hx
  rcases hx with rfl | rfl | rfl | rfl <;> omega
theorem rdN_be4 {s : Nat} (h : s < 4294967296) : rdN (be4 s) = s := by
  simp only [rdN, be4, List.length_cons, List.length_nil, List.getD_cons_zero, List.getD_cons_succ, if_pos]
  omega

theorem or4 (a b c d : Nat) (ha : a < 256) (hb : b < 256) (hc : c < 256) (hd : d < 256) :
    bits .or .u32 (bits .or .u32 (bits .or .u32 ((a : Int) * 16777216) ((b : Int) * 65536)) ((c : Int) * 256)) (d : Int) = ((a * 16777216 + b * 65536 + c * 256 + d : Nat) : Int) := by
  rw [show (a : Int) * 16777216 = ((a * 16777216 : Nat) : Int) from by omega, show (b : Int) * 65536 = ((b * 65536 : Nat) : Int) from by omega, show (c : Int) * 256 = ((c * 256 : Nat) : Int) from by omega]
  rw [u32_or_nat _ _ (by omega) (by omega), nat_join 24 _ _ (by omega) (by omega), u32_or_nat _ _ (by omega) (by omega), nat_join 16 _ _ (by omega) (by omega), u32_or_nat _ _ (by omega) (by omega), nat_join 8 _ _ (by omega) (by omega)]
def BytesPost (s : Nat) (w : World) (e : Ending) (w' : World) : Prop :=
  e = .returned (.slice (some ⟨w.heap.size, 0, none⟩) 4 4) ∧ Rd w' w'.heap.size (some ⟨w.heap.size, 0, none⟩) (be4 s) ∧ Below w.heap.size w w' ∧ w'.heap.size = w.heap.size + 1

set_option maxHeartbeats 400000 in
theorem bytes_any (s : Nat) (w : World) (hs : s < 4294967296) :
    Calls Try.prog 69 #[.int .u32 s] w (BytesPost s w) := by
  go_enter Try.func69, Try.ntmps69
  go_wp2_with fail
  go_ret
  refine ⟨rfl, ⟨be4_byte s, fun _ => ⟨_, 0, rfl, by simp, fun j hj => ?_⟩⟩, (Below.refl _ _).alloc (Nat.le_refl _) _, by simp⟩
  rw [World.cell?_alloc_at _ _ _ _ rfl, Nat.zero_add]
  simp only [be4, List.length_cons, List.length_nil] at hj
  have hq : j = 0 ∨ j = 1 ∨ j = 2 ∨ j = 3 := by omega
  have e0 : (s : Int) / 16777216 = ((s / 16777216 % 256 : Nat) : Int) := by omega
  rw [e0]
  rcases hq with rfl | rfl | rfl | rfl <;> rfl
set_option maxHeartbeats 400000 in
theorem read_any (n c : Nat) (A : Option Addr) (l : List Nat) (w : World) (hr : Rd w w.heap.size A l) (hn : n = l.length) :
    Calls Try.prog 77 #[.slice A n c] w fun e w' => e = .returned (.tuple #[.int .u32 ((rdN l : Nat) : Int), .int .i64 (rdE l)]) ∧ Below w.heap.size w w' := by
  by_cases h4 : n = 4
  · subst h4
    have h0 := hr.byte 0
    have h1 := hr.byte 1
    have h2 := hr.byte 2
    have h3 := hr.byte 3
    obtain ⟨b, o, rfl, hb, hc⟩ := hr.2 (by omega)
    have c0 := hc 0 (by omega)
    rw [Nat.add_zero] at c0
    have c1 := hc 1 (by omega)
    have c2 := hc 2 (by omega)
    have c3 := hc 3 (by omega)
    have HV : Hid (rdN l = l.getD 0 0 * 16777216 + l.getD 1 0 * 65536 + l.getD 2 0 * 256 + l.getD 3 0) := by unfold rdN; rw [if_pos hn.symm]; rfl
    have HW : Hid (rdE l = 0) := by unfold rdE; rw [if_pos hn.symm]; rfl
    clear hc hb hn hr
    generalize l.getD 0 0 = x0 at *
    generalize l.getD 1 0 = x1 at *
    generalize l.getD 2 0 = x2 at *
    generalize l.getD 3 0 = x3 at *
    go_enter Try.func77, Try.ntmps77
    go_wp2_with fail
    go_quiet (fail)
    go_wp2_with fail
    go_ret2
    rw [HV.out, HW.out]
    exact ⟨by rw [← or4 x0 x1 x2 x3 h0 h1 h2 h3]; rfl, Below.drewN (Below.refl _ _) _⟩
  · have hne : ((n : Int) != 4) = true := by rw [bne_iff_ne]; omega
    have HV : Hid (rdN l = 0) := by unfold rdN; rw [if_neg (by omega)]; rfl
    have HW : Hid (rdE l = 2) := by unfold rdE; rw [if_neg (by omega)]; rfl
    clear hn hr
    go_enter Try.func77, Try.ntmps77
    go_wp2_with fail
    go_ret2
    rw [HV.out, HW.out]
    exact ⟨rfl, Below.refl _ _⟩
end Go.Proofs.Ytdamnamhbjfnlaa
