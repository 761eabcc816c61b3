/-
  A slice value's parts as bytes; the calls of package crc, told from a base world on.
-/
import Derived.Test.YtdamnamhbjfnlaaCrcGood
namespace Go.Proofs.Ytdamnamhbjfnlaa
open Go.RowKit

section
variable {w : World} {A : Option Addr} {n c : Nat} {l : List Nat}
theorem sum_at {w0 : World} (W : World) (h : Sl w0 A n c l) (hl : l.length ≤ 100000) (hb : Below w0.heap.size w0 W) :
    Calls Try.prog 70 #[.slice A n c] W fun e w' => e = .returned (.int .u32 ((Crc.sum l : Nat) : Int)) ∧ Below w0.heap.size w0 w' :=
  (sum_any n c A l W (h.rd.on hb) h.len (by omega)).mono fun _ _ ⟨he, h2⟩ => ⟨he, hb.trans (h2.mono hb.size)⟩
theorem more_at {w0 : World} (W : World) (s : Nat) (hs : s < 4294967296) (h : Sl w0 A n c l) (hl : l.length ≤ 100000) (hb : Below w0.heap.size w0 W) :
    Calls Try.prog 75 #[.int .u32 s, .slice A n c] W fun e w' => e = .returned (.int .u32 ((Crc.more s l : Nat) : Int)) ∧ Below w0.heap.size w0 w' :=
  (more_any s n c A l W hs (h.rd.on hb) h.len (by omega)).mono fun _ _ ⟨he, h2⟩ => ⟨he, hb.trans (h2.mono hb.size)⟩
theorem good_at {w0 : World} (W : World) (h : Sl w0 A n c l) (hl : l.length ≤ 100000) (hb : Below w0.heap.size w0 W) :
    Calls Try.prog 72 #[.slice A n c] W fun e w' => e = .returned (.bool (good l)) ∧ Below w0.heap.size w0 w' :=
  (good_any n c A l W (h.rd.on hb) h.len h.cap (by omega)).mono fun _ _ ⟨he, h2⟩ => ⟨he, hb.trans (h2.mono hb.size)⟩
theorem read_at {w0 : World} (W : World) (h : Sl w0 A n c l) (hb : Below w0.heap.size w0 W) :
    Calls Try.prog 77 #[.slice A n c] W fun e w' => e = .returned (.tuple #[.int .u32 ((rdN l : Nat) : Int), .int .i64 (rdE l)]) ∧ Below w0.heap.size w0 w' :=
  (read_any n c A l W (h.rd.on hb) h.len).mono fun _ _ ⟨he, h2⟩ => ⟨he, hb.trans (h2.mono hb.size)⟩
end
end Go.Proofs.Ytdamnamhbjfnlaa
