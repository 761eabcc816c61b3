/-
  What a row of this program lists tells of package phase's tables.
-/
import Derived.Test.YtbimacagfobdbaaDoorRows
import Derived.Test.YtbimacagfobdbaaDoorPd2
import Derived.Test.YtbimacagfobdbaaDoorLaid
import Derived.Stop.LaidErr
import Derived.Shelf.Vars
import Derived.MakeChecks
import Derived.Lay
namespace Go.Proofs.YtbimacagfobdbaaDoor
open Go Go.RowKit

theorem leads_data : leaf3 (Rows.laid_pacesetter_phase_leads : DataW Unit) = leadsT := by kernel_rfl
theorem names_data : leaf2 (Rows.laid_pacesetter_phase_names : DataW Unit) = namesT := by kernel_rfl
theorem words_data : leaf2 (Rows.laid_pacesetter_phase_words : DataW Unit) = wordsT := by kernel_rfl
abbrev Tb := PT
theorem i64P_wf {n : Int} (h : (Lit.int .i64 n).wf = true) : i64P n := by
  simp [Lit.wf, IntKind.min, IntKind.max, IntKind.signed, IntKind.bits] at h
  unfold i64P
  omega
theorem tb_of {W : World} (hL : laidMetH Tryd.prog Rows.phaseNextRow.laid W) (_ : W.ShapedOpen Tryd.prog) : Tb W := by
  rw [MakeChecks.laidMetH_plain _ _ _ (by kernel_rfl)] at hL
  refine ⟨?_, ?_, ?_⟩
  · have := varIs_of (name := "pacesetter/phase.leads") (d := Rows.laid_pacesetter_phase_leads) (L := leaf3) (t := 40) hL (by simp [Rows.phaseNextRow]) g_leads (by kernel_rfl)
      (fun _ _ _ _ => tells_arr (fun _ => rfl) (tells_arr (n := 9) (e := 3) (L := leaf1) (fun _ => rfl) (tells_int Tryd.underlying3) Tryd.underlying39 (by kernel_rfl)) Tryd.underlying40 (by kernel_rfl))
    rw [leads_data] at this
    exact this
  · have := varIs_of (name := "pacesetter/phase.names") (d := Rows.laid_pacesetter_phase_names) (L := leaf2) (t := 42) hL (by simp [Rows.phaseNextRow]) g_names (by kernel_rfl)
      (fun _ _ _ _ => tells_arr (fun _ => rfl) (tells_str Tryd.underlying9) Tryd.underlying42 (by kernel_rfl))
    rw [names_data] at this
    exact this
  · have := varIs_of (name := "pacesetter/phase.words") (d := Rows.laid_pacesetter_phase_words) (L := leaf2) (t := 41) hL (by simp [Rows.phaseNextRow]) g_words (by kernel_rfl)
      (fun _ _ _ _ => tells_arr (fun _ => rfl) (tells_str Tryd.underlying9) Tryd.underlying41 (by kernel_rfl))
    rw [words_data] at this
    exact this
end Go.Proofs.YtbimacagfobdbaaDoor
