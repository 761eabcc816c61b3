/-
  Number, Text and List of package codec, and allNumbers: what they answer, from any world.
-/
import Derived.Test.YtifokcpkamdkeaaDoorCdcPut
namespace Go.Proofs.YtifokcpkamdkeaaDoor
open Go.RowKit Cdc

def WPost (l : List Nat) (err : Int) (w : World) (e : Ending) (w' : World) : Prop :=
  ∃ A c, e = .returned (.tuple #[.slice A l.length c, .int .i64 err]) ∧ Sl w' A l.length c l ∧ Below w.heap.size w w' ∧ ∀ a, A = some a → w.heap.size ≤ a.block
theorem sl_len {w : World} {A : Option Addr} {n c : Nat} {l : List Nat} (h : Sl w A n c l) : n = l.length := h.len
/-- A text's bytes. -/
def sb (s : ByteArray) : List Nat := s.data.toList.map UInt8.toNat
theorem sb_length (s : ByteArray) : (sb s).length = s.size := by simp [sb]
theorem sb_byte (s : ByteArray) : ∀ x ∈ sb s, x < 256 := by
  intro x hx
  simp only [sb, List.mem_map] at hx
  obtain ⟨b, _, rfl⟩ := hx
  exact b.toNat_lt
theorem sb_cells (s : ByteArray) : Lib.strCells s = vals (sb s) := by
  simp [Lib.strCells, vals, sb]
theorem txt_sb (s : ByteArray) : txt (sb s) = s := by
  have : (txt (sb s)).data.toList = s.data.toList := by
    rw [txt_list, sb, List.map_map]
    conv => rhs; rw [← List.map_id s.data.toList]
    apply List.map_congr_left
    intro x _
    simp
  have h2 : (txt (sb s)).data = s.data := by rw [← Array.toList_inj]; exact this
  cases s
  generalize txt _ = t at *
  cases t
  simp_all

set_option maxRecDepth 100000 in
set_option maxHeartbeats 400000 in
theorem number_yes (n c m : Nat) (A : Option Addr) (l : List Nat) (w : World) (hs : Sl w A n c l) (hl : n ≤ 1000000) (hm : m < 4611686018427387904) :
    Calls Tryd.prog 17 #[.slice A n c, .int .i64 m] w (WPost (l ++ digs m) 0 w) := by
  have hne : (((digs m).length : Int) == 0) = false := by have := digs_pos m; rw [beq_eq_false_iff_ne]; omega
  have HS := Lib.hid hs; clear hs
  have HM := Lib.hid hm; clear hm
  go_enter Tryd.func17, Tryd.ntmps17
  go_wp2_with fail
  refine (size_yes m w HM.out).mono ?_
  rintro e w1 ⟨rfl, rfl⟩
  go_wp2_with fail
  refine (renew_any n c 9 A l w HS.out hl (by omega)).mono ?_
  rintro e w1 ⟨v, rfl, ho, hb⟩
  have O := Lib.hid ho; clear ho
  have B := Lib.hid hb; clear hb
  go_wp2_with fail
  refine (put_any w.heap.size m v l w1 O.out B.out.size (by rw [← HS.out.len]; omega) HM.out).mono ?_
  rintro e w2 ⟨v2, rfl, ho, hb⟩
  have O2 := Lib.hid ho; clear ho
  have B2 := Lib.hid hb; clear hb
  obtain ⟨A2, c2, hv, h2⟩ := O2.out.sl
  have HV := Lib.hid hv; clear hv
  have H2 := Lib.hid h2; clear h2
  go_wp2_with fail
  go_ret2
  rw [HV.out]
  exact ⟨A2, c2, rfl, H2.out, B.out.trans B2.out, OwnB.far O2.out HV.out⟩
set_option maxRecDepth 100000 in
set_option maxHeartbeats 400000 in
theorem number_no (n c : Nat) (m : Int) (A : Option Addr) (l : List Nat) (w : World) (hs : Sl w A n c l) (hl : n ≤ 1000000) (hm : sz m = 0) :
    Calls Tryd.prog 17 #[.slice A n c, .int .i64 m] w (WPost l 1 w) := by
  have HS := Lib.hid hs; clear hs
  have HM := Lib.hid hm; clear hm
  go_enter Tryd.func17, Tryd.ntmps17
  go_wp2_with fail
  refine (size_any m w).mono ?_
  rintro e w1 ⟨rfl, rfl⟩
  rw [HM.out]
  go_wp2_with fail
  refine (renew_any n c 0 A l w HS.out hl (by omega)).mono ?_
  rintro e w1 ⟨v, rfl, ho, hb⟩
  have O := Lib.hid ho; clear ho
  have B := Lib.hid hb; clear hb
  obtain ⟨A2, c2, hv, h2⟩ := O.out.sl
  have HV := Lib.hid hv; clear hv
  have H2 := Lib.hid h2; clear h2
  go_wp2_with fail
  go_ret2
  rw [HV.out]
  exact ⟨A2, c2, rfl, H2.out, B.out, OwnB.far O.out HV.out⟩
/-- The bytes behind Number; the error. -/
def numL (l : List Nat) (n : Int) : List Nat := if sz n = 0 then l else l ++ digs n.toNat
def numE (n : Int) : Int := if sz n = 0 then 1 else 0
theorem sz_pos {n : Int} (h : sz n ≠ 0) : ∃ m : Nat, n = (m : Int) ∧ m < 4611686018427387904 := by
  unfold sz at h
  split at h
  · exact ⟨n.toNat, by omega, by omega⟩
  · omega
theorem number_any (n c : Nat) (m : Int) (A : Option Addr) (l : List Nat) (w : World) (hs : Sl w A n c l) (hl : n ≤ 1000000) :
    Calls Tryd.prog 17 #[.slice A n c, .int .i64 m] w (WPost (numL l m) (numE m) w) := by
  unfold numL numE
  by_cases h : sz m = 0
  · rw [if_pos h, if_pos h]; exact number_no n c m A l w hs hl h
  · rw [if_neg h, if_neg h]
    obtain ⟨k, rfl, hk⟩ := sz_pos h
    exact number_yes n c k A l w hs hl hk

theorem OwnB.text {w : World} {B n : Nat} {v : Value} {l : List Nat} {s : ByteArray} (h : w.ownsRow B 5 1 v (n + s.size) (vals l ++ Lib.strCells s)) (hn : n = l.length) (hl : ∀ y ∈ l, y < 256) : OwnB w B v (l ++ sb s) := by
  subst hn
  refine ⟨?_, ?_⟩
  · rw [vals_append, List.length_append, sb_length, ← sb_cells]; exact h
  · intro y hy
    exact (List.mem_append.1 hy).elim (hl y) (sb_byte s y)

set_option maxRecDepth 100000 in
set_option maxHeartbeats 400000 in
theorem text_yes (n c : Nat) (s : ByteArray) (A : Option Addr) (l : List Nat) (w : World) (hs : Sl w A n c l) (hl : n ≤ 1000000) (hm : s.size ≤ 64) :
    Calls Tryd.prog 18 #[.slice A n c, .string s] w (WPost (l ++ digs s.size ++ sb s) 0 w) := by
  obtain ⟨i0, hi0, hz0, hz1, hz2⟩ := info_parts byteInfo
  have HS := Lib.hid hs; clear hs
  have I0 := Lib.hid hi0; clear hi0
  have I1 := Lib.hid hz0; clear hz0
  have I2 := Lib.hid hz1; clear hz1
  have I3 := Lib.hid hz2; clear hz2
  go_enter Tryd.func18, Tryd.ntmps18
  go_wp2_with fail
  refine (renew_any n c (9 + s.size) A l w HS.out hl (by omega)).mono ?_
  rintro e w1 ⟨v, rfl, ho, hb⟩
  have O := Lib.hid ho; clear ho
  have B := Lib.hid hb; clear hb
  go_wp2_with fail
  refine (put_any w.heap.size s.size v l w1 O.out B.out.size (by rw [← HS.out.len]; omega) (by omega)).mono ?_
  rintro e w2 ⟨v2, rfl, ho, hb⟩
  have O2 := Lib.hid ho; clear ho
  have B2 := Lib.hid (B.out.trans hb); clear hb
  have hlen : (l ++ digs s.size).length ≤ 1000010 := by have := digs_nine (n := s.size) (by omega); rw [List.length_append, ← HS.out.len]; omega
  go_wp2_with (at_builtin; refine Lib.wpList_append_own_string _ rfl (.tmp 18) (.tmp 19) 29 9 rfl w.heap.size 5 i0 Tryd.underlying29 Tryd.underlying9 I0.out I1.out I2.out I3.out v2 _ _ rfl O2.out.1 s rfl (by unfold maxLen; omega) (by omega) B2.out.size ?_; intro v3 w3 hown3 hg3 _; have O3 := Lib.hid hown3; have G3 := Lib.hid hg3; clear hown3 hg3)
  go_ret2
  obtain ⟨A2, c2, hv, h2⟩ := (OwnB.text O3.out rfl O2.out.2).sl
  rw [hv]
  exact ⟨A2, c2, rfl, h2, B2.out.grown G3.out B2.out.size (own_base O2.out.1), OwnB.far (OwnB.text O3.out rfl O2.out.2) hv⟩
set_option maxRecDepth 100000 in
set_option maxHeartbeats 400000 in
theorem text_no (n c : Nat) (s : ByteArray) (A : Option Addr) (l : List Nat) (w : World) (hs : Sl w A n c l) (hl : n ≤ 1000000) (hm : 64 < s.size) :
    Calls Tryd.prog 18 #[.slice A n c, .string s] w (WPost l 12 w) := by
  have HS := Lib.hid hs; clear hs
  go_enter Tryd.func18, Tryd.ntmps18
  go_wp2_with fail
  refine (renew_any n c 0 A l w HS.out hl (by omega)).mono ?_
  rintro e w1 ⟨v, rfl, ho, hb⟩
  have O := Lib.hid ho; clear ho
  have B := Lib.hid hb; clear hb
  obtain ⟨A2, c2, hv, h2⟩ := O.out.sl
  have HV := Lib.hid hv; clear hv
  have H2 := Lib.hid h2; clear h2
  go_wp2_with fail
  go_ret2
  rw [HV.out]
  exact ⟨A2, c2, rfl, H2.out, B.out, OwnB.far O.out HV.out⟩
def textL (l : List Nat) (s : ByteArray) : List Nat := if s.size ≤ 64 then l ++ digs s.size ++ sb s else l
def textE (s : ByteArray) : Int := if s.size ≤ 64 then 0 else 12
theorem text_any (n c : Nat) (s : ByteArray) (A : Option Addr) (l : List Nat) (w : World) (hs : Sl w A n c l) (hl : n ≤ 1000000) :
    Calls Tryd.prog 18 #[.slice A n c, .string s] w (WPost (textL l s) (textE s) w) := by
  unfold textL textE
  by_cases h : s.size ≤ 64
  · rw [if_pos h, if_pos h]; exact text_yes n c s A l w hs hl h
  · rw [if_neg h, if_neg h]; exact text_no n c s A l w hs hl (by omega)

/-! Lists. -/
def allOk (ns : List Int) : Bool := ns.all fun n => decide (sz n ≠ 0)
theorem allOk_yes {ns : List Int} (h : ∀ j, j < ns.length → sz (ns.getD j 0) ≠ 0) : allOk ns = true := by
  unfold allOk
  rw [List.all_eq_true]
  intro x hx
  obtain ⟨j, hj, rfl⟩ := List.mem_iff_getElem.1 hx
  have := h j hj
  rw [getD_at hj] at this
  exact decide_eq_true this
theorem allOk_no {ns : List Int} {j : Nat} (hj : j < ns.length) (h : sz (ns.getD j 0) = 0) : allOk ns = false := by
  unfold allOk
  rw [List.all_eq_false]
  refine ⟨ns[j], List.getElem_mem hj, ?_⟩
  rw [getD_at hj] at h
  simp [h]
theorem allOk_at {ns : List Int} (h : allOk ns = true) {j : Nat} (hj : j < ns.length) : ∃ m : Nat, ns.getD j 0 = (m : Int) ∧ m < 4611686018427387904 := by
  unfold allOk at h
  rw [List.all_eq_true] at h
  have := h ns[j] (List.getElem_mem hj)
  rw [getD_at hj]
  exact sz_pos (by simpa using this)
/-- The bytes of numbers, one behind the other. -/
def fl (ns : List Int) : List Nat := ns.flatMap fun n => digs n.toNat
theorem fl_snoc {ns : List Int} {j m : Nat} (hj : j < ns.length) (hm : ns.getD j 0 = (m : Int)) : fl (ns.take (j + 1)) = fl (ns.take j) ++ digs m := by
  unfold fl
  rw [List.take_succ_eq_append_getElem hj, List.flatMap_append, ← getD_at (d := 0) hj, hm]
  simp
theorem fl_len {ns : List Int} (h : allOk ns = true) (k : Nat) (hk : k ≤ ns.length) : (fl (ns.take k)).length ≤ 9 * k := by
  induction k with
  | zero => simp [fl]
  | succ k ih =>
    obtain ⟨m, hm, hlt⟩ := allOk_at h (j := k) (by omega)
    rw [fl_snoc (by omega) hm, List.length_append]
    have := ih (by omega)
    have := digs_nine (n := m) (by omega)
    omega

set_option maxRecDepth 100000 in
set_option maxHeartbeats 400000 in
theorem all_any (n c : Nat) (A : Option Addr) (ns : List Int) (w : World) (hs : SlI w A n c ns) (hl : n ≤ 1000000) :
    Calls Tryd.prog 40 #[.slice A n c] w fun e w' => e = .returned (.bool (allOk ns)) ∧ w = w' := by
  have HS := Lib.hid hs; clear hs
  go_enter Tryd.func40, Tryd.ntmps40
  go_wp2_with fail
  go_loop [7] (fun i => ∃ k : Nat, k ≤ n ∧ i = .int .i64 k ∧ ∀ j, j < k → sz (ns.getD j 0) ≠ 0) (fun i => n - (intOf i).toNat)
  case atStart => exact ⟨0, by omega, rfl, fun j hj => by omega⟩
  case round =>
    obtain ⟨k, hk, rfl, hall⟩ := hrel
    have HA := Lib.hid hall; clear hall
    by_cases hlt : k < n
    · have hkl : k < ns.length := by rw [← HS.out.len]; exact hlt
      obtain ⟨b, o, rfl, _, hc⟩ := HS.out.rd (by omega)
      have hck := hc k hkl
      clear hc
      by_cases hz : sz (ns.getD k 0) = 0
      · have HZ := Lib.hid hz
        have HN := Lib.hid (allOk_no hkl hz); clear hz
        generalize ns.getD k 0 = x at *
        go_wp2_with fail
        refine (size_any x w).mono ?_
        rintro e w1 ⟨rfl, rfl⟩
        rw [HZ.out]
        go_wp2_with fail
        go_ret
        exact ⟨ret_bool HN.out.symm, rfl⟩
      · have hne : ((sz (ns.getD k 0) : Int) == 0) = false := by rw [beq_eq_false_iff_ne]; omega
        have HZ := Lib.hid hz; clear hz
        have HG : Hid (∀ j, j < k + 1 → sz (ns.getD j 0) ≠ 0) := fun j hj => by
          by_cases e : j = k
          · subst e; exact HZ.out
          · exact HA.out j (by omega)
        clear HA HZ
        generalize ns.getD k 0 = x at *
        go_wp2_with fail
        refine (size_any x w).mono ?_
        rintro e w1 ⟨rfl, rfl⟩
        go_wp2_with fail
        go_round
        case rel => exact ⟨k + 1, by omega, by go_num, HG.out⟩
        case measure => simp [intOf]; omega
    · obtain rfl : k = n := by omega
      have HN : Hid (allOk ns = true) := allOk_yes fun j hj => HA.out j (by rw [HS.out.len]; exact hj)
      go_wp2_with fail
      go_ret
      exact ⟨ret_bool HN.out.symm, rfl⟩

theorem own_all {w : World} {B m : Nat} {v : Value} {l : List Nat} {ns : List Int} (h : OwnB w B v (l ++ fl (ns.take m))) (hm : m = ns.length) : OwnB w B v (l ++ fl ns) := by
  rwa [hm, List.take_length] at h
set_option maxRecDepth 100000 in
set_option maxHeartbeats 800000 in
theorem list_yes (n c k d : Nat) (A D : Option Addr) (l : List Nat) (ns : List Int) (w : World) (hs : Sl w A n c l) (hl : n ≤ 1000000) (hd : SlI w D k d ns) (hk : k ≤ 64) (ha : allOk ns = true) :
    Calls Tryd.prog 19 #[.slice A n c, .slice D k d] w (WPost (l ++ digs k ++ fl ns) 0 w) := by
  have HS := Lib.hid hs; clear hs
  have HD := Lib.hid hd; clear hd
  have HA := Lib.hid ha; clear ha
  go_enter Tryd.func19, Tryd.ntmps19
  go_wp2_with fail
  refine (all_any k d D ns w HD.out (by omega)).mono ?_
  rintro e w1 ⟨rfl, rfl⟩
  rw [HA.out]
  go_wp2_with fail
  refine (renew_any n c (9 * (1 + k)) A l w HS.out hl (by omega)).mono ?_
  rintro e w1 ⟨v, rfl, ho, hb⟩
  have O := Lib.hid ho; clear ho
  have B := Lib.hid hb; clear hb
  go_wp2_with fail
  refine (put_any w.heap.size k v l w1 O.out B.out.size (by rw [← HS.out.len]; omega) (by omega)).mono ?_
  rintro e w2 ⟨v2, rfl, ho, hb⟩
  have O2 := Lib.hid ho; clear ho
  have B2 := Lib.hid (B.out.trans hb); clear hb O B
  have hlen : (l ++ digs k).length ≤ 1000010 := by have := digs_nine (n := k) (by omega); rw [List.length_append, ← HS.out.len]; omega
  go_wp2_with fail
  go_loopw [6, 30] (fun v i wr => ∃ m : Nat, m ≤ k ∧ i = .int .i64 m ∧ OwnB wr w.heap.size v (l ++ digs k ++ fl (ns.take m)) ∧ Below w.heap.size w wr) (fun _ i _ => k - (intOf i).toNat)
  case atStart => exact ⟨0, by omega, rfl, by simpa [fl] using O2.out, B2.out⟩
  case round =>
    obtain ⟨m, hm, rfl, ho, hb⟩ := hrel
    clear O2 B2
    have O := Lib.hid ho; clear ho
    have B := Lib.hid hb; clear hb
    by_cases hlt : m < k
    · have hml : m < ns.length := by rw [← HD.out.len]; exact hlt
      obtain ⟨x, hx, hxl⟩ := allOk_at HA.out hml
      obtain ⟨b, o, rfl, _, hc⟩ := (HD.out.on B.out).rd (by omega)
      have hck := hc m hml
      rw [hx] at hck
      have HX := Lib.hid (fl_snoc hml hx)
      have HB := Lib.hid hxl
      have HF := Lib.hid (fl_len HA.out m (by omega))
      clear hc hx hxl
      go_wp2_with fail
      refine (put_any w.heap.size x _ _ wr O.out B.out.size (by have := HF.out; rw [List.length_append]; omega) HB.out).mono ?_
      rintro e w3 ⟨v3, rfl, ho, hb⟩
      have O3 := Lib.hid ho; clear ho
      have B3 := Lib.hid (B.out.trans hb); clear hb
      go_wp2_with fail
      go_roundw
      case rel => exact ⟨m + 1, by omega, by go_num, by rw [HX.out, ← List.append_assoc]; exact O3.out, B3.out⟩
      case measure => simp [intOf]; omega
    · obtain rfl : m = k := by omega
      have O4 := Lib.hid (own_all O.out HD.out.len)
      obtain ⟨A2, c2, hv, h2⟩ := O4.out.sl
      have HV := Lib.hid hv; clear hv
      have H2 := Lib.hid h2; clear h2
      go_wp2_with fail
      go_ret2
      rw [HV.out]
      exact ⟨A2, c2, rfl, H2.out, B.out, OwnB.far O4.out HV.out⟩
set_option maxRecDepth 100000 in
set_option maxHeartbeats 400000 in
theorem list_arg (n c k d : Nat) (A D : Option Addr) (l : List Nat) (ns : List Int) (w : World) (hs : Sl w A n c l) (hl : n ≤ 1000000) (hd : SlI w D k d ns) (hk : k ≤ 64) (ha : allOk ns = false) :
    Calls Tryd.prog 19 #[.slice A n c, .slice D k d] w (WPost l 1 w) := by
  have HS := Lib.hid hs; clear hs
  have HD := Lib.hid hd; clear hd
  have HA := Lib.hid ha; clear ha
  go_enter Tryd.func19, Tryd.ntmps19
  go_wp2_with fail
  refine (all_any k d D ns w HD.out (by omega)).mono ?_
  rintro e w1 ⟨rfl, rfl⟩
  rw [HA.out]
  go_wp2_with fail
  refine (renew_any n c 0 A l w HS.out hl (by omega)).mono ?_
  rintro e w1 ⟨v, rfl, ho, hb⟩
  have O := Lib.hid ho; clear ho
  have B := Lib.hid hb; clear hb
  obtain ⟨A2, c2, hv, h2⟩ := O.out.sl
  have HV := Lib.hid hv; clear hv
  have H2 := Lib.hid h2; clear h2
  go_wp2_with fail
  go_ret2
  rw [HV.out]
  exact ⟨A2, c2, rfl, H2.out, B.out, OwnB.far O.out HV.out⟩
set_option maxRecDepth 100000 in
set_option maxHeartbeats 400000 in
theorem list_over (n c k d : Nat) (A D : Option Addr) (l : List Nat) (w : World) (hs : Sl w A n c l) (hl : n ≤ 1000000) (hk : 64 < k) :
    Calls Tryd.prog 19 #[.slice A n c, .slice D k d] w (WPost l 12 w) := by
  have HS := Lib.hid hs; clear hs
  go_enter Tryd.func19, Tryd.ntmps19
  go_wp2_with fail
  refine (renew_any n c 0 A l w HS.out hl (by omega)).mono ?_
  rintro e w1 ⟨v, rfl, ho, hb⟩
  have O := Lib.hid ho; clear ho
  have B := Lib.hid hb; clear hb
  obtain ⟨A2, c2, hv, h2⟩ := O.out.sl
  have HV := Lib.hid hv; clear hv
  have H2 := Lib.hid h2; clear h2
  go_wp2_with fail
  go_ret2
  rw [HV.out]
  exact ⟨A2, c2, rfl, H2.out, B.out, OwnB.far O.out HV.out⟩
def listL (l : List Nat) (ns : List Int) : List Nat := if ns.length ≤ 64 then (if allOk ns then l ++ digs ns.length ++ fl ns else l) else l
def listE (ns : List Int) : Int := if ns.length ≤ 64 then (if allOk ns then 0 else 1) else 12
theorem list_any (n c k d : Nat) (A D : Option Addr) (l : List Nat) (ns : List Int) (w : World) (hs : Sl w A n c l) (hl : n ≤ 1000000) (hd : SlI w D k d ns) :
    Calls Tryd.prog 19 #[.slice A n c, .slice D k d] w (WPost (listL l ns) (listE ns) w) := by
  unfold listL listE
  have hkn := hd.len
  by_cases h : k ≤ 64
  · have h64 : ns.length ≤ 64 := by omega
    simp only [if_pos h64]
    by_cases ha : allOk ns = true
    · simp only [if_pos ha]
      have := list_yes n c k d A D l ns w hs hl hd h ha
      rw [hkn] at this ⊢
      exact this
    · simp only [if_neg ha]
      exact list_arg n c k d A D l ns w hs hl hd h (by simpa using ha)
  · have h64 : ¬ ns.length ≤ 64 := by omega
    simp only [if_neg h64]
    exact list_over n c k d A D l w hs hl (by omega)
end Go.Proofs.YtifokcpkamdkeaaDoor
