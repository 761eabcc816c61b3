/-
  The document's package of layer 14: a row with one more; Send, Twice. Written by wip/tools/gen/ntr3.py. No condition.
-/
import Derived.Test.YtmhhjipdbfepiaaNtR2
namespace Go.Proofs.Ytmhhjipdbfepiaa
open Go.RowKit
set_option linter.unusedSimpArgs false
set_option linter.unusedVariables false
set_option maxRecDepth 100000

/-- Where a row is read: the block of its first cell is new. -/
def NewAt (w : World) (A : Option Addr) : Prop := ∀ b o, A = some ⟨b, o, none⟩ → w.heap.size ≤ b
theorem NewAt.from_ {w w' : World} {A : Option Addr} (h : NewAt w' A) (hs : w.heap.size ≤ w'.heap.size) : NewAt w A := fun b o e => Nat.le_trans hs (h b o e)
theorem own_new {T : Type} {enc : T → List Value} {K : Nat} {e : TypeId} {w : World} {B n c : Nat} {A : Option Addr} {ts : List T} (h : OwF enc K e w B (.slice A n c) ts) : ∀ b o, A = some ⟨b, o, none⟩ → B ≤ b := by
  intro b o hA
  subst hA
  rcases h.2 with ⟨h1, _⟩ | ⟨g, cap, cur, h1, hg, _⟩
  · cases h1
  · injection h1 with h1 _ _
    injection h1 with h1
    injection h1 with h1 _
    omega
/-- What a call leaves that answers a net: its row is new, or the one that was handed in. -/
def RPost (A0 : Option Addr) (rm : Int) (n : Nat) (l : List Nt.M) (se lo : Int) (f : Value → Value) (w : World) (e : Ending) (w' : World) : Prop :=
  ∃ A c, e = .returned (f (nrV rm (.slice A n c) se lo)) ∧ SlF Nt.mC w' A n c l ∧ (A = A0 ∨ NewAt w A) ∧ Below w.heap.size w w'
section
variable {w : World} {g : Nat} {rm se lo : Int} {V : Value}
theorem NrAt.setV (h : NrAt w g rm V se lo) (v : Value) : NrAt (w.setCell ⟨g, 1, none⟩ v) g rm v se lo := ⟨heap_setCell_same w g 1 _ _ v h.row⟩
theorem NrAt.setS (h : NrAt w g rm V se lo) (x : Int) : NrAt (w.setCell ⟨g, 2, none⟩ (.int .i64 x)) g rm V x lo := ⟨heap_setCell_same w g 2 _ _ _ h.row⟩
theorem NrAt.setL (h : NrAt w g rm V se lo) (x : Int) : NrAt (w.setCell ⟨g, 3, none⟩ (.int .i64 x)) g rm V se x := ⟨heap_setCell_same w g 3 _ _ _ h.row⟩
end
theorem blk_set {w : World} {g b o : Nat} {v : Value} (h : b ≠ g) : (w.setCell ⟨g, o, none⟩ v).heap[b]? = w.heap[b]? := Below.heap_setCell _ _ _ _ (fun e => h e)
set_option maxHeartbeats 3200000 in
theorem rtpush_any (rm : Int) (A : Option Addr) (n c : Nat) (l : List Nt.M) (se lo : Int) (m : Nt.M) (w : World) (hs : SlF Nt.mC w A n c l) (hl : n ≤ 1000) :
    Calls Try.prog 32 #[nrV rm (.slice A n c) se lo, Nt.val m] w (fun e w' => ∃ A' c', e = .returned (nrV rm (.slice A' (n + 1) c') se lo) ∧ SlF Nt.mC w' A' (n + 1) c' (l ++ [m]) ∧ NewAt w A' ∧ Below w.heap.size w w') := by
  have LN : Hid (l.length = n) := hs.len.symm
  obtain ⟨W, hW⟩ : ∃ W, W = ((w.alloc (.cells #[.int .i64 rm, .slice A n c, .int .i64 se, .int .i64 lo] 28)).alloc (.cells (Nt.cs m) 32)).alloc (.cells #[.int .i64 0, .slice none 0 0, .int .i64 0, .int .i64 0] 28) := ⟨_, rfl⟩
  obtain ⟨r1, r2, r3, hb, hz⟩ := three_new hW
  have SH := Lib.hid hs
  clear hs
  go_enter Try.func32, Try.ntmps32
  go_upto_region 1 with fail
  rw [← hW]
  clear hW
  obtain ⟨g, hg⟩ : ∃ g, g = w.heap.size := ⟨_, rfl⟩
  rw [← hg] at r1 r2 r3 hz ⊢
  have X1 : Hid (NrAt W g rm (.slice A n c) se lo) := ⟨r1⟩
  have X2 : Hid (NtAt W (g + 1) m) := ⟨r2⟩
  have X3 : Hid (NrAt W (g + 1 + 1) 0 (.slice none 0 0) 0 0) := ⟨r3⟩
  have HG := Lib.hid hg
  have B := Lib.hid hb
  have SZ := Lib.hid hz
  clear hg r1 r2 r3 hz hb
  have SW := Lib.hid (SH.out.on B.out)
  have HL := Lib.hid hl
  have hov : OwF Nt.mC 6 32 W W.heap.size (.slice none 0 0) [] := OwF.none_ _ _ _
  clear hl
  go_upto_region 2 with fail
  generalize Value.slice none 0 0 = v0 at hov ⊢
  have OV := Lib.hid hov
  clear hov
  obtain ⟨x0, x1, x2, x3, xf, xl⟩ := X1.out.cs
  go_upto_region 3 with (at_builtin; refine wpList_append_all Nt.mC_len Nt.mC_one Try.underlying26 msg_info rfl (by omega) rfl (.tmp 6) (.tmp 8) rfl W.heap.size v0 [] l rfl OV.out rfl SW.out (by have := HL.out; have := LN.out; unfold maxLen; simp; omega) (by have := HL.out; have := LN.out; simp; omega) (Nat.le_refl _) ?_; intro v3 w3 ho3 hb3 hg3 _; have O3 := Lib.hid ho3; have B3 := Lib.hid hb3; clear ho3 hb3 hg3)
  have Y1 := Lib.hid (X1.out.on B3.out)
  have Y2 := Lib.hid (X2.out.on B3.out)
  have Y3 := Lib.hid (X3.out.on B3.out)
  have S3 := Lib.hid B3.out.size
  clear x0 x1 x2 x3 xf xl OV
  obtain ⟨x0, x1, x2, x3, xf, xl⟩ := Y1.out.cs
  rw [List.nil_append] at O3
  go_upto_region 4 with (first
    | ((with_reducible show wpList _ _ _ ({ dst := some 11, op := .load _ _, type := _, pos := _, after := _, guard := _ } :: _) _ _); refine wpList_load_msg rfl (.tmp 3) rfl (g + 1) 0 rfl m Y2.out.range ?_)
    | ((with_reducible show wpList _ _ _ ({ dst := some 12, op := .buildSlice _ _ _, type := _, pos := _, after := _, guard := _ } :: _) _ _); refine wpList_build_msg rfl (.tmp 11) rfl m rfl ?_)
    | (at_builtin; refine wpList_append_one Nt.mC_len Nt.mC_one Try.underlying26 msg_info rfl (by omega) rfl (.tmp 10) (.tmp 12) rfl W.heap.size v3 l rfl O3.out m rfl (by have := HL.out; have := LN.out; unfold maxLen; omega) (by have := HL.out; have := LN.out; omega) S3.out ?_; intro v4 w4 ho4 hb4 hg4 _; obtain ⟨A4, c4, rfl⟩ := ho4.form; have O4 := Lib.hid ho4; have B4 := Lib.hid (B3.out.trans (hb4.mono (Nat.le_refl _))); have Z1 := Lib.hid (X1.out.keep (hb4.block _ (by have := SZ.out; omega) |>.trans (B3.out.block _ (by have := SZ.out; omega)))); have Z3 := Lib.hid (X3.out.keep (hb4.block _ (by have := SZ.out; omega) |>.trans (B3.out.block _ (by have := SZ.out; omega)))); clear ho4 hb4 hg4 x0 x1 x2 x3 xf xl; obtain ⟨x0, x1, x2, x3, xf, xl⟩ := Z1.out.cs))
  clear x0 x1 x2 x3 xf xl
  have EN : (l ++ [m]).length = n + 1 := by rw [List.length_append, LN.out]; rfl
  rw [EN] at O4
  have EN2 := LN.out
  rw [EN2]
  obtain ⟨w5, hw5⟩ : ∃ w5, w5 = w4.setCell ⟨g, 1, none⟩ (.slice A4 (n + 1) c4) := ⟨_, rfl⟩
  have ZA : Hid (NrAt w5 g rm (.slice A4 (n + 1) c4) se lo) := by rw [hw5]; exact Z1.out.setV _
  have ZB : Hid (NrAt w5 (g + 1 + 1) 0 (.slice none 0 0) 0 0) := Z3.out.keep (by rw [hw5]; exact blk_set (by omega))
  have G5 : Hid (w4.grownBy w5 (some g)) := by rw [hw5]; exact grown_set _ _ _ _
  rw [← hw5]
  clear hw5 EN EN2
  go_wp2_with (first
    | ((with_reducible show wpList _ _ _ ({ dst := some 15, op := .load _ _, type := _, pos := _, after := _, guard := _ } :: _) _ _); refine wpList_load_nr rfl (.tmp 2) rfl rfl ZA.out ?_)
    | ((with_reducible show wpList _ _ _ ({ dst := none, op := .store _ _ _, type := _, pos := _, after := _, guard := _ } :: _) _ _); refine wpList_store_nr rfl (.tmp 4) (.tmp 15) rfl rfl rfl rfl ZB.out ?_; intro w6 hx6 hg6; have ZR := Lib.hid hx6; have G6 := Lib.hid hg6; clear hx6 hg6))
  have EB := own_new O4.out
  have hsl : SlF Nt.mC w6 A4 (n + 1) c4 (l ++ [m]) := O4.out.sl.keep (Nat.le_trans G5.out.size G6.out.size) (fun b o hA _ => by
    have h1 := EB b o hA
    have h2 := SZ.out
    have h3 := (O4.out.lt b (by rw [hA]; rfl)).2
    exact (G6.out.block b (Nat.lt_of_lt_of_le h3 G5.out.size) (fun e => by injection e with e; omega)).trans (G5.out.block b h3 (fun e => by injection e with e; omega)))
  have b1 : Below w.heap.size w w4 := B.out.trans (B4.out.mono B.out.size)
  have b2 : Below w.heap.size w w5 := b1.grown G5.out b1.size (fun b hb => by injection hb with hb; have := HG.out; omega)
  have b3 : Below w.heap.size w w6 := b2.grown G6.out b2.size (fun b hb => by injection hb with hb; have := HG.out; omega)
  exact bodyPost_ret (nr_results Try.results32 _ rfl ZR.out) rfl ⟨A4, c4, rfl, hsl, fun b o hA => by have := EB b o hA; have := SZ.out; have := HG.out; omega, b3⟩
set_option maxHeartbeats 3200000 in
theorem rtsend_arg (rm : Int) (A : Option Addr) (n c : Nat) (l : List Nt.M) (se lo : Int) (m : Nt.M) (w : World) (hs : SlF Nt.mC w A n c l) (hr : Nt.right m = false) :
    Calls Try.prog 14 #[nrV rm (.slice A n c) se lo, Nt.val m] w (RPost A rm n l se lo (fun v => .tuple #[v, .int .i64 1]) w) := by
  obtain ⟨W, hW⟩ : ∃ W, W = ((w.alloc (.cells #[.int .i64 rm, .slice A n c, .int .i64 se, .int .i64 lo] 28)).alloc (.cells (Nt.cs m) 32)).alloc (.cells #[.int .i64 0, .slice none 0 0, .int .i64 0, .int .i64 0] 28) := ⟨_, rfl⟩
  obtain ⟨r1, r2, r3, hb, hz⟩ := three_new hW
  have SH := Lib.hid hs
  clear hs
  go_enter Try.func14, Try.ntmps14
  go_upto_region 1 with fail
  rw [← hW]
  clear hW
  obtain ⟨g, hg⟩ : ∃ g, g = w.heap.size := ⟨_, rfl⟩
  rw [← hg] at r1 r2 r3 hz ⊢
  have X1 : Hid (NrAt W g rm (.slice A n c) se lo) := ⟨r1⟩
  have X2 : Hid (NtAt W (g + 1) m) := ⟨r2⟩
  have X3 : Hid (NrAt W (g + 1 + 1) 0 (.slice none 0 0) 0 0) := ⟨r3⟩
  have HG := Lib.hid hg
  have B := Lib.hid hb
  have SZ := Lib.hid hz
  clear hg r1 r2 r3 hz hb
  have CR := Lib.hid (fun W => rtright_any m W)
  rw [hr] at CR
  clear hr
  go_upto_region 2 with (first
    | ((with_reducible show wpList _ _ _ ({ dst := some 7, op := .load _ _, type := _, pos := _, after := _, guard := _ } :: _) _ _); refine wpList_load_msg rfl (.tmp 3) rfl (g + 1) 0 rfl m X2.out.range ?_)
    | (go_at_call 31; (with_reducible refine (CR.out _).mono ?_); rintro e w3 ⟨rfl, hb3⟩; have Y1 := Lib.hid (X1.out.on hb3); have Y2 := Lib.hid (X2.out.on hb3); have Y3 := Lib.hid (X3.out.on hb3); have B3 := Lib.hid (B.out.trans (hb3.mono B.out.size)); have S3 := Lib.hid hb3.size; clear hb3))
  clear CR X1 X2 X3
  go_wp2_with (first
    | ((with_reducible show wpList _ _ _ ({ dst := some 11, op := .load _ _, type := _, pos := _, after := _, guard := _ } :: _) _ _); refine wpList_load_nr rfl (.tmp 2) rfl rfl Y1.out ?_)
    | (((with_reducible show wpList _ _ _ ({ dst := none, op := .store _ _ _, type := _, pos := _, after := _, guard := _ } :: _) _ _); refine wpList_store_nr rfl (.tmp 4) (.tmp 11) rfl rfl rfl rfl Y3.out ?_); intro w6 hx6 hg6; have ZR := Lib.hid hx6; have B6 := Lib.hid (B3.out.grown hg6 B3.out.size (fun b hb => by injection hb with hb; have := HG.out; omega)); clear hx6 hg6))
  exact bodyPost_ret (nr_results2 Try.results14 _ rfl ZR.out) rfl ⟨A, c, rfl, SH.out.on B6.out, .inl rfl, B6.out⟩
set_option maxHeartbeats 3200000 in
theorem rtsend_full (rm : Int) (A : Option Addr) (n c : Nat) (l : List Nt.M) (se lo : Int) (m : Nt.M) (w : World) (hs : SlF Nt.mC w A n c l) (hr : Nt.right m = true) (hge : rm ≤ (n : Int)) (hlo : 0 ≤ lo ∧ lo ≤ 1000000) :
    Calls Try.prog 14 #[nrV rm (.slice A n c) se lo, Nt.val m] w (RPost A rm n l se (lo + 1) (fun v => .tuple #[v, .int .i64 4]) w) := by
  obtain ⟨W, hW⟩ : ∃ W, W = ((w.alloc (.cells #[.int .i64 rm, .slice A n c, .int .i64 se, .int .i64 lo] 28)).alloc (.cells (Nt.cs m) 32)).alloc (.cells #[.int .i64 0, .slice none 0 0, .int .i64 0, .int .i64 0] 28) := ⟨_, rfl⟩
  obtain ⟨r1, r2, r3, hb, hz⟩ := three_new hW
  have SH := Lib.hid hs
  clear hs
  go_enter Try.func14, Try.ntmps14
  go_upto_region 1 with fail
  rw [← hW]
  clear hW
  obtain ⟨g, hg⟩ : ∃ g, g = w.heap.size := ⟨_, rfl⟩
  rw [← hg] at r1 r2 r3 hz ⊢
  have X1 : Hid (NrAt W g rm (.slice A n c) se lo) := ⟨r1⟩
  have X2 : Hid (NtAt W (g + 1) m) := ⟨r2⟩
  have X3 : Hid (NrAt W (g + 1 + 1) 0 (.slice none 0 0) 0 0) := ⟨r3⟩
  have HG := Lib.hid hg
  have B := Lib.hid hb
  have SZ := Lib.hid hz
  clear hg r1 r2 r3 hz hb
  have CR := Lib.hid (fun W => rtright_any m W)
  rw [hr] at CR
  clear hr
  go_upto_region 2 with (first
    | ((with_reducible show wpList _ _ _ ({ dst := some 7, op := .load _ _, type := _, pos := _, after := _, guard := _ } :: _) _ _); refine wpList_load_msg rfl (.tmp 3) rfl (g + 1) 0 rfl m X2.out.range ?_)
    | (go_at_call 31; (with_reducible refine (CR.out _).mono ?_); rintro e w3 ⟨rfl, hb3⟩; have Y1 := Lib.hid (X1.out.on hb3); have Y2 := Lib.hid (X2.out.on hb3); have Y3 := Lib.hid (X3.out.on hb3); have B3 := Lib.hid (B.out.trans (hb3.mono B.out.size)); have S3 := Lib.hid hb3.size; clear hb3))
  clear CR X1 X2 X3
  have hl1 : wrap64 (lo + 1) = lo + 1 := IntWalk.wrap64_in _ ⟨by omega, by omega⟩
  clear hlo
  obtain ⟨x0, x1, x2, x3, xf, xl⟩ := Y1.out.cs
  go_upto_region 6 with fail
  clear x0 x1 x2 x3 xf xl
  obtain ⟨w5, hw5⟩ : ∃ w5, w5 = w3.setCell ⟨g, 3, none⟩ (.int .i64 (lo + 1)) := ⟨_, rfl⟩
  have ZA : Hid (NrAt w5 g rm (.slice A n c) se (lo + 1)) := by rw [hw5]; exact Y1.out.setL _
  have ZB : Hid (NrAt w5 (g + 1 + 1) 0 (.slice none 0 0) 0 0) := Y3.out.keep (by rw [hw5]; exact blk_set (by omega))
  have ZM : Hid (NtAt w5 (g + 1) m) := Y2.out.keep (by rw [hw5]; exact blk_set (by omega))
  have B5 : Hid (Below w.heap.size w w5) := by rw [hw5]; exact B3.out.grown (grown_set _ _ _ _) B3.out.size (fun b hb => by injection hb with hb; have := HG.out; omega)
  rw [← hw5]
  clear hw5 Y1 Y2 Y3
  go_wp2_with (first
    | ((with_reducible show wpList _ _ _ ({ dst := some 22, op := .load _ _, type := _, pos := _, after := _, guard := _ } :: _) _ _); refine wpList_load_nr rfl (.tmp 2) rfl rfl ZA.out ?_)
    | (((with_reducible show wpList _ _ _ ({ dst := none, op := .store _ _ _, type := _, pos := _, after := _, guard := _ } :: _) _ _); refine wpList_store_nr rfl (.tmp 4) (.tmp 22) rfl rfl rfl rfl ZB.out ?_); intro w6 hx6 hg6; have ZR := Lib.hid hx6; have B6 := Lib.hid (B5.out.grown hg6 B5.out.size (fun b hb => by injection hb with hb; have := HG.out; omega)); clear hx6 hg6))
  exact bodyPost_ret (nr_results2 Try.results14 _ rfl ZR.out) rfl ⟨A, c, rfl, SH.out.on B6.out, .inl rfl, B6.out⟩
set_option maxHeartbeats 3200000 in
theorem rtsend_ok (rm : Int) (A : Option Addr) (n c : Nat) (l : List Nt.M) (se lo : Int) (m : Nt.M) (w : World) (hs : SlF Nt.mC w A n c l) (hr : Nt.right m = true) (hge : (n : Int) < rm) (hse : 0 ≤ se ∧ se ≤ 1000000) (hl : n ≤ 1000) :
    Calls Try.prog 14 #[nrV rm (.slice A n c) se lo, Nt.val m] w (RPost none rm (n + 1) (l ++ [m]) (se + 1) lo (fun v => .tuple #[v, .int .i64 0]) w) := by
  obtain ⟨W, hW⟩ : ∃ W, W = ((w.alloc (.cells #[.int .i64 rm, .slice A n c, .int .i64 se, .int .i64 lo] 28)).alloc (.cells (Nt.cs m) 32)).alloc (.cells #[.int .i64 0, .slice none 0 0, .int .i64 0, .int .i64 0] 28) := ⟨_, rfl⟩
  obtain ⟨r1, r2, r3, hb, hz⟩ := three_new hW
  have SH := Lib.hid hs
  clear hs
  go_enter Try.func14, Try.ntmps14
  go_upto_region 1 with fail
  rw [← hW]
  clear hW
  obtain ⟨g, hg⟩ : ∃ g, g = w.heap.size := ⟨_, rfl⟩
  rw [← hg] at r1 r2 r3 hz ⊢
  have X1 : Hid (NrAt W g rm (.slice A n c) se lo) := ⟨r1⟩
  have X2 : Hid (NtAt W (g + 1) m) := ⟨r2⟩
  have X3 : Hid (NrAt W (g + 1 + 1) 0 (.slice none 0 0) 0 0) := ⟨r3⟩
  have HG := Lib.hid hg
  have B := Lib.hid hb
  have SZ := Lib.hid hz
  clear hg r1 r2 r3 hz hb
  have CR := Lib.hid (fun W => rtright_any m W)
  rw [hr] at CR
  clear hr
  go_upto_region 2 with (first
    | ((with_reducible show wpList _ _ _ ({ dst := some 7, op := .load _ _, type := _, pos := _, after := _, guard := _ } :: _) _ _); refine wpList_load_msg rfl (.tmp 3) rfl (g + 1) 0 rfl m X2.out.range ?_)
    | (go_at_call 31; (with_reducible refine (CR.out _).mono ?_); rintro e w3 ⟨rfl, hb3⟩; have Y1 := Lib.hid (X1.out.on hb3); have Y2 := Lib.hid (X2.out.on hb3); have Y3 := Lib.hid (X3.out.on hb3); have B3 := Lib.hid (B.out.trans (hb3.mono B.out.size)); have S3 := Lib.hid hb3.size; clear hb3))
  clear CR X1 X2 X3
  have hl1 : wrap64 (se + 1) = se + 1 := IntWalk.wrap64_in _ ⟨by omega, by omega⟩
  have hge2 : ¬ (rm ≤ (n : Int)) := by omega
  have HL := Lib.hid hl
  clear hse hl
  obtain ⟨x0, x1, x2, x3, xf, xl⟩ := Y1.out.cs
  go_upto_region 8 with fail
  clear x0 x1 x2 x3 xf xl
  obtain ⟨w5, hw5⟩ : ∃ w5, w5 = w3.setCell ⟨g, 2, none⟩ (.int .i64 (se + 1)) := ⟨_, rfl⟩
  have ZA : Hid (NrAt w5 g rm (.slice A n c) (se + 1) lo) := by rw [hw5]; exact Y1.out.setS _
  have ZB : Hid (NrAt w5 (g + 1 + 1) 0 (.slice none 0 0) 0 0) := Y3.out.keep (by rw [hw5]; exact blk_set (by omega))
  have ZM : Hid (NtAt w5 (g + 1) m) := Y2.out.keep (by rw [hw5]; exact blk_set (by omega))
  have B5 : Hid (Below w.heap.size w w5) := by rw [hw5]; exact B3.out.grown (grown_set _ _ _ _) B3.out.size (fun b hb => by injection hb with hb; have := HG.out; omega)
  rw [← hw5]
  clear hw5 Y1 Y2 Y3
  go_wp2_with (first
    | ((with_reducible show wpList _ _ _ ({ dst := some 27, op := .load _ _, type := _, pos := _, after := _, guard := _ } :: _) _ _); refine wpList_load_nr rfl (.tmp 2) rfl rfl ZA.out ?_)
    | ((with_reducible show wpList _ _ _ ({ dst := some 28, op := .load _ _, type := _, pos := _, after := _, guard := _ } :: _) _ _); refine wpList_load_msg rfl (.tmp 3) rfl (g + 1) 0 rfl m ZM.out.range ?_)
    | (go_at_call 32; (with_reducible refine (rtpush_any rm A n c l (se + 1) lo m _ (SH.out.on B5.out) HL.out).mono ?_); rintro e w7 ⟨A7, c7, rfl, hs7, hn7, hb7⟩; have S7 := Lib.hid hs7; have N7 := Lib.hid hn7; have ZB7 := Lib.hid (ZB.out.on hb7); have B7 := Lib.hid (B5.out.trans (hb7.mono B5.out.size)); have E7 := Lib.hid (Nat.lt_of_lt_of_le ZB.out.cs.lt hb7.size); clear hs7 hn7 hb7)
    | (((with_reducible show wpList _ _ _ ({ dst := none, op := .store _ _ _, type := _, pos := _, after := _, guard := _ } :: _) _ _); refine wpList_store_nr rfl (.tmp 4) (.tmp 29) rfl rfl rfl rfl ZB7.out ?_); intro w8 hx8 hg8; have ZR := Lib.hid hx8; have G8 := Lib.hid hg8; clear hx8 hg8))
  have hsl : SlF Nt.mC w8 A7 (n + 1) c7 (l ++ [m]) := S7.out.keep G8.out.size (fun b o hA hp => by
    have h1 := N7.out b o hA
    obtain ⟨b', o', e1, e2, _⟩ := S7.out.rd hp
    rw [hA] at e1
    injection e1 with e1
    injection e1 with e1 _
    exact G8.out.block b (by omega) (fun e => by injection e with e; have := ZB.out.cs.lt; omega))
  have b8 : Below w.heap.size w w8 := B7.out.grown G8.out B7.out.size (fun b hb => by injection hb with hb; have := HG.out; omega)
  exact bodyPost_ret (nr_results2 Try.results14 _ rfl ZR.out) rfl ⟨A7, c7, rfl, hsl, .inr (N7.out.from_ B5.out.size), b8⟩
end Go.Proofs.Ytmhhjipdbfepiaa
