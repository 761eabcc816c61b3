/-
  The document's own answers for layer 4 (package pacesetterref04): a payload's frame, Put, Get.
-/
import Derived.Test.YtdamnamhbjfnlaaFrPut
import Derived.Test.YtdamnamhbjfnlaaRegion
import Derived.Deep.RegionWith
namespace Go.Proofs.Ytdamnamhbjfnlaa
open Go.RowKit Fr

set_option maxHeartbeats 1000000 in
theorem frOf_any (m d : Nat) (D : Option Addr) (p : List Nat) (w : World) (h : Sl w D m d p) (hm : m ≤ 1000) :
    Calls Try.prog 58 #[.slice D m d] w (BPost (fr p) w) := by
  have hlp := h.len
  have HP := Lib.hid h; clear h
  have HS := Lib.hid (sl_two w (m / 256 % 256) (m % 256) (by omega) (by omega) ((m : Int) / 256) ((m : Int) % 256) (by omega) rfl)
  have O1 : Hid (OwnB (w.alloc (.cells #[.int .u8 ((m : Int) / 256), .int .u8 ((m : Int) % 256)] 5)) w.heap.size (.slice (some ⟨w.heap.size, 0, none⟩) 2 2) (hd2 p.length)) := by
    refine ⟨?_, hd2_byte _⟩
    have := World.ownsRow_lit (base := w.heap.size) (e := 5) (size := 1) w #[.int .u8 ((m : Int) / 256), .int .u8 ((m : Int) % 256)] 2 (Nat.le_refl _) (by unfold maxLen; omega) rfl
    have e2 : vals (hd2 p.length) = [.int .u8 ((m : Int) / 256), .int .u8 ((m : Int) % 256)] := by
      rw [← hlp]
      simp only [vals, hd2, List.map_cons, List.map_nil, List.cons.injEq, and_true]
      exact ⟨int_eq (by omega), rfl⟩
    rw [e2]
    exact this
  have B1 := Lib.hid ((Below.refl w.heap.size w).alloc (Nat.le_refl _) (.cells #[.int .u8 ((m : Int) / 256), .int .u8 ((m : Int) % 256)] 5))
  have HL : Hid ((hd2 p.length).length + p.length ≤ 140737488355328) := by show _ ≤ _; rw [hd2_length]; omega
  have LP := Lib.hid hlp; clear hlp
  go_enter Try.func58, Try.ntmps58
  go_wp2_with (at_builtin; refine wpList_append_own_rd rfl (.tmp 13) (.tmp 14) rfl w.heap.size _ (hd2 p.length) rfl O1.out m d D p rfl (HP.out.on B1.out) HL.out B1.out.size ?_; intro v2 w2 ho2 hb2; have O2 := Lib.hid ho2; have B2 := Lib.hid (B1.out.trans hb2); clear ho2 hb2)
  obtain ⟨A2, c2, rfl, hs2⟩ := O2.out.sl
  have S2 := Lib.hid hs2; clear hs2
  obtain ⟨q, hq⟩ : ∃ q, q = hd2 p.length ++ p := ⟨_, rfl⟩
  have Q := Lib.hid hq
  rw [← hq] at S2 O2 ⊢
  clear hq
  have QL : Hid (q.length ≤ 1002) := by show _ ≤ _; rw [Q.out, List.length_append, hd2_length, ← LP.out]; omega
  have C4 := Lib.hid (refseal_any q.length c2 A2 q w2 S2.out.rd rfl S2.out.nil (by have := QL.out; omega))
  go_wp2_with fail
  (with_reducible refine C4.out.mono ?_)
  rintro e w4 ⟨g4, c4, rfl, ho4, hb4⟩
  have O4 : Hid (OwnB w4 w2.heap.size (.slice (some ⟨g4, 0, none⟩) (q.length + 4) c4) (fr p)) := by
    have e4 : fr p = q ++ be4 (Crc.sum q) := by rw [Q.out]; rfl
    have l4 : (fr p).length = q.length + 4 := by rw [e4, List.length_append, be4_length]
    refine ⟨by rw [l4, e4]; exact ho4, ?_⟩
    exact fr_byte HP.out.rd.1
  have B4 := Lib.hid (B2.out.trans (hb4.mono B2.out.size)); clear hb4 ho4
  go_wp2_with fail
  go_ret
  exact BPost.mk (O4.out.lower B2.out.size) B4.out

/-- What the document's Put answers. -/
def FRPost (b p : List Nat) (w : World) (e : Ending) (w' : World) : Prop :=
  ∃ A c, e = .returned (.tuple #[.slice A (putL b p).length c, .int .i64 ((putE p : Nat) : Int)]) ∧ Sl w' A (putL b p).length c (putL b p) ∧ (putE p = 0 → OwnB w' w.heap.size (.slice A (putL b p).length c) (putL b p)) ∧ Below w.heap.size w w'
theorem FRPost.same {b p : List Nat} {w : World} {A : Option Addr} {n c : Nat} {x : Int} (hs : Sl w A n c b) (hl : putL b p = b) (hx : x = (putE p : Nat)) (h0 : putE p ≠ 0) : FRPost b p w (.returned (.tuple #[.slice A n c, .int .i64 x])) w := by
  have hn := hs.len
  subst hn hx
  unfold FRPost
  rw [hl]
  exact ⟨A, c, rfl, hs, fun h => absurd h h0, Below.refl _ _⟩
theorem FRPost.mk {b p : List Nat} {w w' : World} {v : Value} {x : Int} (h : OwnB w' w.heap.size v (putL b p)) (hx : x = (putE p : Nat)) (hb : Below w.heap.size w w') : FRPost b p w (.returned (.tuple #[v, .int .i64 x])) w' := by
  obtain ⟨A, c, rfl, hs⟩ := h.sl
  subst hx
  exact ⟨A, c, rfl, hs, fun _ => h, hb⟩

set_option maxHeartbeats 1000000 in
theorem frPut_any (n c m d : Nat) (A D : Option Addr) (b p : List Nat) (w : World) (hb : Sl w A n c b) (hp : Sl w D m d p) (hn : n ≤ 900000000) (hm : m ≤ 900000000) :
    Calls Try.prog 40 #[.slice A n c, .slice D m d] w (FRPost b p w) := by
  have hlp := hp.len
  have HB := Lib.hid hb
  have HP := Lib.hid hp
  clear hb hp
  by_cases h0 : m = 0
  · have HX := Lib.hid (put_none (b := b) (p := p) (by omega))
    subst h0
    clear hlp
    go_enter Try.func40, Try.ntmps40
    go_wp2_with fail
    go_ret2
    exact FRPost.same HB.out HX.out.2 (by rw [HX.out.1]; rfl) (by rw [HX.out.1]; omega)
  · have e0 : ((m : Int) == 0) = false := by rw [beq_eq_false_iff_ne]; omega
    by_cases h1 : 1000 < m
    · have HX := Lib.hid (put_over (b := b) (p := p) (by omega))
      clear hlp h0
      go_enter Try.func40, Try.ntmps40
      go_wp2_with fail
      go_ret2
      exact FRPost.same HB.out HX.out.2 (by rw [HX.out.1]; rfl) (by rw [HX.out.1]; omega)
    · have HX := Lib.hid (put_yes (b := b) (p := p) (by omega) (by omega))
      have LP := Lib.hid hlp
      have LB : Hid (n = b.length) := HB.out.len
      have h1' : m ≤ 1000 := by omega
      have O0 := Lib.hid (OwnB.none_ w w.heap.size)
      have HL : Hid (([] : List Nat).length + b.length ≤ 140737488355328) := by show _ ≤ _; rw [← LB.out]; simp; omega
      clear hlp h0 h1
      go_enter Try.func40, Try.ntmps40
      go_wp2_with (at_builtin; refine wpList_append_own_rd rfl (.tmp 15) (.tmp 16) rfl w.heap.size _ [] rfl O0.out n c A b rfl HB.out HL.out (Nat.le_refl _) ?_; intro v2 w2 ho2 hb2; have O2 := Lib.hid ho2; have B2 := Lib.hid hb2; clear ho2 hb2)
      have C3 := Lib.hid (frOf_any m d D p w2 (HP.out.on B2.out) h1')
      (with_reducible refine C3.out.mono ?_)
      rintro e w3 ⟨A3, c3, rfl, ho3, hb3⟩
      have S3 := Lib.hid ho3.sls; clear ho3
      have O3 := Lib.hid (O2.out.below hb3)
      have B3 := Lib.hid (B2.out.trans (hb3.mono B2.out.size)); clear hb3
      rw [List.nil_append] at O3
      obtain ⟨f, hf⟩ : ∃ f, f = fr p := ⟨_, rfl⟩
      rw [← hf] at S3 ⊢
      have FF := Lib.hid hf; clear hf
      have HL3 : Hid (b.length + f.length ≤ 140737488355328) := by show _ ≤ _; rw [FF.out, fr_length, ← LB.out, ← LP.out]; omega
      clear C3
      go_wp2_with (at_builtin; refine wpList_append_own_rd rfl (.tmp 18) (.tmp 20) rfl w.heap.size _ b rfl O3.out f.length c3 A3 f rfl S3.out HL3.out B3.out.size ?_; intro v4 w4 ho4 hb4; have O4 := Lib.hid ho4; have B4 := Lib.hid hb4; clear ho4 hb4)
      go_ret2
      refine FRPost.mk ?_ (by rw [HX.out.1]; rfl) (B3.out.trans B4.out)
      rw [HX.out.2, ← FF.out]
      exact O4.out
end Go.Proofs.Ytdamnamhbjfnlaa
