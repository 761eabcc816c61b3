/-
  Package disk: what each call answers, and what it leaves, from any world in which a disk lies.
-/
import Derived.Test.YtdamnamhbjfnlaaDskMem
namespace Go.Proofs.Ytdamnamhbjfnlaa
open Go.RowKit

namespace Dk
/-- A disk: its room, how many bytes are safe, all its bytes. -/
structure St where
  room : Nat
  safe : Nat
  l : List Nat
def fits (n : Int) : Nat := (max 0 (min n 1048576)).toNat
def new (n : Int) : St := ⟨fits n, 0, []⟩
def Okay (d : St) : Prop := d.safe ≤ d.l.length ∧ d.l.length ≤ d.room ∧ d.room ≤ 1048576
def goes (d : St) (b : List Nat) : Prop := d.l.length + b.length ≤ d.room
instance (d : St) (b : List Nat) : Decidable (goes d b) := by unfold goes; infer_instance
def write (d : St) (b : List Nat) : St := if goes d b then ⟨d.room, d.safe, d.l ++ b⟩ else d
def writeE (d : St) (b : List Nat) : Int := if goes d b then 0 else 4
def opens (d : St) : Nat := d.l.length - d.safe
def sync (d : St) : St := ⟨d.room, d.l.length, d.l⟩
def leave (d : St) (n : Nat) : St := ⟨d.room, n, d.l.take n⟩
def kept (d : St) (keep : Int) : Nat := (max 0 (min keep (opens d : Nat))).toNat
def crash (d : St) (keep : Int) : St := leave d (d.safe + kept d keep)
def lost (d : St) (keep : Int) : Nat := opens d - kept d keep
def within (d : St) (n : Int) : Prop := 0 ≤ n ∧ n ≤ (d.l.length : Nat)
instance (d : St) (n : Int) : Decidable (within d n) := by unfold within; infer_instance
def cut (d : St) (n : Int) : St := if within d n then leave d n.toNat else d
def cutE (d : St) (n : Int) : Int := if within d n then 0 else 1
def swap (d : St) (b : List Nat) : St := if b.length ≤ d.room then ⟨d.room, b.length, b⟩ else d
def swapE (d : St) (b : List Nat) : Int := if b.length ≤ d.room then 0 else 4
theorem fits_le (n : Int) : fits n ≤ 1048576 := by unfold fits; omega
theorem Okay.new (n : Int) : Okay (new n) := ⟨Nat.le_refl _, Nat.zero_le _, fits_le n⟩
theorem Okay.write {d : St} (h : Okay d) (b : List Nat) : Okay (write d b) := by
  unfold Dk.write
  split
  · rename_i h1
    unfold goes at h1
    exact ⟨by simp; have := h.1; omega, by simp; omega, h.2.2⟩
  · exact h
theorem Okay.sync {d : St} (h : Okay d) : Okay (sync d) := ⟨Nat.le_refl _, h.2⟩
theorem Okay.leave {d : St} (h : Okay d) {n : Nat} (hn : n ≤ d.l.length) : Okay (leave d n) := by
  have h1 := h.2.1
  refine ⟨?_, ?_, h.2.2⟩
  · show n ≤ (d.l.take n).length; rw [List.length_take]; omega
  · show (d.l.take n).length ≤ d.room; rw [List.length_take]; omega
theorem kept_le (d : St) (keep : Int) : kept d keep ≤ opens d := by unfold kept; omega
theorem Okay.crash {d : St} (h : Okay d) (keep : Int) : Okay (crash d keep) := by
  refine h.leave ?_
  have := kept_le d keep
  have := h.1
  unfold opens at *
  omega
theorem Okay.cut {d : St} (h : Okay d) (n : Int) : Okay (cut d n) := by
  unfold Dk.cut
  split
  · rename_i h1; exact h.leave (by unfold within at h1; omega)
  · exact h
theorem Okay.swap {d : St} (h : Okay d) (b : List Nat) : Okay (swap d b) := by
  unfold Dk.swap
  split
  · rename_i h1; exact ⟨Nat.le_refl _, h1, h.2.2⟩
  · exact h
end Dk

/-- In block r lies a disk whose state is d; v holds its bytes. -/
structure Dsk (w : World) (r : Nat) (v : Value) (d : Dk.St) : Prop where
  blk : w.heap[r]? = some (.cells #[.int .i64 (d.room : Nat), .int .i64 (d.safe : Nat), v] 67 (0, 0))
  own : OwnC w v d.l
  off : v.ownBlock ≠ some r
  okay : Dk.Okay d
/-- The blocks that are a disk's. -/
def foot (r : Nat) (v : Value) (i : Nat) : Prop := i = r ∨ v.ownBlock = some i
theorem Dsk.lt {w : World} {r : Nat} {v : Value} {d : Dk.St} (h : Dsk w r v d) : ∀ i, foot r v i → i < w.heap.size := by
  rintro i (rfl | hi)
  · exact (Array.getElem?_eq_some_iff.1 h.blk).1
  · exact h.own.lt _ hi
theorem Dsk.keep {w w' : World} {r : Nat} {v : Value} {d : Dk.St} (h : Dsk w r v d) (hk : ∀ i, foot r v i → w'.heap[i]? = w.heap[i]?) : Dsk w' r v d :=
  ⟨(hk r (.inl rfl)).trans h.blk, h.own.keep fun k hk2 => hk k (.inr hk2), h.off, h.okay⟩
theorem Dsk.below {w w' : World} {r : Nat} {v : Value} {d : Dk.St} (h : Dsk w r v d) (hb : Below w.heap.size w w') : Dsk w' r v d := h.keep fun i hi => hb.block i (h.lt i hi)
theorem Dsk.facts {w : World} {r : Nat} {v : Value} {d : Dk.St} (h : Dsk w r v d) :
    w.cell? ⟨r, 0, none⟩ = some (.int .i64 (d.room : Nat)) ∧ w.cell? ⟨r, 1, none⟩ = some (.int .i64 (d.safe : Nat)) ∧ w.cell? ⟨r, 2, none⟩ = some v ∧ w.frozen? ⟨r, 1, none⟩ = false ∧ w.frozen? ⟨r, 2, none⟩ = false :=
  ⟨by rw [cell_of_row w r 0 _ _ _ h.blk]; rfl, by rw [cell_of_row w r 1 _ _ _ h.blk]; rfl, by rw [cell_of_row w r 2 _ _ _ h.blk]; rfl, frozen_of_row w r 1 _ _ h.blk, frozen_of_row w r 2 _ _ h.blk⟩
/-- What a call that changes a disk leaves. -/
def DPost (w : World) (r : Nat) (v : Value) (d : Dk.St) (x : Value) (e : Ending) (w' : World) : Prop :=
  e = .returned x ∧ ∃ v', Dsk w' r v' d ∧ (∀ i, v'.ownBlock = some i → v.ownBlock = some i ∨ w.heap.size ≤ i) ∧ Kept (foot r v) w w'
def APost (w : World) (x : Value) (e : Ending) (w' : World) : Prop := e = .returned x ∧ Below w.heap.size w w'

set_option maxHeartbeats 400000 in
theorem dopen_any (w : World) (r : Nat) (v : Value) (d : Dk.St) (h : Dsk w r v d) :
    Calls Try.prog 61 #[.pointer (some ⟨r, 0, none⟩)] w (APost w (.int .i64 (Dk.opens d : Nat))) := by
  obtain ⟨c0, c1, c2, f1, f2⟩ := h.facts
  obtain ⟨A, c, rfl, hs⟩ := h.own.sl
  have hok := h.okay
  have HO : Hid (Dk.opens d = d.l.length - d.safe) := rfl
  unfold Dk.Okay at hok
  clear h hs c0 f1 f2
  generalize d.l.length = n at *
  generalize d.safe = s at *
  go_enter Try.func61, Try.ntmps61
  go_wp2_with fail
  go_quiet (fail)
  go_wp2_with fail
  go_ret
  exact ⟨ret_int (by rw [HO.out]; omega), Below.drewN (Below.refl _ _) _⟩
set_option maxHeartbeats 400000 in
theorem dRoom_any (w : World) (r : Nat) (v : Value) (d : Dk.St) (h : Dsk w r v d) :
    Calls Try.prog 53 #[.pointer (some ⟨r, 0, none⟩)] w (APost w (.int .i64 (d.room - d.l.length : Nat))) := by
  obtain ⟨c0, c1, c2, f1, f2⟩ := h.facts
  obtain ⟨A, c, rfl, hs⟩ := h.own.sl
  have hok := h.okay
  unfold Dk.Okay at hok
  clear h hs c1 f1 f2
  generalize d.l.length = n at *
  generalize d.room = s at *
  go_enter Try.func53, Try.ntmps53
  go_wp2_with fail
  go_quiet (fail)
  go_wp2_with fail
  go_ret
  exact ⟨ret_int (by omega), Below.drewN (Below.refl _ _) _⟩
theorem dLen_any (w : World) (r : Nat) (v : Value) (d : Dk.St) (h : Dsk w r v d) :
    Calls Try.prog 35 #[.pointer (some ⟨r, 0, none⟩)] w (APost w (.int .i64 (d.l.length : Nat))) := by
  obtain ⟨c0, c1, c2, f1, f2⟩ := h.facts
  obtain ⟨A, c, rfl, hs⟩ := h.own.sl
  clear h hs c1 c0 f1 f2
  generalize d.l.length = n at *
  go_enter Try.func35, Try.ntmps35
  go_wp2_with fail
  go_ret
  exact ⟨rfl, Below.refl _ _⟩
theorem dSafe_any (w : World) (r : Nat) (v : Value) (d : Dk.St) (h : Dsk w r v d) :
    Calls Try.prog 36 #[.pointer (some ⟨r, 0, none⟩)] w (APost w (.int .i64 (d.safe : Nat))) := by
  obtain ⟨c0, c1, c2, f1, f2⟩ := h.facts
  clear h c2 c0 f1 f2
  generalize d.safe = n at *
  go_enter Try.func36, Try.ntmps36
  go_wp2_with fail
  go_ret
  exact ⟨rfl, Below.refl _ _⟩
theorem dAll_any (w : World) (r : Nat) (v : Value) (d : Dk.St) (h : Dsk w r v d) :
    Calls Try.prog 45 #[.pointer (some ⟨r, 0, none⟩)] w (BPost d.l w) := by
  obtain ⟨c0, c1, c2, f1, f2⟩ := h.facts
  obtain ⟨A, c, rfl, hs⟩ := h.own.sl
  have hok := h.okay
  unfold Dk.Okay at hok
  have HC := Lib.hid (clone_any d.l.length c A d.l w hs (by omega))
  clear h hs c1 c0 f1 f2 hok
  go_enter Try.func45, Try.ntmps45
  go_wp2_with fail
  (with_reducible refine HC.out.mono ?_)
  rintro e w1 ⟨A1, c1, rfl, ho, hb⟩
  have O := Lib.hid ho; clear ho
  have B := Lib.hid hb; clear hb
  go_wp2_with fail
  go_ret
  exact ⟨A1, c1, rfl, O.out, B.out⟩
/-- What New leaves. -/
def NPost (n : Int) (w : World) (e : Ending) (w' : World) : Prop := ∃ r, e = .returned (.pointer (some ⟨r, 0, none⟩)) ∧ w.heap.size ≤ r ∧ Dsk w' r (.slice none 0 0) (Dk.new n) ∧ Below w.heap.size w w'
theorem nwithin_any (n lo hi : Int) (w : World) :
    Calls Try.prog 57 #[.int .i64 n, .int .i64 lo, .int .i64 hi] w fun e w' => e = .returned (.int .i64 (max lo (min n hi))) ∧ w = w' := by
  go_enter Try.func57, Try.ntmps57
  go_wp2_with fail
  all_goals (go_ret; exact ⟨ret_int (by omega), rfl⟩)
theorem ncut_any (n : Int) (w : World) :
    Calls Try.prog 39 #[.int .i64 n] w fun e w' => e = .returned (.int .i64 (Dk.fits n : Nat)) ∧ w = w' := by
  have HF : Hid ((Dk.fits n : Nat) = max 0 (min n 1048576)) := by show _ = _; unfold Dk.fits; omega
  go_enter Try.func39, Try.ntmps39
  go_wp2_with fail
  refine (nwithin_any n 0 1048576 w).mono ?_
  rintro e w' ⟨rfl, rfl⟩
  go_wp2_with fail
  go_ret
  exact ⟨ret_int HF.out.symm, rfl⟩
theorem dNew_any (n : Int) (w : World) : Calls Try.prog 11 #[.int .i64 n] w (NPost n w) := by
  have HO := Lib.hid (Dk.Okay.new n)
  have HC := Lib.hid (ncut_any n w)
  have HF : Hid (Dk.new n = ⟨Dk.fits n, 0, []⟩) := rfl
  generalize Dk.fits n = m at *
  go_enter Try.func11, Try.ntmps11
  go_wp2_with fail
  refine HC.out.mono ?_
  rintro e w' ⟨rfl, rfl⟩
  go_wp2_with fail
  go_ret
  refine ⟨w.heap.size, rfl, Nat.le_refl _, ⟨?_, ?_, by simp [Value.ownBlock], HO.out⟩, (Below.refl _ _).alloc (Nat.le_refl _) _⟩
  · rw [HF.out]; exact heap_alloc_new w _
  · rw [HF.out]; exact OwnC.none_ _

/-! Calls that change a disk. -/
theorem heap_set_other (w : World) (r o : Nat) (u : Value) (k : Nat) (h : k ≠ r) : (w.setCell ⟨r, o, none⟩ u).heap[k]? = w.heap[k]? := Below.heap_setCell _ _ _ _ (by simpa using h)
/-- All three cells of a disk's block are known: what its cells hold. -/
theorem dsk_at {w : World} {r : Nat} {v : Value} {d : Dk.St} {x y : Int} (hb : w.heap[r]? = some (.cells #[.int .i64 x, .int .i64 y, v] 67 (0, 0))) (hx : x = (d.room : Nat)) (hy : y = (d.safe : Nat)) (ho : OwnC w v d.l) (hr : v.ownBlock ≠ some r) (hk : Dk.Okay d) : Dsk w r v d := by
  subst hx hy
  exact ⟨hb, ho, hr, hk⟩
theorem OwnC.set {w : World} {v : Value} {l : List Nat} {r o : Nat} {u : Value} (h : OwnC w v l) (hr : v.ownBlock ≠ some r) : OwnC (w.setCell ⟨r, o, none⟩ u) v l :=
  h.keep fun k hk => heap_set_other _ _ _ _ _ (fun e => hr (by rw [hk, e]))
set_option maxHeartbeats 400000 in
theorem dleave_any (w : World) (r n : Nat) (v : Value) (d : Dk.St) (h : Dsk w r v d) (hn : n ≤ d.l.length) :
    Calls Try.prog 62 #[.pointer (some ⟨r, 0, none⟩), .int .i64 (n : Nat)] w (DPost w r v (Dk.leave d n) (.tuple #[])) := by
  obtain ⟨c0, c1, c2, f1, f2⟩ := h.facts
  obtain ⟨A, c, rfl, hs⟩ := h.own.sl
  have hok := h.okay
  have hcap := hs.cap
  have hmax := hs.max
  unfold maxLen at hmax
  have HOC := h.own.cut n hn
  have HR : Hid ((Value.slice A n n).ownBlock ≠ some r) := by
    have := h.off
    cases A <;> exact this
  have D1 := heap_setCell_same w r 2 _ _ (.slice A n n) h.blk
  have D2 := heap_setCell_same (w.setCell ⟨r, 2, none⟩ (.slice A n n)) r 1 _ _ (.int .i64 (n : Nat)) D1
  have HD : Hid (Dsk ((w.setCell ⟨r, 2, none⟩ (.slice A n n)).setCell ⟨r, 1, none⟩ (.int .i64 (n : Nat))) r (.slice A n n) (Dk.leave d n)) :=
    ⟨by rw [D2]; rfl, (HOC.set HR.out).set HR.out, HR.out, hok.leave hn⟩
  clear D1 D2 HOC h hs
  generalize d.l.length = m at *
  go_enter Try.func62, Try.ntmps62
  go_wp2_with fail
  go_end0
  refine ⟨rfl, _, HD.out, fun i hi => .inl ?_, Kept.of_grown (row := some r) (grown_trans (grown_set _ _ _ _) (grown_set _ _ _ _)) (fun k hk => .inl (by injection hk with hk; exact hk.symm))⟩
  cases A <;> exact hi
theorem DPost.of_safe {w : World} {r : Nat} {v : Value} {d d' : Dk.St} (h : Dsk w r v d) (x : Value) (n : Nat) (e : d' = ⟨d.room, n, d.l⟩) (hok : Dk.Okay d') : DPost w r v d' x (.returned x) (w.setCell ⟨r, 1, none⟩ (.int .i64 (n : Nat))) := by
  subst e
  have D1 := heap_setCell_same w r 1 _ _ (.int .i64 (n : Nat)) h.blk
  exact ⟨rfl, v, ⟨by rw [D1]; rfl, h.own.set h.off, h.off, hok⟩, fun i hi => .inl hi, Kept.of_grown (row := some r) (grown_set _ _ _ _) (fun k hk => .inl (by injection hk with hk; exact hk.symm))⟩
theorem foot_on {r : Nat} {v v' : Value} {w : World} (h : ∀ i, v'.ownBlock = some i → v.ownBlock = some i ∨ w.heap.size ≤ i) : ∀ i, i < w.heap.size → foot r v' i → foot r v i := by
  rintro i hi (rfl | h2)
  · exact .inl rfl
  · rcases h i h2 with h3 | h3
    · exact .inr h3
    · omega
/-- A call behind calls that only read. -/
theorem DPost.before {w w1 : World} {r : Nat} {v : Value} {d : Dk.St} {x : Value} {e : Ending} {w' : World} (h : DPost w1 r v d x e w') (hb : Below w.heap.size w w1) : DPost w r v d x e w' := by
  obtain ⟨rfl, v', h1, h2, h3⟩ := h
  refine ⟨rfl, v', h1, fun i hi => ?_, (Kept.of_below hb).trans h3 fun i _ h => h⟩
  rcases h2 i hi with h4 | h4
  · exact .inl h4
  · exact .inr (Nat.le_trans hb.size h4)
/-- Calls that only read, behind a call. -/
theorem DPost.behind {w w1 w' : World} {r : Nat} {v : Value} {d : Dk.St} {x y : Value} {e : Ending} (h : DPost w r v d x e w1) (hb : Below w1.heap.size w1 w') : DPost w r v d y (.returned y) w' := by
  obtain ⟨rfl, v', h1, h2, h3⟩ := h
  exact ⟨rfl, v', h1.below hb, h2, h3.trans (Kept.of_below hb) fun i _ h => h⟩
set_option maxHeartbeats 400000 in
theorem dSync_any (w : World) (r : Nat) (v : Value) (d : Dk.St) (h : Dsk w r v d) :
    Calls Try.prog 46 #[.pointer (some ⟨r, 0, none⟩)] w (DPost w r v (Dk.sync d) (.int .i64 (Dk.opens d : Nat))) := by
  have HD := Lib.hid h
  have HC := Lib.hid (dopen_any w r v d h)
  have HS : Hid (Dk.sync d = ⟨d.room, d.l.length, d.l⟩) := rfl
  have HK := Lib.hid h.okay.sync
  clear h
  generalize Dk.opens d = m at *
  go_enter Try.func46, Try.ntmps46
  go_wp2_with fail
  refine HC.out.mono ?_
  rintro e w1 ⟨rfl, hb⟩
  have B := Lib.hid hb
  have D1 := HD.out.below hb
  have HD1 := Lib.hid D1
  obtain ⟨c0, c1, c2, f1, f2⟩ := D1.facts
  obtain ⟨A, c, rfl, hs⟩ := D1.own.sl
  clear hb D1 hs
  go_wp2_with fail
  go_ret
  exact (DPost.of_safe HD1.out (.int .i64 (m : Nat)) d.l.length HS.out HK.out).before B.out
set_option maxHeartbeats 400000 in
theorem dCrash_any (w : World) (r : Nat) (keep : Int) (v : Value) (d : Dk.St) (h : Dsk w r v d) (hk : -9223372036854775808 ≤ keep ∧ keep ≤ 9223372036854775807) :
    Calls Try.prog 48 #[.pointer (some ⟨r, 0, none⟩), .int .i64 keep] w (DPost w r v (Dk.crash d keep) (.int .i64 (Dk.lost d keep : Nat))) := by
  have HD := Lib.hid h
  have HC := Lib.hid (fun W h => dopen_any W r v d h)
  have HS : Hid (Dk.crash d keep = Dk.leave d (d.safe + Dk.kept d keep)) := rfl
  have HL : Hid (Dk.lost d keep = Dk.opens d - Dk.kept d keep) := rfl
  have hok := h.okay
  have hm : max 0 (min keep (Dk.opens d : Nat)) = (Dk.kept d keep : Nat) := by unfold Dk.kept; omega
  have hle := Dk.kept_le d keep
  have hop : Dk.opens d = d.l.length - d.safe := rfl
  unfold Dk.Okay at hok
  have HV := Lib.hid (fun W h (hn : d.safe + Dk.kept d keep ≤ d.l.length) => dleave_any W r (d.safe + Dk.kept d keep) v d h hn)
  have HN : Hid (d.safe + Dk.kept d keep ≤ d.l.length) := by show _ ≤ _; omega
  have hb1 : Dk.opens d ≤ 1048576 ∧ d.safe + Dk.kept d keep ≤ 1048576 := by omega
  clear h hop hok
  generalize Dk.opens d = m at *
  generalize Dk.kept d keep = k at *
  go_enter Try.func48, Try.ntmps48
  go_wp2_with fail
  refine (HC.out _ HD.out).mono ?_
  rintro e w1 ⟨rfl, hb⟩
  have B := Lib.hid hb
  have HD1 := Lib.hid (HD.out.below hb)
  clear hb
  go_wp2_with fail
  refine (HC.out _ HD1.out).mono ?_
  rintro e w2 ⟨rfl, hb⟩
  have B2 := Lib.hid (B.out.trans (hb.mono B.out.size))
  have HD2 := Lib.hid (HD1.out.below hb)
  obtain ⟨c0, c1, c2, f1, f2⟩ := HD2.out.facts
  clear hb c0 c2 f1 f2
  go_wp2_with fail
  have e1 : (d.safe : Int) + (k : Int) = ((d.safe + k : Nat) : Int) := by omega
  rw [e1]
  (with_reducible refine (HV.out _ HD2.out HN.out).mono ?_)
  rintro e w3 hp
  obtain rfl := hp.1
  have P := Lib.hid (hp.before B2.out)
  clear hp e1
  go_wp2_with fail
  go_ret
  rw [HS.out, HL.out]
  have e2 : (m : Int) - (k : Int) = ((m - k : Nat) : Int) := by omega
  rw [e2]
  exact P.out.behind (Below.refl _ _)
set_option maxHeartbeats 400000 in
theorem dCut_any (w : World) (r : Nat) (n : Int) (v : Value) (d : Dk.St) (h : Dsk w r v d) (hn : -9223372036854775808 ≤ n ∧ n ≤ 9223372036854775807) :
    Calls Try.prog 56 #[.pointer (some ⟨r, 0, none⟩), .int .i64 n] w (DPost w r v (Dk.cut d n) (.int .i64 (Dk.cutE d n))) := by
  have HD := Lib.hid h
  obtain ⟨c0, c1, c2, f1, f2⟩ := h.facts
  obtain ⟨A, c, rfl, hs⟩ := h.own.sl
  have HQ : Hid (Dk.cut d n = if Dk.within d n then Dk.leave d n.toNat else d) := rfl
  have HE : Hid (Dk.cutE d n = if Dk.within d n then 0 else 1) := rfl
  by_cases hw : Dk.within d n
  · rw [if_pos hw] at HQ HE
    unfold Dk.within at hw
    obtain ⟨k, rfl⟩ : ∃ k : Nat, n = (k : Int) := ⟨n.toNat, by omega⟩
    have HV := Lib.hid (dleave_any w r k (.slice A d.l.length c) d h (by omega))
    rw [Int.toNat_natCast] at HQ
    clear h hs c0 c1 f1 f2
    generalize d.l.length = m at *
    have t1 : ¬ (m : Int) < k := by omega
    go_enter Try.func56, Try.ntmps56
    go_wp2_with fail
    refine HV.out.mono ?_
    rintro e w1 hp
    obtain rfl := hp.1
    have P := Lib.hid hp
    clear hp
    go_wp2_with fail
    go_ret
    rw [HQ.out, HE.out]
    exact P.out.behind (Below.refl _ _)
  · rw [if_neg hw] at HQ HE
    unfold Dk.within at hw
    clear h hs c0 c1 f1 f2
    generalize d.l.length = m at *
    have hor : n < 0 ∨ (m : Int) < n := by omega
    rcases hor with hor | hor
    all_goals
      go_enter Try.func56, Try.ntmps56
      go_wp2_with fail
      go_ret
      rw [HQ.out, HE.out]
      exact ⟨rfl, _, HD.out, fun i hi => .inl hi, Kept.refl _ _⟩
set_option maxHeartbeats 800000 in
theorem dWrite_any (w : World) (r n c : Nat) (A : Option Addr) (b : List Nat) (v : Value) (d : Dk.St) (h : Dsk w r v d) (hs : Sl w A n c b) :
    Calls Try.prog 32 #[.pointer (some ⟨r, 0, none⟩), .slice A n c] w (DPost w r v (Dk.write d b) (.int .i64 (Dk.writeE d b))) := by
  have HD := Lib.hid h
  have HS := Lib.hid hs
  have HC := Lib.hid (dRoom_any w r v d h)
  have HQ : Hid (Dk.write d b = if Dk.goes d b then ⟨d.room, d.safe, d.l ++ b⟩ else d) := rfl
  have HE : Hid (Dk.writeE d b = if Dk.goes d b then 0 else 4) := rfl
  have hlen := hs.len
  have hok := h.okay
  unfold Dk.Okay at hok
  by_cases hw : Dk.goes d b
  · have HW := Lib.hid (h.okay.write b)
    rw [if_pos hw] at HQ HE
    unfold Dk.goes at hw
    have t1 : n ≤ d.room - d.l.length := by omega
    have HL : Hid (d.l.length + b.length ≤ 140737488355328) := by show _ ≤ _; omega
    clear h hs hlen hok hw
    generalize d.room - d.l.length = q at *
    go_enter Try.func32, Try.ntmps32
    go_wp2_with fail
    refine HC.out.mono ?_
    rintro e w1 ⟨rfl, hb⟩
    have B := Lib.hid hb
    have D1 := HD.out.below hb
    have HD1 := Lib.hid D1
    have S1 := Lib.hid (HS.out.on hb)
    obtain ⟨c0, c1, c2, f1, f2⟩ := D1.facts
    clear hb D1 c0 c1 f1
    go_wp2_with (at_builtin; refine wpList_append_cut rfl (.tmp 16) (.tmp 17) rfl v d.l rfl HD1.out.own n c A b rfl S1.out HL.out ?_; intro v2 w2 hown2 hor2 hg2; obtain ⟨A2, cc2, rfl, _⟩ := hown2.sl; have hown3 : OwnC w2 (.slice A2 (d.l.length + b.length) cc2) (d.l ++ b) := (by rw [← List.length_append]; exact hown2); have O2 := Lib.hid hown3; have R2 := Lib.hid hor2; have G2 := Lib.hid hg2; have hb2 : w2.heap[r]? = w1.heap[r]? := hg2.block r (HD1.out.lt r (.inl rfl)) (fun e => HD1.out.off e.symm); have X2 := Lib.hid (hb2.trans HD1.out.blk); have f22 : w2.frozen? ⟨r, 2, none⟩ = false := frozen_of_row w2 r 2 _ _ X2.out; have c22 : w2.cell? ⟨r, 2, none⟩ = some v := by { rw [cell_of_row w2 r 2 _ _ _ X2.out]; rfl }; clear hown2 hown3 hor2 hg2 hb2)
    go_ret
    have D3 := heap_setCell_same w2 r 2 _ _ (.slice A2 (d.l.length + b.length) cc2) X2.out
    have hoff : (Value.slice A2 (d.l.length + b.length) cc2).ownBlock ≠ some r := by
      have e0 : (Value.slice A2 (d.l.length + b.length) cc2).ownBlock = (Value.slice A2 (d.l ++ b).length cc2).ownBlock := by rw [List.length_append]
      rw [e0]
      rcases R2.out with e | ⟨k, e, hk⟩
      · rw [e]; exact HD1.out.off
      · rw [e]; intro e2; injection e2 with e2; have := HD1.out.lt r (.inl rfl); omega
    rw [HQ.out, HE.out]
    rw [HQ.out] at HW
    refine DPost.before ⟨rfl, _, ⟨by rw [D3]; rfl, O2.out.set hoff, hoff, HW.out⟩, fun i hi => ?_, ?_⟩ B.out
    · rw [← List.length_append] at hi
      rcases R2.out with e | ⟨k, e, hk⟩
      · exact .inl (by rw [← e]; exact hi)
      · rw [e] at hi; injection hi with hi; exact .inr (by omega)
    · refine (Kept.of_grown (F := foot r v) G2.out fun k hk => .inr hk).trans (G := foot r v) (Kept.of_grown (row := some r) (grown_set _ _ _ _) fun k hk => .inl (by injection hk with hk; exact hk.symm)) fun i _ h => h
  · rw [if_neg hw] at HQ HE
    unfold Dk.goes at hw
    have t1 : d.room - d.l.length < n := by omega
    clear h hs hlen hok hw
    generalize d.room - d.l.length = q at *
    go_enter Try.func32, Try.ntmps32
    go_wp2_with fail
    refine HC.out.mono ?_
    rintro e w1 ⟨rfl, hb⟩
    have B := Lib.hid hb
    have HD1 := Lib.hid (HD.out.below hb)
    clear hb
    go_wp2_with fail
    go_ret
    rw [HQ.out, HE.out]
    exact ⟨rfl, v, HD1.out, fun i hi => .inl hi, Kept.of_below B.out⟩
set_option maxHeartbeats 800000 in
theorem dSwap_any (w : World) (r n c : Nat) (A : Option Addr) (b : List Nat) (v : Value) (d : Dk.St) (h : Dsk w r v d) (hs : Sl w A n c b) :
    Calls Try.prog 51 #[.pointer (some ⟨r, 0, none⟩), .slice A n c] w (DPost w r v (Dk.swap d b) (.int .i64 (Dk.swapE d b))) := by
  have HD := Lib.hid h
  obtain ⟨c0, c1, c2, f1, f2⟩ := h.facts
  have HQ : Hid (Dk.swap d b = if b.length ≤ d.room then ⟨d.room, b.length, b⟩ else d) := rfl
  have HE : Hid (Dk.swapE d b = if b.length ≤ d.room then 0 else 4) := rfl
  have hlen := hs.len
  by_cases hw : b.length ≤ d.room
  · have HW := Lib.hid (h.okay.swap b)
    have hok := h.okay
    unfold Dk.Okay at hok
    have HC := Lib.hid (clone_any n c A b w hs (by omega))
    clear hok
    rw [if_pos hw] at HQ HE
    have t1 : n ≤ d.room := by omega
    have HL := Lib.hid hlen
    clear h hs hlen hw c1 c2 f1 f2
    generalize hrm : d.room = q at *
    have RM := Lib.hid hrm; clear hrm
    go_enter Try.func51, Try.ntmps51
    go_wp2_with fail
    (with_reducible refine HC.out.mono ?_)
    rintro e w1 ⟨A1, cc, rfl, ho, hb⟩
    have B := Lib.hid hb
    have O := Lib.hid ho
    have D1 := Lib.hid (HD.out.below hb)
    obtain ⟨c0, c1, c2, f1, f2⟩ := D1.out.facts
    have X2 := heap_setCell_same w1 r 2 _ _ (.slice A1 b.length cc) D1.out.blk
    have HX2 := Lib.hid X2
    have c12 : (w1.setCell ⟨r, 2, none⟩ (.slice A1 b.length cc)).cell? ⟨r, 1, none⟩ = some (.int .i64 (d.safe : Nat)) := by rw [cell_of_row _ r 1 _ _ _ X2]; rfl
    have f12 : (w1.setCell ⟨r, 2, none⟩ (.slice A1 b.length cc)).frozen? ⟨r, 1, none⟩ = false := frozen_of_row _ r 1 _ _ X2
    clear hb ho X2 c0 c1 f1
    go_wp2_with fail
    go_ret
    have D3 := heap_setCell_same (w1.setCell ⟨r, 2, none⟩ (.slice A1 b.length cc)) r 1 _ _ (.int .i64 (b.length : Nat)) HX2.out
    have hfr : ∀ k, (Value.slice A1 b.length cc).ownBlock = some k → w.heap.size ≤ k := by
      intro k hk
      rcases A1 with _ | a
      · cases hk
      · injection hk with hk; subst hk; exact O.out.from_ a rfl
    have hoff : (Value.slice A1 b.length cc).ownBlock ≠ some r := fun e => by have := hfr r e; have := HD.out.lt r (.inl rfl); omega
    rw [HQ.out, HE.out]
    rw [HQ.out] at HW
    rw [HL.out]
    refine ⟨rfl, _, ⟨by rw [D3, ← RM.out]; rfl, ((OwnC.of_own O.out).set hoff).set hoff, hoff, HW.out⟩, fun i hi => .inr (hfr i hi), ?_⟩
    refine (Kept.of_below (F := foot r v) B.out).trans (G := foot r v) (Kept.of_grown (row := some r) (grown_trans (grown_set _ _ _ _) (grown_set _ _ _ _)) fun k hk => .inl (by injection hk with hk; exact hk.symm)) fun i _ h => h
  · rw [if_neg hw] at HQ HE
    have t1 : d.room < n := by omega
    clear h hs hlen hw c1 c2 f1 f2
    generalize d.room = q at *
    go_enter Try.func51, Try.ntmps51
    go_wp2_with fail
    go_ret
    rw [HQ.out, HE.out]
    exact ⟨rfl, v, HD.out, fun i hi => .inl hi, Kept.refl _ _⟩
end Go.Proofs.Ytdamnamhbjfnlaa
