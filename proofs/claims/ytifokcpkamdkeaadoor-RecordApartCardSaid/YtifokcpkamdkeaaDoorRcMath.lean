/-
  What was decided (layer 10), as numbers: which records may be, their bytes, what is read of bytes. No condition.
-/
import Derived.Test.YtifokcpkamdkeaaDoorSpMath
import Derived.Test.YtifokcpkamdkeaaDoorCdcSame
namespace Go.Proofs.YtifokcpkamdkeaaDoor
open Cdc
set_option linter.unusedSimpArgs false
namespace Rc

structure R where
  kind : Int
  epoch : Int
  who : Int
  n : Int
  seq : Int
  text : ByteArray
  sp : Spc.Sp
def none_ : R := ⟨0, 0, 0, 0, 0, ⟨#[]⟩, Spc.zero⟩
def nums (r : R) : List Int := [r.kind, r.epoch, r.who, r.n, r.seq]
structure In (r : R) : Prop where
  nums : ∀ x ∈ nums r, Spc.i64 x
  text : r.text.size ≤ maxLen
  sp : Spc.In r.sp
theorem ext {r s : R} (h1 : nums r = nums s) (h2 : r.text = s.text) (h3 : r.sp = s.sp) : r = s := by
  cases r; cases s
  simp only [nums, List.cons.injEq, and_true] at h1
  obtain ⟨a, b, c, d, e⟩ := h1
  simp only at h2 h3
  subst a b c d e h2 h3
  rfl
def bare (r : R) : Bool := decide (r.text.size = 0)
def told (r : R) : Bool := decide (1 ≤ r.text.size) && decide (r.text.size ≤ 64)
def plain (r : R) : Bool := decide (Spc.flds r.sp = Spc.flds Spc.zero)
theorem plain_iff {r : R} : plain r = true ↔ r.sp = Spc.zero := by
  unfold plain
  rw [decide_eq_true_eq]
  exact ⟨Spc.flds_inj, fun h => by rw [h]⟩
/-- Which may be. -/
def right (r : R) : Bool :=
  Spc.inn r.epoch 1 1099511627776 &&
  (if r.kind = 1 then plain r && (bare r && (Spc.inn r.who 0 63 && (Spc.inn r.n 0 1099511627776 && Spc.inn r.seq 1 1048576)))
   else if r.kind = 2 then plain r && (told r && (decide (r.who = 0) && (Spc.inn r.n 1 1048576 && decide (r.seq = 0))))
   else if r.kind = 3 then bare r && (decide (r.who = 0) && (Spc.inn r.n 0 1099511627776 && (decide (r.seq = 0) && decide (Spc.chk r.sp = 0))))
   else if r.kind = 4 then plain r && (told r && (decide (r.who = 0) && (Spc.inn r.n 1 5 && decide (r.seq = 0))))
   else if r.kind = 5 then plain r && (bare r && (Spc.inn r.who 0 15 && (Spc.inn r.n 0 1048576 && Spc.inn r.seq 1 1099511627776)))
   else if r.kind = 6 then plain r && (bare r && (Spc.inn r.who 0 15 && (decide (r.n = 0) && Spc.inn r.seq 1 1099511627776)))
   else if r.kind = 7 then plain r && (told r && (Spc.inn r.who 1 4 && (Spc.inn r.n 0 1099511627776 && decide (r.seq = 0))))
   else false)
/-- What of one that may be is used. -/
structure Ok (r : R) : Prop where
  kind : 1 ≤ r.kind ∧ r.kind ≤ 7
  epoch : 1 ≤ r.epoch ∧ r.epoch ≤ 1099511627776
  who : 0 ≤ r.who ∧ r.who ≤ 63
  n : 0 ≤ r.n ∧ r.n ≤ 1099511627776
  seq : 0 ≤ r.seq ∧ r.seq ≤ 1099511627776
  text : r.text.size ≤ 64
  begin_ : r.kind = 3 → Spc.May r.sp
  other : r.kind ≠ 3 → r.sp = Spc.zero
theorem bare_iff {r : R} : bare r = true ↔ r.text.size = 0 := by unfold bare; simp
theorem told_iff {r : R} : told r = true ↔ 1 ≤ r.text.size ∧ r.text.size ≤ 64 := by unfold told; simp
theorem ok_of {r : R} (h : right r = true) : Ok r := by
  unfold right at h
  rw [Bool.and_eq_true] at h
  obtain ⟨he, h⟩ := h
  have he := Spc.inn_iff.1 he
  split at h
  · rename_i hk
    simp only [Bool.and_eq_true, decide_eq_true_eq, Spc.inn_iff, plain_iff, bare_iff] at h
    obtain ⟨h1, h2, h3, h4, h5⟩ := h
    exact ⟨by omega, he, by omega, by omega, by omega, by omega, fun h => by omega, fun _ => h1⟩
  split at h
  · simp only [Bool.and_eq_true, decide_eq_true_eq, Spc.inn_iff, plain_iff, told_iff] at h
    obtain ⟨h1, h2, h3, h4, h5⟩ := h
    exact ⟨by omega, he, by omega, by omega, by omega, by omega, fun h => by omega, fun _ => h1⟩
  split at h
  · simp only [Bool.and_eq_true, decide_eq_true_eq, Spc.inn_iff, bare_iff] at h
    obtain ⟨h1, h2, h3, h4, h5⟩ := h
    exact ⟨by omega, he, by omega, by omega, by omega, by omega, fun _ => Spc.may_of h5, fun h => by omega⟩
  split at h
  · simp only [Bool.and_eq_true, decide_eq_true_eq, Spc.inn_iff, plain_iff, told_iff] at h
    obtain ⟨h1, h2, h3, h4, h5⟩ := h
    exact ⟨by omega, he, by omega, by omega, by omega, by omega, fun h => by omega, fun _ => h1⟩
  split at h
  · simp only [Bool.and_eq_true, decide_eq_true_eq, Spc.inn_iff, plain_iff, bare_iff] at h
    obtain ⟨h1, h2, h3, h4, h5⟩ := h
    exact ⟨by omega, he, by omega, by omega, by omega, by omega, fun h => by omega, fun _ => h1⟩
  split at h
  · simp only [Bool.and_eq_true, decide_eq_true_eq, Spc.inn_iff, plain_iff, bare_iff] at h
    obtain ⟨h1, h2, h3, h4, h5⟩ := h
    exact ⟨by omega, he, by omega, by omega, by omega, by omega, fun h => by omega, fun _ => h1⟩
  split at h
  · simp only [Bool.and_eq_true, decide_eq_true_eq, Spc.inn_iff, plain_iff, told_iff] at h
    obtain ⟨h1, h2, h3, h4, h5⟩ := h
    exact ⟨by omega, he, by omega, by omega, by omega, by omega, fun h => by omega, fun _ => h1⟩
  · cases h
theorem sz_small {n : Int} (h0 : 0 ≤ n) (h1 : n ≤ 1099511627776) : sz n ≠ 0 := by
  obtain ⟨m, rfl⟩ := Int.eq_ofNat_of_zero_le h0
  rw [sz_yes (by omega)]
  have := digs_pos m
  omega
theorem all_small {l : List Int} (h : ∀ n ∈ l, 0 ≤ n ∧ n ≤ 1099511627776) : allOk l = true := by
  unfold allOk
  rw [List.all_eq_true]
  intro n hn
  rw [decide_eq_true_eq]
  exact sz_small (h n hn).1 (h n hn).2
theorem Ok.nums {r : R} (h : Ok r) : ∀ x ∈ nums r, 0 ≤ x ∧ x ≤ 1099511627776 := by
  intro x hx
  have := h.kind; have := h.epoch; have := h.who; have := h.n; have := h.seq
  simp only [Rc.nums, List.mem_cons, List.not_mem_nil, or_false] at hx
  rcases hx with rfl | rfl | rfl | rfl | rfl <;> omega
theorem Ok.flds {r : R} (h : Ok r) : ∀ x ∈ Spc.flds r.sp, 0 ≤ x ∧ x ≤ 1099511627776 := by
  intro x hx
  by_cases hk : r.kind = 3
  · have := (h.begin_ hk).small x hx; omega
  · rw [h.other hk] at hx
    simp [Spc.flds, Spc.zero] at hx
    omega
/-- A record's bytes. -/
def bytes (r : R) : List Nat := fl (nums r) ++ ((digs r.text.size ++ sb r.text) ++ (if r.kind = 3 then digs 12 ++ fl (Spc.flds r.sp) else []))
/-- What is read of bytes: the record, and the reader behind it. -/
def k1 (l : List Nat) : St := numsAt ⟨l, 0⟩ 5
def v1 (l : List Nat) : List Int := nI (numsV ⟨l, 0⟩ 5)
def k2 (l : List Nat) : St := text (k1 l)
def t2 (l : List Nat) : ByteArray := txt (textV (k1 l))
def k3 (l : List Nat) : St := if (v1 l).getD 0 0 = 3 then list (k2 l) else k2 l
def s3 (l : List Nat) : Spc.Sp := if (v1 l).getD 0 0 = 3 then (if (listV (k2 l)).length = 12 then Spc.of (nI (listV (k2 l))) else Spc.zero) else Spc.zero
def dec (l : List Nat) : R := ⟨(v1 l).getD 0 0, (v1 l).getD 1 0, (v1 l).getD 2 0, (v1 l).getD 3 0, (v1 l).getD 4 0, t2 l, s3 l⟩
theorem dec_app {r : R} (h : right r = true) (x : List Nat) : dec (bytes r ++ x) = r ∧ k3 (bytes r ++ x) = ⟨x, 0⟩ := by
  have ho := ok_of h
  have ha := all_small ho.nums
  have hf := all_small ho.flds
  obtain ⟨y, hy⟩ : ∃ y, y = (if r.kind = 3 then digs 12 ++ fl (Spc.flds r.sp) else []) := ⟨_, rfl⟩
  have eb : bytes r ++ x = fl (nums r) ++ ((digs r.text.size ++ sb r.text) ++ (y ++ x)) := by
    unfold bytes
    rw [← hy]
    simp only [List.append_assoc]
  rw [eb]
  have h1 := nums_fl ha ((digs r.text.size ++ sb r.text) ++ (y ++ x)) 5 (Nat.le_refl _)
  have e1 : k1 (fl (nums r) ++ ((digs r.text.size ++ sb r.text) ++ (y ++ x))) = ⟨(digs r.text.size ++ sb r.text) ++ (y ++ x), 0⟩ := by
    unfold k1
    rw [h1.1]
    simp [nums, fl]
  have e2 : v1 (fl (nums r) ++ ((digs r.text.size ++ sb r.text) ++ (y ++ x))) = nums r := by
    unfold v1
    rw [h1.2, show (nums r).take 5 = nums r from rfl, nI_nat ha]
  generalize fl (nums r) ++ ((digs r.text.size ++ sb r.text) ++ (y ++ x)) = z at *
  have h2 := text_back r.text ho.text (y ++ x)
  rw [← List.append_assoc] at h2
  have e3 : k2 z = ⟨y ++ x, 0⟩ := by unfold k2; rw [e1]; exact h2.1
  have e4 : t2 z = r.text := by unfold t2; rw [e1, h2.2, txt_sb]
  have e5 : (v1 z).getD 0 0 = r.kind := by rw [e2]; rfl
  have key : s3 z = r.sp ∧ k3 z = ⟨x, 0⟩ := by
    unfold s3 k3
    rw [e5, e3]
    by_cases hk : r.kind = 3
    · rw [if_pos hk] at hy
      rw [if_pos hk, if_pos hk, hy]
      have h3 := list_back hf (by rw [Spc.flds_length]; omega) x
      rw [Spc.flds_length, ← List.append_assoc] at h3
      rw [h3.1, h3.2]
      have hl : (listV ⟨digs 12 ++ fl (Spc.flds r.sp) ++ x, 0⟩).length = 12 := by rw [← nI_length, h3.2, Spc.flds_length]
      rw [if_pos hl, Spc.of_flds]
      exact ⟨rfl, rfl⟩
    · rw [if_neg hk] at hy
      rw [if_neg hk, if_neg hk, hy]
      exact ⟨(ho.other hk).symm, rfl⟩
  refine ⟨ext ?_ e4 key.1, key.2⟩
  show [(v1 z).getD 0 0, (v1 z).getD 1 0, (v1 z).getD 2 0, (v1 z).getD 3 0, (v1 z).getD 4 0] = nums r
  rw [e2]
  rfl
theorem dec_bytes {r : R} (h : right r = true) : dec (bytes r) = r ∧ k3 (bytes r) = ⟨[], 0⟩ := by
  have := dec_app h []
  rwa [List.append_nil] at this
/-- None is another's beginning. -/
theorem bytes_cut {r s : R} (hr : right r = true) (hs : right s = true) {x : List Nat} (h : bytes r = bytes s ++ x) : x = [] := by
  have h1 := (dec_bytes hr).2
  rw [h, (dec_app hs x).2] at h1
  injection h1
theorem bytes_inj {r s : R} (hr : right r = true) (hs : right s = true) (h : bytes r = bytes s) : r = s := by
  rw [← (dec_bytes hr).1, h, (dec_bytes hs).1]
/-- Is this what is written of one that may be? -/
def whole (l : List Nat) : Prop := right (dec l) = true ∧ bytes (dec l) = l
theorem whole_bytes {r : R} (h : right r = true) : whole (bytes r) := by
  unfold whole
  rw [(dec_bytes h).1]
  exact ⟨h, rfl⟩
theorem whole_iff {l : List Nat} : whole l ↔ ∃ r, right r = true ∧ bytes r = l := ⟨fun h => ⟨_, h.1, h.2⟩, fun ⟨_, h1, h2⟩ => h2 ▸ whole_bytes h1⟩
noncomputable def rdV (l : List Nat) : R := by classical exact if whole l then dec l else none_
noncomputable def rdE (l : List Nat) : Int := by classical exact if whole l then 0 else 2
theorem rd_yes {l : List Nat} (h : whole l) : rdV l = dec l ∧ rdE l = 0 := by unfold rdV rdE; rw [if_pos h, if_pos h]; exact ⟨rfl, rfl⟩
theorem rd_no {l : List Nat} (h : ¬ whole l) : rdV l = none_ ∧ rdE l = 2 := by unfold rdV rdE; rw [if_neg h, if_neg h]; exact ⟨rfl, rfl⟩
theorem rd_back {r : R} (h : right r = true) : rdV (bytes r) = r ∧ rdE (bytes r) = 0 := by
  have := rd_yes (whole_bytes h)
  rw [(dec_bytes h).1] at this
  exact this
theorem none_wrong : right none_ = false := by decide
theorem rd_only {l : List Nat} (h : rdE l = 0) : right (rdV l) = true ∧ bytes (rdV l) = l := by
  by_cases hw : whole l
  · rw [(rd_yes hw).1]; exact hw
  · rw [(rd_no hw).2] at h; omega
theorem rd_cut {r : R} (h : right r = true) : rdE ((bytes r).take ((bytes r).length - 1)) = 2 := by
  refine (rd_no fun hw => ?_).2
  obtain ⟨s, hs, hb⟩ := whole_iff.1 hw
  have e : bytes r = bytes s ++ (bytes r).drop ((bytes r).length - 1) := by rw [hb, List.take_append_drop]
  have := congrArg List.length (bytes_cut h hs e)
  rw [List.length_drop, List.length_nil] at this
  have hp : 0 < (bytes r).length := by
    unfold bytes
    have := digs_pos r.text.size
    rw [List.length_append, List.length_append, List.length_append]
    omega
  omega
theorem rd_long {r : R} (h : right r = true) (x : Nat) : rdE (bytes r ++ [x]) = 2 := by
  refine (rd_no fun hw => ?_).2
  obtain ⟨s, hs, hb⟩ := whole_iff.1 hw
  have := bytes_cut hs h hb
  cases this
/-- How long a record's bytes are. -/
theorem fl_le {l : List Int} (h : ∀ n ∈ l, 0 ≤ n ∧ n ≤ 1099511627776) : (fl l).length ≤ 9 * l.length := by
  have := fl_len (all_small h) l.length (Nat.le_refl _)
  rwa [List.take_length] at this
theorem bytes_len {r : R} (h : right r = true) : (bytes r).length ≤ 300 := by
  have ho := ok_of h
  have h1 := fl_le ho.nums
  have h2 := fl_le ho.flds
  have h3 : (digs r.text.size).length ≤ 9 := digs_nine (by have := ho.text; omega)
  have h4 := sb_length r.text
  have h5 := ho.text
  rw [show (nums r).length = 5 from rfl] at h1
  rw [Spc.flds_length] at h2
  unfold bytes
  rw [List.length_append, List.length_append, List.length_append]
  split
  · rw [List.length_append, show (digs 12).length = 1 from by rw [digs_lt (by omega)]; rfl]
    omega
  · simp; omega
theorem bytes_pos (r : R) : 0 < (bytes r).length := by
  unfold bytes
  have := digs_pos r.text.size
  rw [List.length_append, List.length_append, List.length_append]
  omega
theorem fl_byte {l : List Int} : ∀ x ∈ fl l, x < 256 := by
  intro x hx
  unfold fl at hx
  obtain ⟨n, _, hn⟩ := List.mem_flatMap.1 hx
  exact digs_byte _ x hn
theorem bytes_byte (r : R) : ∀ x ∈ bytes r, x < 256 := by
  intro x hx
  unfold bytes at hx
  rcases List.mem_append.1 hx with hx | hx
  · exact fl_byte x hx
  rcases List.mem_append.1 hx with hx | hx
  · rcases List.mem_append.1 hx with hx | hx
    · exact digs_byte _ x hx
    · exact sb_byte _ x hx
  · split at hx
    · rcases List.mem_append.1 hx with hx | hx
      · exact digs_byte _ x hx
      · exact fl_byte x hx
    · cases hx
/-- One that may be, made of any. -/
def short (t : ByteArray) : ByteArray := txt (116 :: (sb t).take 20)
def good (r : R) : R :=
  let k := Spc.near r.kind 1 7
  let e := Spc.near r.epoch 1 9
  if k = 1 then ⟨k, e, Spc.near r.who 0 4, Spc.near r.n 0 50, Spc.near r.seq 1 20, ⟨#[]⟩, Spc.zero⟩
  else if k = 2 then ⟨k, e, 0, Spc.near r.n 1 6, 0, short r.text, Spc.zero⟩
  else if k = 3 then ⟨k, e, 0, Spc.near r.n 0 50, 0, ⟨#[]⟩, Spc.good r.sp⟩
  else if k = 4 then ⟨k, e, 0, Spc.near r.n 1 5, 0, short r.text, Spc.zero⟩
  else if k = 5 then ⟨k, e, Spc.near r.who 0 16, Spc.near r.n 0 7, Spc.near r.seq 1 9, ⟨#[]⟩, Spc.zero⟩
  else if k = 6 then ⟨k, e, Spc.near r.who 0 16, 0, Spc.near r.seq 1 9, ⟨#[]⟩, Spc.zero⟩
  else ⟨k, e, Spc.near r.who 1 4, Spc.near r.n 0 50, 0, short r.text, Spc.zero⟩
theorem short_size (t : ByteArray) : 1 ≤ (short t).size ∧ (short t).size ≤ 64 := by
  unfold short
  rw [txt_size, List.length_cons, List.length_take]
  omega
theorem good_right (r : R) : right (good r) = true := by
  have nk := Spc.near_in r.kind 1 7 (by omega)
  have ne := Spc.near_in r.epoch 1 9 (by omega)
  have w4 := Spc.near_in r.who 0 4 (by omega)
  have w6 := Spc.near_in r.who 0 16 (by omega)
  have w1 := Spc.near_in r.who 1 4 (by omega)
  have n5 := Spc.near_in r.n 0 50 (by omega)
  have n6 := Spc.near_in r.n 1 6 (by omega)
  have n4 := Spc.near_in r.n 1 5 (by omega)
  have n7 := Spc.near_in r.n 0 7 (by omega)
  have q2 := Spc.near_in r.seq 1 20 (by omega)
  have q9 := Spc.near_in r.seq 1 9 (by omega)
  have st := short_size r.text
  have gm := Spc.good_may r.sp
  have gc : Spc.chk (Spc.good r.sp) = 0 := Spc.chk_of gm
  have e0 : (⟨#[]⟩ : ByteArray).size = 0 := rfl
  unfold good
  simp only
  generalize Spc.near r.kind 1 7 = k at *
  generalize Spc.near r.epoch 1 9 = e at *
  have hk : k = 1 ∨ k = 2 ∨ k = 3 ∨ k = 4 ∨ k = 5 ∨ k = 6 ∨ k = 7 := by omega
  unfold right plain bare told
  rcases hk with rfl | rfl | rfl | rfl | rfl | rfl | rfl
  all_goals
    simp only [Bool.and_eq_true, decide_eq_true_eq, Spc.inn_iff, if_true, if_neg (show ¬ (2 : Int) = 1 by omega), if_neg (show ¬ (3 : Int) = 1 by omega), if_neg (show ¬ (3 : Int) = 2 by omega), if_neg (show ¬ (4 : Int) = 1 by omega), if_neg (show ¬ (4 : Int) = 2 by omega), if_neg (show ¬ (4 : Int) = 3 by omega), if_neg (show ¬ (5 : Int) = 1 by omega), if_neg (show ¬ (5 : Int) = 2 by omega), if_neg (show ¬ (5 : Int) = 3 by omega), if_neg (show ¬ (5 : Int) = 4 by omega), if_neg (show ¬ (6 : Int) = 1 by omega), if_neg (show ¬ (6 : Int) = 2 by omega), if_neg (show ¬ (6 : Int) = 3 by omega), if_neg (show ¬ (6 : Int) = 4 by omega), if_neg (show ¬ (6 : Int) = 5 by omega), if_neg (show ¬ (7 : Int) = 1 by omega), if_neg (show ¬ (7 : Int) = 2 by omega), if_neg (show ¬ (7 : Int) = 3 by omega), if_neg (show ¬ (7 : Int) = 4 by omega), if_neg (show ¬ (7 : Int) = 5 by omega), if_neg (show ¬ (7 : Int) = 6 by omega)]
    simp only [true_and, and_true, e0, gc]
    omega
end Rc
theorem Rc.none_in : Rc.In Rc.none_ := by
  refine ⟨?_, by decide, ?_⟩
  · intro x hx
    simp [Rc.nums, Rc.none_] at hx
    unfold Spc.i64; omega
  · intro x hx
    simp [Spc.flds, Rc.none_, Spc.zero] at hx
    unfold Spc.i64; omega
theorem Rc.ok_in {r : Rc.R} (h : Rc.Ok r) : Rc.In r := by
  refine ⟨fun x hx => ?_, by have := h.text; unfold maxLen; omega, fun x hx => ?_⟩
  · have := h.nums x hx; unfold Spc.i64; omega
  · have := h.flds x hx; unfold Spc.i64; omega
theorem Rc.rd_in (l : List Nat) : Rc.In (Rc.rdV l) := by
  by_cases h : Rc.whole l
  · have h2 : Rc.right (Rc.rdV l) = true := by rw [(Rc.rd_yes h).1]; exact h.1
    exact Rc.ok_in (Rc.ok_of h2)
  · rw [(Rc.rd_no h).1]; exact Rc.none_in
end Go.Proofs.YtifokcpkamdkeaaDoor
