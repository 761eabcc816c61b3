/-
  Layer 14: messages, and a net as a list with a room and two counts. Pure. No condition.
-/
import Derived.Test.YtgljepjflpijiaaBase
namespace Go.Proofs.Ytgljepjflpijiaa
namespace Nt
abbrev i64 (x : Int) : Prop := -9223372036854775808 ≤ x ∧ x ≤ 9223372036854775807
structure M where
  k : Int
  e : Int
  s : Int
  u : Int
  v : Int
  t : Int
structure In (m : M) : Prop where
  k : i64 m.k
  e : i64 m.e
  s : i64 m.s
  u : i64 m.u
  v : i64 m.v
  t : i64 m.t
def zero : M := ⟨0, 0, 0, 0, 0, 0⟩
theorem zero_in : In zero := ⟨by decide, by decide, by decide, by decide, by decide, by decide⟩
theorem eq_iff {a b : M} : a = b ↔ a.k = b.k ∧ a.e = b.e ∧ a.s = b.s ∧ a.u = b.u ∧ a.v = b.v ∧ a.t = b.t := by
  cases a; cases b; simp
def same (a b : M) : Bool := (a.k == b.k) && ((a.e == b.e) && ((a.s == b.s) && ((a.u == b.u) && ((a.v == b.v) && ((a.t == b.t) && true)))))
theorem same_iff {a b : M} : same a b = true ↔ a = b := by
  rw [eq_iff]; unfold same; simp
def mn (m : M) : Int := min (min (min (min m.e m.s) m.u) m.v) m.t
def right (m : M) : Bool := (decide (m.k = 1) || decide (m.k = 2)) && decide (0 ≤ mn m)
def good (m : M) : M := ⟨1 + m.k % 8 % 2, m.e % 8, m.s % 8, m.u % 8, m.v % 8 % 4, m.t % 8 % 5⟩
theorem good_right (m : M) : right (good m) = true := by
  unfold right mn good
  simp only [Bool.and_eq_true, Bool.or_eq_true, decide_eq_true_eq]
  omega
theorem good_in (m : M) : In (good m) := by
  unfold good
  constructor <;> (simp only [i64]; omega)
theorem good_u (m : M) : 0 ≤ (good m).u ∧ (good m).u < 8 := by
  unfold good
  simp only
  omega
def pl (n : Nat) (at_ : Int) : Nat := ((if at_ < 0 then -(at_ + 1) else at_) % (n : Int)).toNat
theorem pl_lt {n : Nat} (h : 0 < n) (at_ : Int) : pl n at_ < n := by
  unfold pl
  have h1 := Int.emod_nonneg (if at_ < 0 then -(at_ + 1) else at_) (b := (n : Int)) (by omega)
  have h2 := Int.emod_lt_of_pos (if at_ < 0 then -(at_ + 1) else at_) (b := (n : Int)) (by omega)
  omega
theorem pl_cast {n : Nat} (h : 0 < n) (at_ : Int) : ((pl n at_ : Nat) : Int) = (if at_ < 0 then -(at_ + 1) else at_) % (n : Int) := by
  unfold pl
  have h1 := Int.emod_nonneg (if at_ < 0 then -(at_ + 1) else at_) (b := (n : Int)) (by omega)
  omega
structure St where
  room : Nat
  l : List M
  sent : Int
  lost : Int
def new (room : Int) : St := ⟨(max 1 (min room 64)).toNat, [], 0, 0⟩
structure Ok (s : St) : Prop where
  one : 1 ≤ s.room
  most : s.room ≤ 64
  fits : s.l.length ≤ s.room
  ins : ∀ m ∈ s.l, In m
theorem new_ok (r : Int) : Ok (new r) := ⟨by unfold new; simp only; omega, by unfold new; simp only; omega, Nat.zero_le _, fun _ h => by cases h⟩
def putE (s : St) : Int := if s.l.length < s.room then 0 else 4
def putS (s : St) (m : M) : St := if s.l.length < s.room then ⟨s.room, s.l ++ [m], s.sent, s.lost⟩ else ⟨s.room, s.l, s.sent, s.lost + 1⟩
def sendE (s : St) (m : M) : Int := if right m = true then putE s else 1
def sendS (s : St) (m : M) : St := if right m = true then (if s.l.length < s.room then ⟨s.room, s.l ++ [m], s.sent + 1, s.lost⟩ else ⟨s.room, s.l, s.sent, s.lost + 1⟩) else s
def takeB (s : St) : Bool := decide (0 < s.l.length)
def takeM (s : St) (at_ : Int) : M := if 0 < s.l.length then s.l.getD (pl s.l.length at_) zero else zero
def cutL (l : List M) (k : Nat) : List M := l.take k ++ l.drop (k + 1)
def takeS (s : St) (at_ : Int) : St := if 0 < s.l.length then ⟨s.room, cutL s.l (pl s.l.length at_), s.sent, s.lost⟩ else s
def dropS (s : St) (at_ : Int) : St := if 0 < s.l.length then ⟨s.room, cutL s.l (pl s.l.length at_), s.sent, s.lost + 1⟩ else s
def twiceE (s : St) : Int := if 0 < s.l.length then putE s else 5
def twiceS (s : St) (at_ : Int) : St := if 0 < s.l.length then putS s (takeM s at_) else s
def ofU (l : List M) (u : Int) : List M := l.filter (fun m => decide (m.u = u))
theorem cutL_len {l : List M} {k : Nat} (h : k < l.length) : (cutL l k).length + 1 = l.length := by
  unfold cutL
  rw [List.length_append, List.length_take, List.length_drop]
  omega
theorem put_ok {s : St} {m : M} (h : Ok s) (hm : In m) : Ok (putS s m) := by
  unfold putS
  split
  · rename_i hl
    refine ⟨h.one, h.most, by rw [List.length_append, List.length_singleton]; exact hl, fun x hx => ?_⟩
    rcases List.mem_append.1 hx with hx | hx
    · exact h.ins x hx
    · rw [List.mem_singleton.1 hx]; exact hm
  · exact ⟨h.one, h.most, h.fits, h.ins⟩
theorem send_ok {s : St} {m : M} (h : Ok s) (hm : In m) : Ok (sendS s m) := by
  unfold sendS
  split
  · split
    · rename_i hl
      refine ⟨h.one, h.most, by rw [List.length_append, List.length_singleton]; exact hl, fun x hx => ?_⟩
      rcases List.mem_append.1 hx with hx | hx
      · exact h.ins x hx
      · rw [List.mem_singleton.1 hx]; exact hm
    · exact ⟨h.one, h.most, h.fits, h.ins⟩
  · exact h
theorem cut_ok {s : St} (h : Ok s) (hl : 0 < s.l.length) (at_ se lo : Int) : Ok ⟨s.room, cutL s.l (pl s.l.length at_), se, lo⟩ := by
  refine ⟨h.one, h.most, ?_, fun x hx => ?_⟩
  · have := cutL_len (pl_lt hl at_)
    have := h.fits
    simp only
    omega
  · rcases List.mem_append.1 hx with hx | hx
    · exact h.ins x (List.mem_of_mem_take hx)
    · exact h.ins x (List.mem_of_mem_drop hx)
theorem take_ok {s : St} (h : Ok s) (at_ : Int) : Ok (takeS s at_) := by
  unfold takeS
  split
  · exact cut_ok h (by assumption) _ _ _
  · exact h
theorem drop_ok {s : St} (h : Ok s) (at_ : Int) : Ok (dropS s at_) := by
  unfold dropS
  split
  · exact cut_ok h (by assumption) _ _ _
  · exact h
theorem takeM_in {s : St} (h : Ok s) (at_ : Int) : In (takeM s at_) := by
  unfold takeM
  split
  · rename_i hl
    have := pl_lt hl at_
    rw [List.getD_eq_getElem?_getD, List.getElem?_eq_getElem this]
    exact h.ins _ (List.getElem_mem _)
  · exact zero_in
theorem twice_ok {s : St} (h : Ok s) (at_ : Int) : Ok (twiceS s at_) := by
  unfold twiceS
  split
  · exact put_ok h (takeM_in h at_)
  · exact h
theorem takeM_get {s : St} (h : 0 < s.l.length) (at_ : Int) : s.l[pl s.l.length at_]? = some (takeM s at_) := by
  unfold takeM
  rw [if_pos h, List.getD_eq_getElem?_getD, List.getElem?_eq_getElem (pl_lt h at_)]
  rfl
end Nt
end Go.Proofs.Ytgljepjflpijiaa
