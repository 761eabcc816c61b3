/-
  What one step does to a table; two leases that are alike, compared. No condition.
-/
import Derived.Test.YtemnioijgkahcaaLsLaw2
import Derived.Laws.StructEq
import Derived.ChangeKeysEq
namespace Go.Proofs.Ytemnioijgkahcaa
open Go.RowKit Go.Deep

namespace Ls
theorem find_put_other {l : List En} {e : En} {k : ByteArray} (h : e.name ≠ k) : find (put l e) k = find l k := by rw [find_put, if_neg h]
theorem take_find {s : St} {k k' : ByteArray} {h now ttl : Int} (hk : k ≠ k') : find (takeS s k h now ttl).l k' = find s.l k' := by
  unfold takeS
  split
  · exact find_put_other hk
  · rfl
theorem renewed_find {s : St} {k k' : ByteArray} {now ttl : Int} (hk : k ≠ k') : find (renewed s k now ttl).l k' = find s.l k' := by
  unfold renewed
  split
  · rfl
  · rename_i e he
    exact find_put_other (by rw [show (En.mk e.name e.holder e.epoch _ e.dropped).name = e.name from rfl, (find_some he).2]; exact hk)
theorem renew_find {s : St} {k k' : ByteArray} {h ep now ttl : Int} (hk : k ≠ k') : find (renewS s k h ep now ttl).l k' = find s.l k' := by
  unfold renewS
  split
  · exact renewed_find hk
  · rfl
theorem dropped_find {s : St} {k k' : ByteArray} (hk : k ≠ k') : find (droppedS s k).l k' = find s.l k' := by
  unfold droppedS
  split
  · rfl
  · rename_i e he
    exact find_put_other (by rw [show (En.mk e.name e.holder e.epoch 0 true).name = e.name from rfl, (find_some he).2]; exact hk)
theorem drop_find {s : St} {k k' : ByteArray} {h ep : Int} (hk : k ≠ k') : find (dropS s k h ep).l k' = find s.l k' := by
  unfold dropS
  split
  · exact dropped_find hk
  · rfl
theorem take_margin (s : St) (k : ByteArray) (h now ttl : Int) : (takeS s k h now ttl).margin = s.margin := by unfold takeS; split <;> rfl
theorem renewed_margin (s : St) (k : ByteArray) (now ttl : Int) : (renewed s k now ttl).margin = s.margin := by unfold renewed; split <;> rfl
theorem renew_margin (s : St) (k : ByteArray) (h ep now ttl : Int) : (renewS s k h ep now ttl).margin = s.margin := by
  unfold renewS; split
  · exact renewed_margin ..
  · rfl
theorem dropped_margin (s : St) (k : ByteArray) : (droppedS s k).margin = s.margin := by unfold droppedS; split <;> rfl
theorem drop_margin (s : St) (k : ByteArray) (h ep : Int) : (dropS s k h ep).margin = s.margin := by
  unfold dropS; split
  · exact dropped_margin ..
  · rfl
theorem Few.more {s : St} {n m : Nat} (h : Few s n) (hm : n ≤ m) : Few s m := ⟨fun e he => by have := h.1 e he; omega, Nat.le_trans h.2 hm⟩
theorem few_epoch {s : St} {n : Nat} (h : Few s n) (k : ByteArray) : epochOf s.l k ≤ n := by
  unfold epochOf
  split
  · rename_i e he; exact h.1 e (find_some he).1
  · omega
theorem put_len (l : List En) (e : En) : (put l e).length ≤ l.length + 1 := by
  unfold put
  rw [putK_length]
  have : (dropK l e.name).length ≤ l.length := List.length_filter_le _ _
  omega
theorem take_few {s : St} {n : Nat} (hf : Few s n) (k : ByteArray) (h now ttl : Int) : Few (takeS s k h now ttl) (n + 1) := by
  unfold takeS
  split
  · refine ⟨fun e he => ?_, Nat.le_trans (put_len _ _) (Nat.succ_le_succ hf.2)⟩
    rcases mem_put he with rfl | he
    · have := few_epoch hf k
      show epochOf s.l k + 1 ≤ ((n + 1 : Nat) : Int)
      omega
    · have := hf.1 e he; omega
  · exact hf.more (by omega)
theorem renew_few {s : St} {n : Nat} (hf : Few s n) (k : ByteArray) (h ep now ttl : Int) : Few (renewS s k h ep now ttl) (n + 1) := by
  unfold renewS
  split
  · unfold renewed
    split
    · exact hf.more (by omega)
    · rename_i e he
      refine ⟨fun x hx => ?_, Nat.le_trans (put_len _ _) (Nat.succ_le_succ hf.2)⟩
      rcases mem_put hx with rfl | hx
      · have := hf.1 e (find_some he).1
        show e.epoch ≤ _
        omega
      · have := hf.1 x hx; omega
  · exact hf.more (by omega)
theorem drop_few {s : St} {n : Nat} (hf : Few s n) (k : ByteArray) (h ep : Int) : Few (dropS s k h ep) (n + 1) := by
  unfold dropS
  split
  · unfold droppedS
    split
    · exact hf.more (by omega)
    · rename_i e he
      refine ⟨fun x hx => ?_, Nat.le_trans (put_len _ _) (Nat.succ_le_succ hf.2)⟩
      rcases mem_put hx with rfl | hx
      · have := hf.1 e (find_some he).1
        show e.epoch ≤ _
        omega
      · have := hf.1 x hx; omega
  · exact hf.more (by omega)
end Ls
theorem lease_fields : Try.prog.underlying 36 = some (.struct (Try.prog.fieldsOf 36)) := by kernel_rfl
theorem lease_stood : Try.prog.stoodInHeld 36 = false := by kernel_rfl
theorem lease_same (a b c : Int) (W : World) : (binOp .eql 36 (.agg #[.int .i64 a, .int .i64 b, .int .i64 c]) (.agg #[.int .i64 a, .int .i64 b, .int .i64 c])).run Try.prog W = .ok (.bool true) W := by
  rw [run_eql_struct, run_equalIn_agg W 9999 36 _ _ lease_fields lease_stood]
  have hi : ∀ n W, (Op.equalIn 9999 3 (.int .i64 n) (.int .i64 n)).run Try.prog W = .ok true W := fun n W => by
    rw [run_equalIn_int W 9998 3 .i64 .i64 n n Try.underlying3]; simp
  simp only [Program.fieldsOf, Try.underlying36]
  simp [Op.eqFields, go_sem, Sem.run_bind, Result.andThen, hi]
end Go.Proofs.Ytemnioijgkahcaa
