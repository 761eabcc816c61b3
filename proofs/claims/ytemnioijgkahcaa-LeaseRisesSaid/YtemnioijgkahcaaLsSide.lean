/-
  A table, the steps that are told, and blocks that stay beside them. No condition.
-/
import Derived.Test.YtemnioijgkahcaaLsLaw3
namespace Go.Proofs.Ytemnioijgkahcaa
open Go.RowKit Go.Deep

/-- A table, the steps that are told, and blocks beside them. -/
structure LQ (L : LPred) (w0 : World) (F : Nat → Prop) (q N : Nat) (v : Value) (es : List Lp) (G : List (Nat × Obj)) (s : Ls.St) (W : World) : Prop where
  la : LAt L w0 F q s W
  row : OwnLp W N v es
  fr : ∀ k, v.ownBlock = some k → F k
  side : ∀ p ∈ G, F p.1 ∧ W.heap[p.1]? = some p.2
section
variable {L : LPred} {w0 W W' : World} {F F' : Nat → Prop} {q N g : Nat} {v : Value} {es : List Lp} {s s' : Ls.St} {G : List (Nat × Obj)}
theorem LQ.on (hC : LC L) (h : LQ L w0 F q N v es G s W) (hb : Below W.heap.size W W') : LQ L w0 F q N v es G s W' :=
  ⟨h.la.on hC hb, OwnLp.any (h.row.below hb), h.fr, fun p hp => ⟨(h.side p hp).1, blk_on (h.side p hp).2 hb⟩⟩
theorem LQ.res (h : LQ L w0 F q N v es G s W) {x : Value} {e : Ending} (hr : LRes L w0 F q s' x W e W') : e = .returned x ∧ LQ L w0 F q N v es G s' W' :=
  ⟨hr.1, hr.2.1, OwnLp.any (h.row.keep fun k hk => hr.2.2 k (h.fr k hk)), h.fr, fun p hp => ⟨(h.side p hp).1, (hr.2.2 p.1 (h.side p hp).1).trans (h.side p hp).2⟩⟩
theorem LQ.push (hC : LC L) (h : LQ L w0 F q N v es G s W) {o : Obj} (hb : Below W.heap.size W (W.alloc o)) (ho : (W.alloc o).heap[W.heap.size]? = some o) : ∃ F', (∀ b, F b → F' b) ∧ LQ L w0 F' q N v es ((W.heap.size, o) :: G) s (W.alloc o) := by
  have hlt := (Array.getElem?_eq_some_iff.1 ho).1
  refine ⟨fun b => F b ∨ (W.heap.size ≤ b ∧ b < (W.alloc o).heap.size), fun b hb => .inl hb, h.la.more hC hb, OwnLp.any (h.row.below hb), fun k hk => .inl (h.fr k hk), fun p hp => ?_⟩
  rcases List.mem_cons.1 hp with rfl | hp
  · exact ⟨.inr ⟨Nat.le_refl _, hlt⟩, ho⟩
  · exact ⟨.inl (h.side p hp).1, blk_on (h.side p hp).2 hb⟩
theorem LQ.pop (h : LQ L w0 F' q N v es G s W) (hF : ∀ b, F b → F' b) (hv : ∀ k, v.ownBlock = some k → F k) : LQ L w0 F q N v es [] s W :=
  ⟨h.la.less hF, h.row, hv, fun p hp => by cases hp⟩
theorem LQ.at_ (h : LQ L w0 F q N v es G s W) (i : Nat) {p : Nat × Obj} (hi : G[i]? = some p) : W.heap[p.1]? = some p.2 := (h.side p (List.mem_of_getElem? hi)).2
theorem lq_take (hC : LC L) {k : ByteArray} {ho now ttl : Int} (h : LQ L w0 F q N v es G s W) (hf : Ls.Few s 1000000) (hk : k.size ≤ maxLen) (i1 : l64In ho) (i2 : l64In now) (i3 : l64In ttl) :
    Calls Try.prog 12 #[.pointer (some ⟨q, 0, none⟩), .string k, .int .i64 ho, .int .i64 now, .int .i64 ttl] W (fun e w' => e = .returned (.tuple #[.int .i64 (Ls.takeN s k ho now ttl), .int .i64 (Ls.takeE s k ho now ttl : Nat)]) ∧ LQ L w0 F q N v es G (Ls.takeS s k ho now ttl) w') :=
  (lat_take hC h.la hf hk i1 i2 i3).mono fun _ _ hp => h.res hp
theorem lq_renew (hC : LC L) {k : ByteArray} {ho ep now ttl : Int} (h : LQ L w0 F q N v es G s W) (hk : k.size ≤ maxLen) (i1 : l64In ho) (i4 : l64In ep) (i2 : l64In now) (i3 : l64In ttl) :
    Calls Try.prog 13 #[.pointer (some ⟨q, 0, none⟩), .string k, .int .i64 ho, .int .i64 ep, .int .i64 now, .int .i64 ttl] W (fun e w' => e = .returned (.tuple #[.int .i64 (Ls.renewN s k ho ep now ttl), .int .i64 (Ls.renewE s k ho ep now ttl : Nat)]) ∧ LQ L w0 F q N v es G (Ls.renewS s k ho ep now ttl) w') :=
  (lat_renew hC h.la hk i1 i4 i2 i3).mono fun _ _ hp => h.res hp
theorem lq_drop (hC : LC L) {k : ByteArray} {ho ep : Int} (h : LQ L w0 F q N v es G s W) (hk : k.size ≤ maxLen) (i1 : l64In ho) (i4 : l64In ep) :
    Calls Try.prog 14 #[.pointer (some ⟨q, 0, none⟩), .string k, .int .i64 ho, .int .i64 ep] W (fun e w' => e = .returned (.int .i64 (Ls.dropE s k ho ep : Nat)) ∧ LQ L w0 F q N v es G (Ls.dropS s k ho ep) w') :=
  (lat_drop hC h.la hk i1 i4).mono fun _ _ hp => h.res hp
end
/-- The blocks that hold a step, a lease. -/
def lstepO (o : Lp) : Obj := .cells #[.int .i64 o.kind, .int .i64 o.who, .int .i64 o.ep, .int .i64 o.now, .int .i64 o.ttl, .string o.name] 28 (0, 0)
def lleaseO (a b t : Int) : Obj := .cells #[.int .i64 a, .int .i64 b, .int .i64 t] 36 (0, 0)
theorem lstep_cells {W : World} {g : Nat} {o : Lp} (h : W.heap[g]? = some (lstepO o)) : LFc W g o := (LFr.mk h).cells
theorem llease_cells {W : World} {g : Nat} {a b t : Int} (h : W.heap[g]? = some (lleaseO a b t)) : W.cell? ⟨g, 0, none⟩ = some (.int .i64 a) ∧ W.cell? ⟨g, 1, none⟩ = some (.int .i64 b) ∧ W.cell? ⟨g, 2, none⟩ = some (.int .i64 t) :=
  ⟨by rw [cell_of_row W g 0 _ _ _ h]; rfl, by rw [cell_of_row W g 1 _ _ _ h]; rfl, by rw [cell_of_row W g 2 _ _ _ h]; rfl⟩
namespace Ls
/-- Is a name held by anyone? -/
def Taken (s : St) (k : ByteArray) (now : Int) : Prop := ∃ e, find s.l k = some e ∧ e.dropped = false ∧ now < e.till
theorem holds_iff {s : St} {k : ByteArray} {h ep now : Int} : Holds s k h ep now ↔ Taken s k now ∧ holderOf s.l k = h ∧ epochOf s.l k = ep := by
  unfold Holds Taken holderOf epochOf
  constructor
  · rintro ⟨e, he, h1, h2, h3, h4⟩
    rw [he]
    exact ⟨⟨e, rfl, h1, h4⟩, h2, h3⟩
  · rintro ⟨⟨e, he, h1, h4⟩, h2, h3⟩
    rw [he] at h2 h3
    exact ⟨e, he, h1, h2, h3, h4⟩
theorem taken_is {s : St} {k : ByteArray} {now : Int} (h : Taken s k now) : (find s.l k).isSome = true := by
  obtain ⟨e, he, _⟩ := h
  rw [he]; rfl
theorem taken_free {s : St} {k : ByteArray} {now : Int} (hg : Good s) (h : Taken s k now) : ¬ Free s k now := by
  obtain ⟨e, he, h1, h2⟩ := h
  intro hf
  have h3 := hg.each e (find_some he).1
  have h4 := h3.2.2.2.2.2.1
  have h5 := hg.m0
  rcases hf e he with h6 | h6
  · rw [h1] at h6; cases h6
  · unfold late at h6
    unfold Time at h4
    omega
end Ls
end Go.Proofs.Ytemnioijgkahcaa
