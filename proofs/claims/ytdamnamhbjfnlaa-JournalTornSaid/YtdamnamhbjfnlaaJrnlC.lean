/-
  Package journal keeps all that the walks of layer 6's statements ask of it.
-/
import Derived.Test.YtdamnamhbjfnlaaJrnl3
namespace Go.Proofs.Ytdamnamhbjfnlaa
open Go.RowKit

theorem jrn_keeps : JC Jrn where
  keep := fun _ _ _ _ _ _ h hk => h.keep hk
  more := fun _ _ _ _ _ _ h hX => ⟨h.blk, hX _ h.inX h.lt, h.dsk.more fun i hi hl => ⟨hX i hi.1 hl, hi.2⟩, h.whole⟩
  okay := fun _ _ _ _ _ h => ⟨h.dsk.okay, h.whole.byt⟩
  disk := fun _ _ _ _ _ h => h.dsk.more fun _ hi _ => hi.1
  make := fun W X r d hd hy hX => (jOpen_x W hd hX hy).mono fun _ _ ⟨he, hj, hk⟩ => ⟨_, he, hj, hk⟩
  again := fun W X q r d h ho hX => by
    refine (jOpen_x W h.dsk (h.fresh hX) h.whole.byt).mono ?_
    rintro e w' ⟨rfl, hj, hk⟩
    have hq := h.lt
    rw [ho] at hj
    have hc : (Jn.cutN d : Nat) = d.l.length := by
      have h1 := Jn.cutN_le d h.whole.byt
      have h2 := congrArg (fun x => x.l.length) ho
      unfold Jn.opened Dk.leave at h2
      simp only [List.length_take] at h2
      omega
    refine ⟨_, by rw [hc, Int.sub_self], ⟨(hk.block q hq (fun hf => hf.2 rfl)).trans h.blk, h.inX, hj.dsk.more fun i hi _ => ⟨hi.1.1, hi.1.2⟩, h.whole⟩, ⟨hj.blk, hj.inX.1, hj.dsk.more fun i hi _ => ⟨hi.1.1, hi.2⟩, hj.whole⟩, hk.more fun i _ hi => hi.1⟩
  append := fun W X q r d n c A p h hX hs hn => jAppend_x h hX hs hn
  torn := fun W X q r d n c A p keep h hX hs hn _ => jTorn_x h hX hs hn
  sync := fun W X q r d h hX => jSync_x h hX
  crash := fun W X q r d keep h hX hk => jCrash_x h hX hk
  swap := fun W X q r d n c A ls h hX hs hl hp => jSwap_x h hX hs hl hp
  all := fun W X q r d h => (jall_ask h.ask).mono fun e w' ⟨A, c, he, ho, hb⟩ => ⟨A, c, he, ho.rows, hb⟩
  len := fun W X q r d h => jlen_ask h.ask
  safe := fun W X q r d h => jsafe_ask h.ask
  room := fun W X q r d h => jroom_ask h.ask
end Go.Proofs.Ytdamnamhbjfnlaa
