/-
  The document's example ('keeps'), and the law DiskNil.
-/
import Derived.Test.YtkmcnkonkalfkaaDoorDK2
import Derived.Lib.SlBytesConst
namespace Go.Proofs.YtkmcnkonkalfkaaDoor
open Go.RowKit

theorem Below.drewN' {B : Nat} {a w : World} (h : Below B a w) (k : Nat) : Below B a (w.drewN k) := ⟨h.os, h.tape, h.output, h.size, h.block⟩
theorem dn_false (c : Int) : dn false c = c := by simp [dn]
theorem wk_false (c : Int) : wk false c = true := rfl
theorem Dk.alloc {w : World} {B g : Nat} {v : Value} {l : List UInt8} {s : Nat} {f : Bool} {c : Int} (h : Dk w B g v l s f c) (o : Obj) : Dk (w.alloc o) B g v l s f c :=
  h.only ((Only.refl w fun _ => False).alloc o) fun _ _ => id
theorem Dk.size {w : World} {B g : Nat} {v : Value} {l : List UInt8} {s : Nat} {f : Bool} {c : Int} (h : Dk w B g v l s f c) : B ≤ w.heap.size := Nat.le_of_lt (Nat.lt_of_le_of_lt h.hB h.dc.lt)
theorem Dk.belows {w w' a : World} {B g : Nat} {v : Value} {l : List UInt8} {s : Nat} {f : Bool} {c : Int} (h : Dk w B g v l s f c) (h0 : Below B a w) (ho : Only w w' (DkS g v)) : Below B a w' := ho.below h0 h.ge h.size
theorem Dk.belowg {w w' a : World} {B g : Nat} {v : Value} {l : List UInt8} {s : Nat} {f : Bool} {c : Int} (h : Dk w B g v l s f c) (h0 : Below B a w) (ho : Only w w' (fun k => k = g)) : Below B a w' := ho.below h0 (fun _ e => by rw [e]; exact h.hB) h.size

end Go.Proofs.YtkmcnkonkalfkaaDoor
