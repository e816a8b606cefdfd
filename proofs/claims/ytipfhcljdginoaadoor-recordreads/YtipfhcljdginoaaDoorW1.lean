/-
  The walks of small functions over bytes: what each call answers, and what becomes of memory.
-/
import Derived.Test.YtipfhcljdginoaaDoorProg
import Derived.Test.YtipfhcljdginoaaDoorMem
namespace Go.Proofs.YtipfhcljdginoaaDoor
open Go.RowKit

theorem bt : ByteT Tryd.prog 28 5 := ⟨Tryd.underlying28, Tryd.underlying5, by kernel_rfl⟩

set_option maxHeartbeats 400000 in
theorem bytes_any (A B : Option Addr) (n m c d : Nat) (l r : List UInt8) (w : World) (ha : Seg w A n l) (hb : Seg w B m r) (hn : n ≤ maxLen) :
    Calls Tryd.prog 14 #[.slice A n c, .slice B m d] w fun e w' => e = .returned (.bool (l == r)) ∧ ∃ k, w' = w.drewN k := by
  unfold maxLen at hn
  by_cases hnm : n = m
  · subst hnm
    go_enter Tryd.func14, Tryd.ntmps14
    go_wp2
    go_loopw [5] (fun i w' => ∃ k : Nat, k ≤ n ∧ i = .int .i64 k ∧ l.take k = r.take k ∧ ∃ q, w' = w.drewN q) (fun i _ => n - (intOf i).toNat)
    case atStart => exact ⟨0, by omega, rfl, by simp, 0, rfl⟩
    case round =>
      obtain ⟨k, hk, rfl, he, q, rfl⟩ := hrel
      by_cases hlt : k < n
      · obtain ⟨g, o, rfl, hc⟩ := ha.at_ hlt
        obtain ⟨g', o', rfl, hc'⟩ := hb.at_ hlt
        have hl1 : k < l.length := by rw [ha.1]; exact hlt
        have hl2 : k < r.length := by rw [hb.1]; exact hlt
        have HE := Lib.hid he
        clear he
        by_cases heq : l[k]'(by rw [ha.1]; exact hlt) = r[k]'(by rw [hb.1]; exact hlt)
        · have ht : (((l[k]'(by rw [ha.1]; exact hlt)).toNat : Int) != ((r[k]'(by rw [hb.1]; exact hlt)).toNat : Int)) = false := by simp [heq]
          have HQ := Lib.hid heq
          clear heq
          go_wp2
          go_quiet (fail)
          go_wp2
          go_roundw
          case rel =>
            exact ⟨k + 1, hlt, by go_num, by rw [List.take_succ_eq_append_getElem hl1, List.take_succ_eq_append_getElem hl2, HE.out, HQ.out], _, rfl⟩
          case measure => simp [intOf]; omega
        · have ht : (((l[k]'(by rw [ha.1]; exact hlt)).toNat : Int) != ((r[k]'(by rw [hb.1]; exact hlt)).toNat : Int)) = true := by
            simp; intro h; exact heq (UInt8.toNat_inj.1 (by exact_mod_cast h))
          go_wp2
          go_quiet (fail)
          go_wp2
          go_ret
          have : (l == r) = false := by
            rw [beq_eq_false_iff_ne]; rintro rfl; exact heq rfl
          exact ⟨by rw [this]; rfl, q + nq, World.drewN_drewN _ _ _⟩
      · go_wp2
        go_ret
        have : (l == r) = true := by
          rw [beq_iff_eq]
          have h1 := ha.1
          have h2 := hb.1
          rw [List.take_of_length_le (by omega), List.take_of_length_le (by omega)] at he
          exact he
        exact ⟨by rw [this]; rfl, _, rfl⟩
  · have h1 : ((n : Int) != (m : Int)) = true := by simp; omega
    go_enter Tryd.func14, Tryd.ntmps14
    go_wp2
    go_ret
    have : (l == r) = false := by
      rw [beq_eq_false_iff_ne]; rintro rfl; exact hnm (ha.1.symm.trans hb.1)
    exact ⟨by rw [this]; rfl, 0, rfl⟩

set_option maxHeartbeats 400000 in
theorem join_any (A B : Option Addr) (n m c d : Nat) (l r : List UInt8) (w : World) (ha : Seg w A n l) (hb : Seg w B m r) (hn : n + m ≤ 1099511627776) :
    Calls Tryd.prog 19 #[.slice A n c, .slice B m d] w fun e w' => ∃ v, e = .returned v ∧ Own w' w.heap.size 5 v (l ++ r) ∧ Below w.heap.size w w' := by
  go_enter Tryd.func19, Tryd.ntmps19
  go_wp2_with (first
    | (at_builtin
       refine wpList_append_seg _ rfl (.tmp 6) (.tmp 7) _ _ bt rfl w.heap.size (.slice none 0 0) [] rfl (Own.nil _ _ _) A n c l rfl ha (by simp; omega) (Nat.le_refl _) ?_
       intro v1 w1 hown1 hg1 hat1
       have hbw1 : Below w.heap.size w w1 := below_grown (Below.refl _ _) (Own.nil _ w.heap.size 0) hg1 (Nat.le_refl _) (Nat.le_refl _))
    | (at_builtin
       refine wpList_append_seg _ rfl (.tmp 9) (.tmp 10) _ _ bt rfl w.heap.size v1 _ rfl hown1 B m d r rfl (hb.below hbw1) (by have := ha.1; simp; omega) hbw1.size ?_
       intro v2 w2 hown2 hg2 hat2))
  go_ret
  exact ⟨v2, rfl, by simpa using hown2, below_grown hbw1 hown1 hg2 (Nat.le_refl _) hbw1.size⟩

end Go.Proofs.YtipfhcljdginoaaDoor
