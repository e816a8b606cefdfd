/-
  The walks of small functions over bytes: what each call answers, and what becomes of memory.
-/
import Derived.Test.YtocmpinpfhfcoaaProg
import Derived.Test.YtocmpinpfhfcoaaMem
namespace Go.Proofs.Ytocmpinpfhfcoaa
open Go.RowKit

theorem bt : ByteT Try.prog 30 5 := ⟨Try.underlying30, Try.underlying5, by kernel_rfl⟩

set_option maxHeartbeats 400000 in
theorem bytes_any (A B : Option Addr) (n m c d : Nat) (l r : List UInt8) (w : World) (ha : Seg w A n l) (hb : Seg w B m r) (hn : n ≤ maxLen) :
    Calls Try.prog 10 #[.slice A n c, .slice B m d] w fun e w' => e = .returned (.bool (l == r)) ∧ ∃ k, w' = w.drewN k := by
  unfold maxLen at hn
  by_cases hnm : n = m
  · subst hnm
    go_enter Try.func10, Try.ntmps10
    go_wp2
    go_loopw [5] (fun i w' => ∃ k : Nat, k ≤ n ∧ i = .int .i64 k ∧ l.take k = r.take k ∧ ∃ q, w' = w.drewN q) (fun i _ => n - (intOf i).toNat)
    case atStart => exact ⟨0, by omega, rfl, by simp, 0, rfl⟩
    case round =>
      obtain ⟨k, hk, rfl, he, q, rfl⟩ := hrel
      by_cases hlt : k < n
      · obtain ⟨g, o, rfl, hc⟩ := ha.at_ hlt
        obtain ⟨g', o', rfl, hc'⟩ := hb.at_ hlt
        have hl1 : k < l.length := by rw [ha.1]; exact hlt
        have hl2 : k < r.length := by rw [hb.1]; exact hlt
        have HE := Lib.hid he
        clear he
        by_cases heq : l[k]'(by rw [ha.1]; exact hlt) = r[k]'(by rw [hb.1]; exact hlt)
        · have ht : (((l[k]'(by rw [ha.1]; exact hlt)).toNat : Int) != ((r[k]'(by rw [hb.1]; exact hlt)).toNat : Int)) = false := by simp [heq]
          have HQ := Lib.hid heq
          clear heq
          go_wp2
          go_quiet (fail)
          go_wp2
          go_roundw
          case rel =>
            exact ⟨k + 1, hlt, by go_num, by rw [List.take_succ_eq_append_getElem hl1, List.take_succ_eq_append_getElem hl2, HE.out, HQ.out], _, rfl⟩
          case measure => simp [intOf]; omega
        · have ht : (((l[k]'(by rw [ha.1]; exact hlt)).toNat : Int) != ((r[k]'(by rw [hb.1]; exact hlt)).toNat : Int)) = true := by
            simp; intro h; exact heq (UInt8.toNat_inj.1 (by exact_mod_cast h))
          go_wp2
          go_quiet (fail)
          go_wp2
          go_ret
          have : (l == r) = false := by
            rw [beq_eq_false_iff_ne]; rintro rfl; exact heq rfl
          exact ⟨by rw [this]; rfl, q + nq, World.drewN_drewN _ _ _⟩
      · go_wp2
        go_ret
        have : (l == r) = true := by
          rw [beq_iff_eq]
          have h1 := ha.1
          have h2 := hb.1
          rw [List.take_of_length_le (by omega), List.take_of_length_le (by omega)] at he
          exact he
        exact ⟨by rw [this]; rfl, _, rfl⟩
  · have h1 : ((n : Int) != (m : Int)) = true := by simp; omega
    go_enter Try.func10, Try.ntmps10
    go_wp2
    go_ret
    have : (l == r) = false := by
      rw [beq_eq_false_iff_ne]; rintro rfl; exact hnm (ha.1.symm.trans hb.1)
    exact ⟨by rw [this]; rfl, 0, rfl⟩

end Go.Proofs.Ytocmpinpfhfcoaa
