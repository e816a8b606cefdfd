/-
  The document's reading of a text in a proof's bytes.
-/
import Derived.Test.YtaanaoimnecenaaDoorPF4
import Derived.Test.YtaanaoimnecenaaDoorW2
namespace Go.Proofs.YtaanaoimnecenaaDoor
open Go.RowKit

/-- What it answers. -/
def RtP (w : World) (n : Nat) (l : List UInt8) (s : List UInt8 × Rst) (en : Ending) (w' : World) : Prop :=
  ∃ v x, en = .returned (.tuple #[v, .int .i64 x, .int .i64 (s.2.2 : Int)]) ∧ Own w' w.heap.size 5 v s.1 ∧ Below w.heap.size w w' ∧ (s.2.2 = 0 → ∃ k : Nat, x = (k : Int) ∧ k ≤ n ∧ s.2.1 = l.drop k)

set_option maxHeartbeats 4000000 in
theorem rtext_any (A : Option Addr) (n c : Nat) (l : List UInt8) (at_ : Nat) (w : World) (ha : Seg w A n l) (hc : n ≤ c) (hcm : c ≤ maxLen) (hn : n ≤ 1000000) (hat : at_ ≤ n) :
    Calls Tryd.prog 79 #[.slice A n c, .int .i64 (at_ : Int)] w (RtP w n l (ptx (l.drop at_, 0))) := by
  have hdl : (l.drop at_).length = n - at_ := by rw [List.length_drop, ha.1]
  unfold maxLen at hcm
  by_cases h2 : n - at_ < 2
  · have e : ptx (l.drop at_, 0) = ([], (l.drop at_, 3)) := by
      unfold ptx
      rw [pnb_short (by omega), ptk_err (by simp)]
    rw [e]
    have d2 : decide ((n : Int) - (at_ : Int) < 2) = true := decide_eq_true (by omega)
    go_enter Tryd.func79, Tryd.ntmps79
    go_wp2
    go_ret3
    exact ⟨_, _, rfl, Own.nil _ _ _, Below.refl _ _, fun h => by cases h⟩
  · have d2 : decide ((n : Int) - (at_ : Int) < 2) = false := decide_eq_false (by omega)
    have hne : ¬ c = at_ := by omega
    obtain ⟨m, hm⟩ : ∃ m, rdN ((l.drop at_).take 2) = m := ⟨_, rfl⟩
    have hlt : m < 65536 := by rw [← hm]; exact rdN_lt' _ 2 (by rw [List.length_take]; omega)
    obtain ⟨R, hR⟩ : ∃ R, Option.map (fun x => x.add at_) A = R := ⟨_, rfl⟩
    have hs2 : Seg w R 2 ((l.drop at_).take 2) := by
      rw [← hR]
      have := ha.cut at_ (at_ + 2) (by omega) (by omega)
      rw [Nat.add_sub_cancel_left] at this
      exact this
    have HM := Lib.hid hm
    have hr := read_any R 2 (c - at_) ((l.drop at_).take 2) w hs2 (by omega)
    rw [hm] at hr
    have e3 : at_ + 2 - at_ = 2 := by omega
    have e4 : ((at_ : Int) + 2).toNat = at_ + 2 := by omega
    have w1 : IntKind.i64.wrap ((at_ : Int) + 2) = (at_ : Int) + 2 := IntWalk.i64_in _ (by omega)
    have b1 : (0 : Int) ≤ (at_ : Int) + 2 := by omega
    have b2 : (at_ : Int) + 2 ≤ (c : Int) := by omega
    have b3 : at_ ≤ at_ + 2 := by omega
    clear hm
    by_cases h4 : 4000 < m
    · have e : ptx (l.drop at_, 0) = ([], ((l.drop at_).drop 2, 2)) := by
        unfold ptx
        rw [pnb_big (by omega) (by rw [HM.out]; exact h4), ptk_err (by simp)]
      rw [e]
      have d4 : decide ((4000 : Int) < (m : Int)) = true := decide_eq_true (by omega)
      clear hdl
      go_enter Tryd.func79, Tryd.ntmps79
      go_wp2_with (go_at_call 69; refine hr.mono ?_; rintro _ _ ⟨rfl, rfl⟩)
      go_ret3
      exact ⟨_, _, rfl, Own.nil _ _ _, Below.refl _ _, fun h => by cases h⟩
    · have d4 : decide ((4000 : Int) < (m : Int)) = false := decide_eq_false (by omega)
      by_cases h5 : n - (at_ + 2) < m
      · have e : ptx (l.drop at_, 0) = ([], ((l.drop at_).drop 2, 3)) := by
          unfold ptx
          rw [pnb_ok (by omega) (by rw [HM.out]; omega), ptk_short (by rw [HM.out, List.length_drop]; omega)]
        rw [e]
        have d5 : decide ((n : Int) - ((at_ : Int) + 2) < (m : Int)) = true := decide_eq_true (by omega)
        clear hdl
        go_enter Tryd.func79, Tryd.ntmps79
        go_wp2_with (go_at_call 69; refine hr.mono ?_; rintro _ _ ⟨rfl, rfl⟩)
        go_ret3
        exact ⟨_, _, rfl, Own.nil _ _ _, Below.refl _ _, fun h => by cases h⟩
      · have e : ptx (l.drop at_, 0) = (((l.drop at_).drop 2).take m, (((l.drop at_).drop 2).drop m, 0)) := by
          unfold ptx
          rw [pnb_ok (by omega) (by rw [HM.out]; omega)]
          dsimp only
          rw [HM.out, ptk_ok (by rw [List.length_drop]; omega)]
        rw [e]
        obtain ⟨p, hp⟩ : ∃ p, at_ + 2 = p := ⟨_, rfl⟩
        have hpi : (at_ : Int) + 2 = (p : Int) := by omega
        rw [hpi] at w1 b1 b2 e4
        rw [hp] at e3 b3
        have e4 : ((p : Int)).toNat = p := by omega
        have d5 : decide ((n : Int) - (p : Int) < (m : Int)) = false := decide_eq_false (by omega)
        obtain ⟨R2, hR2⟩ : ∃ R2, (if c = p then A else Option.map (fun x => x.add p) A) = R2 := ⟨_, rfl⟩
        have hs3 : Seg w R2 m (((l.drop at_).drop 2).take m) := by
          rw [← hR2, List.drop_drop, hp]
          exact (ha.fromA p c (by omega) hc).upto m (by omega)
        have e5 : p + m - p = m := by omega
        have e6 : ((p : Int) + (m : Int)).toNat = p + m := by omega
        have w2 : IntKind.i64.wrap ((p : Int) + (m : Int)) = (p : Int) + (m : Int) := IntWalk.i64_in _ (by omega)
        have b4 : (0 : Int) ≤ (p : Int) + (m : Int) := by omega
        have b5 : (p : Int) + (m : Int) ≤ (c : Int) := by omega
        have b6 : p ≤ p + m := by omega
        have b7 : (p : Int) ≤ (p : Int) + (m : Int) := by omega
        have HP := Lib.hid hp
        have hj := join_any R2 none m 0 (c - p) 0 _ [] w hs3 (Seg.nil _ _) (by omega)
        rw [List.append_nil] at hj
        obtain ⟨t, ht⟩ : ∃ t, ((l.drop at_).drop 2).take m = t := ⟨_, rfl⟩
        have hlt : t.length = m := by rw [← ht, List.length_take, List.length_drop, hdl]; have := HP.out; omega
        have HLT := Lib.hid hlt
        rw [ht] at hj ⊢
        clear hdl ht hs3 hlt
        go_enter Tryd.func79, Tryd.ntmps79
        go_wp2_with (first
          | (go_at_call 69; refine hr.mono ?_; rintro _ _ ⟨rfl, rfl⟩)
          | (go_at_call 51; refine hj.mono ?_; rintro _ w3 ⟨v3, rfl, ho3, hb3⟩; obtain ⟨A3, c3, rfl, _, _, _⟩ := ho3.forms))
        all_goals
          go_ret3
          exact ⟨_, _, rfl, ho3, hb3, fun _ => ⟨p + m, by omega, by omega, by dsimp only; rw [List.drop_drop, List.drop_drop, ← HP.out, Nat.add_assoc]⟩⟩

end Go.Proofs.YtaanaoimnecenaaDoor
