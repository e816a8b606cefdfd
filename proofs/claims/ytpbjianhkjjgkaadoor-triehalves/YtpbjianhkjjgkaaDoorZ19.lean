/-
  Texts of one claim, joined.
-/
import Derived.Test.YtpbjianhkjjgkaaDoorZ18
import Derived.Test.YtpbjianhkjjgkaaDoorZ07
import Derived.Test.YtpbjianhkjjgkaaDoorZ06
namespace Go.Proofs.YtpbjianhkjjgkaaDoor
open Go.RowKit

/-- What it answers. -/
def RtP (w : World) (n : Nat) (l : List UInt8) (s : List UInt8 × Rst) (en : Ending) (w' : World) : Prop :=
  ∃ v x, en = .returned (.tuple #[v, .int .i64 x, .int .i64 (s.2.2 : Int)]) ∧ Own w' w.heap.size 5 v s.1 ∧ Below w.heap.size w w' ∧ (s.2.2 = 0 → ∃ k : Nat, x = (k : Int) ∧ k ≤ n ∧ s.2.1 = l.drop k)

set_option maxHeartbeats 4000000 in
theorem rtext_any (A : Option Addr) (n c : Nat) (l : List UInt8) (at_ : Nat) (w : World) (ha : Seg w A n l) (hc : n ≤ c) (hcm : c ≤ maxLen) (hn : n ≤ 1000000) (hat : at_ ≤ n) :
    Calls Tryd.prog 91 #[.slice A n c, .int .i64 (at_ : Int)] w (RtP w n l (ptx (l.drop at_, 0))) := by
  have hdl : (l.drop at_).length = n - at_ := by rw [List.length_drop, ha.1]
  unfold maxLen at hcm
  by_cases h2 : n - at_ < 2
  · have e : ptx (l.drop at_, 0) = ([], (l.drop at_, 3)) := by
      unfold ptx
      rw [pnb_short (by omega), ptk_err (by simp)]
    rw [e]
    have d2 : decide ((n : Int) - (at_ : Int) < 2) = true := decide_eq_true (by omega)
    go_enter Tryd.func91, Tryd.ntmps91
    go_wp2
    go_ret3
    exact ⟨_, _, rfl, Own.nil _ _ _, Below.refl _ _, fun h => by cases h⟩
  · have d2 : decide ((n : Int) - (at_ : Int) < 2) = false := decide_eq_false (by omega)
    have hne : ¬ c = at_ := by omega
    obtain ⟨m, hm⟩ : ∃ m, rdN ((l.drop at_).take 2) = m := ⟨_, rfl⟩
    have hlt : m < 65536 := by rw [← hm]; exact rdN_lt' _ 2 (by rw [List.length_take]; omega)
    obtain ⟨R, hR⟩ : ∃ R, Option.map (fun x => x.add at_) A = R := ⟨_, rfl⟩
    have hs2 : Seg w R 2 ((l.drop at_).take 2) := by
      rw [← hR]
      have := ha.cut at_ (at_ + 2) (by omega) (by omega)
      rw [Nat.add_sub_cancel_left] at this
      exact this
    have HM := Lib.hid hm
    have hr := read_any R 2 (c - at_) ((l.drop at_).take 2) w hs2 (by omega)
    rw [hm] at hr
    have e3 : at_ + 2 - at_ = 2 := by omega
    have e4 : ((at_ : Int) + 2).toNat = at_ + 2 := by omega
    have w1 : IntKind.i64.wrap ((at_ : Int) + 2) = (at_ : Int) + 2 := IntWalk.i64_in _ (by omega)
    have b1 : (0 : Int) ≤ (at_ : Int) + 2 := by omega
    have b2 : (at_ : Int) + 2 ≤ (c : Int) := by omega
    have b3 : at_ ≤ at_ + 2 := by omega
    clear hm
    by_cases h4 : 4000 < m
    · have e : ptx (l.drop at_, 0) = ([], ((l.drop at_).drop 2, 2)) := by
        unfold ptx
        rw [pnb_big (by omega) (by rw [HM.out]; exact h4), ptk_err (by simp)]
      rw [e]
      have d4 : decide ((4000 : Int) < (m : Int)) = true := decide_eq_true (by omega)
      clear hdl
      go_enter Tryd.func91, Tryd.ntmps91
      go_wp2_with (go_at_call 76; refine hr.mono ?_; rintro _ _ ⟨rfl, rfl⟩)
      go_ret3
      exact ⟨_, _, rfl, Own.nil _ _ _, Below.refl _ _, fun h => by cases h⟩
    · have d4 : decide ((4000 : Int) < (m : Int)) = false := decide_eq_false (by omega)
      by_cases h5 : n - (at_ + 2) < m
      · have e : ptx (l.drop at_, 0) = ([], ((l.drop at_).drop 2, 3)) := by
          unfold ptx
          rw [pnb_ok (by omega) (by rw [HM.out]; omega), ptk_short (by rw [HM.out, List.length_drop]; omega)]
        rw [e]
        have d5 : decide ((n : Int) - ((at_ : Int) + 2) < (m : Int)) = true := decide_eq_true (by omega)
        clear hdl
        go_enter Tryd.func91, Tryd.ntmps91
        go_wp2_with (go_at_call 76; refine hr.mono ?_; rintro _ _ ⟨rfl, rfl⟩)
        go_ret3
        exact ⟨_, _, rfl, Own.nil _ _ _, Below.refl _ _, fun h => by cases h⟩
      · have e : ptx (l.drop at_, 0) = (((l.drop at_).drop 2).take m, (((l.drop at_).drop 2).drop m, 0)) := by
          unfold ptx
          rw [pnb_ok (by omega) (by rw [HM.out]; omega)]
          dsimp only
          rw [HM.out, ptk_ok (by rw [List.length_drop]; omega)]
        rw [e]
        obtain ⟨p, hp⟩ : ∃ p, at_ + 2 = p := ⟨_, rfl⟩
        have hpi : (at_ : Int) + 2 = (p : Int) := by omega
        rw [hpi] at w1 b1 b2 e4
        rw [hp] at e3 b3
        have e4 : ((p : Int)).toNat = p := by omega
        have d5 : decide ((n : Int) - (p : Int) < (m : Int)) = false := decide_eq_false (by omega)
        obtain ⟨R2, hR2⟩ : ∃ R2, (if c = p then A else Option.map (fun x => x.add p) A) = R2 := ⟨_, rfl⟩
        have hs3 : Seg w R2 m (((l.drop at_).drop 2).take m) := by
          rw [← hR2, List.drop_drop, hp]
          exact (ha.fromA p c (by omega) hc).upto m (by omega)
        have e5 : p + m - p = m := by omega
        have e6 : ((p : Int) + (m : Int)).toNat = p + m := by omega
        have w2 : IntKind.i64.wrap ((p : Int) + (m : Int)) = (p : Int) + (m : Int) := IntWalk.i64_in _ (by omega)
        have b4 : (0 : Int) ≤ (p : Int) + (m : Int) := by omega
        have b5 : (p : Int) + (m : Int) ≤ (c : Int) := by omega
        have b6 : p ≤ p + m := by omega
        have b7 : (p : Int) ≤ (p : Int) + (m : Int) := by omega
        have HP := Lib.hid hp
        have hj := join_any R2 none m 0 (c - p) 0 _ [] w hs3 (Seg.nil _ _) (by omega)
        rw [List.append_nil] at hj
        obtain ⟨t, ht⟩ : ∃ t, ((l.drop at_).drop 2).take m = t := ⟨_, rfl⟩
        have hlt : t.length = m := by rw [← ht, List.length_take, List.length_drop, hdl]; have := HP.out; omega
        have HLT := Lib.hid hlt
        rw [ht] at hj ⊢
        clear hdl ht hs3 hlt
        go_enter Tryd.func91, Tryd.ntmps91
        go_wp2_with (first
          | (go_at_call 76; refine hr.mono ?_; rintro _ _ ⟨rfl, rfl⟩)
          | (go_at_call 46; refine hj.mono ?_; rintro _ w3 ⟨v3, rfl, ho3, hb3⟩; obtain ⟨A3, c3, rfl, _, _, _⟩ := ho3.forms))
        all_goals
          go_ret3
          exact ⟨_, _, rfl, ho3, hb3, fun _ => ⟨p + m, by omega, by omega, by dsimp only; rw [List.drop_drop, List.drop_drop, ← HP.out, Nat.add_assoc]⟩⟩

end Go.Proofs.YtpbjianhkjjgkaaDoor

namespace Go.Proofs.YtpbjianhkjjgkaaDoor
open Go.RowKit

theorem pdec_short {l : List UInt8} (h : l.length < 2) : pdec l = (Pf.none, 3) := by
  refine pdec_sides ?_ (by omega)
  unfold psides
  rw [pnb_short h]
  rfl
theorem pdec_count {l : List UInt8} (h : 2 ≤ l.length) (hm : 256 < rdN (l.take 2)) : pdec l = (Pf.none, 2) := by
  refine pdec_sides ?_ (by omega)
  unfold psides
  rw [pnb_big h hm]
  rfl
theorem psides_of {l : List UInt8} (h : 2 ≤ l.length) (hm : rdN (l.take 2) ≤ 256) : psides (l, 0) = psd (l.drop 2, 0) (rdN (l.take 2)) := by
  unfold psides
  rw [pnb_ok h hm]
theorem pdec_side {l : List UInt8} (h : 2 ≤ l.length) (hm : rdN (l.take 2) ≤ 256) {i : Nat} (hi : i < rdN (l.take 2)) {ds : List ByteArray} {r : List UInt8} (hp : psd (l.drop 2, 0) i = (ds, (r, 0))) (hr : r.length < 32) : pdec l = (Pf.none, 3) := by
  refine pdec_sides ?_ (by omega)
  rw [psides_of h hm]
  have h1 : (psd (l.drop 2, 0) (i + 1)).2 = (r, 3) := by rw [psd, hp, ptk_short hr]
  rw [psd_stay _ (i := i + 1) (by rw [h1]; simp) _ (by omega), h1]
theorem pdec_nokind {l : List UInt8} {ds : List ByteArray} (hp : psides (l, 0) = (ds, ([], 0))) : pdec l = (Pf.none, 3) := by
  refine pdec_err ?_ (by omega)
  unfold ppf
  rw [hp, pnb_short (by simp)]
  rfl
theorem pnb_one (b : UInt8) (y : List UInt8) : pnb (b :: y, 0) 1 2 = if 2 < b.toNat then (0, (y, 2)) else (b.toNat, (y, 0)) := by
  have e : rdN ((b :: y).take 1) = b.toNat := by simp [rdN]
  split
  · rw [pnb_big (by simp) (by rw [e]; assumption)]
    rfl
  · rw [pnb_ok (by simp) (by rw [e]; omega), e]
    rfl
theorem pdec_kind {l y : List UInt8} {ds : List ByteArray} {b : UInt8} (hp : psides (l, 0) = (ds, (b :: y, 0))) (hb : 2 < b.toNat) : pdec l = (Pf.none, 2) := by
  refine pdec_err ?_ (by omega)
  unfold ppf
  rw [hp, pnb_one, if_pos hb]
  rfl
theorem ppf_of {l y : List UInt8} {ds : List ByteArray} {b : UInt8} (hp : psides (l, 0) = (ds, (b :: y, 0))) (hb : b.toNat ≤ 2) :
    ppf (l, 0) = if b.toNat = 2 then (⟨ds, 2, ⟨(ptx (y, 0)).1.toArray⟩, (ptx (ptx (y, 0)).2).1⟩, (ptx (ptx (y, 0)).2).2)
      else if b.toNat = 1 then (⟨ds, 1, ⟨#[]⟩, (ptx (y, 0)).1⟩, (ptx (y, 0)).2) else (⟨ds, b.toNat, ⟨#[]⟩, []⟩, (y, 0)) := by
  unfold ppf
  rw [hp, pnb_one, if_neg (show ¬ 2 < b.toNat by omega)]
theorem ptx_le (s : Rst) : (ptx s).2.1.length ≤ s.1.length := ptx_rest s

theorem belD (w : World) (k : Nat) : Below w.heap.size w (w.drewN k) := ⟨rfl, rfl, rfl, Nat.le_refl _, fun _ _ => rfl⟩
theorem three_boxes (w : World) (a0 a1 a2 a3 : Value) (t u v : TypeId) :
    Bx (((w.alloc (.cells #[a0, a1, a2, a3] t)).alloc (.cells #[a0, a1, a2, a3] u)).alloc (.cells #[a0, a1, a2, a3] v)) w.heap.size a0 a1 a2 a3 ∧
    Bx (((w.alloc (.cells #[a0, a1, a2, a3] t)).alloc (.cells #[a0, a1, a2, a3] u)).alloc (.cells #[a0, a1, a2, a3] v)) (w.heap.size + 1) a0 a1 a2 a3 ∧
    Bx (((w.alloc (.cells #[a0, a1, a2, a3] t)).alloc (.cells #[a0, a1, a2, a3] u)).alloc (.cells #[a0, a1, a2, a3] v)) (w.heap.size + 1 + 1) a0 a1 a2 a3 ∧
    Below w.heap.size w (((w.alloc (.cells #[a0, a1, a2, a3] t)).alloc (.cells #[a0, a1, a2, a3] u)).alloc (.cells #[a0, a1, a2, a3] v)) ∧
    (((w.alloc (.cells #[a0, a1, a2, a3] t)).alloc (.cells #[a0, a1, a2, a3] u)).alloc (.cells #[a0, a1, a2, a3] v)).heap.size = w.heap.size + 3 := by
  have z1 : (w.alloc (.cells #[a0, a1, a2, a3] t)).heap.size = w.heap.size + 1 := by simp
  have z2 : ((w.alloc (.cells #[a0, a1, a2, a3] t)).alloc (.cells #[a0, a1, a2, a3] u)).heap.size = w.heap.size + 1 + 1 := by simp
  have h1 := (Bx.new (w.alloc (.cells #[a0, a1, a2, a3] t)) a0 a1 a2 a3 u).only (Only.alloc_ _ (.cells #[a0, a1, a2, a3] v) (fun _ => False)) id
  have h2 := Bx.new ((w.alloc (.cells #[a0, a1, a2, a3] t)).alloc (.cells #[a0, a1, a2, a3] u)) a0 a1 a2 a3 v
  rw [z1] at h1
  rw [z2] at h2
  exact ⟨((Bx.new w a0 a1 a2 a3 t).only (Only.alloc_ _ (.cells #[a0, a1, a2, a3] u) (fun _ => False)) id).only (Only.alloc_ _ (.cells #[a0, a1, a2, a3] v) (fun _ => False)) id, h1, h2,
    (((Below.refl w.heap.size w).alloc (Nat.le_refl _) _).alloc (by rw [z1]; omega) _).alloc (by rw [z2]; omega) _, by simp⟩

set_option maxRecDepth 4000 in
set_option maxHeartbeats 16000000 in
theorem rpdecode_any (A : Option Addr) (n c : Nat) (l : List UInt8) (w : World) (ha : Seg w A n l) (hnc : n ≤ c) (hcm : c ≤ maxLen) (hn : n ≤ 1000000) :
    Calls Tryd.prog 59 #[.slice A n c] w fun en w' => ∃ v, en = .returned (.tuple #[v, .int .i64 ((pdec l).2 : Int)]) ∧ PfOwn w' w.heap.size v (pdec l).1 ∧ Below w.heap.size w w' := by
  obtain ⟨Z, hZ⟩ : ∃ Z, pdec l = Z := ⟨_, rfl⟩
  have HZ := Lib.hid hZ
  rw [hZ]
  clear hZ
  have HLN := Lib.hid ha.1
  have HCM := Lib.hid hcm
  unfold maxLen at hcm
  have HF := Lib.hid (three_boxes w (.slice none 0 0) (.int .u8 0) (.string ⟨#[]⟩) (.slice none 0 0) 67 67 67)
  have hs0 := ((ha.alloc (.cells #[.slice none 0 0, .int .u8 0, .string ⟨#[]⟩, .slice none 0 0] 67)).alloc (.cells #[.slice none 0 0, .int .u8 0, .string ⟨#[]⟩, .slice none 0 0] 67)).alloc (.cells #[.slice none 0 0, .int .u8 0, .string ⟨#[]⟩, .slice none 0 0] 67)
  have hlt0 : 0 < n → ∀ a, A = some a → a.block < w.heap.size := ha.lt
  clear ha
  by_cases h2 : n < 2
  · have d2 : decide ((n : Int) < 2) = true := decide_eq_true (by omega)
    obtain rfl : Z = (Pf.none, 3) := by rw [← HZ.out, pdec_short (by rw [HLN.out]; exact h2)]
    go_enter Tryd.func59, Tryd.ntmps59
    go_wp2
    obtain ⟨hq0, hq1, hq2, hbel, hz⟩ := HF.out
    exact bodyPost_ret (v := .tuple #[.agg #[.slice none 0 0, .int .u8 0, .string ⟨#[]⟩, .slice none 0 0], .int .i64 3]) (by simp [results, Tryd.results59, go_sem]) rfl ⟨_, rfl, ⟨_, _, rfl, OwnG.nil _ _ _, Own.nil _ _ _⟩, hbel⟩
  · have d2 : decide ((n : Int) < 2) = false := decide_eq_false (by omega)
    have hne2 : 2 ≤ c := by omega
    obtain ⟨N, hN⟩ : ∃ N, rdN (l.take 2) = N := ⟨_, rfl⟩
    have hNlt : N < 65536 := by rw [← hN]; exact rdN_lt' _ 2 (by rw [List.length_take]; omega)
    have HN := Lib.hid hN
    have hrd := fun W (h : Seg W A n l) => read_any A 2 c (l.take 2) W (h.upto 2 (by omega)) (by omega)
    rw [hN] at hrd
    have HRD := Lib.hid hrd
    clear hN hrd
    by_cases h256 : 256 < N
    · have d3 : decide ((256 : Int) < (N : Int)) = true := decide_eq_true (by omega)
      obtain rfl : Z = (Pf.none, 2) := by rw [← HZ.out, pdec_count (by rw [HLN.out]; omega) (by rw [HN.out]; exact h256)]
      go_enter Tryd.func59, Tryd.ntmps59
      go_wp2_with (go_at_call 76; refine (HRD.out _ hs0).mono ?_; rintro _ _ ⟨rfl, rfl⟩)
      go_wp2
      obtain ⟨hq0, hq1, hq2, hbel, hz⟩ := HF.out
      exact bodyPost_ret (v := .tuple #[.agg #[.slice none 0 0, .int .u8 0, .string ⟨#[]⟩, .slice none 0 0], .int .i64 2]) (by simp [results, Tryd.results59, go_sem]) rfl ⟨_, rfl, ⟨_, _, rfl, OwnG.nil _ _ _, Own.nil _ _ _⟩, hbel⟩
    · have d3 : decide ((256 : Int) < (N : Int)) = false := decide_eq_false (by omega)
      go_enter Tryd.func59, Tryd.ntmps59
      go_wp2_with (go_at_call 76; refine (HRD.out _ hs0).mono ?_; rintro _ _ ⟨rfl, rfl⟩)
      obtain ⟨hq0, hq1, hq2, hbel, hz⟩ := HF.out
      have HQ0 := Lib.hid hq0
      generalize (((w.alloc (.cells #[.slice none 0 0, .int .u8 0, .string ⟨#[]⟩, .slice none 0 0] 67)).alloc (.cells #[.slice none 0 0, .int .u8 0, .string ⟨#[]⟩, .slice none 0 0] 67)).alloc (.cells #[.slice none 0 0, .int .u8 0, .string ⟨#[]⟩, .slice none 0 0] 67)) = w3 at *
      obtain ⟨b0, hb0⟩ : ∃ b0, w.heap.size = b0 := ⟨_, rfl⟩
      rw [hb0] at hq0 hq1 hq2 hbel hz hlt0 ⊢
      have HB0 := Lib.hid hb0
      have HLT3 := Lib.hid (show 0 < n → ∀ a, A = some a → a.block < b0 from hlt0)
      go_loopw [7, 8] (fun x i w' => ∃ (j : Nat) (ds : List ByteArray) (v : Value), j ≤ N ∧ i = .int .i64 j ∧ x = .int .i64 ((2 + 32 * j : Nat) : Int) ∧ 2 + 32 * j ≤ n ∧ psd (l.drop 2, 0) j = (ds, (l.drop (2 + 32 * j), 0)) ∧ ds.length = j ∧
        Bx w' b0 (.slice none 0 0) (.int .u8 0) (.string ⟨#[]⟩) (.slice none 0 0) ∧ Bx w' (b0 + 1) (.slice none 0 0) (.int .u8 0) (.string ⟨#[]⟩) (.slice none 0 0) ∧ Bx w' (b0 + 1 + 1) v (.int .u8 0) (.string ⟨#[]⟩) (.slice none 0 0) ∧
        OwnS w' (b0 + 3) 9 v ds ∧ Only w3 w' (fun k => k = b0 + 1 + 1)) (fun _ i _ => N - (intOf i).toNat)
      case atStart => exact ⟨0, [], _, by omega, rfl, rfl, by omega, rfl, rfl, hq0, hq1, hq2, OwnG.nil _ _ _, Only.refl _ _⟩
      case round =>
        clear hq0 hq1 hq2
        obtain ⟨j, ds, v, hj, rfl, rfl, hjn, hps, hdl, hq0, hq1, hq2, hov, hoo⟩ := hrel
        obtain ⟨Av, cv, hve, _, _, _⟩ := hov.forms
        rw [hdl] at hve
        subst hve
        have hbw : Below b0 w _ := hoo.below hbel (fun k e => by omega) (by omega)
        have hs := hs0.only hoo (fun hp a e k => by have := HLT3.out hp a e; omega)
        have hzz := hoo.size
        rename World => wl
        obtain ⟨p, hp⟩ : ∃ p, 2 + 32 * j = p := ⟨_, rfl⟩
        rw [hp] at hjn hps
        rw [hp]
        by_cases hlt : j < N
        · have d5 : decide ((j : Int) < (N : Int)) = true := decide_eq_true (by omega)
          by_cases h32 : n - p < 32
          · have d6 : decide ((n : Int) - (p : Int) < 32) = true := decide_eq_true (by omega)
            obtain rfl : Z = (Pf.none, 3) := by rw [← HZ.out, pdec_side (by rw [HLN.out]; omega) (by rw [HN.out]; omega) (by rw [HN.out]; exact hlt) hps (by rw [List.length_drop, HLN.out]; exact h32)]
            obtain ⟨x0, x1, x2, x3, xf⟩ := hq0
            have xf0 := xf 0
            have xf1 := xf 1
            have xf2 := xf 2
            have xf3 := xf 3
            have hq0 : Bx wl b0 _ _ _ _ := ⟨x0, x1, x2, x3, xf⟩
            obtain ⟨y0, y1, y2, y3, yf⟩ := hq1
            clear xf yf
            go_wp2
            obtain ⟨hf, hfo⟩ := hq0.set4 (.slice none 0 0) (.int .u8 0) (.string ⟨#[]⟩) (.slice none 0 0)
            refine bodyPost_ret (v := .tuple #[.agg #[.slice none 0 0, .int .u8 0, .string ⟨#[]⟩, .slice none 0 0], .int .i64 3]) (by simp [results, Tryd.results59, go_sem, hf.c0, hf.c1, hf.c2, hf.c3]) rfl ⟨_, rfl, ⟨_, _, rfl, OwnG.nil _ _ _, Own.nil _ _ _⟩, ?_⟩
            exact hfo.below hbw (fun k e => by omega) (by omega)
          · have d6 : decide ((n : Int) - (p : Int) < 32) = false := decide_eq_false (by omega)
            have hcp : ¬ c = p := by omega
            obtain ⟨R, hR⟩ : ∃ R, Option.map (fun x => x.add p) A = R := ⟨_, rfl⟩
            have hcut := hs.cut p (p + 32) (by omega) (by omega)
            rw [Nat.add_sub_cancel_left, hR] at hcut
            have hcutlt := hcut.lt (by omega)
            have hcutlt : ∀ a, R = some a → a.block < b0 := fun a e => by
              rw [← hR] at e
              obtain ⟨x, hx, e⟩ := Option.map_eq_some_iff.1 e
              have := HLT3.out (by omega) x hx
              rw [← e]
              simp only [Addr.add]
              split <;> exact this
            have hnx : psd (l.drop 2, 0) (j + 1) = (ds ++ [⟨((l.drop p).take 32).toArray⟩], (l.drop (p + 32), 0)) := by
              rw [psd, hps, ptk_ok (by rw [List.length_drop, HLN.out]; omega), List.drop_drop]
            have hcl : ((l.drop p).take 32).length = 32 := by rw [List.length_take, List.length_drop, HLN.out]; omega
            generalize (l.drop p).take 32 = t at *
            have HNX := Lib.hid hnx
            have e1 : p + 32 - p = 32 := by omega
            have e2 : ((p : Int) + 32).toNat = p + 32 := by omega
            have w1 : IntKind.i64.wrap ((p : Int) + 32) = (p : Int) + 32 := IntWalk.i64_in _ (by omega)
            have c1 : (0 : Int) ≤ (p : Int) + 32 := by omega
            have c2 : (p : Int) + 32 ≤ (c : Int) := by omega
            have c3 : p ≤ p + 32 := by omega
            have c4 : (p : Int) ≤ (p : Int) + 32 := by omega
            have HCL := Lib.hid hcl
            have x0 := hq2.c0
            have xf := hq2.fr 0
            clear hnx hcl hps
            go_wp2
            refine wp_region_noPanic (wp_region_till (fun W' => W'.cell? ⟨b0 + 1 + 1, 0, none⟩ = some (.slice Av j cv) ∧ Seg W' R 32 t) 11 (by kernel_rfl) ?_)
            have hq0 := hq0.below (belD wl 1)
            have hq1 := hq1.below (belD wl 1)
            have hq2 := hq2.below (belD wl 1)
            have hov := hov.drewN 1
            have hoo := hoo.drewN 1
            have hcut := hcut.drewN 1
            have hzz1 : b0 + 3 ≤ (wl.drewN 1).heap.size := by show b0 + 3 ≤ wl.heap.size; omega
            have x0 : (wl.drewN 1).cell? ⟨b0 + 1 + 1, 0, none⟩ = some (.slice Av j cv) := x0
            have xf : (wl.drewN 1).frozen? ⟨b0 + 1 + 1, 0, none⟩ = false := xf
            change wpAnyT _ _ _ _ _ _ 12 _ _ (wl.drewN 1)
            clear hbw hs hzz
            generalize wl.drewN 1 = w5 at *
            refine wpAnyT_take (i := 0) (v := .pointer (some ⟨b0 + 1 + 1, 0, none⟩)) rfl (by kernel_rfl) (fun _ _ _ h => h) ⟨x0, hcut⟩ (Or.inl ⟨rfl, fun W' hW => by obtain ⟨q0, q1⟩ := hW; go_simp⟩) ?_
            refine wpAnyT_take (i := 1) (v := .slice Av j cv) rfl (by kernel_rfl) (fun _ _ _ h => h) ⟨x0, hcut⟩ (Or.inl ⟨rfl, fun W' hW => by obtain ⟨q0, q1⟩ := hW; go_simp⟩) ?_
            refine wpAnyT_take (i := 2) (v := .slice A n c) rfl (by kernel_rfl) (fun _ _ _ h => h) ⟨x0, hcut⟩ (Or.inl ⟨rfl, fun W' hW => by obtain ⟨q0, q1⟩ := hW; go_simp⟩) ?_
            refine wpAnyT_take (i := 3) (v := .int .i64 (p : Int)) rfl (by kernel_rfl) (fun _ _ _ h => h) ⟨x0, hcut⟩ (Or.inl ⟨rfl, fun W' hW => by obtain ⟨q0, q1⟩ := hW; go_simp⟩) ?_
            refine wpAnyT_take (i := 4) (v := .int .i64 (p : Int)) rfl (by kernel_rfl) (fun _ _ _ h => h) ⟨x0, hcut⟩ (Or.inl ⟨rfl, fun W' hW => by obtain ⟨q0, q1⟩ := hW; go_simp⟩) ?_
            refine wpAnyT_take (i := 5) (v := .int .i64 ((p : Int) + 32)) rfl (by kernel_rfl) (fun _ _ _ h => h) ⟨x0, hcut⟩ (Or.inl ⟨rfl, fun W' hW => by obtain ⟨q0, q1⟩ := hW; go_simp⟩) ?_
            refine wpAnyT_take (i := 6) (v := .slice R 32 (c - p)) rfl (by kernel_rfl) (fun _ _ _ h => h) ⟨x0, hcut⟩ (Or.inl ⟨rfl, fun W' hW => by obtain ⟨q0, q1⟩ := hW; go_simp⟩) ?_
            refine wpAnyT_take (i := 7) (v := .string ⟨t.toArray⟩) rfl (by kernel_rfl) (fun _ _ _ h => h) ⟨x0, hcut⟩ (Or.inl ⟨rfl, fun W' hW => by
              have kc := run_string_seg (P := Tryd.prog) W' 29 9 5 bt Tryd.underlying9 R 32 (c - p) t hW.2
              go_simp⟩) ?_
            refine wpAnyT_step 8 rfl (by decide +kernel) ?_
            go_wp2_with fail
            have hal := Only.alloc_ w5 (.cells #[.string ⟨t.toArray⟩] 9) (fun _ => False)
            have y0 := hal.cell x0 id
            refine ⟨.inr ⟨y0, hcut.only hal (fun _ _ _ => id)⟩, ?_⟩
            have hov6 := hov.only hal (fun _ _ => id)
            refine wpAnyT_step 9 rfl (by decide +kernel) ?_
            refine wpList_append_G _ rfl (.tmp 34) (.tmp 41) _ _ _ _ strT rfl (b0 + 3) (.slice Av j cv) ds rfl hov6 _ 1 1 [⟨t.toArray⟩] rfl (SegG.newAt _ _ _ _ _ _ rfl rfl rfl) (by rw [hdl]; omega) (by simp; omega) ?_
            intro v6 w6 hv6 hg6 hat6
            have hon : Only w5 w6 (fun k => b0 + 3 ≤ k) := (hal.mono (fun _ _ h => h.elim)).trans (Only.of_grown (S := fun k => b0 + 3 ≤ k) hg6 (fun k hk => (hov6.lt k hk).1)) (fun _ _ h => h)
            have hq0 := hq0.only hon (by omega)
            have hq1 := hq1.only hon (by omega)
            have hq2 := hq2.only hon (by omega)
            have x6 := hq2.c0
            have xf6 := hq2.fr 0
            have hoo6 := hoo.trans hon (fun i hi h => by omega)
            have hcut6 : Seg w6 R 32 t := (hcut.only hal (fun _ _ _ => id)).only (Only.of_grown (S := fun k => b0 + 3 ≤ k) hg6 (fun k hk => (hov6.lt k hk).1)) (fun hp a e h => by
              have := hcutlt a e
              omega)
            clear hg6 hat6 hov6 hov hon hal y0 hcut hoo x0 xf
            obtain ⟨A6, c6, hve, _, _, _⟩ := hv6.forms
            have hd6 : (ds ++ [(⟨t.toArray⟩ : ByteArray)]).length = j + 1 := by rw [List.length_append, hdl]; rfl
            rw [hd6] at hve
            subst hve
            go_wp2_with fail
            refine ⟨.inr ⟨x6, hcut6⟩, ?_⟩
            refine wpAnyT_step 10 rfl (by decide +kernel) ?_
            go_wp2_with fail
            refine ⟨.inr ⟨x6, hcut6⟩, ?_⟩
            refine wpAnyT_step 11 rfl (by decide +kernel) ?_
            go_wp2_with fail
            refine ⟨.inl trivial, ?_⟩
            refine wpAnyT_done (by decide +kernel) (NoPanic.normal ?_)
            go_wp2
            go_roundw
            case rel =>
              have hs1 := only_setB w6 ⟨b0 + 1 + 1, 0, none⟩ (.slice A6 (j + 1) c6)
              refine ⟨j + 1, ds ++ [⟨t.toArray⟩], _, by omega, by go_num, ?_, ?_, ?_, ?_, hq0.only hs1 ?_, hq1.only hs1 ?_, hq2.set0 _, hv6.only hs1 ?_, hoo6.trans hs1 ?_⟩
              · rw [show 2 + 32 * (j + 1) = p + 32 by omega]
                go_num
              · omega
              · rw [HNX.out, show 2 + 32 * (j + 1) = p + 32 by omega]
              · exact hd6
              · show ¬ b0 = b0 + 1 + 1
                omega
              · show ¬ b0 + 1 = b0 + 1 + 1
                omega
              · intro k hk (e : k = b0 + 1 + 1)
                have := (hv6.lt k hk).1
                omega
              · exact fun _ _ h => h
            case measure => simp [intOf]; omega
        · have d5 : decide ((j : Int) < (N : Int)) = false := decide_eq_false (by omega)
          obtain rfl : N = j := by omega
          have hpsd : psides (l, 0) = (ds, (l.drop p, 0)) := by rw [psides_of (by rw [HLN.out]; omega) (by rw [HN.out]; omega), HN.out, hps]
          clear hps
          by_cases hpn : n ≤ p
          · have d6 : decide ((n : Int) ≤ (p : Int)) = true := decide_eq_true (by omega)
            obtain rfl : Z = (Pf.none, 3) := by
              rw [← HZ.out]
              rw [List.drop_eq_nil_of_le (by rw [HLN.out]; exact hpn)] at hpsd
              exact pdec_nokind hpsd
            obtain ⟨x0, x1, x2, x3, xf⟩ := hq0
            have xf0 := xf 0
            have xf1 := xf 1
            have xf2 := xf 2
            have xf3 := xf 3
            have hq0 : Bx wl b0 _ _ _ _ := ⟨x0, x1, x2, x3, xf⟩
            obtain ⟨y0, y1, y2, y3, yf⟩ := hq1
            clear xf yf
            go_wp2
            obtain ⟨hf, hfo⟩ := hq0.set4 (.slice none 0 0) (.int .u8 0) (.string ⟨#[]⟩) (.slice none 0 0)
            refine bodyPost_ret (v := .tuple #[.agg #[.slice none 0 0, .int .u8 0, .string ⟨#[]⟩, .slice none 0 0], .int .i64 3]) (by simp [results, Tryd.results59, go_sem, hf.c0, hf.c1, hf.c2, hf.c3]) rfl ⟨_, rfl, ⟨_, _, rfl, OwnG.nil _ _ _, Own.nil _ _ _⟩, ?_⟩
            exact hfo.below hbw (fun k e => by omega) (by omega)
          · have d6 : decide ((n : Int) ≤ (p : Int)) = false := decide_eq_false (by omega)
            obtain ⟨g, o, rfl, hcp⟩ := hs.at_ (k := p) (by omega)
            obtain ⟨b, hb⟩ : ∃ b, l[p]'(by rw [HLN.out]; omega) = b := ⟨_, rfl⟩
            rw [hb] at hcp
            have hdp : l.drop p = b :: l.drop (p + 1) := by rw [List.drop_eq_getElem_cons (by rw [HLN.out]; omega), hb]
            rw [hdp] at hpsd
            have HPS := Lib.hid hpsd
            have hgb : g < b0 := HLT3.out (by omega) _ rfl
            obtain ⟨p1, hp1⟩ : ∃ p1, p + 1 = p1 := ⟨_, rfl⟩
            have hpi : (p : Int) + 1 = (p1 : Int) := by omega
            have wp1 : IntKind.i64.wrap (p1 : Int) = (p1 : Int) := IntWalk.i64_in _ (by omega)
            rw [hp1] at hdp
            have hp1n : p1 ≤ n := by omega
            have HP1 := Lib.hid hp1
            clear hb hdp hpsd
            obtain ⟨z0, z1, z2, z3, zf⟩ := hq2
            have zf1 := zf 1
            have hq2 : Bx wl (b0 + 1 + 1) _ _ _ _ := ⟨z0, z1, z2, z3, zf⟩
            clear zf
            have hs1 := only_setB wl ⟨b0 + 1 + 1, 1, none⟩ (.int .u8 (b.toNat : Int))
            have hq0' := hq0.only hs1 (by show ¬ b0 = b0 + 1 + 1; omega)
            have hq1' := hq1.only hs1 (by show ¬ b0 + 1 = b0 + 1 + 1; omega)
            have hq2' := hq2.set1 (.int .u8 (b.toNat : Int))
            have hov' := hov.only hs1 (fun k hk (e : k = b0 + 1 + 1) => by have := (hov.lt k hk).1; omega)
            have hbw' : Below b0 w _ := hs1.below hbw (fun k (e : k = b0 + 1 + 1) => by omega) (by omega)
            have hsx := hs.only hs1 (fun _ a ha (e : a.block = b0 + 1 + 1) => by injection ha with ha; subst ha; have e : g = b0 + 1 + 1 := e; omega)
            have hzx : b0 + 3 ≤ (wl.setCell ⟨b0 + 1 + 1, 1, none⟩ (.int .u8 (b.toNat : Int))).heap.size := by simp [World.setCell]; omega
            by_cases hb2 : 2 < b.toNat
            · have d7 : decide ((2 : Int) < (b.toNat : Int)) = true := decide_eq_true (by omega)
              obtain rfl : Z = (Pf.none, 2) := by rw [← HZ.out, pdec_kind HPS.out hb2]
              obtain ⟨x0, x1, x2, x3, xf⟩ := hq0'
              have xf0 := xf 0
              have xf1 := xf 1
              have xf2 := xf 2
              have xf3 := xf 3
              have hq0 : Bx (wl.setCell ⟨b0 + 1 + 1, 1, none⟩ (.int .u8 (b.toNat : Int))) b0 _ _ _ _ := ⟨x0, x1, x2, x3, xf⟩
              obtain ⟨y0, y1, y2, y3, yf⟩ := hq1'
              clear xf yf
              go_wp2
              obtain ⟨hf, hfo⟩ := hq0.set4 (.slice none 0 0) (.int .u8 0) (.string ⟨#[]⟩) (.slice none 0 0)
              refine bodyPost_ret (v := .tuple #[.agg #[.slice none 0 0, .int .u8 0, .string ⟨#[]⟩, .slice none 0 0], .int .i64 2]) (by simp [results, Tryd.results59, go_sem, hf.c0, hf.c1, hf.c2, hf.c3]) rfl ⟨_, rfl, ⟨_, _, rfl, OwnG.nil _ _ _, Own.nil _ _ _⟩, ?_⟩
              exact hfo.below hbw' (fun k e => by omega) (by omega)
            · have d7 : decide ((2 : Int) < (b.toNat : Int)) = false := decide_eq_false (by omega)
              have HPF := Lib.hid (ppf_of HPS.out (by omega))
              clear hq0 hq1 hq2 hov hbw hoo hs1 hs
              rw [hp1] at HPF
              by_cases hbz : b.toNat = 0
              · have e2 : ((b.toNat : Int) == 2) = false := by simp; omega
                have e0 : decide ((0 : Int) < (b.toNat : Int)) = false := decide_eq_false (by omega)
                have hpf := HPF.out
                rw [if_neg (by omega), if_neg (by omega)] at hpf
                have HBZ := Lib.hid hbz
                have f1 : ¬ (0 < b.toNat) := by omega
                have f2 : ¬ (b.toNat = 2) := by omega
                have f3 : (b.toNat == 2) = false := by simp; exact f2
                clear hbz
                by_cases hend : p1 < n
                · have d9 : decide ((p1 : Int) < (n : Int)) = true := decide_eq_true (by omega)
                  obtain rfl : Z = (Pf.none, 2) := by
                    rw [← HZ.out, pdec_done hpf, if_neg (fun h => by have := congrArg List.length h; rw [List.length_drop, HLN.out] at this; simp at this; omega)]
                  obtain ⟨x0, x1, x2, x3, xf⟩ := hq0'
                  have xf0 := xf 0
                  have xf1 := xf 1
                  have xf2 := xf 2
                  have xf3 := xf 3
                  have hqz : Bx (wl.setCell ⟨b0 + 1 + 1, 1, none⟩ (.int .u8 (b.toNat : Int))) b0 _ _ _ _ := ⟨x0, x1, x2, x3, xf⟩
                  obtain ⟨y0, y1, y2, y3, yf⟩ := hq1'
                  clear xf yf
                  go_wp2
                  obtain ⟨hf, hfo⟩ := hqz.set4 (.slice none 0 0) (.int .u8 0) (.string ⟨#[]⟩) (.slice none 0 0)
                  refine bodyPost_ret (v := .tuple #[.agg #[.slice none 0 0, .int .u8 0, .string ⟨#[]⟩, .slice none 0 0], .int .i64 2]) (by simp [results, Tryd.results59, go_sem, hf.c0, hf.c1, hf.c2, hf.c3]) rfl ⟨_, rfl, ⟨_, _, rfl, OwnG.nil _ _ _, Own.nil _ _ _⟩, ?_⟩
                  exact hfo.below hbw' (fun k e => by omega) (by omega)
                · have d9 : decide ((p1 : Int) < (n : Int)) = false := decide_eq_false (by omega)
                  have hZ : Z = (⟨ds, b.toNat, ⟨#[]⟩, []⟩, 0) := by
                    rw [← HZ.out, pdec_done hpf, if_pos (List.drop_eq_nil_of_le (by rw [HLN.out]; omega))]
                  subst hZ
                  obtain ⟨x0, x1, x2, x3, xf⟩ := hq0'
                  have xf0 := xf 0
                  have xf1 := xf 1
                  have xf2 := xf 2
                  have xf3 := xf 3
                  have hqz : Bx (wl.setCell ⟨b0 + 1 + 1, 1, none⟩ (.int .u8 (b.toNat : Int))) b0 _ _ _ _ := ⟨x0, x1, x2, x3, xf⟩
                  obtain ⟨y0, y1, y2, y3, yf⟩ := hq2'
                  clear xf yf
                  go_wp2
                  obtain ⟨hf, hfo⟩ := hqz.set4 (.slice Av N cv) (.int .u8 (b.toNat : Int)) (.string ⟨#[]⟩) (.slice none 0 0)
                  refine bodyPost_ret (v := .tuple #[.agg #[.slice Av N cv, .int .u8 (b.toNat : Int), .string ⟨#[]⟩, (.slice none 0 0)], .int .i64 0]) (by simp [results, Tryd.results59, go_sem, hf.c0, hf.c1, hf.c2, hf.c3]) rfl ⟨_, rfl, ⟨_, _, rfl, ((hov').only hfo (fun k hk e => by have := ((hov').lt k hk).1; omega)).mono (by omega), Own.nil _ _ _⟩, ?_⟩
                  exact hfo.below hbw' (fun k e => by omega) (by omega)
              · have e0 : decide ((0 : Int) < (b.toNat : Int)) = true := decide_eq_true (by omega)
                by_cases hb1 : b.toNat = 1
                · have e2 : ((b.toNat : Int) == 2) = false := by simp; omega
                  have hpf := HPF.out
                  rw [if_neg (by omega), if_pos hb1] at hpf
                  have hpf2 : ppf (l, 0) = (⟨ds, b.toNat, ⟨#[]⟩, (ptx (l.drop p1, 0)).1⟩, (ptx (l.drop p1, 0)).2) := by rw [hpf, hb1]
                  have f1 : 0 < b.toNat := by omega
                  have f2 : ¬ (b.toNat = 2) := by omega
                  have f3 : (b.toNat == 2) = false := by simp; exact f2
                  clear hpf hbz hb1 HPF
                  go_wp2_with fail
                  generalize (wl.setCell ⟨b0 + 1 + 1, 1, none⟩ (.int .u8 (b.toNat : Int))) = wa at *
                  have hT := rtext_any (some ⟨g, o, none⟩) n c l p1 wa hsx hnc HCM.out hn (by omega)
                  generalize ptx (l.drop p1, 0) = U at *
                  obtain ⟨tt7, rr7, ee7⟩ := U
                  dsimp only at *
                  refine hT.mono ?_
                  rintro _ w7 ⟨v7, x7, rfl, ho7, hb7, hk7⟩
                  clear hT
                  have hz7 := hb7.size
                  have hq0_7 := hq0'.below hb7
                  have hq1_7 := hq1'.below hb7
                  have hq2_7 := hq2'.below hb7
                  have hov_7 := hov'.below hb7
                  have hbw_7 := Below.next' hbw' hb7 (by omega)
                  have hs_7 := hsx.below hb7
                  have ho7 := ho7.mono (b := b0 + 3) (by omega)
                  clear hq0' hq1' hq2' hov' hbw' hsx hb7
                  have HPF2 := Lib.hid hpf2
                  clear hpf2
                  obtain ⟨A7, c7, rfl, _, _, _⟩ := ho7.forms
                  obtain ⟨u0, u1, u2, u3, uf⟩ := hq2_7
                  have uf3 := uf 3
                  have hq2_7 : Bx w7 (b0 + 1 + 1) _ _ _ _ := ⟨u0, u1, u2, u3, uf⟩
                  clear uf
                  have hs1 := only_setB w7 ⟨b0 + 1 + 1, 3, none⟩ (.slice A7 tt7.length c7)
                  have hq0_7' := hq0_7.only hs1 (by show ¬ b0 = b0 + 1 + 1; omega)
                  have hq1_7' := hq1_7.only hs1 (by show ¬ b0 + 1 = b0 + 1 + 1; omega)
                  have hq2_7' := hq2_7.set3 (.slice A7 tt7.length c7)
                  have hov_7' := hov_7.only hs1 (fun k hk (e : k = b0 + 1 + 1) => by have := (hov_7.lt k hk).1; omega)
                  have ho7' := ho7.only hs1 (fun k hk (e : k = b0 + 1 + 1) => by have := (ho7.lt k hk).1; omega)
                  have hbw_7' : Below b0 w _ := hs1.below hbw_7 (fun k (e : k = b0 + 1 + 1) => by omega) (by omega)
                  have hzx7 : b0 + 3 ≤ (w7.setCell ⟨b0 + 1 + 1, 3, none⟩ (.slice A7 tt7.length c7)).heap.size := by simp [World.setCell]; omega
                  clear hq0_7 hq1_7 hq2_7 hov_7 hbw_7 hs_7 hs1 ho7
                  by_cases he7 : ee7 = 0
                  · subst he7
                    obtain ⟨k7, rfl, hk7n, hr7⟩ := hk7 rfl
                    dsimp only at hr7
                    subst hr7
                    by_cases hend : k7 < n
                    · have d9 : decide ((k7 : Int) < (n : Int)) = true := decide_eq_true (by omega)
                      obtain rfl : Z = (Pf.none, 2) := by
                        rw [← HZ.out, pdec_done HPF2.out, if_neg (fun h => by have := congrArg List.length h; rw [List.length_drop, HLN.out] at this; simp at this; omega)]
                      obtain ⟨x0, x1, x2, x3, xf⟩ := hq0_7'
                      have xf0 := xf 0
                      have xf1 := xf 1
                      have xf2 := xf 2
                      have xf3 := xf 3
                      have hqz : Bx (w7.setCell ⟨b0 + 1 + 1, 3, none⟩ (.slice A7 tt7.length c7)) b0 _ _ _ _ := ⟨x0, x1, x2, x3, xf⟩
                      obtain ⟨y0, y1, y2, y3, yf⟩ := hq1_7'
                      clear xf yf
                      go_wp2
                      obtain ⟨hf, hfo⟩ := hqz.set4 (.slice none 0 0) (.int .u8 0) (.string ⟨#[]⟩) (.slice none 0 0)
                      refine bodyPost_ret (v := .tuple #[.agg #[.slice none 0 0, .int .u8 0, .string ⟨#[]⟩, .slice none 0 0], .int .i64 2]) (by simp [results, Tryd.results59, go_sem, hf.c0, hf.c1, hf.c2, hf.c3]) rfl ⟨_, rfl, ⟨_, _, rfl, OwnG.nil _ _ _, Own.nil _ _ _⟩, ?_⟩
                      exact hfo.below hbw_7' (fun k e => by omega) (by omega)
                    · have d9 : decide ((k7 : Int) < (n : Int)) = false := decide_eq_false (by omega)
                      have hZ : Z = (⟨ds, b.toNat, ⟨#[]⟩, tt7⟩, 0) := by
                        rw [← HZ.out, pdec_done HPF2.out, if_pos (List.drop_eq_nil_of_le (by rw [HLN.out]; omega))]
                      subst hZ
                      obtain ⟨x0, x1, x2, x3, xf⟩ := hq0_7'
                      have xf0 := xf 0
                      have xf1 := xf 1
                      have xf2 := xf 2
                      have xf3 := xf 3
                      have hqz : Bx (w7.setCell ⟨b0 + 1 + 1, 3, none⟩ (.slice A7 tt7.length c7)) b0 _ _ _ _ := ⟨x0, x1, x2, x3, xf⟩
                      obtain ⟨y0, y1, y2, y3, yf⟩ := hq2_7'
                      clear xf yf
                      go_wp2
                      obtain ⟨hf, hfo⟩ := hqz.set4 (.slice Av N cv) (.int .u8 (b.toNat : Int)) (.string ⟨#[]⟩) (.slice A7 tt7.length c7)
                      refine bodyPost_ret (v := .tuple #[.agg #[.slice Av N cv, .int .u8 (b.toNat : Int), .string ⟨#[]⟩, (.slice A7 tt7.length c7)], .int .i64 0]) (by simp [results, Tryd.results59, go_sem, hf.c0, hf.c1, hf.c2, hf.c3]) rfl ⟨_, rfl, ⟨_, _, rfl, ((hov_7').only hfo (fun k hk e => by have := ((hov_7').lt k hk).1; omega)).mono (by omega), (ho7'.only hfo (fun k hk e => by have := (ho7'.lt k hk).1; omega)).mono (by omega)⟩, ?_⟩
                      exact hfo.below hbw_7' (fun k e => by omega) (by omega)
                  · have hne7 : ((ee7 : Int) != 0) = true := by simp; omega
                    obtain rfl : Z = (Pf.none, ee7) := by rw [← HZ.out]; exact pdec_err (by rw [HPF2.out]) he7
                    obtain ⟨x0, x1, x2, x3, xf⟩ := hq0_7'
                    have xf0 := xf 0
                    have xf1 := xf 1
                    have xf2 := xf 2
                    have xf3 := xf 3
                    have hqz : Bx (w7.setCell ⟨b0 + 1 + 1, 3, none⟩ (.slice A7 tt7.length c7)) b0 _ _ _ _ := ⟨x0, x1, x2, x3, xf⟩
                    obtain ⟨y0, y1, y2, y3, yf⟩ := hq1_7'
                    clear xf yf
                    go_wp2
                    obtain ⟨hf, hfo⟩ := hqz.set4 (.slice none 0 0) (.int .u8 0) (.string ⟨#[]⟩) (.slice none 0 0)
                    refine bodyPost_ret (v := .tuple #[.agg #[.slice none 0 0, .int .u8 0, .string ⟨#[]⟩, .slice none 0 0], .int .i64 ee7]) (by simp [results, Tryd.results59, go_sem, hf.c0, hf.c1, hf.c2, hf.c3]) rfl ⟨_, rfl, ⟨_, _, rfl, OwnG.nil _ _ _, Own.nil _ _ _⟩, ?_⟩
                    exact hfo.below hbw_7' (fun k e => by omega) (by omega)
                · have hb2' : b.toNat = 2 := by omega
                  have e2 : ((b.toNat : Int) == 2) = true := by simp; omega
                  have hpf := HPF.out
                  rw [if_pos hb2'] at hpf
                  have hpf2 : ppf (l, 0) = (⟨ds, b.toNat, ⟨(ptx (l.drop p1, 0)).1.toArray⟩, (ptx (ptx (l.drop p1, 0)).2).1⟩, (ptx (ptx (l.drop p1, 0)).2).2) := by rw [hpf, hb2']
                  have f1 : 0 < b.toNat := by omega
                  have f3 : (b.toNat == 2) = true := by simp; exact hb2'
                  clear hpf hbz hb1 HPF hb2'
                  go_wp2_with fail
                  generalize (wl.setCell ⟨b0 + 1 + 1, 1, none⟩ (.int .u8 (b.toNat : Int))) = wa at *
                  have hT := rtext_any (some ⟨g, o, none⟩) n c l p1 wa hsx hnc HCM.out hn (by omega)
                  generalize ptx (l.drop p1, 0) = U at *
                  obtain ⟨tt6, rr6, ee6⟩ := U
                  dsimp only at *
                  refine hT.mono ?_
                  rintro _ w6 ⟨v6, x6, rfl, ho6, hb6, hk6⟩
                  clear hT
                  have hz6 := hb6.size
                  have hq0_6 := hq0'.below hb6
                  have hq1_6 := hq1'.below hb6
                  have hq2_6 := hq2'.below hb6
                  have hov_6 := hov'.below hb6
                  have hbw_6 := Below.next' hbw' hb6 (by omega)
                  have hs_6 := hsx.below hb6
                  have ho6 := ho6.mono (b := b0 + 3) (by omega)
                  clear hq0' hq1' hq2' hov' hbw' hsx hb6
                  have HPF2 := Lib.hid hpf2
                  clear hpf2
                  by_cases he6 : ee6 = 0
                  · subst he6
                    obtain ⟨k6, rfl, hk6n, hr6⟩ := hk6 rfl
                    dsimp only at hr6
                    subst hr6
                    obtain ⟨u0, u1, u2, u3, uf⟩ := hq2_6
                    have uf2 := uf 2
                    have hq2_6 : Bx w6 (b0 + 1 + 1) _ _ _ _ := ⟨u0, u1, u2, u3, uf⟩
                    clear uf
                    obtain ⟨A6, c6, rfl, hs6', _, _⟩ := ho6.forms
                    have kc := run_string_seg (P := Tryd.prog) w6 29 9 5 bt Tryd.underlying9 A6 _ c6 _ hs6'
                    obtain ⟨key, hkey⟩ : ∃ key : ByteArray, (⟨tt6.toArray⟩ : ByteArray) = key := ⟨_, rfl⟩
                    rw [hkey] at kc
                    have hs1 := only_setB w6 ⟨b0 + 1 + 1, 2, none⟩ (.string key)
                    have hq0_6' := hq0_6.only hs1 (by show ¬ b0 = b0 + 1 + 1; omega)
                    have hq1_6' := hq1_6.only hs1 (by show ¬ b0 + 1 = b0 + 1 + 1; omega)
                    have hq2_6' := hq2_6.set2 (.string key)
                    have hov_6' := hov_6.only hs1 (fun k hk (e : k = b0 + 1 + 1) => by have := (hov_6.lt k hk).1; omega)
                    have hbw_6' : Below b0 w _ := hs1.below hbw_6 (fun k (e : k = b0 + 1 + 1) => by omega) (by omega)
                    have hsx6 := hs_6.only hs1 (fun _ a ha (e : a.block = b0 + 1 + 1) => by injection ha with ha; subst ha; have e : g = b0 + 1 + 1 := e; omega)
                    have hzx6 : b0 + 3 ≤ (w6.setCell ⟨b0 + 1 + 1, 2, none⟩ (.string key)).heap.size := by simp [World.setCell]; omega
                    have HPF3 := Lib.hid (show ppf (l, 0) = (⟨ds, b.toNat, key, (ptx (l.drop k6, 0)).1⟩, (ptx (l.drop k6, 0)).2) by rw [HPF2.out, hkey])
                    clear hq0_6 hq1_6 hq2_6 hov_6 hbw_6 hs_6 hs1 ho6 HPF2 hkey
                    go_wp2_with fail
                    clear kc hs6'
                    generalize w6.setCell ⟨b0 + 1 + 1, 2, none⟩ (.string key) = wb at *
                    have hT := rtext_any (some ⟨g, o, none⟩) n c l k6 wb hsx6 hnc HCM.out hn (by omega)
                    generalize ptx (l.drop k6, 0) = U at *
                    obtain ⟨tt7, rr7, ee7⟩ := U
                    dsimp only at *
                    refine hT.mono ?_
                    rintro _ w7 ⟨v7, x7, rfl, ho7, hb7, hk7⟩
                    clear hT
                    have hz7 := hb7.size
                    have hq0_7 := hq0_6'.below hb7
                    have hq1_7 := hq1_6'.below hb7
                    have hq2_7 := hq2_6'.below hb7
                    have hov_7 := hov_6'.below hb7
                    have hbw_7 := Below.next' hbw_6' hb7 (by omega)
                    have hs_7 := hsx6.below hb7
                    have ho7 := ho7.mono (b := b0 + 3) (by omega)
                    clear hq0_6' hq1_6' hq2_6' hov_6' hbw_6' hsx6 hb7
                    obtain ⟨A7, c7, rfl, _, _, _⟩ := ho7.forms
                    obtain ⟨u0, u1, u2, u3, uf⟩ := hq2_7
                    have uf3 := uf 3
                    have hq2_7 : Bx w7 (b0 + 1 + 1) _ _ _ _ := ⟨u0, u1, u2, u3, uf⟩
                    clear uf
                    have hs1 := only_setB w7 ⟨b0 + 1 + 1, 3, none⟩ (.slice A7 tt7.length c7)
                    have hq0_7' := hq0_7.only hs1 (by show ¬ b0 = b0 + 1 + 1; omega)
                    have hq1_7' := hq1_7.only hs1 (by show ¬ b0 + 1 = b0 + 1 + 1; omega)
                    have hq2_7' := hq2_7.set3 (.slice A7 tt7.length c7)
                    have hov_7' := hov_7.only hs1 (fun k hk (e : k = b0 + 1 + 1) => by have := (hov_7.lt k hk).1; omega)
                    have ho7' := ho7.only hs1 (fun k hk (e : k = b0 + 1 + 1) => by have := (ho7.lt k hk).1; omega)
                    have hbw_7' : Below b0 w _ := hs1.below hbw_7 (fun k (e : k = b0 + 1 + 1) => by omega) (by omega)
                    have hzx7 : b0 + 3 ≤ (w7.setCell ⟨b0 + 1 + 1, 3, none⟩ (.slice A7 tt7.length c7)).heap.size := by simp [World.setCell]; omega
                    clear hq0_7 hq1_7 hq2_7 hov_7 hbw_7 hs_7 hs1 ho7
                    by_cases he7 : ee7 = 0
                    · subst he7
                      obtain ⟨k7, rfl, hk7n, hr7⟩ := hk7 rfl
                      dsimp only at hr7
                      subst hr7
                      by_cases hend : k7 < n
                      · have d9 : decide ((k7 : Int) < (n : Int)) = true := decide_eq_true (by omega)
                        obtain rfl : Z = (Pf.none, 2) := by
                          rw [← HZ.out, pdec_done HPF3.out, if_neg (fun h => by have := congrArg List.length h; rw [List.length_drop, HLN.out] at this; simp at this; omega)]
                        obtain ⟨x0, x1, x2, x3, xf⟩ := hq0_7'
                        have xf0 := xf 0
                        have xf1 := xf 1
                        have xf2 := xf 2
                        have xf3 := xf 3
                        have hqz : Bx (w7.setCell ⟨b0 + 1 + 1, 3, none⟩ (.slice A7 tt7.length c7)) b0 _ _ _ _ := ⟨x0, x1, x2, x3, xf⟩
                        obtain ⟨y0, y1, y2, y3, yf⟩ := hq1_7'
                        clear xf yf
                        go_wp2
                        obtain ⟨hf, hfo⟩ := hqz.set4 (.slice none 0 0) (.int .u8 0) (.string ⟨#[]⟩) (.slice none 0 0)
                        refine bodyPost_ret (v := .tuple #[.agg #[.slice none 0 0, .int .u8 0, .string ⟨#[]⟩, .slice none 0 0], .int .i64 2]) (by simp [results, Tryd.results59, go_sem, hf.c0, hf.c1, hf.c2, hf.c3]) rfl ⟨_, rfl, ⟨_, _, rfl, OwnG.nil _ _ _, Own.nil _ _ _⟩, ?_⟩
                        exact hfo.below hbw_7' (fun k e => by omega) (by omega)
                      · have d9 : decide ((k7 : Int) < (n : Int)) = false := decide_eq_false (by omega)
                        have hZ : Z = (⟨ds, b.toNat, key, tt7⟩, 0) := by
                          rw [← HZ.out, pdec_done HPF3.out, if_pos (List.drop_eq_nil_of_le (by rw [HLN.out]; omega))]
                        subst hZ
                        obtain ⟨x0, x1, x2, x3, xf⟩ := hq0_7'
                        have xf0 := xf 0
                        have xf1 := xf 1
                        have xf2 := xf 2
                        have xf3 := xf 3
                        have hqz : Bx (w7.setCell ⟨b0 + 1 + 1, 3, none⟩ (.slice A7 tt7.length c7)) b0 _ _ _ _ := ⟨x0, x1, x2, x3, xf⟩
                        obtain ⟨y0, y1, y2, y3, yf⟩ := hq2_7'
                        clear xf yf
                        go_wp2
                        obtain ⟨hf, hfo⟩ := hqz.set4 (.slice Av N cv) (.int .u8 (b.toNat : Int)) (.string key) (.slice A7 tt7.length c7)
                        refine bodyPost_ret (v := .tuple #[.agg #[.slice Av N cv, .int .u8 (b.toNat : Int), .string key, (.slice A7 tt7.length c7)], .int .i64 0]) (by simp [results, Tryd.results59, go_sem, hf.c0, hf.c1, hf.c2, hf.c3]) rfl ⟨_, rfl, ⟨_, _, rfl, ((hov_7').only hfo (fun k hk e => by have := ((hov_7').lt k hk).1; omega)).mono (by omega), (ho7'.only hfo (fun k hk e => by have := (ho7'.lt k hk).1; omega)).mono (by omega)⟩, ?_⟩
                        exact hfo.below hbw_7' (fun k e => by omega) (by omega)
                    · have hne7 : ((ee7 : Int) != 0) = true := by simp; omega
                      obtain rfl : Z = (Pf.none, ee7) := by rw [← HZ.out]; exact pdec_err (by rw [HPF3.out]) he7
                      obtain ⟨x0, x1, x2, x3, xf⟩ := hq0_7'
                      have xf0 := xf 0
                      have xf1 := xf 1
                      have xf2 := xf 2
                      have xf3 := xf 3
                      have hqz : Bx (w7.setCell ⟨b0 + 1 + 1, 3, none⟩ (.slice A7 tt7.length c7)) b0 _ _ _ _ := ⟨x0, x1, x2, x3, xf⟩
                      obtain ⟨y0, y1, y2, y3, yf⟩ := hq1_7'
                      clear xf yf
                      go_wp2
                      obtain ⟨hf, hfo⟩ := hqz.set4 (.slice none 0 0) (.int .u8 0) (.string ⟨#[]⟩) (.slice none 0 0)
                      refine bodyPost_ret (v := .tuple #[.agg #[.slice none 0 0, .int .u8 0, .string ⟨#[]⟩, .slice none 0 0], .int .i64 ee7]) (by simp [results, Tryd.results59, go_sem, hf.c0, hf.c1, hf.c2, hf.c3]) rfl ⟨_, rfl, ⟨_, _, rfl, OwnG.nil _ _ _, Own.nil _ _ _⟩, ?_⟩
                      exact hfo.below hbw_7' (fun k e => by omega) (by omega)
                  · have hne6 : ((ee6 : Int) != 0) = true := by simp; omega
                    obtain rfl : Z = (Pf.none, ee6) := by
                      rw [← HZ.out]
                      refine pdec_err ?_ he6
                      rw [HPF2.out, ptx_err (s := (rr6, ee6)) he6]
                    obtain ⟨x0, x1, x2, x3, xf⟩ := hq0_6
                    have xf0 := xf 0
                    have xf1 := xf 1
                    have xf2 := xf 2
                    have xf3 := xf 3
                    have hqz : Bx w6 b0 _ _ _ _ := ⟨x0, x1, x2, x3, xf⟩
                    obtain ⟨y0, y1, y2, y3, yf⟩ := hq1_6
                    clear xf yf
                    go_wp2
                    obtain ⟨hf, hfo⟩ := hqz.set4 (.slice none 0 0) (.int .u8 0) (.string ⟨#[]⟩) (.slice none 0 0)
                    refine bodyPost_ret (v := .tuple #[.agg #[.slice none 0 0, .int .u8 0, .string ⟨#[]⟩, .slice none 0 0], .int .i64 ee6]) (by simp [results, Tryd.results59, go_sem, hf.c0, hf.c1, hf.c2, hf.c3]) rfl ⟨_, rfl, ⟨_, _, rfl, OwnG.nil _ _ _, Own.nil _ _ _⟩, ?_⟩
                    exact hfo.below hbw_6 (fun k e => by omega) (by omega)

end Go.Proofs.YtpbjianhkjjgkaaDoor
