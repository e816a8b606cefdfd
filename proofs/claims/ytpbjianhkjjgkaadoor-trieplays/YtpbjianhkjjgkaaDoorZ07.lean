/-
  Texts of one claim, joined.
-/
import Derived.Test.YtpbjianhkjjgkaaDoorZ04
import Derived.Deep.RegionLaw
import Derived.Lib.Strings
import Derived.Lib.SmallJoins
import Derived.WideShapes
import Derived.Test.YtpbjianhkjjgkaaDoorZ01
import Derived.Test.YtpbjianhkjjgkaaDoorZ06
import Derived.Deep.RegionHeld3
namespace Go.Proofs.YtpbjianhkjjgkaaDoor
open Go.RowKit

theorem turn_z (x : BitVec 32) (z : Int) (w : World) (h0 : 0 < z) (h : z < 32) :
    Calls Tryd.prog 77 #[.int .u32 (U x), .int .i64 z] w fun e w' => e = .returned (.int .u32 (U (ror x z.toNat))) ∧ ∃ k, w' = w.drewN k :=
  turn_at x z z.toNat w (by omega) (by omega) (by omega)

set_option maxRecDepth 8000 in
set_option maxHeartbeats 4000000 in
theorem constants_any (w : World) :
    Calls Tryd.prog 74 #[] w fun e w' => e = .returned (.agg (cellsU kTab).toArray) ∧ Below w.heap.size w w' := by
  go_enter Tryd.func74, Tryd.ntmps74
  go_wp2_with (refine wpList_store_arr _ _ rfl (.tmp 0) (.tmp 1) _ _ _ at43 rfl _ _ rfl _ rfl rfl (run_storeCells_newAt _ _ _ kTab _ rfl sz43 rfl) ?_)
  refine bodyPost_ret (v := .agg (cellsU kTab).toArray) ?_ rfl ⟨rfl, ?_⟩
  · exact results_arr _ Tryd.results74 _ at43 _ _ rfl _ (run_loadCellsFrom_new _ _ _ _ rfl)
  · exact (Below.refl _ _).alloc (Nat.le_refl _) _

end Go.Proofs.YtpbjianhkjjgkaaDoor

namespace Go.Proofs.YtpbjianhkjjgkaaDoor
open Go.RowKit

set_option maxHeartbeats 400000 in
theorem num_any (n size : Nat) (w : World) (hsz : size ≤ 8) :
    Calls Tryd.prog 75 #[.int .u64 n, .int .i64 size] w fun e w' => ∃ v', e = .returned v' ∧ Own w' w.heap.size 5 v' (high n size) ∧ Below w.heap.size w w' := by
  go_enter Tryd.func75, Tryd.ntmps75
  go_wp2
  go_loopw [5, 6] (fun p i w' => ∃ (k : Nat) (d : List UInt8), k ≤ size ∧ i = .int .i64 k ∧ d ++ high n (size - k) = high n size ∧ d.length ≤ k ∧ Own w' w.heap.size 5 p d ∧ Below w.heap.size w w') (fun _ i _ => size - (intOf i).toNat)
  case atStart => exact ⟨0, [], Nat.zero_le _, rfl, rfl, by simp, Own.nil _ _ _, Below.refl _ _⟩
  case round =>
    obtain ⟨k, d, hk, rfl, he, hd, hod, hbw⟩ := hrel
    have HE := Lib.hid he
    clear he
    obtain ⟨A', c', rfl, hs', hlc', hcm'⟩ := hod.forms
    by_cases hlt : k < size
    · have es : size - k = (size - 1 - k) + 1 := by omega
      have ES := Lib.hid es
      clear es
      go_wp2_with (at_builtin
                   refine wpList_append_seg _ rfl (.tmp 12) (.tmp 21) _ _ bt rfl w.heap.size (.slice A' d.length c') d rfl (hod.alloc _) _ 1 1 [UInt8.ofNat (n / 2 ^ (8 * (size - 1 - k)))] rfl (Seg.one _ _ _ _ (high_byte n (size - 1 - k))) (by omega) (by have := hbw.size; simp; omega) ?_
                   intro v1 w1 hown1 hg1 hat1)
      go_roundw
      case rel =>
        refine ⟨k + 1, d ++ [UInt8.ofNat (n / 2 ^ (8 * (size - 1 - k)))], by omega, by go_num, ?_, by simp; omega, hown1, ?_⟩
        · rw [← HE.out, ES.out, show size - (k + 1) = size - 1 - k from by omega]
          simp [high]
        · exact below_grown (hbw.alloc hbw.size _) (hod.alloc _) hg1 (Nat.le_refl _) (by have := hbw.size; simp; omega)
      case measure => simp [intOf]; omega
    · go_wp2
      go_ret
      exact ⟨_, rfl, by have := HE.out; rw [Nat.sub_eq_zero_of_le (by omega)] at this; simp only [high, List.append_nil] at this; rw [← this]; exact hod, hbw⟩

set_option maxHeartbeats 400000 in
theorem read_any (A : Option Addr) (n c : Nat) (l : List UInt8) (w : World) (ha : Seg w A n l) (hn : n ≤ 8) :
    Calls Tryd.prog 76 #[.slice A n c] w fun e w' => e = .returned (.int .u64 (rdN l)) ∧ w = w' := by
  go_enter Tryd.func76, Tryd.ntmps76
  go_wp2
  go_loop [3, 4] (fun x i => ∃ k : Nat, k ≤ n ∧ i = .int .i64 k ∧ x = .int .u64 (rdN (l.take k))) (fun _ i => n - (intOf i).toNat)
  case atStart => exact ⟨0, by omega, rfl, rfl⟩
  case round =>
    obtain ⟨k, hk, rfl, rfl⟩ := hrel
    by_cases hlt : k < n
    · obtain ⟨g, o, rfl, hc⟩ := ha.at_ hlt
      have hk8 : (l.take k).length ≤ 7 := by rw [List.length_take]; omega
      have hlt7 := rdN_lt' (l.take k) 7 hk8
      have hts : rdN (l.take (k + 1)) = rdN (l.take k) * 256 + (l[k]'(by rw [ha.1]; exact hlt)).toNat := by
        rw [List.take_succ_eq_append_getElem (by rw [ha.1]; exact hlt), rdN_snoc]
      have HS := Lib.hid hts
      have HL := Lib.hid hlt7
      clear hts hlt7
      go_wp2
      go_round
      case rel =>
        refine ⟨k + 1, by omega, by go_num, ?_⟩
        rw [HS.out, sum_high _ _ (by have := HL.out; omega) (byte_lt _)]
      case measure => simp [intOf]; omega
    · go_wp2
      go_ret
      have e : l.take k = l := List.take_of_length_le (by rw [ha.1]; omega)
      exact ⟨by rw [e]; rfl, rfl⟩

theorem num_call (x z : Int) (w : World) (hx : 0 ≤ x) (h0 : 0 ≤ z) (hz : z ≤ 8) :
    Calls Tryd.prog 75 #[.int .u64 x, .int .i64 z] w fun e w' => ∃ v', e = .returned v' ∧ Own w' w.heap.size 5 v' (high x.toNat z.toNat) ∧ Below w.heap.size w w' := by
  obtain ⟨n, rfl⟩ := Int.eq_ofNat_of_zero_le hx
  obtain ⟨m, rfl⟩ := Int.eq_ofNat_of_zero_le h0
  exact num_any n m w (by omega)

end Go.Proofs.YtpbjianhkjjgkaaDoor

namespace Go.Proofs.YtpbjianhkjjgkaaDoor
open Go.RowKit

theorem U_ofNat_mod (r : Nat) : (r : Int) % 4294967296 = U (BitVec.ofNat 32 r) := by
  unfold U
  rw [BitVec.toNat_ofNat]
  omega
theorem U_ofNat_wrap (r : Nat) : IntKind.u32.wrap (r : Int) = U (BitVec.ofNat 32 r) := by rw [IntKind.wrap_u32', U_ofNat_mod]

/-- How many noughts are to come, by a slice's length. -/
def leftV : Value → Nat
  | .slice _ m _ => (120 - m % 64) % 64
  | _ => 0

set_option maxRecDepth 10000 in
set_option maxHeartbeats 40000000 in
theorem rsum_any (A : Option Addr) (n c : Nat) (l : List UInt8) (w : World) (ha : Seg w A n l) (hn : n ≤ 1000000) :
    Calls Tryd.prog 35 #[.slice A n c] w fun e w' => e = .returned (.string ⟨(sha l).toArray⟩) ∧ Below w.heap.size w w' := by
  have hln := ha.1
  have HLN := Lib.hid hln
  clear hln
  go_enter Tryd.func35, Tryd.ntmps35
  go_wp2_with fail
  refine (constants_any _).mono ?_
  rintro e w1 ⟨rfl, hb1⟩
  have H64 : Hid ((cellsU kTab).toArray.size = 64) := Lib.hid rfl
  have H64' : Hid (kTab.length = 64) := Lib.hid rfl
  have hk : ∀ W : World, ArU (W.alloc (.cells (cellsU kTab).toArray 111)) W.heap.size 0 kTab := fun W => ArU.new _ _ _ _ _ rfl rfl
  have HK := Lib.hid hk
  clear hk
  generalize hKT : kTab = KT at *
  have HKT := Lib.hid hKT
  clear hKT
  go_wp2_with (first
    | refine wpList_store_arr _ _ rfl (.tmp 3) (.tmp 23) _ _ _ at43 rfl _ _ rfl _ rfl H64.out (run_storeCells_newAt _ _ _ _ _ rfl (by rw [H64'.out]; exact sz43) (by rw [H64'.out]; rfl)) ?_
    | refine wpList_store_arr _ _ rfl (.tmp 4) (.tmp 24) _ _ _ at35 rfl _ _ rfl _ rfl rfl (run_storeCells_newAt _ _ _ iv.list _ (World.size_alloc _ _).symm sz35 rfl) ?_)
  have hb2 : Below w.heap.size w (((w1.alloc (.cells (cellsU KT).toArray 111)).alloc (.cells (cellsU iv.list).toArray 113)).alloc (.cells #[.int .u8 128] 5)) := ((hb1.alloc hb1.size _).alloc (by have := hb1.size; simp; omega) _).alloc (by have := hb1.size; simp; omega) _
  have hk0 : ArU (((w1.alloc (.cells (cellsU KT).toArray 111)).alloc (.cells (cellsU iv.list).toArray 113)).alloc (.cells #[.int .u8 128] 5)) w1.heap.size 0 KT := ((HK.out w1).alloc _).alloc _
  have hi0 : ArU (((w1.alloc (.cells (cellsU KT).toArray 111)).alloc (.cells (cellsU iv.list).toArray 113)).alloc (.cells #[.int .u8 128] 5)) (w1.heap.size + 1) 0 iv.list := (ArU.new _ _ _ _ _ (by simp) rfl).alloc _
  have hq0 : Seg (((w1.alloc (.cells (cellsU KT).toArray 111)).alloc (.cells (cellsU iv.list).toArray 113)).alloc (.cells #[.int .u8 128] 5)) (some ⟨w1.heap.size + 1 + 1, 0, none⟩) 1 [128] := Seg.oneAt _ _ _ _ _ (by simp) rfl
  have hbs := hb1.size
  have ha0 := ha.below hb2
  generalize ((w1.alloc (.cells (cellsU KT).toArray 111)).alloc (.cells (cellsU iv.list).toArray 113)).alloc (.cells #[.int .u8 128] 5) = W0 at *
  clear hb1 HK
  generalize w1.heap.size = b3 at *
  refine (join_any A _ n 1 c 1 l [128] W0 ha0 hq0 (by omega)).mono ?_
  rintro e w2 ⟨v2, rfl, ho2, hb3⟩
  obtain ⟨d0, hd0⟩ : ∃ d0, l ++ [128] = d0 := ⟨_, rfl⟩
  rw [hd0] at ho2
  have HD0 := Lib.hid hd0
  clear hd0
  obtain ⟨A2, c2, rfl, _, _, _⟩ := ho2.forms
  go_wp2_with fail
  go_loopw [5] (fun q w' => ∃ (k : Nat) (d : List UInt8), k ≤ zc n ∧ d = l ++ [128] ++ List.replicate k 0 ∧ Own w' W0.heap.size 5 q d ∧ Below W0.heap.size W0 w') (fun q _ => leftV q)
  case atStart => exact ⟨0, d0, by omega, by rw [← HD0.out]; simp, ho2, hb3⟩
  case round =>
    clear ho2 hb3
    obtain ⟨k, d, hk, hd, hod, hb3⟩ := hrel
    have hdl : d.length = n + 1 + k := by rw [hd]; simp [HLN.out]; omega
    obtain ⟨A', c', rfl, hs', hlc', hcm'⟩ := hod.forms
    have HD := Lib.hid hd
    clear hd
    by_cases h56 : (n + 1 + k) % 64 = 56
    · obtain rfl : k = zc n := zc_first _ _ h56 hk
      have hz := zc_lt n
      have t1 : ((d.length : Int) % 64 != 56) = false := by rw [hdl]; simp; omega
      have HDL := Lib.hid hdl
      have hdl' : d.length ≤ 1000065 := by omega
      clear hdl
      go_wp2_with fail
      refine (num_call _ _ wr (by omega) (by omega) (by omega)).mono ?_
      rintro e w3 ⟨v3, rfl, ho3, hb4⟩
      have e8 : (8 * (n : Int)).toNat = 8 * n := by omega
      rw [e8] at ho3
      change Own w3 wr.heap.size 5 v3 (high (8 * n) 8) at ho3
      have hl8 := high_length (8 * n) 8
      have HP : Hid (padded l = d ++ high (8 * n) 8) := by
        show padded l = d ++ high (8 * n) 8
        rw [HD.out, padded, HLN.out]
      generalize high (8 * n) 8 = h8 at *
      have HL8 := Lib.hid hl8
      clear e8 hl8
      obtain ⟨A3, c3, rfl, hs3, hlc3, hcm3⟩ := ho3.forms
      have hod3 := hod.below hb4
      have hb5 : Below W0.heap.size W0 w3 := Below.next' hb3 hb4 hb3.size
      have hsz5 := hb5.size
      clear hb4 ho3 hod hb3 hs'
      go_wp2_with (at_builtin
                   refine wpList_append_seg _ rfl (.tmp 35) (.tmp 40) _ _ bt rfl W0.heap.size (.slice A' d.length c') d rfl hod3 A3 _ c3 h8 rfl hs3 (by rw [HL8.out]; omega) hsz5 ?_
                   intro v4 w4 ho4 hg4 hat4)
      have hb6 : Below W0.heap.size W0 w4 := below_grown hb5 hod3 hg4 (Nat.le_refl _) hsz5
      obtain ⟨D, hD⟩ : ∃ D, d ++ h8 = D := ⟨_, rfl⟩
      rw [hD] at ho4
      have HP2 : Hid (padded l = D) := by
        show padded l = D
        rw [HP.out, hD]
      have hDl : D.length ≤ 1000200 := by rw [← hD, List.length_append, HL8.out]; omega
      have hDm : D.length % 64 = 0 := by rw [← HP2.out]; exact padded_mod l
      obtain ⟨N, hN⟩ : ∃ N, D.length = 64 * N := ⟨D.length / 64, by omega⟩
      have HN := Lib.hid hN
      have hN' : N ≤ 20000 := by omega
      have hDN : (D.length : Int) = 64 * (N : Int) := by omega
      have HDN := Lib.hid hDN
      clear hD hDm hN hg4 hat4 hod3 hb5 hs3 HP HD hDN
      have hlt4 := ho4.lt
      obtain ⟨A4, c4, rfl, hs4, hlc4, hcm4⟩ := ho4.forms
      have hbk : ArU w4 b3 0 KT := hk0.below hb6
      have hbi : ArU w4 (b3 + 1) 0 iv.list := hi0.below hb6
      have hbw4 : Below w.heap.size w w4 := Below.next' hb2 hb6 hb2.size
      have hne4 : 0 < D.length → ∀ a, A4 = some a → a.block ≠ b3 + 1 := by
        rintro _ a rfl
        have h1 := (hlt4 a.block rfl).1
        have h2 := World.block_lt_of_cell? W0 _ (hi0.1 0 (by simp [S8.list]))
        simp only at h2
        omega
      have hbL : b3 + 1 < w4.heap.size := World.block_lt_of_cell? w4 _ (hbi.1 0 (by simp [S8.list]))
      clear hlt4 ho4 hb6 hk0 hi0 hq0 ha0 hb2 hsz5
      go_loopw [6, 7, 8, 9, 10, 11, 12, 13, 14, 15, 16, 17, 18, 19, 20] (fun at_ _ _ _ _ _ _ _ _ _ _ _ _ _ _ w' => ∃ (j : Nat), j ≤ N ∧ at_ = .int .i64 (64 * (j : Int)) ∧ ArU w' (b3 + 1) 0 (digest D j).list ∧ w4.grownBy w' (some (b3 + 1))) (fun at_ _ _ _ _ _ _ _ _ _ _ _ _ _ _ _ => (64 * N + 1 - (intOf at_).toNat))
      case atStart => exact ⟨0, by omega, rfl, hbi, World.grownBy.refl _ _⟩
      case round =>
        rename World => wo
        clear hbi
        obtain ⟨j, hj, rfl, hbi, hgo⟩ := hrel
        by_cases hjN : j < N
        · have tl : decide (64 * (j : Int) < (D.length : Int)) = true := decide_eq_true (by rw [HDN.out]; omega)
          go_wp2_with fail
          have HC : Hid (digest D (j + 1) = comp (digest D j) ((D.drop (64 * j)).take 64)) := Lib.hid rfl
          have hblk : ((D.drop (64 * j)).take 64).length = 64 := by rw [List.length_take, List.length_drop, HN.out]; omega
          have HBK : Hid (∀ k, k < 16 → (((D.drop (64 * j)).take 64).drop (4 * k)).take 4 = (D.drop (64 * j + 4 * k)).take 4) := Lib.hid (fun k hk => by
            rw [List.drop_take, List.take_take, List.drop_drop, Nat.min_eq_left (by omega)])
          generalize (D.drop (64 * j)).take 64 = blk at *
          have HC2 : Hid (digest D (j + 1) = (digest D j).add (rnds (sched (own16 blk 16) 48) (digest D j) 64)) := HC
          have hW := sched_words blk
          generalize sched (own16 blk 16) 48 = S at *
          clear HC hblk
          have HW := Lib.hid hW
          clear hW
          have hgo2 : wo.heap.size ≤ wo.heap.size := Nat.le_refl _
          have hosz := hgo.size
          go_loopw [8, 9, 10] (fun i _ _ w' => ∃ (k : Nat) (L : List (BitVec 32)), k ≤ 64 ∧ i = .int .i64 k ∧ L.length = 64 ∧ L.take k = S.take k ∧ ArU w' wo.heap.size 0 L ∧ Below wo.heap.size wo w' ∧ wo.heap.size < w'.heap.size) (fun i _ _ _ => 64 - (intOf i).toNat)
          case atStart => exact ⟨0, List.replicate 64 0, by omega, rfl, by simp, rfl, ArU.new _ _ _ _ _ rfl rfl, (Below.refl _ _).alloc (Nat.le_refl _) _, by simp⟩
          case round =>
            obtain ⟨k, L, hk, rfl, hL, hT, hU, hbr, hszr⟩ := hrel
            by_cases hk64 : k < 64
            · by_cases hk16 : k < 16
              · have hsq := (hs4.grown hgo hne4).below hbr
                have hcut := hsq.cut (64 * j + 4 * k) (64 * j + 4 * k + 4) (by omega) (by rw [HN.out]; omega)
                rw [show 64 * j + 4 * k + 4 - (64 * j + 4 * k) = 4 from by omega] at hcut
                have hlow := HW.out.low k hk16
                rw [HBK.out k hk16] at hlow
                have HLOW := Lib.hid hlow
                clear hlow
                have cU := hU.1 k (by omega)
                have fU := hU.2 k (by omega)
                simp only [Nat.zero_add] at cU fU
                generalize L.getD k 0 = y0 at *
                have HL := Lib.hid hL
                have HT := Lib.hid hT
                have HCUT := Lib.hid hcut
                clear hL hT hsq hcut
                have t1 : decide ((k : Int) < 64) = true := decide_eq_true (by omega)
                have t2 : decide ((k : Int) < 16) = true := decide_eq_true (by omega)
                have hD1 : 64 * (j : Int) + 4 * (k : Int) + 4 ≤ (D.length : Int) := by rw [HDN.out]; omega
                have hD2 : (D.length : Int) ≤ (c4 : Int) := by omega
                go_wp2_with fail
                refine (read_any _ 4 _ _ wr HCUT.out (by omega)).mono ?_
                rintro e w9 ⟨rfl, rfl⟩
                have HR : Hid (S.getD k 0 = BitVec.ofNat 32 (rdN ((D.drop (64 * j + 4 * k)).take 4))) := HLOW
                clear HLOW HCUT
                generalize rdN ((D.drop (64 * j + 4 * k)).take 4) = r at *
                have kw := U_ofNat_wrap r
                have km := U_ofNat_mod r
                go_wp2
                go_roundw
                case rel =>
                  refine ⟨k + 1, L.set k (S.getD k 0), by omega, by go_num, by rw [List.length_set]; exact HL.out, take_next L S k HT.out (by rw [HL.out]; omega) (by rw [HW.out.len]; omega), ?_, ?_, ?_⟩
                  · have := hU.set k (by rw [HL.out]; omega) (S.getD k 0)
                    rw [Nat.zero_add, HR.out] at this
                    rw [HR.out]
                    exact this
                  · exact hbr.setCell (by simp) _
                  · simpa using hszr
                case measure => simp [intOf]; omega
              · obtain ⟨t, rfl⟩ : ∃ t, k = t + 16 := ⟨k - 16, by omega⟩
                rw [show ((t + 16 : Nat) : Int) = (t : Int) + 16 from by omega]
                have hhigh := HW.out.high t (by omega)
                rw [← take_getD L S (t + 16) t hT (by omega), ← take_getD L S (t + 16) (t + 1) hT (by omega), ← take_getD L S (t + 16) (t + 9) hT (by omega), ← take_getD L S (t + 16) (t + 14) hT (by omega)] at hhigh
                have c0 := hU.1 t (by omega)
                have c1 := hU.1 (t + 1) (by omega)
                have c9 := hU.1 (t + 9) (by omega)
                have c14 := hU.1 (t + 14) (by omega)
                have cU := hU.1 (t + 16) (by omega)
                have fU := hU.2 (t + 16) (by omega)
                simp only [Nat.zero_add] at c0 c1 c9 c14 cU fU
                generalize L.getD t 0 = x0 at *
                generalize L.getD (t + 1) 0 = x1 at *
                generalize L.getD (t + 9) 0 = x9 at *
                generalize L.getD (t + 14) 0 = x14 at *
                generalize L.getD (t + 16) 0 = x16 at *
                have HH := Lib.hid hhigh
                have HL := Lib.hid hL
                have HT := Lib.hid hT
                clear hL hT hhigh
                have t1 : decide ((t : Int) + 16 < 64) = true := decide_eq_true (by omega)
                have t2 : decide ((t : Int) + 16 < 16) = false := decide_eq_false (by omega)
                go_wp2_with fail
                go_quiet (fail)
                go_wp2_with fail
                have hUW : ArU (wr.drewN nq) wo.heap.size 0 L := hU
                have hbW : Below wo.heap.size wo (wr.drewN nq) := Below.drewN' hbr nq
                have hsW : wo.heap.size < (wr.drewN nq).heap.size := hszr
                have q0 : (wr.drewN nq).cell? ⟨wo.heap.size, t, none⟩ = some (.int .u32 (U x0)) := c0
                have q9 : (wr.drewN nq).cell? ⟨wo.heap.size, t + 9, none⟩ = some (.int .u32 (U x9)) := c9
                have qU : (wr.drewN nq).cell? ⟨wo.heap.size, t + 16, none⟩ = some (.int .u32 (U x16)) := cU
                have qF : (wr.drewN nq).frozen? ⟨wo.heap.size, t + 16, none⟩ = false := fU
                clear c0 c1 c9 c14 cU fU hU hbr hszr
                generalize wr.drewN nq = W at *
                have kx := U_xor
                have kp := U_add'
                have k3 : ∀ a b : BitVec 32, bits .xor .u32 (U a) (U b / 8) = U (a ^^^ b >>> 3) := fun a b => by rw [← U_xor, ← U_shr]; rfl
                have k10 : ∀ a b : BitVec 32, bits .xor .u32 (U a) (U b / 1024) = U (a ^^^ b >>> 10) := fun a b => by rw [← U_xor, ← U_shr]; rfl
                refine wp_region_quiet_tail (fun w' => ∃ n, w' = W.drewN n) 29 (by kernel_rfl) (by kernel_rfl) ⟨1, rfl⟩ ?_
                simp only [List.take_succ_cons, List.take_zero, List.drop_succ_cons, List.drop_zero]
                repeat (go_big_quiet_step ((go_at_call 77; refine (turn_z _ _ _ (by decide) (by decide)).mono ?_; rintro e w2 ⟨rfl, q, rfl⟩; exact ⟨rfl, _, World.drewN_drewN _ _ _⟩)))
                refine wpQuiet_nil ?_
                rintro _ ⟨nq2, rfl⟩
                clear kx kp k3 k10 q0 q9
                have fin : ∃ y : BitVec 32, y = x0 + x9 + (ror x1 7 ^^^ ror x1 18 ^^^ x1 >>> 3) + (ror x14 17 ^^^ ror x14 19 ^^^ x14 >>> 10) ∧ S.getD (t + 16) 0 = y := by
                  refine ⟨_, rfl, ?_⟩
                  rw [HH.out]
                  show x0 + (ror x1 7 ^^^ ror x1 18 ^^^ x1 >>> 3) + x9 + (ror x14 17 ^^^ ror x14 19 ^^^ x14 >>> 10) = _
                  rw [BitVec.add_assoc x0, BitVec.add_comm _ x9, ← BitVec.add_assoc]
                go_wp2
                go_roundw
                case rel =>
                  obtain ⟨y, hy, hS⟩ := fin
                  rw [U_add', ← hy]
                  refine ⟨t + 16 + 1, L.set (t + 16) (S.getD (t + 16) 0), by omega, by go_num, by rw [List.length_set]; exact HL.out, take_next L S (t + 16) HT.out (by rw [HL.out]; omega) (by rw [HW.out.len]; omega), ?_, ?_, ?_⟩
                  · have := (hUW.drewN nq2).set (t + 16) (by rw [HL.out]; omega) (S.getD (t + 16) 0)
                    rw [Nat.zero_add] at this
                    rw [← hS]
                    exact this
                  · exact (Below.drewN' hbW nq2).setCell (by simp) _
                  · simpa using hsW
                case measure => simp [intOf]; omega
            · obtain rfl : k = 64 := by omega
              rw [show ((64 : Nat) : Int) = 64 from rfl]
              obtain rfl : L = S := by
                rw [List.take_of_length_le (by omega), List.take_of_length_le (by rw [HW.out.len]; omega)] at hT
                exact hT
              clear hT hk hk64 hL
              rename World => w8
              have hbi8 : ArU w8 (b3 + 1) 0 (digest D j).list := hbi.below hbr
              have hbk8 : ArU w8 b3 0 KT := (hbk.keep (w' := wo) (fun q => hgo.cell_far ⟨b3, q, none⟩ (by simp only; omega) (by simp)) (fun q => hgo.frozen_far ⟨b3, q, none⟩ (by simp only; omega) (by simp))).below hbr
              generalize digest D j = s0 at *
              have HLD := Lib.hid (hbi8.load (P := Tryd.prog) 8 rfl)
              have h78 : b3 + 1 < w8.heap.size := by omega
              have t64 : decide ((64 : Int) < 64) = false := rfl
              go_wp2_with (first
                | refine wpList_load_arr _ rfl (.tmp 4) _ _ _ at35 rfl _ _ rfl _ HLD.out ?_
                | refine wpList_store_arr _ _ rfl (.tmp 11) (.tmp 106) _ _ _ at35 rfl _ _ rfl _ rfl rfl (run_storeCells_newAt _ _ _ _ _ rfl sz35 rfl) ?_)
              clear HLD
              go_loopw [12, 13, 14, 15, 16, 17, 18, 19] (fun i _ _ _ _ _ _ _ w' => ∃ (k : Nat), k ≤ 64 ∧ i = .int .i64 k ∧ ArU w' w8.heap.size 0 (rnds L s0 k).list ∧ Below w8.heap.size w8 w') (fun i _ _ _ _ _ _ _ _ => 64 - (intOf i).toNat)
              case atStart => exact ⟨0, by omega, rfl, ArU.new _ _ _ _ _ rfl rfl, (Below.refl _ _).alloc (Nat.le_refl _) _⟩
              case round =>
                obtain ⟨k, hk, rfl, hsr, hbr8⟩ := hrel
                by_cases hk64 : k < 64
                · have HR : Hid (rnds L s0 (k + 1) = rnd (rnds L s0 k) (kTab.getD k 0 + L.getD k 0)) := Lib.hid rfl
                  rw [HKT.out] at HR
                  have cK := (hbk8.below hbr8).1 k (by rw [H64'.out]; exact hk64)
                  have cW := (hU.below hbr8).1 k (by rw [HW.out.len]; exact hk64)
                  simp only [Nat.zero_add] at cK cW
                  obtain ⟨d0, d1, d2, d3, d4, d5, d6, d7⟩ := hsr.eight
                  generalize rnds L s0 k = t at *
                  generalize KT.getD k 0 = x at *
                  generalize L.getD k 0 = y at *
                  have t1 : decide ((k : Int) < 64) = true := decide_eq_true (by omega)
                  have kx := U_xor
                  have ka := U_and
                  have ko := U_or
                  have kp := U_add'
                  have kn := U_sub_not'
                  go_wp2_with fail
                  go_quiet (fail)
                  go_wp2_with fail
                  have ed0 : (wr.drewN nq).cell? ⟨w8.heap.size, 0, none⟩ = some (.int .u32 (U t.a)) := d0
                  have ed1 : (wr.drewN nq).cell? ⟨w8.heap.size, 1, none⟩ = some (.int .u32 (U t.b)) := d1
                  have ed2 : (wr.drewN nq).cell? ⟨w8.heap.size, 2, none⟩ = some (.int .u32 (U t.c)) := d2
                  have ed3 : (wr.drewN nq).cell? ⟨w8.heap.size, 3, none⟩ = some (.int .u32 (U t.d)) := d3
                  have ed4 : (wr.drewN nq).cell? ⟨w8.heap.size, 4, none⟩ = some (.int .u32 (U t.e)) := d4
                  have ed5 : (wr.drewN nq).cell? ⟨w8.heap.size, 5, none⟩ = some (.int .u32 (U t.f)) := d5
                  have ed6 : (wr.drewN nq).cell? ⟨w8.heap.size, 6, none⟩ = some (.int .u32 (U t.g)) := d6
                  have ed7 : (wr.drewN nq).cell? ⟨w8.heap.size, 7, none⟩ = some (.int .u32 (U t.h)) := d7
                  have ecK : (wr.drewN nq).cell? ⟨b3, k, none⟩ = some (.int .u32 (U x)) := cK
                  have ecW : (wr.drewN nq).cell? ⟨wo.heap.size, k, none⟩ = some (.int .u32 (U y)) := cW
                  have hsr' : ArU (wr.drewN nq) w8.heap.size 0 t.list := hsr
                  have hbr8' : Below w8.heap.size w8 (wr.drewN nq) := Below.drewN' hbr8 nq
                  clear d0 d1 d2 d3 d4 d5 d6 d7 cK cW hsr hbr8
                  generalize wr.drewN nq = W at *
                  go_quiet ((go_at_call 77; refine (turn_z _ _ _ (by decide) (by decide)).mono ?_; rintro e w2 ⟨rfl, q, rfl⟩; exact ⟨rfl, _, World.drewN_drewN _ _ _⟩))
                  go_wp2_with fail
                  refine (turn_z t.a _ _ (by decide) (by decide)).mono ?_
                  rintro e w2 ⟨rfl, qa, rfl⟩
                  go_wp2_with fail
                  refine (turn_z t.a _ _ (by decide) (by decide)).mono ?_
                  rintro e w2 ⟨rfl, qb, rfl⟩
                  go_wp2_with fail
                  refine (turn_z t.a _ _ (by decide) (by decide)).mono ?_
                  rintro e w2 ⟨rfl, qc, rfl⟩
                  go_wp2_with fail
                  rw [U_add']
                  have hrn : rnd t (x + y) = ⟨t.h + (ror t.e 6 ^^^ ror t.e 11 ^^^ ror t.e 25) + (t.e &&& t.f ||| ~~~t.e &&& t.g) + x + y + ((ror t.a 2 ^^^ ror t.a 13 ^^^ ror t.a 22) + (t.a &&& t.b ^^^ t.a &&& t.c ^^^ t.b &&& t.c)), t.a, t.b, t.c, t.d + (t.h + (ror t.e 6 ^^^ ror t.e 11 ^^^ ror t.e 25) + (t.e &&& t.f ||| ~~~t.e &&& t.g) + x + y), t.e, t.f, t.g⟩ := by
                    unfold rnd cho
                    rw [choice_eq, ← BitVec.add_assoc _ x y]
                    rfl
                  generalize t.h + (ror t.e 6 ^^^ ror t.e 11 ^^^ ror t.e 25) + (t.e &&& t.f ||| ~~~t.e &&& t.g) + x + y = X at *
                  generalize (ror t.a 2 ^^^ ror t.a 13 ^^^ ror t.a 22) + (t.a &&& t.b ^^^ t.a &&& t.c ^^^ t.b &&& t.c) = Y at *
                  have HR2 := Lib.hid (HR.out.trans hrn)
                  clear HR hrn kx ka ko kn ed0 ed1 ed2 ed3 ed4 ed5 ed6 ed7 ecK ecW kp
                  go_loopw [19] (fun i w' => ∃ (q : Nat), q ≤ 7 ∧ i = .int .i64 q ∧ ArU w' w8.heap.size 0 (moved t q) ∧ Below w8.heap.size w8 w') (fun i _ => (intOf i).toNat)
                  case atStart => exact ⟨7, by omega, rfl, hsr'.drewN _, Below.drewN' hbr8' _⟩
                  case round =>
                    clear hsr' hbr8'
                    obtain ⟨q, hq, rfl, hm, hbm⟩ := hrel
                    rcases q with _ | q
                    · rw [moved_end] at hm
                      have m4 := hm.1 4 (by simp)
                      have f4 := hm.2 4 (by simp)
                      have m0 := hm.1 0 (by simp)
                      have f0 := hm.2 0 (by simp)
                      simp only [Nat.zero_add] at m4 f4 m0 f0
                      change wr.cell? ⟨w8.heap.size, 4, none⟩ = some (.int .u32 (U t.d)) at m4
                      change wr.cell? ⟨w8.heap.size, 0, none⟩ = some (.int .u32 (U t.a)) at m0
                      have kp := U_add'
                      go_wp2
                      go_roundw
                      case rel =>
                        refine ⟨k + 1, by omega, by go_num, ?_, (hbm.setCell (by simp) _).setCell (by simp) _⟩
                        rw [HR2.out]
                        have h1 := hm.set 4 (by simp) (t.d + X)
                        have h2 := h1.set 0 (by simp) (X + Y)
                        simp only [Nat.zero_add] at h2
                        exact h2
                      case measure => simp [intOf]; omega
                    · have mj := hm.1 q (by rw [moved_len _ _ hq]; omega)
                      have ms := hm.1 (q + 1) (by rw [moved_len _ _ hq]; omega)
                      have fs := hm.2 (q + 1) (by rw [moved_len _ _ hq]; omega)
                      simp only [Nat.zero_add] at mj ms fs
                      have HM := Lib.hid (moved_set t q (by omega))
                      generalize (moved t (q + 1)).getD q 0 = y1 at *
                      generalize (moved t (q + 1)).getD (q + 1) 0 = y2 at *
                      rw [show ((q + 1 : Nat) : Int) = (q : Int) + 1 from by omega]
                      go_wp2
                      go_roundw
                      case rel =>
                        refine ⟨q, by omega, by go_num, ?_, hbm.setCell (by simp) _⟩
                        have := hm.set (q + 1) (by rw [moved_len _ _ hq]; omega) y1
                        rw [HM.out, Nat.zero_add] at this
                        exact this
                      case measure => simp [intOf]
                · obtain rfl : k = 64 := by omega
                  rw [show ((64 : Nat) : Int) = 64 from rfl]
                  rename World => w10
                  have hi10 : ArU w10 (b3 + 1) 0 s0.list := hbi8.below hbr8
                  have hg10 : w4.grownBy w10 (some (b3 + 1)) := (hgo.trans (grown_below hbr _)).trans (grown_below hbr8 _)
                  have h8L : b3 + 1 < w8.heap.size := h78
                  have HS : Hid (digest D (j + 1) = s0.add (rnds L s0 64)) := HC2
                  clear HC2
                  generalize hJ : digest D (j + 1) = s1 at *
                  have HJ := Lib.hid hJ
                  clear hJ
                  generalize rnds L s0 64 = t at *
                  go_wp2_with fail
                  go_loopw [20] (fun i w' => ∃ (k : Nat), k ≤ 8 ∧ i = .int .i64 k ∧ ArU w' (b3 + 1) 0 (part s0 t k) ∧ ArU w' w8.heap.size 0 t.list ∧ w4.grownBy w' (some (b3 + 1))) (fun i _ => 8 - (intOf i).toNat)
                  case atStart => exact ⟨0, by omega, rfl, hi10, hsr, hg10⟩
                  case round =>
                    clear hi10 hg10 hsr hbr8
                    obtain ⟨k, hk, rfl, p1, p5, p6⟩ := hrel
                    by_cases hlt : k < 8
                    · have c1 := p1.1 k (by rw [part_len _ _ _ hk]; exact hlt)
                      have f1 := p1.2 k (by rw [part_len _ _ _ hk]; exact hlt)
                      have c5 := p5.1 k hlt
                      rw [part_at s0 t k hlt] at c1
                      have HP := Lib.hid (part_set s0 t k hlt)
                      simp only [Nat.zero_add] at c1 f1 c5
                      generalize s0.list.getD k 0 = x at *
                      generalize t.list.getD k 0 = y at *
                      have ha0 : (k : Int) < 8 := by omega
                      have t1 : decide ((k : Int) < 8) = true := decide_eq_true ha0
                      have kp := U_add
                      go_wp2_with fail
                      refine wp_region_still_tail 8 (by kernel_rfl) (by kernel_rfl) ?_
                      simp only [List.take_succ_cons, List.take_zero, List.drop_succ_cons, List.drop_zero]
                      change wpStill _ _ wr.drew _ _ _
                      repeat
                        refine wpStill_step (fun K hK => ?_)
                        go_simp
                        refine hK _ ?_
                        clear hK K
                      refine wpStill_nil ?_
                      change wpList _ _ _ _ _ wr.drew
                      clear kp c5
                      go_wp2
                      go_roundw
                      case rel =>
                        refine ⟨k + 1, by omega, by go_num, ?_, ?_, ?_⟩
                        · have := p1.set k (by rw [part_len _ _ _ hk]; exact hlt) (x + y)
                          rw [HP.out, Nat.zero_add] at this
                          exact this
                        · exact p5.other _ _ (.inl (by simp only; omega))
                        · exact p6.trans ((grown_setCell _ _ _ _).trans (grown_drew _ _))
                      case measure => simp [intOf]; omega
                    · obtain rfl : k = 8 := by omega
                      rw [part_end, ← HS.out] at p1
                      have t1 : decide ((8 : Int) < 8) = false := rfl
                      rw [show ((8 : Nat) : Int) = 8 from rfl]
                      go_wp2
                      go_roundw
                      case rel => exact ⟨j + 1, by omega, by rw [show 64 * (j : Int) + 64 = 64 * ((j + 1 : Nat) : Int) from by omega], by rw [HJ.out]; exact p1, p6⟩
                      case measure => simp [intOf]; omega
        · obtain rfl : j = N := by omega
          have tl : decide (64 * (j : Int) < (D.length : Int)) = false := decide_eq_false (by rw [HDN.out]; omega)
          have hbw5 : Below w.heap.size w wo := hbw4.grown hgo (by have := hbw4.size; omega) (by intro q hq; injection hq with hq; omega)
          have HO : Hid (sha l = (digest D j).list.flatMap (fun x => high x.toNat 4)) := by
            show sha l = _
            unfold sha out8
            rw [HP2.out, HN.out, Nat.mul_div_cancel_left _ (by omega)]
          have H8 : Hid ((digest D j).list.length = 8) := Lib.hid rfl
          generalize (digest D j).list = L at *
          clear hgo hs4 hne4 hbk
          go_wp2_with fail
          go_loopw [21, 22] (fun p i w' => ∃ (k : Nat) (d : List UInt8), k ≤ 8 ∧ i = .int .i64 k ∧ d = (L.take k).flatMap (fun x => high x.toNat 4) ∧ d.length = 4 * k ∧ Own w' wo.heap.size 5 p d ∧ Below wo.heap.size wo w') (fun _ i _ => 8 - (intOf i).toNat)
          case atStart => exact ⟨0, [], by omega, rfl, rfl, rfl, Own.nil _ _ _, Below.refl _ _⟩
          case round =>
            obtain ⟨k, d, hk, rfl, hd, hdl, hod, hbr⟩ := hrel
            obtain ⟨A', c', rfl, hs', hlc', hcm'⟩ := hod.forms
            have HD := Lib.hid hd
            clear hd
            by_cases hlt : k < 8
            · have cx := (hbi.below hbr).1 k (by rw [H8.out]; exact hlt)
              have HX := Lib.hid (show L.take (k + 1) = L.take k ++ [L.getD k 0] by
                rw [List.take_succ_eq_append_getElem (show k < L.length by rw [H8.out]; exact hlt), List.getD_eq_getElem?_getD, List.getElem?_eq_getElem (show k < L.length by rw [H8.out]; exact hlt)]
                rfl)
              simp only [Nat.zero_add] at cx
              generalize L.getD k 0 = x at *
              have t1 : decide ((k : Int) < 8) = true := decide_eq_true (by omega)
              have hw64 : IntKind.u64.wrap (U x) = U x := IntWalk.u64_in _ ⟨U_nonneg x, by have := U_lt x; omega⟩
              have HDL := Lib.hid hdl
              have hdl' : d.length ≤ 32 := by omega
              clear hdl
              go_wp2_with fail
              refine (num_call (U x) 4 wr (U_nonneg x) (by omega) (by omega)).mono ?_
              rintro e w3 ⟨v3, rfl, ho3, hb3⟩
              change Own w3 wr.heap.size 5 v3 (high x.toNat 4) at ho3
              have hl4 := high_length x.toNat 4
              have HFM : Hid ((L.take k ++ [x]).flatMap (fun x => high x.toNat 4) = (L.take k).flatMap (fun x => high x.toNat 4) ++ high x.toNat 4) := Lib.hid (by simp [List.flatMap_append])
              generalize high x.toNat 4 = h4 at *
              have HL4 := Lib.hid hl4
              clear hl4
              obtain ⟨A3', c3', rfl, hs3, hlc3', hcm3'⟩ := ho3.forms
              have hod3 := hod.below hb3
              have hb5 : Below wo.heap.size wo w3 := Below.next' hbr hb3 hbr.size
              have hsz5 := hb5.size
              clear hb3 ho3 hod hs' cx hw64
              go_wp2_with (at_builtin
                           refine wpList_append_seg _ rfl (.tmp 206) (.tmp 211) _ _ bt rfl wo.heap.size (.slice A' d.length c') d rfl hod3 A3' _ c3' h4 rfl hs3 (by rw [HL4.out]; omega) hsz5 ?_
                           intro v4 w5 ho4 hg4 hat4)
              have hb6 : Below wo.heap.size wo w5 := below_grown hb5 hod3 hg4 (Nat.le_refl _) hsz5
              go_roundw
              case rel => exact ⟨k + 1, d ++ h4, by omega, by go_num, by rw [HX.out, HFM.out, HD.out], by rw [List.length_append, HDL.out, HL4.out]; omega, ho4, hb6⟩
              case measure => simp [intOf]; omega
            · obtain rfl : k = 8 := by omega
              have hcv := run_string_seg (P := Tryd.prog) wr 29 9 5 bt Tryd.underlying9 A' d.length c' d hs'
              have HE : Hid (sha l = d) := by
                show sha l = d
                rw [HO.out, HD.out, List.take_of_length_le (by rw [H8.out]; omega)]
              clear hdl hlt HO HD
              have t1 : decide ((8 : Int) < 8) = false := rfl
              rw [show ((8 : Nat) : Int) = 8 from rfl]
              go_wp2
              go_ret
              rw [HE.out]
              exact ⟨rfl, Below.next' hbw5 hbr hbw5.size⟩
    · have hz := zc_lt n
      have t1 : ((d.length : Int) % 64 != 56) = true := by rw [hdl]; simp; omega
      have hkz : k ≠ zc n := by
        rintro rfl
        exact h56 (zc_spec n)
      have HDL := Lib.hid hdl
      have hdl' : d.length ≤ 1000065 := by omega
      clear hdl
      have hsz := hb3.size
      go_wp2_with (at_builtin
                   refine wpList_append_seg _ rfl (.tmp 32) (.tmp 33) _ _ bt rfl W0.heap.size (.slice A' d.length c') d rfl (hod.alloc _) _ 1 1 [0] rfl (Seg.one _ _ _ 0 rfl) (by omega) (by simp; omega) ?_
                   intro v1 w3 hown1 hg1 hat1)
      have hb4 : Below W0.heap.size W0 w3 := below_grown (hb3.alloc hsz _) (hod.alloc _) hg1 (Nat.le_refl _) (by simp; omega)
      go_roundw
      case rel => exact ⟨k + 1, d ++ [0], by omega, by rw [HD.out, List.replicate_succ', ← List.append_assoc], hown1, hb4⟩
      case measure =>
        obtain ⟨A9, c9, rfl, _, _, _⟩ := hown1.forms
        simp only [leftV, List.length_append, List.length_singleton]
        have := HDL.out
        have := zc_spec n
        omega

end Go.Proofs.YtpbjianhkjjgkaaDoor
