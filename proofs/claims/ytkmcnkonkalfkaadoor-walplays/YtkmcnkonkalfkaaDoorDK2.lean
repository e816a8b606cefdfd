/-
  The walks of the program's disk.
-/
import Derived.Test.YtkmcnkonkalfkaaDoorDKN
import Derived.Test.YtkmcnkonkalfkaaDoorQT
import Derived.Test.YtkmcnkonkalfkaaDoorQS
namespace Go.Proofs.YtkmcnkonkalfkaaDoor
open Go.RowKit

theorem ownBlock_cap (A : Option Addr) (n k c : Nat) : (Value.slice A k c).ownBlock = (Value.slice A n c).ownBlock := by cases A <;> rfl

set_option maxHeartbeats 1000000 in
theorem leave_any {w : World} {B g : Nat} {v : Value} {l : List UInt8} {s : Nat} {f : Bool} {c : Int} (hd : Dk w B g v l s f c) (k : Nat) (hk : k ≤ l.length) (_hl : l.length ≤ 1000000) :
    Calls Tryd.prog 46 #[.pointer (some ⟨g, 0, none⟩), .int .i64 (k : Int)] w fun e w' => e = .returned (.tuple #[]) ∧ ∃ v', Dk w' B g v' (l.take k) k f c ∧ Only w w' (fun i => i = g) ∧ v'.ownBlock = v.ownBlock := by
  obtain ⟨A, c0, rfl, hsg, hlc, hcm⟩ := hd.own.forms
  have h0 := hd.dc.h0
  have h1 := hd.dc.h1
  have f0 := hd.dc.fr 0
  have f1 := hd.dc.fr 1
  have hkc : k ≤ c0 := by omega
  clear hsg
  go_enter Tryd.func46, Tryd.ntmps46
  go_wp2
  go_end0
  have ho : Only w ((w.setCell ⟨g, 0, none⟩ (.slice A k c0)).setCell ⟨g, 1, none⟩ (.int .i64 (k : Int))) (fun i => i = g) := ((Only.refl w (fun i => i = g)).setCell ⟨g, _, none⟩ _ fun _ => rfl).setCell ⟨g, _, none⟩ _ fun _ => rfl
  refine ⟨rfl, .slice A k c0, ⟨(hd.dc.set0 _).set1 _, (hd.own.upto k hk).only ho (fun i hi e => hd.ap (by rw [← ownBlock_cap A l.length k c0, hi, e])), fun e => hd.ap (by rw [← ownBlock_cap A l.length k c0]; exact e), hd.hB, by rw [List.length_take]; omega, hd.hc⟩, ho, ownBlock_cap _ _ _ _⟩

theorem leave_int {w : World} {B g : Nat} {v : Value} {l : List UInt8} {s : Nat} {f : Bool} {c : Int} (hd : Dk w B g v l s f c) (y : Int) (h0 : 0 ≤ y) (hk : y ≤ (l.length : Int)) (hl : l.length ≤ 1000000) :
    Calls Tryd.prog 46 #[.pointer (some ⟨g, 0, none⟩), .int .i64 y] w fun e w' => e = .returned (.tuple #[]) ∧ ∃ v', Dk w' B g v' (l.take y.toNat) y.toNat f c ∧ Only w w' (fun i => i = g) ∧ v'.ownBlock = v.ownBlock := by
  obtain ⟨k, rfl⟩ := Int.eq_ofNat_of_zero_le h0
  exact leave_any hd k (by omega) hl

set_option maxHeartbeats 1000000 in
theorem append_bad {w : World} {B g : Nat} {v : Value} {l : List UInt8} {s : Nat} {f : Bool} {c : Int} (hd : Dk w B g v l s f c) (hw : wk f c = false) (x : Value) :
    Calls Tryd.prog 44 #[.pointer (some ⟨g, 0, none⟩), x] w fun e w' => e = .returned (.int .i64 9) ∧ Dk w' B g v l s f (dn f c) ∧ Only w w' (fun k => k = g) := by
  have ht := works_any hd
  rw [hw] at ht
  go_enter Tryd.func44, Tryd.ntmps44
  go_wp2_with fail
  refine ht.mono ?_
  rintro e w1 ⟨rfl, hd1, ho1⟩
  go_wp2
  go_ret
  exact ⟨rfl, hd1, ho1⟩

set_option maxHeartbeats 1000000 in
theorem append_ok {w : World} {B g : Nat} {v : Value} {l : List UInt8} {s : Nat} {f : Bool} {c : Int} (hd : Dk w B g v l s f c) (hw : wk f c = true) (A : Option Addr) (n cp : Nat) (p : List UInt8) (hp : Seg w A n p) (hap : 0 < n → ∀ a, A = some a → a.block ≠ g) (hl : l.length + n ≤ 1000000) :
    Calls Tryd.prog 44 #[.pointer (some ⟨g, 0, none⟩), .slice A n cp] w fun e w' => e = .returned (.int .i64 0) ∧ ∃ v', Dk w' B g v' (l ++ p) s f (dn f c) ∧ Only w w' (DkS g v) ∧ Moved w v v' := by
  obtain ⟨A0, c0, rfl, _, hlc, hcm⟩ := hd.own.forms
  have ht := works_any hd
  rw [hw] at ht
  have HL := Lib.hid hl
  clear hl
  go_enter Tryd.func44, Tryd.ntmps44
  go_wp2_with fail
  refine ht.mono ?_
  rintro e w1 ⟨rfl, hd1, ho1⟩
  have h0 := hd1.dc.h0
  have hp1 := hp.only ho1 hap
  have hB1 : B ≤ w1.heap.size := Nat.le_of_lt (Nat.lt_of_le_of_lt hd1.hB hd1.dc.lt)
  clear ht hp
  go_wp2_with (at_builtin
               refine wpList_append_seg _ rfl (.tmp 12) (.tmp 13) _ _ bt rfl B (.slice A0 l.length c0) l rfl hd1.own A n cp p rfl hp1 (by have := HL.out; omega) hB1 ?_
               intro v2 w2 hown2 hg2 hat2
               obtain ⟨A2, c2, rfl, _, _, _⟩ := hown2.forms
               obtain ⟨m2, hm2⟩ : ∃ m2, (l ++ p).length = m2 := ⟨_, rfl⟩
               rw [hm2] at hown2 hat2 ⊢
               have HM2 := Lib.hid hm2
               clear hm2
               have hd2 := hd1.dc.only (Only.of_grown (S := fun k => (Value.slice A0 l.length c0).ownBlock = some k) hg2 (fun k e => e)) hd1.ap
               have z0 := hd2.h0
               have zf := hd2.fr 0)
  go_ret
  have ha2 : (Value.slice A2 m2 c2).ownBlock ≠ some g := by
    rcases hat2 with e | e
    · rw [e]; exact hd1.ap
    · rw [e]; intro e'; injection e' with e'; have := hd1.dc.lt; omega
  have hon : Only w1 (w2.setCell ⟨g, 0, none⟩ (.slice A2 m2 c2)) (DkS g (.slice A0 l.length c0)) := (Only.of_grown hg2 (fun k e => .inr e)).setCell _ _ fun _ => .inl rfl
  refine ⟨rfl, _, ⟨hd2.set0 _, hown2.only ((Only.refl _ (fun k => k = g)).setCell _ _ fun _ => rfl) (fun k hk e => ha2 (by rw [hk, e])), ha2, hd1.hB, by rw [List.length_append]; have := hd1.hs; omega, hd1.hc⟩, ?_, ?_⟩
  · exact (ho1.mono fun k _ e => .inl e).trans hon fun _ _ h => h
  · rcases hat2 with e | e
    · exact Moved.of_eq e
    · refine Moved.of_ge fun k hk => ?_
      rw [e] at hk
      injection hk with hk
      have := ho1.size
      omega

set_option maxHeartbeats 1000000 in
theorem sync_bad {w : World} {B g : Nat} {v : Value} {l : List UInt8} {s : Nat} {f : Bool} {c : Int} (hd : Dk w B g v l s f c) (hw : wk f c = false) :
    Calls Tryd.prog 45 #[.pointer (some ⟨g, 0, none⟩)] w fun e w' => e = .returned (.int .i64 9) ∧ Dk w' B g v l s f (dn f c) ∧ Only w w' (fun k => k = g) := by
  have ht := works_any hd
  rw [hw] at ht
  go_enter Tryd.func45, Tryd.ntmps45
  go_wp2_with fail
  refine ht.mono ?_
  rintro e w1 ⟨rfl, hd1, ho1⟩
  go_wp2
  go_ret
  exact ⟨rfl, hd1, ho1⟩

set_option maxHeartbeats 1000000 in
theorem sync_ok {w : World} {B g : Nat} {v : Value} {l : List UInt8} {s : Nat} {f : Bool} {c : Int} (hd : Dk w B g v l s f c) (hw : wk f c = true) :
    Calls Tryd.prog 45 #[.pointer (some ⟨g, 0, none⟩)] w fun e w' => e = .returned (.int .i64 0) ∧ Dk w' B g v l l.length f (dn f c) ∧ Only w w' (fun k => k = g) := by
  obtain ⟨A0, c0, rfl, _, hlc, hcm⟩ := hd.own.forms
  have ht := works_any hd
  rw [hw] at ht
  go_enter Tryd.func45, Tryd.ntmps45
  go_wp2_with fail
  refine ht.mono ?_
  rintro e w1 ⟨rfl, hd1, ho1⟩
  have h0 := hd1.dc.h0
  have h1 := hd1.dc.h1
  have f1 := hd1.dc.fr 1
  clear ht
  go_wp2
  go_ret
  have hon : Only w1 (w1.setCell ⟨g, 1, none⟩ (.int .i64 (l.length : Int))) (fun k => k = g) := (Only.refl _ _).setCell _ _ fun _ => rfl
  exact ⟨rfl, ⟨hd1.dc.set1 _, hd1.own.only hon (fun k hk e => hd1.ap (by rw [hk, e])), hd1.ap, hd1.hB, Nat.le_refl _, hd1.hc⟩, ho1.trans hon fun _ _ h => h⟩

set_option maxHeartbeats 1000000 in
theorem cut_bad {w : World} {B g : Nat} {v : Value} {l : List UInt8} {s : Nat} {f : Bool} {c : Int} (hd : Dk w B g v l s f c) (hw : wk f c = false) (x : Value) :
    Calls Tryd.prog 42 #[.pointer (some ⟨g, 0, none⟩), x] w fun e w' => e = .returned (.int .i64 9) ∧ Dk w' B g v l s f (dn f c) ∧ Only w w' (fun k => k = g) := by
  have ht := works_any hd
  rw [hw] at ht
  go_enter Tryd.func42, Tryd.ntmps42
  go_wp2_with fail
  refine ht.mono ?_
  rintro e w1 ⟨rfl, hd1, ho1⟩
  go_wp2
  go_ret
  exact ⟨rfl, hd1, ho1⟩

set_option maxHeartbeats 1000000 in
theorem cut_ok {w : World} {B g : Nat} {v : Value} {l : List UInt8} {s : Nat} {f : Bool} {c : Int} (hd : Dk w B g v l s f c) (hw : wk f c = true) (x : Int) (hl : l.length ≤ 1000000) :
    Calls Tryd.prog 42 #[.pointer (some ⟨g, 0, none⟩), .int .i64 x] w fun e w' => e = .returned (.int .i64 0) ∧ ∃ v', Dk w' B g v' (l.take (min x.toNat l.length)) (min x.toNat l.length) f (dn f c) ∧ Only w w' (fun k => k = g) ∧ v'.ownBlock = v.ownBlock := by
  obtain ⟨A0, c0, rfl, _, hlc, hcm⟩ := hd.own.forms
  have ht := works_any hd
  rw [hw] at ht
  go_enter Tryd.func42, Tryd.ntmps42
  go_wp2_with fail
  refine ht.mono ?_
  rintro e w1 ⟨rfl, hd1, ho1⟩
  have h0 := hd1.dc.h0
  clear ht
  go_wp2_with fail
  refine (nearest_any x l.length _).mono ?_
  rintro e w2 ⟨rfl, rfl⟩
  go_wp2_with fail
  refine (leave_any hd1 _ (Nat.min_le_right _ _) hl).mono ?_
  rintro e w3 ⟨rfl, v3, hd3, ho3, hv3⟩
  go_wp2
  go_ret
  exact ⟨rfl, v3, hd3, ho1.trans ho3 fun _ _ h => h, hv3⟩

set_option maxHeartbeats 1000000 in
theorem fail_any {w : World} {B g : Nat} {v : Value} {l : List UInt8} {s : Nat} {f : Bool} {c : Int} (hd : Dk w B g v l s f c) (x : Int) (hx : x ≤ 1000) :
    Calls Tryd.prog 27 #[.pointer (some ⟨g, 0, none⟩), .int .i64 x] w fun e w' => e = .returned (.tuple #[]) ∧ Dk w' B g v l s (decide (0 ≤ x)) x ∧ Only w w' (fun k => k = g) := by
  have h2 := hd.dc.h2
  have h3 := hd.dc.h3
  have f2 := hd.dc.fr 2
  have f3 := hd.dc.fr 3
  go_enter Tryd.func27, Tryd.ntmps27
  go_wp2
  go_end0
  have ho : Only w ((w.setCell ⟨g, 2, none⟩ (.bool (decide (0 ≤ x)))).setCell ⟨g, 3, none⟩ (.int .i64 x)) (fun i => i = g) := ((Only.refl w (fun i => i = g)).setCell ⟨g, _, none⟩ _ fun _ => rfl).setCell ⟨g, _, none⟩ _ fun _ => rfl
  exact ⟨rfl, ⟨(hd.dc.set2 _).set3 _, hd.own.only ho (fun k hk e => hd.ap (by rw [hk, e])), hd.ap, hd.hB, hd.hs, fun e => ⟨of_decide_eq_true e, hx⟩⟩, ho⟩

set_option maxHeartbeats 1000000 in
theorem crash_any {w : World} {B g : Nat} {v : Value} {l : List UInt8} {s : Nat} {f : Bool} {c : Int} (hd : Dk w B g v l s f c) (x : Int) (hl : l.length ≤ 1000000) :
    Calls Tryd.prog 29 #[.pointer (some ⟨g, 0, none⟩), .int .i64 x] w fun e w' => e = .returned (.tuple #[]) ∧ ∃ v', Dk w' B g v' (l.take (s + min x.toNat (l.length - s))) (s + min x.toNat (l.length - s)) false c ∧ Only w w' (fun k => k = g) ∧ v'.ownBlock = v.ownBlock := by
  obtain ⟨A0, c0, rfl, _, hlc, hcm⟩ := hd.own.forms
  have h0 := hd.dc.h0
  have h1 := hd.dc.h1
  have hs := hd.hs
  obtain ⟨N, hN⟩ : ∃ N, l.length = N := ⟨_, rfl⟩
  have HN := Lib.hid hN
  rw [hN] at h0 hs hl hlc
  clear hN
  go_enter Tryd.func29, Tryd.ntmps29
  rw [HN.out]
  go_wp2
  refine wp_region_quiet_tail (fun w' => ∃ n, w' = w.drewN n) 18 (by kernel_rfl) (by kernel_rfl) ⟨1, rfl⟩ ?_
  simp only [List.take_succ_cons, List.take_zero, List.drop_succ_cons, List.drop_zero]
  repeat (go_big_quiet_step ((go_at_call 47; refine (nearest_int x _ _ (by omega)).mono ?_; rintro e w2 ⟨rfl, rfl⟩; exact ⟨rfl, _, rfl⟩)))
  refine wpQuiet_nil ?_
  rintro _ ⟨nq, rfl⟩
  have hd1 := hd.drewN nq
  have ho1 : Only w (w.drewN nq) (fun k => k = g) := (Only.refl _ _).drewN nq
  clear h0 h1
  generalize w.drewN nq = w1 at *
  go_wp2_with fail
  refine (leave_int hd1 _ (by omega) (by rw [HN.out]; omega) (by rw [HN.out]; exact hl)).mono ?_
  rintro e w3 ⟨rfl, v3, hd3, ho3, hv3⟩
  have z2 := hd3.dc.h2
  have zf := hd3.dc.fr 2
  go_wp2
  go_end0
  have hon : Only w3 (w3.setCell ⟨g, 2, none⟩ (.bool false)) (fun k => k = g) := (Only.refl _ _).setCell _ _ fun _ => rfl
  have ey : ((s : Int) + ((min x.toNat (N - s) : Nat) : Int)).toNat = s + min x.toNat (N - s) := by omega
  rw [ey] at hd3
  exact ⟨rfl, v3, ⟨hd3.dc.set2 _, hd3.own.only hon (fun k hk e => hd3.ap (by rw [hk, e])), hd3.ap, hd3.hB, hd3.hs, fun e => by cases e⟩, (ho1.trans ho3 fun _ _ h => h).trans hon fun _ _ h => h, by rw [hv3, HN.out]⟩

set_option maxHeartbeats 1000000 in
theorem dread_any {w : World} {B g : Nat} {v : Value} {l : List UInt8} {s : Nat} {f : Bool} {c : Int} (hd : Dk w B g v l s f c) (hl : l.length ≤ 1000000) :
    Calls Tryd.prog 32 #[.pointer (some ⟨g, 0, none⟩)] w fun e w' => ∃ u, e = .returned u ∧ Own w' w.heap.size 5 u l ∧ Below w.heap.size w w' := by
  obtain ⟨A0, c0, rfl, hsg, hlc, hcm⟩ := hd.own.forms
  have h0 := hd.dc.h0
  go_enter Tryd.func32, Tryd.ntmps32
  go_wp2_with fail
  refine (clone_any A0 l.length c0 l _ hsg (by omega)).mono ?_
  rintro e w1 ⟨v1, rfl, ho1, hb1⟩
  go_wp2
  go_ret
  exact ⟨v1, rfl, ho1, hb1⟩

section
variable (w : World) (x : Value) (y : Int)
theorem append_nil : Calls Tryd.prog 44 #[.pointer none, x] w fun e w' => e = .returned (.int .i64 9) ∧ w' = w := by
  go_enter Tryd.func44, Tryd.ntmps44
  go_wp2_with fail
  refine (works_nil _).mono ?_
  rintro e w1 ⟨rfl, rfl⟩
  go_wp2
  go_ret
  exact ⟨rfl, rfl⟩
theorem sync_nil : Calls Tryd.prog 45 #[.pointer none] w fun e w' => e = .returned (.int .i64 9) ∧ w' = w := by
  go_enter Tryd.func45, Tryd.ntmps45
  go_wp2_with fail
  refine (works_nil _).mono ?_
  rintro e w1 ⟨rfl, rfl⟩
  go_wp2
  go_ret
  exact ⟨rfl, rfl⟩
theorem cut_nil : Calls Tryd.prog 42 #[.pointer none, .int .i64 y] w fun e w' => e = .returned (.int .i64 9) ∧ w' = w := by
  go_enter Tryd.func42, Tryd.ntmps42
  go_wp2_with fail
  refine (works_nil _).mono ?_
  rintro e w1 ⟨rfl, rfl⟩
  go_wp2
  go_ret
  exact ⟨rfl, rfl⟩
theorem read_nil : Calls Tryd.prog 32 #[.pointer none] w fun e w' => e = .returned (.slice none 0 0) ∧ w' = w := by
  go_enter Tryd.func32, Tryd.ntmps32
  go_wp2
  go_ret
  exact ⟨rfl, rfl⟩
theorem safe_nil : Calls Tryd.prog 33 #[.pointer none] w fun e w' => e = .returned (.int .i64 0) ∧ w' = w := by
  go_enter Tryd.func33, Tryd.ntmps33
  go_wp2
  go_ret
  exact ⟨rfl, rfl⟩
theorem fail_nil : Calls Tryd.prog 27 #[.pointer none, .int .i64 y] w fun e w' => e = .returned (.tuple #[]) ∧ w' = w := by
  go_enter Tryd.func27, Tryd.ntmps27
  go_wp2
  refine bodyPost_ret (results_none rfl _ _ _) rfl ?_
  exact ⟨rfl, rfl⟩
theorem crash_nil : Calls Tryd.prog 29 #[.pointer none, .int .i64 y] w fun e w' => e = .returned (.tuple #[]) ∧ w' = w := by
  go_enter Tryd.func29, Tryd.ntmps29
  go_wp2
  refine bodyPost_ret (results_none rfl _ _ _) rfl ?_
  exact ⟨rfl, rfl⟩
end

end Go.Proofs.YtkmcnkonkalfkaaDoor
