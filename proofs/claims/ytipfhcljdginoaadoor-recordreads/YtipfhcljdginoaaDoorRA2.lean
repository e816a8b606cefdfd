/-
  The walks of the reader's number, key, row and write, told by the pure reader.
-/
import Derived.Test.YtipfhcljdginoaaDoorRA1
namespace Go.Proofs.YtipfhcljdginoaaDoor
open Go.RowKit

/-- A reader at block g of the bytes l, at place k. -/
structure Re (w : World) (g : Nat) (A : Option Addr) (n c : Nat) (l : List UInt8) (k : Nat) : Prop where
  rd : Rd w g A n c k
  seg : Seg w A n l
  ap : Apart A n g
  hn : n ≤ 1000000
  nc : n ≤ c
  cm : c ≤ maxLen
  hk : k ≤ n
theorem Re.len {w : World} {g : Nat} {A : Option Addr} {n c k : Nat} {l : List UInt8} (h : Re w g A n c l k) : l.length = n := h.seg.1
theorem Re.lt {w : World} {g : Nat} {A : Option Addr} {n c k : Nat} {l : List UInt8} (h : Re w g A n c l k) : g < w.heap.size := World.block_lt_of_cell? w _ h.rd.p
theorem Re.step {w w' : World} {g : Nat} {A : Option Addr} {n c k k' : Nat} {l : List UInt8} (h : Re w g A n c l k) (hr : Rd w' g A n c k') (ho : Only w w' (fun b => b = g)) (hk : k' ≤ n) : Re w' g A n c l k' :=
  ⟨hr, h.seg.only ho (fun hn a ha e => h.ap hn a ha e), h.ap, h.hn, h.nc, h.cm, hk⟩
theorem Re.below {w w' : World} {g : Nat} {A : Option Addr} {n c k : Nat} {l : List UInt8} (h : Re w g A n c l k) (hb : Below w.heap.size w w') : Re w' g A n c l k :=
  ⟨⟨cell_below hb h.rd.p, cell_below hb h.rd.at_, ((bcell hb).2 g 1 h.lt).trans h.rd.fr⟩, h.seg.below hb, h.ap, h.hn, h.nc, h.cm, h.hk⟩
theorem Only.of_grown1 {w w' : World} {g : Nat} (h : w.grownBy w' (some g)) : Only w w' (fun b => b = g) := Only.of_grown h fun k hk => by injection hk with hk; exact hk.symm

/-- What 'number' answers. -/
def NumR (w : World) (g : Nat) (A : Option Addr) (n c : Nat) (l : List UInt8) (e : Ending) (w' : World) : Rr Nat → Prop
  | .bad p x => e = .returned (.tuple #[.int .u64 0, metV (p : Nat) (x : Nat)]) ∧ Only w w' (fun b => b = g)
  | .ok r k => e = .returned (.tuple #[.int .u64 (r : Int), .nilIface]) ∧ Re w' g A n c l k ∧ Only w w' (fun b => b = g)

theorem numR_any {w : World} {g : Nat} {A : Option Addr} {n c k : Nat} {l : List UInt8} (h : Re w g A n c l k) (m a b : Nat) (hm : m ≤ 8) :
    Calls Tryd.prog 31 #[.pointer (some ⟨g, 0, none⟩), .int .i64 (m : Int), .int .u64 (a : Int), .int .u64 (b : Int)] w fun e w' => NumR w g A n c l e w' (rnum l k m a b) := by
  have hl := h.len
  have hk := h.hk
  have hn := h.hn
  unfold rnum
  by_cases hs : l.length - k < m
  · rw [if_pos hs]
    refine (number_short g A n c k m a b w h.rd (by omega) hk hm (by omega)).mono ?_
    rintro e w' ⟨rfl, q, rfl⟩
    exact ⟨rfl, (Only.refl _ _).drewN _⟩
  · rw [if_neg hs]
    have hkm : k + m ≤ n := by omega
    refine (number_any g A n c k m a b l w h.rd h.seg h.ap (by omega) h.nc h.cm hm hkm).mono ?_
    rintro e w' ⟨h1, h2, h3, h4⟩
    by_cases hr : rdN ((l.drop k).take m) < a ∨ b < rdN ((l.drop k).take m)
    · rw [if_pos hr]
      exact ⟨h1 (by omega), Only.of_grown1 h4⟩
    · rw [if_neg hr]
      exact ⟨h2 (by omega), h.step h3 (Only.of_grown1 h4) hkm, Only.of_grown1 h4⟩

/-- What 'take' answers. -/
def TakR (w : World) (g : Nat) (A : Option Addr) (n c : Nat) (l : List UInt8) (e : Ending) (w' : World) : Rr (List UInt8) → Prop
  | .bad p x => e = .returned (.tuple #[.slice none 0 0, metV (p : Nat) (x : Nat)]) ∧ Only w w' (fun b => b = g)
  | .ok d k => ∃ A' c', e = .returned (.tuple #[.slice A' d.length c', .nilIface]) ∧ Seg w' A' d.length d ∧ d.length ≤ c' ∧ c' ≤ maxLen ∧ Re w' g A n c l k ∧ Only w w' (fun b => b = g)
theorem takR_any {w : World} {g : Nat} {A : Option Addr} {n c k : Nat} {l : List UInt8} (h : Re w g A n c l k) (m : Nat) (hm : m ≤ 4000) :
    Calls Tryd.prog 37 #[.pointer (some ⟨g, 0, none⟩), .int .i64 (m : Int)] w fun e w' => TakR w g A n c l e w' (rtake l k m) := by
  have hl := h.len
  have hk := h.hk
  have hn := h.hn
  unfold rtake
  by_cases hs : l.length - k < m
  · rw [if_pos hs]
    refine (take_short g A n c k m w h.rd (by omega) hk (by omega) (by omega)).mono ?_
    rintro e w' ⟨rfl, q, rfl⟩
    exact ⟨rfl, (Only.refl _ _).drewN _⟩
  · rw [if_neg hs]
    have hkm : k + m ≤ n := by omega
    refine (take_ok g A n c k m l w h.rd (by omega) h.nc h.cm (by omega) hkm).mono ?_
    rintro e w' ⟨A', c', rfl, h1, h2, h3, h4, h5⟩
    have hd : ((l.drop k).take m).length = m := by rw [List.length_take, List.length_drop]; omega
    have ho := Only.of_grown1 h5
    have hre := h.step h4 ho hkm
    simp only [TakR, hd]
    exact ⟨A', c', rfl, h1 _ hre.seg, h2, h3, hre, ho⟩

/-- What 'key' answers. -/
def KeyR (w : World) (g : Nat) (A : Option Addr) (n c : Nat) (l : List UInt8) (e : Ending) (w' : World) : Rr ByteArray → Prop
  | .bad p x => e = .returned (.tuple #[.string ⟨#[]⟩, metV (p : Nat) (x : Nat)]) ∧ Only w w' (fun b => b = g)
  | .ok s k => e = .returned (.tuple #[.string s, .nilIface]) ∧ Re w' g A n c l k ∧ Only w w' (fun b => b = g)

set_option maxRecDepth 8000 in
set_option maxHeartbeats 4000000 in
theorem keyR_any {w : World} {g : Nat} {A : Option Addr} {n c k : Nat} {l : List UInt8} (h : Re w g A n c l k) (last : ByteArray) :
    Calls Tryd.prog 46 #[.pointer (some ⟨g, 0, none⟩), .string last] w fun e w' => KeyR w g A n c l e w' (rkey l k last) := by
  have hnum := numR_any h 2 1 4000 (by omega)
  have hok := fun r k' (q : rnum l k 2 1 4000 = .ok r k') => rnum_ok q (by rw [h.len]; exact h.hk)
  unfold rkey
  generalize rnum l k 2 1 4000 = R at *
  clear h
  rcases R with ⟨p, x⟩ | ⟨m, k1⟩
  · simp only [NumR, metV, KeyR] at hnum ⊢
    go_enter Tryd.func46, Tryd.ntmps46
    go_wp2_with fail
    refine hnum.mono ?_
    rintro e w1 ⟨rfl, ho1⟩
    go_wp2
    go_ret2
    exact ⟨rfl, ho1⟩
  · obtain ⟨hkk, hk1, hm1, hm2, -⟩ := hok m k1 rfl
    have hk1' : k1 ≤ l.length := by omega
    clear hok hkk hk1
    dsimp only
    have ht := fun w1 (h1 : Re w1 g A n c l k1) => takR_any h1 m (by omega)
    generalize rtake l k1 m = T at *
    simp only [NumR] at hnum
    rcases T with ⟨p, x⟩ | ⟨d, k2⟩
    · simp only [TakR, metV, KeyR] at ht ⊢
      have HT := Lib.hid ht
      clear ht
      go_enter Tryd.func46, Tryd.ntmps46
      go_wp2_with fail
      refine hnum.mono ?_
      rintro e w1 ⟨rfl, h1, ho1⟩
      have x1 := h1.rd.at_
      go_wp2_with fail
      refine (HT.out _ h1).mono ?_
      rintro e w2 ⟨rfl, ho2⟩
      go_wp2
      go_ret2
      exact ⟨rfl, ho1.trans ho2 fun _ _ h => h⟩
    · obtain ⟨s, hs⟩ : ∃ s, (⟨d.toArray⟩ : ByteArray) = s := ⟨_, rfl⟩
      simp only [TakR, hs] at ht ⊢
      have HT := Lib.hid ht
      have HS := Lib.hid hs
      clear ht hs
      by_cases hle : sle s last = true
      · rw [if_pos hle]
        have hle' : (Op.bytesLess s.toList last.toList || s.toList == last.toList) = true := hle
        clear hle
        simp only [KeyR, metV]
        go_enter Tryd.func46, Tryd.ntmps46
        go_wp2_with fail
        refine hnum.mono ?_
        rintro e w1 ⟨rfl, h1, ho1⟩
        have x1 := h1.rd.at_
        go_wp2_with fail
        refine (HT.out _ h1).mono ?_
        rintro e w2 ⟨A', c', rfl, hs2, hc1, hc2, h2, ho2⟩
        have hks := run_string_seg (P := Tryd.prog) w2 28 9 5 bt Tryd.underlying9 A' d.length c' d hs2
        rw [HS.out] at hks
        clear hs2 x1
        go_wp2
        go_ret2
        exact ⟨rfl, ho1.trans ho2 fun _ _ h => h⟩
      · rw [if_neg hle]
        have hle' : (Op.bytesLess s.toList last.toList || s.toList == last.toList) = false := by simpa [sle] using hle
        clear hle
        simp only [KeyR]
        go_enter Tryd.func46, Tryd.ntmps46
        go_wp2_with fail
        refine hnum.mono ?_
        rintro e w1 ⟨rfl, h1, ho1⟩
        have x1 := h1.rd.at_
        go_wp2_with fail
        refine (HT.out _ h1).mono ?_
        rintro e w2 ⟨A', c', rfl, hs2, hc1, hc2, h2, ho2⟩
        have hks := run_string_seg (P := Tryd.prog) w2 28 9 5 bt Tryd.underlying9 A' d.length c' d hs2
        rw [HS.out] at hks
        clear hs2 x1
        go_wp2
        go_ret2
        exact ⟨rfl, h2, ho1.trans ho2 fun _ _ h => h⟩

/-- What 'row' answers. -/
def RowR (w : World) (g : Nat) (A : Option Addr) (n c : Nat) (l : List UInt8) (e : Ending) (w' : World) : Rr (List UInt8) → Prop
  | .bad p x => e = .returned (.tuple #[.slice none 0 0, metV (p : Nat) (x : Nat)]) ∧ Only w w' (fun b => b = g)
  | .ok d k => ∃ v, e = .returned (.tuple #[v, .nilIface]) ∧ Own w' w.heap.size 5 v d ∧ Re w' g A n c l k ∧ Only w w' (fun b => b = g)

set_option maxHeartbeats 4000000 in
theorem rowR_any {w : World} {g : Nat} {A : Option Addr} {n c k : Nat} {l : List UInt8} (h : Re w g A n c l k) :
    Calls Tryd.prog 47 #[.pointer (some ⟨g, 0, none⟩)] w fun e w' => RowR w g A n c l e w' (rrow l k) := by
  have hnum := numR_any h 2 0 4000 (by omega)
  have hok := fun r k' (q : rnum l k 2 0 4000 = .ok r k') => rnum_ok q (by rw [h.len]; exact h.hk)
  unfold rrow
  generalize rnum l k 2 0 4000 = R at *
  clear h
  rcases R with ⟨p, x⟩ | ⟨m, k1⟩
  · simp only [NumR, metV, RowR] at hnum ⊢
    go_enter Tryd.func47, Tryd.ntmps47
    go_wp2_with fail
    refine hnum.mono ?_
    rintro e w1 ⟨rfl, ho1⟩
    go_wp2
    go_ret2
    exact ⟨rfl, ho1⟩
  · obtain ⟨hkk, hk1, hm1, hm2, -⟩ := hok m k1 rfl
    have hk1' : k1 ≤ l.length := by omega
    clear hok hkk hk1
    dsimp only
    have ht := fun w1 (h1 : Re w1 g A n c l k1) => takR_any h1 m (by omega)
    have htk : ∀ d k2, rtake l k1 m = .ok d k2 → d.length ≤ m := fun d k2 q => by
      obtain ⟨_, _, rfl⟩ := rtake_ok q (by omega)
      rw [List.length_take]; omega
    generalize rtake l k1 m = T at *
    simp only [NumR] at hnum
    rcases T with ⟨p, x⟩ | ⟨d, k2⟩
    · simp only [TakR, metV, RowR] at ht ⊢
      have HT := Lib.hid ht
      clear ht htk
      go_enter Tryd.func47, Tryd.ntmps47
      go_wp2_with fail
      refine hnum.mono ?_
      rintro e w1 ⟨rfl, h1, ho1⟩
      go_wp2_with fail
      refine (HT.out _ h1).mono ?_
      rintro e w2 ⟨rfl, ho2⟩
      go_wp2
      go_ret2
      exact ⟨rfl, ho1.trans ho2 fun _ _ h => h⟩
    · have hdl : d.length ≤ 1000000 := by
        have := htk d k2 rfl
        omega
      simp only [TakR, RowR] at ht ⊢
      have HT := Lib.hid ht
      clear ht htk
      go_enter Tryd.func47, Tryd.ntmps47
      go_wp2_with fail
      refine hnum.mono ?_
      rintro e w1 ⟨rfl, h1, ho1⟩
      go_wp2_with fail
      refine (HT.out _ h1).mono ?_
      rintro e w2 ⟨A', c', rfl, hs2, hc1, hc2, h2, ho2⟩
      have hoo := ho1.trans ho2 fun _ _ h => h
      clear ho1 ho2 h1
      obtain ⟨q, hq⟩ : ∃ q, d.length = q := ⟨_, rfl⟩
      rw [hq] at hs2 hc1 hdl ⊢
      clear hq
      go_wp2_with fail
      refine (clone_any A' q c' d _ hs2 (by omega)).mono ?_
      rintro e w3 ⟨v3, rfl, ho3, hb3⟩
      go_wp2
      go_ret2
      exact ⟨v3, rfl, ho3.mono (by have := hoo.size; omega), h2.below hb3, hoo.trans (Only.of_below (S := fun _ => False) hb3) fun _ _ h => h.elim⟩

end Go.Proofs.YtipfhcljdginoaaDoor
