/-
  The walk of the law ProofBuilds.
-/
import Derived.Test.YtpbjianhkjjgkaaDoorYMA10
import Derived.Test.YtpbjianhkjjgkaaDoorYBB3
namespace Go.Proofs.YtpbjianhkjjgkaaDoor
open Go.RowKit

theorem run_two (W : World) (q : Nat) (hq : q < 256) :
    (convert 29 9 (.slice (some ⟨W.heap.size, 0, none⟩) 2 2)).run Tryd.prog (W.alloc (.cells #[.int .u8 107, .int .u8 (q : Int)] 5)) = .ok (.string ⟨#[107, UInt8.ofNat q]⟩) (W.alloc (.cells #[.int .u8 107, .int .u8 (q : Int)] 5)) := by
  rw [run_string_seg (P := Tryd.prog) _ 29 9 5 bt Tryd.underlying9 _ 2 2 [107, UInt8.ofNat q] (Seg.newAt W _ 5 _ _ 2 rfl (by simp [cellsB]; omega) rfl)]

set_option maxRecDepth 8000 in
set_option maxHeartbeats 16000000 in
theorem proofBuilds_core (A : Option Addr) (n c : Nat) (L : List TAct) (k : Nat) (s : ByteArray) (w : World) (ha : SegTA w A n L) (hnc : n ≤ c) (hcm : c ≤ maxLen) (hk : k < 256) (hsm : SmallA 30 L) (h40 : s.size ≤ 40) (ht : Tab w) :
    Calls Tryd.prog 8 #[.slice A n c, .int .u8 (k : Int), .string s] w fun e w' => e = .returned (.bool true) ∧ Below w.heap.size w w' := by
  have d40 : decide ((40 : Int) < (s.size : Int)) = false := decide_eq_false (by omega)
  obtain ⟨q, hq⟩ : ∃ q, k % 26 = q := ⟨_, rfl⟩
  have hq26 : q < 26 := by omega
  have hm : (k : Int) % 26 = (q : Int) := by omega
  have hm2 : (k : Int).tmod 26 = (q : Int) := by rw [Int.tmod_eq_emod_of_nonneg (by omega)]; omega
  have kc := fun W => run_two W q (by omega)
  obtain ⟨K, hK⟩ : ∃ K : ByteArray, ⟨#[107, UInt8.ofNat q]⟩ = K := ⟨_, rfl⟩
  have hKs : K.size = 2 := by rw [← hK]; rfl
  simp only [hK] at kc
  have hI := madeI_its L
  have hgm := Good.root hI.1 hI.2
  have hrw := madeI_row hsm
  obtain ⟨d1, hd1, hs1⟩ := stop_ex (sumT K) hgm
  obtain ⟨d2, hd2, hs2⟩ := stop_ex (sumT s) hgm
  have HMA := Lib.hid (fun W (h : Below w.heap.size w W) => made10_any A n c L W (ha.below h) hcm hnc hsm.1 (Tab.below ht h))
  have HSM := Lib.hid (fun W (h : Below w.heap.size w W) => small10_any A n c L true W (ha.below h) hcm hnc ⟨fun _ => hsm, fun _ => rfl⟩)
  have hrw1 : ∀ x ∈ madeI L, x.2.length ≤ 100000 := fun x hx => by have := hrw x hx; omega
  obtain ⟨m, hmm⟩ : ∃ m, madeI L = m := ⟨_, rfl⟩
  simp only [hmm] at HMA hI hgm hrw hrw1 hs1 hs2
  have HR1 := Lib.hid (show ∀ d K, (bldP K m d).row.length ≤ 1000000 from fun d K => Nat.le_trans (bldP_row hrw) (by omega))
  have HR2 := Lib.hid (show ∀ d K, d ≤ 256 → (bldP K m d).side.length ≤ 1000000 from fun d K h => by rw [bldP_side, sidesI_len]; omega)
  have HB1 := Lib.hid (fun (p : Value) (W : World) (h1 : TreeAt W (tree 256 m 0) p) (h2 : Tab W) => pbuild_any m K d1 p W hI (by omega) hs1 h1 h2)
  have HB2 := Lib.hid (fun (p : Value) (W : World) (h1 : TreeAt W (tree 256 m 0) p) (h2 : Tab W) => pbuild_any m s d2 p W hI (by omega) hs2 h1 h2)
  have HD1 := Lib.hid (fun (A : Option Addr) (n c : Nat) (S : List ItS) (W : World) (h1 : SegG itLay W A n S) (h2 : ItsAt W S m) => rbuild_any A n c S m K d1 W h1 h2 hI hrw1 (by omega) hs1)
  have HD2 := Lib.hid (fun (A : Option Addr) (n c : Nat) (S : List ItS) (W : World) (h1 : SegG itLay W A n S) (h2 : ItsAt W S m) => rbuild_any A n c S m s d2 W h1 h2 hI hrw1 (by omega) hs2)
  clear hmm hsm hrw hrw1 hgm hs1 hs2 hI hK hq ha hKs hnc
  go_enter Tryd.func8, Tryd.ntmps8
  go_wp2_with fail
  refine (bare_any _ ht).mono ?_
  rintro e w1 ⟨rfl, hb1⟩
  go_wp2_with fail
  refine (HSM.out _ hb1).mono ?_
  rintro e w2 ⟨rfl, rfl⟩
  go_wp2_with fail
  refine (HMA.out _ hb1).mono ?_
  rintro e w3 ⟨p, sv, S, rfl, hp, hso, hsi, hb3⟩
  have hb := Below.next' hb1 hb3 hb1.size
  obtain ⟨pq, rfl⟩ := hp.ptr
  obtain ⟨SA, sc, rfl, hsg, _, _⟩ := hso.forms
  have hal := (Below.refl w3.heap.size w3).alloc (Nat.le_refl _) (.cells #[.int .u8 107, .int .u8 (q : Int)] 5)
  have HAL := Lib.hid (And.intro (hp.below hal) (And.intro (hsg.below hal) (And.intro (hsi.below hal) (Below.next' hb hal hb.size))))
  clear hp hso hsi hsg hb hal hb1 hb3 HMA HSM
  go_wp2_with fail
  obtain ⟨hp, hsg, hsi, hb⟩ := HAL.out
  clear HAL
  generalize w3.alloc (.cells #[.int .u8 107, .int .u8 (q : Int)] 5) = w4 at *
  refine (HB1.out _ _ hp (Tab.below ht hb)).mono ?_
  rintro e w5 ⟨u5, rfl, hu5, hb5⟩
  have hp := hp.below hb5
  have hsg := hsg.below hb5
  have hsi := hsi.below hb5
  have hb := Below.next' hb hb5 hb.size
  have hu5 := hu5.at_
  clear hb5 HB1
  go_wp2_with fail
  refine (HD1.out _ _ _ _ _ hsg hsi).mono ?_
  rintro e w6 ⟨u6, rfl, hu6, hb6⟩
  have hp := hp.below hb6
  have hsg := hsg.below hb6
  have hsi := hsi.below hb6
  have hu5 := hu5.below hb6
  have hb := Below.next' hb hb6 hb.size
  have hu6 := hu6.at_
  clear hb6 HD1
  go_wp2_with fail
  refine (like_any u5 u6 _ _ true _ hu5 hu6 (HR2.out _ _ hd1) (HR1.out _ _) ⟨fun _ => rfl, fun _ => rfl⟩).mono ?_
  rintro e w7 ⟨rfl, hb7⟩
  have hp := hp.below hb7
  have hsg := hsg.below hb7
  have hsi := hsi.below hb7
  have hb := Below.next' hb hb7 hb.size
  clear hb7 hu5 hu6
  go_wp2_with fail
  refine (HB2.out _ _ hp (Tab.below ht hb)).mono ?_
  rintro e w8 ⟨u8, rfl, hu8, hb8⟩
  have hsg := hsg.below hb8
  have hsi := hsi.below hb8
  have hb := Below.next' hb hb8 hb.size
  have hu8 := hu8.at_
  clear hb8 HB2 hp
  go_wp2_with fail
  refine (HD2.out _ _ _ _ _ hsg hsi).mono ?_
  rintro e w9 ⟨u9, rfl, hu9, hb9⟩
  have hu8 := hu8.below hb9
  have hb := Below.next' hb hb9 hb.size
  have hu9 := hu9.at_
  clear hb9 HD2 hsg hsi
  go_wp2_with fail
  refine (like_any u8 u9 _ _ true _ hu8 hu9 (HR2.out _ _ hd2) (HR1.out _ _) ⟨fun _ => rfl, fun _ => rfl⟩).mono ?_
  rintro e w10 ⟨rfl, hb10⟩
  have hb := Below.next' hb hb10 hb.size
  clear hb10 hu8 hu9
  go_wp2
  go_ret
  exact ⟨rfl, hb⟩

set_option maxRecDepth 8000 in
set_option maxHeartbeats 4000000 in
theorem proofBuilds_long (A : Option Addr) (n c : Nat) (L : List TAct) (k : Nat) (s : ByteArray) (w : World) (ha : SegTA w A n L) (hnc : n ≤ c) (hcm : c ≤ maxLen) (h : ¬ SmallA 30 L ∨ 40 < s.size) (ht : Tab w) :
    Calls Tryd.prog 8 #[.slice A n c, .int .u8 (k : Int), .string s] w fun e w' => e = .returned (.bool true) ∧ Below w.heap.size w w' := by
  by_cases hs : SmallA 30 L
  · have d40 : decide ((40 : Int) < (s.size : Int)) = true := decide_eq_true (by have h1 : 40 < s.size := h.resolve_left (fun h => h hs); omega)
    have HSM := Lib.hid (fun W (h : Below w.heap.size w W) => small10_any A n c L true W (ha.below h) hcm hnc ⟨fun _ => hs, fun _ => rfl⟩)
    clear ha h hs
    go_enter Tryd.func8, Tryd.ntmps8
    go_wp2_with fail
    refine (bare_any _ ht).mono ?_
    rintro e w1 ⟨rfl, hb1⟩
    go_wp2_with fail
    refine (HSM.out _ hb1).mono ?_
    rintro e w2 ⟨rfl, rfl⟩
    go_wp2_with fail
    refine (bare_any _ (Tab.below ht hb1)).mono ?_
    rintro e w3 ⟨rfl, hb3⟩
    go_wp2
    go_ret
    exact ⟨rfl, Below.next' hb1 hb3 hb1.size⟩
  · have HSM := Lib.hid (fun W (h : Below w.heap.size w W) => small10_any A n c L false W (ha.below h) hcm hnc ⟨fun h => Bool.noConfusion h, fun h => absurd h hs⟩)
    clear ha h hs
    go_enter Tryd.func8, Tryd.ntmps8
    go_wp2_with fail
    refine (bare_any _ ht).mono ?_
    rintro e w1 ⟨rfl, hb1⟩
    go_wp2_with fail
    refine (HSM.out _ hb1).mono ?_
    rintro e w2 ⟨rfl, rfl⟩
    go_wp2_with fail
    refine (bare_any _ (Tab.below ht hb1)).mono ?_
    rintro e w3 ⟨rfl, hb3⟩
    go_wp2
    go_ret
    exact ⟨rfl, Below.next' hb1 hb3 hb1.size⟩

theorem proofBuilds_walk (A : Option Addr) (n c : Nat) (L : List TAct) (y : Int) (s : ByteArray) (w : World) (ha : SegTA w A n L) (hnc : n ≤ c) (hcm : c ≤ maxLen) (hy : (Lit.int .u8 y).wf = true) (_ : s.size ≤ maxLen) (ht : Tab w) :
    Calls Tryd.prog 8 #[.slice A n c, .int .u8 y, .string s] w fun e w' => e = .returned (.bool true) ∧ Below w.heap.size w w' := by
  have hb := bounds_u8 hy
  obtain ⟨k, rfl⟩ := Int.eq_ofNat_of_zero_le (show 0 ≤ y by omega)
  by_cases h : SmallA 30 L ∧ s.size ≤ 40
  · exact proofBuilds_core A n c L k s w ha hnc hcm (by omega) h.1 h.2 ht
  · refine proofBuilds_long A n c L k s w ha hnc hcm ?_ ht
    by_cases h1 : SmallA 30 L
    · exact .inr (by have : ¬ s.size ≤ 40 := fun h2 => h ⟨h1, h2⟩; omega)
    · exact .inl h1

end Go.Proofs.YtpbjianhkjjgkaaDoor
