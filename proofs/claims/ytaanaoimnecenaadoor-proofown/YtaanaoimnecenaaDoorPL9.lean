/-
  Build at a tree of one key; the walk of the law ProofOwn.
-/
import Derived.Test.YtaanaoimnecenaaDoorPL6
import Derived.Test.YtaanaoimnecenaaDoorMemR
import Derived.Test.YtaanaoimnecenaaDoorL60
import Derived.Test.YtaanaoimnecenaaDoorOpen
namespace Go.Proofs.YtaanaoimnecenaaDoor
open Go.RowKit Go.ChangeShapes Go.WideShapes

section
variable {w : World} {B g : Nat} {k : ByteArray} {v : Value} {l : List UInt8} {d : ByteArray}
theorem halves_leaf (h : Lf w B g k v l d) : Calls Tryd.prog 32 #[.pointer (some ⟨g, 0, none⟩)] w fun e w' => e = .returned (.tuple #[.pointer none, .pointer none, .bool false]) ∧ w' = w := by
  go_enter Tryd.func32, Tryd.ntmps32
  go_wp2_with fail
  refine (nlen_leaf h).mono ?_
  rintro e w1 ⟨rfl, rfl⟩
  go_wp2
  go_ret3
  exact ⟨rfl, rfl⟩

set_option maxHeartbeats 4000000 in
theorem follow_leaf (h : Lf w B g k v l d) (s : ByteArray) : Calls Tryd.prog 72 #[.pointer (some ⟨g, 0, none⟩), .string s] w fun e w' => e = .returned (.tuple #[.pointer (some ⟨g, 0, none⟩), .slice none 0 0]) ∧ w' = w := by
  go_enter Tryd.func72, Tryd.ntmps72
  go_wp2_with fail
  go_loopw [0, 6] (fun p u w' => p = .pointer (some ⟨g, 0, none⟩) ∧ u = .slice none 0 0 ∧ w' = w) (fun _ _ _ => 0)
  case atStart => exact ⟨rfl, rfl, rfl⟩
  case round =>
    obtain ⟨rfl, rfl, rfl⟩ := hrel
    go_wp2_with fail
    refine (halves_leaf h).mono ?_
    rintro e w1 ⟨rfl, rfl⟩
    go_wp2
    go_ret2
    exact ⟨rfl, rfl⟩

set_option maxRecDepth 4000 in
set_option maxHeartbeats 4000000 in
theorem build_leaf (h : Lf w B g k v l d) (hk : k.size ≤ 1000) (hl : l.length ≤ 100000) (ht : Tab w) :
    Calls Tryd.prog 41 #[.pointer (some ⟨g, 0, none⟩), .string k] w fun e w' => ∃ u, e = .returned (.agg #[.slice none 0 0, .int .u8 1, .string ⟨#[]⟩, u]) ∧ Own w' w.heap.size 5 u l ∧ Below w.heap.size w w' := by
  have kcv := fun W => Lib.run_convert_string_bytes (P := Tryd.prog) W 9 29 5 k Tryd.underlying9 Tryd.underlying29 Tryd.underlying5
  have hbel := (Below.refl w.heap.size w).alloc (Nat.le_refl _) (.cells #[.slice none 0 0, .int .u8 0, .string ⟨#[]⟩, .slice none 0 0] 65)
  have hz : (w.alloc (.cells #[.slice none 0 0, .int .u8 0, .string ⟨#[]⟩, .slice none 0 0] 65)).heap.size = w.heap.size + 1 := by simp
  have HQ := Lib.hid (And.intro (Bx.new w (.slice none 0 0) (.int .u8 0) (.string ⟨#[]⟩) (.slice none 0 0) 65) (And.intro hbel (And.intro (h.below hbel) (And.intro hz (Tab.below ht hbel)))))
  have hke : (k.toList == k.toList) = true := by simp
  clear hbel hz
  go_enter Tryd.func41, Tryd.ntmps41
  go_wp2_with fail
  obtain ⟨hq0, hbel, hlf, hz, ht1⟩ := HQ.out
  obtain ⟨b0, hb0⟩ : ∃ b0, w.heap.size = b0 := ⟨_, rfl⟩
  rw [hb0] at hq0 hbel hz ⊢
  have HB0 := Lib.hid hb0
  clear hb0 HQ
  generalize w.alloc (.cells #[.slice none 0 0, .int .u8 0, .string ⟨#[]⟩, .slice none 0 0] 65) = wa at *
  have hb1 := bytesBelow wa 5 k
  have hsg := bytesSeg wa 5 k
  rw [hz] at hsg
  refine (sum_any _ k.size _ k.data.toList _ hsg (by omega) (Tab.below ht1 hb1)).mono ?_
  rintro e w1 ⟨rfl, hb2⟩
  have hbw1 := Below.next' hb1 hb2 hb1.size
  have hq1 := hq0.below hbw1
  have hlf1 := hlf.below hbw1
  have hbelw := hbel.trans (hbw1.mono (by omega))
  have hz1 := hbw1.size
  generalize (⟨(sha k.data.toList).toArray⟩ : ByteArray) = D at *
  clear hb1 hb2 kcv hq0 hbel hsg hlf hbw1
  go_wp2_with fail
  refine (follow_leaf hlf1 _).mono ?_
  rintro e w2 ⟨rfl, rfl⟩
  rename World => w2
  have hal := (Below.refl w2.heap.size w2).alloc (Nat.le_refl _) (.cells #[.slice none 0 0, .int .u8 0, .string ⟨#[]⟩, .slice none 0 0] 65)
  have hzp : (w2.alloc (.cells #[.slice none 0 0, .int .u8 0, .string ⟨#[]⟩, .slice none 0 0] 65)).heap.size = w2.heap.size + 1 := by simp
  have HQ := Lib.hid (And.intro (hq1.below hal) (And.intro (Bx.new w2 (.slice none 0 0) (.int .u8 0) (.string ⟨#[]⟩) (.slice none 0 0) 65) (And.intro (hlf1.below hal) (And.intro (Below.next' hbelw hal (by omega)) hzp))))
  clear hal hzp hq1 hbelw hlf1
  go_wp2_with fail
  obtain ⟨hq2, hq3, hlf2, hbel2, hzp⟩ := HQ.out
  clear HQ
  generalize w2.alloc (.cells #[.slice none 0 0, .int .u8 0, .string ⟨#[]⟩, .slice none 0 0] 65) = w3 at *
  generalize w2.heap.size = b3 at *
  refine (leaf_leaf hlf2 hl).mono ?_
  rintro e w4 ⟨u, rfl, hou, hb4⟩
  obtain ⟨n, hn⟩ : ∃ n, l.length = n := ⟨_, rfl⟩
  obtain ⟨Au, cu, hue, _, _, _⟩ := hou.forms
  rw [hn] at hue
  subst hue
  have hq2 := hq2.below hb4
  have hq3 := hq3.below hb4
  have hbel4 := Below.next' hbel2 hb4 (by omega)
  have hz4 := hb4.size
  clear hb4 hbel2 hlf2
  obtain ⟨x0, x1, x2, x3, xf⟩ := hq3
  have xf1 := xf 1
  have xf3 := xf 3
  obtain ⟨y0, y1, y2, y3, yf⟩ := hq2
  have yf0 := yf 0
  have yf1 := yf 1
  have yf2 := yf 2
  have yf3 := yf 3
  have hq2 : Bx w4 b0 _ _ _ _ := ⟨y0, y1, y2, y3, yf⟩
  clear xf yf
  have hon := ((Only.refl w4 (fun k => k = b3)).setCell ⟨b3, 1, none⟩ (.int .u8 1) (fun _ => rfl)).setCell ⟨b3, 3, none⟩ (.slice Au n cu) (fun _ => rfl)
  obtain ⟨hf, hfo⟩ := (hq2.only hon (by omega)).set4 (.slice none 0 0) (.int .u8 1) (.string ⟨#[]⟩) (.slice Au n cu)
  have hof : Only w4 _ (fun k => k = b0 ∨ k = b3) := (hon.mono (fun _ _ h => .inr h)).trans hfo (fun i hi e => .inl e)
  go_wp2
  refine bodyPost_ret (v := .agg #[.slice none 0 0, .int .u8 1, .string ⟨#[]⟩, .slice Au n cu]) (by simp [results, Tryd.results41, go_sem, hf.c0, hf.c1, hf.c2, hf.c3]) rfl ⟨_, rfl, ?_, ?_⟩
  · rw [HB0.out]
    exact (hou.only hof (fun k hk e => by have := (hou.lt k hk).1; omega)).mono (by omega)
  · rw [HB0.out]
    exact hof.below hbel4 (fun k e => by omega) (by omega)
end

set_option maxRecDepth 8000 in
set_option maxHeartbeats 16000000 in
theorem proofOwn_core (A : Option Addr) (n c : Nat) (l : List UInt8) (y : Int) (w : World) (ha : Seg w A n l) (h1 : n ≤ 40) (ht : Tab w) :
    Calls Tryd.prog 15 #[.slice A n c, .int .u8 y] w fun e w' => e = .returned (.bool true) ∧ Below w.heap.size w w' := by
  have d0 : decide ((40 : Int) < (n : Int)) = false := decide_eq_false (by omega)
  have HLN := Lib.hid ha.1
  obtain ⟨K, hK⟩ : ∃ K : ByteArray, (⟨#[107]⟩ : ByteArray) = K := ⟨_, rfl⟩
  have hks : K.size ≤ 1000 := by rw [← hK]; decide
  have HPN := Lib.hid (show ∃ p : Pf, p = ⟨[], 1, ⟨#[]⟩, l⟩ from ⟨_, rfl⟩)
  obtain ⟨p, hp⟩ := HPN.out
  have hdp : pdec (penc p) = (p, 0) := by
    subst hp
    exact pdec_penc _ (Nat.zero_le _) (fun s hs => by cases hs) (by show 1 ≤ 2; omega) (Nat.zero_le _) (by show l.length ≤ 4000; rw [ha.1]; omega) (fun _ => rfl) (fun h => absurd h (by show ¬ 1 = 0; omega))
  have hel := penc_len p (by subst hp; exact Nat.zero_le _) (by subst hp; intro s hs; cases hs) (by subst hp; exact Nat.zero_le _) (by subst hp; show l.length ≤ 5000; rw [ha.1]; omega)
  have hen := fun (W : World) (A3 : Option Addr) (c3 : Nat) (h3 : Seg W A3 n l) (hc : n ≤ c3) (hm : c3 ≤ maxLen) => pencode_any (.agg #[.slice none 0 0, .int .u8 1, .string ⟨#[]⟩, .slice A3 n c3]) p W
    (by subst hp; exact pfat_of (k := 1) (SegG.nil _ _) h3 rfl ha.1 (Nat.le_refl _) (Nat.zero_le _) hc hm)
    (by subst hp; exact Nat.zero_le _) (by subst hp; intro s hs; cases hs) (by subst hp; exact Nat.zero_le _) (by subst hp; show l.length ≤ 10000; rw [ha.1]; omega) (by subst hp; show 1 < 256; omega)
  obtain ⟨E, hE⟩ : ∃ E, penc p = E := ⟨_, rfl⟩
  rw [hE] at hdp hel
  simp only [hE] at hen
  obtain ⟨N, hN⟩ : ∃ N, E.length = N := ⟨_, rfl⟩
  rw [hN] at hel
  have hde := fun (W : World) (A3 : Option Addr) (c3 : Nat) (h3 : Seg W A3 N E) (hc : N ≤ c3) (hm : c3 ≤ maxLen) => pdecode_any A3 N c3 E W h3 hc hm (by omega) h3.lt
  rw [hdp] at hde
  have hde2 := fun (W : World) (A3 : Option Addr) (c3 : Nat) (h3 : Seg W A3 N E) (hc : N ≤ c3) (hm : c3 ≤ maxLen) => (hde W A3 c3 h3 hc hm).mono (R' := fun e w' => ∃ A1 c1 A2 c2, e = .returned (.tuple #[.agg #[.slice A1 0 c1, .int .u8 1, .string ⟨#[]⟩, .slice A2 n c2], .int .i64 0]) ∧ Own w' W.heap.size 5 (.slice A2 n c2) l ∧ Below W.heap.size W w') (by
    subst hp
    rintro e w' ⟨u, rfl, ⟨v1, v2, rfl, hv1, hv2⟩, hb⟩
    obtain ⟨A1, c1, rfl, _, _, _⟩ := hv1.forms
    obtain ⟨A2, c2, hve, _, _, _⟩ := hv2.forms
    have hve : v2 = .slice A2 l.length c2 := hve
    rw [HLN.out] at hve
    subst hve
    exact ⟨A1, c1, A2, c2, rfl, hv2, hb⟩)
  have HEN := Lib.hid hen
  have HDE := Lib.hid hde2
  have HNE := Lib.hid hN
  clear hdp hen hde hde2 hp HPN hE hN
  go_enter Tryd.func15, Tryd.ntmps15
  rw [hK]
  clear hK
  go_wp2_with fail
  refine (bare_any _ ht).mono ?_
  rintro e w1 ⟨rfl, hb1⟩
  go_wp2_with fail
  refine (put_nil K A n c l _ (ha.below hb1) hks (by omega) (Tab.below ht hb1)).mono ?_
  generalize (⟨(sha (leafL K.data.toList l)).toArray⟩ : ByteArray) = D at *
  rintro e w2 ⟨g, v2, rfl, hlf, hb2⟩
  have hbw2 := Below.next' hb1 hb2 hb1.size
  have hlS := hlf.ltS
  have hz2 := hbw2.size
  have hz12 := hb2.size
  have hgB := hlf.geS
  clear hb1 hb2
  go_wp2_with fail
  refine (build_leaf hlf hks (by rw [HLN.out]; omega) (Tab.below ht hbw2)).mono ?_
  rintro e w3 ⟨u3, rfl, ho3, hb3⟩
  obtain ⟨A3, c3, rfl, hs3, hc3, hm3⟩ := ho3.formsn n HLN.out
  have hwr3 := own_wr ho3
  have hlf3 := hlf.below hb3
  have hbw3 := Below.next' hbw2 hb3 hbw2.size
  have hz3 := hb3.size
  have hal := (Below.refl w3.heap.size w3).alloc (Nat.le_refl _) (.cells #[.slice none 0 0, .int .u8 1, .string ⟨#[]⟩, .slice A3 n c3] 65)
  have hzp : (w3.alloc (.cells #[.slice none 0 0, .int .u8 1, .string ⟨#[]⟩, .slice A3 n c3] 65)).heap.size = w3.heap.size + 1 := by simp
  have HQ := Lib.hid (And.intro (Bx.new w3 (.slice none 0 0) (.int .u8 1) (.string ⟨#[]⟩) (.slice A3 n c3) 65) (And.intro (hlf3.below hal) (And.intro (hwr3.below hal) (And.intro (hs3.below hal) (And.intro (Below.next' hbw3 hal hbw3.size) hzp)))))
  clear hal hzp hlf hlf3 ho3 hwr3 hs3 hbw2 hbw3 hb3
  go_wp2_with fail
  obtain ⟨hq6, hlf4, hwr4, hs4, hbw4, hzp⟩ := HQ.out
  clear HQ
  generalize w3.alloc (.cells #[.slice none 0 0, .int .u8 1, .string ⟨#[]⟩, .slice A3 n c3] 65) = w4 at *
  refine (HEN.out w4 A3 c3 hs4 hc3 hm3).mono ?_
  rintro e w5 ⟨v5, rfl, ho5, hb5⟩
  obtain ⟨A5, c5, rfl, hs5, hc5, hm5⟩ := ho5.formsn N HNE.out
  have hwr5 := own_wr ho5
  have hq6 := hq6.below hb5
  have hlf5 := hlf4.below hb5
  have hwp5 := hwr4.below hb5
  have hbw5 := Below.next' hbw4 hb5 hbw4.size
  have hz5 := hb5.size
  clear hlf4 hwr4 hs4 hbw4 hb5 ho5 HEN
  go_wp2_with fail
  refine (HDE.out w5 A5 c5 hs5 hc5 hm5).mono ?_
  rintro e w6 ⟨A8, c8, A9, c9, rfl, ho9, hb6⟩
  have hal := (Below.refl w6.heap.size w6).alloc (Nat.le_refl _) (.cells #[.slice A8 0 c8, .int .u8 1, .string ⟨#[]⟩, .slice A9 n c9] 65)
  have hzq : (w6.alloc (.cells #[.slice A8 0 c8, .int .u8 1, .string ⟨#[]⟩, .slice A9 n c9] 65)).heap.size = w6.heap.size + 1 := by simp
  have hb7 : Below w5.heap.size w5 _ := Below.next' hb6 hal hb6.size
  have HQ := Lib.hid (And.intro (Bx.new w6 (.slice A8 0 c8) (.int .u8 1) (.string ⟨#[]⟩) (.slice A9 n c9) 65) (And.intro (hlf5.below hb7) (And.intro (hwp5.below hb7) (And.intro (hq6.below hb7) (And.intro (hwr5.below hb7) (And.intro (ho9.below hal) (And.intro (Below.next' hbw5 hb7 hbw5.size) hzq)))))))
  have hz6 := hb6.size
  clear hal hzq hlf5 hwp5 hwr5 hq6 hbw5 hb6 hb7 ho9 hs5 HDE
  go_wp2_with fail
  obtain ⟨hq8, hlf7, hwp7, hq67, hwr7, ho97, hbw7, hzq⟩ := HQ.out
  clear HQ
  generalize w6.alloc (.cells #[.slice A8 0 c8, .int .u8 1, .string ⟨#[]⟩, .slice A9 n c9] 65) = w7 at *
  generalize hs6e : w6.heap.size = s6 at *
  generalize hs5e : w5.heap.size = s5 at *
  generalize hs4e : w4.heap.size = s4 at *
  generalize hs3e : w3.heap.size = s3 at *
  generalize hs2e : w2.heap.size = s2 at *
  generalize hs1e : w1.heap.size = s1 at *
  generalize hs0e : w.heap.size = s0 at *
  go_loopw [10] (fun i w' => ∃ j : Nat, j ≤ N ∧ i = .int .i64 j ∧ Wr w' s4 s5 A5 N ∧ Lf w' s1 g K v2 l D ∧ Wr w' s2 s3 A3 n ∧ Bx w' s3 (.slice none 0 0) (.int .u8 1) (.string ⟨#[]⟩) (.slice A3 n c3) ∧ Bx w' s6 (.slice A8 0 c8) (.int .u8 1) (.string ⟨#[]⟩) (.slice A9 n c9) ∧ Own w' s5 5 (.slice A9 n c9) l ∧ Below s0 w w') (fun i _ => N - (intOf i).toNat)
  case atStart => exact ⟨0, by omega, rfl, hwr7, hlf7, hwp7, hq67, hq8, ho97, hbw7⟩
  case round =>
    clear hwr7 hlf7 hwp7 hq67 hq8 ho97 hbw7
    obtain ⟨j, hj, rfl, hx, hlf, hwp, hq6, hq8, ho9, hbw⟩ := hrel
    by_cases hlt : j < N
    · obtain ⟨gx, rfl, hx1, hx2, hxj⟩ := hx (by omega)
      obtain ⟨⟨b0, q0⟩, f0⟩ := hxj j hlt
      clear hxj
      go_wp2
      go_roundw
      case rel =>
        have hs1 := fun (W : World) => only_set W gx j (.int .u8 y)
        refine ⟨j + 1, hlt, by go_num, hx.set _, hlf.only (hs1 _) (fun k hk (e : k = gx) => by have := hlS k hk; omega), hwp.only (hs1 _) (fun k h1 h2 (e : k = gx) => by omega), hq6.only (hs1 _) (show ¬ s3 = gx by omega), hq8.only (hs1 _) (show ¬ s6 = gx by omega), ho9.only (hs1 _) (fun k hk (e : k = gx) => by have := (ho9.lt k hk).1; omega), hbw.setCell (show s0 ≤ gx by omega) _⟩
      case measure => simp [intOf]; omega
    · obtain rfl : N = j := by omega
      clear hx
      rename World => wa
      go_wp2_with fail
      go_loopw [11] (fun i w' => ∃ j : Nat, j ≤ n ∧ i = .int .i64 j ∧ Lf w' s1 g K v2 l D ∧ Wr w' s2 s3 A3 n ∧ Bx w' s3 (.slice none 0 0) (.int .u8 1) (.string ⟨#[]⟩) (.slice A3 n c3) ∧ Bx w' s6 (.slice A8 0 c8) (.int .u8 1) (.string ⟨#[]⟩) (.slice A9 n c9) ∧ Own w' s5 5 (.slice A9 n c9) l ∧ Below s0 w w') (fun i _ => n - (intOf i).toNat)
      case atStart => exact ⟨0, by omega, rfl, hlf, hwp, hq6, hq8, ho9, hbw⟩
      case round =>
        clear hlf hwp hq6 hq8 ho9 hbw
        obtain ⟨j2, hj2, rfl, hlf, hx, hq6, hq8, ho9, hbw⟩ := hrel
        have x3 := hq6.c3
        by_cases hlt2 : j2 < n
        · obtain ⟨gx, rfl, hx1, hx2, hxj⟩ := hx (by omega)
          obtain ⟨⟨b0, q0⟩, f0⟩ := hxj j2 hlt2
          clear hxj
          go_wp2
          go_roundw
          case rel =>
            have hs1 := fun (W : World) => only_set W gx j2 (.int .u8 y)
            refine ⟨j2 + 1, hlt2, by go_num, hlf.only (hs1 _) (fun k hk (e : k = gx) => by have := hlS k hk; omega), hx.set _, hq6.only (hs1 _) (show ¬ s3 = gx by omega), hq8.only (hs1 _) (show ¬ s6 = gx by omega), ho9.only (hs1 _) (fun k hk (e : k = gx) => by have := (ho9.lt k hk).1; omega), hbw.setCell (show s0 ≤ gx by omega) _⟩
          case measure => simp [intOf]; omega
        · obtain rfl : n = j2 := by omega
          clear hx
          rename World => wb
          go_wp2_with fail
          subst hs0e
          refine (build_leaf hlf hks (by rw [HLN.out]; omega) (Tab.below ht hbw)).mono ?_
          rintro e w8 ⟨u8, rfl, ho8, hb8⟩
          obtain ⟨Ay, cy, rfl, hsy, _, _⟩ := ho8.formsn n HLN.out
          have hbw8 := Below.next' hbw hb8 hbw.size
          have hq8 := hq8.below hb8
          have ho9 := ho9.below hb8
          obtain ⟨_, _, hve, hs9, _, _⟩ := ho9.formsn n HLN.out
          injection hve with e1 _ e2
          subst e1 e2
          have hap := ha.below hbw8
          have hal := (Below.refl w8.heap.size w8).alloc (Nat.le_refl _) (.cells #[.slice none 0 0, .int .u8 1, .string ⟨#[]⟩, .slice Ay n cy] 65)
          have HQ := Lib.hid (And.intro (hq8.below hal) (And.intro (Bx.new w8 (.slice none 0 0) (.int .u8 1) (.string ⟨#[]⟩) (.slice Ay n cy) 65) (And.intro (hsy.below hal) (And.intro (hs9.below hal) (And.intro (hap.below hal) (Below.next' hbw8 hal hbw8.size))))))
          have hblt := hq8.lt
          obtain ⟨z0, z1, z2, z3, zf⟩ := hq8
          clear zf hal hsy hs9 hap hbw8 hb8 ho8 ho9 hbw hlf hq6 x3
          go_wp2_with fail
          obtain ⟨hq8, hqy, hsy, hs9, hap, hbw9⟩ := HQ.out
          clear HQ z0 z1 z2 z3
          generalize w8.alloc (.cells #[.slice none 0 0, .int .u8 1, .string ⟨#[]⟩, .slice Ay n cy] 65) = w9 at *
          refine (bytes_any A9 A n n c9 c l l _ hs9 hap (by simp only [maxLen]; omega)).mono ?_
          rintro e wq ⟨rfl, u, rfl⟩
          rw [show (l == l) = true by simp]
          have hD := belD w9 u
          have hqy := hqy.below hD
          have hsy := hsy.below hD
          have hap := hap.below hD
          have hbwa := Below.next' hbw9 hD hbw9.size
          clear hD hq8 hs9 hbw9
          generalize w9.drewN u = wc at *
          obtain ⟨z0, z1, z2, z3, zf⟩ := hqy
          clear zf
          go_wp2_with fail
          refine (bytes_any Ay A n n cy c l l _ hsy hap (by simp only [maxLen]; omega)).mono ?_
          rintro e wq ⟨rfl, u2, rfl⟩
          rw [show (l == l) = true by simp]
          go_wp2
          go_ret
          exact ⟨rfl, Below.next' hbwa (belD wc u2) hbwa.size⟩

theorem proofOwn_walk (A : Option Addr) (n c : Nat) (l : List UInt8) (y : Int) (w : World) (ha : Seg w A n l) (_ : n ≤ c) (_ : c ≤ maxLen) (_ : (Lit.int .u8 y).wf = true) (ht : Tab w) :
    Calls Tryd.prog 15 #[.slice A n c, .int .u8 y] w fun e w' => e = .returned (.bool true) ∧ Below w.heap.size w w' := by
  by_cases h : n ≤ 40
  · exact proofOwn_core A n c l y w ha h ht
  · have d0 : decide ((40 : Int) < (n : Int)) = true := decide_eq_true (by omega)
    go_enter Tryd.func15, Tryd.ntmps15
    go_wp2_with fail
    refine (bare_any _ ht).mono ?_
    rintro e w1 ⟨rfl, hb1⟩
    go_wp2_with fail
    refine (bare_any _ (Tab.below ht hb1)).mono ?_
    rintro e w2 ⟨rfl, hb2⟩
    go_wp2
    go_ret
    exact ⟨rfl, Below.next' hb1 hb2 hb1.size⟩

end Go.Proofs.YtaanaoimnecenaaDoor
