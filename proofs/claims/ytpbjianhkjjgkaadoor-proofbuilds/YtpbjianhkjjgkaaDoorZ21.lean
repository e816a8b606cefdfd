/-
  Texts of one claim, joined.
-/
import Derived.Test.YtpbjianhkjjgkaaDoorZ18
import Derived.Test.YtpbjianhkjjgkaaDoorZ19
import Derived.Test.YtpbjianhkjjgkaaDoorZ20
import Derived.Test.YtpbjianhkjjgkaaDoorZ11
import Derived.Test.YtpbjianhkjjgkaaDoorZ14
import Derived.Test.YtpbjianhkjjgkaaDoorZ17
namespace Go.Proofs.YtpbjianhkjjgkaaDoor
open Go.RowKit

set_option maxHeartbeats 4000000 in
theorem follow_nil (s : ByteArray) (w : World) : Calls Tryd.prog 81 #[.pointer none, .string s] w fun e w' => e = .returned (.tuple #[.pointer none, .slice none 0 0]) ∧ w' = w := by
  go_enter Tryd.func81, Tryd.ntmps81
  go_wp2_with fail
  go_loopw [0, 6] (fun p v w' => p = .pointer none ∧ v = .slice none 0 0 ∧ w' = w) (fun _ _ _ => 0)
  case atStart => exact ⟨rfl, rfl, rfl⟩
  case round =>
    obtain ⟨rfl, rfl, rfl⟩ := hrel
    go_wp2_with fail
    refine (halves_nil _).mono ?_
    rintro e w1 ⟨rfl, rfl⟩
    go_wp2
    go_ret2
    exact ⟨rfl, rfl⟩

set_option maxHeartbeats 4000000 in
theorem build_nil (k : ByteArray) (w : World) (hk : k.size ≤ 1000) (ht : Tab w) :
    Calls Tryd.prog 42 #[.pointer none, .string k] w fun e w' => e = .returned (.agg #[.slice none 0 0, .int .u8 0, .string ⟨#[]⟩, .slice none 0 0]) ∧ Below w.heap.size w w' := by
  have kcv := fun W => Lib.run_convert_string_bytes (P := Tryd.prog) W 9 29 5 k Tryd.underlying9 Tryd.underlying29 Tryd.underlying5
  have hq0 := Bx.new w (.slice none 0 0) (.int .u8 0) (.string ⟨#[]⟩) (.slice none 0 0) 65
  have hbel := (Below.refl w.heap.size w).alloc (Nat.le_refl _) (.cells #[.slice none 0 0, .int .u8 0, .string ⟨#[]⟩, .slice none 0 0] 65)
  have HB := Lib.hid hbel
  have HQ := Lib.hid hq0
  clear hbel hq0
  go_enter Tryd.func42, Tryd.ntmps42
  go_wp2_with fail
  have hq0 := HQ.out
  have hbel := HB.out
  obtain ⟨b0, hb0⟩ : ∃ b0, w.heap.size = b0 := ⟨_, rfl⟩
  have hz : (w.alloc (.cells #[.slice none 0 0, .int .u8 0, .string ⟨#[]⟩, .slice none 0 0] 65)).heap.size = w.heap.size + 1 := by simp
  rw [hb0] at hq0 hbel hz ⊢
  have HB0 := Lib.hid hb0
  clear hb0 HB HQ
  have ht1 : Tab (w.alloc (.cells #[.slice none 0 0, .int .u8 0, .string ⟨#[]⟩, .slice none 0 0] 65)) := Tab.below ht ((Below.refl w.heap.size w).alloc (Nat.le_refl _) _)
  generalize w.alloc (.cells #[.slice none 0 0, .int .u8 0, .string ⟨#[]⟩, .slice none 0 0] 65) = wa at *
  have hb1 := bytesBelow wa 5 k
  have hsg := bytesSeg wa 5 k
  rw [hz] at hsg
  refine (sum_any _ k.size _ k.data.toList _ hsg (by omega) (Tab.below ht1 hb1)).mono ?_
  rintro e w1 ⟨rfl, hb2⟩
  have hbw1 := Below.next' hb1 hb2 hb1.size
  have hq1 := hq0.below hbw1
  have hbelw := hbel.trans (hbw1.mono (by omega))
  generalize (⟨(sha k.data.toList).toArray⟩ : ByteArray) = D at *
  clear hb1 hb2 kcv hq0 hbel
  go_wp2_with fail
  refine (follow_nil _ _).mono ?_
  rintro e w2 ⟨rfl, rfl⟩
  rename World => w2
  go_wp2_with fail
  have hal := Only.alloc_ w2 (.cells #[.slice none 0 0, .int .u8 0, .string ⟨#[]⟩, .slice none 0 0] 65) (fun _ => False)
  have hq2 := hq1.only hal id
  have hq3 := Bx.new w2 (.slice none 0 0) (.int .u8 0) (.string ⟨#[]⟩) (.slice none 0 0) 65
  have hz2 := hbw1.size
  have hbel3 := hbelw.alloc (by omega) (.cells #[.slice none 0 0, .int .u8 0, .string ⟨#[]⟩, .slice none 0 0] 65)
  clear hq1 hbelw hal hbw1
  generalize w2.alloc (.cells #[.slice none 0 0, .int .u8 0, .string ⟨#[]⟩, .slice none 0 0] 65) = w3 at *
  generalize w2.heap.size = b3 at *
  refine (leaf_nil _).mono ?_
  rintro e w4 ⟨rfl, rfl⟩
  rename World => w4
  obtain ⟨x0, x1, x2, x3, xf⟩ := hq3
  have xf1 := xf 1
  obtain ⟨y0, y1, y2, y3, yf⟩ := hq2
  have yf0 := yf 0
  have yf1 := yf 1
  have yf2 := yf 2
  have yf3 := yf 3
  have hq2 : Bx w4 b0 _ _ _ _ := ⟨y0, y1, y2, y3, yf⟩
  clear xf yf
  have hs1 := only_setB w4 ⟨b3, 1, none⟩ (.int .u8 0)
  obtain ⟨hf, hfo⟩ := (hq2.only hs1 (by show ¬ b0 = b3; omega)).set4 (.slice none 0 0) (.int .u8 0) (.string ⟨#[]⟩) (.slice none 0 0)
  go_wp2
  refine bodyPost_ret (v := .agg #[.slice none 0 0, .int .u8 0, .string ⟨#[]⟩, .slice none 0 0]) (by simp [results, Tryd.results42, go_sem, hf.c0, hf.c1, hf.c2, hf.c3]) rfl ⟨rfl, ?_⟩
  rw [HB0.out]
  exact hfo.below (hs1.below hbel3 (fun k (e : k = b3) => by omega) (by have := hq2.lt; omega)) (fun k e => by omega) (by have := hq2.lt; simp [World.setCell]; omega)

theorem penc_none : penc Pf.none = [0, 0, 0] := rfl
theorem pdec_zero : pdec [0, 0, 0] = (Pf.none, 0) := by
  rw [← penc_none]
  exact pdec_penc Pf.none (by simp [Pf.none]) (by simp [Pf.none]) (by simp [Pf.none]) (by simp [Pf.none, ByteArray.size]) (by simp [Pf.none]) (fun _ => rfl) (fun _ => rfl)
theorem pfat_none (w : World) : PfAt w (.agg #[.slice none 0 0, .int .u8 0, .string ⟨#[]⟩, .slice none 0 0]) Pf.none :=
  ⟨none, 0, none, 0, rfl, SegG.nil _ _, Seg.nil _ _, Nat.le_refl _, Nat.zero_le _, Nat.le_refl _, Nat.zero_le _⟩

end Go.Proofs.YtpbjianhkjjgkaaDoor
/-
  What each law of proofs asks first ('bare'); like, reads; the walk of the law ProofReads.
-/
namespace Go.Proofs.YtpbjianhkjjgkaaDoor
open Go.RowKit

theorem pdecode_zero (A : Option Addr) (c : Nat) (w : World) (hs : Seg w A 3 [0, 0, 0]) (hc : 3 ≤ c) (hcm : c ≤ maxLen) :
    Calls Tryd.prog 78 #[.slice A 3 c] w fun e w' => ∃ A1 c1 A2 c2, e = .returned (.tuple #[.agg #[.slice A1 0 c1, .int .u8 0, .string ⟨#[]⟩, .slice A2 0 c2], .int .i64 0]) ∧ PfAt w' (.agg #[.slice A1 0 c1, .int .u8 0, .string ⟨#[]⟩, .slice A2 0 c2]) Pf.none ∧ Below w.heap.size w w' := by
  have hd := pdecode_any A 3 c [0, 0, 0] w hs hc hcm (by omega) hs.lt
  rw [pdec_zero] at hd
  refine hd.mono ?_
  rintro e w3 ⟨v, rfl, ⟨v1, v2, rfl, hv1, hv2⟩, hb3⟩
  obtain ⟨A1, c1, rfl, ha1, h1, h2⟩ := hv1.forms
  obtain ⟨A2, c2, rfl, ha2, h3, h4⟩ := hv2.forms
  exact ⟨A1, c1, A2, c2, rfl, ⟨A1, c1, A2, c2, rfl, ha1, ha2, h1, h2, h3, h4⟩, hb3⟩

set_option maxRecDepth 4000 in
set_option maxHeartbeats 8000000 in
theorem bare_any (w : World) (ht : Tab w) :
    Calls Tryd.prog 38 #[] w fun e w' => e = .returned (.bool true) ∧ Below w.heap.size w w' := by
  go_enter Tryd.func38, Tryd.ntmps38
  go_wp2_with fail
  refine (build_nil _ _ (by decide) ht).mono ?_
  rintro e w1 ⟨rfl, hb1⟩
  have hq := (Bx.new w1 (.slice none 0 0) (.int .u8 0) (.string ⟨#[]⟩) (.slice none 0 0) 65).only (Only.alloc_ _ (.cells #[.int .u8 0, .int .u8 0, .int .u8 0] 5) (fun _ => False)) id
  have hz1 : (w1.alloc (.cells #[.slice none 0 0, .int .u8 0, .string ⟨#[]⟩, .slice none 0 0] 65)).heap.size = w1.heap.size + 1 := by simp
  have hsg := Seg.newAt (w1.alloc (.cells #[.slice none 0 0, .int .u8 0, .string ⟨#[]⟩, .slice none 0 0] 65)) [0, 0, 0] 5 #[.int .u8 0, .int .u8 0, .int .u8 0] (w1.heap.size + 1) 3 (by simp) rfl rfl
  have hbl := (hb1.alloc hb1.size (.cells #[.slice none 0 0, .int .u8 0, .string ⟨#[]⟩, .slice none 0 0] 65)).alloc (by have := hb1.size; rw [hz1]; omega) (.cells #[.int .u8 0, .int .u8 0, .int .u8 0] 5)
  have hz2 : ((w1.alloc (.cells #[.slice none 0 0, .int .u8 0, .string ⟨#[]⟩, .slice none 0 0] 65)).alloc (.cells #[.int .u8 0, .int .u8 0, .int .u8 0] 5)).heap.size = w1.heap.size + 2 := by simp
  have HQ := Lib.hid (And.intro hq (And.intro hsg (And.intro hbl hz2)))
  have hzb := hb1.size
  clear hq hsg hbl hz1 hz2 hb1
  go_wp2_with fail
  obtain ⟨hq, hsg, hbl, hz2⟩ := HQ.out
  clear HQ
  generalize (w1.alloc (.cells #[.slice none 0 0, .int .u8 0, .string ⟨#[]⟩, .slice none 0 0] 65)).alloc (.cells #[.int .u8 0, .int .u8 0, .int .u8 0] 5) = w2 at *
  generalize w1.heap.size = b1 at *
  refine (pdecode_zero (some ⟨b1 + 1, 0, none⟩) 3 w2 hsg (by omega) (by simp [maxLen])).mono ?_
  clear hsg
  rintro e w3 ⟨A1, c1, A2, c2, rfl, hat, hb3⟩
  have hq3 := hq.below hb3
  have hbw3 := Below.next' hbl hb3 (by omega)
  have hz3 := hb3.size
  clear hq hb3 hbl
  have hal := Only.alloc_ w3 (.cells #[.slice A1 0 c1, .int .u8 0, .string ⟨#[]⟩, .slice A2 0 c2] 65) (fun _ => False)
  have hblw := (Below.refl w3.heap.size w3).alloc (Nat.le_refl _) (.cells #[.slice A1 0 c1, .int .u8 0, .string ⟨#[]⟩, .slice A2 0 c2] 65)
  have hq4 := hq3.only hal id
  have hu4 := Bx.new w3 (.slice A1 0 c1) (.int .u8 0) (.string ⟨#[]⟩) (.slice A2 0 c2) 65
  have hat4 := hat.below hblw
  have hbw4 := Below.next' hbw3 hblw (by omega)
  have hz4 : (w3.alloc (.cells #[.slice A1 0 c1, .int .u8 0, .string ⟨#[]⟩, .slice A2 0 c2] 65)).heap.size = w3.heap.size + 1 := by simp
  have HQ := Lib.hid (And.intro hq4 (And.intro hu4 (And.intro hat4 (And.intro hbw4 hz4))))
  clear hq4 hu4 hat4 hbw4 hz4 hblw hal hat hbw3
  have hblt : b1 < w3.heap.size := hq3.lt
  obtain ⟨q0, q1, q2, q3, qf⟩ := hq3
  clear qf
  go_wp2_with fail
  obtain ⟨hq4, hu4, hat4, hbw4, hz4⟩ := HQ.out
  clear HQ q0 q1 q2 q3
  generalize w3.alloc (.cells #[.slice A1 0 c1, .int .u8 0, .string ⟨#[]⟩, .slice A2 0 c2] 65) = w4 at *
  generalize w3.heap.size = b3 at *
  refine (pencode_any _ Pf.none w4 (pfat_none _) (by simp [Pf.none]) (by simp [Pf.none]) (by simp [Pf.none, ByteArray.size]) (by simp [Pf.none]) (by simp [Pf.none])).mono ?_
  rw [penc_none]
  rintro e w5 ⟨v5, rfl, ho5, hb5⟩
  obtain ⟨A5, c5, rfl, hs5, _, _⟩ := ho5.forms
  have hs5 : Seg w5 A5 3 [0, 0, 0] := hs5
  have hq5 := hq4.below hb5
  have hu5 := hu4.below hb5
  have hat5 := hat4.below hb5
  have hbw5 := Below.next' hbw4 hb5 (by omega)
  have hz5 := hb5.size
  clear hq4 hu4 hat4 hbw4 hb5 ho5
  have hal := (Below.refl w5.heap.size w5).alloc (Nat.le_refl _) (.cells #[.int .u8 0, .int .u8 0, .int .u8 0] 5)
  have hsn := Seg.newAt w5 [0, 0, 0] 5 #[.int .u8 0, .int .u8 0, .int .u8 0] w5.heap.size 3 rfl rfl rfl
  have hs6 := hs5.below hal
  have hq6 := hq5.below hal
  have hu6 := hu5.below hal
  have hat6 := hat5.below hal
  have hbw6 := Below.next' hbw5 hal (by omega)
  have HQ := Lib.hid (And.intro hsn (And.intro hs6 (And.intro hq6 (And.intro hu6 (And.intro hat6 hbw6)))))
  clear hal hsn hs6 hq6 hu6 hat6 hbw6 hs5 hq5 hu5 hat5 hbw5
  go_wp2_with fail
  obtain ⟨hsn, hs6, hq6, hu6, hat6, hbw6⟩ := HQ.out
  clear HQ
  generalize w5.alloc (.cells #[.int .u8 0, .int .u8 0, .int .u8 0] 5) = w6 at *
  refine (bytes_any A5 _ 3 3 c5 _ [0, 0, 0] [0, 0, 0] w6 hs6 hsn (by simp [maxLen])).mono ?_
  rintro e w7 ⟨rfl, u, rfl⟩
  rw [show (([0, 0, 0] : List UInt8) == [0, 0, 0]) = true by decide]
  have hq7 := hq6.below (belD w6 u)
  have hu7 := hu6.below (belD w6 u)
  have hat7 := hat6.below (belD w6 u)
  have hbw7 := Below.next' hbw6 (belD w6 u) (by have := hbw6.size; omega)
  clear hsn hs6 hq6 hu6 hat6 hbw6
  generalize w6.drewN u = w7 at *
  obtain ⟨q0, q1, q2, q3, qf⟩ := hq7
  obtain ⟨u0, u1, u2, u3, uf⟩ := hu7
  clear qf uf
  go_wp2_with fail
  refine (psame_any _ _ Pf.none Pf.none true w7 (pfat_none _) hat7 (by simp [Pf.none]) (by simp [Pf.none]) (by simp)).mono ?_
  rintro e w8 ⟨rfl, hb8⟩
  go_wp2
  go_ret
  exact ⟨rfl, Below.next' hbw7 hb8 (by have := hbw7.size; omega)⟩

set_option maxHeartbeats 4000000 in
theorem like_any (v u : Value) (p q : Pf) (b : Bool) (w : World) (hv : PfAt w v p) (hu : PfAt w u q) (hn : p.side.length ≤ 1000000) (hm : p.row.length ≤ 1000000) (hlr : b = true ↔ p = q) :
    Calls Tryd.prog 41 #[v, u] w fun e w' => e = .returned (.bool b) ∧ Below w.heap.size w w' := by
  have hs := fun W (h : Below w.heap.size w W) => rpsame_any v u p q b W (hv.below h) (hu.below h) hn hm hlr
  obtain ⟨A, c, B, d, rfl, a1, a2, a3, a4, a5, a6⟩ := hv
  obtain ⟨A', c', B', d', rfl, b1, b2, b3, b4, b5, b6⟩ := hu
  have HS := Lib.hid hs
  clear hs a1 a2 b1 b2 hlr
  go_enter Tryd.func41, Tryd.ntmps41
  go_wp2_with fail
  have hbl := ((Below.refl w.heap.size w).alloc (Nat.le_refl _) (.cells #[.slice A p.side.length c, .int .u8 (p.k : Int), .string p.key, .slice B p.row.length d] 65)).alloc (by simp) (.cells #[.slice A' q.side.length c', .int .u8 (q.k : Int), .string q.key, .slice B' q.row.length d'] 67)
  refine (HS.out _ hbl).mono ?_
  rintro e w1 ⟨rfl, hb1⟩
  go_wp2
  go_ret
  exact ⟨rfl, Below.next' hbl hb1 hbl.size⟩

end Go.Proofs.YtpbjianhkjjgkaaDoor

namespace Go.Proofs.YtpbjianhkjjgkaaDoor
open Go.RowKit

def sliceLen : Value → Nat
  | .slice _ n _ => n
  | _ => 0

set_option maxHeartbeats 4000000 in
theorem thalves_small (f : Nat) (m : List It) (d : Nat) (v : Value) (w : World) (hd : d + f = 256) (hg : Good m d) (hv : TreeAt w (tree f m d) v) (h1 : m.length ≤ 1) :
    Calls Tryd.prog 33 #[v] w fun e w' => e = .returned (.tuple #[.pointer none, .pointer none, .bool false]) ∧ w' = w := by
  have hlen := tlen_any _ _ _ hv
  rw [tree_cnt f m d hd hg] at hlen
  obtain ⟨q, rfl⟩ := hv.ptr
  have HLEN := Lib.hid hlen
  obtain ⟨n, hn⟩ : ∃ n, m.length = n := ⟨_, rfl⟩
  rw [hn] at HLEN h1
  have d1 : decide ((n : Int) < 2) = true := decide_eq_true (by omega)
  clear hlen hv hn hg
  go_enter Tryd.func33, Tryd.ntmps33
  go_wp2_with fail
  refine HLEN.out.mono ?_
  rintro e w1 ⟨rfl, rfl⟩
  go_wp2
  go_ret3
  exact ⟨rfl, rfl⟩

set_option maxHeartbeats 4000000 in
/-- Halves, told of the world in which the tree was made: the same two in every later one. -/
theorem thalves_at (f : Nat) (m : List It) (d : Nat) (v : Value) (w : World) (hd : d + (f + 1) = 256) (hg : Good m d) (hv : TreeAt w (tree (f + 1) m d) v) (h2 : 2 ≤ m.length) :
    ∃ a b, TreeAt w (tree f (halfI m d 0) (d + 1)) a ∧ TreeAt w (tree f (halfI m d 1) (d + 1)) b ∧ ∀ W, Below w.heap.size w W →
      Calls Tryd.prog 33 #[v] W fun e w' => e = .returned (.tuple #[a, b, .bool true]) ∧ Below W.heap.size W w' := by
  have hlen := fun W (h : Below w.heap.size w W) => tlen_any _ _ W (hv.below h)
  rw [tree_cnt (f + 1) m d hd hg] at hlen
  rw [tree_two h2] at hv
  obtain ⟨g, pa, pb, rfl, c2, c3, c4, c5, c6, hcc, ha, hb⟩ := hv
  obtain ⟨qa, rfl⟩ := ha.ptr
  obtain ⟨qb, rfl⟩ := hb.ptr
  refine ⟨_, _, ha, hb, fun W hW => ?_⟩
  have c2 := cell_below hW c2
  have c3 := cell_below hW c3
  have HLEN := Lib.hid (hlen W hW)
  clear hlen ha hb hcc c4 c5 c6 hg hd hW
  obtain ⟨n, hn⟩ : ∃ n, m.length = n := ⟨_, rfl⟩
  rw [hn] at HLEN h2
  have d1 : decide ((n : Int) < 2) = false := decide_eq_false (by omega)
  clear hn
  go_enter Tryd.func33, Tryd.ntmps33
  go_wp2_with fail
  refine HLEN.out.mono ?_
  rintro e w1 ⟨rfl, rfl⟩
  go_wp2
  rename World => w1x
  refine wp_region_noPanic (wp_region_tills (fun W' => W'.cell? ⟨g, 2, none⟩ = some (.pointer qa) ∧ W'.cell? ⟨g, 3, none⟩ = some (.pointer qb)) (fun j => decide (9 ≤ j)) (by kernel_rfl) ?_)
  have hD := Below.drewN' (Below.refl w1x.heap.size w1x) 1
  have x0 := cell_below hD c2
  have x1 := cell_below hD c3
  change wpAnyS _ _ _ _ _ _ 11 _ _ (w1x.drewN 1)
  refine wpAnyS_take (i := 0) (v := .pointer (some ⟨g, 0, none⟩)) rfl (by kernel_rfl) (fun _ _ _ h => h) ⟨x0, x1⟩ (Or.inl ⟨rfl, fun W' hW => by obtain ⟨q0, q1⟩ := hW; go_simp⟩) ?_
  refine wpAnyS_take (i := 1) (v := .pointer (some ⟨g, 0, none⟩)) rfl (by kernel_rfl) (fun _ _ _ h => h) ⟨x0, x1⟩ (Or.inl ⟨rfl, fun W' hW => by obtain ⟨q0, q1⟩ := hW; go_simp⟩) ?_
  refine wpAnyS_take (i := 2) (v := .pointer (some ⟨g, 2, none⟩)) rfl (by kernel_rfl) (fun _ _ _ h => h) ⟨x0, x1⟩ (Or.inl ⟨rfl, fun W' hW => by obtain ⟨q0, q1⟩ := hW; go_simp⟩) ?_
  refine wpAnyS_take (i := 3) (v := .pointer qa) rfl (by kernel_rfl) (fun _ _ _ h => h) ⟨x0, x1⟩ (Or.inl ⟨rfl, fun W' hW => by obtain ⟨q0, q1⟩ := hW; go_simp⟩) ?_
  refine wpAnyS_take (i := 4) (v := .pointer (some ⟨g, 0, none⟩)) rfl (by kernel_rfl) (fun _ _ _ h => h) ⟨x0, x1⟩ (Or.inl ⟨rfl, fun W' hW => by obtain ⟨q0, q1⟩ := hW; go_simp⟩) ?_
  refine wpAnyS_take (i := 5) (v := .pointer (some ⟨g, 0, none⟩)) rfl (by kernel_rfl) (fun _ _ _ h => h) ⟨x0, x1⟩ (Or.inl ⟨rfl, fun W' hW => by obtain ⟨q0, q1⟩ := hW; go_simp⟩) ?_
  refine wpAnyS_take (i := 6) (v := .pointer (some ⟨g, 3, none⟩)) rfl (by kernel_rfl) (fun _ _ _ h => h) ⟨x0, x1⟩ (Or.inl ⟨rfl, fun W' hW => by obtain ⟨q0, q1⟩ := hW; go_simp⟩) ?_
  refine wpAnyS_take (i := 7) (v := .pointer qb) rfl (by kernel_rfl) (fun _ _ _ h => h) ⟨x0, x1⟩ (Or.inl ⟨rfl, fun W' hW => by obtain ⟨q0, q1⟩ := hW; go_simp⟩) ?_
  refine wpAnyS_take (i := 8) (v := .pointer qa) rfl (by kernel_rfl) (fun _ _ _ h => h) ⟨x0, x1⟩ (Or.inl ⟨rfl, fun W' hW => by obtain ⟨q0, q1⟩ := hW; go_simp⟩) ?_
  refine wpAnyS_step 9 rfl (by decide +kernel) ?_
  go_wp2_with fail
  refine ⟨.inl rfl, ?_⟩
  refine wpAnyS_step 10 rfl (by decide +kernel) ?_
  go_wp2_with fail
  refine ⟨.inl rfl, ?_⟩
  refine wpAnyS_done (by decide +kernel) (NoPanic.normal ?_)
  go_wp2
  go_ret3
  exact ⟨rfl, hD⟩

set_option maxHeartbeats 16000000 in
theorem follow_any (m : List It) (T : ByteArray) (d : Nat) (v : Value) (w : World) (hm : Its m) (hT : T.size = 32) (hs : StopAt T m d) (hv : TreeAt w (tree 256 m 0) v) (ht : Tab w) :
    Calls Tryd.prog 81 #[v, .string T] w fun e w' => ∃ u s, e = .returned (.tuple #[u, s]) ∧ TreeAt w (tree (256 - d) (curI T m d) d) u ∧ OwnS w' w.heap.size 9 s (sidesI T m d) ∧ Below w.heap.size w w' := by
  have hgm := Good.root hm.1 hm.2
  have HG := Lib.hid (fun e => curI_good (T := T) hgm e)
  have HS := Lib.hid hs
  have hd := stop_le hgm hs.1
  obtain ⟨p0, rfl⟩ := hv.ptr
  clear hs
  go_enter Tryd.func81, Tryd.ntmps81
  go_wp2_with fail
  go_loopw [0, 6] (fun p s w' => ∃ e : Nat, e ≤ d ∧ TreeAt w (tree (256 - e) (curI T m e) e) p ∧ OwnS w' w.heap.size 9 s (sidesI T m e) ∧ Below w.heap.size w w') (fun _ s _ => d - sliceLen s)
  case atStart => exact ⟨0, by omega, hv, OwnG.nil _ _ _, Below.refl _ _⟩
  case round =>
    clear hv
    obtain ⟨e, he, hp, hos, hb⟩ := hrel
    obtain ⟨pq, rfl⟩ := hp.ptr
    obtain ⟨As, cs, hse, _, _, _⟩ := hos.forms
    rw [sidesI_len] at hse
    subst hse
    rename World => wl
    by_cases h2 : 2 ≤ (curI T m e).length
    · have hlt := stop_go HS.out he h2
      have hf : 256 - e = (255 - e) + 1 := by omega
      rw [hf] at hp
      obtain ⟨a, b, ha, hbt, hh⟩ := thalves_at (255 - e) (curI T m e) e _ w (by omega) (HG.out e) hp h2
      obtain ⟨aq, rfl⟩ := ha.ptr
      obtain ⟨bq, rfl⟩ := hbt.ptr
      have hsd := sidesI_succ T m e
      have hsl := sidesI_len T m e
      have hc := show curI T m (e + 1) = halfI (curI T m e) e (bitF T (e : Int)) from rfl
      have hside := show sideI T m e = ⟨(tree (255 - e) (halfI (curI T m e) e (1 - bitF T (e : Int))) (e + 1)).dig.toArray⟩ from rfl
      have hf2 : 256 - (e + 1) = 255 - e := by omega
      have hb01 := bitF_lt2 T (e : Int)
      have hbit : bitF T (e : Int) = 0 ∨ bitF T (e : Int) = 1 := by omega
      have HH := Lib.hid hh
      have HSD := Lib.hid hsd
      clear hh hsd hf hp hb01
      obtain ⟨ds, hds⟩ : ∃ ds, sidesI T m e = ds := ⟨_, rfl⟩
      rw [hds] at hos HSD hsl
      clear hds
      rcases hbit with hb0 | hb0
      · rw [hb0] at hc hside
        have HC := Lib.hid hc
        have HSI := Lib.hid hside
        clear hc hside
        go_wp2_with fail
        refine (HH.out _ hb).mono ?_
        rintro e1 w1 ⟨rfl, hb1⟩
        have hos := hos.below hb1
        have hb := Below.next' hb hb1 hb.size
        clear hb1
        go_wp2_with fail
        refine (bit_any T (e : Int) _ (by omega) (by omega) (by omega)).mono ?_
        rw [hb0]
        rintro e2 w2 ⟨rfl, rfl⟩
        go_wp2_with fail
        refine (tdig_any _ _ _ (hbt.below hb) (Tab.below ht hb)).mono ?_
        rw [show (⟨(tree (255 - e) (halfI (curI T m e) e 1) (e + 1)).dig.toArray⟩ : ByteArray) = sideI T m e from HSI.out.symm]
        rintro e3 w3 ⟨rfl, hb3⟩
        have hos := hos.below hb3
        have hb := Below.next' hb hb3 hb.size
        clear hb3 HSI
        generalize sideI T m e = D at *
        have hw3 := hb.size
        have hosA := hos.alloc (.cells #[.string D] 9)
        go_wp2_with (at_builtin
                     refine wpList_append_G _ rfl (.tmp 26) (.tmp 29) _ _ _ _ strT rfl w.heap.size (.slice As e cs) ds rfl hosA _ 1 1 [D] rfl (SegG.newAt _ _ _ _ _ _ rfl rfl rfl) (by rw [hsl]; omega) (by simp; omega) ?_
                     intro v4 w4 hv4 hg4 hat4)
        obtain ⟨A4, c4, hve, _, _, _⟩ := hv4.forms
        have hl4 : (ds ++ [D]).length = e + 1 := by rw [List.length_append, hsl]; rfl
        rw [hl4] at hve
        subst hve
        go_roundw
        case rel =>
          refine ⟨e + 1, hlt, ?_, by rw [HSD.out]; exact hv4, below_grownG (hb.alloc hw3 _) hosA hg4 (Nat.le_refl _) (by simp; omega)⟩
          rw [HC.out, hf2]
          exact ha
        case measure => simp [sliceLen]; omega
      · rw [hb0] at hc hside
        have HC := Lib.hid hc
        have HSI := Lib.hid hside
        clear hc hside
        go_wp2_with fail
        refine (HH.out _ hb).mono ?_
        rintro e1 w1 ⟨rfl, hb1⟩
        have hos := hos.below hb1
        have hb := Below.next' hb hb1 hb.size
        clear hb1
        go_wp2_with fail
        refine (bit_any T (e : Int) _ (by omega) (by omega) (by omega)).mono ?_
        rw [hb0]
        rintro e2 w2 ⟨rfl, rfl⟩
        go_wp2_with fail
        refine (tdig_any _ _ _ (ha.below hb) (Tab.below ht hb)).mono ?_
        rw [show (⟨(tree (255 - e) (halfI (curI T m e) e 0) (e + 1)).dig.toArray⟩ : ByteArray) = sideI T m e from HSI.out.symm]
        rintro e3 w3 ⟨rfl, hb3⟩
        have hos := hos.below hb3
        have hb := Below.next' hb hb3 hb.size
        clear hb3 HSI
        generalize sideI T m e = D at *
        have hw3 := hb.size
        have hosA := hos.alloc (.cells #[.string D] 9)
        go_wp2_with (at_builtin
                     refine wpList_append_G _ rfl (.tmp 32) (.tmp 35) _ _ _ _ strT rfl w.heap.size (.slice As e cs) ds rfl hosA _ 1 1 [D] rfl (SegG.newAt _ _ _ _ _ _ rfl rfl rfl) (by rw [hsl]; omega) (by simp; omega) ?_
                     intro v4 w4 hv4 hg4 hat4)
        obtain ⟨A4, c4, hve, _, _, _⟩ := hv4.forms
        have hl4 : (ds ++ [D]).length = e + 1 := by rw [List.length_append, hsl]; rfl
        rw [hl4] at hve
        subst hve
        go_roundw
        case rel =>
          refine ⟨e + 1, hlt, ?_, by rw [HSD.out]; exact hv4, below_grownG (hb.alloc hw3 _) hosA hg4 (Nat.le_refl _) (by simp; omega)⟩
          rw [HC.out, hf2]
          exact hbt
        case measure => simp [sliceLen]; omega
    · have hed := stop_end HS.out he (by omega)
      subst hed
      have hh := thalves_small (256 - e) (curI T m e) e _ wl (by omega) (HG.out e) (hp.below hb) (by omega)
      have HH := Lib.hid hh
      have HP := Lib.hid hp
      clear hh hp
      go_wp2_with fail
      refine HH.out.mono ?_
      rintro e1 w1 ⟨rfl, rfl⟩
      go_wp2
      go_ret2
      exact ⟨_, _, rfl, HP.out, hos, hb⟩

end Go.Proofs.YtpbjianhkjjgkaaDoor

namespace Go.Proofs.YtpbjianhkjjgkaaDoor
open Go.RowKit

set_option maxRecDepth 8000 in
set_option maxHeartbeats 16000000 in
theorem pbuild_any (m : List It) (K : ByteArray) (d : Nat) (v : Value) (w : World) (hm : Its m) (hk : K.size ≤ 1000) (hs : StopAt (sumT K) m d) (hv : TreeAt w (tree 256 m 0) v) (ht : Tab w) :
    Calls Tryd.prog 42 #[v, .string K] w fun e w' => ∃ u, e = .returned u ∧ PfOwn w' w.heap.size u (bldP K m d) ∧ Below w.heap.size w w' := by
  obtain ⟨PF, hPF⟩ : ∃ PF, bldP K m d = PF := ⟨_, rfl⟩
  rw [hPF]
  have HPF := Lib.hid hPF
  clear hPF
  have kcv := fun W => Lib.run_convert_string_bytes (P := Tryd.prog) W 9 29 5 K Tryd.underlying9 Tryd.underlying29 Tryd.underlying5
  have hq0 := Bx.new w (.slice none 0 0) (.int .u8 0) (.string ⟨#[]⟩) (.slice none 0 0) 65
  have hbel := (Below.refl w.heap.size w).alloc (Nat.le_refl _) (.cells #[.slice none 0 0, .int .u8 0, .string ⟨#[]⟩, .slice none 0 0] 65)
  have hd := stop_le (Good.root hm.1 hm.2) hs.1
  have HB := Lib.hid hbel
  have HQ := Lib.hid hq0
  have HF := Lib.hid (fun p W (h1 : TreeAt W (tree 256 m 0) p) (h2 : Tab W) => follow_any m (sumT K) d p W hm (sumT_size K) hs h1 h2)
  have HV := Lib.hid hv
  have HS := Lib.hid hs.2
  have hsl := sidesI_len (sumT K) m d
  obtain ⟨p0, rfl⟩ := hv.ptr
  clear hbel hq0 hv hs
  go_enter Tryd.func42, Tryd.ntmps42
  go_wp2_with fail
  have hq0 := HQ.out
  have hbel := HB.out
  obtain ⟨b0, hb0⟩ : ∃ b0, w.heap.size = b0 := ⟨_, rfl⟩
  have hz : (w.alloc (.cells #[.slice none 0 0, .int .u8 0, .string ⟨#[]⟩, .slice none 0 0] 65)).heap.size = w.heap.size + 1 := by simp
  have hvw := HV.out.below hbel
  rw [hb0] at hq0 hbel hz ⊢
  have HB0 := Lib.hid hb0
  clear hb0 HB HQ HV
  have ht1 : Tab (w.alloc (.cells #[.slice none 0 0, .int .u8 0, .string ⟨#[]⟩, .slice none 0 0] 65)) := Tab.below ht ((Below.refl w.heap.size w).alloc (Nat.le_refl _) _)
  generalize w.alloc (.cells #[.slice none 0 0, .int .u8 0, .string ⟨#[]⟩, .slice none 0 0] 65) = wa at *
  have hb1 := bytesBelow wa 5 K
  have hsg := bytesSeg wa 5 K
  rw [hz] at hsg
  refine (sum_any _ K.size _ K.data.toList _ hsg (by omega) (Tab.below ht1 hb1)).mono ?_
  rw [show (⟨(sha K.data.toList).toArray⟩ : ByteArray) = sumT K from rfl]
  rintro e w1 ⟨rfl, hb2⟩
  have hbw1 := Below.next' hb1 hb2 hb1.size
  have hq1 := hq0.below hbw1
  have hbelw := hbel.trans (hbw1.mono (by omega))
  have hv1 := hvw.below hbw1
  have ht1 := Tab.below ht1 hbw1
  have hz1 := hbw1.size
  clear hb1 hb2 kcv hq0 hbel hvw hbw1 hsg
  obtain ⟨T, hT⟩ : ∃ T, sumT K = T := ⟨_, rfl⟩
  have hbld : bldP K m d = endP K (sidesI T m d) (curI T m d) := by unfold bldP; rw [hT]
  rw [hT] at HF hsl HS ⊢
  rw [hbld] at HPF
  clear hT hbld
  go_wp2_with fail
  refine (HF.out _ _ hv1 ht1).mono ?_
  rintro e w2 ⟨u, s, rfl, hu, hos, hb2⟩
  have hu := hu.below hb2
  have hq2 := hq1.below hb2
  have hbelw := hbelw.trans (hb2.mono (by omega))
  have hz2 := hb2.size
  have ht2 := Tab.below ht1 hb2
  obtain ⟨uq, rfl⟩ := hu.ptr
  obtain ⟨As, cs, hse, _, _, _⟩ := hos.forms
  rw [hsl] at hse
  subst hse
  have hos := hos.mono (b := b0 + 1) (by omega)
  clear hq1 hb2 hv1 HF
  obtain ⟨ds, hds⟩ : ∃ ds, sidesI T m d = ds := ⟨_, rfl⟩
  rw [hds] at hos hsl HPF
  clear hds
  go_wp2_with fail
  have hal := Only.alloc_ w2 (.cells #[.slice As d cs, .int .u8 0, .string ⟨#[]⟩, .slice none 0 0] 65) (fun _ => False)
  have hbal := (Below.refl w2.heap.size w2).alloc (Nat.le_refl _) (.cells #[.slice As d cs, .int .u8 0, .string ⟨#[]⟩, .slice none 0 0] 65)
  have hq2 := hq2.only hal id
  have hq3 := Bx.new w2 (.slice As d cs) (.int .u8 0) (.string ⟨#[]⟩) (.slice none 0 0) 65
  have hbel3 := hbelw.alloc (by omega) (.cells #[.slice As d cs, .int .u8 0, .string ⟨#[]⟩, .slice none 0 0] 65)
  have hslt : ∀ k, (Value.slice As d cs).ownBlock = some k → b0 + 1 ≤ k ∧ k < w2.heap.size := fun k hk => hos.lt k hk
  have hos := hos.only hal (fun _ _ => id)
  have hu := hu.below hbal
  have ht3 := Tab.below ht2 hbal
  have hzb : b0 + 1 ≤ w2.heap.size := by omega
  have hz3 : (w2.alloc (.cells #[.slice As d cs, .int .u8 0, .string ⟨#[]⟩, .slice none 0 0] 65)).heap.size = w2.heap.size + 1 := by simp
  clear hbelw hal hbal ht2 ht1
  generalize w2.alloc (.cells #[.slice As d cs, .int .u8 0, .string ⟨#[]⟩, .slice none 0 0] 65) = w3 at *
  generalize w2.heap.size = b3 at *
  obtain ⟨r, hr⟩ : ∃ r, curI T m d = r := ⟨_, rfl⟩
  rw [hr] at hu HS HPF
  clear hr
  have h1 := HS.out
  rcases r with _ | ⟨x, _ | ⟨y, r⟩⟩
  · rw [tree_nil] at hu
    have e : Value.pointer uq = .pointer none := hu
    injection e with e
    subst e
    obtain rfl : PF = ⟨ds, 0, ⟨#[]⟩, []⟩ := HPF.out.symm
    refine (leaf_nil _).mono ?_
    rintro e w4 ⟨rfl, rfl⟩
    rename World => w4
    obtain ⟨x0, x1, x2, x3, xf⟩ := hq3
    have xf1 := xf 1
    have xf2 := xf 2
    have xf3 := xf 3
    obtain ⟨y0, y1, y2, y3, yf⟩ := hq2
    have yf0 := yf 0
    have yf1 := yf 1
    have yf2 := yf 2
    have yf3 := yf 3
    have hq2 : Bx w4 b0 _ _ _ _ := ⟨y0, y1, y2, y3, yf⟩
    clear xf yf
    have hs1 := only_setB w4 ⟨b3, 1, none⟩ (.int .u8 0)
    obtain ⟨hf, hfo⟩ := (hq2.only hs1 (by show ¬ b0 = b3; omega)).set4 (.slice As d cs) (.int .u8 0) (.string ⟨#[]⟩) (.slice none 0 0)
    go_wp2
    refine bodyPost_ret (v := .agg #[.slice As d cs, .int .u8 0, .string ⟨#[]⟩, .slice none 0 0]) (by simp [results, Tryd.results42, go_sem, hf.c0, hf.c1, hf.c2, hf.c3]) rfl ⟨_, rfl, ⟨_, _, rfl, ?_, Own.nil _ _ _⟩, ?_⟩
    · refine ((hos.only hs1 ?_).only hfo ?_).mono (by have := HB0.out; omega)
      · intro k hk (e : k = b3); have := (hslt k hk).2; omega
      · intro k hk e; have := (hslt k hk).1; omega
    · rw [HB0.out]
      exact hfo.below (hs1.below hbel3 (fun k (e : k = b3) => by omega) (by have := hq2.lt; omega)) (fun k e => by omega) (by have := hq2.lt; simp [World.setCell]; omega)
  · rw [tree_one] at hu
    have hrl : x.2.length ≤ 100000 := by obtain ⟨_, _, _, _, _, _, _, _, _, _, h⟩ := hu; exact h
    refine (tleaf_any x.1 x.2 _ _ hu).mono ?_
    rintro e w4 ⟨rv, rfl, hro, hb4⟩
    obtain ⟨Ar, cr, rfl, _, _, _⟩ := hro.forms
    have hq2 := hq2.below hb4
    have hq3 := hq3.below hb4
    have hos := hos.below hb4
    have hbel3 := Below.next' hbel3 hb4 (by omega)
    have hz4 := hb4.size
    have hrlt : ∀ k, (Value.slice Ar x.2.length cr).ownBlock = some k → b3 + 1 ≤ k := fun k hk => by have := (hro.lt k hk).1; omega
    have hro := hro.mono (b := b0) (by omega)
    clear hu hb4
    obtain ⟨u, l⟩ := x
    dsimp only at *
    obtain ⟨n, hn⟩ : ∃ n, l.length = n := ⟨_, rfl⟩
    have hro' := hro
    rw [hn] at hrlt hro hrl ⊢
    have hke : PF = if keyOf u = K then ⟨ds, 1, ⟨#[]⟩, l⟩ else ⟨ds, 2, keyOf u, l⟩ := HPF.out.symm
    obtain ⟨KU, hKU⟩ : ∃ KU, keyOf u = KU := ⟨_, rfl⟩
    rw [hKU] at hke ⊢
    clear hKU hn hro'
    by_cases hkk : KU = K
    · have hqk : (KU.toList == K.toList) = true := by rw [hkk]; simp
      rw [if_pos hkk] at hke
      subst hke
      clear hkk
      obtain ⟨x0, x1, x2, x3, xf⟩ := hq3
      have xf1 := xf 1
      have xf2 := xf 2
      have xf3 := xf 3
      obtain ⟨y0, y1, y2, y3, yf⟩ := hq2
      have yf0 := yf 0
      have yf1 := yf 1
      have yf2 := yf 2
      have yf3 := yf 3
      have hq2 : Bx w4 b0 _ _ _ _ := ⟨y0, y1, y2, y3, yf⟩
      clear xf yf
      have hs1 := only_setB w4 ⟨b3, 1, none⟩ (.int .u8 1)
      have hs2 := only_setB (w4.setCell ⟨b3, 1, none⟩ (.int .u8 1)) ⟨b3, 3, none⟩ (.slice Ar n cr)
      have hs1 := hs1.trans hs2 (fun _ _ h => h)
      obtain ⟨hf, hfo⟩ := (hq2.only hs1 (by show ¬ b0 = b3; omega)).set4 (.slice As d cs) (.int .u8 1) (.string ⟨#[]⟩) (.slice Ar n cr)
      go_wp2
      refine bodyPost_ret (v := .agg #[.slice As d cs, .int .u8 1, .string ⟨#[]⟩, .slice Ar n cr]) (by simp [results, Tryd.results42, go_sem, hf.c0, hf.c1, hf.c2, hf.c3]) rfl ⟨_, rfl, ⟨_, _, rfl, ?_, ?_⟩, ?_⟩
      · refine ((hos.only hs1 ?_).only hfo ?_).mono (by have := HB0.out; omega)
        · intro k hk (e : k = b3); have := (hslt k hk).2; omega
        · intro k hk e; have := (hslt k hk).1; omega
      · refine ((hro.only hs1 ?_).only hfo ?_).mono (by have := HB0.out; omega)
        · intro k hk (e : k = b3); have := hrlt k hk; omega
        · intro k hk e; have := hrlt k hk; omega
      · rw [HB0.out]
        exact hfo.below (hs1.below hbel3 (fun k (e : k = b3) => by omega) (by have := hq2.lt; omega)) (fun k e => by omega) (by have := hq2.lt; simp [World.setCell]; omega)
    · have hqk : (KU.toList == K.toList) = false := by
        rw [beq_eq_false_iff_ne, ne_eq, toList_inj]
        exact hkk
      rw [if_neg hkk] at hke
      subst hke
      clear hkk
      obtain ⟨x0, x1, x2, x3, xf⟩ := hq3
      have xf1 := xf 1
      have xf2 := xf 2
      have xf3 := xf 3
      obtain ⟨y0, y1, y2, y3, yf⟩ := hq2
      have yf0 := yf 0
      have yf1 := yf 1
      have yf2 := yf 2
      have yf3 := yf 3
      have hq2 : Bx w4 b0 _ _ _ _ := ⟨y0, y1, y2, y3, yf⟩
      clear xf yf
      have hs1 := only_setB w4 ⟨b3, 1, none⟩ (.int .u8 2)
      have hs2 := only_setB (w4.setCell ⟨b3, 1, none⟩ (.int .u8 2)) ⟨b3, 2, none⟩ (.string KU)
      have hs3 := only_setB ((w4.setCell ⟨b3, 1, none⟩ (.int .u8 2)).setCell ⟨b3, 2, none⟩ (.string KU)) ⟨b3, 3, none⟩ (.slice Ar n cr)
      have hs1 := (hs1.trans hs2 (fun _ _ h => h)).trans hs3 (fun _ _ h => h)
      obtain ⟨hf, hfo⟩ := (hq2.only hs1 (by show ¬ b0 = b3; omega)).set4 (.slice As d cs) (.int .u8 2) (.string KU) (.slice Ar n cr)
      go_wp2
      refine bodyPost_ret (v := .agg #[.slice As d cs, .int .u8 2, .string KU, .slice Ar n cr]) (by simp [results, Tryd.results42, go_sem, hf.c0, hf.c1, hf.c2, hf.c3]) rfl ⟨_, rfl, ⟨_, _, rfl, ?_, ?_⟩, ?_⟩
      · refine ((hos.only hs1 ?_).only hfo ?_).mono (by have := HB0.out; omega)
        · intro k hk (e : k = b3); have := (hslt k hk).2; omega
        · intro k hk e; have := (hslt k hk).1; omega
      · refine ((hro.only hs1 ?_).only hfo ?_).mono (by have := HB0.out; omega)
        · intro k hk (e : k = b3); have := hrlt k hk; omega
        · intro k hk e; have := hrlt k hk; omega
      · rw [HB0.out]
        exact hfo.below (hs1.below hbel3 (fun k (e : k = b3) => by omega) (by have := hq2.lt; omega)) (fun k e => by omega) (by have := hq2.lt; simp [World.setCell]; omega)
  · simp at h1

end Go.Proofs.YtpbjianhkjjgkaaDoor
