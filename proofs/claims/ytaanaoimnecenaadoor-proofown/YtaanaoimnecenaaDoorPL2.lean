/-
  What each law of proofs asks first ('bare'); like, reads; the walk of the law ProofReads.
-/
import Derived.Test.YtaanaoimnecenaaDoorPF5
import Derived.Test.YtaanaoimnecenaaDoorPF8b
import Derived.Test.YtaanaoimnecenaaDoorPF9b
import Derived.Test.YtaanaoimnecenaaDoorTR2
namespace Go.Proofs.YtaanaoimnecenaaDoor
open Go.RowKit

set_option maxHeartbeats 4000000 in
theorem follow_nil (s : ByteArray) (w : World) : Calls Tryd.prog 72 #[.pointer none, .string s] w fun e w' => e = .returned (.tuple #[.pointer none, .slice none 0 0]) ∧ w' = w := by
  go_enter Tryd.func72, Tryd.ntmps72
  go_wp2_with fail
  go_loopw [0, 6] (fun p v w' => p = .pointer none ∧ v = .slice none 0 0 ∧ w' = w) (fun _ _ _ => 0)
  case atStart => exact ⟨rfl, rfl, rfl⟩
  case round =>
    obtain ⟨rfl, rfl, rfl⟩ := hrel
    go_wp2_with fail
    refine (halves_nil _).mono ?_
    rintro e w1 ⟨rfl, rfl⟩
    go_wp2
    go_ret2
    exact ⟨rfl, rfl⟩

set_option maxHeartbeats 4000000 in
theorem build_nil (k : ByteArray) (w : World) (hk : k.size ≤ 1000) (ht : Tab w) :
    Calls Tryd.prog 41 #[.pointer none, .string k] w fun e w' => e = .returned (.agg #[.slice none 0 0, .int .u8 0, .string ⟨#[]⟩, .slice none 0 0]) ∧ Below w.heap.size w w' := by
  have kcv := fun W => Lib.run_convert_string_bytes (P := Tryd.prog) W 9 29 5 k Tryd.underlying9 Tryd.underlying29 Tryd.underlying5
  have hq0 := Bx.new w (.slice none 0 0) (.int .u8 0) (.string ⟨#[]⟩) (.slice none 0 0) 65
  have hbel := (Below.refl w.heap.size w).alloc (Nat.le_refl _) (.cells #[.slice none 0 0, .int .u8 0, .string ⟨#[]⟩, .slice none 0 0] 65)
  have HB := Lib.hid hbel
  have HQ := Lib.hid hq0
  clear hbel hq0
  go_enter Tryd.func41, Tryd.ntmps41
  go_wp2_with fail
  have hq0 := HQ.out
  have hbel := HB.out
  obtain ⟨b0, hb0⟩ : ∃ b0, w.heap.size = b0 := ⟨_, rfl⟩
  have hz : (w.alloc (.cells #[.slice none 0 0, .int .u8 0, .string ⟨#[]⟩, .slice none 0 0] 65)).heap.size = w.heap.size + 1 := by simp
  rw [hb0] at hq0 hbel hz ⊢
  have HB0 := Lib.hid hb0
  clear hb0 HB HQ
  have ht1 : Tab (w.alloc (.cells #[.slice none 0 0, .int .u8 0, .string ⟨#[]⟩, .slice none 0 0] 65)) := Tab.below ht ((Below.refl w.heap.size w).alloc (Nat.le_refl _) _)
  generalize w.alloc (.cells #[.slice none 0 0, .int .u8 0, .string ⟨#[]⟩, .slice none 0 0] 65) = wa at *
  have hb1 := bytesBelow wa 5 k
  have hsg := bytesSeg wa 5 k
  rw [hz] at hsg
  refine (sum_any _ k.size _ k.data.toList _ hsg (by omega) (Tab.below ht1 hb1)).mono ?_
  rintro e w1 ⟨rfl, hb2⟩
  have hbw1 := Below.next' hb1 hb2 hb1.size
  have hq1 := hq0.below hbw1
  have hbelw := hbel.trans (hbw1.mono (by omega))
  generalize (⟨(sha k.data.toList).toArray⟩ : ByteArray) = D at *
  clear hb1 hb2 kcv hq0 hbel
  go_wp2_with fail
  refine (follow_nil _ _).mono ?_
  rintro e w2 ⟨rfl, rfl⟩
  rename World => w2
  go_wp2_with fail
  have hal := Only.alloc_ w2 (.cells #[.slice none 0 0, .int .u8 0, .string ⟨#[]⟩, .slice none 0 0] 65) (fun _ => False)
  have hq2 := hq1.only hal id
  have hq3 := Bx.new w2 (.slice none 0 0) (.int .u8 0) (.string ⟨#[]⟩) (.slice none 0 0) 65
  have hz2 := hbw1.size
  have hbel3 := hbelw.alloc (by omega) (.cells #[.slice none 0 0, .int .u8 0, .string ⟨#[]⟩, .slice none 0 0] 65)
  clear hq1 hbelw hal hbw1
  generalize w2.alloc (.cells #[.slice none 0 0, .int .u8 0, .string ⟨#[]⟩, .slice none 0 0] 65) = w3 at *
  generalize w2.heap.size = b3 at *
  refine (leaf_nil _).mono ?_
  rintro e w4 ⟨rfl, rfl⟩
  rename World => w4
  obtain ⟨x0, x1, x2, x3, xf⟩ := hq3
  have xf1 := xf 1
  obtain ⟨y0, y1, y2, y3, yf⟩ := hq2
  have yf0 := yf 0
  have yf1 := yf 1
  have yf2 := yf 2
  have yf3 := yf 3
  have hq2 : Bx w4 b0 _ _ _ _ := ⟨y0, y1, y2, y3, yf⟩
  clear xf yf
  have hs1 := only_setB w4 ⟨b3, 1, none⟩ (.int .u8 0)
  obtain ⟨hf, hfo⟩ := (hq2.only hs1 (by show ¬ b0 = b3; omega)).set4 (.slice none 0 0) (.int .u8 0) (.string ⟨#[]⟩) (.slice none 0 0)
  go_wp2
  refine bodyPost_ret (v := .agg #[.slice none 0 0, .int .u8 0, .string ⟨#[]⟩, .slice none 0 0]) (by simp [results, Tryd.results41, go_sem, hf.c0, hf.c1, hf.c2, hf.c3]) rfl ⟨rfl, ?_⟩
  rw [HB0.out]
  exact hfo.below (hs1.below hbel3 (fun k (e : k = b3) => by omega) (by have := hq2.lt; omega)) (fun k e => by omega) (by have := hq2.lt; simp [World.setCell]; omega)

theorem penc_none : penc Pf.none = [0, 0, 0] := rfl
theorem pdec_zero : pdec [0, 0, 0] = (Pf.none, 0) := by
  rw [← penc_none]
  exact pdec_penc Pf.none (by simp [Pf.none]) (by simp [Pf.none]) (by simp [Pf.none]) (by simp [Pf.none, ByteArray.size]) (by simp [Pf.none]) (fun _ => rfl) (fun _ => rfl)
theorem pfat_none (w : World) : PfAt w (.agg #[.slice none 0 0, .int .u8 0, .string ⟨#[]⟩, .slice none 0 0]) Pf.none :=
  ⟨none, 0, none, 0, rfl, SegG.nil _ _, Seg.nil _ _, Nat.le_refl _, Nat.zero_le _, Nat.le_refl _, Nat.zero_le _⟩

end Go.Proofs.YtaanaoimnecenaaDoor
/-
  What each law of proofs asks first ('bare'); like, reads; the walk of the law ProofReads.
-/
namespace Go.Proofs.YtaanaoimnecenaaDoor
open Go.RowKit

theorem pdecode_zero (A : Option Addr) (c : Nat) (w : World) (hs : Seg w A 3 [0, 0, 0]) (hc : 3 ≤ c) (hcm : c ≤ maxLen) :
    Calls Tryd.prog 46 #[.slice A 3 c] w fun e w' => ∃ A1 c1 A2 c2, e = .returned (.tuple #[.agg #[.slice A1 0 c1, .int .u8 0, .string ⟨#[]⟩, .slice A2 0 c2], .int .i64 0]) ∧ PfAt w' (.agg #[.slice A1 0 c1, .int .u8 0, .string ⟨#[]⟩, .slice A2 0 c2]) Pf.none ∧ Below w.heap.size w w' := by
  have hd := pdecode_any A 3 c [0, 0, 0] w hs hc hcm (by omega) hs.lt
  rw [pdec_zero] at hd
  refine hd.mono ?_
  rintro e w3 ⟨v, rfl, ⟨v1, v2, rfl, hv1, hv2⟩, hb3⟩
  obtain ⟨A1, c1, rfl, ha1, h1, h2⟩ := hv1.forms
  obtain ⟨A2, c2, rfl, ha2, h3, h4⟩ := hv2.forms
  exact ⟨A1, c1, A2, c2, rfl, ⟨A1, c1, A2, c2, rfl, ha1, ha2, h1, h2, h3, h4⟩, hb3⟩

set_option maxRecDepth 4000 in
set_option maxHeartbeats 8000000 in
theorem bare_any (w : World) (ht : Tab w) :
    Calls Tryd.prog 37 #[] w fun e w' => e = .returned (.bool true) ∧ Below w.heap.size w w' := by
  go_enter Tryd.func37, Tryd.ntmps37
  go_wp2_with fail
  refine (build_nil _ _ (by decide) ht).mono ?_
  rintro e w1 ⟨rfl, hb1⟩
  have hq := (Bx.new w1 (.slice none 0 0) (.int .u8 0) (.string ⟨#[]⟩) (.slice none 0 0) 65).only (Only.alloc_ _ (.cells #[.int .u8 0, .int .u8 0, .int .u8 0] 5) (fun _ => False)) id
  have hz1 : (w1.alloc (.cells #[.slice none 0 0, .int .u8 0, .string ⟨#[]⟩, .slice none 0 0] 65)).heap.size = w1.heap.size + 1 := by simp
  have hsg := Seg.newAt (w1.alloc (.cells #[.slice none 0 0, .int .u8 0, .string ⟨#[]⟩, .slice none 0 0] 65)) [0, 0, 0] 5 #[.int .u8 0, .int .u8 0, .int .u8 0] (w1.heap.size + 1) 3 (by simp) rfl rfl
  have hbl := (hb1.alloc hb1.size (.cells #[.slice none 0 0, .int .u8 0, .string ⟨#[]⟩, .slice none 0 0] 65)).alloc (by have := hb1.size; rw [hz1]; omega) (.cells #[.int .u8 0, .int .u8 0, .int .u8 0] 5)
  have hz2 : ((w1.alloc (.cells #[.slice none 0 0, .int .u8 0, .string ⟨#[]⟩, .slice none 0 0] 65)).alloc (.cells #[.int .u8 0, .int .u8 0, .int .u8 0] 5)).heap.size = w1.heap.size + 2 := by simp
  have HQ := Lib.hid (And.intro hq (And.intro hsg (And.intro hbl hz2)))
  have hzb := hb1.size
  clear hq hsg hbl hz1 hz2 hb1
  go_wp2_with fail
  obtain ⟨hq, hsg, hbl, hz2⟩ := HQ.out
  clear HQ
  generalize (w1.alloc (.cells #[.slice none 0 0, .int .u8 0, .string ⟨#[]⟩, .slice none 0 0] 65)).alloc (.cells #[.int .u8 0, .int .u8 0, .int .u8 0] 5) = w2 at *
  generalize w1.heap.size = b1 at *
  refine (pdecode_zero (some ⟨b1 + 1, 0, none⟩) 3 w2 hsg (by omega) (by simp [maxLen])).mono ?_
  clear hsg
  rintro e w3 ⟨A1, c1, A2, c2, rfl, hat, hb3⟩
  have hq3 := hq.below hb3
  have hbw3 := Below.next' hbl hb3 (by omega)
  have hz3 := hb3.size
  clear hq hb3 hbl
  have hal := Only.alloc_ w3 (.cells #[.slice A1 0 c1, .int .u8 0, .string ⟨#[]⟩, .slice A2 0 c2] 65) (fun _ => False)
  have hblw := (Below.refl w3.heap.size w3).alloc (Nat.le_refl _) (.cells #[.slice A1 0 c1, .int .u8 0, .string ⟨#[]⟩, .slice A2 0 c2] 65)
  have hq4 := hq3.only hal id
  have hu4 := Bx.new w3 (.slice A1 0 c1) (.int .u8 0) (.string ⟨#[]⟩) (.slice A2 0 c2) 65
  have hat4 := hat.below hblw
  have hbw4 := Below.next' hbw3 hblw (by omega)
  have hz4 : (w3.alloc (.cells #[.slice A1 0 c1, .int .u8 0, .string ⟨#[]⟩, .slice A2 0 c2] 65)).heap.size = w3.heap.size + 1 := by simp
  have HQ := Lib.hid (And.intro hq4 (And.intro hu4 (And.intro hat4 (And.intro hbw4 hz4))))
  clear hq4 hu4 hat4 hbw4 hz4 hblw hal hat hbw3
  have hblt : b1 < w3.heap.size := hq3.lt
  obtain ⟨q0, q1, q2, q3, qf⟩ := hq3
  clear qf
  go_wp2_with fail
  obtain ⟨hq4, hu4, hat4, hbw4, hz4⟩ := HQ.out
  clear HQ q0 q1 q2 q3
  generalize w3.alloc (.cells #[.slice A1 0 c1, .int .u8 0, .string ⟨#[]⟩, .slice A2 0 c2] 65) = w4 at *
  generalize w3.heap.size = b3 at *
  refine (pencode_any _ Pf.none w4 (pfat_none _) (by simp [Pf.none]) (by simp [Pf.none]) (by simp [Pf.none, ByteArray.size]) (by simp [Pf.none]) (by simp [Pf.none])).mono ?_
  rw [penc_none]
  rintro e w5 ⟨v5, rfl, ho5, hb5⟩
  obtain ⟨A5, c5, rfl, hs5, _, _⟩ := ho5.forms
  have hs5 : Seg w5 A5 3 [0, 0, 0] := hs5
  have hq5 := hq4.below hb5
  have hu5 := hu4.below hb5
  have hat5 := hat4.below hb5
  have hbw5 := Below.next' hbw4 hb5 (by omega)
  have hz5 := hb5.size
  clear hq4 hu4 hat4 hbw4 hb5 ho5
  have hal := (Below.refl w5.heap.size w5).alloc (Nat.le_refl _) (.cells #[.int .u8 0, .int .u8 0, .int .u8 0] 5)
  have hsn := Seg.newAt w5 [0, 0, 0] 5 #[.int .u8 0, .int .u8 0, .int .u8 0] w5.heap.size 3 rfl rfl rfl
  have hs6 := hs5.below hal
  have hq6 := hq5.below hal
  have hu6 := hu5.below hal
  have hat6 := hat5.below hal
  have hbw6 := Below.next' hbw5 hal (by omega)
  have HQ := Lib.hid (And.intro hsn (And.intro hs6 (And.intro hq6 (And.intro hu6 (And.intro hat6 hbw6)))))
  clear hal hsn hs6 hq6 hu6 hat6 hbw6 hs5 hq5 hu5 hat5 hbw5
  go_wp2_with fail
  obtain ⟨hsn, hs6, hq6, hu6, hat6, hbw6⟩ := HQ.out
  clear HQ
  generalize w5.alloc (.cells #[.int .u8 0, .int .u8 0, .int .u8 0] 5) = w6 at *
  refine (bytes_any A5 _ 3 3 c5 _ [0, 0, 0] [0, 0, 0] w6 hs6 hsn (by simp [maxLen])).mono ?_
  rintro e w7 ⟨rfl, u, rfl⟩
  rw [show (([0, 0, 0] : List UInt8) == [0, 0, 0]) = true by decide]
  have hq7 := hq6.below (belD w6 u)
  have hu7 := hu6.below (belD w6 u)
  have hat7 := hat6.below (belD w6 u)
  have hbw7 := Below.next' hbw6 (belD w6 u) (by have := hbw6.size; omega)
  clear hsn hs6 hq6 hu6 hat6 hbw6
  generalize w6.drewN u = w7 at *
  obtain ⟨q0, q1, q2, q3, qf⟩ := hq7
  obtain ⟨u0, u1, u2, u3, uf⟩ := hu7
  clear qf uf
  go_wp2_with fail
  refine (psame_any _ _ Pf.none Pf.none true w7 (pfat_none _) hat7 (by simp [Pf.none]) (by simp [Pf.none]) (by simp)).mono ?_
  rintro e w8 ⟨rfl, hb8⟩
  go_wp2
  go_ret
  exact ⟨rfl, Below.next' hbw7 hb8 (by have := hbw7.size; omega)⟩

set_option maxHeartbeats 4000000 in
theorem like_any (v u : Value) (p q : Pf) (b : Bool) (w : World) (hv : PfAt w v p) (hu : PfAt w u q) (hn : p.side.length ≤ 1000000) (hm : p.row.length ≤ 1000000) (hlr : b = true ↔ p = q) :
    Calls Tryd.prog 40 #[v, u] w fun e w' => e = .returned (.bool b) ∧ Below w.heap.size w w' := by
  have hs := fun W (h : Below w.heap.size w W) => rpsame_any v u p q b W (hv.below h) (hu.below h) hn hm hlr
  obtain ⟨A, c, B, d, rfl, a1, a2, a3, a4, a5, a6⟩ := hv
  obtain ⟨A', c', B', d', rfl, b1, b2, b3, b4, b5, b6⟩ := hu
  have HS := Lib.hid hs
  clear hs a1 a2 b1 b2 hlr
  go_enter Tryd.func40, Tryd.ntmps40
  go_wp2_with fail
  have hbl := ((Below.refl w.heap.size w).alloc (Nat.le_refl _) (.cells #[.slice A p.side.length c, .int .u8 (p.k : Int), .string p.key, .slice B p.row.length d] 65)).alloc (by simp) (.cells #[.slice A' q.side.length c', .int .u8 (q.k : Int), .string q.key, .slice B' q.row.length d'] 67)
  refine (HS.out _ hbl).mono ?_
  rintro e w1 ⟨rfl, hb1⟩
  go_wp2
  go_ret
  exact ⟨rfl, Below.next' hbl hb1 hbl.size⟩

end Go.Proofs.YtaanaoimnecenaaDoor
