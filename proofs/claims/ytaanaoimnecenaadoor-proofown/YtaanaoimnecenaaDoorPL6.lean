/-
  The walk of the law ProofBack.
-/
import Derived.Test.YtaanaoimnecenaaDoorPL5
namespace Go.Proofs.YtaanaoimnecenaaDoor
open Go.RowKit

theorem few_ok {x : Raw} (h : x.Few) : x.pf.side.length ≤ 256 ∧ (∀ s ∈ x.pf.side, s.size = 32) ∧ x.pf.k ≤ 2 ∧ x.pf.key.size ≤ 4000 ∧ x.pf.row.length ≤ 4000 ∧ (x.pf.k ≠ 2 → x.pf.key = ⟨#[]⟩) ∧ (x.pf.k = 0 → x.pf.row = []) := by
  obtain ⟨f1, f2, f3, f4⟩ := h
  unfold Raw.pf
  refine ⟨?_, ?_, ?_, ?_, ?_, ?_, ?_⟩
  · show (sums x.ss).length ≤ 256
    unfold sums
    rw [List.length_map]
    omega
  · intro s hs
    have hs : s ∈ sums x.ss := hs
    unfold sums at hs
    rw [List.mem_map] at hs
    obtain ⟨t, _, rfl⟩ := hs
    exact sha_size t
  · show x.k % 3 ≤ 2
    omega
  · show (if x.k % 3 = 2 then x.key else ⟨#[]⟩ : ByteArray).size ≤ 4000
    split
    · omega
    · exact Nat.zero_le _
  · show (if 0 < x.k % 3 then x.row else []).length ≤ 4000
    split
    · omega
    · exact Nat.zero_le _
  · intro hk
    exact if_neg hk
  · intro hk
    have hk : x.k % 3 = 0 := hk
    exact if_neg (by omega)
theorem penc_len (p : Pf) (h1 : p.side.length ≤ 300) (h2 : ∀ s ∈ p.side, s.size ≤ 32) (h3 : p.key.size ≤ 4000) (h4 : p.row.length ≤ 5000) : (penc p).length ≤ 100000 := by
  have hc : ∀ ds : List ByteArray, (∀ s ∈ ds, s.size ≤ 32) → (cat ds).length ≤ 32 * ds.length := by
    intro ds h
    induction ds with
    | nil => exact Nat.le_refl _
    | cons s ds ih =>
      have h1 := ih fun t ht => h t (List.mem_cons_of_mem _ ht)
      have h2 := h s (List.mem_cons_self ..)
      show (s.data.toList ++ cat ds).length ≤ _
      rw [List.length_append, List.length_cons]
      have : s.data.toList.length = s.size := by simp
      omega
  have := hc p.side h2
  have hk : p.key.data.toList.length = p.key.size := by simp
  unfold penc
  split
  · simp only [List.length_append, high_length, ptext, List.length_singleton]
    omega
  · split
    · simp only [List.length_append, high_length, ptext, List.length_singleton]
      omega
    · simp only [List.length_append, high_length, List.length_singleton, List.length_nil]
      omega

set_option maxRecDepth 4000 in
set_option maxHeartbeats 16000000 in
theorem proofBack_core (A : Option Addr) (n c : Nat) (B : Option Addr) (m d : Nat) (x : Raw) (w : World) (hv : RawAt w (.agg #[.slice A n c, .int .u8 (x.k : Int), .string x.key, .slice B m d]) x) (hf : x.Few) (ht : Tab w) :
    Calls Tryd.prog 9 #[.agg #[.slice A n c, .int .u8 (x.k : Int), .string x.key, .slice B m d]] w fun e w' => e = .returned (.bool true) ∧ Below w.heap.size w w' := by
  have hok := few_ok hf
  obtain ⟨p, hp⟩ : ∃ p, x.pf = p := ⟨_, rfl⟩
  rw [hp] at hok
  have HP := Lib.hid hp
  have HO := Lib.hid hok
  have hd := pdec_penc p hok.1 hok.2.1 hok.2.2.1 hok.2.2.2.1 hok.2.2.2.2.1 hok.2.2.2.2.2.1 hok.2.2.2.2.2.2
  have hel := penc_len p (by omega) (fun s hs => by rw [hok.2.1 s hs]; omega) (by omega) (by omega)
  obtain ⟨E, hE⟩ : ∃ E, penc p = E := ⟨_, rfl⟩
  rw [hE] at hd hel
  have HE := Lib.hid hE
  have HD := Lib.hid hd
  have HEL := Lib.hid hel
  clear hp hok hd hel hE
  go_enter Tryd.func9, Tryd.ntmps9
  have hbw := Below.refl w.heap.size w
  have hal := (Below.refl w.heap.size w).alloc (Nat.le_refl _) (.cells #[.slice A n c, .int .u8 (x.k : Int), .string x.key, .slice B m d] 72)
  have hv := hv.below hal
  have hbw := Below.next' hbw hal hbw.size
  have hq0 := Bx.new w (.slice A n c) (.int .u8 (x.k : Int)) (.string x.key) (.slice B m d) 72
  clear hal
  have HS := Lib.hid (And.intro hv (And.intro hbw hq0))
  clear hv hbw hq0
  go_wp2_with fail
  obtain ⟨hv, hbw, hq0⟩ := HS.out
  clear HS
  generalize w.alloc (.cells #[.slice A n c, .int .u8 (x.k : Int), .string x.key, .slice B m d] 72) = w0 at *
  obtain ⟨b0, hb0⟩ : ∃ b0, w.heap.size = b0 := ⟨_, rfl⟩
  rw [hb0] at hq0 ⊢
  have HB0 := Lib.hid hb0
  clear hb0
  refine (bare_any _ (Tab.below ht hbw)).mono ?_
  rintro e w1 ⟨rfl, hb⟩
  have hv := hv.below hb
  have hbw := Below.next' hbw hb hbw.size
  have hq0 := hq0.below hb
  clear hb
  have HS := Lib.hid (And.intro hv (And.intro hbw hq0))
  clear hv hbw hq0
  have hq := HS.out.2.2
  obtain ⟨q0, q1, q2, q3, qf⟩ := hq
  clear qf
  go_wp2_with fail
  obtain ⟨hv, hbw, hq0⟩ := HS.out
  clear HS
  clear q0 q1 q2 q3
  refine (few_any _ x true _ hv (by simp [hf])).mono ?_
  rintro e w2 ⟨rfl, hb⟩
  have hv := hv.below hb
  have hbw := Below.next' hbw hb hbw.size
  have hq0 := hq0.below hb
  clear hb
  have HS := Lib.hid (And.intro hv (And.intro hbw hq0))
  clear hv hbw hq0
  have hq := HS.out.2.2
  obtain ⟨q0, q1, q2, q3, qf⟩ := hq
  clear qf
  go_wp2_with fail
  obtain ⟨hv, hbw, hq0⟩ := HS.out
  clear HS
  clear q0 q1 q2 q3
  refine (of_any' _ x _ hv hf).mono ?_
  rintro e w3 ⟨u, rfl, hu, hb⟩
  have hv := hv.below hb
  have hbw := Below.next' hbw hb hbw.size
  have hq0 := hq0.below hb
  clear hb hv hq0
  rw [HP.out] at hu
  obtain ⟨A1, c1, B1, d1, rfl, f1, f2, f3, f4, f5, f6⟩ := hu
  have hu : PfAt w3 (.agg #[.slice A1 p.side.length c1, .int .u8 (p.k : Int), .string p.key, .slice B1 p.row.length d1]) p := ⟨A1, c1, B1, d1, rfl, f1, f2, f3, f4, f5, f6⟩
  clear f1 f2 f3 f4 f5 f6
  have hal := (Below.refl w3.heap.size w3).alloc (Nat.le_refl _) (.cells #[.slice A1 p.side.length c1, .int .u8 (p.k : Int), .string p.key, .slice B1 p.row.length d1] 65)
  have hbw := Below.next' hbw hal hbw.size
  have hu := hu.below hal
  have hq1 := Bx.new w3 (.slice A1 p.side.length c1) (.int .u8 (p.k : Int)) (.string p.key) (.slice B1 p.row.length d1) 65
  clear hal
  have HS := Lib.hid (And.intro hbw (And.intro hu hq1))
  clear hbw hu hq1
  go_wp2_with fail
  obtain ⟨hbw, hu, hq1⟩ := HS.out
  clear HS
  generalize w3.alloc (.cells #[.slice A1 p.side.length c1, .int .u8 (p.k : Int), .string p.key, .slice B1 p.row.length d1] 65) = w4 at *
  generalize w3.heap.size = b1 at *
  refine (pencode_any _ p _ hu (by have := HO.out.1; omega) (fun s hs => by rw [HO.out.2.1 s hs]; omega) (by have := HO.out.2.2.2.1; omega) (by have := HO.out.2.2.2.2.1; omega) (by have := HO.out.2.2.1; omega)).mono ?_
  rintro e w5 ⟨v5, rfl, ho5, hb⟩
  have hbw := Below.next' hbw hb hbw.size
  have hu := hu.below hb
  have hq1 := hq1.below hb
  clear hb
  rw [HE.out] at ho5
  obtain ⟨A5, c5, rfl, hs5, hc5, hm5⟩ := ho5.forms
  clear ho5
  have hblt := hq1.lt
  have HS := Lib.hid (And.intro hbw (And.intro hu (And.intro hq1 hs5)))
  clear hbw hu hq1 hs5
  go_wp2_with fail
  obtain ⟨hbw, hu, hq1, hs5⟩ := HS.out
  clear HS
  refine (pdecode_any A5 _ c5 E _ hs5 hc5 hm5 (by have := HEL.out; omega) hs5.lt).mono ?_
  rw [HD.out]
  rintro e w6 ⟨u6, rfl, hw6, hb⟩
  have hbw := Below.next' hbw hb hbw.size
  have hu := hu.below hb
  have hq1 := hq1.below hb
  have hs5 := hs5.below hb
  clear hb hblt
  have hx6 := hw6.at_
  clear hw6
  obtain ⟨A2, c2, B2, d2, rfl, f1, f2, f3, f4, f5, f6⟩ := hx6
  have hx6 : PfAt w6 (.agg #[.slice A2 p.side.length c2, .int .u8 (p.k : Int), .string p.key, .slice B2 p.row.length d2]) p := ⟨A2, c2, B2, d2, rfl, f1, f2, f3, f4, f5, f6⟩
  clear f1 f2 f3 f4 f5 f6
  have hal := (Below.refl w6.heap.size w6).alloc (Nat.le_refl _) (.cells #[.slice A2 p.side.length c2, .int .u8 (p.k : Int), .string p.key, .slice B2 p.row.length d2] 65)
  have hbw := Below.next' hbw hal hbw.size
  have hu := hu.below hal
  have hq1 := hq1.below hal
  have hs5 := hs5.below hal
  have hx6 := hx6.below hal
  have hq2 := Bx.new w6 (.slice A2 p.side.length c2) (.int .u8 (p.k : Int)) (.string p.key) (.slice B2 p.row.length d2) 65
  clear hal
  have HS := Lib.hid (And.intro hbw (And.intro hu (And.intro hq1 (And.intro hs5 (And.intro hx6 hq2)))))
  clear hbw hu hq1 hs5 hx6 hq2
  go_wp2_with fail
  obtain ⟨hbw, hu, hq1, hs5, hx6, hq2⟩ := HS.out
  clear HS
  generalize w6.alloc (.cells #[.slice A2 p.side.length c2, .int .u8 (p.k : Int), .string p.key, .slice B2 p.row.length d2] 65) = w7 at *
  generalize w6.heap.size = b2 at *
  refine (rpdecode_any A5 _ c5 E _ hs5 hc5 hm5 (by have := HEL.out; omega)).mono ?_
  rw [HD.out]
  rintro e w8 ⟨u8, rfl, hw8, hb⟩
  have hbw := Below.next' hbw hb hbw.size
  have hu := hu.below hb
  have hq1 := hq1.below hb
  have hs5 := hs5.below hb
  have hx6 := hx6.below hb
  have hq2 := hq2.below hb
  clear hb
  have hx8 := hw8.at_
  clear hw8
  obtain ⟨A3, c3, B3, d3, rfl, f1, f2, f3, f4, f5, f6⟩ := hx8
  have hx8 : PfAt w8 (.agg #[.slice A3 p.side.length c3, .int .u8 (p.k : Int), .string p.key, .slice B3 p.row.length d3]) p := ⟨A3, c3, B3, d3, rfl, f1, f2, f3, f4, f5, f6⟩
  clear f1 f2 f3 f4 f5 f6
  have hl1 := hq1.lt
  have hl2 := hq2.lt
  have r1 := hq1
  have r2 := hq2
  have hal := (Below.refl w8.heap.size w8).alloc (Nat.le_refl _) (.cells #[.slice A3 p.side.length c3, .int .u8 (p.k : Int), .string p.key, .slice B3 p.row.length d3] 67)
  have hbw := Below.next' hbw hal hbw.size
  have hu := hu.below hal
  have hq1 := hq1.below hal
  have hs5 := hs5.below hal
  have hx6 := hx6.below hal
  have hq2 := hq2.below hal
  have hx8 := hx8.below hal
  have hq3 := Bx.new w8 (.slice A3 p.side.length c3) (.int .u8 (p.k : Int)) (.string p.key) (.slice B3 p.row.length d3) 67
  clear hal
  have HS := Lib.hid (And.intro hbw (And.intro hu (And.intro hq1 (And.intro hs5 (And.intro hx6 (And.intro hq2 (And.intro hx8 hq3)))))))
  clear hbw hu hq1 hs5 hx6 hq2 hx8 hq3
  obtain ⟨y0, y1, y2, y3, yf⟩ := r1
  clear yf
  obtain ⟨z0, z1, z2, z3, zf⟩ := r2
  clear zf
  go_wp2_with fail
  obtain ⟨hbw, hu, hq1, hs5, hx6, hq2, hx8, hq3⟩ := HS.out
  clear HS
  clear y0 y1 y2 y3 z0 z1 z2 z3 hl1 hl2
  generalize w8.alloc (.cells #[.slice A3 p.side.length c3, .int .u8 (p.k : Int), .string p.key, .slice B3 p.row.length d3] 67) = w9 at *
  generalize w8.heap.size = b3 at *
  refine (psame_any _ _ p p true _ hx6 hu (by have := HO.out.1; omega) (by have := HO.out.2.2.2.2.1; omega) (by simp)).mono ?_
  rintro e w10 ⟨rfl, hb⟩
  have hbw := Below.next' hbw hb hbw.size
  have hu := hu.below hb
  have hq1 := hq1.below hb
  have hs5 := hs5.below hb
  have hx6 := hx6.below hb
  have hq2 := hq2.below hb
  have hx8 := hx8.below hb
  have hq3 := hq3.below hb
  clear hb
  have r2 := hq2
  have r3 := hq3
  have HS := Lib.hid (And.intro hbw (And.intro hu (And.intro hq1 (And.intro hs5 (And.intro hx6 (And.intro hq2 (And.intro hx8 hq3)))))))
  clear hbw hu hq1 hs5 hx6 hq2 hx8 hq3
  obtain ⟨y0, y1, y2, y3, yf⟩ := r2
  clear yf
  obtain ⟨z0, z1, z2, z3, zf⟩ := r3
  clear zf
  go_wp2_with fail
  obtain ⟨hbw, hu, hq1, hs5, hx6, hq2, hx8, hq3⟩ := HS.out
  clear HS
  clear y0 y1 y2 y3 z0 z1 z2 z3
  refine (like_any _ _ p p true _ hx6 hx8 (by have := HO.out.1; omega) (by have := HO.out.2.2.2.2.1; omega) (by simp)).mono ?_
  rintro e w11 ⟨rfl, hb⟩
  have hbw := Below.next' hbw hb hbw.size
  have hu := hu.below hb
  have hq1 := hq1.below hb
  have hs5 := hs5.below hb
  have hx6 := hx6.below hb
  have hq2 := hq2.below hb
  have hx8 := hx8.below hb
  have hq3 := hq3.below hb
  clear hb
  have r3 := hq3
  have HS := Lib.hid (And.intro hbw (And.intro hu (And.intro hq1 (And.intro hs5 (And.intro hx6 (And.intro hq2 (And.intro hx8 hq3)))))))
  clear hbw hu hq1 hs5 hx6 hq2 hx8 hq3
  obtain ⟨z0, z1, z2, z3, zf⟩ := r3
  clear zf
  go_wp2_with fail
  obtain ⟨hbw, hu, hq1, hs5, hx6, hq2, hx8, hq3⟩ := HS.out
  clear HS
  clear z0 z1 z2 z3
  refine (rpencode_any _ p _ hx8 (by have := HO.out.1; omega) (fun s hs => by rw [HO.out.2.1 s hs]; omega) (by have := HO.out.2.2.2.1; omega) (by have := HO.out.2.2.2.2.1; omega) (by have := HO.out.2.2.1; omega)).mono ?_
  rintro e w12 ⟨v12, rfl, ho12, hb⟩
  have hbw := Below.next' hbw hb hbw.size
  have hu := hu.below hb
  have hq1 := hq1.below hb
  have hs5 := hs5.below hb
  have hx6 := hx6.below hb
  have hq2 := hq2.below hb
  have hx8 := hx8.below hb
  have hq3 := hq3.below hb
  clear hb
  rw [HE.out] at ho12
  obtain ⟨A12, c12, rfl, hs12, hc12, hm12⟩ := ho12.forms
  clear ho12
  go_wp2_with fail
  refine (bytes_any A5 A12 _ _ c5 c12 E E _ hs5 hs12 (by have := HEL.out; simp only [maxLen]; omega)).mono ?_
  rintro e w13 ⟨rfl, q, rfl⟩
  rw [show (E == E) = true by simp]
  go_wp2
  go_ret
  refine ⟨rfl, ?_⟩
  rw [HB0.out] at hbw ⊢
  exact ⟨hbw.os, hbw.tape, hbw.output, hbw.size, hbw.block⟩

theorem proofBack_walk (v : Value) (x : Raw) (w : World) (hv : RawAt w v x) (ht : Tab w) :
    Calls Tryd.prog 9 #[v] w fun e w' => e = .returned (.bool true) ∧ Below w.heap.size w w' := by
  obtain ⟨A, n, c, B, m, d, rfl, h1, h2, h3, h4, h5, h6, h7, h8⟩ := hv
  have hv : RawAt w (.agg #[.slice A n c, .int .u8 (x.k : Int), .string x.key, .slice B m d]) x := ⟨A, n, c, B, m, d, rfl, h1, h2, h3, h4, h5, h6, h7, h8⟩
  clear h1 h2 h3 h4 h5 h6 h7 h8
  by_cases hf : x.Few
  · exact proofBack_core A n c B m d x w hv hf ht
  · have hbw := (Below.refl w.heap.size w).alloc (Nat.le_refl _) (.cells #[.slice A n c, .int .u8 (x.k : Int), .string x.key, .slice B m d] 72)
    have hq := Bx.new w (.slice A n c) (.int .u8 (x.k : Int)) (.string x.key) (.slice B m d) 72
    have hv1 := hv.below hbw
    have HS := Lib.hid (And.intro hv1 (And.intro hbw hq))
    clear hbw hq hv1
    go_enter Tryd.func9, Tryd.ntmps9
    go_wp2_with fail
    obtain ⟨hv1, hbw, hq⟩ := HS.out
    clear HS
    generalize w.alloc (.cells #[.slice A n c, .int .u8 (x.k : Int), .string x.key, .slice B m d] 72) = w0 at *
    obtain ⟨b0, hb0⟩ : ∃ b0, w.heap.size = b0 := ⟨_, rfl⟩
    rw [hb0] at hq ⊢
    have HB0 := Lib.hid hb0
    clear hb0
    refine (bare_any _ (Tab.below ht hbw)).mono ?_
    rintro e w1 ⟨rfl, hb⟩
    have hv1 := hv1.below hb
    have hq := hq.below hb
    have hbw := Below.next' hbw hb hbw.size
    obtain ⟨q0, q1, q2, q3, qf⟩ := hq
    clear qf hb
    have HS := Lib.hid (And.intro hv1 hbw)
    clear hv1 hbw
    go_wp2_with fail
    obtain ⟨hv1, hbw⟩ := HS.out
    refine (few_any _ x false _ hv1 (by simp [hf])).mono ?_
    rintro e w2 ⟨rfl, hb⟩
    have hbw := Below.next' hbw hb hbw.size
    clear hb q0 q1 q2 q3 hv1 HS
    go_wp2_with fail
    refine (bare_any _ (Tab.below ht hbw)).mono ?_
    rintro e w3 ⟨rfl, hb⟩
    have hbw := Below.next' hbw hb hbw.size
    go_wp2
    go_ret
    refine ⟨rfl, ?_⟩
    rw [HB0.out] at hbw ⊢
    exact hbw

end Go.Proofs.YtaanaoimnecenaaDoor
