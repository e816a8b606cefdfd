/-
  Raw proofs by numbers: the walk of 'of'.
-/
import Derived.Test.YtaanaoimnecenaaDoorPL3
namespace Go.Proofs.YtaanaoimnecenaaDoor
open Go.RowKit

/-- A raw proof: its texts, its kind, its key, its row. -/
structure Raw where
  ss : List (List UInt8)
  k : Nat
  key : ByteArray
  row : List UInt8
def RawAt (w : World) (v : Value) (x : Raw) : Prop :=
  ∃ A n c B m d, v = .agg #[.slice A n c, .int .u8 (x.k : Int), .string x.key, .slice B m d] ∧ SegL w A n x.ss ∧ Seg w B m x.row ∧ n ≤ c ∧ c ≤ maxLen ∧ m ≤ d ∧ d ≤ maxLen ∧ x.k < 256 ∧ x.key.size ≤ maxLen
theorem RawAt.below {w w' : World} {v : Value} {x : Raw} (h : RawAt w v x) (hb : Below w.heap.size w w') : RawAt w' v x := by
  obtain ⟨A, n, c, B, m, d, e, h1, h2, h3⟩ := h
  exact ⟨A, n, c, B, m, d, e, h1.below hb, h2.below hb, h3⟩
def Raw.Few (x : Raw) : Prop := (∀ s ∈ x.ss, s.length ≤ 20) ∧ x.ss.length ≤ 20 ∧ x.key.size ≤ 40 ∧ x.row.length ≤ 40
def sums (ss : List (List UInt8)) : List ByteArray := ss.map fun s => ⟨(sha s).toArray⟩
def Raw.pf (x : Raw) : Pf := ⟨sums x.ss, x.k % 3, if x.k % 3 = 2 then x.key else ⟨#[]⟩, if 0 < x.k % 3 then x.row else []⟩
theorem sums_succ (ss : List (List UInt8)) (j : Nat) (h : j < ss.length) : sums (ss.take (j + 1)) = sums (ss.take j) ++ [⟨(sha ss[j]).toArray⟩] := by
  unfold sums
  rw [List.take_succ_eq_append_getElem h, List.map_append, List.map_singleton]

set_option maxHeartbeats 8000000 in
theorem few_any (v : Value) (x : Raw) (b : Bool) (w : World) (hv : RawAt w v x) (hb : b = true ↔ x.Few) :
    Calls Tryd.prog 43 #[v] w fun e w' => e = .returned (.bool b) ∧ Below w.heap.size w w' := by
  obtain ⟨A, n, c, B, m, d, rfl, ha, hr, hnc, hcm, hmd, hdm, hk, hkm⟩ := hv
  obtain ⟨ss, k, key, row⟩ := x
  dsimp only at *
  have HB := Lib.hid hb
  have HN := Lib.hid ha.1
  have HM := Lib.hid hr.1
  have hbw := (Below.refl w.heap.size w).alloc (Nat.le_refl _) (.cells #[.slice A n c, .int .u8 (k : Int), .string key, .slice B m d] 72)
  have HBW := Lib.hid hbw
  have ha1 := ha.below hbw
  have hq := Bx.new w (.slice A n c) (.int .u8 (k : Int)) (.string key) (.slice B m d) 72
  have HQ := Lib.hid hq
  unfold maxLen at hcm hdm hkm
  clear hb hbw hq ha hr
  go_enter Tryd.func43, Tryd.ntmps43
  go_wp2
  have hq := HQ.out
  have hbw := HBW.out
  clear HQ HBW
  obtain ⟨b0, hb0⟩ : ∃ b0, w.heap.size = b0 := ⟨_, rfl⟩
  rw [hb0] at hq ⊢
  have HB0 := Lib.hid hb0
  clear hb0
  generalize w.alloc (.cells #[.slice A n c, .int .u8 (k : Int), .string key, .slice B m d] 72) = w1 at *
  obtain ⟨y0, y1, y2, y3, yf⟩ := hq
  clear yf
  go_loop [3] (fun i => ∃ j : Nat, j ≤ n ∧ i = .int .i64 j ∧ ∀ s ∈ ss.take j, s.length ≤ 20) (fun i => n - (intOf i).toNat)
  case atStart => exact ⟨0, by omega, rfl, fun s hs => by simp at hs⟩
  case round =>
    obtain ⟨j, hj, rfl, hall⟩ := hrel
    by_cases hlt : j < n
    · have hjl : j < ss.length := by rw [HN.out]; exact hlt
      obtain ⟨gx, o, rfl, hc⟩ := ha1.2 (by omega)
      obtain ⟨C, q, cq, hcell, hsc, _, _⟩ := hc j _ (List.getElem?_eq_getElem hjl)
      have hql := hsc.1
      have hts : ss.take (j + 1) = ss.take j ++ [ss[j]] := List.take_succ_eq_append_getElem hjl
      have hmem : ss[j] ∈ ss := List.getElem_mem hjl
      have HT := Lib.hid hts
      have HA := Lib.hid hall
      have HME := Lib.hid hmem
      clear hts hall hmem hc
      generalize ss[j] = s at *
      by_cases h20 : 20 < q
      · have d1 : decide ((20 : Int) < (q : Int)) = true := decide_eq_true (by omega)
        go_wp2
        go_ret
        refine ⟨by rw [boolOf HB.out (fun hf => by have := hf.1 s HME.out; omega)]; rfl, by rw [HB0.out] at hbw ⊢; exact hbw⟩
      · have d1 : decide ((20 : Int) < (q : Int)) = false := decide_eq_false (by omega)
        go_wp2
        go_round
        case rel =>
          refine ⟨j + 1, by omega, by go_num, fun x hx => ?_⟩
          rw [HT.out, List.mem_append, List.mem_singleton] at hx
          rcases hx with hx | rfl
          · exact HA.out x hx
          · omega
        case measure => simp [intOf]; omega
    · have hall' : ∀ s ∈ ss, s.length ≤ 20 := by
        rw [List.take_of_length_le (by rw [HN.out]; omega)] at hall
        exact hall
      have HALL := Lib.hid hall'
      clear hall hall'
      by_cases h1 : n ≤ 20
      · have d1 : decide ((n : Int) ≤ 20) = true := decide_eq_true (by omega)
        by_cases h2 : key.size ≤ 40
        · have d2 : decide ((key.size : Int) ≤ 40) = true := decide_eq_true (by omega)
          by_cases h3 : m ≤ 40
          · have d3 : decide ((m : Int) ≤ 40) = true := decide_eq_true (by omega)
            go_wp2
            go_ret
            exact ⟨by rw [HB.out.2 ⟨HALL.out, by rw [HN.out]; exact h1, h2, by rw [HM.out]; exact h3⟩]; rfl, by rw [HB0.out] at hbw ⊢; exact hbw⟩
          · have d3 : decide ((m : Int) ≤ 40) = false := decide_eq_false (by omega)
            go_wp2
            go_ret
            exact ⟨by rw [boolOf HB.out (fun hf => h3 (by rw [← HM.out]; exact hf.2.2.2))]; rfl, by rw [HB0.out] at hbw ⊢; exact hbw⟩
        · have d2 : decide ((key.size : Int) ≤ 40) = false := decide_eq_false (by omega)
          go_wp2
          go_ret
          exact ⟨by rw [boolOf HB.out (fun hf => h2 hf.2.2.1)]; rfl, by rw [HB0.out] at hbw ⊢; exact hbw⟩
      · have d1 : decide ((n : Int) ≤ 20) = false := decide_eq_false (by omega)
        go_wp2
        go_ret
        exact ⟨by rw [boolOf HB.out (fun hf => h1 (by rw [← HN.out]; exact hf.2.1))]; rfl, by rw [HB0.out] at hbw ⊢; exact hbw⟩

end Go.Proofs.YtaanaoimnecenaaDoor
/-
  Raw proofs by numbers: how they lie in memory; of, few.
-/
namespace Go.Proofs.YtaanaoimnecenaaDoor
open Go.RowKit

theorem ownS_at {w : World} {base : Nat} {e : TypeId} {A : Option Addr} {n c : Nat} {l : List ByteArray} (h : OwnS w base e (.slice A n c) l) (hl : l.length = n) : SegS w A n l ∧ n ≤ c ∧ c ≤ maxLen := by
  obtain ⟨A', c', hv, hs, h1, h2⟩ := OwnG.forms h
  injection hv with e1 e2 e3
  subst e1 e3
  rw [hl] at hs h1
  exact ⟨hs, h1, h2⟩
theorem pfat_of {w : World} {A B : Option Addr} {n c m d k : Nat} {key : ByteArray} {ds : List ByteArray} {row : List UInt8} (h1 : SegS w A n ds) (h2 : Seg w B m row) (hn : ds.length = n) (hm : row.length = m) (h3 : n ≤ c) (h4 : c ≤ maxLen) (h5 : m ≤ d) (h6 : d ≤ maxLen) :
    PfAt w (.agg #[.slice A n c, .int .u8 (k : Int), .string key, .slice B m d]) ⟨ds, k, key, row⟩ := by
  subst hn hm
  exact ⟨A, c, B, d, rfl, h1, h2, h3, h4, h5, h6⟩
theorem three_box (w : World) (a0 a1 a2 a3 c0 c1 c2 c3 e0 e1 e2 e3 : Value) (t u v : TypeId) :
    Bx (((w.alloc (.cells #[a0, a1, a2, a3] t)).alloc (.cells #[c0, c1, c2, c3] u)).alloc (.cells #[e0, e1, e2, e3] v)) w.heap.size a0 a1 a2 a3 ∧
    Bx (((w.alloc (.cells #[a0, a1, a2, a3] t)).alloc (.cells #[c0, c1, c2, c3] u)).alloc (.cells #[e0, e1, e2, e3] v)) (w.heap.size + 1) c0 c1 c2 c3 ∧
    Bx (((w.alloc (.cells #[a0, a1, a2, a3] t)).alloc (.cells #[c0, c1, c2, c3] u)).alloc (.cells #[e0, e1, e2, e3] v)) (w.heap.size + 1 + 1) e0 e1 e2 e3 ∧
    Below w.heap.size w (((w.alloc (.cells #[a0, a1, a2, a3] t)).alloc (.cells #[c0, c1, c2, c3] u)).alloc (.cells #[e0, e1, e2, e3] v)) ∧
    (((w.alloc (.cells #[a0, a1, a2, a3] t)).alloc (.cells #[c0, c1, c2, c3] u)).alloc (.cells #[e0, e1, e2, e3] v)).heap.size = w.heap.size + 3 := by
  have z1 : (w.alloc (.cells #[a0, a1, a2, a3] t)).heap.size = w.heap.size + 1 := by simp
  have z2 : ((w.alloc (.cells #[a0, a1, a2, a3] t)).alloc (.cells #[c0, c1, c2, c3] u)).heap.size = w.heap.size + 1 + 1 := by simp
  have h1 := (Bx.new (w.alloc (.cells #[a0, a1, a2, a3] t)) c0 c1 c2 c3 u).only (Only.alloc_ _ (.cells #[e0, e1, e2, e3] v) (fun _ => False)) id
  have h2 := Bx.new ((w.alloc (.cells #[a0, a1, a2, a3] t)).alloc (.cells #[c0, c1, c2, c3] u)) e0 e1 e2 e3 v
  rw [z1] at h1
  rw [z2] at h2
  exact ⟨((Bx.new w a0 a1 a2 a3 t).only (Only.alloc_ _ (.cells #[c0, c1, c2, c3] u) (fun _ => False)) id).only (Only.alloc_ _ (.cells #[e0, e1, e2, e3] v) (fun _ => False)) id, h1, h2,
    (((Below.refl w.heap.size w).alloc (Nat.le_refl _) _).alloc (by rw [z1]; omega) _).alloc (by rw [z2]; omega) _, by simp⟩

set_option maxRecDepth 4000 in
set_option maxHeartbeats 8000000 in
theorem of_any' (v : Value) (x : Raw) (w : World) (hv : RawAt w v x) (hf : x.Few) :
    Calls Tryd.prog 44 #[v] w fun e w' => ∃ u, e = .returned u ∧ PfAt w' u x.pf ∧ Below w.heap.size w w' := by
  obtain ⟨A, n, c, B, m, d, rfl, ha, hr, hnc, hcm, hmd, hdm, hk, hkm⟩ := hv
  obtain ⟨ss, k, key, row⟩ := x
  obtain ⟨f1, f2, f3, f4⟩ := hf
  dsimp only at *
  have HN := Lib.hid ha.1
  have HRM := Lib.hid hr.1
  have HF1 := Lib.hid f1
  have HBL := Lib.hid (show 0 < m → ∀ a, B = some a → a.block < w.heap.size from hr.lt)
  obtain ⟨r, hrk⟩ : ∃ r, k % 3 = r := ⟨_, rfl⟩
  have hr3 : r < 3 := by omega
  have ht : (k : Int).tmod 3 = (r : Int) := by rw [Int.tmod_eq_emod_of_nonneg (by omega)]; omega
  have hm3 : (k : Int) % 3 = (r : Int) := by omega
  have hwr : IntKind.u8.wrap (r : Int) = (r : Int) := by
    have : r = 0 ∨ r = 1 ∨ r = 2 := by omega
    rcases this with rfl | rfl | rfl <;> rfl
  have HP := Lib.hid (show Raw.pf ⟨ss, k, key, row⟩ = ⟨sums ss, r, if r = 2 then key else ⟨#[]⟩, if 0 < r then row else []⟩ by unfold Raw.pf; rw [hrk])
  have H3 := Lib.hid (three_box w (.slice A n c) (.int .u8 (k : Int)) (.string key) (.slice B m d) (.slice none 0 0) (.int .u8 0) (.string ⟨#[]⟩) (.slice none 0 0) (.slice none 0 0) (.int .u8 (r : Int)) (.string ⟨#[]⟩) (.slice none 0 0) 72 65 65)
  have HMD := Lib.hid hmd
  have HDM := Lib.hid hdm
  have h0 := H3.out.2.2.2.1
  have ha0 := ha.below h0
  have hr0 := hr.below h0
  have HA0 := Lib.hid (And.intro ha hr)
  unfold maxLen at hcm hdm hkm
  clear ha hr f1 hrk h0 ha0 hr0
  go_enter Tryd.func44, Tryd.ntmps44
  go_wp2
  obtain ⟨hq1, hq2, hq3, hbel, hz⟩ := H3.out
  clear H3
  obtain ⟨b0, hb0⟩ : ∃ b0, w.heap.size = b0 := ⟨_, rfl⟩
  rw [hb0] at hq1 hq2 hq3 hbel hz HBL ⊢
  have HB0 := Lib.hid hb0
  clear hb0
  generalize (((w.alloc (.cells #[.slice A n c, .int .u8 (k : Int), .string key, .slice B m d] 72)).alloc (.cells #[.slice none 0 0, .int .u8 0, .string ⟨#[]⟩, .slice none 0 0] 65)).alloc (.cells #[.slice none 0 0, .int .u8 (r : Int), .string ⟨#[]⟩, .slice none 0 0] 65)) = w3 at *
  go_loopw [4] (fun i w' => ∃ (j : Nat) (v : Value), j ≤ n ∧ i = .int .i64 j ∧ Bx w' b0 (.slice A n c) (.int .u8 (k : Int)) (.string key) (.slice B m d) ∧ Bx w' (b0 + 1) (.slice none 0 0) (.int .u8 0) (.string ⟨#[]⟩) (.slice none 0 0) ∧ Bx w' (b0 + 1 + 1) v (.int .u8 (r : Int)) (.string ⟨#[]⟩) (.slice none 0 0) ∧
      OwnS w' (b0 + 3) 9 v (sums (ss.take j)) ∧ Only w3 w' (fun k => k = b0 + 1 + 1)) (fun i _ => n - (intOf i).toNat)
  case atStart => exact ⟨0, _, by omega, rfl, hq1, hq2, hq3, OwnG.nil _ _ _, Only.refl _ _⟩
  case round =>
    clear hq1 hq2 hq3
    obtain ⟨j, vv, hj, rfl, hq1, hq2, hq3, hov, hoo⟩ := hrel
    have hdl : (sums (ss.take j)).length = j := by unfold sums; rw [List.length_map, List.length_take, HN.out]; omega
    obtain ⟨Av, cv, hve, _, _, _⟩ := hov.forms
    rw [hdl] at hve
    subst hve
    have hbw : Below b0 w _ := hoo.below hbel (fun k e => by omega) (by omega)
    have hzz := hoo.size
    rename World => wl
    by_cases hlt : j < n
    · have hjl : j < ss.length := by rw [HN.out]; exact hlt
      have hbW : Below w.heap.size w wl := by rw [HB0.out]; exact hbw
      obtain ⟨gx, o, rfl, hc⟩ := HA0.out.1.2 (by omega)
      obtain ⟨C, q, cq, hcell, hsc, hqc, hcq⟩ := hc j _ (List.getElem?_eq_getElem hjl)
      have hql := hsc.1
      have hsu := sums_succ ss j hjl
      have hq20 : q ≤ 20 := by rw [← hql]; exact HF1.out _ (List.getElem_mem hjl)
      have hgx : gx < b0 := by
        have := World.block_lt_of_cell? w _ hcell
        have e := HB0.out
        simp only at this
        omega
      have hcw : wl.cell? ⟨gx, o + j, none⟩ = some (.slice C q cq) := cell_below hbW hcell
      have hsw : Seg wl C q (ss[j]) := hsc.below hbW
      have HSU := Lib.hid hsu
      have hclt : 0 < q → ∀ a, C = some a → a.block < b0 := fun hp a ha => by
        have := hsc.lt hp a ha
        have e := HB0.out
        omega
      clear hc hsu hcell hsc hbW hql
      generalize ss[j] = s at *
      obtain ⟨ds, hds⟩ : ∃ ds, sums (ss.take j) = ds := ⟨_, rfl⟩
      rw [hds] at hov hdl HSU
      clear hds
      have x0 := hq3.c0
      have x1 := hq1.c0
      have xf := hq3.fr 0
      go_wp2
      refine wp_region_noPanic (wp_region_till (fun W' => W'.cell? ⟨b0 + 1 + 1, 0, none⟩ = some (.slice Av j cv) ∧ W'.cell? ⟨b0, 0, none⟩ = some (.slice (some ⟨gx, o, none⟩) n c) ∧ W'.cell? ⟨gx, o + j, none⟩ = some (.slice C q cq)) 11 (by kernel_rfl) ?_)
      have hD := belD wl 1
      have hq1 := hq1.below hD
      have hq2 := hq2.below hD
      have hq3 := hq3.below hD
      have hov := hov.drewN 1
      have hoo := hoo.drewN 1
      have hsw := hsw.drewN 1
      have hzz1 : b0 + 3 ≤ (wl.drewN 1).heap.size := by show b0 + 3 ≤ wl.heap.size; omega
      have x0 : (wl.drewN 1).cell? ⟨b0 + 1 + 1, 0, none⟩ = some (.slice Av j cv) := x0
      have x1 : (wl.drewN 1).cell? ⟨b0, 0, none⟩ = some (.slice (some ⟨gx, o, none⟩) n c) := x1
      have x2 : (wl.drewN 1).cell? ⟨gx, o + j, none⟩ = some (.slice C q cq) := hcw
      change wpAnyT _ _ _ _ _ _ 12 _ _ (wl.drewN 1)
      clear hbw hzz hcw xf hD
      generalize wl.drewN 1 = w5 at *
      refine wpAnyT_take (i := 0) (v := .pointer (some ⟨b0 + 1 + 1, 0, none⟩)) rfl (by kernel_rfl) (fun _ _ _ h => h) ⟨x0, x1, x2⟩ (Or.inl ⟨rfl, fun W' hW => by obtain ⟨q0, q1, q2⟩ := hW; go_simp⟩) ?_
      refine wpAnyT_take (i := 1) (v := .slice Av j cv) rfl (by kernel_rfl) (fun _ _ _ h => h) ⟨x0, x1, x2⟩ (Or.inl ⟨rfl, fun W' hW => by obtain ⟨q0, q1, q2⟩ := hW; go_simp⟩) ?_
      refine wpAnyT_take (i := 2) (v := .pointer (some ⟨b0, 0, none⟩)) rfl (by kernel_rfl) (fun _ _ _ h => h) ⟨x0, x1, x2⟩ (Or.inl ⟨rfl, fun W' hW => by obtain ⟨q0, q1, q2⟩ := hW; go_simp⟩) ?_
      refine wpAnyT_take (i := 3) (v := .slice (some ⟨gx, o, none⟩) n c) rfl (by kernel_rfl) (fun _ _ _ h => h) ⟨x0, x1, x2⟩ (Or.inl ⟨rfl, fun W' hW => by obtain ⟨q0, q1, q2⟩ := hW; go_simp⟩) ?_
      refine wpAnyT_take (i := 4) (v := .int .i64 (j : Int)) rfl (by kernel_rfl) (fun _ _ _ h => h) ⟨x0, x1, x2⟩ (Or.inl ⟨rfl, fun W' hW => by obtain ⟨q0, q1, q2⟩ := hW; go_simp⟩) ?_
      refine wpAnyT_take (i := 5) (v := .pointer (some ⟨gx, o + j, none⟩)) rfl (by kernel_rfl) (fun _ _ _ h => h) ⟨x0, x1, x2⟩ (Or.inl ⟨rfl, fun W' hW => by obtain ⟨q0, q1, q2⟩ := hW; go_simp⟩) ?_
      refine wpAnyT_take (i := 6) (v := .slice C q cq) rfl (by kernel_rfl) (fun _ _ _ h => h) ⟨x0, x1, x2⟩ (Or.inl ⟨rfl, fun W' hW => by obtain ⟨q0, q1, q2⟩ := hW; go_simp⟩) ?_
      refine wpAnyT_step 7 rfl (by decide +kernel) ?_
      go_wp2_with fail
      refine (rsum_any C q cq s _ hsw (by omega)).mono ?_
      rintro e w6 ⟨rfl, hb6⟩
      have hq1 := hq1.below hb6
      have hq2 := hq2.below hb6
      have hq3 := hq3.below hb6
      have hov := hov.below hb6
      have hoo := hoo.trans (Only.of_below (S := fun _ => False) hb6) (fun _ _ h => h.elim)
      have x0 := cell_below hb6 x0
      have x1 := cell_below hb6 x1
      have x2 := cell_below hb6 x2
      have hz6 := hb6.size
      clear hsw hb6
      generalize hDg : (⟨(sha s).toArray⟩ : ByteArray) = D at *
      go_wp2_with fail
      refine ⟨.inr ⟨x0, x1, x2⟩, ?_⟩
      refine wpAnyT_step 8 rfl (by decide +kernel) ?_
      go_wp2_with fail
      have hal := Only.alloc_ w6 (.cells #[.string D] 9) (fun _ => False)
      refine ⟨.inr ⟨hal.cell x0 id, hal.cell x1 id, hal.cell x2 id⟩, ?_⟩
      have hov6 := hov.only hal (fun _ _ => id)
      refine wpAnyT_step 9 rfl (by decide +kernel) ?_
      refine wpList_append_G _ rfl (.tmp 17) (.tmp 24) _ _ _ _ strT rfl (b0 + 3) (.slice Av j cv) ds rfl hov6 _ 1 1 [D] rfl (SegG.newAt _ _ _ _ _ _ rfl rfl rfl) (by rw [hdl]; omega) (by simp; omega) ?_
      intro v7 w7 hv7 hg7 hat7
      have hon : Only w6 w7 (fun k => b0 + 3 ≤ k) := (hal.mono (fun _ _ h => h.elim)).trans (Only.of_grown (S := fun k => b0 + 3 ≤ k) hg7 (fun k hk => (hov6.lt k hk).1)) (fun _ _ h => h)
      have hq1 := hq1.only hon (by omega)
      have hq2 := hq2.only hon (by omega)
      have hq3 := hq3.only hon (by omega)
      have x0 := hq3.c0
      have xf := hq3.fr 0
      have x1 := hq1.c0
      have x2 := hon.cell x2 (by show ¬ b0 + 3 ≤ gx; omega)
      have hoo7 := hoo.trans hon (fun i hi h => by omega)
      clear hg7 hat7 hov6 hov hon hal hoo
      obtain ⟨A7, c7, hve, _, _, _⟩ := hv7.forms
      have hd7 : (ds ++ [D]).length = j + 1 := by rw [List.length_append, hdl]; rfl
      rw [hd7] at hve
      subst hve
      go_wp2_with fail
      refine ⟨.inr ⟨x0, x1, x2⟩, ?_⟩
      refine wpAnyT_step 10 rfl (by decide +kernel) ?_
      go_wp2_with fail
      refine ⟨.inr ⟨x0, x1, x2⟩, ?_⟩
      refine wpAnyT_step 11 rfl (by decide +kernel) ?_
      go_wp2_with fail
      refine ⟨.inl trivial, ?_⟩
      refine wpAnyT_done (by decide +kernel) (NoPanic.normal ?_)
      go_wp2
      go_roundw
      case rel =>
        have hs1 := only_setB w7 ⟨b0 + 1 + 1, 0, none⟩ (.slice A7 (j + 1) c7)
        refine ⟨j + 1, _, by omega, by go_num, hq1.only hs1 ?_, hq2.only hs1 ?_, hq3.set0 _, ?_, hoo7.trans hs1 ?_⟩
        · show ¬ b0 = b0 + 1 + 1
          omega
        · show ¬ b0 + 1 = b0 + 1 + 1
          omega
        · rw [HSU.out]
          refine hv7.only hs1 ?_
          intro k hk (e : k = b0 + 1 + 1)
          have := (hv7.lt k hk).1
          omega
        · exact fun _ _ h => h
      case measure => simp [intOf]; omega
    · have e : ss.take j = ss := List.take_of_length_le (by rw [HN.out]; omega)
      obtain rfl : n = j := by omega
      rw [e] at hov hdl
      obtain ⟨ds, hds⟩ : ∃ ds, sums ss = ds := ⟨_, rfl⟩
      rw [hds] at hov hdl HP
      have hsr : Seg wl B m row := HA0.out.2.below (by rw [HB0.out]; exact hbw)
      clear hds e hoo HA0
      have hr' : r = 0 ∨ r = 1 ∨ r = 2 := by omega
      rcases hr' with rfl | rfl | rfl
      · obtain ⟨z0, z1, z2, z3, zf⟩ := hq3
        have zf2 := zf 2
        have zf3 := zf 3
        obtain ⟨y0, y1, y2, y3, yf⟩ := hq1
        obtain ⟨x0, x1, x2, x3, xf⟩ := hq2
        have xf0 := xf 0
        have xf1 := xf 1
        have xf2 := xf 2
        have xf3 := xf 3
        have hm : Bx wl (b0 + 1) _ _ _ _ := ⟨x0, x1, x2, x3, xf⟩
        clear xf yf zf
        have hon := Only.refl wl (fun k => k = b0 + 1 + 1)
        obtain ⟨hf, hfo⟩ := hm.set4 (.slice Av n cv) (.int .u8 0) (.string ⟨#[]⟩) (.slice none 0 0)
        have hof : Only wl _ (fun k => k = b0 + 1 ∨ k = b0 + 1 + 1) := (hon.mono (fun _ _ h => .inr h)).trans hfo (fun i hi e => .inl e)
        have hov' := hov.only hof (fun k hk e => by have := (hov.lt k hk).1; omega)
        have hsg := ownS_at hov' hdl
        go_wp2
        refine bodyPost_ret (v := .agg #[.slice Av n cv, .int .u8 0, .string ⟨#[]⟩, (.slice none 0 0)]) (by simp [results, Tryd.results44, go_sem, hf.c0, hf.c1, hf.c2, hf.c3]) rfl ⟨_, rfl, ?_, ?_⟩
        · rw [HP.out]
          exact pfat_of hsg.1 (Seg.nil _ _) hdl rfl hsg.2.1 hsg.2.2 (Nat.le_refl _) (Nat.zero_le _)
        · rw [HB0.out]
          exact hof.below hbw (fun k e => by omega) (by have := hbw.size; omega)
      · obtain ⟨z0, z1, z2, z3, zf⟩ := hq3
        have zf2 := zf 2
        have zf3 := zf 3
        obtain ⟨y0, y1, y2, y3, yf⟩ := hq1
        obtain ⟨x0, x1, x2, x3, xf⟩ := hq2
        have xf0 := xf 0
        have xf1 := xf 1
        have xf2 := xf 2
        have xf3 := xf 3
        have hm : Bx wl (b0 + 1) _ _ _ _ := ⟨x0, x1, x2, x3, xf⟩
        clear xf yf zf
        have hon := Only.refl wl (fun k => k = b0 + 1 + 1)
        have hon := hon.setCell ⟨b0 + 1 + 1, 3, none⟩ (.slice B m d) (fun _ => rfl)
        have hm := hm.only (only_setB wl ⟨b0 + 1 + 1, 3, none⟩ (.slice B m d)) (by show ¬ b0 + 1 = b0 + 1 + 1; omega)
        obtain ⟨hf, hfo⟩ := hm.set4 (.slice Av n cv) (.int .u8 1) (.string ⟨#[]⟩) (.slice B m d)
        have hof : Only wl _ (fun k => k = b0 + 1 ∨ k = b0 + 1 + 1) := (hon.mono (fun _ _ h => .inr h)).trans hfo (fun i hi e => .inl e)
        have hov' := hov.only hof (fun k hk e => by have := (hov.lt k hk).1; omega)
        have hsg := ownS_at hov' hdl
        go_wp2
        refine bodyPost_ret (v := .agg #[.slice Av n cv, .int .u8 1, .string ⟨#[]⟩, (.slice B m d)]) (by simp [results, Tryd.results44, go_sem, hf.c0, hf.c1, hf.c2, hf.c3]) rfl ⟨_, rfl, ?_, ?_⟩
        · rw [HP.out]
          exact pfat_of hsg.1 (hsr.only hof (fun hp a ha e => by have := HBL.out hp a ha; omega)) hdl HRM.out hsg.2.1 hsg.2.2 HMD.out HDM.out
        · rw [HB0.out]
          exact hof.below hbw (fun k e => by omega) (by have := hbw.size; omega)
      · obtain ⟨z0, z1, z2, z3, zf⟩ := hq3
        have zf2 := zf 2
        have zf3 := zf 3
        obtain ⟨y0, y1, y2, y3, yf⟩ := hq1
        obtain ⟨x0, x1, x2, x3, xf⟩ := hq2
        have xf0 := xf 0
        have xf1 := xf 1
        have xf2 := xf 2
        have xf3 := xf 3
        have hm : Bx wl (b0 + 1) _ _ _ _ := ⟨x0, x1, x2, x3, xf⟩
        clear xf yf zf
        have hon := Only.refl wl (fun k => k = b0 + 1 + 1)
        have hon := hon.setCell ⟨b0 + 1 + 1, 2, none⟩ (.string key) (fun _ => rfl)
        have hm := hm.only (only_setB wl ⟨b0 + 1 + 1, 2, none⟩ (.string key)) (by show ¬ b0 + 1 = b0 + 1 + 1; omega)
        have hon := hon.setCell ⟨b0 + 1 + 1, 3, none⟩ (.slice B m d) (fun _ => rfl)
        have hm := hm.only (only_setB (wl.setCell ⟨b0 + 1 + 1, 2, none⟩ (.string key)) ⟨b0 + 1 + 1, 3, none⟩ (.slice B m d)) (by show ¬ b0 + 1 = b0 + 1 + 1; omega)
        obtain ⟨hf, hfo⟩ := hm.set4 (.slice Av n cv) (.int .u8 2) (.string key) (.slice B m d)
        have hof : Only wl _ (fun k => k = b0 + 1 ∨ k = b0 + 1 + 1) := (hon.mono (fun _ _ h => .inr h)).trans hfo (fun i hi e => .inl e)
        have hov' := hov.only hof (fun k hk e => by have := (hov.lt k hk).1; omega)
        have hsg := ownS_at hov' hdl
        go_wp2
        refine bodyPost_ret (v := .agg #[.slice Av n cv, .int .u8 2, .string key, (.slice B m d)]) (by simp [results, Tryd.results44, go_sem, hf.c0, hf.c1, hf.c2, hf.c3]) rfl ⟨_, rfl, ?_, ?_⟩
        · rw [HP.out]
          exact pfat_of hsg.1 (hsr.only hof (fun hp a ha e => by have := HBL.out hp a ha; omega)) hdl HRM.out hsg.2.1 hsg.2.2 HMD.out HDM.out
        · rw [HB0.out]
          exact hof.below hbw (fun k e => by omega) (by have := hbw.size; omega)


end Go.Proofs.YtaanaoimnecenaaDoor
